import PyProof.Rows.All
import Wide.All
import OpenK.AllK
import Wide.FinOn
import HandS.ForMost
import HandS.Exc
import HandS.TryOnly
import HandS.ExcOwn
import HandS.ExcBuiltin
import HandS.WordsExc
import HandS.IsInst
import HandS.Defaults
import HandS.Star
import HandS.Flow
import HandS.Wide
import HandS.Gcd
import HandS.Evl
import HandS.CallSlots
import KE.KExcSuper
import HandS.ExcInit
import HandS.FStr
import HandS.ExcIs
import HandS.ExcField
import KE.KExcIs
import KE.KOpsOwn
import KE.KCallOwn
import HandS.OwnEq
import PyProof.ListMulRight
import HandS.Codes
import HandS.SlotsOwn
import PyProof.Rows.TmSorted
import PyProof.Rows.StrMeet
import HandS.Walk
import HandS.RaiseMore
import HandS.TupAny
import HandS.Conv
import PyProof.Rows.StrDigitsNeg
import HandS.Zip
import HandS.DictComp
import KE.KDictWalk
import HandS.TupLen
import HandS.Deep
import HandS.SortRule
import HandS.Sort
import HandS.DictEq
import HandS.HotCalls
import KE.KDictCopyH
import HandS.DictTup
import KE.KDictDisplayH
import PyProof.DictMoreH
import PyProof.StrLawsRepr
import PySem.Challenge.RW_metehouse_k39_tables_made_and_stopped
set_option Elab.async false
set_option linter.all false
set_option maxRecDepth 100000
set_option maxHeartbeats 4000000
namespace My
open PySem PySem.Spec PyProof.Rows L2 StX
/-! ### rules of my own -/
section
variable {X : Cx}
/-- floor division by any divisor that is not 0, below 2 ^ 9000 in size -/
theorem op_fdivWN : OpR X (binaryOp .FloorDiv) (rI (fun _ j => j ≠ 0 ∧ j.natAbs.log2 < 9000) fun i j => .int (i.fdiv j)) :=
  opI fun _ _ _ _ _ _ _ hc q => floordiv_int hc.1 q (.inl (PyProof.noPylong_of_log2 hc.2))
theorem op_mulG : OpR X (binaryOp .Mult) (rI (fun i j => CMul i j ∨ CMulW i j) fun i j => .int (i * j)) := opI fun _ _ _ _ _ _ _ hc q => mul_int q (hc.elim CMul.ok CMulW.ok)
variable {CX : CXT} {k : Nat} {f : Addr} {sp : Sp} {E : XK} {x : Str} {p pos : Pos} {e : Expr} {es : List Expr} {t : TA}
/-- a call of a def whose promise is told raw -/
theorem pe_callR (F : FnR X.prog X.w X.K X.mg X.base CX k f sp) (hr : Room k X.A) (hg : Gl X x) (hm : X.mg x = some (.ref f)) (hk : PySem.W.keepIn X.K (.ref f) = true) (hx : Passes CX X E)
    (ha : PA X (e :: es) t) (hdb : (x == ("__debug__" : Str)) = false := by decide) (he : starEach (e :: es) X.env = (false, eval e X.env) :: starEach es X.env := by rfl) (hpl : (backTo pos (starEach es X.env)).any (·.1) = false := by rfl) :
    PE X (.Call (.Name x p) (e :: es) [] pos) (fun σ H Q => t σ H fun vs H1 => sp vs H1 Q E) := by
  refine ⟨fun pins s σ H Q I h => ?_⟩
  refine wpAny_Call_Name_kw (ld_glob I hg hm ?_ hdb)
  refine PySem.W.callWith_K (h₀ := X.base) I.ok.mod.kin hk (thn (ha.run pos pins s σ H _ I h) fun us s1 ⟨vs, H1, I1, r, q⟩ => ⟨I1.kIn, ?_⟩) he hpl
  exact wpAny_call (run_fnR F hr hx I1 r q)
theorem pe_callR0 (F : FnR X.prog X.w X.K X.mg X.base CX k f sp) (hr : Room k X.A) (hg : Gl X x) (hm : X.mg x = some (.ref f)) (hk : PySem.W.keepIn X.K (.ref f) = true) (hx : Passes CX X E)
    (hdb : (x == ("__debug__" : Str)) = false := by decide) : PE X (.Call (.Name x p) [] [] pos) (fun σ H Q => sp [] H Q E) := by
  refine ⟨fun pins s σ H Q I h => ?_⟩
  refine wpAny_Call_Name_kw (ld_glob I hg hm ?_ hdb)
  exact PySem.W.callWith_K0 I.kIn hk (wpAny_call (run_fnR (us := []) F hr hx I .nil h))
end
section
variable {P : Program} {w : World} {K : PySem.W.Frag} {mg : Str → Option Value} {base : Heap}
/-- def f(a, .., *v) that lets nothing out -/
theorem Fun.okStar {x qual : Str} {st : Stmt} {f : Addr} {fd : FuncData} {N ps : List Str} {pv : Str} {k : Nat} {sp : Sp} (F : Fun K x qual st f fd) (S : FnScope N (ps ++ [pv]) (defScope st))
    (hb : ∀ (kV doc pm : Value) (an : Option Addr) (cdv ct : Value) (us rest : List Value), us.length = ps.length → bindArgs (PySem.W.fnOf x qual (defArgs st) (defBody st) (defScope st) .none kV doc pm an cdv ct) ⟨us ++ rest, []⟩ = (newTuple rest >>= fun t => pure (ps.zip us ++ [(pv, t)])))
    (hbody : ∀ (cdv : Value) (A : Around) (outer : List Env) (s : Shared) (H : Hp) (vs : List V) (Q : VK) (E : XK), Room k (A.deeper (envOfC qual (defScope st) s.heap.objs.size f cdv)) → sp vs H Q E →
      ∃ t, PSs (cxOf CX0 P w K mg base N qual (defScope st) f cdv A outer s H E).nox (defBody st) t ∧ t { nx := fun _ H' => Q .non H', rt := Q } (start N vs) H) :
    FnR P w K mg base CX0 (k + 1) f (fun vs H Q E => ∃ ws rest, vs = ws ++ rest ∧ ws.length = ps.length ∧ rest.length ≤ sizeLine ∧ ∀ p, H p = Option.none → sp (ws ++ [V.ref p]) (upd H p (.tup rest)) Q E) := by
  obtain ⟨oc, od, kV, doc, pm, an, cdv, ct, osl, rfl, lk, hcd⟩ := F.ex
  refine fn_star lk hcd S cxUp_none (hb kV doc pm an cdv ct) fun A outer s H vs Q E hr hsp => ?_
  obtain ⟨t, h, q⟩ := hbody cdv A outer s H vs Q E hr hsp
  exact ⟨t, h.nox, q⟩
end
/-! ### heaps: what is kept but at some addresses -/
def Keep (M : List Addr) (H H' : Hp) : Prop := ∀ b o, b ∉ M → H b = some o → H' b = some o
theorem Keep.refl (M : List Addr) (H : Hp) : Keep M H H := fun _ _ _ h => h
theorem Keep.trans {M : List Addr} {H H1 H2 : Hp} (a : Keep M H H1) (b : Keep M H1 H2) : Keep M H H2 := fun c o n h => b c o n (a c o n h)
theorem Keep.new {M : List Addr} {H : Hp} {p : Addr} {o : HO} (h : H p = none) : Keep M H (upd H p o) := fun b u _ e => by
  rw [upd_ne (ne_of_none e h)]; exact e
theorem Keep.at {M : List Addr} {H : Hp} {p : Addr} {o : HO} (h : p ∈ M) : Keep M H (upd H p o) := fun b u n e => by
  rw [upd_ne (fun z => n (by rw [z]; exact h))]; exact e
/-- an object that H does not know may change -/
theorem Keep.mut {M : List Addr} {H H' : Hp} {p : Addr} {o : HO} (e : Keep M H H') (h : H p = none) : Keep M H (upd H' p o) := fun b u n hb => by
  rw [upd_ne (ne_of_none hb h)]; exact e b u n hb
theorem Keep.mono {M N : List Addr} {H H' : Hp} (e : Keep M H H') (h : ∀ a ∈ M, a ∈ N) : Keep N H H' := fun b o n hb => e b o (fun z => n (h b z)) hb
theorem Keep.rd {M : List Addr} {H H' : Hp} {a : Addr} {u : HO} (e : Keep M H H') (n : a ∉ M) (h : Rd H a u) : Rd H' a u := by
  rcases h with h | ⟨o, h⟩
  · exact Or.inl (e a _ n h)
  · exact Or.inr ⟨o, e a _ n h⟩
theorem Keep.l {M : List Addr} {K : PySem.W.Frag} {H H' : Hp} {a : Addr} {xs : List V} (e : Keep M H H') (n : a ∉ M) (h : SqL K H a xs) : SqL K H' a xs := by
  rcases h with h | h
  · exact Or.inl (e.rd n h)
  · exact Or.inr h
theorem Keep.t {M : List Addr} {K : PySem.W.Frag} {H H' : Hp} {a : Addr} {xs : List V} (e : Keep M H H') (n : a ∉ M) (h : SqT K H a xs) : SqT K H' a xs := by
  rcases h with h | h
  · exact Or.inl (e.rd n h)
  · exact Or.inr h
theorem Keep.free {M : List Addr} {H H' : Hp} (e : Keep M H H') {l : Addr} (n : l ∉ M) (h : H' l = Option.none) : H l = Option.none := by
  cases q : H l with
  | none => rfl
  | some o => rw [e l o n q] at h; cases h
/-- an address that is untracked later, though tracked addresses stay (M's own, too) -/
theorem ne_free {H : Hp} {a p : Addr} {o : HO} (h : H a = some o) (n : H p = none) : p ≠ a := fun e => by rw [e, h] at n; cases n
theorem sqL_of {K : PySem.W.Frag} {H : Hp} {a : Addr} {xs : List V} (h : H a = some (.lst xs)) : SqL K H a xs := Or.inl (Or.inl h)
theorem sqT_of {K : PySem.W.Frag} {H : Hp} {a : Addr} {xs : List V} (h : H a = some (.tup xs)) : SqT K H a xs := Or.inl (Or.inl h)
theorem le_size {n : Nat} (h : n ≤ 100000) : n ≤ sizeLine := Nat.le_trans h (by decide)
theorem lt_size {n : Nat} (h : n < 100000) : n < sizeLine := Nat.lt_of_lt_of_le h (by decide)
theorem ixN_nn {n j : Nat} (h : j < n) : ixN n (j : Int) = some j := by
  unfold ixN; rw [if_pos (by omega), if_pos (by omega), Int.toNat_natCast]
theorem cxOf_K {CX : CXT} {P : Program} {w : World} {K : PySem.W.Frag} {mg : Str → Option Value} {base : Heap} {N : List Str} {qual : Str} {scope : Scope} {f : Addr} {cd : Value} {A : Around} {outer : List Env} {s : Shared} {H : Hp} {E : XK} :
    (cxOf CX P w K mg base N qual scope f cd A outer s H E).K = K := rfl
/-! ### readings, by the head of their terms -/
section
variable {K : PySem.W.Frag} {σ : L2.St} {H : Hp} {Q : VK} {QA : List V → Hp → Prop} {QB : Bool → Hp → Prop} {QO : Option Int → Hp → Prop} {D : Ends} {ta tb te tc : TE} {t u : TT} {ts tr : TS} {r : R2} {v x y : V} {G : TG} {tas : TA}
theorem r_nxE {a b d : L2.St → Hp → Prop} {c : VK} (k : a σ H) : Ends.nx ⟨a, c, b, d⟩ σ H := k
theorem r_bkE {a b d : L2.St → Hp → Prop} {c : VK} (k : b σ H) : Ends.bk ⟨a, c, b, d⟩ σ H := k
theorem r_ctE {a b d : L2.St → Hp → Prop} {c : VK} (k : d σ H) : Ends.ct ⟨a, c, b, d⟩ σ H := k
theorem r_rtE {a b d : L2.St → Hp → Prop} {c : VK} (k : c v H) : Ends.rt ⟨a, c, b, d⟩ v H := k
theorem r_var {i : Nat} (h : σ[i]? = some (some v)) (k : Q v H) : tVar i σ H Q := ⟨v, h, k⟩
theorem r_c (k : Q v H) : tC v σ H Q := k
theorem r_op (k : ta σ H fun x H1 => tb σ H1 fun y H2 => r x y H2 Q) : tOp r ta tb σ H Q := k
theorem r_un {r : V → Hp → VK → Prop} (k : ta σ H fun x H1 => r x H1 Q) : tUn r ta σ H Q := k
theorem r_I0 {g : Int → Int → V} {i j : Int} (k : Q (g i j) H) : rI0 g (.int i) (.int j) H Q := ⟨i, j, rfl, rfl, k⟩
theorem r_I {C : Int → Int → Prop} {g : Int → Int → V} {i j : Int} (c : C i j) (k : Q (g i j) H) : rI C g (.int i) (.int j) H Q := ⟨i, j, rfl, rfl, c, k⟩
theorem r_U {g : Int → V} {i : Int} (k : Q (g i) H) : rU g (.int i) H Q := ⟨i, rfl, k⟩
theorem dec_int {i j : Int} : decide (V.int i = V.int j) = decide (i = j) := by
  by_cases h : i = j
  · subst h; simp
  · rw [decide_eq_false h, decide_eq_false (fun e => h (V.int.inj e))]
theorem dec_str {i j : Str} : decide (V.str i = V.str j) = decide (i = j) := by
  by_cases h : i = j
  · subst h; simp
  · rw [decide_eq_false h, decide_eq_false (fun e => h (V.str.inj e))]
theorem dec_bl {i j : Bool} : decide (V.bl i = V.bl j) = decide (i = j) := by
  by_cases h : i = j
  · subst h; simp
  · rw [decide_eq_false h, decide_eq_false (fun e => h (V.bl.inj e))]
theorem r_eqI {i j : Int} (k : Q (.bl (decide (i = j))) H) : rEq (.int i) (.int j) H Q := ⟨rfl, by rw [dec_int]; exact k⟩
theorem r_neI {i j : Int} (k : Q (.bl (!decide (i = j))) H) : rNe (.int i) (.int j) H Q := ⟨rfl, by rw [dec_int]; exact k⟩
theorem r_eqS {i j : Str} (k : Q (.bl (decide (i = j))) H) : rEq (.str i) (.str j) H Q := ⟨rfl, by rw [dec_str]; exact k⟩
theorem r_neS {i j : Str} (k : Q (.bl (!decide (i = j))) H) : rNe (.str i) (.str j) H Q := ⟨rfl, by rw [dec_str]; exact k⟩
theorem r_eqB {i j : Bool} (k : Q (.bl (decide (i = j))) H) : rEq (.bl i) (.bl j) H Q := ⟨rfl, by rw [dec_bl]; exact k⟩
theorem r_neB {i j : Bool} (k : Q (.bl (!decide (i = j))) H) : rNe (.bl i) (.bl j) H Q := ⟨rfl, by rw [dec_bl]; exact k⟩
theorem r_test (k : te σ H fun x H' => ∃ k, x = .bl k ∧ QB k H') : tTest te σ H QB := k
theorem r_tB (k : te σ H fun x H' => ∃ k, x = .bl k ∧ QB k H') : tB te σ H QB := k
theorem r_bl {b : Bool} {P : Bool → Prop} (k : P b) : ∃ c, V.bl b = .bl c ∧ P c := ⟨b, rfl, k⟩
theorem r_and (k : t σ H fun c H1 => if c = true then u σ H1 QB else QB false H1) : tAnd t u σ H QB := k
theorem r_or (k : t σ H fun c H1 => if c = true then QB true H1 else u σ H1 QB) : tOr t u σ H QB := k
theorem r_not (k : t σ H fun c H1 => QB (!c) H1) : tNot t σ H QB := k
theorem r_andV (k : ta σ H fun x H1 => ∃ c, x = .bl c ∧ if c = true then tb σ H1 Q else Q (.bl false) H1) : tAndV ta tb σ H Q := k
theorem r_orV (k : ta σ H fun x H1 => ∃ c, x = .bl c ∧ if c = true then Q (.bl true) H1 else tb σ H1 Q) : tOrV ta tb σ H Q := k
theorem r_notV (k : ta σ H fun x H1 => ∃ c, x = .bl c ∧ Q (.bl (!c)) H1) : tNotV ta σ H Q := k
theorem r_if (k : t σ H fun c H1 => if c = true then ta σ H1 Q else tb σ H1 Q) : tIf t ta tb σ H Q := k
theorem r_chain {r' : R2} (k : ta σ H fun x H1 => tb σ H1 fun y H2 => r x y H2 fun z H3 => ∃ k, z = .bl k ∧ (if k = true then tc σ H3 fun w' H4 => r' y w' H4 Q else Q (.bl false) H3)) : tChain r r' ta tb tc σ H Q := k
theorem r_seq (k : ts { D with nx := tr D } σ H) : tSeq ts tr D σ H := k
theorem r_asg (k : te σ H fun x H1 => G x σ H1 D.nx) : tAsg te G D σ H := k
theorem r_gName {i : Nat} {Q : L2.St → Hp → Prop} (k : Q (σ.set i (some v)) H) : gName i v σ H Q := k
theorem r_gName0 {x0 : Option V} {Q : L2.St → Hp → Prop} (k : Q (some v :: σ) H) : gName 0 v (x0 :: σ) H Q := k
theorem r_gName1 {x0 x1 : Option V} {Q : L2.St → Hp → Prop} (k : Q (x0 :: some v :: σ) H) : gName 1 v (x0 :: x1 :: σ) H Q := k
theorem r_gName2 {x0 x1 x2 : Option V} {Q : L2.St → Hp → Prop} (k : Q (x0 :: x1 :: some v :: σ) H) : gName 2 v (x0 :: x1 :: x2 :: σ) H Q := k
theorem r_gName3 {x0 x1 x2 x3 : Option V} {Q : L2.St → Hp → Prop} (k : Q (x0 :: x1 :: x2 :: some v :: σ) H) : gName 3 v (x0 :: x1 :: x2 :: x3 :: σ) H Q := k
theorem r_gName4 {x0 x1 x2 x3 x4 : Option V} {Q : L2.St → Hp → Prop} (k : Q (x0 :: x1 :: x2 :: x3 :: some v :: σ) H) : gName 4 v (x0 :: x1 :: x2 :: x3 :: x4 :: σ) H Q := k
theorem r_gName5 {x0 x1 x2 x3 x4 x5 : Option V} {Q : L2.St → Hp → Prop} (k : Q (x0 :: x1 :: x2 :: x3 :: x4 :: some v :: σ) H) : gName 5 v (x0 :: x1 :: x2 :: x3 :: x4 :: x5 :: σ) H Q := k
theorem r_gName6 {x0 x1 x2 x3 x4 x5 x6 : Option V} {Q : L2.St → Hp → Prop} (k : Q (x0 :: x1 :: x2 :: x3 :: x4 :: x5 :: some v :: σ) H) : gName 6 v (x0 :: x1 :: x2 :: x3 :: x4 :: x5 :: x6 :: σ) H Q := k
theorem r_gName7 {x0 x1 x2 x3 x4 x5 x6 x7 : Option V} {Q : L2.St → Hp → Prop} (k : Q (x0 :: x1 :: x2 :: x3 :: x4 :: x5 :: x6 :: some v :: σ) H) : gName 7 v (x0 :: x1 :: x2 :: x3 :: x4 :: x5 :: x6 :: x7 :: σ) H Q := k
theorem r_gName8 {x0 x1 x2 x3 x4 x5 x6 x7 x8 : Option V} {Q : L2.St → Hp → Prop} (k : Q (x0 :: x1 :: x2 :: x3 :: x4 :: x5 :: x6 :: x7 :: some v :: σ) H) : gName 8 v (x0 :: x1 :: x2 :: x3 :: x4 :: x5 :: x6 :: x7 :: x8 :: σ) H Q := k
theorem r_gName9 {x0 x1 x2 x3 x4 x5 x6 x7 x8 x9 : Option V} {Q : L2.St → Hp → Prop} (k : Q (x0 :: x1 :: x2 :: x3 :: x4 :: x5 :: x6 :: x7 :: x8 :: some v :: σ) H) : gName 9 v (x0 :: x1 :: x2 :: x3 :: x4 :: x5 :: x6 :: x7 :: x8 :: x9 :: σ) H Q := k
theorem r_gName10 {x0 x1 x2 x3 x4 x5 x6 x7 x8 x9 x10 : Option V} {Q : L2.St → Hp → Prop} (k : Q (x0 :: x1 :: x2 :: x3 :: x4 :: x5 :: x6 :: x7 :: x8 :: x9 :: some v :: σ) H) : gName 10 v (x0 :: x1 :: x2 :: x3 :: x4 :: x5 :: x6 :: x7 :: x8 :: x9 :: x10 :: σ) H Q := k
theorem r_gName11 {x0 x1 x2 x3 x4 x5 x6 x7 x8 x9 x10 x11 : Option V} {Q : L2.St → Hp → Prop} (k : Q (x0 :: x1 :: x2 :: x3 :: x4 :: x5 :: x6 :: x7 :: x8 :: x9 :: x10 :: some v :: σ) H) : gName 11 v (x0 :: x1 :: x2 :: x3 :: x4 :: x5 :: x6 :: x7 :: x8 :: x9 :: x10 :: x11 :: σ) H Q := k
theorem r_gName12 {x0 x1 x2 x3 x4 x5 x6 x7 x8 x9 x10 x11 x12 : Option V} {Q : L2.St → Hp → Prop} (k : Q (x0 :: x1 :: x2 :: x3 :: x4 :: x5 :: x6 :: x7 :: x8 :: x9 :: x10 :: x11 :: some v :: σ) H) : gName 12 v (x0 :: x1 :: x2 :: x3 :: x4 :: x5 :: x6 :: x7 :: x8 :: x9 :: x10 :: x11 :: x12 :: σ) H Q := k
theorem r_gName13 {x0 x1 x2 x3 x4 x5 x6 x7 x8 x9 x10 x11 x12 x13 : Option V} {Q : L2.St → Hp → Prop} (k : Q (x0 :: x1 :: x2 :: x3 :: x4 :: x5 :: x6 :: x7 :: x8 :: x9 :: x10 :: x11 :: x12 :: some v :: σ) H) : gName 13 v (x0 :: x1 :: x2 :: x3 :: x4 :: x5 :: x6 :: x7 :: x8 :: x9 :: x10 :: x11 :: x12 :: x13 :: σ) H Q := k
theorem r_gName14 {x0 x1 x2 x3 x4 x5 x6 x7 x8 x9 x10 x11 x12 x13 x14 : Option V} {Q : L2.St → Hp → Prop} (k : Q (x0 :: x1 :: x2 :: x3 :: x4 :: x5 :: x6 :: x7 :: x8 :: x9 :: x10 :: x11 :: x12 :: x13 :: some v :: σ) H) : gName 14 v (x0 :: x1 :: x2 :: x3 :: x4 :: x5 :: x6 :: x7 :: x8 :: x9 :: x10 :: x11 :: x12 :: x13 :: x14 :: σ) H Q := k
theorem r_gName15 {x0 x1 x2 x3 x4 x5 x6 x7 x8 x9 x10 x11 x12 x13 x14 x15 : Option V} {Q : L2.St → Hp → Prop} (k : Q (x0 :: x1 :: x2 :: x3 :: x4 :: x5 :: x6 :: x7 :: x8 :: x9 :: x10 :: x11 :: x12 :: x13 :: x14 :: some v :: σ) H) : gName 15 v (x0 :: x1 :: x2 :: x3 :: x4 :: x5 :: x6 :: x7 :: x8 :: x9 :: x10 :: x11 :: x12 :: x13 :: x14 :: x15 :: σ) H Q := k
theorem r_gName16 {x0 x1 x2 x3 x4 x5 x6 x7 x8 x9 x10 x11 x12 x13 x14 x15 x16 : Option V} {Q : L2.St → Hp → Prop} (k : Q (x0 :: x1 :: x2 :: x3 :: x4 :: x5 :: x6 :: x7 :: x8 :: x9 :: x10 :: x11 :: x12 :: x13 :: x14 :: x15 :: some v :: σ) H) : gName 16 v (x0 :: x1 :: x2 :: x3 :: x4 :: x5 :: x6 :: x7 :: x8 :: x9 :: x10 :: x11 :: x12 :: x13 :: x14 :: x15 :: x16 :: σ) H Q := k
theorem r_gName17 {x0 x1 x2 x3 x4 x5 x6 x7 x8 x9 x10 x11 x12 x13 x14 x15 x16 x17 : Option V} {Q : L2.St → Hp → Prop} (k : Q (x0 :: x1 :: x2 :: x3 :: x4 :: x5 :: x6 :: x7 :: x8 :: x9 :: x10 :: x11 :: x12 :: x13 :: x14 :: x15 :: x16 :: some v :: σ) H) : gName 17 v (x0 :: x1 :: x2 :: x3 :: x4 :: x5 :: x6 :: x7 :: x8 :: x9 :: x10 :: x11 :: x12 :: x13 :: x14 :: x15 :: x16 :: x17 :: σ) H Q := k
theorem r_gName18 {x0 x1 x2 x3 x4 x5 x6 x7 x8 x9 x10 x11 x12 x13 x14 x15 x16 x17 x18 : Option V} {Q : L2.St → Hp → Prop} (k : Q (x0 :: x1 :: x2 :: x3 :: x4 :: x5 :: x6 :: x7 :: x8 :: x9 :: x10 :: x11 :: x12 :: x13 :: x14 :: x15 :: x16 :: x17 :: some v :: σ) H) : gName 18 v (x0 :: x1 :: x2 :: x3 :: x4 :: x5 :: x6 :: x7 :: x8 :: x9 :: x10 :: x11 :: x12 :: x13 :: x14 :: x15 :: x16 :: x17 :: x18 :: σ) H Q := k
theorem r_gName19 {x0 x1 x2 x3 x4 x5 x6 x7 x8 x9 x10 x11 x12 x13 x14 x15 x16 x17 x18 x19 : Option V} {Q : L2.St → Hp → Prop} (k : Q (x0 :: x1 :: x2 :: x3 :: x4 :: x5 :: x6 :: x7 :: x8 :: x9 :: x10 :: x11 :: x12 :: x13 :: x14 :: x15 :: x16 :: x17 :: x18 :: some v :: σ) H) : gName 19 v (x0 :: x1 :: x2 :: x3 :: x4 :: x5 :: x6 :: x7 :: x8 :: x9 :: x10 :: x11 :: x12 :: x13 :: x14 :: x15 :: x16 :: x17 :: x18 :: x19 :: σ) H Q := k
theorem r_ret (k : te σ H D.rt) : tRet te D σ H := k
theorem r_retN (k : D.rt .non H) : tRetN D σ H := k
theorem r_drop (k : te σ H fun _ H1 => D.nx σ H1) : tDrop te D σ H := k
theorem r_ifS (k : t σ H fun b H1 => if b = true then ts D σ H1 else tr D σ H1) : tIfS t ts tr D σ H := k
theorem r_next (k : D.nx σ H) : tNext D σ H := k
theorem r_cont (k : D.ct σ H) : tCont D σ H := k
theorem r_break (k : D.bk σ H) : tBreak D σ H := k
theorem r_cb {r : List V → Hp → VK → Prop} (k : tas σ H fun vs H1 => r vs H1 Q) : tCB r tas σ H Q := k
theorem r_cons (k : ta σ H fun x H1 => tas σ H1 fun xs H2 => QA (x :: xs) H2) : tCons ta tas σ H QA := k
theorem r_nil (k : QA [] H) : tNil σ H QA := k
theorem r_call {sp : Sp} {dvs : List V} {E : XK} (k : tas σ H fun vs H1 => sp (vs ++ dvs) H1 Q E) : tCall sp dvs E tas σ H Q := k
theorem r_lst (k : tas σ H fun xs H1 => xs.length ≤ sizeLine ∧ ∀ p, H1 p = none → Q (.ref p) (upd H1 p (.lst xs))) : tLst tas σ H Q := k
theorem r_tup (k : tas σ H fun xs H1 => xs.length ≤ sizeLine ∧ ∀ p, H1 p = none → Q (.ref p) (upd H1 p (.tup xs))) : tTup tas σ H Q := k
theorem r_ixL {p : Addr} {xs : List V} {i : Int} (h : SqL K H p xs) (h2 : atI xs i = some v) (k : Q v H) : rIxL K (.ref p) (.int i) H Q := ⟨p, xs, i, v, rfl, rfl, h, h2, k⟩
theorem r_ixT {p : Addr} {xs : List V} {i : Int} (h : SqT K H p xs) (h2 : atI xs i = some v) (k : Q v H) : rIxT K (.ref p) (.int i) H Q := ⟨p, xs, i, v, rfl, rfl, h, h2, k⟩
theorem r_gSub {to ti : TE} {s : TSet} {Q : L2.St → Hp → Prop} (k : to σ H fun o H1 => ti σ H1 fun i H2 => s o i v H2 fun H3 => Q σ H3) : gSub to ti s v σ H Q := k
theorem r_setL {p : Addr} {xs : List V} {i : Int} {j : Nat} {Q : Hp → Prop} (h : H p = some (.lst xs)) (h2 : ixN xs.length i = some j) (k : Q (upd H p (.lst (xs.set j v)))) : rSetL (.ref p) (.int i) v H Q := ⟨p, xs, i, j, rfl, rfl, h, h2, k⟩
theorem r_setP0 {p : Addr} {x0 : V} {xs : List V} {Q : Hp → Prop} (h : H p = some (.lst (x0 :: xs))) (k : Q (upd H p (.lst (v :: xs)))) : rSetL (.ref p) (.int 0) v H Q := ⟨p, _, 0, 0, rfl, rfl, h, ixN_nn (j := 0) (by simp), k⟩
theorem r_setP1 {p : Addr} {x0 x1 : V} {xs : List V} {Q : Hp → Prop} (h : H p = some (.lst (x0 :: x1 :: xs))) (k : Q (upd H p (.lst (x0 :: v :: xs)))) : rSetL (.ref p) (.int 1) v H Q := ⟨p, _, 1, 1, rfl, rfl, h, ixN_nn (j := 1) (by simp), k⟩
theorem r_setP2 {p : Addr} {x0 x1 x2 : V} {xs : List V} {Q : Hp → Prop} (h : H p = some (.lst (x0 :: x1 :: x2 :: xs))) (k : Q (upd H p (.lst (x0 :: x1 :: v :: xs)))) : rSetL (.ref p) (.int 2) v H Q := ⟨p, _, 2, 2, rfl, rfl, h, ixN_nn (j := 2) (by simp), k⟩
theorem r_setP3 {p : Addr} {x0 x1 x2 x3 : V} {xs : List V} {Q : Hp → Prop} (h : H p = some (.lst (x0 :: x1 :: x2 :: x3 :: xs))) (k : Q (upd H p (.lst (x0 :: x1 :: x2 :: v :: xs)))) : rSetL (.ref p) (.int 3) v H Q := ⟨p, _, 3, 3, rfl, rfl, h, ixN_nn (j := 3) (by simp), k⟩
theorem r_cut (M : L2.St → Hp → Prop) (h : ts { D with nx := M } σ H) (k : ∀ σ' H', M σ' H' → tr D σ' H') : Evl.tCut ts tr D σ H := ⟨M, h, k⟩
theorem r_sl {r : V → Option Int → Option Int → Hp → VK → Prop} {tl th : TO} (k : te σ H fun x H1 => tl σ H1 fun l H2 => th σ H2 fun u H3 => r x l u H3 Q) : tSl r te tl th σ H Q := k
theorem r_ite {p : Prop} {_i : Decidable p} {A B : Prop} (h1 : p → A) (h2 : ¬ p → B) : if decide p = true then A else B := by
  by_cases h : p
  · rw [if_pos (decide_eq_true h)]; exact h1 h
  · rw [if_neg (by rw [decide_eq_false h]; decide)]; exact h2 h
theorem r_iteN {p : Prop} {_i : Decidable p} {A B : Prop} (h1 : ¬ p → A) (h2 : p → B) : if (!decide p) = true then A else B := by
  by_cases h : p
  · rw [if_neg (by rw [decide_eq_true h]; decide)]; exact h2 h
  · rw [if_pos (by rw [decide_eq_false h]; rfl)]; exact h1 h
theorem r_iteT {p : Prop} [Decidable p] {A B : Prop} (h : p) (k : A) : if decide p = true then A else B := by
  rw [if_pos (decide_eq_true h)]; exact k
theorem r_iteF {p : Prop} [Decidable p] {A B : Prop} (h : ¬ p) (k : B) : if decide p = true then A else B := by
  rw [if_neg (by rw [decide_eq_false h]; decide)]; exact k
theorem r_iteNT {p : Prop} [Decidable p] {A B : Prop} (h : ¬ p) (k : A) : if (!decide p) = true then A else B := by
  rw [if_pos (by rw [decide_eq_false h]; rfl)]; exact k
theorem r_iteNF {p : Prop} [Decidable p] {A B : Prop} (h : p) (k : B) : if (!decide p) = true then A else B := by
  rw [if_neg (by rw [decide_eq_true h]; decide)]; exact k
theorem r_iteb {b : Bool} {A B : Prop} (h1 : b = true → A) (h2 : b = false → B) : if b = true then A else B := by
  cases b with
  | true => rw [if_pos rfl]; exact h1 rfl
  | false => rw [if_neg (by decide)]; exact h2 rfl
theorem r_itebN {b : Bool} {A B : Prop} (h1 : b = false → A) (h2 : b = true → B) : if (!b) = true then A else B := by
  cases b with
  | true => exact (if_neg (by decide : ¬ (!true) = true)).mpr (h2 rfl)
  | false => exact (if_pos (by decide : (!false) = true)).mpr (h1 rfl)
theorem r_int1 {i : Int} {F : Int → Prop} {G : Bool → Prop} (k : F i) : (∃ j, [V.int i] = [.int j] ∧ F j) ∨ ∃ b, [V.int i] = [.bl b] ∧ G b := .inl ⟨i, rfl, k⟩
theorem r_intB {b : Bool} {F : Int → Prop} {G : Bool → Prop} (k : G b) : (∃ j, [V.bl b] = [.int j] ∧ F j) ∨ ∃ c, [V.bl b] = [.bl c] ∧ G c := .inr ⟨b, rfl, k⟩
theorem r_lenL {p : Addr} {xs : List V} {F : List V → Prop} (h : SqL K H p xs) (k : F xs) : ∃ q ys, [V.ref p] = [.ref q] ∧ (SqL K H q ys ∨ SqT K H q ys) ∧ F ys := ⟨p, xs, rfl, .inl h, k⟩
theorem r_lenT {p : Addr} {xs : List V} {F : List V → Prop} (h : SqT K H p xs) (k : F xs) : ∃ q ys, [V.ref p] = [.ref q] ∧ (SqL K H q ys ∨ SqT K H q ys) ∧ F ys := ⟨p, xs, rfl, .inr h, k⟩
theorem abs_if {i : Int} : (if i < 0 then -i else i) = (i.natAbs : Int) := by split <;> omega
theorem max_if {i j : Int} : (if j > i then j else i) = max i j := by split <;> omega
theorem r_in1 {i : Int} {F : Int → Prop} (k : F i) : ∃ j, [V.int i] = [.int j] ∧ F j := ⟨i, rfl, k⟩
theorem r_in2 {i j : Int} {F : Int → Int → Prop} (k : F i j) : ∃ a b, [V.int i, V.int j] = [.int a, .int b] ∧ F a b := ⟨i, j, rfl, k⟩
theorem r_isi {x : V} {T : String} {b : Bool} {ty : String} (ty1 : TyX K H x (.type ty)) (h : kitB ty T = some b) (k : Q (.bl b) H) : rIsi K [x, .ty T] H Q :=
  ⟨x, .ty T, .type ty, .type T, b, rfl, .ty T, ty1, kit_ty h, k⟩
end
/-! ### loops -/
def ForR1 (G : TG) (ts : TS) (D : Ends) (σ : L2.St) (vs : List V) (H : Hp) : Prop := ∃ j : Int, vs = [.int j] ∧ -(2 ^ 62) ≤ j ∧ j < 2 ^ 62 ∧ ∃ W : Nat → Nat → L2.St → Hp → Prop, (∃ m, W 0 m σ H) ∧ ∀ i m σ H, W i m σ H →
  ((Itr 0 j.toNat).stop i H ∧ D.nx σ H) ∨ ((Itr 0 j.toNat).go i H ∧ ∃ N : L2.St → Hp → Prop, (∀ σ' H', N σ' H' → ∃ m', m' < m ∧ W (i + 1) m' σ' H') ∧ ∀ x H', (Itr 0 j.toNat).yld i H x H' → G x σ H' fun σ2 H2 => ts { D with nx := N, ct := N, bk := D.nx } σ2 H2)
def ForR2 (G : TG) (ts : TS) (D : Ends) (σ : L2.St) (vs : List V) (H : Hp) : Prop := ∃ i j : Int, vs = [.int i, .int j] ∧ (-(2 ^ 62) ≤ i ∧ i < 2 ^ 62 ∧ -(2 ^ 62) ≤ j ∧ j < 2 ^ 62) ∧ ∃ W : Nat → Nat → L2.St → Hp → Prop, (∃ m, W 0 m σ H) ∧ ∀ k m σ H, W k m σ H →
  ((Itr i (j - i).toNat).stop k H ∧ D.nx σ H) ∨ ((Itr i (j - i).toNat).go k H ∧ ∃ N : L2.St → Hp → Prop, (∀ σ' H', N σ' H' → ∃ m', m' < m ∧ W (k + 1) m' σ' H') ∧ ∀ x H', (Itr i (j - i).toNat).yld k H x H' → G x σ H' fun σ2 H2 => ts { D with nx := N, ct := N, bk := D.nx } σ2 H2)
def ForL (K : PySem.W.Frag) (G : TG) (ts : TS) (D : Ends) (σ : L2.St) (v : V) (H : Hp) : Prop := ∃ a, v = .ref a ∧ (∃ xs, SqL K H a xs) ∧ ∃ W : Nat → Nat → L2.St → Hp → Prop, (∃ m, W 0 m σ H) ∧ ∀ i m σ H, W i m σ H →
  ((Itl K a).stop i H ∧ D.nx σ H) ∨ ((Itl K a).go i H ∧ ∃ N : L2.St → Hp → Prop, (∀ σ' H', N σ' H' → ∃ m', m' < m ∧ W (i + 1) m' σ' H') ∧ ∀ x H', (Itl K a).yld i H x H' → G x σ H' fun σ2 H2 => ts { D with nx := N, ct := N, bk := D.nx } σ2 H2)
def ForT (K : PySem.W.Frag) (G : TG) (ts : TS) (D : Ends) (σ : L2.St) (v : V) (H : Hp) : Prop := ∃ a, v = .ref a ∧ (∃ xs, SqT K H a xs) ∧ ∃ W : Nat → Nat → L2.St → Hp → Prop, (∃ m, W 0 m σ H) ∧ ∀ i m σ H, W i m σ H →
  ((Itt K a).stop i H ∧ D.nx σ H) ∨ ((Itt K a).go i H ∧ ∃ N : L2.St → Hp → Prop, (∀ σ' H', N σ' H' → ∃ m', m' < m ∧ W (i + 1) m' σ' H') ∧ ∀ x H', (Itt K a).yld i H x H' → G x σ H' fun σ2 H2 => ts { D with nx := N, ct := N, bk := D.nx } σ2 H2)
section
variable {K : PySem.W.Frag} {σ : L2.St} {H : Hp} {Q : VK} {D : Ends} {te tl : TE} {tt c : TT} {ts : TS} {G : TG} {tas : TA} {v : V} {vs : List Nat}
theorem r_forR1 (k : tas σ H fun vs H1 => ForR1 G ts D σ vs H1) : tFor (iRng1 tas) G ts D σ H := k
theorem r_forR2 (k : tas σ H fun vs H1 => ForR2 G ts D σ vs H1) : tFor (iRng2 tas) G ts D σ H := k
theorem r_forL (k : tl σ H fun x H1 => ForL K G ts D σ x H1) : tFor (iList K tl) G ts D σ H := k
theorem r_forT (k : tl σ H fun x H1 => ForT K G ts D σ x H1) : tFor (iTup K tl) G ts D σ H := k
theorem forR1_go {j : Int} (Pv : Nat → L2.St → Hp → Prop) (hb : -(2 ^ 62) ≤ j ∧ j < 2 ^ 62) (h0 : Pv 0 σ H)
    (hs : ∀ (i : Nat) σ' H', (i : Int) < j → Pv i σ' H' → G (.int i) σ' H' fun σ2 H2 => ts { D with nx := Pv (i + 1), ct := Pv (i + 1), bk := D.nx } σ2 H2) (hd : ∀ σ' H', Pv j.toNat σ' H' → D.nx σ' H') : ForR1 G ts D σ [.int j] H :=
  ⟨j, rfl, hb.1, hb.2, for_range (lo := 0) Pv h0 (fun i σ' H' hi p => by rw [Int.zero_add]; exact hs i σ' H' (by omega) p) hd⟩
theorem forR2_go {i j : Int} (Pv : Nat → L2.St → Hp → Prop) (hb : -(2 ^ 62) ≤ i ∧ i < 2 ^ 62 ∧ -(2 ^ 62) ≤ j ∧ j < 2 ^ 62) (h0 : Pv 0 σ H)
    (hs : ∀ (k : Nat) σ' H', i + (k : Int) < j → Pv k σ' H' → G (.int (i + k)) σ' H' fun σ2 H2 => ts { D with nx := Pv (k + 1), ct := Pv (k + 1), bk := D.nx } σ2 H2) (hd : ∀ σ' H', Pv (j - i).toNat σ' H' → D.nx σ' H') : ForR2 G ts D σ [.int i, .int j] H :=
  ⟨i, j, rfl, hb, for_range (lo := i) Pv h0 (fun k σ' H' hi p => hs k σ' H' (by omega) p) hd⟩
theorem forL_go {a : Addr} {xs : List V} (Pv : Nat → L2.St → Hp → Prop) (hx : SqL K H a xs) (h0 : Pv 0 σ H) (hl : ∀ i σ' H', i ≤ xs.length → Pv i σ' H' → SqL K H' a xs)
    (hs : ∀ i x σ' H', xs[i]? = some x → Pv i σ' H' → G x σ' H' fun σ2 H2 => ts { D with nx := Pv (i + 1), ct := Pv (i + 1), bk := D.nx } σ2 H2) (hd : ∀ σ' H', Pv xs.length σ' H' → D.nx σ' H') : ForL K G ts D σ (.ref a) H :=
  ⟨a, rfl, ⟨xs, hx⟩, for_list Pv h0 hl hs hd⟩
theorem forT_go {a : Addr} {xs : List V} (Pv : Nat → L2.St → Hp → Prop) (hx : SqT K H a xs) (h0 : Pv 0 σ H) (hl : ∀ i σ' H', i ≤ xs.length → Pv i σ' H' → SqT K H' a xs)
    (hs : ∀ i x σ' H', xs[i]? = some x → Pv i σ' H' → G x σ' H' fun σ2 H2 => ts { D with nx := Pv (i + 1), ct := Pv (i + 1), bk := D.nx } σ2 H2) (hd : ∀ σ' H', Pv xs.length σ' H' → D.nx σ' H') : ForT K G ts D σ (.ref a) H :=
  ⟨a, rfl, ⟨xs, hx⟩, for_tup Pv h0 hl hs hd⟩
theorem r_while (W : Nat → L2.St → Hp → Prop) {m0 : Nat} (h0 : W m0 σ H)
    (hs : ∀ m σ' H', W m σ' H' → c σ' H' fun b H1 => if b = true then ∃ N : L2.St → Hp → Prop, (∀ σ2 H2, N σ2 H2 → ∃ m', m' < m ∧ W m' σ2 H2) ∧ ts { D with nx := N, ct := N, bk := D.nx } σ' H1 else D.nx σ' H1) : tWhile c ts D σ H := ⟨W, ⟨m0, h0⟩, hs⟩
theorem r_turn {B : L2.St → Hp → Prop} {R : VK} {Bk : L2.St → Hp → Prop} (k : ts { nx := B, rt := R, bk := Bk, ct := B } σ H) :
    ∃ N : L2.St → Hp → Prop, (∀ σ2 H2, N σ2 H2 → B σ2 H2) ∧ ts { nx := N, rt := R, bk := Bk, ct := N } σ H := ⟨_, fun _ _ h => h, k⟩
end
/-! ### comprehensions -/
section
variable {K : PySem.W.Frag} {σ : L2.St} {H : Hp} {Q : VK} {te tl : TE} {tt : TT} {G : TG} {tas : TA} {v : V} {vs : List Nat} {QB : Bool → Hp → Prop}
def CompW (J : It) (G : TG) (tt : TT) (te : TE) (vs : List Nat) (σ : L2.St) (Q : VK) (H1 : Hp) : Prop := ∀ D, H1 D = none → ∃ W : Nat → Nat → Hp → Prop, (∃ m, W 0 m (upd H1 D (.lst []))) ∧ ∀ i m H, W i m H → (J.stop i H ∧ Q (.ref D) H) ∨ (J.go i H ∧ ∃ Nx : Hp → Prop, (∀ H', Nx H' → ∃ m', m' < m ∧ W (i + 1) m' H') ∧
  ∀ x H', J.yld i H x H' → G x (wipe σ vs) H' fun σ2 H2 => wipe σ2 vs = wipe σ vs ∧ tt σ2 H2 fun b H3 => if b = true then te σ2 H3 fun y H4 => ∃ acc, H4 D = some (.lst acc) ∧ acc.length < sizeLine ∧ Nx (upd H4 D (.lst (acc ++ [y]))) else Nx H3)
def CompR1 (G : TG) (tt : TT) (te : TE) (vs : List Nat) (σ : L2.St) (Q : VK) (us : List V) (H1 : Hp) : Prop := ∃ j : Int, us = [.int j] ∧ -(2 ^ 62) ≤ j ∧ j < 2 ^ 62 ∧ CompW (Itr 0 j.toNat) G tt te vs σ Q H1
def CompL (K : PySem.W.Frag) (G : TG) (tt : TT) (te : TE) (vs : List Nat) (σ : L2.St) (Q : VK) (x : V) (H1 : Hp) : Prop := ∃ a, x = .ref a ∧ (∃ xs, SqL K H1 a xs) ∧ CompW (Itl K a) G tt te vs σ Q H1
def CompT (K : PySem.W.Frag) (G : TG) (tt : TT) (te : TE) (vs : List Nat) (σ : L2.St) (Q : VK) (x : V) (H1 : Hp) : Prop := ∃ a, x = .ref a ∧ (∃ xs, SqT K H1 a xs) ∧ CompW (Itt K a) G tt te vs σ Q H1
theorem r_lcR1 (k : tas σ H fun us H1 => CompR1 G tt te vs σ Q us H1) : tLc (iRng1 tas) G tt te vs σ H Q := k
theorem r_lcL (k : tl σ H fun x H1 => CompL K G tt te vs σ Q x H1) : tLc (iList K tl) G tt te vs σ H Q := k
theorem r_lcT (k : tl σ H fun x H1 => CompT K G tt te vs σ Q x H1) : tLc (iTup K tl) G tt te vs σ H Q := k
theorem r_wipe {σ2 : L2.St} {R : Prop} (h : wipe σ2 vs = wipe σ vs) (k : R) : wipe σ2 vs = wipe σ vs ∧ R := ⟨h, k⟩
theorem r_gNameW {i : Nat} {σ' : L2.St} {Q : L2.St → Hp → Prop} (h : wipe σ vs = σ') (k : gName i v σ' H Q) : gName i v (wipe σ vs) H Q := by rw [h]; exact k
theorem r_yes (k : QB true H) : tYes σ H QB := k
/-- the reading of one item, told with the list so far: P of the turn's number, the items made, the heap -/
def CompTurn (G : TG) (tt : TT) (te : TE) (vs : List Nat) (σ : L2.St) (D : Addr) (Nx : List V → Hp → Prop) (acc : List V) (x : V) (H : Hp) : Prop :=
  G x (wipe σ vs) H fun σ2 H2 => wipe σ2 vs = wipe σ vs ∧ tt σ2 H2 fun b H3 => if b = true then te σ2 H3 fun y H4 => H4 D = some (.lst acc) ∧ acc.length < sizeLine ∧ Nx (acc ++ [y]) (upd H4 D (.lst (acc ++ [y]))) else Nx acc H3
theorem lcR1_go {j : Int} (Pv : Addr → Nat → List V → Hp → Prop) (hb : -(2 ^ 62) ≤ j ∧ j < 2 ^ 62) (h0 : ∀ D, H D = none → Pv D 0 [] (upd H D (.lst [])))
    (hs : ∀ D (i : Nat) acc H', (i : Int) < j → H' D = some (.lst acc) → Pv D i acc H' → G (.int i) (wipe σ vs) H' fun σ2 H2 => wipe σ2 vs = wipe σ vs ∧ tt σ2 H2 fun b H3 =>
      if b = true then te σ2 H3 fun y H4 => ∃ acc, H4 D = some (.lst acc) ∧ acc.length < sizeLine ∧ (∃ ac, (upd H4 D (.lst (acc ++ [y]))) D = some (.lst ac) ∧ Pv D (i + 1) ac (upd H4 D (.lst (acc ++ [y])))) else ∃ ac, H3 D = some (.lst ac) ∧ Pv D (i + 1) ac H3)
    (hd : ∀ D acc H', H D = none → H' D = some (.lst acc) → Pv D j.toNat acc H' → Q (.ref D) H') : CompR1 G tt te vs σ Q [.int j] H :=
  ⟨j, rfl, hb.1, hb.2, fun D hD => lc_range (lo := 0) (fun i H' => ∃ acc, H' D = some (.lst acc) ∧ Pv D i acc H') ⟨[], upd_same, h0 D hD⟩ (fun i H' hi ⟨acc, ha, p⟩ => by rw [Int.zero_add]; exact hs D i acc H' (by omega) ha p) fun H' ⟨acc, ha, p⟩ => hd D acc H' hD ha p⟩
theorem lcL_go {a : Addr} {xs : List V} (Pv : Addr → Nat → List V → Hp → Prop) (hx : SqL K H a xs) (h0 : ∀ D, H D = none → Pv D 0 [] (upd H D (.lst []))) (hl : ∀ D i acc H', i ≤ xs.length → Pv D i acc H' → SqL K H' a xs)
    (hs : ∀ D (i : Nat) x acc H', xs[i]? = some x → H' D = some (.lst acc) → Pv D i acc H' → G x (wipe σ vs) H' fun σ2 H2 => wipe σ2 vs = wipe σ vs ∧ tt σ2 H2 fun b H3 =>
      if b = true then te σ2 H3 fun y H4 => ∃ acc, H4 D = some (.lst acc) ∧ acc.length < sizeLine ∧ (∃ ac, (upd H4 D (.lst (acc ++ [y]))) D = some (.lst ac) ∧ Pv D (i + 1) ac (upd H4 D (.lst (acc ++ [y])))) else ∃ ac, H3 D = some (.lst ac) ∧ Pv D (i + 1) ac H3)
    (hd : ∀ D acc H', H D = none → H' D = some (.lst acc) → Pv D xs.length acc H' → Q (.ref D) H') : CompL K G tt te vs σ Q (.ref a) H :=
  ⟨a, rfl, ⟨xs, hx⟩, fun D hD => lc_list (xs := xs) (fun i H' => ∃ acc, H' D = some (.lst acc) ∧ Pv D i acc H') ⟨[], upd_same, h0 D hD⟩ (fun i H' hi ⟨acc, ha, p⟩ => hl D i acc H' hi p) (fun i x H' hi ⟨acc, ha, p⟩ => hs D i x acc H' hi ha p) fun H' ⟨acc, ha, p⟩ => hd D acc H' hD ha p⟩
theorem lcT_go {a : Addr} {xs : List V} (Pv : Addr → Nat → List V → Hp → Prop) (hx : SqT K H a xs) (h0 : ∀ D, H D = none → Pv D 0 [] (upd H D (.lst []))) (hl : ∀ D i acc H', i ≤ xs.length → Pv D i acc H' → SqT K H' a xs)
    (hs : ∀ D (i : Nat) x acc H', xs[i]? = some x → H' D = some (.lst acc) → Pv D i acc H' → G x (wipe σ vs) H' fun σ2 H2 => wipe σ2 vs = wipe σ vs ∧ tt σ2 H2 fun b H3 =>
      if b = true then te σ2 H3 fun y H4 => ∃ acc, H4 D = some (.lst acc) ∧ acc.length < sizeLine ∧ (∃ ac, (upd H4 D (.lst (acc ++ [y]))) D = some (.lst ac) ∧ Pv D (i + 1) ac (upd H4 D (.lst (acc ++ [y])))) else ∃ ac, H3 D = some (.lst ac) ∧ Pv D (i + 1) ac H3)
    (hd : ∀ D acc H', H D = none → H' D = some (.lst acc) → Pv D xs.length acc H' → Q (.ref D) H') : CompT K G tt te vs σ Q (.ref a) H :=
  ⟨a, rfl, ⟨xs, hx⟩, fun D hD => lc_tup (xs := xs) (fun i H' => ∃ acc, H' D = some (.lst acc) ∧ Pv D i acc H') ⟨[], upd_same, h0 D hD⟩ (fun i H' hi ⟨acc, ha, p⟩ => hl D i acc H' hi p) (fun i x H' hi ⟨acc, ha, p⟩ => hs D i x acc H' hi ha p) fun H' ⟨acc, ha, p⟩ => hd D acc H' hD ha p⟩
/-- an item is kept: behind te, the list is known -/
theorem lc_put {D : Addr} {acc : List V} {y : V} {P : List V → List V → Prop} {H4 : Hp} (h : H4 D = some (.lst acc)) (hz : acc.length < sizeLine) (k : P acc (acc ++ [y])) :
    ∃ acc, H4 D = some (.lst acc) ∧ acc.length < sizeLine ∧ (∃ ac, (upd H4 D (.lst (acc ++ [y]))) D = some (.lst ac) ∧ P acc ac) := ⟨acc, h, hz, _, upd_same, k⟩
end
/-! ### lists, displays -/
section
variable {K : PySem.W.Frag} {H : Hp} {Q : VK}
theorem Keep.out {M : List Addr} {H H' : Hp} {a : Addr} {o : HO} (h : Keep M H H') (n : a ∉ M) (e : H a = some o) : H' a = some o := h a o n e
theorem getD_all {p : Int → Prop} {P : List Int} {i : Nat} (h : ∀ x ∈ P, p x) (hi : i < P.length) : p (P.getD i 0) := by
  rw [List.getD_eq_getElem?_getD, List.getElem?_eq_getElem hi]; exact h _ (List.getElem_mem hi)
theorem r_slL {a : Addr} {xs : List V} {lo hi : Option Int} (h : SqL K H a xs) (k : ∀ p, H p = none → Q (.ref p) (upd H p (.lst (cutV xs lo hi)))) : rSlL K (.ref a) lo hi H Q := ⟨a, xs, rfl, h, k⟩
theorem r_cat {l b : Addr} {xs zs : List V} (h : H l = some (.lst xs)) (h2 : H b = some (.lst zs)) (hz : xs.length + zs.length ≤ sizeLine) (k : ∀ p, H p = none → Q (.ref p) (upd H p (.lst (xs ++ zs)))) : rCat (.ref l) (.ref b) H Q :=
  ⟨l, b, xs, zs, rfl, rfl, h, h2, hz, k⟩
theorem r_listL {p : Addr} {xs : List V} {F : List V → Prop} (h : SqL K H p xs) (k : F xs) : ∃ q ys, [V.ref p] = [.ref q] ∧ (SqL K H q ys ∨ SqT K H q ys) ∧ F ys := ⟨p, xs, rfl, .inl h, k⟩
theorem r_tPart {te : TE} {σ : L2.St} {QO : Option Int → Hp → Prop} (k : te σ H fun v H1 => ∃ i, v = .int i ∧ QO (some i) H1) : tPart te σ H QO := k
theorem r_noPart {σ : L2.St} {QO : Option Int → Hp → Prop} (k : QO none H) : tNoPart σ H QO := k
theorem r_gcd {a b : Int} (k : Q (.int ((Nat.gcd a.natAbs b.natAbs : Nat) : Int)) H) : rGcd [.int a, .int b] H Q := ⟨a, b, rfl, k⟩
theorem r_iteNT1 {A B : Prop} (k : B) : if (!true) = true then A else B := by rw [if_neg (by decide)]; exact k
theorem r_iteNF1 {A B : Prop} (k : A) : if (!false) = true then A else B := by rw [if_pos (by decide)]; exact k
theorem kit_ii : kitB "int" "int" = some true := by decide +kernel
theorem kit_ib : kitB "int" "bool" = some false := by decide +kernel
theorem kit_bi : kitB "bool" "int" = some true := by decide +kernel
theorem kit_bb : kitB "bool" "bool" = some true := by decide +kernel
theorem kit_tt : kitB "tuple" "tuple" = some true := by decide +kernel
theorem kit_ss : kitB "str" "str" = some true := by decide +kernel
theorem kit_ll : kitB "list" "list" = some true := by decide +kernel
theorem kit_dd : kitB "dict" "dict" = some true := by decide +kernel
theorem kit_nt : kitB "NoneType" "tuple" = some false := by decide +kernel
theorem kit_ni : kitB "NoneType" "int" = some false := by decide +kernel
theorem kit_is : kitB "int" "str" = some false := by decide +kernel
theorem kit_si : kitB "str" "int" = some false := by decide +kernel
theorem kit_it : kitB "int" "tuple" = some false := by decide +kernel
theorem mulw {i j : Int} (a b : Nat) (ha : i.natAbs < 2 ^ a) (hb : j.natAbs < 2 ^ b) (h0 : 0 < a := by decide) (h1 : 0 < b := by decide) (h : a + b ≤ 1000000 := by decide) : CMul i j ∨ CMulW i j := .inr (wide_mul ha hb h0 h1 h)
theorem r_callSD {sp : Sp} {dvs : List V} {E : L2.St → XK} {tas : TA} {σ : L2.St} (k : tas σ H fun vs H1 => sp (vs ++ dvs) H1 Q (E σ)) : tCallSD sp dvs E tas σ H Q := k
theorem exm_ZD {K : PySem.W.Frag} : PySem.W.exmOne K (.type "ZeroDivisionError") (.type "ZeroDivisionError") = some true := by kernel_rfl
theorem r_par {i j : Nat} {ta : TA} {D : Ends} {σ : L2.St} (k : ta σ H fun vs H1 => ∃ v w, vs = [v, w] ∧ gName i v σ H1 fun σ1 H2 => gName j w σ1 H2 D.nx) : tPar i j ta D σ H := k
theorem r_exP {x y : V} {F : V → V → Prop} (k : F x y) : ∃ v w, [x, y] = [v, w] ∧ F v w := ⟨x, y, rfl, k⟩
theorem r_bm {T : String} {r : V → List V → Hp → VK → Prop} {to : TE} {ta : TA} {σ : L2.St} (k : to σ H fun x H1 => tyV K T x H1 ∧ ta σ H1 fun xs H2 => r x xs H2 Q) : tBM K T r to ta σ H Q := k
theorem r_tyL {p : Addr} {xs : List V} {R : Prop} (h : SqL K H p xs) (k : R) : tyV K "list" (.ref p) H ∧ R := ⟨.inl ⟨rfl, xs, h⟩, k⟩
theorem r_app {l : Addr} {xs : List V} {y : V} (h : H l = some (.lst xs)) (hz : xs.length < sizeLine) (k : Q .non (upd H l (.lst (xs ++ [y])))) : rAppend (.ref l) [y] H Q := ⟨l, xs, y, rfl, rfl, h, hz, k⟩
theorem r_exI {i : Int} {F : Int → Prop} (k : F i) : ∃ j, V.int i = .int j ∧ F j := ⟨i, rfl, k⟩
end
theorem start_cc {n : Str} {N : List Str} {v : V} {vs : List V} : L2.start (n :: N) (v :: vs) = some v :: L2.start N vs := by
  unfold L2.start
  rw [List.map_cons, List.length_cons, List.length_cons, Nat.add_sub_add_right, List.cons_append]
theorem start_cn {n : Str} {N : List Str} : L2.start (n :: N) [] = none :: L2.start N [] := rfl
theorem start_nn : L2.start [] [] = [] := rfl
theorem atI_map {P : List Int} {i : Int} (h0 : 0 ≤ i) (h1 : i < P.length) : atI (P.map V.int) i = some (.int (P.getD i.toNat 0)) := by
  obtain ⟨n, rfl⟩ : ∃ n : Nat, i = n := ⟨i.toNat, by omega⟩
  refine atI_nat ?_
  have h2 : n < P.length := by omega
  rw [List.getElem?_map, List.getElem?_eq_getElem h2, Int.toNat_natCast, List.getD_eq_getElem?_getD, List.getElem?_eq_getElem h2]; rfl
theorem ixN_of {n : Nat} {i : Int} (h0 : 0 ≤ i) (h1 : i < n) : ixN n i = some i.toNat := by
  unfold ixN; rw [if_pos h0, if_pos h1]
/-- sizes of ints -/
theorem log2_of {i : Int} {n : Nat} (h : i.natAbs < 2 ^ n) (h0 : 0 < n) : i.natAbs.log2 < n := PySem.Flt.log2_lt_of h0 h
theorem log_ok {j : Int} (n : Nat) (h : j.natAbs < 2 ^ n) (h0 : 0 < n := by decide) (h9 : n ≤ 9000 := by decide) : j.natAbs.log2 < 9000 := Nat.lt_of_lt_of_le (log2_of h h0) h9
theorem cmulw {i j : Int} (a b : Nat) (ha : i.natAbs < 2 ^ a) (hb : j.natAbs < 2 ^ b) (h0 : 0 < a := by decide) (h1 : 0 < b := by decide) (h : a + b ≤ 1000000 := by decide) : CMulW i j := wide_mul ha hb h0 h1 h
/-! ### == of flat rows -/
def fdV : V → PyData
  | .bl b => .bool b
  | .int i => .int i
  | .str x => .str x
  | _ => .none
def flatV : V → Bool
  | .non => true
  | .bl _ => true
  | .int _ => true
  | .str x => PyData.canLay0 (.str x)
  | _ => false
theorem dp_flat {K : PySem.W.Frag} {H : Hp} : ∀ {v : V}, flatV v = true → Dp K H v (fdV v)
  | .non, _ => .non
  | .bl b, _ => .bl b
  | .int i, _ => .int i
  | .str x, _ => .str x
theorem dp_flats {K : PySem.W.Frag} {H : Hp} : ∀ {xs : List V}, xs.all flatV = true → DpAll K H xs (xs.map fdV)
  | [], _ => .nil
  | v :: xs, h => by
    rw [List.all_cons, Bool.and_eq_true] at h
    exact .cons (dp_flat h.1) (dp_flats h.2)
theorem flat_lay : ∀ {v : V}, flatV v = true → (fdV v).canLay0 = true ∧ (fdV v).depth = 0
  | .non, _ => by simp [fdV, PyData.canLay0, PyData.depth]
  | .bl b, _ => by simp [fdV, PyData.canLay0, PyData.depth]
  | .int i, _ => by simp [fdV, PyData.canLay0, PyData.depth]
  | .str x, h => ⟨h, by simp [fdV, PyData.depth]⟩
theorem flats_lay : ∀ {xs : List V}, xs.all flatV = true → PyData.canLayAll0 (xs.map fdV) = true ∧ PyData.depthAll (xs.map fdV) = 0
  | [], _ => by simp [PyData.canLayAll0, PyData.depthAll]
  | v :: xs, h => by
    rw [List.all_cons, Bool.and_eq_true] at h
    have a := flat_lay h.1
    have b := flats_lay h.2
    simp [PyData.canLayAll0, PyData.depthAll, a.1, a.2, b.1, b.2]
theorem shaped_flat {xs : List V} (h : xs.all flatV = true) : SeqAt.shaped (.list (xs.map fdV)) = true ∧ SeqAt.shaped (.tuple (xs.map fdV)) = true := by
  have b := flats_lay h
  constructor <;> simp [SeqAt.shaped, PyData.canLay0, PyData.depth, b.1, b.2]
theorem eqv_flat : ∀ {v : V}, flatV v = true → PyData.eqv (fdV v) (fdV v) = true
  | .non, _ => by simp [fdV, PyData.eqv]
  | .bl b, _ => by simp [fdV, PyData.eqv]
  | .int i, _ => by simp [fdV, PyData.eqv]
  | .str x, _ => by simp [fdV, PyData.eqv]
theorem eqv_flats : ∀ {xs : List V}, xs.all flatV = true → PyData.eqvAll (xs.map fdV) (xs.map fdV) = true
  | [], _ => by simp [PyData.eqvAll]
  | v :: xs, h => by
    rw [List.all_cons, Bool.and_eq_true] at h
    simp [PyData.eqvAll, eqv_flat h.1, eqv_flats h.2]
section
variable {K : PySem.W.Frag} {H : Hp} {Q : VK} {p q : Addr} {xs ys : List V} {b : Bool}
theorem eqvL {xs ys : List PyData} : PyData.eqv (.list xs) (.list ys) = PyData.eqvAll xs ys := by simp [PyData.eqv]
theorem eqvT {xs ys : List PyData} : PyData.eqv (.tuple xs) (.tuple ys) = PyData.eqvAll xs ys := by simp [PyData.eqv]
theorem r_eqL (hp : SqL K H p xs) (hq : SqL K H q ys) (fx : xs.all flatV = true) (fy : ys.all flatV = true) (hb : PyData.eqvAll (xs.map fdV) (ys.map fdV) = b) (k : Q (.bl b) H) : rEqD K (.ref p) (.ref q) H Q :=
  ⟨_, _, .lst hp (dp_flats fx), .lst hq (dp_flats fy), (shaped_flat fx).1, (shaped_flat fy).1, by rw [eqvL, hb]; exact k⟩
theorem r_eqT (hp : SqT K H p xs) (hq : SqT K H q ys) (fx : xs.all flatV = true) (fy : ys.all flatV = true) (hb : PyData.eqvAll (xs.map fdV) (ys.map fdV) = b) (k : Q (.bl b) H) : rEqD K (.ref p) (.ref q) H Q :=
  ⟨_, _, .tup hp (dp_flats fx), .tup hq (dp_flats fy), (shaped_flat fx).2, (shaped_flat fy).2, by rw [eqvT, hb]; exact k⟩
theorem r_neL (hp : SqL K H p xs) (hq : SqL K H q ys) (fx : xs.all flatV = true) (fy : ys.all flatV = true) (hb : PyData.eqvAll (xs.map fdV) (ys.map fdV) = b) (k : Q (.bl (!b)) H) : rNeD K (.ref p) (.ref q) H Q :=
  ⟨_, _, .lst hp (dp_flats fx), .lst hq (dp_flats fy), (shaped_flat fx).1, (shaped_flat fy).1, by rw [eqvL, hb]; exact k⟩
theorem r_neT (hp : SqT K H p xs) (hq : SqT K H q ys) (fx : xs.all flatV = true) (fy : ys.all flatV = true) (hb : PyData.eqvAll (xs.map fdV) (ys.map fdV) = b) (k : Q (.bl (!b)) H) : rNeD K (.ref p) (.ref q) H Q :=
  ⟨_, _, .tup hp (dp_flats fx), .tup hq (dp_flats fy), (shaped_flat fx).2, (shaped_flat fy).2, by rw [eqvT, hb]; exact k⟩
end
/-! ### rules whose reading names K, told for a context that hides it (a comprehension, an except suite) -/
section
variable {X : Cx} {K : PySem.W.Frag}
theorem ix_listK (hK : X.K = K) : IxR X (rIxL K) := by subst hK; exact ix_list
theorem ix_tupK (hK : X.K = K) : IxR X (rIxT K) := by subst hK; exact ix_tup
theorem op_in_seqK (hK : X.K = K) : OpR X (compareOp .In) (rIn K false) := by subst hK; exact op_in_seq
theorem op_notIn_seqK (hK : X.K = K) : OpR X (compareOp .NotIn) (rIn K true) := by subst hK; exact op_notIn_seq
theorem call_len_seqK (hK : X.K = K) : CallR X (.builtin "len") (fun xs H Q => ∃ p ys, xs = [.ref p] ∧ (SqL K H p ys ∨ SqT K H p ys) ∧ Q (.int ys.length) H) := by subst hK; exact call_len_seq
theorem call_isiK (hK : X.K = K) : CallR X (.builtin "isinstance") (rIsi K) := by subst hK; exact call_isi
end
section
variable {H : Hp}
def rIsN : R2 := fun x y H Q => y = .non ∧ Q (.bl (decide (x = .non))) H
def rNoN : R2 := fun x y H Q => y = .non ∧ Q (.bl (!decide (x = .non))) H
theorem op_isNc {X : Cx} : OpR X (compareOp .Is) rIsN := op_isN
theorem op_notNc {X : Cx} : OpR X (compareOp .IsNot) rNoN := op_notN
theorem r_isN {Q : VK} (k : Q (.bl true) H) : rIsN (V.non) .non H Q := ⟨rfl, by rw [decide_eq_true rfl]; exact k⟩
theorem r_noN {Q : VK} (k : Q (.bl false) H) : rNoN (V.non) .non H Q := ⟨rfl, by rw [decide_eq_true rfl]; exact k⟩
theorem r_isI {i : Int} {Q : VK} (k : Q (.bl false) H) : rIsN (.int i) .non H Q := ⟨rfl, by rw [decide_eq_false (fun e => by cases e)]; exact k⟩
theorem r_noI {i : Int} {Q : VK} (k : Q (.bl true) H) : rNoN (.int i) .non H Q := ⟨rfl, by rw [decide_eq_false (fun e => by cases e)]; exact k⟩
theorem r_isR {p : Addr} {Q : VK} (k : Q (.bl false) H) : rIsN (.ref p) .non H Q := ⟨rfl, by rw [decide_eq_false (fun e => by cases e)]; exact k⟩
theorem r_noR {p : Addr} {Q : VK} (k : Q (.bl true) H) : rNoN (.ref p) .non H Q := ⟨rfl, by rw [decide_eq_false (fun e => by cases e)]; exact k⟩
theorem r_isS {x : Str} {Q : VK} (k : Q (.bl false) H) : rIsN (.str x) .non H Q := ⟨rfl, by rw [decide_eq_false (fun e => by cases e)]; exact k⟩
theorem r_noS {x : Str} {Q : VK} (k : Q (.bl true) H) : rNoN (.str x) .non H Q := ⟨rfl, by rw [decide_eq_false (fun e => by cases e)]; exact k⟩
theorem r_isB {b : Bool} {Q : VK} (k : Q (.bl false) H) : rIsN (.bl b) .non H Q := ⟨rfl, by rw [decide_eq_false (fun e => by cases e)]; exact k⟩
theorem r_noB {b : Bool} {Q : VK} (k : Q (.bl true) H) : rNoN (.bl b) .non H Q := ⟨rfl, by rw [decide_eq_false (fun e => by cases e)]; exact k⟩
theorem r_inL {K : PySem.W.Frag} {x : V} {p : Addr} {xs : List V} {Q : VK} (h : SqL K H p xs) (fx : L2.flatV x = true) (fs : xs.all L2.flatV = true) (k : Q (.bl (inV x xs)) H) : rIn K false x (.ref p) H Q := ⟨p, xs, rfl, .inl h, fx, fs, by simpa using k⟩
theorem r_ninL {K : PySem.W.Frag} {x : V} {p : Addr} {xs : List V} {Q : VK} (h : SqL K H p xs) (fx : L2.flatV x = true) (fs : xs.all L2.flatV = true) (k : Q (.bl (!inV x xs)) H) : rIn K true x (.ref p) H Q := ⟨p, xs, rfl, .inl h, fx, fs, by simpa using k⟩
theorem r_iteTT {A B : Prop} (k : A) : if true = true then A else B := by rw [if_pos rfl]; exact k
theorem r_iteFF {A B : Prop} (k : B) : if false = true then A else B := by rw [if_neg (by decide)]; exact k
end
/-! ### an own error over ValueError (through own classes) whose __init__ says super().__init__(a text), then stores its arguments -/
namespace Er
open PySem.W PySem.Calls PySem.HandSPX
section
variable {prog : Program} {w : World} {A : Around} {E : Value → Shared → Prop} {s : Shared} {K : Frag} {mg : Str → Option Value} {base : Heap} {m : Str → Option Value}
/-- what the written part says of the class at C: its __init__ at fI, the cell of __class__ at cc, the code at cda -/
structure Txt (P : Program) (K : Frag) (mg : Str → Option Value) (C fI cc cda : Addr) : Prop where
  cls : ∃ nm q N bs bm sn sub ab col dd k0 k1 k2 k3 k5, K.lookup C = some (excClassObj nm q C N bs bm true sn sub ab col dd k0 k1 k2 k3 k5 "ValueError.__new__") ∧ refsVE bm = true
  sa : findIn K (.ref C) "__setattr__" = some (some (.builtin "object.__setattr__"))
  iC : findIn K (.ref C) "__init__" = some (some (.ref fI))
  tI : typeIn K (.ref fI) = some (.type "function")
  cell : ∃ cl cld csl, K.lookup cc = some ⟨cl, cld, .cell (some (.ref C)), csl⟩
  code : ∃ ccl cdd vs ccs tf, K.lookup cda = some ⟨ccl, cdd, .fields vs, ccs⟩ ∧ vs[2]? = some (.str P.main.file tf)
  sup : ks_superIn K C C "__init__" = some (some (.builtin "ValueError.__init__"))
  supB : subIn K (.ref C) (.type "ValueError") = some true
  self : mroIn K C (.ref C) = some true
  opq : nsIn K cStatics "thirdparty.any" = some none
  mS : mg "super" = none
  top : (P.main.scope.names.lookup ("super" : Str)).isSome = false
theorem clsIn_of {C N : Addr} {nm q : Str} {bs bm : List Value} {hd : Bool} {sn : List Str} {sub : List Value} {ab : Bool} {col : Option Bool} {dd : Option Addr} {k0 k1 k2 k3 k5 : Option Value} {nw : String}
    (hC : K.lookup C = some (excClassObj nm q C N bs bm hd sn sub ab col dd k0 k1 k2 k3 k5 nw)) :
    clsIn K C = some { name := nm, bases := bs, mro := .ref C :: bm, ns := N, qualname := q, hasDict := hd, slotNames := sn, subclasses := sub, abstract := ab, collection := col, hasDel := false } := by
  unfold clsIn; rw [hC] <;> rfl
theorem call_mw {u e t0 C N : Addr} {nm q : Str} {bs bm : List Value} {hdct : Bool} {sn : List Str} {sub : List Value} {ab : Bool} {col : Option Bool} {dd : Option Addr} {k0 k1 k2 k3 k5 : Option Value} {h : Heap} {g : Array GenState} {d : Drawn} {t : Nat} {os : OsState} {rest : List Value} {Q : Value → Shared → Prop}
    (hC : h.get? C = some (excClassObj nm q C N bs bm hdct sn sub ab col dd k0 k1 k2 k3 k5 "ValueError.__new__")) (he : h.get? e = some (excObj C t0 none .none)) (hu : h.get? u = some (kxs_mw "ValueError.__init__" e)) (hrest : rest.length ≤ sizeLine)
    (hq : ∀ h' t1, (∀ b o, b ≠ e → h.get? b = some o → h'.get? b = some o) → h'.get? e = some (excObj C t1 none .none) → Q .none ⟨h', g, d, t, os⟩) :
    wpAny (model prog w) A (call (.ref u) rest) Q E ⟨h, g, d, t, os⟩ := by
  refine wpAny_call (codeAny_of_tree ?_)
  show wpAny _ A.in1 (callAny (.ref u) ⟨rest, []⟩) _ _ _
  simp only [callAny]
  refine wpAny_bind (wpAny_load hu ?_)
  simp only [kxs_mw, show (Value.type "method-wrapper" == Value.type "method" || Value.type "method-wrapper" == Value.type "builtin_function_or_method" || Value.type "method-wrapper" == Value.type "method-wrapper") = true by decide, if_true]
  refine KFB.if_so (by decide) ?_
  refine wpAny_bind (check_bound_init F.excBase_ValueError.toExcCallFacts hC he rfl ?_)
  refine wpAny_bind (wpAny_pure (wpAny_pure ?_))
  refine ⟨plainId_quiet F.excBase_ValueError.init.plain _, codeAny_builtin F.excBase_ValueError.initEntry ?_⟩
  exact exc_init_tree (cls := .ref C) (t0 := t0) (dv := none) (c2 := .none) (c3 := .none) (b4 := .bool false) he hrest fun h' k e' _ => hq h' _ k e'
theorem super_stmt {pl : Sem Bool} {C fI cc cda L x t0 : Addr} {fd : FuncData} {oc : Value} {od : Option Addr} {osl : Array (Option Value)} {ar : Arg} {q : Str} {scope : Scope} {body : List Stmt} {msg : Expr} {p0 p1 p2 p3 p4 : Pos} {Q : Flow → Shared → Prop}
    (T : Txt prog K mg C fI cc cda) (Mo : Mod K mg base) (kb : ∀ b o, base.get? b = some o → s.heap.get? b = some o)
    (hf : K.lookup fI = some ⟨oc, od, .func fd, osl⟩) (hp : (fd.params.posonlyargs ++ fd.params.args).head? = some ar) (har : ar.arg = "self")
    (hks : scope.names.lookup ("super" : Str) = some .globalImplicit) (hkc : scope.names.lookup ("__class__" : Str) = some .free) (hka : scope.names.lookup ("self" : Str) = some .local) (hk : scope.kind = .function)
    (hns : s.heap.Ns L m) (hv : m "self" = some (.ref x)) (hx : s.heap.get? x = some (excO C t0))
    (hmsg : ∀ (s' : Shared) (Q' : Value → Shared → Prop), s'.heap.Ns L m → (∀ (z : Str) tk n, Q' (.str z tk) { s' with toks := n }) → wpAny (model prog w) A (eval msg (ksEnv q scope L fI (.ref cda) cc)) Q' E s')
    (hq : ∀ h' tk t1, (∀ b o, b ≠ x → s.heap.get? b = some o → h'.get? b = some o) → h'.get? x = some (excO C t1) → Q .next { s with heap := h', toks := tk })
    (hin : interactive (ksEnv q scope L fI (.ref cda) cc) = false := by rfl)
    (he : starEach [msg] (ksEnv q scope L fI (.ref cda) cc) = (false, eval msg (ksEnv q scope L fI (.ref cda) cc)) :: starEach [] (ksEnv q scope L fI (.ref cda) cc) := by rfl)
    (hsw : swapsWith (.Call (.Attribute (.Call (.Name "super" p0) [] [] p1) "__init__" p2) [msg] [] p3) none p4.line (ksEnv q scope L fI (.ref cda) cc) = pure false := by rfl)
    (hmc : eval (.Call (.Attribute (.Call (.Name "super" p0) [] [] p1) "__init__" p2) [msg] [] p3) (ksEnv q scope L fI (.ref cda) cc) = (do
      let ov ← attributeBase (.Call (.Name "super" p0) [] [] p1) "__init__" (ksEnv q scope L fI (.ref cda) cc) (eval (.Call (.Name "super" p0) [] [] p1) (ksEnv q scope L fI (.ref cda) cc))
      standAt p2.atName
      let (f, first) ← holding [ov] (getMethod ov "__init__" pl)
      callWith p3 f first (backTo p3 (starEach [msg] (ksEnv q scope L fI (.ref cda) cc))) []) := by rfl) :
    PySem.wpAt (model prog w) A (.func body (ksEnv q scope L fI (.ref cda) cc)) (exec (.Expr (.Call (.Attribute (.Call (.Name "super" p0) [] [] p1) "__init__" p2) [msg] [] p3) p4) (ksEnv q scope L fI (.ref cda) cc)) Q E s := by
  obtain ⟨nm, q0, N, bs, bm, sn, sub, ab, col, dd, k0, k1, k2, k3, k5, hC, hbm⟩ := T.cls
  obtain ⟨cl, cld, csl, hcell⟩ := T.cell
  obtain ⟨ccl, cdd, vs, ccs, tf, hcode, hvs⟩ := T.code
  obtain ⟨mb, hb1, hb2⟩ := Mo.blt
  have X : K.In s.heap := Mo.kin.keeps kb
  have hcl := clsIn_of hC
  have hss : alongIn K "__init__" (((Value.ref C :: bm).dropWhile (· != .ref C)).drop 1) = some (some (.builtin "ValueError.__init__")) := by
    have z := T.sup
    unfold ks_superIn at z
    rw [hcl] at z
    exact z
  have Ix : InstAt s.heap x (excO C t0) C none := ⟨hx, rfl, rfl, trivial⟩
  have hxC : x ≠ C := ks_ne X Ix hcl
  obtain ⟨hh, g, d, t, os⟩ := s
  refine ks_wpAt_Expr_any (ks_wpAt_MethodCall (pl := pl) ?_ hmc) hin hsw
  refine ks_wpAt_super_base (env := ksEnv q scope L fI (.ref cda) cc) hks hkc rfl rfl (X _ _ hf) rfl hp rfl (X _ _ hcode) rfl hvs (beq_self_eq_true _) T.top ?_
  refine ks_loadName_global hk hks (loadGlobal_builtin (env := ksEnv q scope L fI (.ref cda) cc) (Mo.glob.keeps kb) T.mS (hb1.keeps kb) ((hb2 _ (by decide)).trans (by decide +kernel : bootBuiltins "super" = some (.type "super"))) ⟨rfl, ?_⟩)
  refine wpAny_loadName_free hk hkc rfl ⟨_, X _ _ hcell, rfl⟩ ?_
  rw [har]
  refine wpAny_loadName_local hk hka hns hv ?_
  refine ks_wpAny_isType_cls (X _ _ hC) rfl ⟨rfl, ?_⟩
  refine ks_wpAny_call_super (X _ _ hC) rfl hx rfl (fun c e => by cases e) (looks_mroIn X T.self) (fun h1 e1 kk1 => ?_)
  have X1 : K.In h1 := X.keeps kk1
  have hx1 := kk1 _ _ hx
  have I1 : InstAt h1 x (excO C t0) C none := ⟨hx1, rfl, rfl, trivial⟩
  refine kxs_getMethod kxs_ValueError e1 (looks_opaque X1 T.opq) (l₀ := .ref C :: bm) (fun A Q E s k q => wpAny_bind ((looks_clsIn X1 hcl) A _ E s k (wpAny_pure q))) rfl X1 hss (I1.type.andThen (looks_subIn X1 T.supB)) hxC rfl ?_
  have hns1 : (h1.push (kxs_mw "ValueError.__init__" x)).Ns L m := hns.keeps fun b o e => Heap.get?_push_of_some _ (kk1 b o e)
  rw [he]
  refine kxs_callWith (i := "ValueError.__init__") (x := x) rfl (evalArgs_plain (Calls.spliced_cons (hmsg _ _ hns1 fun z tk n => Calls.spliced_nil ⟨?_, ?_⟩)))
  · exact Heap.get?_push_size _ rfl
  · refine call_mw (Heap.get?_push_of_some _ (X1 _ _ hC)) (Heap.get?_push_of_some _ hx1) (Heap.get?_push_size _ rfl) (show 1 ≤ sizeLine by decide) fun h' t1 k e => ?_
    exact hq h' _ t1 (fun b o hb ho => k b o hb (Heap.get?_push_of_some _ (kk1 b o ho))) e
end
/-! ### the text -/
def TxE (prog : Program) (w : World) (env : Env) (m : Str → Option Value) (e : Expr) : Prop := ∀ (A : Around) (E : Value → Shared → Prop) (s : Shared) (Q : Value → Shared → Prop), s.heap.Ns env.locals m →
  (∀ (z : Str) tk n, z.length ≤ 100000 → Q (.str z tk) { s with toks := n }) → wpAny (model prog w) A (eval e env) Q E s
/-- what {x!r} is written of -/
def MsgV (v : Value) : Prop := (∃ i t, v = .int i t ∧ i.natAbs.log2 < 1920) ∨ ∃ y t, v = .str y t ∧ (reprText y).length ≤ 100000 ∧ y.length ≤ 100000
section
variable {prog : Program} {w : World} {env : Env} {m : Str → Option Value}
theorem small_size {n : Nat} (h : n ≤ 100000) : n ≤ sizeLine := Nat.le_trans h (by decide)
theorem tx_const {z : Str} {k : Nat} {pos : Pos} (h : z.length ≤ 100000) : TxE prog w env m (.Constant (.str z) k pos) := fun A E s Q _ q => by
  rw [eval_Constant]
  exact wpAny_mkText (q z _ _ h)
theorem ld_name {A : Around} {E : Value → Shared → Prop} {s : Shared} {Q : Value → Shared → Prop} {x : Str} {p : Pos} {v : Value} (hn : s.heap.Ns env.locals m) (hv : m x = some v) (hk : env.scope.kind = .function) (hl : env.kindOf x = some .local) (h : Q v s) (hd : (x == ("__debug__" : Str)) = false := by decide) :
    wpAny (model prog w) A (eval (.Name x p) env) Q E s := wpAny_Name (wpAny_loadName_local hk hl hn hv h) hd
theorem tx_repr {x : Str} {p pos : Pos} {v : Value} (hv : m x = some v) (ok : MsgV v) (hk : env.scope.kind = .function) (hl : env.kindOf x = some .local) (hd : (x == ("__debug__" : Str)) = false := by decide) : TxE prog w env m (.FormattedValue (.Name x p) 114 none pos) := fun A E s Q hn q => by
  refine wpAny_FormattedValue_repr (ld_name hn hv hk hl ?_ hd)
  rcases ok with ⟨i, t, rfl, hz⟩ | ⟨y, t, rfl, hz, _⟩
  · have hl : (Str.ofString (toString i)).length ≤ 100000 := by
      have e := int_text_length_le (k := 1920) (by decide) hz
      rw [PySem.ofString_length]; omega
    exact pyReprObj_int hz (wpAny_formatField_str (q _ _ _ hl) (q _ _ _ hl) (small_size hl))
  · exact pyReprObj_str (wpAny_formatField_str (q _ _ _ hz) (q _ _ _ hz) (small_size hz)) (small_size hz)
theorem tx_plain {x : Str} {p pos : Pos} {v : Value} (hv : m x = some v) (ok : MsgV v) (hk : env.scope.kind = .function) (hl : env.kindOf x = some .local) (hd : (x == ("__debug__" : Str)) = false := by decide) : TxE prog w env m (.FormattedValue (.Name x p) (-1) none pos) := fun A E s Q hn q => by
  refine wpAny_FormattedValue_plain (ld_name hn hv hk hl ?_ hd)
  rcases ok with ⟨i, t, rfl, hz⟩ | ⟨y, t, rfl, _, hz⟩
  · have hl : (Str.ofString (toString i)).length ≤ 100000 := by
      have e := int_text_length_le (k := 1920) (by decide) hz
      rw [PySem.ofString_length]; omega
    exact wpAny_formatField_int hz (q _ _ _ hl)
  · exact wpAny_formatField_str (q y _ s.toks hz) (q _ _ _ hz) (small_size hz)
inductive TxP (prog : Program) (w : World) (env : Env) (m : Str → Option Value) : List Expr → Prop where
  | nil : TxP prog w env m []
  | cons {e : Expr} {es : List Expr} (h : TxE prog w env m e) (r : TxP prog w env m es) : TxP prog w env m (e :: es)
theorem txp_run {es : List Expr} (h : TxP prog w env m es) : ∀ (A : Around) (E : Value → Shared → Prop) (acc : Str) (s : Shared) (R : Str → Shared → Prop), acc.length + 100000 * es.length ≤ sizeLine → s.heap.Ns env.locals m →
    (∀ out n, out.length ≤ sizeLine → R out { s with toks := n }) → Joins (model prog w) A E (evalEach es env) acc R s := by
  induction h with
  | nil =>
    intro A E acc s R hz hn k
    have e0 : evalEach [] env = [] := by first | rfl | simp [evalEach]
    rw [e0]
    exact k acc s.toks (by simpa using hz)
  | @cons e es he r ih =>
    intro A E acc s R hz hn k
    have e0 : evalEach (e :: es) env = eval e env :: evalEach es env := by first | rfl | simp [evalEach]
    rw [e0]
    rw [List.length_cons] at hz
    refine he A E s _ hn fun z tk n hl => ⟨z, tk, rfl, ?_, ?_⟩
    · rw [Str.length_append]; omega
    · refine ih A E (acc ++ z) { s with toks := n } R (by rw [Str.length_append]; omega) hn fun out n' ho => ?_
      exact k out n' ho
theorem tx_joined {v1 v2 : Expr} {rest : List Expr} {pos : Pos} {A : Around} {E : Value → Shared → Prop} {s : Shared} {Q : Value → Shared → Prop} (h : TxP prog w env m (v1 :: v2 :: rest)) (hz : 100000 * (v1 :: v2 :: rest).length ≤ sizeLine) (hn : s.heap.Ns env.locals m)
    (q : ∀ (z : Str) tk n, Q (.str z tk) { s with toks := n }) : wpAny (model prog w) A (eval (.JoinedStr (v1 :: v2 :: rest) pos) env) Q E s :=
  wpAny_JoinedStr (txp_run h A E Str.empty s _ (by rw [show Str.empty.length = 0 from rfl, Nat.zero_add]; exact hz) hn fun out n ho => ⟨ho, q out _ _⟩)
end
/-! ### __init__ of one argument -/
/-- the text of def __init__(self, f): super().__init__(msg); self.f = f -/
structure Sh1 (prog : Program) (w : World) (st : Stmt) (f : Str) : Prop where
  body : ∃ (msg : Expr) (p0 p1 p2 p3 p4 q1 q2 q3 q4 : Pos) (pl : Sem Bool), defBody st = [.Expr (.Call (.Attribute (.Call (.Name "super" p0) [] [] p1) "__init__" p2) [msg] [] p3) p4, .Assign [.Attribute (.Name "self" q1) f q2] (.Name f q3) q4] ∧
    (∀ (q : Str) (L fI cda cc : Addr) (m : Str → Option Value) (v : Value) (A : Around) (E : Value → Shared → Prop) (s : Shared) (Q : Value → Shared → Prop), m f = some v → MsgV v → s.heap.Ns L m → (∀ (z : Str) tk n, Q (.str z tk) { s with toks := n }) →
      wpAny (model prog w) A (eval msg (ksEnv q (defScope st) L fI (.ref cda) cc)) Q E s) ∧
    (∀ (q : Str) (L fI cda cc : Addr), interactive (ksEnv q (defScope st) L fI (.ref cda) cc) = false ∧ starEach [msg] (ksEnv q (defScope st) L fI (.ref cda) cc) = (false, eval msg (ksEnv q (defScope st) L fI (.ref cda) cc)) :: starEach [] (ksEnv q (defScope st) L fI (.ref cda) cc) ∧
      swapsWith (.Call (.Attribute (.Call (.Name "super" p0) [] [] p1) "__init__" p2) [msg] [] p3) none p4.line (ksEnv q (defScope st) L fI (.ref cda) cc) = pure false ∧
      eval (.Call (.Attribute (.Call (.Name "super" p0) [] [] p1) "__init__" p2) [msg] [] p3) (ksEnv q (defScope st) L fI (.ref cda) cc) = (do
        let ov ← attributeBase (.Call (.Name "super" p0) [] [] p1) "__init__" (ksEnv q (defScope st) L fI (.ref cda) cc) (eval (.Call (.Name "super" p0) [] [] p1) (ksEnv q (defScope st) L fI (.ref cda) cc))
        standAt p2.atName
        let (f, first) ← holding [ov] (getMethod ov "__init__" pl)
        callWith p3 f first (backTo p3 (starEach [msg] (ksEnv q (defScope st) L fI (.ref cda) cc))) []) ∧
      swapsWith (.Name f q3) (some (.Attribute (.Name "self" q1) f q2)) q4.line (ksEnv q (defScope st) L fI (.ref cda) cc) = pure false)
  head : ∃ ar, ((defArgs st).posonlyargs ++ (defArgs st).args).head? = some ar ∧ ar.arg = "self"
  ks : (defScope st).names.lookup ("super" : Str) = some .globalImplicit
  kc : (defScope st).names.lookup ("__class__" : Str) = some .free
  ka : (defScope st).names.lookup ("self" : Str) = some .local
  kf : (defScope st).names.lookup f = some .local
  fd : (f == ("__debug__" : Str)) = false
  fs : (("self" : Str) == f) = false
  k : (defScope st).kind = .function
  co : (defScope st).isCoroutine = false
  gen : (defScope st).isGenerator = false
  nocell : ∀ x ∈ (defScope st).names, x.2 ≠ .cell
  binds : ∀ (s : Shared) (x : Addr) (v : Value) (qual : Str) (doc pm : Value) (an : Option Addr) (cda cc : Addr) (ct : Value), BindsTo s (ksFn "__init__" qual (defArgs st) (defBody st) (defScope st) .none .none doc pm an (.ref cda) ct cc) ⟨[.ref x, v], []⟩ [("self", .ref x), (f, v)]
/-- what __init__ leaves of a fresh exception at x -/
structure IEnd (h h' : Heap) (x C dx t1 : Addr) (mA : Str → Option Value) : Prop where
  keep : ∀ b o, b ≠ x → h.get? b = some o → h'.get? b = some o
  obj : h'.get? x = some { cls := .ref C, dict := some dx, data := .fields #[.ref t1, .none, .none, .none, .bool false, .none] }
  dbig : h.objs.size ≤ dx
  dne : dx ≠ x
  ns : h'.Ns1 dx mA
section
variable {prog : Program} {w : World} {A : Around} {E : Value → Shared → Prop} {R : Result → Shared → Prop} {s : Shared} {K : Frag} {mg : Str → Option Value} {base : Heap}
theorem init1 {C fI cc cda x t0 : Addr} {st : Stmt} {f qual : Str} {oc doc pm ct : Value} {od an : Option Addr} {osl : Array (Option Value)} {v : Value} (S : Sh1 prog w st f) (T : Txt prog K mg C fI cc cda) (Mo : Mod K mg base) (kb : ∀ b o, base.get? b = some o → s.heap.get? b = some o)
    (hf : K.lookup fI = some ⟨oc, od, .func (ksFn "__init__" qual (defArgs st) (defBody st) (defScope st) .none .none doc pm an (.ref cda) ct cc), osl⟩) (hcd : codeIn K (.ref cda) qual = true) (noN : findIn K (.ref C) f = some none)
    (hx : s.heap.get? x = some (excO C t0)) (hnx : K.lookup x = none) (hroom : A.depth < recursionLimit) (ok : MsgV v)
    (hq : ∀ h' tk dx t1, IEnd s.heap h' x C dx t1 (fun y => if y = f then some v else none) → R (.ok (.ret .none)) { s with heap := h', toks := tk }) :
    codeAny (model prog w) A (.call (.ref fI) ⟨[.ref x, v], []⟩) R s := by
  obtain ⟨msg, p0, p1, p2, p3, p4, q1, q2, q3, q4, pl, hb, hmsg, hev⟩ := S.body
  obtain ⟨ar, har, hself⟩ := S.head
  obtain ⟨nm, q0, N, bs, bm, sn, sub, ab, col, dd, k0, k1, k2, k3, k5, hC, hbm⟩ := T.cls
  have hcl := clsIn_of hC
  have X : K.In s.heap := Mo.kin.keeps kb
  refine ks_codeAny_call_defAt (fd := ksFn "__init__" qual (defArgs st) (defBody st) (defScope st) .none .none doc pm an (.ref cda) ct cc) (body := defBody st) (binds := [("self", .ref x), (f, v)]) hroom (X _ _ hf) rfl (Mo.nolimit.keeps kb) (codeRec_of X hcd) rfl (S.binds s x v qual doc pm an cda cc ct) S.nocell (fun y hy => ?_) (fun h1 hns k1 => ?_) S.co S.gen S.k
  · rcases List.mem_cons.mp hy with rfl | hy
    · exact S.ka
    · rw [List.mem_singleton.mp hy]; exact S.kf
  · have hx1 := k1 _ _ hx
    have kb1 : ∀ b o, base.get? b = some o → h1.get? b = some o := fun b o e => k1 b o (kb b o e)
    obtain ⟨e0, e1, e2, e3, e4⟩ := hev qual s.heap.objs.size fI cda cc
    have hv1 : (fun y => List.lookup y [(("self" : Str), Value.ref x), (f, v)].reverse) "self" = some (.ref x) := by
      show List.lookup ("self" : Str) ([(f, v), (("self" : Str), Value.ref x)] : List (Str × Value)) = _
      simp [List.lookup, S.fs]
    have hv2 : (fun y => List.lookup y [(("self" : Str), Value.ref x), (f, v)].reverse) f = some v := by
      show List.lookup f ([(f, v), (("self" : Str), Value.ref x)] : List (Str × Value)) = _
      simp [List.lookup]
    show PySem.wpAt (model prog w) (A.deeper (ksEnv qual (defScope st) s.heap.objs.size fI (.ref cda) cc)) (.func (defBody st) (ksEnv qual (defScope st) s.heap.objs.size fI (.ref cda) cc)) (execs (defBody st) (ksEnv qual (defScope st) s.heap.objs.size fI (.ref cda) cc)) _ _ _
    generalize hbb : defBody st = bb at hb ⊢
    rw [hb]
    refine ks_wpAt_execs_cons (super_stmt (pl := pl) T Mo kb1 hf har hself S.ks S.kc S.ka S.k hns hv1 hx1 (fun s' Q' hn q => hmsg _ _ _ _ _ _ v _ _ _ _ hv2 ok hn q) (fun h2 tk2 t1 k2 hx2 => ?_) e0 e1 e2 e3)
    refine wpAt_of_wpAny ?_
    have hL : s.heap.objs.size ≠ x := Nat.ne_of_gt (Heap.lt_size hx)
    obtain ⟨oL, es, ep, hoL, hr⟩ := hns
    have hns2 : h2.Ns s.heap.objs.size (fun y => List.lookup y [(("self" : Str), Value.ref x), (f, v)].reverse) := ⟨oL, es, ep, k2 _ _ hL hoL, hr⟩
    have X2 : K.In h2 := fun b o e => k2 b o (fun z => by rw [z, hnx] at e; cases e) (k1 b o (X _ _ e))
    refine wpAny_execs_cons (plainObj_wpAny_Assign_Attribute ?_ e4)
    refine ld_name (v := v) hns2 hv2 S.k S.kf (ld_name (v := .ref x) hns2 hv1 S.k S.ka ?_) S.fd
    refine set_plain X2 (ox := excO C t1) (od := none) ⟨hx2, rfl, rfl, trivial⟩ T.sa ?_
    refine PySem.HandSPX.exc_osa X2 hx2 hcl (show refsVE (.ref C :: bm) = true from hbm) rfl noN (fun h3 tk3 dx k3 dn dne hx3 hn3 => ?_)
    have z : s.heap.objs.size ≤ h2.objs.size := Nat.le_of_lt (Heap.lt_size (k2 _ _ hL hoL))
    exact wpAny_execs_nil (hq h3 _ dx t1 ⟨fun b o hb e => k3 b o hb (k2 b o hb (k1 b o e)), hx3, Nat.le_trans z dn, dne, hn3⟩)
/-- a made error: its own dict d holds the field -/
structure Made (h h' : Heap) (e C d : Addr) (mA : Str → Option Value) : Prop where
  keep : ∀ b o, h.get? b = some o → h'.get? b = some o
  new : h.objs.size ≤ e
  obj : ∃ oe vs, h'.get? e = some oe ∧ oe.cls = .ref C ∧ oe.dict = some d ∧ oe.data = .fields vs ∧ vs[1]? = some .none
  dbig : h.objs.size ≤ d
  dne : d ≠ e
  ns : h'.Ns1 d mA
/-- all that is told of an own error class of one argument -/
structure Cls1 (prog : Program) (w : World) (K : Frag) (mg : Str → Option Value) (cn f : Str) (C : Addr) : Prop where
  ex : ∃ (fI cc cda : Addr) (st : Stmt) (qual : Str) (oc doc pm ct : Value) (od an : Option Addr) (osl : Array (Option Value)), Sh1 prog w st f ∧ Txt prog K mg C fI cc cda ∧
    K.lookup fI = some ⟨oc, od, .func (ksFn "__init__" qual (defArgs st) (defBody st) (defScope st) .none .none doc pm an (.ref cda) ct cc), osl⟩ ∧ codeIn K (.ref cda) qual = true
  gC : mg cn = some (.ref C)
  kC : keepIn K (.ref C) = true
  noN : findIn K (.ref C) f = some none
  exC : subIn K (.ref C) (.type "BaseException") = some true
  tyC : typeIn K (.ref C) = some (.type "type")
theorem one_size (v : Value) : [v].length ≤ sizeLine := by
  rw [sizeLine_eq]
  exact (by decide : 1 ≤ 16777216)
theorem made1 {cn f : Str} {C : Addr} {v : Value} (Z : Cls1 prog w K mg cn f C) (Mo : Mod K mg base) (kb : ∀ b o, base.get? b = some o → s.heap.get? b = some o) (hroom : A.depth + 1 < recursionLimit) (ok : MsgV v)
    (hq : ∀ h' tk e d, Made s.heap h' e C d (fun y => if y = f then some v else none) → R (.ok (.ret (.ref e))) { s with heap := h', toks := tk }) :
    codeAny (model prog w) A (.call (.ref C) ⟨[v], []⟩) R s := by
  obtain ⟨fI, cc, cda, st, qual, oc, doc, pm, ct, od, an, osl, S, T, hf, hcd⟩ := Z.ex
  obtain ⟨nm, q, N, bs, bm, sn, sub, ab, col, dd, k0, k1, k2, k3, k5, hC, hbm⟩ := T.cls
  have X : K.In s.heap := Mo.kin.keeps kb
  obtain ⟨hp, g, dr, tk, os⟩ := s
  have k : ∀ b o, hp.get? b = some o → ((hp.push (kdv_tup [v])).push (excO C hp.objs.size)).get? b = some o := fun b o e => Heap.get?_push_of_some _ (Heap.get?_push_of_some _ e)
  have hget : ((hp.push (kdv_tup [v])).push (excO C hp.objs.size)).get? (hp.objs.size + 1) = some (excO C hp.objs.size) := by heap_get
  have hnx : K.lookup (hp.objs.size + 1) = none := by
    cases e : K.lookup (hp.objs.size + 1) with
    | none => rfl
    | some o =>
      have z : hp.get? (hp.objs.size + 1) = some o := X _ _ e
      exact absurd (Nat.lt_of_succ_lt (Heap.lt_size z)) (Nat.lt_irrefl _)
  refine PySem.HandSPX.call_own F.excBase_ValueError (fun X => PySem.HandSPX.refsVE_contains X bm hbm) (X _ _ hC) (looks_findIn X T.iC) (fun self => bind_fn X self T.tI) (one_size v) ?_
  refine init1 (s := ⟨(hp.push (kdv_tup [v])).push (excO C hp.objs.size), g, dr, tk, os⟩) S T Mo (fun b o e => k b o (kb b o e)) hf hcd Z.noN hget hnx ?_ ok fun h' tk' dx t1 ⟨k', hx, dn, dne, hns⟩ => ?_
  · show A.depth + 1 < recursionLimit
    exact hroom
  · have old : ∀ b o, hp.get? b = some o → h'.get? b = some o := fun b o e => k' b o (Nat.ne_of_lt (Nat.lt_succ_of_lt (Heap.lt_size e))) (k b o e)
    have z : hp.objs.size + 1 + 1 ≤ dx := by
      first
        | (simpa only [Heap.size_push] using dn)
        | exact dn
        | (have q := dn; rw [Heap.size_push, Heap.size_push] at q; exact q)
    exact ⟨rfl, hq h' tk' (hp.objs.size + 1) dx ⟨old, Nat.le_succ _, ⟨_, _, hx, rfl, rfl, rfl, rfl⟩, Nat.le_trans (Nat.le_trans (Nat.le_succ _) (Nat.le_succ _)) z, dne, hns⟩⟩
end
theorem relO_one {f : Str} {v : V} {v' : Value} (r : RelV v v') (g : Str) : RelO (List.lookup g [(f, v)]) (if g = f then some v' else none) := by
  by_cases hw : g = f
  · subst hw
    rw [if_pos rfl]
    have q : List.lookup g [(g, v)] = some v := by simp [List.lookup]
    rw [q]
    exact r
  · rw [if_neg hw]
    have qw : (g == f) = false := by simpa using hw
    have q2 : List.lookup g [(f, v)] = none := by simp [List.lookup, qw]
    rw [q2]
    trivial
/-- what may be written in the message: ints below 2 ^ 1920, short texts -/
def MsgA (v : V) : Prop := (∃ i, v = .int i ∧ i.natAbs.log2 < 1920) ∨ ∃ y, v = .str y ∧ (reprText y).length ≤ 100000 ∧ y.length ≤ 100000
theorem MsgA.v {v : V} {u : Value} (h : MsgA v) (r : RelV v u) : MsgV u := by
  rcases h with ⟨i, rfl, h⟩ | ⟨y, rfl, h⟩
  · obtain ⟨t, rfl⟩ := r; exact .inl ⟨i, t, rfl, h⟩
  · obtain ⟨t, rfl⟩ := r; exact .inr ⟨y, t, rfl, h⟩
section
variable {X : Cx} {C : Addr}
/-- the error of one argument, made -/
def tMk1 (C : Addr) (f : Str) (ta : TA) : L2.St → Hp → XK → Prop := fun σ H Q => ta σ H fun vs H1 => ∃ v, vs = [v] ∧ MsgA v ∧ ∀ d, H1 d = none → Q (.ref C) (some d) (upd H1 d (.xd [(f, v)]))
theorem pmk1 {cn f : Str} {a : Expr} {ta : TA} {p pos : Pos} {k : Nat} (Z : Cls1 X.prog X.w X.K X.mg cn f C) (hr : Room k X.A) (ha : PA X [a] ta) (hg : Gl X cn := by rfl) (hdb : (cn == ("__debug__" : Str)) = false := by decide)
    (he : starEach (a :: []) X.env = (false, eval a X.env) :: starEach [] X.env := by rfl) (hpl : (backTo pos (starEach [] X.env)).any (·.1) = false := by rfl) :
    PMk X (.Call (.Name cn p) [a] [] pos) (tMk1 C f ta) := by
  intro pins s σ H Q I h
  refine wpAny_Call_Name_kw (ld_glob I hg Z.gC ?_ hdb)
  refine PySem.W.callWith_K (h₀ := X.base) I.ok.mod.kin Z.kC (thn (ha.run pos pins s σ H _ I h) fun us s1 hh => ?_) he hpl
  obtain ⟨vs, H1, I1, r1, v, ev, hok, q1⟩ := hh
  subst ev
  refine ⟨I1.kIn, ?_⟩
  cases r1 with
  | cons rv rn =>
    rename_i v' us'
    cases rn
    show wpAny _ _ (call (.ref C) [v']) _ _ _
    have hbk := I1.bk
    obtain ⟨hp, g, dr, tk, os⟩ := s1
    refine wpAny_call (made1 Z I1.mod hbk (by have := hr.dp; omega) (hok.v rv) fun h' tk' e d M => ?_)
    show MkP X pins σ Q (.ref e) ⟨h', g, dr, tk', os⟩
    obtain ⟨oe, fv, hoe, hc, hd, hdat, h1⟩ := M.obj
    have hns := M.ns
    obtain ⟨G', g1, g2⟩ := restrict h' fun b => decide (b ≠ e)
    have gk : ∀ b, b ≠ e → G'.get? b = h'.get? b := fun b hb => g1 b (decide_eq_true hb)
    have ge : G'.get? e = none := g2 e (by simp)
    have old : ∀ b o, hp.get? b = some o → G'.get? b = some o := fun b o q => (gk b (Nat.ne_of_lt (Nat.lt_of_lt_of_le (Heap.lt_size q) M.new))).trans (M.keep b o q)
    have ob : ObjOk X.prog X.w (upd H1 d (.xd [(f, v)])) G' d (.xd [(f, v)]) :=
      ⟨_, hns.at (fun o q => (gk d M.dne).trans q), fun g => relO_one rv g⟩
    have J : Inv X pins σ (upd H1 d (.xd [(f, v)])) ⟨G', g, dr, tk', os⟩ := I1.laid (t' := tk') old M.dbig ob
    refine ⟨e, oe, fv, ⟨G', g, dr, tk', os⟩, _, .ref C, some d, rfl, J, fun b o q => ?_, ge, hoe, ⟨hc, hd⟩, hdat, h1, ?_, rfl, I1.bare, raises_own Z.exC Z.tyC, q1 d (I1.hok.fresh M.dbig)⟩
    · by_cases hb : b = e
      · have q' : G'.get? b = some o := q
        rw [hb, ge] at q'; cases q'
      · exact (gk b hb).symm.trans q
    · rw [upd_ne (Ne.symm M.dne)]
      exact I1.hok.fresh M.new
/-- raise C(e) -/
def tRaise1 (C : Addr) (f : Str) (W : WX) (ta : TA) : TS := fun _ σ H => tMk1 C f ta σ H fun cls d H' => W cls d σ H'
theorem ps_raise1 {cn f : Str} {a : Expr} {ta : TA} {W : WX} {p pos pos2 : Pos} {k : Nat} (hc : X.calm = true) (Z : Cls1 X.prog X.w X.K X.mg cn f C) (hr : Room k X.A) (tk : Takes X W) (ha : PA X [a] ta) (hg : Gl X cn := by rfl) (hdb : (cn == ("__debug__" : Str)) = false := by decide)
    (he : starEach (a :: []) X.env = (false, eval a X.env) :: starEach [] X.env := by rfl) (hpl : (backTo pos (starEach [] X.env)).any (·.1) = false := by rfl) :
    PS X (.Raise (some (.Call (.Name cn p) [a] [] pos)) none pos2) (tRaise1 C f W ta) := ps_raise hc tk (pmk1 Z hr ha hg hdb he hpl)
end
theorem r_raise1 {C : Addr} {f : Str} {W : WX} {ta : TA} {D : Ends} {σ : L2.St} {H : Hp} (k : ta σ H fun vs H1 => ∃ v, vs = [v] ∧ MsgA v ∧ ∀ d, H1 d = none → W (.ref C) (some d) σ (upd H1 d (.xd [(f, v)]))) : tRaise1 C f W ta D σ H := k
theorem r_msgI {i : Int} {F : V → Prop} (h : i.natAbs < 2 ^ 1000) (k : F (.int i)) : ∃ v, [V.int i] = [v] ∧ MsgA v ∧ F v := ⟨_, rfl, .inl ⟨i, rfl, Nat.lt_trans (log2_of h (by decide)) (by decide)⟩, k⟩
theorem r_msgS {y : Str} {F : V → Prop} (h : (reprText y).length ≤ 100000) (h2 : y.length ≤ 100000) (k : F (.str y)) : ∃ v, [V.str y] = [v] ∧ MsgA v ∧ F v := ⟨_, rfl, .inr ⟨y, rfl, h, h2⟩, k⟩
theorem r_xf {a C : Addr} {cls : Value} {d : Option Addr} {f : Str} {te : TE} {σ : L2.St} {H : Hp} {Q : VK}
    (k : te σ H fun x H1 => x = .ref a ∧ cls = .ref C ∧ ∃ (dd : Addr) (fs : List (Str × V)) (v : V), d = some dd ∧ H1 dd = some (.xd fs) ∧ fs.lookup f = some v ∧ Q v H1) : tXf a cls d C f te σ H Q := k
theorem r_xfE {a C dd : Addr} {f : Str} {H : Hp} {fs : List (Str × V)} {v : V} {Q : V → Prop} (hd : H dd = some (.xd fs)) (hv : fs.lookup f = some v) (k : Q v) :
    V.ref a = .ref a ∧ Value.ref C = .ref C ∧ ∃ (dd' : Addr) (fs : List (Str × V)) (v : V), some dd = some dd' ∧ H dd' = some (.xd fs) ∧ fs.lookup f = some v ∧ Q v := ⟨rfl, rfl, dd, fs, v, rfl, hd, hv, k⟩
theorem kit_self {K : PySem.W.Frag} {C : Addr} : PySem.W.kitOne K (.ref C) (.ref C) = some true := by
  unfold PySem.W.kitOne
  rw [if_pos (beq_self_eq_true _)]
theorem kit_refs {K : PySem.W.Frag} {C D : Addr} {b : Bool} (hdct : PySem.W.hasDictIn K D = true) (ht : PySem.W.typeIn K (.ref D) = some (.type "type")) (h4 : PySem.W.subIn K (.ref C) (.ref D) = some b) (hq : (Value.ref C == Value.ref D) = false) : PySem.W.kitOne K (.ref C) (.ref D) = some b := by
  obtain ⟨cd, hc, _⟩ := PySem.W.any_some hdct
  have e2 : ((PySem.W.clsIn K D).isSome && PySem.W.typeIn K (.ref D) == some (.type "type")) = true := by rw [hc, ht] <;> rfl
  unfold PySem.W.kitOne
  rw [if_neg (by rw [hq]; decide)]
  show (if ((PySem.W.clsIn K D).isSome && PySem.W.typeIn K (.ref D) == some (.type "type")) = true then PySem.W.subIn K (.ref C) (.ref D) else none) = some b
  rw [if_pos e2]
  exact h4
theorem kit_typ {K : PySem.W.Frag} {C : Addr} {T : String} {b : Bool} (hm : PySem.W.kitMeta T = true) (h4 : PySem.W.subIn K (.ref C) (.type T) = some b) : PySem.W.kitOne K (.ref C) (.type T) = some b := by
  unfold PySem.W.kitOne
  rw [if_neg (by show ¬ (Value.ref C == Value.type T) = true; intro z; cases (beq_iff_eq.mp z))]
  show (if PySem.W.kitMeta T = true then PySem.W.subIn K (.ref C) (.type T) else none) = some b
  rw [if_pos hm]
  exact h4
/-- the comparison within an except suite -/
theorem op_eqDK {X : Cx} {K : PySem.W.Frag} (hK : X.K = K) (hu : X.A.units + 64 < cLine) : OpR X (compareOp .Eq) (rEqD K) := by subst hK; exact op_eqD hu
theorem op_neDK {X : Cx} {K : PySem.W.Frag} (hK : X.K = K) (hu : X.A.units + 64 < cLine) : OpR X (compareOp .NotEq) (rNeD K) := by subst hK; exact op_neD hu
/-! ### isinstance(e, c), e a caught error of an own class with its dict -/
def rIsD (K : PySem.W.Frag) (a : Addr) (cls : Value) (d : Option Addr) : List V → Hp → VK → Prop := fun xs H Q => ∃ (D dd : Addr) (fs : List (Str × V)) (c : V) (cv : Value) (b : Bool), cls = .ref D ∧ d = some dd ∧ ExcC K D ∧ xs = [.ref a, c] ∧ H dd = some (.xd fs) ∧ (∀ u, RelV c u → u = cv) ∧ PySem.W.kitOne K (.ref D) cv = some b ∧ Q (.bl b) H
theorem call_isD {X : Cx} {a : Addr} {cls : Value} {d : Option Addr} {oe : Obj} {pn : List (Addr × Obj)} (hz : Zc cls d oe) (hf : ∃ vs, oe.data = .fields vs) : CallR (X.suite a ((a, oe) :: pn)) (.builtin "isinstance") (rIsD X.K a cls d) := by
  intro pins s σ H xs us Q I r h
  obtain ⟨D, dd, fs, c, cv, b, rfl, rfl, C, rfl, hdd, hcv, e, q⟩ := h
  cases r with
  | cons rx rr =>
    cases rr with
    | cons rt rr =>
      cases rr
      cases rx
      have ec := hcv _ rt
      subst ec
      obtain ⟨hget, _⟩ := I.pin (a, oe) (List.mem_append.mpr (.inl List.mem_cons_self))
      obtain ⟨vs, hv⟩ := hf
      have hx : ObjOk X.prog X.w H s.heap dd (.xd fs) := I.hok dd _ hdd
      obtain ⟨mA, ⟨od, es, ep, ho, hr⟩, hl⟩ := hx
      have J : PySem.W.InstAt s.heap a oe D (some od) := by
        refine ⟨hget, hz.1, by unfold PySem.W.notCls; rw [hv] <;> rfl, ?_⟩
        rw [hz.2]; exact ho
      obtain ⟨cd, hcd, _⟩ := PySem.W.any_some C.hd
      exact PySem.W.kia_one (PySem.W.kitx_exc (by rw [hcd]; rfl) C.hg C.hk C.hs C.ha C.hn C.ht C.hm) I.kIn J e (fun z => nomatch z) fun tk => ⟨.bl b, H, I.kept (t' := tk) fun _ _ z => z, rfl, q⟩
theorem r_isD {K : PySem.W.Frag} {a D dd : Addr} {fs : List (Str × V)} {c : V} {cv : Value} {b : Bool} {H : Hp} {Q : VK} (C : ExcC K D) (hd : H dd = some (.xd fs)) (hc : ∀ u, RelV c u → u = cv) (hk : PySem.W.kitOne K (.ref D) cv = some b) (k : Q (.bl b) H) :
    rIsD K a (.ref D) (some dd) [.ref a, c] H Q := ⟨D, dd, fs, c, cv, b, rfl, rfl, C, rfl, hd, hc, hk, k⟩
end Er
/-! ### operators of own classes, over the layer -/
namespace Ow
open PySem.W PySem.Calls
theorem inst_of {X : Cx} {pins : List (Addr × Obj)} {σ : L2.St} {H : Hp} {s : Shared} {a C dx : Addr} {fs : List (Str × V)} (I : Inv X pins σ H s) (h : H a = some (.ins C dx fs)) : ∃ ox od, InstAt s.heap a ox C od ∧ ox.data = .plain := by
  obtain ⟨mA, O, _⟩ := ins_get I.hok h
  obtain ⟨od, J, _⟩ := O.look
  exact ⟨_, _, J, rfl⟩
theorem not_ni {v : V} {u : Value} (r : RelV v u) : u ≠ .notImplemented := by
  rintro rfl
  cases v <;> first | (cases r; done) | (obtain ⟨t, e⟩ := r; cases e)
theorem cmpBack {X : Cx} {pins : List (Addr × Obj)} {σ : L2.St} {Q : VK} {u : Value} {s : Shared} (h : EP X pins σ Q u s) : PySem.W.CmpBack (EP X pins σ Q) u s := by
  obtain ⟨v, H', I, r, q⟩ := id h
  have n := not_ni r
  cases u <;> first | exact h | exact absurd rfl n
section
variable {X : Cx} {CX : CXT} {k : Nat} {C f : Addr} {sp : Sp} {E : XK}
/-- the callee, with values -/
theorem run_own {pins : List (Addr × Obj)} {σ : L2.St} {H : Hp} {s : Shared} {Q : VK} {us : List Value} {vs : List V} (F : FnR X.prog X.w X.K X.mg X.base CX k f sp) (hr : Room k X.A) (hx : Passes CX X E) (I : Inv X pins σ H s) (r : Vals vs us) (h : sp vs H Q E) :
    wpAny (model X.prog X.w) X.A (call (.ref f) us) (EP X pins σ Q) X.xe s := wpAny_call (run_fnR F hr hx I r h)
/-- x op y, both of the class C -/
def rOwn2 (C : Addr) (sp : Sp) (E : XK) : R2 := fun x y H Q => ∃ a dx fs b dy gs, x = .ref a ∧ y = .ref b ∧ H a = some (.ins C dx fs) ∧ H b = some (.ins C dy gs) ∧ sp [x, y] H Q E
theorem op_own2 {op : Operator} {m : Str} (sf : selfFirst X.K C = true) (M : Meth X.K C m f) (F : FnR X.prog X.w X.K X.mg X.base CX k f sp) (hr : Room k X.A) (hx : Passes CX X E) (hm : PySem.dunder op.info.2 = m := by rfl) : OpR X (binaryOp op) (rOwn2 C sp E) := by
  intro pins s σ H x y v u Q I rx ry h
  obtain ⟨a, dx, fs, b, dy, gs, rfl, rfl, ha, hb, q⟩ := h
  obtain rfl : v = Value.ref a := rx
  obtain rfl : u = Value.ref b := ry
  obtain ⟨ox, od, J, _⟩ := inst_of I ha
  obtain ⟨oy, od', J', _⟩ := inst_of I hb
  obtain ⟨mm, Fm⟩ := I.fr
  refine binop_K Fm I.ok.mod.kin J J'.type sf (by rw [hm]; exact M.at_) M.fn ?_
  exact wpAny_mono (run_own (vs := [.ref a, .ref b]) F hr hx I (.cons rfl (.cons rfl .nil)) q) (fun _ _ z => cmpBack z) fun _ _ e => e
/-- x op n, x of the class C, n an int -/
def rOwnI (C : Addr) (sp : Sp) (E : XK) : R2 := fun x y H Q => ∃ a dx fs n, x = .ref a ∧ y = .int n ∧ H a = some (.ins C dx fs) ∧ sp [x, y] H Q E
theorem op_ownI {op : Operator} {m mr : Str} {fo ro rc : Option Value} (sf : selfFirst X.K C = true) (M : Meth X.K C m f) (F : FnR X.prog X.w X.K X.mg X.base CX k f sp) (hr : Room k X.A) (hx : Passes CX X E)
    (hrc : findIn X.K (.ref C) mr = some rc) (hp : rc = none ∨ ∃ g : Addr, rc = some (.ref g)) (h1 : findIn X.K (.type "int") m = some fo) (h2 : findIn X.K (.type "int") mr = some ro) (hs : subIn X.K (.type "int") (.ref C) = some false)
    (hm : PySem.dunder op.info.2 = m := by rfl) (hmr : dunderR op.info.2 = mr := by rfl) : OpR X (binaryOp op) (rOwnI C sp E) := by
  intro pins s σ H x y v u Q I rx ry h
  obtain ⟨a, dx, fs, n, rfl, rfl, ha, q⟩ := h
  obtain rfl : v = Value.ref a := rx
  obtain ⟨t, rfl⟩ := ry
  obtain ⟨ox, od, J, _⟩ := inst_of I ha
  obtain ⟨mm, Fm⟩ := I.fr
  subst hm hmr
  refine ksp_binT Fm I.ok.mod.kin J (T := "int") rfl sf M.at_ M.fn hrc hp h1 h2 hs ?_
  exact wpAny_mono (run_own (vs := [.ref a, .int n]) F hr hx I (.cons rfl (.cons ⟨t, rfl⟩ .nil)) q) (fun _ _ z => cmpBack z) fun _ _ e => e
/-- -x -/
def rOwn1 (C : Addr) (sp : Sp) (E : XK) : V → Hp → VK → Prop := fun x H Q => ∃ a dx fs, x = .ref a ∧ H a = some (.ins C dx fs) ∧ sp [x] H Q E
theorem un_ownNeg (M : Meth X.K C "__neg__" f) (F : FnR X.prog X.w X.K X.mg X.base CX k f sp) (hr : Room k X.A) (hx : Passes CX X E) : UnR X (unaryOp .USub) (rOwn1 C sp E) := by
  intro pins s σ H x v Q I rx h
  obtain ⟨a, dx, fs, rfl, ha, q⟩ := h
  obtain rfl : v = Value.ref a := rx
  obtain ⟨ox, od, J, _⟩ := inst_of I ha
  obtain ⟨mm, Fm⟩ := I.fr
  exact ksp_neg Fm I.ok.mod.kin J M.at_ M.fn (run_own (vs := [.ref a]) F hr hx I (.cons rfl .nil) q)
/-- x == y, both of the class C -/
theorem op_ownEq {op : CmpOp} {m : Str} (M : Meth X.K C m f) (F : FnR X.prog X.w X.K X.mg X.base CX k f sp) (hr : Room k X.A) (hx : Passes CX X E) (hu : X.A.units < cLine) (hm : (cmpInfo op).2.1 = m := by rfl)
    (ho : ∀ a b, compareOp op a b = richCompare op a b := by intro _ _; rfl) : OpR X (compareOp op) (rOwn2 C sp E) := by
  intro pins s σ H x y v u Q I rx ry h
  obtain ⟨a, dx, fs, b, dy, gs, rfl, rfl, ha, hb, q⟩ := h
  obtain rfl : v = Value.ref a := rx
  obtain rfl : u = Value.ref b := ry
  obtain ⟨ox, od, J, _⟩ := inst_of I ha
  obtain ⟨oy, od', J', _⟩ := inst_of I hb
  obtain ⟨mm, Fm⟩ := I.fr
  rw [ho]
  refine cmp_K hu Fm I.ok.mod.kin J J'.type (by unfold notFirst; rw [beq_self_eq_true]; rfl) (by rw [hm]; exact M.at_) M.fn ?_
  exact wpAny_mono (run_own (vs := [.ref a, .ref b]) F hr hx I (.cons rfl (.cons rfl .nil)) q) (fun _ _ z => cmpBack z) fun _ _ e => e
end
section
open PySem.Builtin
theorem int_mul_own (a : Int) (t : Tok) (x C dx : Addr) :
    Meets (Builtin.«int.__mul__» ⟨[.int a t, .ref x], []⟩) (fun _ R s => s.heap.get? x = some (PySem.W.instObj C dx) ∧ R (.ok (.ret Value.notImplemented)) s) :=
  .of_wp fun prog w A R s ⟨hl, h⟩ => by
    obtain ⟨hp, g, d, tk, os⟩ := s
    wp_walk
    exact ⟨_, rfl, h⟩
theorem decl_gen {prog : Program} {w : World} {A : Around} {E : Value → Shared → Prop} {s : Shared} {self other : Value} {T id : String} {name : Str} {B : Builtin} {Q : Option Value → Shared → Prop} (hT : s.TypeIs self T) (h : Slot T name id) (entry : entryFor table id = some B)
    (args : argsOk id ⟨[self, other], []⟩) (hm : wpAny (model prog w) A.in1 (B ⟨[self, other], []⟩) (GQ.FinOf prog w A (wants (fun v s' => v = Value.notImplemented ∧ Q none s') E)) (fun e s' => wants (fun v s' => v = Value.notImplemented ∧ Q none s') E (.error e) s') s) :
    wpAny (model prog w) A (tryMethod self name other) Q E s := by
  refine wpAny_tryMethod_declines hT h ?_
  exact GQ.call_here h hT entry args hm
theorem int_declines {prog : Program} {w : World} {A : Around} {E : Value → Shared → Prop} {s : Shared} {x C dx : Addr} {i : Int} {t : Tok} {Q : Option Value → Shared → Prop} (hx : s.heap.get? x = some (instObj C dx)) (q : Q none s) :
    wpAny (model prog w) A (tryMethod (.int i t) (PySem.dunder "mul") (.ref x)) Q E s := by
  have h1 := @decl_gen prog w A E s (.int i t) (.ref x) "int" "int.__mul__" (PySem.dunder "mul") Builtin.«int.__mul__» Q
  have h2 := h1 (typeIs_int _ _ _) 
  have h3 := h2 PySem.F.slot_int_mul
  have h4 := h3 PySem.F.entry_int_mul 
  have h5 := h4 (PySem.F.args_int_mul_2 _ _)
  refine h5 ?_
  exact (int_mul_own i t x C dx prog w A (wants (fun v s' => v = Value.notImplemented ∧ Q none s') E) s ⟨hx, rfl, q⟩)
section
variable {prog : Program} {w : World} {A : Around} {E : Value → Shared → Prop} {s : Shared} {K : Frag} {x C dx f : Addr} {od : Obj}
theorem int_own {i : Int} {t : Tok} {g : Addr} {Q : Value → Shared → Prop} (X : K.In s.heap) (I : InstAt s.heap x (instObj C dx) C (some od)) (hc : selfFirst K C = true) (hm : findIn K (.ref C) "__mul__" = some (some (.ref g)))
    (hs : findIn K (.ref C) "__rmul__" = some (some (.ref f))) (hf : isFn K (.ref f) = true) (hsub : subIn K (.ref C) (.type "int") = some false) (h : wpAny (model prog w) A (call (.ref f) [.ref x, .int i t]) (PySem.W.CmpBack Q) E s) :
    wpAny (model prog w) A (binaryOp .Mult (.int i t) (.ref x)) Q E s := by
  obtain ⟨cd, rest, hcd, hmro⟩ := ksp_first hc
  have one := ksp_try (name := "__rmul__") X I hs hf h
  have L1 : Looks (model prog w) s.heap (typeOf (.int i t)) (.type "int") := Looks.of_pure rfl
  have L2 : Looks (model prog w) s.heap (typeOf (.ref x)) (.ref C) := I.type
  obtain ⟨hh, g', d, tt, os⟩ := s
  have L3 : Looks (model prog w) hh (fillsNumberSlot (.type "int") "mul") true := Looks.of_pure PySem.F.fills_int_mul
  have L4 : Looks (model prog w) hh (fillsNumberSlot (.ref C) "mul") true := fills_K X hcd hmro hm
  have L5 : Looks (model prog w) hh (isSubtype (.ref C) (.type "int")) false := looks_subIn X hsub
  have L7 : Looks (model prog w) hh (numberSlotInPython (.type "int") "mul") false := Looks.of_pure rfl
  have hne : (Value.type "int" == Value.ref C) = false := Bool.eq_false_iff.mpr fun q => by cases beq_iff_eq.mp q
  unfold binaryOp binaryOp1
  refine wpAny_holding (wpAny_bind ?_)
  refine wpAny_bind (L1.at (wpAny_bind (L2.at (wpAny_bind (L3.at ?_)))))
  simp only [hne, Bool.false_eq_true, if_false]
  ksp_lk
  refine int_declines I.at_ ?_
  ksp_lk
  refine wpAny_mono one (fun r s' hr' => ?_) fun _ _ e => e
  obtain ⟨v, rfl, hq⟩ := hr'
  ksp_lk
  exact hq
end
end
section
variable {X : Cx} {CX : CXT} {k : Nat} {C f : Addr} {sp : Sp} {E : XK}
/-- n * x, n an int, x of the class C: the reflected method -/
def rIntOwn (C : Addr) (sp : Sp) (E : XK) : R2 := fun x y H Q => ∃ b dx fs n, x = .int n ∧ y = .ref b ∧ H b = some (.ins C dx fs) ∧ sp [y, x] H Q E
theorem op_intMul {g : Addr} (sf : selfFirst X.K C = true) (M0 : Meth X.K C "__mul__" g) (M : Meth X.K C "__rmul__" f) (hs : subIn X.K (.ref C) (.type "int") = some false) (F : FnR X.prog X.w X.K X.mg X.base CX k f sp) (hr : Room k X.A) (hx : Passes CX X E) : OpR X (binaryOp .Mult) (rIntOwn C sp E) := by
  intro pins s σ H x y v u Q I rx ry h
  obtain ⟨b, dx, fs, n, rfl, rfl, hb, q⟩ := h
  obtain ⟨t, rfl⟩ := rx
  obtain rfl : u = Value.ref b := ry
  obtain ⟨mA, O, _⟩ := ins_get I.hok hb
  obtain ⟨od, J, _⟩ := O.look
  exact int_own I.kIn J sf M0.at_ M.at_ M.fn hs (wpAny_mono (run_own (vs := [.ref b, .int n]) F hr hx I (.cons rfl (.cons ⟨t, rfl⟩ .nil)) q) (fun _ _ z => cmpBack z) fun _ _ e => e)
/-- str(x), x of the class C -/
def rStrOwn (C : Addr) (sp : Sp) (E : XK) : List V → Hp → VK → Prop := fun xs H Q => ∃ a dx fs, xs = [.ref a] ∧ H a = some (.ins C dx fs) ∧ sp [.ref a] H (fun v H' => ∃ z, v = .str z ∧ Q v H') E
theorem call_strOwn (M : Meth X.K C "__str__" f) (F : FnR X.prog X.w X.K X.mg X.base CX k f sp) (hr : Room (k + 2) X.A) (hx : Passes CX X E) : CallR X (.type "str") (rStrOwn C sp E) := by
  intro pins s σ H xs us Q I r h
  obtain ⟨a, dx, fs, rfl, ha, q⟩ := h
  obtain ⟨u, rfl, ru⟩ := r.one
  obtain rfl : u = Value.ref a := ru
  obtain ⟨ox, od, J, _⟩ := inst_of I ha
  have hr2 : Room k X.A.in1.in1 := (show Room (k + 1) X.A.in1 from Room.in1 hr).in1
  refine kso_call hr2.units0 I.kIn J M.at_ M.fn (wpAny_mono (wpAny_call (SlX.run_at (us := [.ref a]) (ws := [.ref a]) F hr2 I.env0.in1.in1 hx I (.cons rfl .nil) q)) (fun u' s' z => ?_) fun _ _ x => x)
  obtain ⟨z', H', I', rz, y, ey, qz⟩ := z
  subst ey
  obtain ⟨t, e⟩ := (show ∃ t, u' = Value.str y t from rz)
  subst e
  exact ⟨.str y, H', I', ⟨t, rfl⟩, qz⟩
/-- x.f, read -/
def rFld (K : Frag) (f : Str) : V → Hp → VK → Prop := fun x H Q => ∃ a C dx fs v, x = .ref a ∧ H a = some (.ins C dx fs) ∧ Cls K C ∧ NoAttr K C f ∧ fs.lookup f = some v ∧ Q v H
theorem r_fld {K : Frag} {ta : TE} {f : Str} {σ : L2.St} {H : Hp} {Q : VK} (k : ta σ H fun x H1 => rFld K f x H1 Q) : tFld K ta f σ H Q := k
theorem r_fldAt {K : Frag} {f : Str} {H : Hp} {Q : VK} {a C dx : Addr} {fs : List (Str × V)} {v : V} (h : H a = some (.ins C dx fs)) (c : Cls K C) (n : NoAttr K C f) (l : fs.lookup f = some v) (k : Q v H) : rFld K f (.ref a) H Q := ⟨a, C, dx, fs, v, rfl, h, c, n, l, k⟩
/-- x.f = v -/
def rSFld (K : Frag) (f : Str) : V → V → Hp → (Hp → Prop) → Prop := fun x y H Q => ∃ a C dx fs, x = .ref a ∧ H a = some (.ins C dx fs) ∧ Cls K C ∧ NoAttr K C f ∧ fs.length < 1000 ∧ Q (upd H a (.ins C dx (putF f y fs)))
theorem r_sfld {K : Frag} {ta tv : TE} {f : Str} {D : Ends} {σ : L2.St} {H : Hp} (k : tv σ H fun y H1 => ta σ H1 fun x H2 => rSFld K f x y H2 fun H3 => D.nx σ H3) : sFld K ta tv f D σ H := k
theorem r_sfldAt {K : Frag} {f : Str} {H : Hp} {y : V} {Q : Hp → Prop} {a C dx : Addr} {fs : List (Str × V)} (h : H a = some (.ins C dx fs)) (c : Cls K C) (n : NoAttr K C f) (l : fs.length < 1000) (k : Q (upd H a (.ins C dx (putF f y fs)))) : rSFld K f (.ref a) y H Q := ⟨a, C, dx, fs, rfl, h, c, n, l, k⟩
/-- C(..) -/
theorem r_make {C : Addr} {sp : Sp} {dvs : List V} {E : XK} {t : TA} {σ : L2.St} {H : Hp} {Q : VK} (k : t σ H fun vs H1 => ∀ x dx, H1 x = none → H1 dx = none → dx ≠ x → sp (.ref x :: (vs ++ dvs)) (upd (upd H1 dx (.own x)) x (.ins C dx [])) (fun v H2 => v = .non ∧ Q (.ref x) H2) E) : tMake C sp dvs E t σ H Q := k
/-- x.m(..) -/
def rMeth (C : Addr) (m : Str) (R : V → Hp → Prop) : V → Hp → Prop := fun x H => ∃ a dx fs, x = .ref a ∧ H a = some (.ins C dx fs) ∧ fs.lookup m = none ∧ R x H
theorem r_meth {C : Addr} {m : Str} {sp : Sp} {dvs : List V} {E : XK} {ta : TE} {t : TA} {σ : L2.St} {H : Hp} {Q : VK} (k : ta σ H fun x H1 => rMeth C m (fun x H1 => t σ H1 fun vs H2 => sp (x :: (vs ++ dvs)) H2 Q E) x H1) : tMeth C m sp dvs E ta t σ H Q := k
theorem r_methAt {C a dx : Addr} {m : Str} {fs : List (Str × V)} {R : V → Hp → Prop} {H : Hp} (h : H a = some (.ins C dx fs)) (l : fs.lookup m = none) (k : R (.ref a) H) : rMeth C m R (.ref a) H := ⟨a, dx, fs, rfl, h, l, k⟩
/-- the operators -/
theorem r_own2 {C a b dx dy : Addr} {fs gs : List (Str × V)} {sp : Sp} {E : XK} {H : Hp} {Q : VK} (ha : H a = some (.ins C dx fs)) (hb : H b = some (.ins C dy gs)) (k : sp [.ref a, .ref b] H Q E) : rOwn2 C sp E (.ref a) (.ref b) H Q := ⟨a, dx, fs, b, dy, gs, rfl, rfl, ha, hb, k⟩
theorem r_ownI {C a dx : Addr} {n : Int} {fs : List (Str × V)} {sp : Sp} {E : XK} {H : Hp} {Q : VK} (ha : H a = some (.ins C dx fs)) (k : sp [.ref a, .int n] H Q E) : rOwnI C sp E (.ref a) (.int n) H Q := ⟨a, dx, fs, n, rfl, rfl, ha, k⟩
theorem r_own1 {C a dx : Addr} {fs : List (Str × V)} {sp : Sp} {E : XK} {H : Hp} {Q : VK} (ha : H a = some (.ins C dx fs)) (k : sp [.ref a] H Q E) : rOwn1 C sp E (.ref a) H Q := ⟨a, dx, fs, rfl, ha, k⟩
theorem r_len_str {x : Str} {F : Str → Prop} (k : x.length ≤ sizeLine ∧ F x) : ∃ y, [V.str x] = [.str y] ∧ y.length ≤ sizeLine ∧ F y := ⟨x, rfl, k.1, k.2⟩
/-- what is told of an own class -/
structure OC (K : Frag) (C : Addr) : Prop where
  cl : Cls K C
  sf : selfFirst K C = true
  ca : findIn K (.ref C) "__class__" = some (some (.builtin "object.__class__"))
  cn : specialIn K (.builtin "object.__class__") "__get__" = some (some (.builtin "getset_descriptor.__get__"))
  ct : takesIn K (.builtin "object.__class__") = some true
  cm : mroIn K C (.type "object") = some true
theorem OC.ty {K : Frag} {C a dx : Addr} {H : Hp} {fs : List (Str × V)} (o : OC K C) (h : H a = some (.ins C dx fs)) : TyX K H (.ref a) (.ref C) := .base (.ins h o.cl o.ca o.cn o.ct o.cm)
theorem r_isiOwn {K : Frag} {C a dx : Addr} {H : Hp} {fs : List (Str × V)} {Q : VK} (o : OC K C) (h : H a = some (.ins C dx fs)) (k : Q (.bl true) H) : rIsi K [.ref a, .ref C] H Q := ⟨_, _, _, _, true, rfl, .own C, o.ty h, Er.kit_self, k⟩
theorem r_isiNot {K : Frag} {C a dx : Addr} {T : String} {H : Hp} {fs : List (Str × V)} {Q : VK} (o : OC K C) (h : H a = some (.ins C dx fs)) (hm : kitMeta T = true) (hs : subIn K (.ref C) (.type T) = some false) (k : Q (.bl false) H) : rIsi K [.ref a, .ty T] H Q :=
  ⟨_, _, _, _, false, rfl, .ty T, o.ty h, Er.kit_typ hm hs, k⟩
end
theorem r_intOwn {C b dx : Addr} {n : Int} {fs : List (Str × V)} {sp : Sp} {E : XK} {H : Hp} {Q : VK} (hb : H b = some (.ins C dx fs)) (k : sp [.ref b, .int n] H Q E) : rIntOwn C sp E (.int n) (.ref b) H Q := ⟨b, dx, fs, n, rfl, rfl, hb, k⟩
theorem r_strOwn {C a dx : Addr} {fs : List (Str × V)} {sp : Sp} {E : XK} {H : Hp} {Q : VK} (ha : H a = some (.ins C dx fs)) (k : sp [.ref a] H (fun v H' => ∃ z, v = .str z ∧ Q v H') E) : rStrOwn C sp E [.ref a] H Q := ⟨a, dx, fs, rfl, ha, k⟩
end Ow
namespace Fm
open PySem PySem.Spec PyProof.Rows L2
/-! ### the order of texts -/
theorem lt_irr : ∀ a : List Nat, ltCps a a = false
  | [] => rfl
  | a :: r => by simp [ltCps, lt_irr r]
theorem lt_tr : ∀ {a b c : List Nat}, ltCps a b = true → ltCps b c = true → ltCps a c = true
  | [], [], _, h, _ => by simp [ltCps] at h
  | [], _ :: _, [], _, h => by simp [ltCps] at h
  | [], _ :: _, _ :: _, _, _ => by simp [ltCps]
  | _ :: _, [], _, h, _ => by simp [ltCps] at h
  | _ :: _, _ :: _, [], _, h => by simp [ltCps] at h
  | x :: a, y :: b, z :: c, h, k => by
    simp only [ltCps, Bool.or_eq_true, decide_eq_true_eq, Bool.and_eq_true, beq_iff_eq] at h k ⊢
    rcases h with h | ⟨rfl, h⟩ <;> rcases k with k | ⟨rfl, k⟩
    · exact .inl (Nat.lt_trans h k)
    · exact .inl h
    · exact .inl k
    · exact .inr ⟨rfl, lt_tr h k⟩
theorem lt_tri : ∀ a b : List Nat, a = b ∨ ltCps a b = true ∨ ltCps b a = true
  | [], [] => .inl rfl
  | [], _ :: _ => .inr (.inl rfl)
  | _ :: _, [] => .inr (.inr rfl)
  | x :: a, y :: b => by
    simp only [ltCps, Bool.or_eq_true, decide_eq_true_eq, Bool.and_eq_true, beq_iff_eq]
    rcases Nat.lt_trichotomy x y with h | rfl | h
    · exact .inr (.inl (.inl h))
    · rcases lt_tri a b with rfl | h | h
      · exact .inl rfl
      · exact .inr (.inl (.inr ⟨rfl, h⟩))
      · exact .inr (.inr (.inr ⟨rfl, h⟩))
    · exact .inr (.inr (.inl h))
def Lt (x y : Str) : Prop := ltCps x.cps.toList y.cps.toList = true
theorem Lt.irr {x : Str} (h : Lt x x) : False := by unfold Lt at h; rw [lt_irr] at h; cases h
theorem Lt.tr {x y z : Str} (h : Lt x y) (k : Lt y z) : Lt x z := lt_tr h k
theorem str_ext {x y : Str} (h : x.cps.toList = y.cps.toList) : x = y := by
  cases x; cases y; simp only [Str.mk.injEq]; exact Array.ext' h
theorem Lt.tri (x y : Str) : x = y ∨ Lt x y ∨ Lt y x := (lt_tri x.cps.toList y.cps.toList).imp str_ext id
/-- a sorted row without repetition ascends -/
theorem asc_of_rising : ∀ {l : List Str} {p : Str}, risingS p l = true → (p :: l).Nodup → (p :: l).Pairwise Lt
  | [], _, _, _ => by simp
  | x :: r, p, h, n => by
    have h' : ltCps x.cps.toList p.cps.toList = false ∧ risingS x r = true := by simpa [risingS] using h
    have n' : p ≠ x ∧ (x :: r).Nodup := ⟨fun e => by rw [e] at n; simp at n, (List.nodup_cons.mp n).2⟩
    have ih := asc_of_rising h'.2 n'.2
    have hp : Lt p x := by
      rcases Lt.tri p x with e | e | e
      · exact absurd e n'.1
      · exact e
      · unfold Lt at e; rw [h'.1] at e; cases e
    refine List.pairwise_cons.mpr ⟨fun y hy => ?_, ih⟩
    rcases List.mem_cons.mp hy with rfl | hy
    · exact hp
    · exact hp.tr (List.rel_of_pairwise_cons ih hy)
theorem asc_of_sorted : ∀ {l : List Str}, sortedS l = true → l.Nodup → l.Pairwise Lt
  | [], _, _ => .nil
  | _ :: _, h, n => asc_of_rising h n
/-! ### weights of names -/
abbrev Tm := Str × Int
/-- the weight of a name -/
def wt (ts : List Tm) (x : Str) : Int := ((ts.filter fun p => decide (p.1 = x)).map (·.2)).sum
theorem wt_nil {x : Str} : wt [] x = 0 := rfl
theorem wt_cons {p : Tm} {ts : List Tm} {x : Str} : wt (p :: ts) x = (if p.1 = x then p.2 else 0) + wt ts x := by
  unfold wt
  by_cases h : p.1 = x
  · rw [List.filter_cons_of_pos (by simpa using h), if_pos h]; simp
  · rw [List.filter_cons_of_neg (by simpa using h), if_neg h]; simp
theorem wt_append {x : Str} : ∀ {ts us : List Tm}, wt (ts ++ us) x = wt ts x + wt us x
  | [], us => by rw [List.nil_append, wt_nil, Int.zero_add]
  | p :: ts, us => by rw [List.cons_append, wt_cons, wt_cons, wt_append, Int.add_assoc]
theorem wt_none {x : Str} : ∀ {ts : List Tm}, (∀ p ∈ ts, p.1 ≠ x) → wt ts x = 0
  | [], _ => rfl
  | p :: ts, h => by rw [wt_cons, if_neg (h p (by simp)), wt_none fun q hq => h q (by simp [hq])]; rfl
/-- all weights times k -/
def scl (k : Int) (ts : List Tm) : List Tm := ts.map fun p => (p.1, k * p.2)
theorem wt_scl {k : Int} {x : Str} : ∀ {ts : List Tm}, wt (scl k ts) x = k * wt ts x
  | [] => by simp [scl, wt]
  | p :: ts => by
    show wt ((p.1, k * p.2) :: scl k ts) x = _
    rw [wt_cons, wt_cons, wt_scl, Int.mul_add]
    by_cases h : p.1 = x
    · rw [if_pos h, if_pos h]
    · rw [if_neg h, if_neg h, Int.mul_zero]
def dropN (x : Str) (ts : List Tm) : List Tm := ts.filter fun p => decide (p.1 ≠ x)
theorem wt_drop {x z : Str} : ∀ {ts : List Tm}, wt (dropN x ts) z = if z = x then 0 else wt ts z
  | [] => by simp [dropN, wt]
  | p :: ts => by
    unfold dropN
    by_cases h : p.1 = x
    · rw [List.filter_cons_of_neg (by simpa using h)]
      show wt (dropN x ts) z = _
      rw [wt_drop, wt_cons]
      by_cases hz : z = x
      · rw [if_pos hz, if_pos hz]
      · rw [if_neg hz, if_neg hz, if_neg (fun e => hz (e.symm.trans h)), Int.zero_add]
    · rw [List.filter_cons_of_pos (by simpa using h), wt_cons]
      show _ + wt (dropN x ts) z = _
      rw [wt_drop, wt_cons]
      by_cases hz : z = x
      · rw [if_pos hz, if_pos hz, if_neg (fun e => h (e.trans hz))]; rfl
      · rw [if_neg hz, if_neg hz]
/-- terms as a form has them -/
structure Canon (ts : List Tm) : Prop where
  asc : (ts.map (·.1)).Pairwise Lt
  nz : ∀ p ∈ ts, p.2 ≠ 0
theorem Canon.nil : Canon [] := ⟨by simp, by simp⟩
theorem Canon.tail {p : Tm} {ts : List Tm} (c : Canon (p :: ts)) : Canon ts := ⟨(List.pairwise_cons.mp c.asc).2, fun q hq => c.nz q (by simp [hq])⟩
theorem Canon.lt {p : Tm} {ts : List Tm} (c : Canon (p :: ts)) {q : Tm} (h : q ∈ ts) : Lt p.1 q.1 := (List.pairwise_cons.mp c.asc).1 q.1 (List.mem_map_of_mem h)
theorem Canon.head {p : Tm} {ts : List Tm} (c : Canon (p :: ts)) : wt (p :: ts) p.1 = p.2 := by
  rw [wt_cons, if_pos rfl, wt_none fun q hq e => ?_, Int.add_zero]
  exact (e ▸ c.lt hq).irr
theorem canon_eq : ∀ {ts us : List Tm}, Canon ts → Canon us → (∀ x, wt ts x = wt us x) → ts = us
  | [], [], _, _, _ => rfl
  | [], q :: us, _, d, h => by
    have := h q.1; rw [d.head, wt_nil] at this
    exact absurd this.symm (d.nz q (by simp))
  | p :: ts, [], c, _, h => by
    have := h p.1; rw [c.head, wt_nil] at this
    exact absurd this (c.nz p (by simp))
  | p :: ts, q :: us, c, d, h => by
    have e : p.1 = q.1 := by
      rcases Lt.tri p.1 q.1 with e | e | e
      · exact e
      · have := h p.1
        rw [c.head, wt_none (ts := q :: us) fun r hr z => ?_] at this
        · exact absurd this (c.nz p (by simp))
        · rcases List.mem_cons.mp hr with rfl | hr
          · exact (z ▸ e).irr
          · exact (z ▸ e.tr (d.lt hr)).irr
      · have := h q.1
        rw [d.head, wt_none (ts := p :: ts) fun r hr z => ?_] at this
        · exact absurd this.symm (d.nz q (by simp))
        · rcases List.mem_cons.mp hr with rfl | hr
          · exact (z ▸ e).irr
          · exact (z ▸ e.tr (c.lt hr)).irr
    have e2 : p.2 = q.2 := by rw [← c.head, ← d.head, h, e]
    have ep : p = q := Prod.ext e e2
    subst ep
    rw [canon_eq c.tail d.tail fun x => ?_]
    have := h x
    rw [wt_cons, wt_cons] at this
    omega
/-! ### what is linear in the weights -/
def lin (ts : List Tm) (L : Str → Int) : Int := (ts.map fun p => p.2 * L p.1).sum
theorem lin_nil {L : Str → Int} : lin [] L = 0 := rfl
theorem lin_cons {p : Tm} {ts : List Tm} {L : Str → Int} : lin (p :: ts) L = p.2 * L p.1 + lin ts L := by simp [lin]
theorem lin_append {L : Str → Int} : ∀ {ts us : List Tm}, lin (ts ++ us) L = lin ts L + lin us L
  | [], us => by simp [lin]
  | p :: ts, us => by rw [List.cons_append, lin_cons, lin_cons, lin_append, Int.add_assoc]
theorem lin_scl {k : Int} {L : Str → Int} : ∀ {ts : List Tm}, lin (scl k ts) L = k * lin ts L
  | [] => by simp [scl, lin]
  | p :: ts => by
    show lin ((p.1, k * p.2) :: scl k ts) L = _
    rw [lin_cons, lin_cons, lin_scl, Int.mul_add, Int.mul_assoc]
theorem lin_drop {x : Str} {L : Str → Int} : ∀ {ts : List Tm}, lin ts L = wt ts x * L x + lin (dropN x ts) L
  | [] => by simp [dropN, lin, wt]
  | p :: ts => by
    unfold dropN
    rw [lin_cons, wt_cons, lin_drop (x := x) (ts := ts)]
    by_cases h : p.1 = x
    · rw [List.filter_cons_of_neg (by simpa using h), if_pos h, Int.add_mul, h, Int.add_assoc]; rfl
    · rw [List.filter_cons_of_pos (by simpa using h), if_neg h, lin_cons, Int.zero_add]
      show _ = _ + (_ + lin (dropN x ts) L)
      omega
theorem lin_zero {L : Str → Int} : ∀ (n : Nat) {ts : List Tm}, ts.length ≤ n → (∀ x, wt ts x = 0) → lin ts L = 0
  | _, [], _, _ => rfl
  | 0, _ :: _, h, _ => by simp at h
  | n + 1, p :: ts, h, hz => by
    have l : (dropN p.1 (p :: ts)).length ≤ n := by
      unfold dropN
      rw [List.filter_cons_of_neg (by simp)]
      have := List.length_filter_le (fun q : Tm => decide (q.1 ≠ p.1)) ts
      simp at h; omega
    rw [lin_drop (x := p.1), hz, Int.zero_mul, Int.zero_add]
    refine lin_zero n l fun x => ?_
    rw [wt_drop, hz]; split <;> rfl
theorem lin_of_wt {ts us : List Tm} {L : Str → Int} (h : ∀ x, wt ts x = wt us x) : lin ts L = lin us L := by
  have := lin_zero (L := L) _ (ts := ts ++ scl (-1) us) (Nat.le_refl _) fun x => by rw [wt_append, wt_scl, h]; omega
  rw [lin_append, lin_scl] at this
  omega
/-! ### values in a world: a top and a bottom -/
abbrev Wd := Str → Int × Int
def accV (W : Wd) : List Tm → Int × Int → Int × Int
  | [], s => s
  | p :: ts, s => accV W ts (s.1 * (W p.1).2 + p.2 * (W p.1).1 * s.2, s.2 * (W p.1).2)
theorem acc_lin {W : Wd} {L : Str → Int} {M : Int} : ∀ {ts : List Tm} {s : Int × Int} {S : Int}, (∀ p ∈ ts, (W p.1).1 * M = L p.1 * (W p.1).2) → s.1 * M = s.2 * S → (accV W ts s).1 * M = (accV W ts s).2 * (S + lin ts L)
  | [], s, S, _, h => by rw [lin_nil, Int.add_zero]; exact h
  | p :: ts, s, S, hL, h => by
    have := acc_lin (ts := ts) (s := (s.1 * (W p.1).2 + p.2 * (W p.1).1 * s.2, s.2 * (W p.1).2)) (S := S + p.2 * L p.1) (fun q hq => hL q (by simp [hq])) (by
      have e := hL p (by simp)
      show (s.1 * (W p.1).2 + p.2 * (W p.1).1 * s.2) * M = s.2 * (W p.1).2 * (S + p.2 * L p.1)
      have e1 : s.1 * (W p.1).2 * M = s.2 * (W p.1).2 * S := by
        rw [Int.mul_right_comm, h, Int.mul_right_comm]
      have e2 : p.2 * (W p.1).1 * s.2 * M = s.2 * (W p.1).2 * (p.2 * L p.1) := by
        calc p.2 * (W p.1).1 * s.2 * M = p.2 * s.2 * ((W p.1).1 * M) := by ac_rfl
          _ = p.2 * s.2 * (L p.1 * (W p.1).2) := by rw [e]
          _ = s.2 * (W p.1).2 * (p.2 * L p.1) := by ac_rfl
      rw [Int.add_mul, Int.mul_add, e1, e2])
    rw [lin_cons, ← Int.add_assoc]
    exact this
theorem acc_pos {W : Wd} : ∀ {ts : List Tm} {s : Int × Int}, (∀ p ∈ ts, 0 < (W p.1).2) → 0 < s.2 → 0 < (accV W ts s).2
  | [], _, _, h => h
  | p :: ts, s, hw, h => acc_pos (s := (s.1 * (W p.1).2 + p.2 * (W p.1).1 * s.2, s.2 * (W p.1).2)) (fun q hq => hw q (by simp [hq])) (Int.mul_pos h (hw p (by simp)))
/-- a common bottom -/
theorem common (W : Wd) : ∀ xs : List Str, (∀ x ∈ xs, 0 < (W x).2) → ∃ (M : Int) (L : Str → Int), 0 < M ∧ ∀ x ∈ xs, (W x).1 * M = L x * (W x).2
  | [], _ => ⟨1, fun _ => 0, by decide, by simp⟩
  | x :: xs, h => by
    obtain ⟨M, L, hM, hL⟩ := common W xs fun y hy => h y (by simp [hy])
    refine ⟨M * (W x).2, fun y => if y = x then (W x).1 * M else L y * (W x).2, Int.mul_pos hM (h x (by simp)), fun y hy => ?_⟩
    by_cases e : y = x
    · subst e; simp only [if_true]; ac_rfl
    · have hy' : y ∈ xs := (List.mem_cons.mp hy).resolve_left e
      simp only [if_neg e]
      rw [← Int.mul_assoc, hL y hy']; ac_rfl
/-- the world in which x has another level -/
def moved (W : Wd) (x : Str) (v : Int × Int) : Wd := fun y => if y = x then v else W y
/-- a form put in the place of a quantity has the value that the form has where the quantity has its value -/
theorem put_value {W : Wd} {x : Str} {ts gs us : List Tm} {c cg : Int} {v : Int × Int}
    (hts : ∀ p ∈ ts, p.1 ≠ x → 0 < (W p.1).2) (hgs : ∀ p ∈ gs, 0 < (W p.1).2) (hus : ∀ p ∈ us, 0 < (W p.1).2)
    (hw : ∀ y, wt us y = wt (dropN x ts ++ scl (wt ts x) gs) y) (hv : v.1 * (accV W gs (cg, 1)).2 = (accV W gs (cg, 1)).1 * v.2) (hv0 : 0 < v.2) :
    (accV W us (c + wt ts x * cg, 1)).1 * (accV (moved W x v) ts (c, 1)).2 = (accV (moved W x v) ts (c, 1)).1 * (accV W us (c + wt ts x * cg, 1)).2 := by
  obtain ⟨M, L, hM, hL⟩ := common W ((ts.filter fun p => decide (p.1 ≠ x)).map (·.1) ++ gs.map (·.1) ++ us.map (·.1)) (by
    intro y hy
    simp only [List.mem_append, List.mem_map, List.mem_filter, decide_eq_true_eq] at hy
    rcases hy with (⟨p, ⟨h1, h2⟩, rfl⟩ | ⟨p, h1, rfl⟩) | ⟨p, h1, rfl⟩
    · exact hts p h1 h2
    · exact hgs p h1
    · exact hus p h1)
  have hLg : ∀ p ∈ gs, (W p.1).1 * M = L p.1 * (W p.1).2 := fun p hp => hL _ (by simp only [List.mem_append]; exact .inl (.inr (List.mem_map_of_mem hp)))
  have hLu : ∀ p ∈ us, (W p.1).1 * M = L p.1 * (W p.1).2 := fun p hp => hL _ (by simp only [List.mem_append]; exact .inr (List.mem_map_of_mem hp))
  have hg := acc_lin (s := (cg, 1)) (S := cg * M) hLg (by simp)
  have hu := acc_lin (s := (c + wt ts x * cg, 1)) (S := (c + wt ts x * cg) * M) hLu (by simp)
  have hgp := acc_pos (s := (cg, 1)) hgs Int.one_pos
  have hup := acc_pos (s := (c + wt ts x * cg, 1)) hus Int.one_pos
  -- the value of g over M
  have hvM : v.1 * M = v.2 * (cg * M + lin gs L) := by
    have e : v.1 * M * (accV W gs (cg, 1)).2 = v.2 * (cg * M + lin gs L) * (accV W gs (cg, 1)).2 := by
      rw [Int.mul_right_comm, hv, Int.mul_right_comm, hg]; ac_rfl
    exact Int.eq_of_mul_eq_mul_right (by omega) e
  -- the moved world over M * v.2
  have hm := acc_lin (W := moved W x v) (L := fun y => if y = x then v.1 * M else L y * v.2) (M := M * v.2) (ts := ts) (s := (c, 1)) (S := c * (M * v.2)) (by
    intro p hp
    unfold moved
    by_cases e : p.1 = x
    · simp only [if_pos e]; ac_rfl
    · simp only [if_neg e]
      have := hL p.1 (by simp only [List.mem_append]; exact .inl (.inl (List.mem_map_of_mem (List.mem_filter.mpr ⟨hp, by simpa using e⟩))))
      rw [← Int.mul_assoc, this]; ac_rfl) (by simp)
  have hmp : 0 < (accV (moved W x v) ts (c, 1)).2 := acc_pos (fun p hp => by
    unfold moved
    by_cases e : p.1 = x
    · rw [if_pos e]; exact hv0
    · rw [if_neg e]; exact hts p hp e) Int.one_pos
  have key : c * (M * v.2) + lin ts (fun y => if y = x then v.1 * M else L y * v.2) = v.2 * ((c + wt ts x * cg) * M + lin us L) := by
    rw [lin_drop (x := x), lin_of_wt hw, lin_append, lin_scl]
    have e1 : lin (dropN x ts) (fun y => if y = x then v.1 * M else L y * v.2) = v.2 * lin (dropN x ts) L := by
      have : ∀ l : List Tm, (∀ p ∈ l, p.1 ≠ x) → lin l (fun y => if y = x then v.1 * M else L y * v.2) = v.2 * lin l L := by
        intro l
        induction l with
        | nil => intro _; simp [lin]
        | cons p l ih =>
          intro h
          rw [lin_cons, lin_cons, ih fun q hq => h q (by simp [hq])]
          simp only [if_neg (h p (by simp))]
          rw [Int.mul_add]
          congr 1
          ac_rfl
      exact this _ fun p hp => by simpa [dropN] using (List.mem_filter.mp hp).2
    rw [e1]
    simp only [if_true]
    rw [hvM]
    simp only [Int.mul_add, Int.add_mul]
    have a1 : c * (M * v.2) = v.2 * (c * M) := by ac_rfl
    have a2 : wt ts x * (v.2 * (cg * M)) = v.2 * (wt ts x * cg * M) := by ac_rfl
    have a3 : wt ts x * (v.2 * lin gs L) = v.2 * (wt ts x * lin gs L) := by ac_rfl
    omega
  rw [key] at hm
  generalize accV W us (c + wt ts x * cg, 1) = U at *
  generalize accV (moved W x v) ts (c, 1) = T at *
  generalize (c + wt ts x * cg) * M + lin us L = S at *
  have : U.1 * T.2 * (M * v.2) = T.1 * U.2 * (M * v.2) := by
    calc U.1 * T.2 * (M * v.2) = (U.1 * M) * (T.2 * v.2) := by ac_rfl
      _ = (U.2 * S) * (T.2 * v.2) := by rw [hu]
      _ = (T.2 * (v.2 * S)) * U.2 := by ac_rfl
      _ = (T.1 * (M * v.2)) * U.2 := by rw [hm]
      _ = T.1 * U.2 * (M * v.2) := by ac_rfl
  exact Int.eq_of_mul_eq_mul_right (by have := Int.mul_pos hM hv0; omega) this
/-! ### the terms of a form, by its pairs -/
instance : DecidableRel Lt := fun x y => inferInstanceAs (Decidable (ltCps x.cps.toList y.cps.toList = true))
def ins (x : Str) (w : Int) : List Tm → List Tm
  | [] => if w = 0 then [] else [(x, w)]
  | p :: us => if x = p.1 then (if w + p.2 = 0 then us else (x, w + p.2) :: us) else if Lt x p.1 then (if w = 0 then p :: us else (x, w) :: p :: us) else p :: ins x w us
theorem ins_mem {x : Str} {w : Int} : ∀ {us : List Tm} {q : Tm}, q ∈ ins x w us → q.1 = x ∨ q ∈ us
  | [], q, h => by
    unfold ins at h; split at h
    · cases h
    · rw [List.mem_singleton.mp h]; exact .inl rfl
  | p :: us, q, h => by
    unfold ins at h
    split at h
    · split at h
      · exact .inr (by simp [h])
      · rcases List.mem_cons.mp h with rfl | h
        · exact .inl rfl
        · exact .inr (by simp [h])
    · split at h
      · split at h
        · exact .inr h
        · rcases List.mem_cons.mp h with rfl | h
          · exact .inl rfl
          · exact .inr h
      · rcases List.mem_cons.mp h with rfl | h
        · exact .inr (by simp)
        · exact (ins_mem h).imp id fun z => by simp [z]
theorem Canon.cons {p : Tm} {us : List Tm} (h : ∀ q ∈ us, Lt p.1 q.1) (n : p.2 ≠ 0) (c : Canon us) : Canon (p :: us) :=
  ⟨List.pairwise_cons.mpr ⟨fun y hy => by obtain ⟨q, hq, rfl⟩ := List.mem_map.mp hy; exact h q hq, c.asc⟩, fun q hq => by
    rcases List.mem_cons.mp hq with rfl | hq
    · exact n
    · exact c.nz q hq⟩
theorem ins_canon {x : Str} {w : Int} : ∀ {us : List Tm}, Canon us → Canon (ins x w us)
  | [], _ => by
    unfold ins; split
    · exact .nil
    · next h => exact .cons (by simp) h .nil
  | p :: us, c => by
    unfold ins
    split
    · next e =>
      split
      · exact c.tail
      · next h => exact .cons (fun q hq => e ▸ c.lt hq) h c.tail
    · next e =>
      split
      · next l =>
        split
        · exact c
        · next h => exact .cons (fun q hq => by
            rcases List.mem_cons.mp hq with rfl | hq
            · exact l
            · exact l.tr (c.lt hq)) h c
      · next l =>
        have l' : Lt p.1 x := by
          rcases Lt.tri x p.1 with z | z | z
          · exact absurd z e
          · exact absurd z l
          · exact z
        refine .cons (fun q hq => ?_) (c.nz p (by simp)) (ins_canon c.tail)
        rcases ins_mem hq with z | z
        · rw [z]; exact l'
        · exact c.lt z
theorem ins_wt {x y : Str} {w : Int} : ∀ {us : List Tm}, wt (ins x w us) y = (if x = y then w else 0) + wt us y
  | [] => by
    unfold ins; split
    · next h => subst h; simp [wt]
    · rw [wt_cons]
  | p :: us => by
    unfold ins
    split
    · next e =>
      split
      · next h =>
        rw [wt_cons, ← e]
        split <;> omega
      · rw [wt_cons, wt_cons, ← e]
        dsimp only
        split <;> omega
    · split
      · split
        · next h => subst h; simp
        · rw [wt_cons]
      · rw [wt_cons, ins_wt, wt_cons]; omega
def can : List Tm → List Tm
  | [] => []
  | p :: ts => ins p.1 p.2 (can ts)
theorem can_canon : ∀ ts : List Tm, Canon (can ts)
  | [] => .nil
  | _ :: ts => ins_canon (can_canon ts)
theorem can_wt : ∀ (ts : List Tm) (x : Str), wt (can ts) x = wt ts x
  | [], _ => rfl
  | p :: ts, x => by
    show wt (ins p.1 p.2 (can ts)) x = _
    rw [ins_wt, can_wt, wt_cons]
theorem can_eq {us ts : List Tm} (c : Canon us) (h : ∀ x, wt us x = wt ts x) : us = can ts := canon_eq c (can_canon ts) fun x => by rw [h, can_wt]
theorem can_can {ts us : List Tm} (h : ∀ x, wt ts x = wt us x) : can ts = can us := can_eq (can_canon ts) fun x => by rw [can_wt, h]
theorem can_self {ts : List Tm} (c : Canon ts) : can ts = ts := (can_eq c fun _ => rfl).symm
theorem Canon.wt_mem {ts : List Tm} (c : Canon ts) {p : Tm} (h : p ∈ ts) : wt ts p.1 = p.2 := by
  induction ts with
  | nil => cases h
  | cons q ts ih =>
    rcases List.mem_cons.mp h with rfl | h
    · exact c.head
    · rw [wt_cons, if_neg (fun e => (e ▸ c.lt h).irr), Int.zero_add]; exact ih c.tail h
theorem mem_of_wt {ts : List Tm} {x : Str} (h : wt ts x ≠ 0) : ∃ p ∈ ts, p.1 = x := Decidable.byContradiction fun n => h (wt_none fun p hp e => n ⟨p, hp, e⟩)
theorem can_mem {ts : List Tm} {u : Tm} (h : u ∈ can ts) : (∃ p ∈ ts, p.1 = u.1) ∧ u.2 = wt ts u.1 := by
  have c := can_canon ts
  have e := c.wt_mem h
  rw [can_wt] at e
  exact ⟨mem_of_wt (by rw [e]; exact c.nz u h), e.symm⟩
theorem ins_len {x : Str} {w : Int} : ∀ {us : List Tm}, (ins x w us).length ≤ us.length + 1
  | [] => by unfold ins; split <;> simp
  | p :: us => by
    unfold ins
    have := ins_len (x := x) (w := w) (us := us)
    repeat' split
    all_goals simp
    all_goals omega
theorem can_len : ∀ ts : List Tm, (can ts).length ≤ ts.length
  | [] => Nat.le_refl _
  | p :: ts => by
    have := can_len ts
    have := ins_len (x := p.1) (w := p.2) (us := can ts)
    show (ins p.1 p.2 (can ts)).length ≤ ts.length + 1
    omega
theorem wt_bound {B : Nat} {x : Str} : ∀ {ts : List Tm}, (∀ p ∈ ts, p.2.natAbs ≤ B) → (wt ts x).natAbs ≤ ts.length * B
  | [], _ => by simp [wt]
  | p :: ts, h => by
    have a := h p (by simp)
    have b := wt_bound (x := x) (ts := ts) fun q hq => h q (by simp [hq])
    rw [wt_cons, List.length_cons, Nat.succ_mul]
    split <;> omega
/-- a form within bounds: weights and constant below 2 ^ k, at most n terms, names that keep N -/
structure FOk (N : Str → Prop) (n k : Nat) (ts : List Tm) (c : Int) : Prop where
  can : Canon ts
  len : ts.length ≤ n
  nm : ∀ p ∈ ts, N p.1
  wb : ∀ p ∈ ts, p.2.natAbs < 2 ^ k
  cb : c.natAbs < 2 ^ k
theorem pow6 {m n k : Nat} (h : n ≤ 64) (hm : m ≤ n * 2 ^ k) : m ≤ 2 ^ (k + 6) := by
  refine Nat.le_trans hm ?_
  rw [Nat.pow_add, Nat.mul_comm]
  exact Nat.mul_le_mul_left _ h
/-- what is made of pairs is a form -/
theorem can_ok {N : Str → Prop} {k : Nat} {ts : List Tm} {c : Int} (hl : ts.length ≤ 60) (hn : ∀ p ∈ ts, N p.1) (hb : ∀ p ∈ ts, p.2.natAbs < 2 ^ k) (hc : c.natAbs < 2 ^ (k + 6)) : FOk N ts.length (k + 6) (can ts) c := by
  refine ⟨can_canon ts, can_len ts, fun u hu => ?_, fun u hu => ?_, hc⟩
  · obtain ⟨⟨p, hp, e⟩, _⟩ := can_mem hu
    rw [← e]; exact hn p hp
  · obtain ⟨_, e⟩ := can_mem hu
    rw [e]
    have h1 := wt_bound (x := u.1) (B := 2 ^ k) (ts := ts) fun p hp => Nat.le_of_lt (hb p hp)
    have h2 : ts.length * 2 ^ k < 64 * 2 ^ k := Nat.mul_lt_mul_of_pos_right (by omega) (Nat.pow_pos (by decide))
    have h3 : 64 * 2 ^ k = 2 ^ (k + 6) := by rw [Nat.pow_add, Nat.mul_comm]
    omega
/-! ### a row made by names -/
def rowOf (ys : List Str) (f : Str → Int) : List Tm := (ys.map fun x => (x, f x)).filter fun p => decide (p.2 ≠ 0)
theorem wt_rowOf {f : Str → Int} {x : Str} : ∀ {ys : List Str}, ys.Nodup → wt (rowOf ys f) x = if x ∈ ys then f x else 0
  | [], _ => by simp [rowOf, wt]
  | y :: ys, n => by
    have ih := wt_rowOf (f := f) (x := x) (List.nodup_cons.mp n).2
    unfold rowOf at ih ⊢
    rw [List.map_cons]
    by_cases h : f y = 0
    · rw [List.filter_cons_of_neg (by simpa using h), ih]
      by_cases e : x = y
      · subst e; rw [if_neg (List.nodup_cons.mp n).1, if_pos (by simp), h]
      · simp [e]
    · rw [List.filter_cons_of_pos (by simpa using h), wt_cons, ih]
      by_cases e : y = x
      · subst e; rw [if_pos rfl, if_neg (List.nodup_cons.mp n).1, if_pos (by simp), Int.add_zero]
      · have e' : ¬ x = y := fun z => e z.symm
        simp [e, e']
theorem canon_rowOf {f : Str → Int} {ys : List Str} (h : ys.Pairwise Lt) : Canon (rowOf ys f) := by
  refine ⟨?_, fun p hp => by simpa using (List.mem_filter.mp hp).2⟩
  unfold rowOf
  have : ((ys.map fun x => (x, f x)).map (·.1)).Pairwise Lt := by simpa [List.map_map, Function.comp_def] using h
  exact this.sublist ((List.filter_sublist).map _)
theorem rowOf_can {ts : List Tm} {ys : List Str} (h : ys.Pairwise Lt) (n : ys.Nodup) (hm : ∀ p ∈ ts, p.1 ∈ ys) : rowOf ys (wt ts) = can ts := can_eq (canon_rowOf h) fun x => by
  rw [wt_rowOf n]
  split
  · rfl
  · next e => exact (wt_none fun p hp z => e (by have := hm p hp; rw [z] at this; exact this)).symm
theorem rowOf_snoc {f : Str → Int} {ys : List Str} {y : Str} : rowOf (ys ++ [y]) f = if f y ≠ 0 then rowOf ys f ++ [(y, f y)] else rowOf ys f := by
  unfold rowOf
  rw [List.map_append, List.filter_append]
  by_cases h : f y = 0 <;> simp [h]
/-! ### sums by names in a dict -/
def putT (ks : List Tm) (x : Str) (v : Int) : List Tm := if (ks.any fun p => decide (p.1 = x)) = true then ks.map (fun p => if p.1 = x then (p.1, v) else p) else ks ++ [(x, v)]
def kOf (ks : List Tm) : List (Key × V) := ks.map fun p => (Sum.inr p.1, V.int p.2)
theorem val_kOf {x : Str} : ∀ {ks : List Tm}, valV (kOf ks) (Sum.inr x) = (ks.find? fun p => decide (p.1 = x)).map fun p => V.int p.2
  | [] => rfl
  | p :: ks => by
    by_cases h : p.1 = x
    · have : valV (kOf (p :: ks)) (Sum.inr x) = some (V.int p.2) := valV_pos (by show Sum.inr p.1 = Sum.inr x; rw [h])
      rw [this, List.find?_cons_of_pos (by simpa using h)]; rfl
    · have : valV (kOf (p :: ks)) (Sum.inr x) = valV (kOf ks) (Sum.inr x) := valV_neg (fun e => h (Sum.inr.inj e))
      rw [this, List.find?_cons_of_neg (by simpa using h)]; exact val_kOf
theorem put_kOf {ks : List Tm} {x : Str} {v : Int} : putK (kOf ks) (Sum.inr x) (V.int v) = kOf (putT ks x v) := by
  unfold putK putT
  have e : ((kOf ks).any fun kv => decide (kv.1 = Sum.inr x)) = ks.any fun p => decide (p.1 = x) := by
    unfold kOf; rw [List.any_map]; congr 1; funext p; simp
  rw [e]
  split
  · unfold kOf; rw [List.map_map, List.map_map]; congr 1; funext p
    simp only [Function.comp, Sum.inr.injEq]
    split <;> rfl
  · unfold kOf; rw [List.map_append]; rfl
/-- the sums so far -/
structure Sums (ks ts : List Tm) : Prop where
  nd : (ks.map (·.1)).Nodup
  iff : ∀ x, (x ∈ ks.map (·.1)) ↔ x ∈ ts.map (·.1)
  val : ∀ p ∈ ks, p.2 = wt ts p.1
  len : ks.length ≤ ts.length
theorem Sums.nil : Sums [] [] := ⟨by simp, by simp, by simp, Nat.le_refl _⟩
theorem Sums.find {ks ts : List Tm} (h : Sums ks ts) (x : Str) : ((ks.find? fun p => decide (p.1 = x)).map fun p => V.int p.2) = if x ∈ ts.map (·.1) then some (V.int (wt ts x)) else none := by
  cases e : ks.find? fun p => decide (p.1 = x) with
  | none =>
    have n : x ∉ ks.map (·.1) := fun z => by
      obtain ⟨p, hp, rfl⟩ := List.mem_map.mp z
      have := List.find?_eq_none.mp e p hp
      simp at this
    rw [if_neg (fun z => n ((h.iff x).mpr z))]; rfl
  | some p =>
    have hp := List.mem_of_find?_eq_some e
    have hx : p.1 = x := by simpa using List.find?_some e
    have : x ∈ ts.map (·.1) := (h.iff x).mp (hx ▸ List.mem_map_of_mem hp)
    rw [if_pos this]
    show some (V.int p.2) = _
    rw [h.val p hp, hx]
theorem Sums.put {ks ts : List Tm} (h : Sums ks ts) (p : Tm) : Sums (putT ks p.1 (wt ts p.1 + p.2)) (ts ++ [p]) := by
  have hw : ∀ x, wt (ts ++ [p]) x = wt ts x + if p.1 = x then p.2 else 0 := fun x => by rw [wt_append, wt_cons, wt_nil, Int.add_zero]
  unfold putT
  by_cases c : (ks.any fun q => decide (q.1 = p.1)) = true
  · rw [if_pos c]
    obtain ⟨q, hq, eq⟩ := List.any_eq_true.mp c
    have eq' : q.1 = p.1 := by simpa using eq
    have e : ((ks.map fun q => if q.1 = p.1 then (q.1, wt ts p.1 + p.2) else q).map (·.1)) = ks.map (·.1) := by
      rw [List.map_map]; congr 1; funext r; simp only [Function.comp]; split <;> rfl
    refine ⟨by rw [e]; exact h.nd, fun x => ?_, fun r hr => ?_, by rw [List.length_map, List.length_append]; have := h.len; simp; omega⟩
    · rw [e, h.iff, List.map_append]
      constructor
      · intro z; simp only [List.mem_append]; exact .inl z
      · intro z
        rcases List.mem_append.mp z with z | z
        · exact z
        · have : x = p.1 := by simpa using z
          rw [this, ← eq']; exact (h.iff _).mp (List.mem_map_of_mem hq)
    · obtain ⟨s, hs, rfl⟩ := List.mem_map.mp hr
      rw [hw]
      by_cases z : s.1 = p.1
      · simp only [if_pos z]; rw [if_pos z.symm, z]
      · simp only [if_neg z]; rw [if_neg (fun e => z e.symm), Int.add_zero]; exact h.val s hs
  · rw [if_neg c]
    have n : p.1 ∉ ks.map (·.1) := fun z => by
      obtain ⟨q, hq, e⟩ := List.mem_map.mp z
      exact c (List.any_eq_true.mpr ⟨q, hq, by simpa using e⟩)
    have n' : p.1 ∉ ts.map (·.1) := fun z => n ((h.iff _).mpr z)
    have w0 : wt ts p.1 = 0 := wt_none fun q hq e => n' (e ▸ List.mem_map_of_mem hq)
    refine ⟨?_, fun x => ?_, fun r hr => ?_, by have := h.len; simp; omega⟩
    · rw [List.map_append]
      refine List.nodup_append.mpr ⟨h.nd, by simp, fun x hx y hy e => n ?_⟩
      have hy' : y = p.1 := by simpa using hy
      rw [← hy', ← e]
      exact hx
    · simp only [List.map_append, List.mem_append, h.iff]; simp
    · rw [hw]
      rcases List.mem_append.mp hr with hr | hr
      · have : ¬ p.1 = r.1 := fun e => n (e ▸ List.mem_map_of_mem hr)
        rw [if_neg this, Int.add_zero]; exact h.val r hr
      · rw [List.mem_singleton.mp hr]; simp
/-! ### sizes -/
theorem natAbs_mul_lt {x y : Int} {a b : Nat} (hx : x.natAbs < 2 ^ a) (hy : y.natAbs < 2 ^ b) : (x * y).natAbs < 2 ^ (a + b) := wide_lt hx hy
theorem natAbs_add_lt {x y : Int} {a : Nat} (hx : x.natAbs < 2 ^ a) (hy : y.natAbs < 2 ^ a) : (x + y).natAbs < 2 ^ (a + 1) := by
  have := Int.natAbs_add_le x y
  rw [Nat.pow_succ]; omega
theorem pow_le {x : Int} {a b : Nat} (h : x.natAbs < 2 ^ a) (hab : a ≤ b) : x.natAbs < 2 ^ b := Nat.lt_of_lt_of_le h (Nat.pow_le_pow_right (by decide) hab)
/-- the sizes of a value under way: weights and constant below 2 ^ a, tops below 2 ^ b, bottoms below 2 ^ g -/
theorem acc_boundG {W : Wd} (a b g : Nat) : ∀ {ts : List Tm} {s : Int × Int} {i : Nat}, (∀ p ∈ ts, p.2.natAbs < 2 ^ a ∧ (W p.1).1.natAbs < 2 ^ b ∧ (W p.1).2.natAbs < 2 ^ g) → s.1.natAbs < 2 ^ (a + 1 + (b + g + 1) * i) → s.2.natAbs < 2 ^ (1 + g * i) →
    (accV W ts s).1.natAbs < 2 ^ (a + 1 + (b + g + 1) * (i + ts.length)) ∧ (accV W ts s).2.natAbs < 2 ^ (1 + g * (i + ts.length))
  | [], _, _, _, h1, h2 => ⟨h1, h2⟩
  | p :: ts, s, i, h, h1, h2 => by
    obtain ⟨ha, hb, hc⟩ := h p (by simp)
    have m1 : (b + g + 1) * (i + 1) = (b + g + 1) * i + (b + g + 1) := Nat.mul_succ _ _
    have m2 : g * (i + 1) = g * i + g := Nat.mul_succ _ _
    have m3 : g * i ≤ (b + g + 1) * i := Nat.mul_le_mul_right i (by omega)
    have e1 : (s.1 * (W p.1).2).natAbs < 2 ^ (a + 1 + (b + g + 1) * i + (b + g)) := pow_le (natAbs_mul_lt h1 hc) (by omega)
    have e2 : (p.2 * (W p.1).1 * s.2).natAbs < 2 ^ (a + 1 + (b + g + 1) * i + (b + g)) := pow_le (natAbs_mul_lt (natAbs_mul_lt ha hb) h2) (by omega)
    have e3 := natAbs_add_lt e1 e2
    have := acc_boundG (W := W) a b g (ts := ts) (s := (s.1 * (W p.1).2 + p.2 * (W p.1).1 * s.2, s.2 * (W p.1).2)) (i := i + 1) (fun q hq => h q (by simp [hq])) (pow_le e3 (by omega)) (pow_le (natAbs_mul_lt h2 hc) (by omega))
    rw [List.length_cons, show i + (ts.length + 1) = i + 1 + ts.length by omega]
    exact this
theorem acc_bound {W : Wd} {ts : List Tm} {c : Int} (h : ∀ p ∈ ts, p.2.natAbs < 2 ^ 400 ∧ (W p.1).1.natAbs < 2 ^ 1000 ∧ (W p.1).2.natAbs < 2 ^ 401) (hc : c.natAbs < 2 ^ 400) :
    (accV W ts (c, 1)).1.natAbs < 2 ^ (401 + 1402 * ts.length) ∧ (accV W ts (c, 1)).2.natAbs < 2 ^ (1 + 401 * ts.length) := by
  have := acc_boundG (W := W) 400 1000 401 (ts := ts) (s := (c, 1)) (i := 0) h (pow_le hc (by omega)) (show (1 : Int).natAbs < 2 ^ (1 + 401 * 0) by decide)
  rw [Nat.zero_add] at this
  exact this
theorem accV_append {W : Wd} : ∀ {ts us : List Tm} {s : Int × Int}, accV W (ts ++ us) s = accV W us (accV W ts s)
  | [], _, _ => rfl
  | p :: ts, us, s => accV_append (ts := ts)
theorem nodup_len : ∀ {l xs : List Str}, l.Nodup → (∀ x ∈ l, x ∈ xs) → l.length ≤ xs.length
  | [], _, _, _ => Nat.zero_le _
  | x :: l, xs, n, h => by
    have hx := h x (by simp)
    have := nodup_len (l := l) (xs := xs.erase x) (List.nodup_cons.mp n).2 fun y hy => (List.mem_erase_of_ne (fun e => (List.nodup_cons.mp n).1 (by rw [← e]; exact hy))).mpr (h y (by simp [hy]))
    rw [List.length_erase_of_mem hx] at this
    have := List.length_pos_of_mem hx
    rw [List.length_cons]; omega
theorem Canon.nodup {ts : List Tm} (c : Canon ts) : (ts.map (·.1)).Nodup := c.asc.imp fun {a b} h (e : a = b) => by subst e; exact h.irr
theorem Canon.short {ts : List Tm} {xs : List Str} (c : Canon ts) (h : ∀ p ∈ ts, p.1 ∈ xs) : ts.length ≤ xs.length := by
  have := nodup_len c.nodup fun x hx => by
    obtain ⟨p, hp, rfl⟩ := List.mem_map.mp hx
    exact h p hp
  rwa [List.length_map] at this
end Fm
/-! ### the pot of a law, pairs in lowest terms -/
def Pot (P : List V) : Prop := ∃ (pos car cnt mix : Int) (sc : List Int), P = V.int pos :: V.int car :: V.int cnt :: V.int mix :: sc.map V.int ∧ 4 ≤ pos ∧ 0 ≤ car ∧ 0 ≤ mix ∧ mix < 2147483647 ∧ sc.length ≤ 63
def PotAt (a : Addr) (H : Hp) : Prop := ∃ P, H a = some (.lst P) ∧ Pot P
theorem pot_at {x0 x1 x2 x3 : V} {sc : List Int} {i : Int} (h : 4 ≤ i) (h2 : i < sc.length + 4) : atI (x0 :: x1 :: x2 :: x3 :: sc.map V.int) i = some (.int (sc.getD (i.toNat - 4) 0)) := by
  obtain ⟨n, rfl⟩ : ∃ n : Nat, i = ((n + 4 : Nat) : Int) := ⟨i.toNat - 4, by omega⟩
  refine atI_nat ?_
  have h3 : n < sc.length := by omega
  have e : ((n + 4 : Nat) : Int).toNat - 4 = n := by omega
  rw [e, List.getElem?_cons_succ, List.getElem?_cons_succ, List.getElem?_cons_succ, List.getElem?_cons_succ, List.getElem?_map, List.getElem?_eq_getElem h3, List.getD_eq_getElem?_getD, List.getElem?_eq_getElem h3]
  rfl
def spTake : Sp := fun vs H Q _ => ∃ (a : Addr) (n : Int), vs = [.ref a, .int n] ∧ PotAt a H ∧ 0 < n ∧ n < 2 ^ 200 ∧ ∀ (r : Int) (H' : Hp), 0 ≤ r → r < n → Keep [a] H H' → PotAt a H' → Q (.int r) H'
theorem PotAt.new {a p : Addr} {o : HO} {H : Hp} (h : PotAt a H) (n : H p = none) : PotAt a (upd H p o) := by
  obtain ⟨P, hP, hp⟩ := h
  exact ⟨P, by rw [upd_ne (ne_of_none hP n)]; exact hP, hp⟩
theorem PotAt.put {a p : Addr} {o : HO} {H : Hp} (h : PotAt a H) (n : p ≠ a) : PotAt a (upd H p o) := by
  obtain ⟨P, hP, hp⟩ := h
  exact ⟨P, by rw [upd_ne n.symm]; exact hP, hp⟩
theorem PotAt.ne' {a p : Addr} {xs : List V} {H : Hp} (h : PotAt a H) (h2 : H p = some (.lst xs)) (n : ¬ Pot xs) : p ≠ a := by
  obtain ⟨P, hP, hp⟩ := h
  rintro rfl
  rw [hP] at h2; cases h2; exact n hp
theorem PotAt.ne {a p : Addr} {H : Hp} (h : PotAt a H) (n : H p = none) : p ≠ a := by
  obtain ⟨P, hP, _⟩ := h
  exact ne_free hP n
section
variable {Q : VK} {E : XK} {H : Hp}
theorem r_take {a : Addr} {n : Int} (hp : PotAt a H) (h0 : 0 < n) (h1 : n < 2 ^ 200) (k : ∀ (r : Int) (H' : Hp), 0 ≤ r → r < n → Keep [a] H H' → PotAt a H' → Q (.int r) H') : spTake [.ref a, .int n] H Q E := ⟨a, n, rfl, hp, h0, h1, k⟩
/-- a def of the pot that gives an int below m in size -/
def spPotInt (m : Nat) : Sp := fun vs H Q _ => ∃ a : Addr, vs = [.ref a] ∧ PotAt a H ∧ ∀ (r : Int) (H' : Hp), r.natAbs < m → Keep [a] H H' → PotAt a H' → Q (.int r) H'
theorem r_potInt {m : Nat} {a : Addr} (hp : PotAt a H) (k : ∀ (r : Int) (H' : Hp), r.natAbs < m → Keep [a] H H' → PotAt a H' → Q (.int r) H') : spPotInt m [.ref a] H Q E := ⟨a, rfl, hp, k⟩
def spPot (K : PySem.W.Frag) : Sp := fun vs H Q _ => ∃ (a : Addr) (ns : List Int), vs = [.ref a] ∧ SqL K H a (ns.map V.int) ∧ ns.length ≤ 63 ∧ ∀ (p : Addr) (H' : Hp), Keep [] H H' → H p = none → PotAt p H' → Q (.ref p) H'
/-- the divisor with the bottom's sign, and the pair in lowest terms -/
def dv (t b : Int) : Int := if b < 0 then -((Nat.gcd t.natAbs b.natAbs : Nat) : Int) else ((Nat.gcd t.natAbs b.natAbs : Nat) : Int)
def lowT (t b : Int) : Int := t.fdiv (dv t b)
def lowB (t b : Int) : Int := b.fdiv (dv t b)
def spLow : Sp := fun vs H Q _ => ∃ t b : Int, vs = [.int t, .int b] ∧ b ≠ 0 ∧ b.natAbs < 2 ^ 8000 ∧ ∀ (p : Addr) (H' : Hp), Keep [] H H' → H p = none → H' p = some (.tup [.int (lowT t b), .int (lowB t b)]) → Q (.ref p) H'
theorem r_low {t b : Int} (hb : b ≠ 0) (hz : b.natAbs < 2 ^ 8000) (k : ∀ (p : Addr) (H' : Hp), Keep [] H H' → H p = none → H' p = some (.tup [.int (lowT t b), .int (lowB t b)]) → Q (.ref p) H') : spLow [.int t, .int b] H Q E := ⟨t, b, rfl, hb, hz, k⟩
end
theorem gcd_pos {t b : Int} (h : b ≠ 0) : 0 < Nat.gcd t.natAbs b.natAbs := Nat.gcd_pos_of_pos_right _ (by omega)
theorem gcd_le {t b : Int} (h : b ≠ 0) : Nat.gcd t.natAbs b.natAbs ≤ b.natAbs := Nat.gcd_le_right _ (by omega)
theorem dv_ne {t b : Int} (h : b ≠ 0) : dv t b ≠ 0 := by
  have := gcd_pos (t := t) h
  unfold dv; split <;> omega
theorem dv_abs {t b : Int} : (dv t b).natAbs = Nat.gcd t.natAbs b.natAbs := by
  unfold dv; split <;> omega
theorem pow_mono {n : Nat} (a b : Nat) (h : n < 2 ^ a) (hab : a ≤ b := by decide) : n < 2 ^ b := Nat.lt_of_lt_of_le h (Nat.pow_le_pow_right (by decide) hab)
theorem lowT_one {x : Int} : lowT x 1 = x := by
  unfold lowT dv
  rw [if_neg (by decide), show (1 : Int).natAbs = 1 from rfl, Nat.gcd_one_right]
  exact Int.fdiv_one x
theorem lowB_one {x : Int} : lowB x 1 = 1 := by
  unfold lowB dv
  rw [if_neg (by decide), show (1 : Int).natAbs = 1 from rfl, Nat.gcd_one_right]
  rfl
theorem natAbs_fdiv_le {x g : Int} (hg : g ≠ 0) (hd : g ∣ x) : (x.fdiv g).natAbs ≤ x.natAbs := by
  obtain ⟨k, rfl⟩ := hd
  rw [Int.mul_fdiv_cancel_left _ hg, Int.natAbs_mul]
  exact Nat.le_mul_of_pos_left _ (by omega)
theorem dv_dvd_t {t b : Int} : dv t b ∣ t := by
  have h : ((Nat.gcd t.natAbs b.natAbs : Nat) : Int) ∣ t := Int.ofNat_dvd_left.mpr (Nat.gcd_dvd_left _ _)
  unfold dv; split
  · exact (Int.neg_dvd).mpr h
  · exact h
theorem dv_dvd_b {t b : Int} : dv t b ∣ b := by
  have h : ((Nat.gcd t.natAbs b.natAbs : Nat) : Int) ∣ b := Int.ofNat_dvd_left.mpr (Nat.gcd_dvd_right _ _)
  unfold dv; split
  · exact (Int.neg_dvd).mpr h
  · exact h
theorem lowT_le {t b : Int} (h : b ≠ 0) : (lowT t b).natAbs ≤ t.natAbs := natAbs_fdiv_le (dv_ne h) dv_dvd_t
theorem lowB_le {t b : Int} (h : b ≠ 0) : (lowB t b).natAbs ≤ b.natAbs := natAbs_fdiv_le (dv_ne h) dv_dvd_b
theorem lowB_ne {t b : Int} (h : b ≠ 0) : lowB t b ≠ 0 := by
  intro e
  have hd := dv_ne (t := t) h
  have h2 : b = dv t b * lowB t b := by
    unfold lowB
    rw [Int.mul_comm]; exact (Int.fdiv_mul_cancel dv_dvd_b).symm
  rw [e, Int.mul_zero] at h2
  exact h h2
theorem sgn_abs {s x : Int} (h0 : 0 ≤ s) (h1 : s < 2) : ((1 - 2 * s) * x).natAbs = x.natAbs := by
  have h : s = 0 ∨ s = 1 := by omega
  rcases h with rfl | rfl <;> omega
section
variable {Q : VK} {E : XK} {H : Hp}
/-- two pairs, made one in lowest terms -/
def spTwo (f : Int → Int → Int → Int → Int × Int) : Sp := fun vs H Q _ => ∃ (p q : Addr) (a b c d : Int), vs = [.ref p, .ref q] ∧ H p = some (.tup [.int a, .int b]) ∧ H q = some (.tup [.int c, .int d]) ∧ b ≠ 0 ∧ d ≠ 0 ∧ a.natAbs < 2 ^ 9000 ∧ b.natAbs < 2 ^ 3000 ∧ c.natAbs < 2 ^ 9000 ∧ d.natAbs < 2 ^ 3000 ∧
  ∀ (r : Addr) (H' : Hp), Keep [] H H' → H r = none → H' r = some (.tup [.int (lowT (f a b c d).1 (f a b c d).2), .int (lowB (f a b c d).1 (f a b c d).2)]) → Q (.ref r) H'
def fPlus (a b c d : Int) : Int × Int := (a * d + c * b, b * d)
def fTimes (a b c d : Int) : Int × Int := (a * c, b * d)
theorem r_two {f : Int → Int → Int → Int → Int × Int} {p q : Addr} {a b c d : Int} (hp : H p = some (.tup [.int a, .int b])) (hq : H q = some (.tup [.int c, .int d])) (hb : b ≠ 0) (hd : d ≠ 0) (za : a.natAbs < 2 ^ 9000) (zb : b.natAbs < 2 ^ 3000) (zc : c.natAbs < 2 ^ 9000) (zd : d.natAbs < 2 ^ 3000)
  (k : ∀ (r : Addr) (H' : Hp), Keep [] H H' → H r = none → H' r = some (.tup [.int (lowT (f a b c d).1 (f a b c d).2), .int (lowB (f a b c d).1 (f a b c d).2)]) → Q (.ref r) H') : spTwo f [.ref p, .ref q] H Q E := ⟨p, q, a, b, c, d, rfl, hp, hq, hb, hd, za, zb, zc, zd, k⟩
def spWhole : Sp := fun vs H Q _ => ∃ i : Int, vs = [.int i] ∧ Q (.bl true) H
theorem r_whole {i : Int} (k : Q (.bl true) H) : spWhole [.int i] H Q E := ⟨i, rfl, k⟩
def spPairIs : Sp := fun vs H Q _ => ∃ (p q : Addr) (a b : Int), vs = [.ref p, .ref q] ∧ H p = some (.tup [.int a, .int b]) ∧ H q = some (.tup [.int a, .int b]) ∧ Q (.bl true) H
theorem r_pairIs {p q : Addr} {a b : Int} (hp : H p = some (.tup [.int a, .int b])) (hq : H q = some (.tup [.int a, .int b])) (k : Q (.bl true) H) : spPairIs [.ref p, .ref q] H Q E := ⟨p, q, a, b, rfl, hp, hq, k⟩
/-- the law's pair in lowest terms: a bottom above 0 -/
def spLow0 : Sp := fun vs H Q _ => ∃ t b : Int, vs = [.int t, .int b] ∧ 0 < b ∧ b.natAbs < 2 ^ 8000 ∧ ∀ (p : Addr) (H' : Hp), Keep [] H H' → H p = none → H' p = some (.tup [.int (lowT t b), .int (lowB t b)]) → Q (.ref p) H'
theorem r_low0 {t b : Int} (hb : 0 < b) (hz : b.natAbs < 2 ^ 8000) (k : ∀ (p : Addr) (H' : Hp), Keep [] H H' → H p = none → H' p = some (.tup [.int (lowT t b), .int (lowB t b)]) → Q (.ref p) H') : spLow0 [.int t, .int b] H Q E := ⟨t, b, rfl, hb, hz, k⟩
end
theorem low_mul {t b : Int} : lowT t b * dv t b = t ∧ lowB t b * dv t b = b := ⟨Int.fdiv_mul_cancel dv_dvd_t, Int.fdiv_mul_cancel dv_dvd_b⟩
theorem lowB_pos {t b : Int} (h : 0 < b) : 0 < lowB t b := by
  have e := (low_mul (t := t) (b := b)).2
  have g : 0 < dv t b := by
    have := gcd_pos (t := t) (show b ≠ 0 by omega)
    unfold dv; rw [if_neg (by omega)]; omega
  have : 0 < lowB t b * dv t b := by rw [e]; exact h
  exact Int.pos_of_mul_pos_left this g
theorem low_cross {t b : Int} : lowT t b * b = t * lowB t b := by
  have e := low_mul (t := t) (b := b)
  calc lowT t b * b = lowT t b * (lowB t b * dv t b) := by rw [e.2]
    _ = (lowT t b * dv t b) * lowB t b := by ac_rfl
    _ = t * lowB t b := by rw [e.1]
/-- equal ratios have one pair in lowest terms -/
theorem low_eq {t b t' b' : Int} (hb : 0 < b) (hb' : 0 < b') (h : t * b' = t' * b) : lowT t b = lowT t' b' ∧ lowB t b = lowB t' b' := by
  have cop : ∀ {t b : Int}, 0 < b → Nat.gcd (lowT t b).natAbs (lowB t b).natAbs = 1 := by
    intro t b hb
    have g := gcd_pos (t := t) (show b ≠ 0 by omega)
    have e := low_mul (t := t) (b := b)
    have z : Nat.gcd t.natAbs b.natAbs = Nat.gcd (lowT t b).natAbs (lowB t b).natAbs * Nat.gcd t.natAbs b.natAbs := by
      have a := dv_abs (t := t) (b := b)
      have et : t.natAbs = (lowT t b).natAbs * Nat.gcd t.natAbs b.natAbs := by rw [← a, ← Int.natAbs_mul, e.1]
      have eb : b.natAbs = (lowB t b).natAbs * Nat.gcd t.natAbs b.natAbs := by rw [← a, ← Int.natAbs_mul, e.2]
      calc Nat.gcd t.natAbs b.natAbs = Nat.gcd ((lowT t b).natAbs * Nat.gcd t.natAbs b.natAbs) ((lowB t b).natAbs * Nat.gcd t.natAbs b.natAbs) := by rw [← et, ← eb]
        _ = _ := Nat.gcd_mul_right _ _ _
    have : 1 * Nat.gcd t.natAbs b.natAbs = Nat.gcd (lowT t b).natAbs (lowB t b).natAbs * Nat.gcd t.natAbs b.natAbs := by rw [Nat.one_mul]; exact z
    exact (Nat.eq_of_mul_eq_mul_right g this).symm
  have p := lowB_pos (t := t) hb
  have p' := lowB_pos (t := t') hb'
  have x : lowT t b * lowB t' b' = lowT t' b' * lowB t b := by
    have c := low_cross (t := t) (b := b)
    have c' := low_cross (t := t') (b := b')
    have : lowT t b * lowB t' b' * (b * b') = lowT t' b' * lowB t b * (b * b') := by
      calc lowT t b * lowB t' b' * (b * b') = (lowT t b * b) * (lowB t' b' * b') := by ac_rfl
        _ = (t * lowB t b) * (lowB t' b' * b') := by rw [c]
        _ = (t * b') * (lowB t b * lowB t' b') := by ac_rfl
        _ = (t' * b) * (lowB t b * lowB t' b') := by rw [h]
        _ = (t' * lowB t' b') * (lowB t b * b) := by ac_rfl
        _ = (lowT t' b' * b') * (lowB t b * b) := by rw [c']
        _ = lowT t' b' * lowB t b * (b * b') := by ac_rfl
    exact Int.eq_of_mul_eq_mul_right (by have := Int.mul_pos hb hb'; omega) this
  have d1 : (lowB t b).natAbs ∣ (lowB t' b').natAbs := by
    refine Nat.Coprime.dvd_of_dvd_mul_left (k := (lowB t b).natAbs) (m := (lowT t b).natAbs) (Nat.Coprime.symm (cop hb)) ?_
    rw [← Int.natAbs_mul, x, Int.natAbs_mul]; exact Nat.dvd_mul_left _ _
  have d2 : (lowB t' b').natAbs ∣ (lowB t b).natAbs := by
    refine Nat.Coprime.dvd_of_dvd_mul_left (k := (lowB t' b').natAbs) (m := (lowT t' b').natAbs) (Nat.Coprime.symm (cop hb')) ?_
    rw [← Int.natAbs_mul, ← x, Int.natAbs_mul]; exact Nat.dvd_mul_left _ _
  have e := Nat.dvd_antisymm d1 d2
  have e' : lowB t b = lowB t' b' := by omega
  refine ⟨?_, e'⟩
  rw [e'] at x
  exact Int.eq_of_mul_eq_mul_right (by omega) x
theorem low_step {N D w p q : Int} (hD : 0 < D) (hq : 0 < q) :
    let f := fPlus (lowT N D) (lowB N D) (lowT (fTimes w 1 p q).1 (fTimes w 1 p q).2) (lowB (fTimes w 1 p q).1 (fTimes w 1 p q).2)
    lowT f.1 f.2 = lowT (N * q + w * p * D) (D * q) ∧ lowB f.1 f.2 = lowB (N * q + w * p * D) (D * q) ∧ 0 < f.2 := by
  intro f
  have hq' : 0 < (fTimes w 1 p q).2 := by show 0 < 1 * q; omega
  have p1 := lowB_pos (t := N) hD
  have p2 := lowB_pos (t := (fTimes w 1 p q).1) hq'
  have c1 := low_cross (t := N) (b := D)
  have c2 := low_cross (t := (fTimes w 1 p q).1) (b := (fTimes w 1 p q).2)
  have hf : 0 < f.2 := Int.mul_pos p1 p2
  have e : f.1 * (D * q) = (N * q + w * p * D) * f.2 := by
    show (lowT N D * lowB (w * p) (1 * q) + lowT (w * p) (1 * q) * lowB N D) * (D * q) = (N * q + w * p * D) * (lowB N D * lowB (w * p) (1 * q))
    have c2' : lowT (w * p) (1 * q) * q = w * p * lowB (w * p) (1 * q) := by
      have := c2
      show lowT (w * p) (1 * q) * q = _
      have h : (fTimes w 1 p q).2 = q := by show 1 * q = q; omega
      rw [h] at this
      have h2 : (1 : Int) * q = q := by omega
      rw [h2]; exact this
    generalize lowB (w * p) (1 * q) = b2 at *
    generalize lowT (w * p) (1 * q) = t2 at *
    calc (lowT N D * b2 + t2 * lowB N D) * (D * q) = (lowT N D * D) * (b2 * q) + (t2 * q) * (lowB N D * D) := by rw [Int.add_mul]; congr 1 <;> ac_rfl
      _ = (N * lowB N D) * (b2 * q) + (w * p * b2) * (lowB N D * D) := by rw [c1, c2']
      _ = (N * q + w * p * D) * (lowB N D * b2) := by rw [Int.add_mul]; congr 1 <;> ac_rfl
  obtain ⟨a, b⟩ := low_eq hf (Int.mul_pos hD hq) e
  exact ⟨a, b, hf⟩
/-! ### readings of texts, dicts, tuples as targets -/
def rInSg : R2 := fun x y H Q => ∃ (c : Nat) (z : Str), x = .str ⟨#[c]⟩ ∧ y = .str z ∧ Q (.bl (decide (c ∈ z.cps.toList))) H
def rNinSg : R2 := fun x y H Q => ∃ (c : Nat) (z : Str), x = .str ⟨#[c]⟩ ∧ y = .str z ∧ Q (.bl (!decide (c ∈ z.cps.toList))) H
def rAddS : R2 := fun x y H Q => ∃ i j, x = .str i ∧ y = .str j ∧ i.length + j.length ≤ sizeLine ∧ Q (.str (i ++ j)) H
theorem op_inSg {X : Cx} : OpR X (compareOp .In) rInSg := op_in_sign
theorem op_ninSg {X : Cx} : OpR X (compareOp .NotIn) rNinSg := op_notIn_sign
theorem op_addS {X : Cx} : OpR X (binaryOp .Add) rAddS := op_add_str
section
variable {K : PySem.W.Frag} {σ : L2.St} {H : Hp} {Q : VK} {QB : Bool → Hp → Prop} {D : Ends} {ta tb td ty tv te : TE} {v x y : V} {i j z : Str} {n : Int} {c : Nat} {p : Addr}
theorem r_inSg (k : Q (.bl (decide (c ∈ z.cps.toList))) H) : rInSg (.str ⟨#[c]⟩) (.str z) H Q := ⟨c, z, rfl, rfl, k⟩
theorem r_ninSg (k : Q (.bl (!decide (c ∈ z.cps.toList))) H) : rNinSg (.str ⟨#[c]⟩) (.str z) H Q := ⟨c, z, rfl, rfl, k⟩
theorem r_addS (h : i.length + j.length ≤ sizeLine) (k : Q (.str (i ++ j)) H) : rAddS (.str i) (.str j) H Q := ⟨i, j, rfl, rfl, h, k⟩
theorem r_ixS (h : z.length ≤ sizeLine) (h2 : atI z.cps.toList n = some c) (k : Q (.str ⟨#[c]⟩) H) : rIxS (.str z) (.int n) H Q := ⟨z, n, c, rfl, rfl, h, h2, k⟩
theorem r_slS {lo hi : Option Int} (h : z.length ≤ sizeLine) (k : Q (.str (cutS z lo hi)) H) : rSlS (.str z) lo hi H Q := ⟨z, rfl, h, k⟩
theorem r_sum {ns : List Int} (h : SqL K H p (ns.map V.int)) (k : Q (.int ns.sum) H) : rSum K [.ref p] H Q := ⟨p, ns, rfl, h, k⟩
theorem r_all {bs : List Bool} (h : SqL K H p (bs.map V.bl)) (k : Q (.bl (bs.all id)) H) : rAll K [.ref p] H Q := ⟨p, bs, rfl, h, k⟩
theorem r_sortS {xs : List Str} (h : SqL K H p (xs.map V.str)) (h2 : xs.length < 64) (k : ∀ (ys : List Str) (q : Addr), ys.Perm xs → sortedS ys = true → H q = none → Q (.ref q) (upd H q (.lst (ys.map V.str)))) : rSortedS K [.ref p] H Q := ⟨p, xs, rfl, h, h2, k⟩
theorem r_listD {kvs : List (Key × V)} (h : H p = some (.dK kvs)) (k : ∀ q, H q = none → Q (.ref q) (upd H q (.lst (kvs.map fun kv => kV kv.1)))) : rListD [.ref p] H Q := ⟨p, kvs, rfl, h, k⟩
/-- dicts with texts as keys -/
def rDGet : V → V → Hp → VK → Prop := fun x y H Q => ∃ a v, x = .ref a ∧ DGet H a y (some v) ∧ Q v H
def rDGet2 : V → V → V → Hp → VK → Prop := fun x y z H Q => ∃ a o, x = .ref a ∧ DGet H a y o ∧ Q (o.getD z) H
def rDPut : V → V → V → Hp → (Hp → Prop) → Prop := fun x y v H Q => ∃ a H4, x = .ref a ∧ DPut H a y v H4 ∧ Q H4
def rDInB (f : Bool → Bool) : V → V → Hp → VK → Prop := fun y x H Q => ∃ a o, x = .ref a ∧ DGet H a y o ∧ Q (.bl (f o.isSome)) H
theorem r_dget (k : td σ H fun x H1 => ty σ H1 fun y H2 => rDGet x y H2 Q) : tDGet td ty σ H Q := k
theorem r_dgetS {kvs : List (Key × V)} (h : H p = some (.dK kvs)) (h2 : valV kvs (Sum.inr z) = some v) (k : Q v H) : rDGet (.ref p) (.str z) H Q := ⟨p, v, rfl, .inl ⟨kvs, Sum.inr z, .inl h, rfl, h2.symm⟩, k⟩
theorem r_dput (k : tv σ H fun v H1 => td σ H1 fun x H2 => ty σ H2 fun y H3 => rDPut x y v H3 fun H4 => D.nx σ H4) : sDPut td ty tv D σ H := k
theorem r_dputS {kvs : List (Key × V)} {Q : Hp → Prop} (h : H p = some (.dK kvs)) (hl : kvs.length < sizeLine) (k : Q (upd H p (.dK (putK kvs (Sum.inr z) v)))) : rDPut (.ref p) (.str z) v H Q := ⟨p, _, rfl, DPut.k (k := Sum.inr z) h hl, k⟩
theorem r_dget2 {tx : TE} (h : td σ H fun x H1 => ∃ a, x = .ref a ∧ IsD H1 a ∧ ty σ H1 fun y H2 => tx σ H2 fun z H3 => ∃ o, DGet H3 a y o ∧ Q (o.getD z) H3) : tDGet2 td ty tx σ H Q := h
theorem r_dgetO {kvs : List (Key × V)} {R : Option V → Prop} (h : H p = some (.dK kvs)) (k : R (valV kvs (Sum.inr z))) : ∃ o, DGet H p (.str z) o ∧ R o := ⟨_, DGet.k (k := Sum.inr z) h, k⟩
theorem r_isD {kvs : List (Key × V)} {R : Addr → Prop} (h : H p = some (.dK kvs)) (k : R p) : ∃ a, V.ref p = .ref a ∧ IsD H a ∧ R a := ⟨p, rfl, .inl ⟨kvs, .inl h⟩, k⟩
theorem r_din (k : ty σ H fun y H1 => td σ H1 fun x H2 => rDInB id y x H2 Q) : tDIn ty td σ H Q := k
theorem r_dnin (k : ty σ H fun y H1 => td σ H1 fun x H2 => rDInB (fun b => !b) y x H2 Q) : tDNotIn ty td σ H Q := k
theorem r_dinS {kvs : List (Key × V)} {f : Bool → Bool} (h : H p = some (.dK kvs)) (k : Q (.bl (f (valV kvs (Sum.inr z)).isSome)) H) : rDInB f (.str z) (.ref p) H Q := ⟨p, _, rfl, DGet.k (k := Sum.inr z) h, k⟩
theorem r_dnew (k : ∀ p, H p = none → Q (.ref p) (upd H p (.dK []))) : tDNewK σ H Q := k
theorem r_gTup2 {i j : Nat} {Q : L2.St → Hp → Prop} (h : SqT K H p [x, y]) (k : Q ((σ.set i (some x)).set j (some y)) H) : gTup K 2 (gCons (gName i) (gCons (gName j) gNil)) (.ref p) σ H Q := ⟨p, [x, y], rfl, h, rfl, x, [y], rfl, y, [], rfl, rfl, k⟩
theorem r_strI {i : Int} {F : Int → Prop} (h : i.natAbs.log2 < 1920) (k : F i) : ∃ j, [V.int i] = [.int j] ∧ j.natAbs.log2 < 1920 ∧ F j := ⟨i, rfl, h, k⟩
theorem r_strS {i : Str} {F : Str → Prop} (k : F i) : ∃ j, [V.str i] = [.str j] ∧ F j := ⟨i, rfl, k⟩
theorem r_tupL {xs : List V} {F : Addr → Prop} {G : List V → Addr → Prop} (h : SqL K H p xs) (k : ∀ l, H l = none → G xs l) : ∃ q ys, [V.ref p] = [.ref q] ∧ ((SqL K H q ys ∧ ∀ l, H l = none → G ys l) ∨ (SqT K H q ys ∧ F q)) := ⟨p, xs, rfl, .inl ⟨h, k⟩⟩
theorem r_js {t : TE} {ts : List TE} {acc : Str} {Q : Str → Hp → Prop} (k : t σ H fun x H1 => ∃ y : Str, x = .str y ∧ (acc ++ y).length ≤ sizeLine ∧ tJs ts (acc ++ y) σ H1 Q) : tJs (t :: ts) acc σ H Q := k
theorem r_js0 {acc : Str} {Q : Str → Hp → Prop} (k : Q acc H) : tJs [] acc σ H Q := k
theorem r_jsS {y : Str} {A B : Str → Prop} (h : A y) (k : B y) : ∃ z, V.str y = .str z ∧ A z ∧ B z := ⟨y, rfl, h, k⟩
theorem r_fmt (k : te σ H fun x H1 => (∃ y : Str, x = .str y ∧ y.length ≤ sizeLine ∧ Q (.str y) H1) ∨ ∃ i : Int, x = .int i ∧ i.natAbs.log2 < 1920 ∧ Q (.str (toString i)) H1) : tFmt te σ H Q := k
end
/-! ### comprehensions over a text -/
section
variable {K : PySem.W.Frag} {σ : L2.St} {H : Hp} {Q : VK} {te tl : TE} {tt : TT} {G : TG} {vs : List Nat}
def CompS (G : TG) (tt : TT) (te : TE) (vs : List Nat) (σ : L2.St) (Q : VK) (x : V) (H1 : Hp) : Prop := ∃ z, x = .str z ∧ CompW (Its z) G tt te vs σ Q H1
theorem r_lcS (k : tl σ H fun x H1 => CompS G tt te vs σ Q x H1) : tLc (iStr tl) G tt te vs σ H Q := k
theorem lcS_go {z : Str} (Pv : Addr → Nat → List V → Hp → Prop) (h0 : ∀ D, H D = none → Pv D 0 [] (upd H D (.lst [])))
    (hs : ∀ D (i : Nat) c acc H', z.cps[i]? = some c → H' D = some (.lst acc) → Pv D i acc H' → G (.str ⟨#[c]⟩) (wipe σ vs) H' fun σ2 H2 => wipe σ2 vs = wipe σ vs ∧ tt σ2 H2 fun b H3 =>
      if b = true then te σ2 H3 fun y H4 => ∃ acc, H4 D = some (.lst acc) ∧ acc.length < sizeLine ∧ (∃ ac, (upd H4 D (.lst (acc ++ [y]))) D = some (.lst ac) ∧ Pv D (i + 1) ac (upd H4 D (.lst (acc ++ [y])))) else ∃ ac, H3 D = some (.lst ac) ∧ Pv D (i + 1) ac H3)
    (hd : ∀ D acc H', H D = none → H' D = some (.lst acc) → Pv D z.cps.size acc H' → Q (.ref D) H') : CompS G tt te vs σ Q (.str z) H :=
  ⟨z, rfl, fun D hD => lc_it (walk_str (z := z)) (fun i H' => ∃ acc, H' D = some (.lst acc) ∧ Pv D i acc H') ⟨[], upd_same, h0 D hD⟩ (fun _ _ _ _ => True.intro) (fun i x H' H2 hi ⟨acc, ha, p⟩ ⟨e, c, hc, hx⟩ => by subst e; subst hx; exact hs D i c acc _ hc ha p) fun H' ⟨acc, ha, p⟩ => hd D acc H' hD ha p⟩
end
namespace Wr
open PySem PySem.Spec PyProof.Rows L2
/-! ### forms written -/
theorem app_assoc (x y z : Str) : x ++ y ++ z = x ++ (y ++ z) := by
  show (⟨x.cps ++ y.cps ++ z.cps⟩ : Str) = ⟨x.cps ++ (y.cps ++ z.cps)⟩
  rw [Array.append_assoc]
theorem emp_app (x : Str) : Str.empty ++ x = x := by
  show (⟨#[] ++ x.cps⟩ : Str) = x
  rw [Array.empty_append]
theorem len_app (x y : Str) : (x ++ y).length = x.length + y.length := Array.size_append
theorem ne_emp {x : Str} (h : 0 < x.length) : x ≠ Str.empty := by rintro rfl; cases h
def num (i : Int) : Str := Str.ofString (toString i)
theorem of_app (s t : String) : Str.ofString (s ++ t) = Str.ofString s ++ Str.ofString t := by
  rw [Str.ofString_eq_toList, Str.ofString_eq_toList, Str.ofString_eq_toList]
  show _ = (⟨(s.toList.map Char.toNat).toArray ++ (t.toList.map Char.toNat).toArray⟩ : Str)
  rw [String.toList_append, List.map_append, List.append_toArray]
theorem num_neg {i : Int} (h : i < 0) : num i = Str.ofString "-" ++ num (i.natAbs : Int) := by
  unfold num
  rw [PyProof.Rows.toString_neg h, of_app, show (0 - i) = ((i.natAbs : Nat) : Int) by omega]
theorem num_len {i : Int} {k : Nat} (hk : 0 < k) (h : i.natAbs.log2 < k) : (num i).length ≤ k + 5 := by
  have e := int_text_length_le (k := k) hk h
  unfold num
  rw [PySem.ofString_length]; omega
def sp : Str := Str.ofString " "
def sg (w : Int) : Str := if w < 0 then Str.ofString "-" else Str.ofString "+"
/-- one term -/
def part (w : Int) (x : Str) : Str := if (w.natAbs : Int) = 1 then x else num (w.natAbs : Int) ++ sp ++ x
abbrev Pt := Int × Str
/-- the parts of a form -/
def pts (ts : List Fm.Tm) (c : Int) : List Pt := (ts.map fun p => (p.2, part p.2 p.1)) ++ (if c ≠ 0 ∨ ts = [] then [(c, num (c.natAbs : Int))] else [])
def tailW (ps : List Pt) : List Str := ps.flatMap fun p => [sg p.1, p.2]
def first (p : Pt) : Str := if p.1 < 0 then Str.ofString "-" ++ p.2 else p.2
def words : List Pt → List Str
  | [] => []
  | p :: r => first p :: tailW r
/-- as the program writes it -/
def prog (ts : List Fm.Tm) (c : Int) : Str := Str.join sp (words (pts ts c))
/-- as the law writes it -/
def step (line : Str) (p : Fm.Tm) : Str := (if line ≠ Str.empty then line ++ sp ++ sg p.2 ++ sp else if p.2 < 0 then Str.ofString "-" else line) ++ part p.2 p.1
def due (ts : List Fm.Tm) (c : Int) : Str := if ts = [] then num c else
  if 0 < c then ts.foldl step Str.empty ++ Str.ofString " + " ++ num c else if c < 0 then ts.foldl step Str.empty ++ Str.ofString " - " ++ num (-c) else ts.foldl step Str.empty
theorem join_snoc (s : Str) (t : Str) : ∀ (y : Str) (ws : List Str), Str.join s (y :: (ws ++ [t])) = Str.join s (y :: ws) ++ s ++ t
  | y, [] => rfl
  | y, z :: ws => by
    show y ++ s ++ Str.join s (z :: (ws ++ [t])) = (y ++ s ++ Str.join s (z :: ws)) ++ s ++ t
    rw [join_snoc s t z ws, ← app_assoc, ← app_assoc]
theorem part_pos {w : Int} {x : Str} (h : 0 < x.length) : 0 < (part w x).length := by
  unfold part; split
  · exact h
  · rw [len_app]; omega
theorem fold_step : ∀ (r : List Fm.Tm) (y : Str) (ws : List Str), 0 < (Str.join sp (y :: ws)).length → (∀ p ∈ r, 0 < p.1.length) →
    r.foldl step (Str.join sp (y :: ws)) = Str.join sp (y :: (ws ++ tailW (r.map fun p => (p.2, part p.2 p.1)))) ∧ 0 < (r.foldl step (Str.join sp (y :: ws))).length
  | [], y, ws, h, _ => ⟨by simp [tailW], h⟩
  | p :: r, y, ws, h, hn => by
    have e : step (Str.join sp (y :: ws)) p = Str.join sp (y :: (ws ++ [sg p.2, part p.2 p.1])) := by
      unfold step
      rw [if_pos (ne_emp h), show ws ++ [sg p.2, part p.2 p.1] = (ws ++ [sg p.2]) ++ [part p.2 p.1] by simp, join_snoc, join_snoc]
    have h2 : 0 < (Str.join sp (y :: (ws ++ [sg p.2, part p.2 p.1]))).length := by
      rw [← e]; unfold step; rw [len_app]; have := part_pos (w := p.2) (hn p (by simp)); omega
    have ih := fold_step r y (ws ++ [sg p.2, part p.2 p.1]) h2 fun q hq => hn q (by simp [hq])
    rw [List.foldl_cons, e]
    refine ⟨?_, ih.2⟩
    rw [ih.1]
    congr 2
    simp [tailW]
/-- both write the same -/
theorem same {ts : List Fm.Tm} {c : Int} (hn : ∀ p ∈ ts, 0 < p.1.length) : prog ts c = due ts c := by
  unfold prog due pts
  cases ts with
  | nil =>
    rw [if_pos rfl]
    simp only [List.map_nil, List.nil_append, or_true, if_true, words, tailW, List.flatMap_nil]
    show first (c, num (c.natAbs : Int)) = _
    unfold first
    split
    · next h => exact (num_neg h).symm
    · next h => show num (c.natAbs : Int) = _; rw [show ((c.natAbs : Nat) : Int) = c by have h' : ¬ c < 0 := h; omega]
  | cons p r =>
    rw [if_neg (show ¬ (p :: r = []) by simp)]
    have s0 : step Str.empty p = first (p.2, part p.2 p.1) := by
      unfold step first
      rw [if_neg (by simp)]
      split
      · rfl
      · exact emp_app _
    have h1 : 0 < (Str.join sp [first (p.2, part p.2 p.1)]).length := by
      show 0 < (first (p.2, part p.2 p.1)).length
      have := part_pos (w := p.2) (hn p (by simp))
      unfold first; split
      · rw [len_app]; dsimp only; omega
      · exact this
    have f := fold_step r (first (p.2, part p.2 p.1)) [] h1 fun q hq => hn q (by simp [hq])
    have f1 : (p :: r).foldl step Str.empty = Str.join sp (first (p.2, part p.2 p.1) :: tailW (r.map fun p => (p.2, part p.2 p.1))) := by
      rw [List.foldl_cons, s0]; exact f.1
    rw [f1]
    have wc : ∀ t : Pt, words (((p :: r).map fun p => (p.2, part p.2 p.1)) ++ [t]) = first (p.2, part p.2 p.1) :: (tailW (r.map fun p => (p.2, part p.2 p.1)) ++ [sg t.1] ++ [t.2]) := fun t => by
      simp [words, tailW]
    by_cases h : c = 0
    · subst h
      rw [if_neg (by simp), if_neg (by decide), if_neg (by decide), List.append_nil]; rfl
    · rw [if_pos (.inl h), wc, join_snoc, join_snoc]
      dsimp only
      by_cases h0 : 0 < c
      · rw [if_pos h0]
        unfold sg
        rw [if_neg (by omega), show ((c.natAbs : Nat) : Int) = c by omega, show Str.ofString " + " = sp ++ (Str.ofString "+" ++ sp) by decide +kernel]
        simp only [app_assoc]
      · rw [if_neg h0, if_pos (by omega)]
        unfold sg
        rw [if_pos (by omega), show ((c.natAbs : Nat) : Int) = -c by omega, show Str.ofString " - " = sp ++ (Str.ofString "-" ++ sp) by decide +kernel]
        simp only [app_assoc]
theorem tailW_len : ∀ ps : List Pt, (tailW ps).length = 2 * ps.length
  | [] => rfl
  | p :: ps => by
    have := tailW_len ps
    show (sg p.1 :: p.2 :: tailW ps).length = _
    simp only [List.length_cons, this]; omega
theorem tailW_snoc (ps : List Pt) (p : Pt) : tailW (ps ++ [p]) = tailW ps ++ [sg p.1, p.2] := by simp [tailW]
theorem tailW_mem {ps : List Pt} {y : Str} (h : y ∈ tailW ps) : (∃ w, y = sg w) ∨ ∃ p ∈ ps, y = p.2 := by
  obtain ⟨p, hp, hy⟩ := List.mem_flatMap.mp h
  rcases List.mem_cons.mp hy with e | e
  · exact .inl ⟨p.1, e⟩
  · exact .inr ⟨p, hp, List.mem_singleton.mp e⟩
theorem sum_len {B : Nat} : ∀ {ys : List Str}, (∀ y ∈ ys, y.length ≤ B) → (ys.map (·.length)).sum ≤ ys.length * B
  | [], _ => by simp
  | y :: ys, h => by
    have a := h y (by simp)
    have b := sum_len (B := B) (ys := ys) fun z hz => h z (by simp [hz])
    rw [List.map_cons, List.sum_cons, List.length_cons, Nat.succ_mul]; omega
end Wr
/-! ### a row of objects, each told by its item -/
section
variable {α : Type} {f : α → HO} {H H' : Hp}
def AllAt (f : α → HO) (H : Hp) : List Addr → List α → Prop
  | [], [] => True
  | a :: as, x :: xs => H a = some (f x) ∧ AllAt f H as xs
  | _, _ => False
theorem AllAt.len : ∀ {as : List Addr} {xs : List α}, AllAt f H as xs → as.length = xs.length
  | [], [], _ => rfl
  | _ :: _, _ :: _, h => congrArg Nat.succ (AllAt.len h.2)
  | [], _ :: _, h => h.elim
  | _ :: _, [], h => h.elim
theorem AllAt.get : ∀ {as : List Addr} {xs : List α} {i : Nat} {a : Addr}, AllAt f H as xs → as[i]? = some a → ∃ x, xs[i]? = some x ∧ H a = some (f x)
  | [], _, _, _, _, e => by simp at e
  | _ :: _, [], _, _, h, _ => h.elim
  | b :: as, p :: ts, 0, a, h, e => by
    have : b = a := by simpa using e
    subst this; exact ⟨p, rfl, h.1⟩
  | b :: as, p :: ts, i + 1, a, h, e => by
    obtain ⟨q, h1, h2⟩ := AllAt.get (i := i) h.2 (by simpa using e)
    exact ⟨q, by simpa using h1, h2⟩
theorem AllAt.mono : ∀ {as : List Addr} {xs : List α}, AllAt f H as xs → (∀ a x, a ∈ as → x ∈ xs → H a = some (f x) → H' a = some (f x)) → AllAt f H' as xs
  | [], [], _, _ => trivial
  | a :: as, p :: ts, h, k => ⟨k a p (by simp) (by simp) h.1, h.2.mono fun b q hb hq => k b q (by simp [hb]) (by simp [hq])⟩
  | [], _ :: _, h, _ => h.elim
  | _ :: _, [], h, _ => h.elim
theorem AllAt.app : ∀ {as bs : List Addr} {xs ys : List α}, AllAt f H as xs → AllAt f H bs ys → AllAt f H (as ++ bs) (xs ++ ys)
  | [], _, [], _, _, k => k
  | _ :: _, _, _ :: _, _, h, k => ⟨h.1, h.2.app k⟩
  | [], _, _ :: _, _, h, _ => h.elim
  | _ :: _, _, [], _, h, _ => h.elim
theorem AllAt.keep0 {as : List Addr} {xs : List α} (h : AllAt f H as xs) (k : Keep [] H H') : AllAt f H' as xs := h.mono fun a p _ _ e => k a _ (by simp) e
/-- kept where the changed addresses hold other things -/
theorem AllAt.keep {M : List Addr} {as : List Addr} {xs : List α} (h : AllAt f H as xs) (k : Keep M H H') (n : ∀ m ∈ M, ∀ x, H m ≠ some (f x)) : AllAt f H' as xs := h.mono fun a p _ _ e => k a _ (fun hm => n a hm p e) e
end
/-! ### loops and comprehensions over zip of two lists, dict comprehensions over the items of a dict -/
section
variable {K : PySem.W.Frag} {σ : L2.St} {H : Hp} {Q : VK} {te tk tv : TE} {tt : TT} {G : TG} {tas : TA} {vs : List Nat} {ts : TS} {D : Ends}
def ForW (J : It) (G : TG) (ts : TS) (D : Ends) (σ : L2.St) (H : Hp) : Prop := ∃ W : Nat → Nat → L2.St → Hp → Prop, (∃ m, W 0 m σ H) ∧ ∀ i m σ H, W i m σ H →
  (J.stop i H ∧ D.nx σ H) ∨ (J.go i H ∧ ∃ N : L2.St → Hp → Prop, (∀ σ' H', N σ' H' → ∃ m', m' < m ∧ W (i + 1) m' σ' H') ∧ ∀ x H', J.yld i H x H' → G x σ H' fun σ2 H2 => ts { D with nx := N, ct := N, bk := D.nx } σ2 H2)
def ForZ (K : PySem.W.Frag) (G : TG) (ts : TS) (D : Ends) (σ : L2.St) (us : List V) (H : Hp) : Prop := ∃ a b xs ys, us = [.ref a, .ref b] ∧ SqL K H a xs ∧ SqL K H b ys ∧ ForW (Itz K a b) G ts D σ H
theorem r_forZ (k : tas σ H fun us H1 => ForZ K G ts D σ us H1) : tFor (iZip K tas) G ts D σ H := k
theorem forZ_go {a b : Addr} {xs ys : List V} (hl : xs.length = ys.length) (Pv : Nat → L2.St → Hp → Prop) (hx : SqL K H a xs) (hy : SqL K H b ys) (h0 : Pv 0 σ H) (hq : ∀ i σ' H', Pv i σ' H' → SqL K H' a xs ∧ SqL K H' b ys)
    (hs : ∀ (i : Nat) (x y : V) (T : Addr) σ' H', xs[i]? = some x → ys[i]? = some y → Pv i σ' H' → H' T = none → G (.ref T) σ' (upd H' T (.tup [x, y])) fun σ2 H2 => ts { D with nx := Pv (i + 1), ct := Pv (i + 1), bk := D.nx } σ2 H2)
    (hd : ∀ σ' H', Pv xs.length σ' H' → D.nx σ' H') : ForZ K G ts D σ [.ref a, .ref b] H := ⟨a, b, xs, ys, rfl, hx, hy, RZ.for_zipL hl Pv h0 hq hs hd⟩
def CompZ (K : PySem.W.Frag) (G : TG) (tt : TT) (te : TE) (vs : List Nat) (σ : L2.St) (Q : VK) (us : List V) (H1 : Hp) : Prop := ∃ a b xs ys, us = [.ref a, .ref b] ∧ SqL K H1 a xs ∧ SqL K H1 b ys ∧ CompW (Itz K a b) G tt te vs σ Q H1
theorem r_lcZ (k : tas σ H fun us H1 => CompZ K G tt te vs σ Q us H1) : tLc (iZip K tas) G tt te vs σ H Q := k
theorem lcZ_go {a b : Addr} {xs ys : List V} (hl : xs.length = ys.length) (Pv : Addr → Nat → List V → Hp → Prop) (hx : SqL K H a xs) (hy : SqL K H b ys) (h0 : ∀ D, H D = none → Pv D 0 [] (upd H D (.lst []))) (hq : ∀ D i acc H', H D = none → Pv D i acc H' → SqL K H' a xs ∧ SqL K H' b ys)
    (hs : ∀ D (i : Nat) x y T acc H', xs[i]? = some x → ys[i]? = some y → H D = none → H' D = some (.lst acc) → Pv D i acc H' → H' T = none → G (.ref T) (wipe σ vs) (upd H' T (.tup [x, y])) fun σ2 H2 => wipe σ2 vs = wipe σ vs ∧ tt σ2 H2 fun b H3 =>
      if b = true then te σ2 H3 fun y H4 => ∃ acc, H4 D = some (.lst acc) ∧ acc.length < sizeLine ∧ (∃ ac, (upd H4 D (.lst (acc ++ [y]))) D = some (.lst ac) ∧ Pv D (i + 1) ac (upd H4 D (.lst (acc ++ [y])))) else ∃ ac, H3 D = some (.lst ac) ∧ Pv D (i + 1) ac H3)
    (hd : ∀ D acc H', H D = none → H' D = some (.lst acc) → Pv D xs.length acc H' → Q (.ref D) H') : CompZ K G tt te vs σ Q [.ref a, .ref b] H :=
  ⟨a, b, xs, ys, rfl, hx, hy, fun D hD => lc_it (walk_zip (n := xs.length) (by omega)) (fun i H' => ∃ acc, H' D = some (.lst acc) ∧ Pv D i acc H') ⟨[], upd_same, h0 D hD⟩ (fun i H' _ ⟨acc, _, p⟩ => hq D i acc H' hD p)
    (fun i v H1 H' hi ⟨acc, ha, p⟩ ⟨T, x, y, ev, hT, eH, ex, ey⟩ => by subst ev eH; exact hs D i x y T acc H1 ex ey hD ha p hT) fun H' ⟨acc, ha, p⟩ => hd D acc H' hD ha p⟩
/-- a target (x, y), z -/
theorem r_gTup21 {p T : Addr} {x y z : V} {i j k : Nat} {Q : L2.St → Hp → Prop} (h : SqT K H T [.ref p, z]) (h2 : SqT K H p [x, y]) (q : Q (((σ.set i (some x)).set j (some y)).set k (some z)) H) :
    gTup K 2 (gCons (gTup K 2 (gCons (gName i) (gCons (gName j) gNil))) (gCons (gName k) gNil)) (.ref T) σ H Q :=
  ⟨T, [.ref p, z], rfl, h, rfl, .ref p, [z], rfl, ⟨p, [x, y], rfl, h2, rfl, x, [y], rfl, y, [], rfl, rfl, z, [], rfl, rfl, q⟩⟩
/-- a dict comprehension over a walk -/
theorem dc_it {J : It} {n : Nat} {Go : Hp → Prop} {Y : Nat → Hp → V → Hp → Prop} (w : Walk J n Go Y) {H1 : Hp} {D : Addr} {Qd : Hp → Prop} (Pv : Nat → Hp → Prop) (h0 : Pv 0 (upd H1 D (.dK []))) (hG : ∀ i H, i ≤ n → Pv i H → Go H)
    (hs : ∀ i x H H', i < n → Pv i H → Y i H x H' → G x (wipe σ vs) H' fun σ2 H2 => wipe σ2 vs = wipe σ vs ∧ tt σ2 H2 fun b H3 =>
      if b = true then tk σ2 H3 fun y H4 => tv σ2 H4 fun z H5 => ∃ kvs k, y = kV k ∧ H5 D = some (.dK kvs) ∧ kvs.length < sizeLine ∧ Pv (i + 1) (upd H5 D (.dK (putK kvs k z))) else Pv (i + 1) H3) (hd : ∀ H, Pv n H → Qd H) :
    ∃ W : Nat → Nat → Hp → Prop, (∃ m, W 0 m (upd H1 D (.dK []))) ∧ ∀ i m H, W i m H →
      (J.stop i H ∧ Qd H) ∨ (J.go i H ∧ ∃ Nx : Hp → Prop, (∀ H', Nx H' → ∃ m', m' < m ∧ W (i + 1) m' H') ∧ ∀ x H', J.yld i H x H' → G x (wipe σ vs) H' fun σ2 H2 => wipe σ2 vs = wipe σ vs ∧ tt σ2 H2 fun b H3 =>
        if b = true then tk σ2 H3 fun y H4 => tv σ2 H4 fun z H5 => ∃ kvs k, y = kV k ∧ H5 D = some (.dK kvs) ∧ kvs.length < sizeLine ∧ Nx (upd H5 D (.dK (putK kvs k z))) else Nx H3) := by
  let Turn : Nat → Nat → Hp → Prop := fun i left H => left + i = n ∧ Pv i H
  refine ⟨Turn, ⟨n, rfl, h0⟩, fun i left H ⟨sum, p⟩ => ?_⟩
  have stands := hG i H (by omega) p
  rcases Nat.eq_or_lt_of_le (show i ≤ n by omega) with full | more
  · cases full
    exact .inl ⟨w.stops H stands, hd H p⟩
  · exact .inr ⟨w.goes i H more stands, Pv (i + 1), fun H' p' => ⟨left - 1, by omega, by omega, p'⟩, fun v H' y => hs i v H H' more p (w.yields i H v H' more stands y)⟩
/-- {k: v for k, v in d.items() if ..} where d is looked up by a reading, locked for the time -/
theorem dcI_go {td : TE} {d : Addr} {kvs : List (Key × V)} (hd : H d = some (.dK kvs)) (up : ∀ od (Q' : VK), (∀ v H1, v = .ref d ∧ H1 = upd H d (.frz od (.dK kvs)) → Q' v H1) → td σ (upd H d (.frz od (.dK kvs))) Q')
    (Pv : Obj → Addr → Nat → List (Key × V) → Hp → Prop) (h0 : ∀ od D, upd H d (.frz od (.dK kvs)) D = none → Pv od D 0 [] (upd (upd H d (.frz od (.dK kvs))) D (.dK []))) (hG : ∀ od D i acc H', Pv od D i acc H' → H' d = some (.frz od (.dK kvs)))
    (hs : ∀ od D (i : Nat) k v T acc H', kvs[i]? = some (k, v) → upd H d (.frz od (.dK kvs)) D = none → H' D = some (.dK acc) → Pv od D i acc H' → H' T = none → G (.ref T) (wipe σ vs) (upd H' T (.tup [kV k, v])) fun σ2 H2 => wipe σ2 vs = wipe σ vs ∧ tt σ2 H2 fun b H3 =>
      if b = true then tk σ2 H3 fun y H4 => tv σ2 H4 fun z H5 => ∃ acc k, y = kV k ∧ H5 D = some (.dK acc) ∧ acc.length < sizeLine ∧ (∃ ac, (upd H5 D (.dK (putK acc k z))) D = some (.dK ac) ∧ Pv od D (i + 1) ac (upd H5 D (.dK (putK acc k z)))) else ∃ ac, H3 D = some (.dK ac) ∧ Pv od D (i + 1) ac H3)
    (he : ∀ od D acc H', upd H d (.frz od (.dK kvs)) D = none → H' D = some (.dK acc) → Pv od D kvs.length acc H' → Q (.ref D) (upd H' d (.dK kvs))) : tLockE (tDc (iItems td) G tt tk tv vs) σ H Q := by
  refine ⟨d, .dK kvs, hd, trivial, fun od => up od _ ?_⟩
  rintro v H1 ⟨rfl, rfl⟩
  refine ⟨d, od, kvs, rfl, upd_same, fun D hD => dc_it walk_items (fun i H' => ∃ acc, H' D = some (.dK acc) ∧ Pv od D i acc H') ⟨[], upd_same, h0 od D hD⟩ (fun i H' _ ⟨acc, _, p⟩ => hG od D i acc H' p) ?_ fun H' ⟨acc, ha, p⟩ => ⟨hG _ _ _ _ _ p, he od D acc H' hD ha p⟩⟩
  rintro i v H1 H' hi ⟨acc, ha, p⟩ ⟨T, x, y, ev, hT, eH, ex, ey⟩
  subst ev eH
  replace ex : kvs[i]?.map (fun kv => kV kv.1) = some x := ex
  replace ey : kvs[i]?.map Prod.snd = some y := ey
  cases hk : kvs[i]? with
  | none => rw [hk] at ex; cases ex
  | some kv =>
    rw [hk] at ex ey
    cases ex; cases ey
    exact hs od D i kv.1 kv.2 T acc H1 hk hD ha p hT
theorem Keep.unlock {M : List Addr} {H' : Hp} {d : Addr} {o f : HO} (h : H d = some o) (k : Keep M (upd H d f) H') : Keep M H (upd H' d o) := fun b u n e => by
  by_cases c : b = d
  · subst c; rw [h] at e; cases e; exact upd_same
  · rw [upd_ne c]; exact k b u n (by rw [upd_ne c]; exact e)
theorem r_any {a : Addr} {bs : List Bool} (h : SqL K H a (bs.map V.bl)) (k : Q (.bl (bs.any id)) H) : rAny K [V.ref a] H Q := ⟨a, bs, rfl, h, k⟩
theorem r_truD {p : Addr} {kvs : List (Key × V)} {QB : Bool → Hp → Prop} (h : H p = some (.dK kvs)) (k : QB (!kvs.isEmpty) H) : ∃ b, TruV K (.ref p) H b ∧ QB b H := ⟨_, .inr (.inr ⟨kvs, h, rfl⟩), k⟩
end
/-! ### == and != of two dicts whose values are the same things -/
def SameV (v : V) : Prop := flatB v = true ∨ ∃ a, v = .ref a
theorem eqAt_sameV {A : Around} {s : Shared} {v : V} {u u' : Value} (r : RelV v u) (r' : RelV v u') (f : SameV v) : SeqAt.EqAt A s u u' true := by
  rcases f with f | ⟨a, rfl⟩
  · exact eqAt_same r r' f
  · cases (show u = Value.ref a from r)
    cases (show u' = Value.ref a from r')
    exact SeqAt.EqAt.same _
theorem hits_same {A : Around} {s : Shared} {ls : List (Key × V)} {lv : List (Key × Value)} (rl : KV ls lv) {us : List (Key × V)} {uv : List (Key × Value)} (ru : KV us uv) :
    (∀ e ∈ us, valV ls e.1 = some e.2 ∧ SameV e.2) → PySem.W.KeqHits A s lv uv true := by
  unfold KV at ru
  induction ru with
  | nil => exact fun _ => .nil
  | @cons e f es fs both more ih =>
    intro all
    have first := all e List.mem_cons_self
    have look : RelO (some e.2) (valueAt lv e.1) := first.1 ▸ rl.val e.1
    obtain ⟨there, found, rel⟩ := look.some_of
    obtain ⟨key, worth⟩ := f
    rw [show e.1 = key from both.1] at found
    show PySem.W.KeqHits A s lv ((key, worth) :: fs) (true && true)
    exact .hit found (eqAt_sameV both.2 rel first.2) (ih fun g hg => all g (List.mem_cons_of_mem _ hg))
def SameD (x y : V) (H : Hp) : Prop := ∃ a b ks ls, x = .ref a ∧ y = .ref b ∧ H a = some (.dK ks) ∧ H b = some (.dK ls) ∧ ks.length = ls.length ∧ (∀ p ∈ ks, valV ls p.1 = some p.2 ∧ SameV p.2)
def rEqSame : R2 := fun x y H Q => SameD x y H ∧ Q (.bl true) H
def rNeSame : R2 := fun x y H Q => SameD x y H ∧ Q (.bl false) H
theorem same_run {X : Cx} {pins : List (Addr × Obj)} {σ : L2.St} {H : Hp} {s : Shared} {x y : V} {v u : Value} (I : Inv X pins σ H s) (rx : RelV x v) (ry : RelV y u) (d : SameD x y H) : ∃ (a b : Addr) (fa fb : List (Key × Value)), v = .ref a ∧ u = .ref b ∧
    (a == sysModules) = false ∧ (b == sysModules) = false ∧ s.heap.DictOf (mixKind X.prog X.w) a fa ∧ s.heap.DictOf (mixKind X.prog X.w) b fb ∧ fa.length = fb.length ∧ PySem.W.KeqHits X.A.in1 s fb fa true := by
  obtain ⟨a, b, ks, ls, rfl, rfl, ha, hb, len, same⟩ := d
  have oa : ObjOk X.prog X.w H s.heap a (.dK ks) := I.hok a _ ha
  have ob : ObjOk X.prog X.w H s.heap b (.dK ls) := I.hok b _ hb
  obtain ⟨_, na, fa, ra, da⟩ := oa
  obtain ⟨_, nb, fb, rb, db⟩ := ob
  exact ⟨a, b, fa, fb, rx, ry, na, nb, da, db, by have h1 := ra.length; have h2 := rb.length; omega, hits_same rb ra same⟩
theorem op_eqSame {X : Cx} (small : X.A.units < cLine) : OpR X (compareOp .Eq) rEqSame := by
  rintro pins s σ H x y v u Q I rx ry ⟨d, q⟩
  obtain ⟨a, b, fa, fb, rfl, rfl, na, nb, da, db, len, hits⟩ := same_run I rx ry d
  exact PySem.W.keq_eq (r := true) na nb da db small (fun _ => hits) ⟨.bl true, H, I, by simp [len]; rfl, q⟩
theorem op_neSame {X : Cx} (small : X.A.units < cLine) : OpR X (compareOp .NotEq) rNeSame := by
  rintro pins s σ H x y v u Q I rx ry ⟨d, q⟩
  obtain ⟨a, b, fa, fb, rfl, rfl, na, nb, da, db, len, hits⟩ := same_run I rx ry d
  exact PySem.W.keq_ne (r := true) na nb da db small (fun _ => hits) ⟨.bl false, H, I, by simp [len]; rfl, q⟩
theorem val_self : ∀ {ks : List (Key × V)}, (ks.map (·.1)).Nodup → ∀ p ∈ ks, valV ks p.1 = some p.2
  | [], _, p, h => by simp at h
  | kv :: ks, n, p, h => by
    rw [List.map_cons, List.nodup_cons] at n
    rcases List.mem_cons.mp h with e | h
    · subst e; unfold valV; simp
    · have ne : kv.1 ≠ p.1 := fun e => n.1 (by rw [e]; exact List.mem_map_of_mem h)
      have ih := val_self n.2 p h
      unfold valV at ih ⊢
      rw [List.find?_cons_of_neg (by simpa using ne)]
      exact ih
theorem same_self {H : Hp} {a b : Addr} {ks : List (Key × V)} (ha : H a = some (.dK ks)) (hb : H b = some (.dK ks)) (n : (ks.map (·.1)).Nodup) (h : ∀ p ∈ ks, SameV p.2) : SameD (.ref a) (.ref b) H :=
  ⟨a, b, ks, ks, rfl, rfl, ha, hb, rfl, fun p hp => ⟨val_self n p hp, h p hp⟩⟩
namespace Dt
/-! ### dicts with tuples as keys: walked by values and by items -/
abbrev Tb := List (List Key × V)
/-- a locked dict, its entries as they are stored -/
theorem raw {X : Cx} {pins : List (Addr × Obj)} {σ : L2.St} {H : Hp} {s : Shared} {d : Addr} {o : Obj} {kvs : Tb} (I : Inv X pins σ H s) (h : H d = some (.frz o (.dT kvs))) :
    (d == sysModules) = false ∧ ∃ (es : Array DictEntry) (ep : Nat), o.data = .dict es ep ∧ es.size = kvs.length ∧ s.heap.DictRaw d es ep ∧
      ∀ (i : Nat) (hi : i < es.size), ∃ (k : List Key) (v : V) (q : Addr), kvs[i]? = some (k, v) ∧ es[i].key = .ref q ∧ H q = some (.tup (k.map kV)) ∧ RelV v es[i].val := by
  obtain ⟨stands, _, apart, cells, pairs, o2, es, ep, stands2, exact, data, list, _⟩ := I.hok d _ h
  obtain rfl : o2 = o := Option.some.inj (stands2.symm.trans stands)
  have len : es.size = cells.length := size_of_entries list
  have len2 : kvs.length = cells.length := Paired.length pairs
  refine ⟨apart, es, ep, data, by omega, ⟨_, stands, exact, data⟩, fun i hi => ?_⟩
  have more : i < kvs.length := by omega
  obtain ⟨c, at1, e1, e2, e3⟩ := L2.paired_get pairs (List.getElem?_eq_getElem more)
  have entry := entry_at list i
  rw [at1, Array.getElem?_eq_getElem hi] at entry
  have entry' : es[i] = entryOfKey (tupleKind (mixKind X.prog X.w)) c := Option.some.inj entry
  refine ⟨kvs[i].1, kvs[i].2, c.2.1, List.getElem?_eq_getElem more, by rw [entry']; rfl, e2, by rw [entry']; exact e3⟩
/-- the values, one by one -/
def Vals (d : Addr) (o : Obj) (kvs : Tb) : It :=
  ⟨fun i H => H d = some (.frz o (.dT kvs)) ∧ i < kvs.length, fun i H x H' => H' = H ∧ ∃ k, kvs[i]? = some (k, x), fun i H => H d = some (.frz o (.dT kvs)) ∧ kvs.length ≤ i⟩
/-- the pairs: the key's own tuple and the value, in a new tuple -/
def Items (d : Addr) (o : Obj) (kvs : Tb) : It :=
  ⟨fun i H => H d = some (.frz o (.dT kvs)) ∧ i < kvs.length, fun i H x H' => ∃ (T q : Addr) (k : List Key) (v : V), kvs[i]? = some (k, v) ∧ H q = some (.tup (k.map kV)) ∧ x = .ref T ∧ H T = none ∧ H' = upd H T (.tup [.ref q, v]), fun i H => H d = some (.frz o (.dT kvs)) ∧ kvs.length ≤ i⟩
section
variable {P : Program} {w : World} {K : PySem.W.Frag} {d : Addr} {o : Obj} {es : Array DictEntry} {ep : Nat} {kvs : Tb}
theorem turn_vals {tg : Expr} (it : Addr) (data : o.data = .dict es ep) : Turn P w K tg (Vals d o kvs) [it] it (fun i h => h.IsValIter it d i es.size ep) := by
  refine ⟨List.mem_singleton.mpr rfl, fun i h st b hb => ?_, fun i h h' st k => st.at fun u e => k it (List.mem_singleton.mpr rfl) u e, ?_, ?_, fun A i s Q E st h => wpAny_pyIter_valiter st h⟩
  · obtain ⟨u, e, _, fields⟩ := st
    rw [List.mem_singleton.mp hb]
    exact ⟨u, e, fun v z => by rw [fields] at z; cases z⟩
  · intro X hP hw hK calm i pins s σ H E I own st go
    subst hP hw hK
    obtain ⟨locked, more⟩ := go
    obtain ⟨g0, g1, g2, g3, g4, g5⟩ := own it (List.mem_singleton.mpr rfl)
    obtain ⟨_, es2, ep2, data2, len, stands, entries⟩ := raw I locked
    obtain ⟨rfl, rfl⟩ := dict_ep data data2
    obtain ⟨k, v, q, at1, _, _, rel⟩ := entries i (by omega)
    refine PySem.wpAny_pyNext_values_item_raw st stands (by omega) fun h' st' but => ?_
    have I' := I.turned (h' := h') (t' := s.toks) (fun b u hb e => (but.2 b hb).trans e) g0 g1 g3 g4 g5
    obtain ⟨oi, e, c, dd⟩ := id st'
    exact ⟨_, rfl, go_of (s := { s with heap := h' }) e c dd (by decide) ⟨v, H, I', rel, ⟨rfl, k, at1⟩, st', fun b hb => (own b hb).1⟩⟩
  · intro X hP hw hK calm i pins s σ H E I own st stop
    subst hP hw hK
    obtain ⟨locked, full⟩ := stop
    obtain ⟨g0, g1, g2, g3, g4, g5⟩ := own it (List.mem_singleton.mpr rfl)
    obtain ⟨_, es2, ep2, data2, len, stands, _⟩ := raw I locked
    obtain ⟨rfl, rfl⟩ := dict_ep data data2
    exact PySem.wpAny_pyNext_values_end_raw (I.ok.hd calm) st stands (by omega) fun h' but => ⟨rfl, I.turned (t' := s.toks) (fun b u hb e => but b u hb e) g0 g1 g3 g4 g5⟩
theorem turn_items {elts : List Expr} {kk : Nat} {tpos : Pos} (it : Addr) (data : o.data = .dict es ep) : Turn P w K (.Tuple elts kk tpos) (Items d o kvs) [it] it (fun i h => ∃ x y, IsItemIter h it d i es.size ep x y) := by
  refine ⟨List.mem_singleton.mpr rfl, fun i h st b hb => ?_, fun i h h' st k => ?_, ?_, ?_, fun A i s Q E st h => ?_⟩
  · obtain ⟨x, y, e⟩ := st
    rw [List.mem_singleton.mp hb]
    exact ⟨_, e, fun v z => nomatch z⟩
  · obtain ⟨x, y, e⟩ := st
    exact ⟨x, y, k it (List.mem_singleton.mpr rfl) _ e⟩
  · intro X hP hw hK calm i pins s σ H E I own st go
    subst hP hw hK
    obtain ⟨locked, more⟩ := go
    obtain ⟨_, es2, ep2, data2, len, stands, entries⟩ := raw I locked
    obtain ⟨rfl, rfl⟩ := dict_ep data data2
    obtain ⟨k, v, q, at1, key, tup, rel⟩ := entries i (by omega)
    obtain ⟨x, y, here⟩ := st
    have young : it < s.heap.objs.size := Heap.lt_size here
    refine PySem.wpAny_pyNext_items_item_raw here stands (by omega) fun h' out pair _ kept => ⟨_, rfl, ?_⟩
    refine wpAny_letOwnedTupleGo_items (s := { s with heap := h' }) out fun h2 back but => ?_
    have pair2 := (but.2 _ (Nat.ne_of_gt young)).trans pair
    have laid : ObjOk X.prog X.w (upd H s.heap.objs.size (.tup [.ref q, v])) h2 s.heap.objs.size (.tup [.ref q, v]) := by
      refine ⟨show 2 ≤ sizeLine by decide, [(es2[i]'(by omega)).key, (es2[i]'(by omega)).val], .cons ?_ (.cons rel .nil), _, pair2, rfl, _, rfl⟩
      rw [key]; rfl
    have I' := I.turnedNew (t' := s.toks) (ch := [it]) (fun b u hb e => (but.2 b (by simpa using hb)).trans (kept b u (by simpa using hb) e)) own (Nat.le_refl _) laid
    refine ⟨.ref s.heap.objs.size, _, I', rfl, ⟨_, q, k, v, at1, tup, rfl, I.hok.fresh (Nat.le_refl _), rfl⟩, ⟨_, _, back⟩, fun b hb => ?_⟩
    rw [List.mem_singleton.mp hb, upd_ne (Nat.ne_of_lt young)]
    exact (own it (List.mem_singleton.mpr rfl)).1
  · intro X hP hw hK calm i pins s σ H E I own st stop
    subst hP hw hK
    obtain ⟨locked, full⟩ := stop
    obtain ⟨g0, g1, g2, g3, g4, g5⟩ := own it (List.mem_singleton.mpr rfl)
    obtain ⟨_, es2, ep2, data2, len, stands, _⟩ := raw I locked
    obtain ⟨rfl, rfl⟩ := dict_ep data data2
    obtain ⟨x, y, here⟩ := st
    exact PySem.wpAny_pyNext_items_end_raw (I.ok.hd calm) here stands (by omega) fun h' but => ⟨rfl, I.turned (t' := s.toks) (fun b u hb e => but b u hb e) g0 g1 g3 g4 g5⟩
  · obtain ⟨x, y, e⟩ := st
    exact PySem.W.kcp_self e h
end
/-! ### d.values() and d.items() of a locked dict, in a loop's head -/
def iValsT (td : TE) : TI := fun σ H R => td σ H fun x H1 => ∃ d o kvs, x = .ref d ∧ H1 d = some (.frz o (.dT kvs)) ∧ R (Vals d o kvs) H1
def iItemsT (td : TE) : TI := fun σ H R => td σ H fun x H1 => ∃ d o kvs, x = .ref d ∧ H1 d = some (.frz o (.dT kvs)) ∧ R (Items d o kvs) H1
section
variable {X : Cx} {tg e : Expr} {td : TE} {apos cpos : Pos}
theorem noDict {s : Shared} {d : Addr} {es : Array DictEntry} {ep : Nat} (h : s.heap.DictRaw d es ep) : ∀ b, Value.ref d = .ref b → ∃ ob, s.heap.get? b = some ob ∧ ob.dict = none := fun b e => by
  obtain ⟨u, hu, exact, _⟩ := h
  cases e
  exact ⟨u, hu, exact.2.1⟩
theorem pi_valuesT (he : PE X e td) (hbase : attributeBase e "values" X.env (eval e X.env) = eval e X.env := by rfl) (hline : (apos.endLine == cpos.line) = true := by rfl) : PI X tg (.Call (.Attribute e "values" apos) [] [] cpos) (iValsT td) := by
  refine ⟨fun pins s σ H R I h => wpAny_Call_method (T := "dict") (id := "dict.values") hbase rfl hline F.plainAttrs_dict F.slot_dict_values F.type_dict_values (thn (he.run pins s σ H _ I h) fun u s1 h1 => ?_)⟩
  obtain ⟨_, H1, I1, rx, d, o, kvs, rfl, locked, q⟩ := h1
  obtain rfl : u = Value.ref d := rx
  obtain ⟨apart, es, ep, data, len, stands, _⟩ := raw I1 locked
  refine ⟨stands.typeIs, noDict stands, ?_⟩
  have over : ∀ b ob, s1.heap.get? b = some ob → (s1.heap.push { cls := .type "dict_values", data := .fields #[.ref d] }).get? b = some ob := fun b ob e => Heap.get?_push_of_some _ e
  have I2 := I1.kept (t' := s1.toks) over
  have fin : wpAny (model X.prog X.w) X.A (pyIter (.ref s1.heap.objs.size)) (PIE X pins σ tg R) X.xe { s1 with heap := s1.heap.push { cls := .type "dict_values", data := .fields #[.ref d] } } :=
    PySem.wpAny_pyIter_values_raw (d := d) ⟨_, Heap.get?_push_size _ rfl, rfl, rfl⟩ (stands.at fun ob e => over d ob e) (pi_one (tk := s1.toks) I2 _ (turn_vals _ data) ⟨_, Heap.get?_push_size _ rfl, rfl, rfl⟩ q)
  show wpAny _ _ (callWith cpos (.builtin "dict.values") [.ref d] [] []) _ X.xe s1
  exact method_meetsIn F.slot_dict_values F.entry_dict_values rfl (PySem.evalArgs_none ⟨rfl, stands.typeIs, F.args_dict_values_1 _, _, PySem.meets_dict_values_raw d apart, ⟨_, _, stands⟩, fin⟩)
theorem pi_itemsT {elts : List Expr} {kk : Nat} {tpos : Pos} (he : PE X e td) (hbase : attributeBase e "items" X.env (eval e X.env) = eval e X.env := by rfl) (hline : (apos.endLine == cpos.line) = true := by rfl) : PI X (.Tuple elts kk tpos) (.Call (.Attribute e "items" apos) [] [] cpos) (iItemsT td) := by
  refine ⟨fun pins s σ H R I h => wpAny_Call_method (T := "dict") (id := "dict.items") hbase rfl hline F.plainAttrs_dict F.slot_dict_items F.type_dict_items (thn (he.run pins s σ H _ I h) fun u s1 h1 => ?_)⟩
  obtain ⟨_, H1, I1, rx, d, o, kvs, rfl, locked, q⟩ := h1
  obtain rfl : u = Value.ref d := rx
  obtain ⟨apart, es, ep, data, len, stands, _⟩ := raw I1 locked
  refine ⟨stands.typeIs, noDict stands, ?_⟩
  have over : ∀ b ob, s1.heap.get? b = some ob → (s1.heap.push { cls := .type "dict_items", data := .fields #[.ref d] }).get? b = some ob := fun b ob e => Heap.get?_push_of_some _ e
  have I2 := I1.kept (t' := s1.toks) over
  have fin : wpAny (model X.prog X.w) X.A (pyIter (.ref s1.heap.objs.size)) (PIE X pins σ (.Tuple elts kk tpos) R) X.xe { s1 with heap := s1.heap.push { cls := .type "dict_items", data := .fields #[.ref d] } } :=
    PySem.wpAny_pyIter_items_raw (d := d) ⟨_, Heap.get?_push_size _ rfl, rfl, rfl⟩ (stands.at fun ob e => over d ob e) (pi_one (tk := s1.toks) I2 _ (turn_items _ data) ⟨.none, .none, Heap.get?_push_size _ rfl⟩ q)
  show wpAny _ _ (callWith cpos (.builtin "dict.items") [.ref d] [] []) _ X.xe s1
  exact method_meetsIn F.slot_dict_items F.entry_dict_items rfl (PySem.evalArgs_none ⟨rfl, stands.typeIs, F.args_dict_items_1 _, _, PySem.meets_dict_items_raw d apart, ⟨_, _, stands⟩, fin⟩)
end
/-! ### a dict comprehension whose keys are tuples -/
/-- D[q] = v by a comprehension, q a tuple -/
theorem dictSetT {X : Cx} {pins : List (Addr × Obj)} {σ : L2.St} {H : Hp} {s : Shared} {E : Value → Shared → Prop} {D q : Addr} {kvs : Tb} {k : List Key} {v : V} {r : Value} {Q : Unit → Shared → Prop} (hu : X.A.units < cLine) (I : Inv X pins σ H s) (at1 : H D = some (.dT kvs)) (few : kvs.length < sizeLine)
    (tup : H q = some (.tup (k.map kV))) (rv : RelV v r) (then1 : ∀ s', Inv X pins σ (upd H D (.dT (putK kvs k v))) s' → Q () s') : wpAny (model X.prog X.w) X.A (dictSet D (.ref q) r) Q E s := by
  obtain ⟨small, apart, cells, pairs, held⟩ := dt_of I.hok at1
  have small2 : cells.length ≤ sizeLine := by rw [← Paired.length pairs]; exact small
  have small3 : (putK kvs k v).length ≤ sizeLine := by have := length_putK kvs k v; omega
  refine wpAny_dictSet_heap (hsz := small2) (show X.A.units < cLine from hu) (key_of I.hok tup) held fun h' held' but => then1 _ ?_
  obtain ⟨u, es, ep, stands, a1, a2, a3, _, a4⟩ := held'
  have pairs' : Paired (fun (p : List Key × V) (c : List Key × Addr × Value) => p.1 = c.1 ∧ (upd H D (.dT (putK kvs k v))) c.2.1 = some (.tup (p.1.map kV)) ∧ RelV p.2 c.2.2) (putK kvs k v) (storedH cells k q r) :=
    KT.keeps (KT.put pairs k tup rv) fun c ys ec => by rw [upd_ne (ne_of ec at1 (fun z => nomatch z))]; exact ec
  exact d_write I (by rw [at1]; exact True.intro) but ⟨u, stands⟩ ⟨small3, apart, _, pairs', u, es, ep, stands, a1, a2, a3, a4⟩
section
variable {X : Cx}
/-- {k: v for target in iter if ..}, the keys tuples: D the new dict -/
def tDcT (wi : TI) (g : TG) (tt : TT) (tk tv : TE) (vs : List Nat) : TE := fun σ H Q => wi σ H fun J H1 => ∀ D, H1 D = none → ∃ W : Nat → Nat → Hp → Prop, (∃ m, W 0 m (upd H1 D (.dT []))) ∧ ∀ i m H, W i m H →
  (J.stop i H ∧ Q (.ref D) H) ∨ (J.go i H ∧ ∃ Nx : Hp → Prop, (∀ H', Nx H' → ∃ m', m' < m ∧ W (i + 1) m' H') ∧ ∀ x H', J.yld i H x H' → g x (wipe σ vs) H' fun σ2 H2 => wipe σ2 vs = wipe σ vs ∧ tt σ2 H2 fun b H3 =>
    if b = true then tk σ2 H3 fun y H4 => tv σ2 H4 fun z H5 => ∃ (kvs : Tb) (k : List Key) (q : Addr), y = .ref q ∧ H5 q = some (.tup (k.map kV)) ∧ H5 D = some (.dT kvs) ∧ kvs.length < sizeLine ∧ Nx (upd H5 D (.dT (putK kvs k z))) else Nx H3)
theorem pe_dcT {kx vx tg iter : Expr} {ifs : List Expr} {scope : Scope} {own : List (Str × Nat)} {pos : Pos} {wi : TI} {g : TG} {tt : TT} {tk tv : TE} (small : X.A.units < cLine) (calm : X.calm = true) (nodup : X.N.Nodup) (hi : PI X tg iter wi) (ok : BlkOk X.N X.env.scope scope own)
    (hg : ∀ (s : Shared) (H : Hp) (C : Addr) (cl : List (Str × Addr)) (fp : List Addr), PG (X.blk s H scope (compEnvC scope cl C X.env) fp) tg g) (ht : ∀ (s : Shared) (H : Hp) (C : Addr) (cl : List (Str × Addr)) (fp : List Addr), PTs (X.blk s H scope (compEnvC scope cl C X.env) fp) ifs tt)
    (hk : ∀ (s : Shared) (H : Hp) (C : Addr) (cl : List (Str × Addr)) (fp : List Addr), PE (X.blk s H scope (compEnvC scope cl C X.env) fp) kx tk) (he : ∀ (s : Shared) (H : Hp) (C : Addr) (cl : List (Str × Addr)) (fp : List Addr), PE (X.blk s H scope (compEnvC scope cl C X.env) fp) vx tv)
    (unfolded : ∀ x, foldedSetIterable iter X.env x = pure x := by intro _; rfl) : PE X (.DictComp kx vx [⟨tg, iter, ifs, 0⟩] scope pos) (tDcT wi g tt tk tv (own.map (·.2))) := by
  refine ⟨fun pins s0 σ H0 Q I0 wish => ?_⟩
  rw [arm_eval_DictComp]
  have bound : ∀ y ∈ scope.names, y.2 = .free → ∃ c, X.env.cells.lookup y.1 = some c := fun y hy e => (ok.free y hy e).elim (fun k => I0.ok.has _ (.inl k)) fun k => I0.ok.has _ (.inr k)
  refine wpAny_comprehension_free (use := none) rfl unfolded (closure_ok bound) ok.kind (fun y hy e => by rw [ok.uniq y hy, e]) (thn (hi.run pins s0 σ H0 _ I0 wish) fun xv sA walked => thn walked fun itv sB arrived => ?_)
  obtain ⟨it, fp, tn, J, HB, rfl, IB, T, stB, fpB, made⟩ := arrived
  refine wpAny_newObj_type (newEnv_comp ?_)
  -- the new dict
  obtain ⟨D, hD⟩ : ∃ D, sB.heap.objs.size = D := ⟨_, rfl⟩
  have free : HB D = none := IB.hok.fresh (Nat.le_of_eq hD)
  obtain ⟨W, ⟨m0, w0⟩, turn⟩ := made D free
  let sC : Shared := { sB with heap := sB.heap.push { cls := .type "dict", data := .dict #[] } }
  have over : ∀ b u, sB.heap.get? b = some u → sC.heap.get? b = some u := fun b u e => Heap.get?_push_of_some _ e
  have IC : Inv X pins σ (upd HB D (.dT [])) sC := IB.laid (t' := sB.toks) over (Nat.le_of_eq hD) (by rw [← hD]; exact dt_empty sB.heap IB.big)
  have fpC : ∀ b ∈ fp, FpOk X pins (upd HB D (.dT [])) b ∧ b < sC.heap.objs.size := fun b hb => by
    obtain ⟨u, e, _⟩ := T.obj _ _ stB b hb
    have lt := Heap.lt_size e
    refine ⟨⟨?_, (fpB b hb).2⟩, by show b < (sB.heap.push _).objs.size; rw [Heap.size_push]; exact Nat.lt_succ_of_lt lt⟩
    rw [upd_ne (by rw [← hD]; exact Nat.ne_of_lt lt)]
    exact (fpB b hb).1
  -- the block of names
  have ID := block_start IC ok nodup fpC
  let cells := cellsFrom (sC.heap.objs.size + 1) scope.names (cloFrom X.env.cells scope.names [])
  have pg := hg sC (upd HB D (.dT [])) sC.heap.objs.size cells fp
  have pt := ht sC (upd HB D (.dT [])) sC.heap.objs.size cells fp
  have pk := hk sC (upd HB D (.dT [])) sC.heap.objs.size cells fp
  have pv := he sC (upd HB D (.dT [])) sC.heap.objs.size cells fp
  let env2 := compEnvC scope cells sC.heap.objs.size X.env
  let X2 := X.blk sC (upd HB D (.dT [])) scope env2 fp
  let sD : Shared := { sC with heap := pushCells (sC.heap.push { cls := .type "dict", data := .dict #[] }) scope.names }
  have stD : tn 0 sD.heap := T.keep _ _ _ (T.keep _ _ _ stB fun b _ u e => over b u e) fun b _ u e => pushCells_keeps _ _ _ _ (Heap.get?_push_of_some _ e)
  have stays : ∀ {σ' : L2.St} {H' : Hp} {s' : Shared}, Inv X2 [] σ' H' s' → (∀ b ∈ fp, H' b = none) → ∀ b ∈ fp, FpOk X2 [] H' b := fun {σ' H' s'} I' none' b hb =>
    ⟨none' b hb, (I'.ok.exf b hb).1, I'.ok.exfs b hb, .inl hb, fun x c e => (I'.ok.exf b hb).2 x c e, fun p hp => absurd (show p ∈ ([] : List (Addr × Obj)) ++ [] from hp) (by simp)⟩
  let Q0 : Value → Shared → Prop := fun v s' => ∃ x H', Inv X pins σ H' s' ∧ RelV x v ∧ Q x H'
  have loop : codeAny (model X.prog X.w) X.A (.compLoop (.DictComp kx vx [⟨tg, iter, ifs, 0⟩] scope pos) 0 (.ref it) (.ref D) env2) (compPost (model X.prog X.w) X.A X.xe none Q0 (.ref D) sC.heap.objs.size) sD := by
    refine compLoop_anyD (fun m s' => ∃ i H', Inv X2 [] (wipe σ (own.map (·.2))) H' s' ∧ tn i s'.heap ∧ (∀ b ∈ fp, H' b = none) ∧ W i m H') ?_ m0 ⟨0, _, ID, stD, fun b hb => (fpC b hb).1.1, w0⟩
    rintro m s1 ⟨i, H1, I1, st1, none1, w1⟩
    rcases turn i m H1 w1 with ⟨stop, last⟩ | ⟨go, Nx, less, step⟩
    · refine thnF (T.done X2 rfl rfl rfl calm i [] s1 _ H1 (fun _ _ => False) I1 (stays I1 none1) st1 stop) fun r s2 ⟨hr, I2⟩ => ?_
      subst hr
      have back : Inv X pins σ H1 s2 := IC.call' (ch := fp) I2.os I2.base I2.hok I2.bare fun b hb => ⟨(fpC b hb).1.2.2.2.1, (fpC b hb).1.2.1, (fpC b hb).1.2.2.2.2.1, (fpC b hb).1.2.2.2.2.2⟩
      have freeC : H1 sC.heap.objs.size = none := I2.free
      obtain ⟨names, held, _⟩ := I2.loc
      refine ⟨names, held, fun h2 but => ?_⟩
      obtain ⟨f0, f1, f2, f3, f4, f5⟩ := IC.fpOk (Nat.le_refl _) freeC
      exact ⟨.ref D, H1, back.turned (t' := s2.toks) (fun b u hb e => (but.2 b hb).trans e) f0 f1 f3 f4 f5, rfl, last⟩
    · refine thnF (T.item X2 rfl rfl rfl calm i [] s1 _ H1 (fun _ _ => False) I1 (stays I1 none1) st1 go) fun r s2 ⟨u, hr, taken⟩ => ?_
      subst hr
      refine thnF taken fun _ s3 ⟨x, H3, I3, r3, y3, st3, none3⟩ => ?_
      refine thnF (pg.run _ s3 _ H3 x u _ (I3.pinned (stays I3 none3) (T.obj _ _ st3)) r3 (step x H3 y3)) fun _ s4 ⟨σ4, H4, I4, wiped, q4⟩ => ?_
      refine thnF (pt.run _ s4 σ4 H4 _ I4 q4) fun b s5 ⟨H5, I5, q5⟩ => ?_
      have turned : ∀ {s' : Shared} {H' : Hp}, Inv X2 ([] ++ pinsAt fp s3.heap) σ4 H' s' → Nx H' → ∃ m', m' < m ∧ ∃ i H', Inv X2 [] (wipe σ (own.map (·.2))) H' s' ∧ tn i s'.heap ∧ (∀ b ∈ fp, H' b = none) ∧ W i m' H' := fun {s' H'} I' nx => by
        obtain ⟨m', lt, w'⟩ := less H' nx
        have pin : ∀ b ∈ fp, ∀ u, s3.heap.get? b = some u → s'.heap.get? b = some u ∧ H' b = none := fun b hb u e =>
          have z := I'.pin (b, u) (List.mem_append_right _ (List.mem_append_right _ (mem_pinsAt hb e)))
          ⟨z.1, z.2.1⟩
        have same : (wipe σ (own.map (·.2))).length = σ4.length := by rw [← wiped, wipe_length]
        refine ⟨m', lt, i + 1, H', (I'.unpinned (pins := [])).weak same (fun j v e => ?_), T.keep _ _ _ st3 fun b hb u e => (pin b hb u e).1, fun b hb => ?_, w'⟩
        · rw [← wiped] at e; exact (wipe_some e).1
        · obtain ⟨u, e, _⟩ := T.obj _ _ st3 b hb
          exact (pin b hb u e).2
      cases b with
      | false => exact turned I5 q5
      | true =>
        refine thnF (pk.run _ s5 σ4 H5 _ I5 q5) fun kv s6 ⟨yk, H6, I6, r6, q6⟩ => ?_
        refine thnF (pv.run _ s6 σ4 H6 _ I6 q6) fun vv s7 ⟨yv, H7, I7, r7, kvs, k, q, ek, tup, at7, few, nx⟩ => ?_
        subst ek
        cases (show kv = Value.ref q from r6)
        exact dictSetT (X := X2) small I7 at7 few tup r7 fun s8 I8 => turned I8 nx
  subst hD
  show codeAny (model X.prog X.w) X.A (.compStart (.DictComp kx vx [⟨tg, iter, ifs, 0⟩] scope pos) 0 (.ref it) (.ref sB.heap.objs.size) env2) (compPost (model X.prog X.w) X.A X.xe none Q0 (.ref sB.heap.objs.size) sC.heap.objs.size) sD
  exact codeAny_compStart_dict loop (T.self X.A 0 _ _ _ stD loop)
end
/-! ### d.setdefault(q, v), the keys tuples -/
def tSetdT (td ty tx : TE) : TE := fun σ H Q => td σ H fun x H1 => ∃ a, x = .ref a ∧ IsD H1 a ∧ ty σ H1 fun y H2 => tx σ H2 fun z H3 => ∃ (kvs : Tb) (k : List Key) (q : Addr), H3 a = some (.dT kvs) ∧ y = .ref q ∧ H3 q = some (.tup (k.map kV)) ∧ kvs.length < sizeLine ∧
  (∀ v, valV kvs k = some v → Q v H3) ∧ (valV kvs k = none → Q z (upd H3 a (.dT (putK kvs k z))))
theorem setdefaultT {X : Cx} {pins : List (Addr × Obj)} {σ : L2.St} {H : Hp} {s : Shared} {a q : Addr} {r : Value} {v : V} {k : List Key} {kvs : Tb} {E Q : Value → Shared → Prop} (small : X.A.units + 1 < cLine) (I : Inv X pins σ H s) (at1 : H a = some (.dT kvs)) (tup : H q = some (.tup (k.map kV))) (rv : RelV v r) (few : kvs.length < sizeLine)
    (there : ∀ w, valV kvs k = some w → ∀ (u : Value) (s' : Shared), Inv X pins σ H s' → RelV w u → Q u s') (new : valV kvs k = none → ∀ (u : Value) (s' : Shared), Inv X pins σ (upd H a (.dT (putK kvs k v))) s' → RelV v u → Q u s') :
    wpAny (model X.prog X.w) X.A (call (.builtin "dict.setdefault") [.ref a, .ref q, r]) Q E s := by
  obtain ⟨fits, apart, cells, pairs, held⟩ := dt_of I.hok at1
  have look := pairs.val k
  refine PySem.call_setdefault_heap (hsz := by rw [← Paired.length pairs]; exact fits) (show X.A.in1.units < cLine from small) (key_of I.hok tup) apart held (fun p hp => ?_) fun hn h' held' but => ?_
  · rw [hp] at look
    cases e : valV kvs k with
    | none => rw [e] at look; exact (show False from look).elim
    | some w => rw [e] at look; exact there w e _ _ (I.tok _) look
  · rw [hn] at look
    cases e : valV kvs k with
    | some w => rw [e] at look; exact (show False from look).elim
    | none =>
      obtain ⟨u, es, ep, stands, a1, a2, a3, _, a4⟩ := held'
      have fits2 : (putK kvs k v).length ≤ sizeLine := by have := length_putK kvs k v; omega
      have pairs' : Paired (fun (p : List Key × V) (c : List Key × Addr × Value) => p.1 = c.1 ∧ (upd H a (.dT (putK kvs k v))) c.2.1 = some (.tup (p.1.map kV)) ∧ RelV p.2 c.2.2) (putK kvs k v) (storedH cells k q r) :=
        KT.keeps (KT.put pairs k tup rv) fun c ys ec => by rw [upd_ne (ne_of ec at1 (fun z => nomatch z))]; exact ec
      exact new e _ _ (d_write I (by rw [at1]; exact True.intro) but ⟨u, stands⟩ ⟨fits2, apart, _, pairs', u, es, ep, stands, a1, a2, a3, a4⟩) rv
theorem pe_setdT {X : Cx} {o e f : Expr} {td ty tx : TE} {apos cpos : Pos} (small : X.A.units + 1 < cLine) (ho : PE X o td) (he : PE X e ty) (hf : PE X f tx) (m : M2 X o "setdefault" apos e f cpos) : PE X (.Call (.Attribute o "setdefault" apos) [e, f] [] cpos) (tSetdT td ty tx) := by
  refine ⟨fun pins s σ H Q I h => wpAny_Call_method m.base m.few m.line PySem.F.plainAttrs_dict PySem.F.slot_dict_setdefault PySem.F.type_dict_setdefault (thn (ho.run pins s σ H _ I h) fun u s1 got => ?_)⟩
  obtain ⟨_, H1, I1, rx, a, rfl, isd, q1⟩ := got
  obtain rfl : u = Value.ref a := rx
  refine ⟨(isD_at I1 isd).1, (isD_at I1 isd).2.1, ?_⟩
  rw [m.trees]
  refine Calls.callWith_builtin rfl (Calls.evalArgs_plain (Calls.spliced_cons (thn (he.run pins s1 σ H1 _ I1 q1) fun key s2 ⟨y, H2, I2, ry, q2⟩ => Calls.spliced_cons (thn (hf.run pins s2 σ H2 _ I2 q2) fun dflt s3 last => Calls.spliced_nil ?_))))
  obtain ⟨z, H3, I3, rz, kvs, k, q, at3, rfl, tup, few, old, new⟩ := last
  cases (show key = Value.ref q from ry)
  exact setdefaultT small I3 at3 tup rz few (fun w hw u s4 I4 ru => ⟨w, _, I4, ru, old w hw⟩) fun hn u s4 I4 ru => ⟨z, _, I4, ru, new hn⟩
/-! ### small rules -/
theorem inD_of {k : Nat} {A : Around} (r : Room k A) : A.units + 65 < cLine := by have := r.un; omega
theorem pa_starK {X : Cx} {K : PySem.W.Frag} {e : Expr} {es : List Expr} {te : TE} {t : TA} {p : Pos} (hK : X.K = K) (he : PE X e te) (hr : PA X es t) (hs : starEach (.Starred e p :: es) X.env = (true, eval e X.env) :: starEach es X.env := by rfl) : PA X (.Starred e p :: es) (tStar K te t) := by
  subst hK; exact pa_star he hr hs
/-- o.m(e, ..) in a try: what is raised is wished for at the caller's slots -/
def tMethSD (C : Addr) (m : Str) (sp : Sp) (dvs : List V) (E : L2.St → XK) (ta : TE) (t : TA) : TE := fun σ H Q => ta σ H fun x H1 => ∃ a dx fs, x = .ref a ∧ H1 a = some (.ins C dx fs) ∧ fs.lookup m = none ∧ t σ H1 fun vs H2 => sp (x :: vs ++ dvs) H2 Q (E σ)
theorem pe_methSD {X : Cx} {CX : CXT} {C f : Addr} {fd : FuncData} {k : Nat} {sp : Sp} {ps : List Str} {ds : List Value} {dvs : List V} {E : L2.St → XK} {m : Str} {o e : Expr} {es : List Expr} {ta : TE} {t : TA} {pos apos : Pos} {pl : Sem Bool} (he : PE X o ta) (c : Cls X.K C) (hm : Meth X.K C m f) (F : FnOk X.prog X.w X.K X.mg X.base CX k f fd ps sp) (hr : Room k X.A)
    (hb : Binds X.K fd ps ds) (hd : L2.Vals dvs ds) (hx : ∀ σ, PassesAt CX X σ (E σ)) (ha : PA X (e :: es) t) (hst : starEach (e :: es) X.env = (false, eval e X.env) :: starEach es X.env := by rfl) (hpl : (backTo pos (starEach es X.env)).any (·.1) = false := by rfl)
    (ht : eval (.Call (.Attribute o m apos) (e :: es) [] pos) X.env = (do
      let ov ← eval o X.env
      standAt apos.atName
      let (g, first) ← holding [ov] (getMethod ov m pl)
      callWith pos g first (backTo pos (starEach (e :: es) X.env)) (backToKw pos (keywordEach [] X.env))) := by rfl) :
    PE X (.Call (.Attribute o m apos) (e :: es) [] pos) (tMethSD C m sp dvs E ta t) := by
  refine ⟨fun pins s σ H Q I h => PySem.W.methodCall_KW (pl := pl) (thn (he.run pins s σ H _ I h) fun u s1 got => ?_) ht⟩
  obtain ⟨_, H1, I1, rx, a, dx, fs, rfl, ea, l, q⟩ := got
  obtain rfl : u = Value.ref a := rx
  refine getmeth_ok I1 ea c hm l (PySem.W.callWith_K (first := [.ref a]) (h₀ := X.base) I.ok.mod.kin hm.kp (thn (ha.run pos pins s1 σ H1 _ I1 q) fun us s2 got2 => ?_) hst hpl)
  obtain ⟨vs, H2, I2, r, q2⟩ := got2
  exact ⟨I2.kIn, run_fnSD (us := .ref a :: us) (vs := .ref a :: vs) F hr hb hd (hx σ) I2 (.cons rfl r) q2⟩
end Dt
/-- a tuple of the written part -/
def SqTK (K : PySem.W.Frag) (a : Addr) (xs : List V) : Prop := ∃ (o : Obj) (its : Array Value) (n : Nat), K.lookup a = some o ∧ o.cls = .type "tuple" ∧ o.data = .seq its n ∧ its.size ≤ sizeLine ∧ L2.Vals xs its.toList
theorem SqTK.at {K : PySem.W.Frag} {a : Addr} {xs : List V} {H : Hp} (h : SqTK K a xs) : SqT K H a xs := .inr h
namespace Tab
open PySem PySem.Spec PyProof.Rows L2
/-! ### counts of tries, and the strings that lead to them (k40, k41, k39) -/
abbrev Ct := Int × Int
variable {M : Ct → Bool}
/-- met after k tries -/
def Mt (M : Ct → Bool) : Nat → Ct → Prop
  | 0, c => c = (0, 0)
  | k + 1, c => ∃ d, Mt M k d ∧ M d = false ∧ (c = (d.1 + 1, d.2) ∨ c = (d.1, d.2 + 1))
theorem Mt.sum : ∀ {k : Nat} {c : Ct}, Mt M k c → c.1 + c.2 = (k : Int) ∧ 0 ≤ c.1 ∧ 0 ≤ c.2
  | 0, c, h => by subst h; simp
  | k + 1, c, ⟨d, h, _, e⟩ => by
    have := Mt.sum h
    rcases e with e | e <;> subst e <;> simp <;> omega
theorem Mt.lev {k j : Nat} {c : Ct} (h : Mt M k c) (g : Mt M j c) : k = j := by
  have a := h.sum.1; have b := g.sum.1; omega
theorem Mt.pred {k : Nat} {c : Ct} (h : Mt M (k + 1) c) : (Mt M k (c.1 - 1, c.2) ∧ M (c.1 - 1, c.2) = false) ∨ (Mt M k (c.1, c.2 - 1) ∧ M (c.1, c.2 - 1) = false) := by
  obtain ⟨d, hd, m, e | e⟩ := h
  · subst e; left; simpa using ⟨hd, m⟩
  · subst e; right; simpa using ⟨hd, m⟩
/-- the letters: 114 for reached, 109 for missed -/
def one (c : Ct) (x : Nat) : Ct := if x = 114 then (c.1 + 1, c.2) else (c.1, c.2 + 1)
def cnt (s : List Nat) : Ct := s.foldl one (0, 0)
theorem cnt_snoc {s : List Nat} {x : Nat} : cnt (s ++ [x]) = one (cnt s) x := by simp [cnt]
/-- strings of k tries that no mark stops before their end -/
def Rn (M : Ct → Bool) : Nat → List Nat → Prop
  | 0, s => s = []
  | k + 1, s => ∃ t x, Rn M k t ∧ M (cnt t) = false ∧ (x = 114 ∨ x = 109) ∧ s = t ++ [x]
theorem Rn.met : ∀ {k : Nat} {s : List Nat}, Rn M k s → Mt M k (cnt s)
  | 0, s, h => by subst h; rfl
  | k + 1, s, ⟨t, x, h, m, hx, e⟩ => by
    subst e
    refine ⟨cnt t, h.met, m, ?_⟩
    rw [cnt_snoc]
    rcases hx with rfl | rfl <;> simp [one]
theorem Mt.run : ∀ {k : Nat} {c : Ct}, Mt M k c → ∃ s, Rn M k s ∧ cnt s = c
  | 0, c, h => ⟨[], rfl, by subst h; rfl⟩
  | k + 1, c, ⟨d, h, m, e⟩ => by
    obtain ⟨t, ht, hc⟩ := h.run
    rcases e with e | e
    · exact ⟨t ++ [114], ⟨t, 114, ht, by rw [hc]; exact m, .inl rfl, rfl⟩, by rw [cnt_snoc, hc, e]; rfl⟩
    · exact ⟨t ++ [109], ⟨t, 109, ht, by rw [hc]; exact m, .inr rfl, rfl⟩, by rw [cnt_snoc, hc, e]; rfl⟩
theorem Rn.len : ∀ {k : Nat} {s : List Nat}, Rn M k s → s.length = k
  | 0, s, h => by subst h; rfl
  | k + 1, s, ⟨t, x, h, _, _, e⟩ => by subst e; simp [h.len]
/-- one level of counts after another, as a dict of counts keeps them -/
def addC (cs : List Ct) (c : Ct) : List Ct := if c ∈ cs then cs else cs ++ [c]
def stepC (M : Ct → Bool) (cs : List Ct) (d : Ct) : List Ct := if M d then cs else addC (addC cs (d.1 + 1, d.2)) (d.1, d.2 + 1)
def nextC (M : Ct → Bool) (now : List Ct) : List Ct := now.foldl (stepC M) []
def levC (M : Ct → Bool) : Nat → List Ct
  | 0 => [(0, 0)]
  | k + 1 => nextC M (levC M k)
theorem mem_addC {cs : List Ct} {c x : Ct} : x ∈ addC cs c ↔ x ∈ cs ∨ x = c := by
  unfold addC; split
  · constructor
    · exact .inl
    · rintro (h | rfl) <;> assumption
  · simp
theorem nodup_addC {cs : List Ct} {c : Ct} (h : cs.Nodup) : (addC cs c).Nodup := by
  unfold addC; split
  · exact h
  · rename_i n
    exact List.nodup_append.mpr ⟨h, by simp, fun a ha b hb e => n (by rw [← List.mem_singleton.mp hb, ← e]; exact ha)⟩
theorem mem_stepC {cs : List Ct} {d x : Ct} : x ∈ stepC M cs d ↔ x ∈ cs ∨ (M d = false ∧ (x = (d.1 + 1, d.2) ∨ x = (d.1, d.2 + 1))) := by
  unfold stepC; split
  · rename_i h; simp [h]
  · rename_i h
    rw [mem_addC, mem_addC]
    simp only [Bool.not_eq_true] at h
    simp [h, or_assoc]
theorem mem_foldC {x : Ct} : ∀ {now cs : List Ct}, x ∈ now.foldl (stepC M) cs ↔ x ∈ cs ∨ ∃ d ∈ now, M d = false ∧ (x = (d.1 + 1, d.2) ∨ x = (d.1, d.2 + 1))
  | [], cs => by simp
  | d :: now, cs => by
    rw [List.foldl_cons, mem_foldC, mem_stepC, or_assoc]
    simp [List.exists_mem_cons]
theorem nodup_foldC : ∀ {now cs : List Ct}, cs.Nodup → (now.foldl (stepC M) cs).Nodup
  | [], cs, h => h
  | d :: now, cs, h => by
    rw [List.foldl_cons]
    refine nodup_foldC ?_
    unfold stepC; split
    · exact h
    · exact nodup_addC (nodup_addC h)
theorem mem_levC : ∀ {k : Nat} {x : Ct}, x ∈ levC M k ↔ Mt M k x
  | 0, x => by simp [levC, Mt]
  | k + 1, x => by
    unfold levC nextC
    rw [mem_foldC]
    simp only [List.not_mem_nil, false_or, Mt]
    exact exists_congr fun d => by rw [mem_levC]
theorem nodup_levC : ∀ {k : Nat}, (levC M k).Nodup
  | 0 => by simp [levC]
  | k + 1 => nodup_foldC .nil
/-- all that is met in at most k tries -/
def metC (M : Ct → Bool) : Nat → List Ct
  | 0 => [(0, 0)]
  | k + 1 => metC M k ++ levC M (k + 1)
theorem mem_metC : ∀ {k : Nat} {x : Ct}, x ∈ metC M k ↔ ∃ j, j ≤ k ∧ Mt M j x
  | 0, x => by simp [metC, Mt]
  | k + 1, x => by
    unfold metC
    rw [List.mem_append, mem_metC, mem_levC]
    constructor
    · rintro (⟨j, h, m⟩ | m)
      · exact ⟨j, by omega, m⟩
      · exact ⟨k + 1, by omega, m⟩
    · rintro ⟨j, h, m⟩
      by_cases e : j = k + 1
      · subst e; exact .inr m
      · exact .inl ⟨j, by omega, m⟩
/-- back from a count to a string that leads to it -/
def back (M : Ct → Bool) (met : List Ct) : Nat → Ct → List Nat → List Nat
  | 0, _, s => s
  | k + 1, c, s => if (c.1 - 1, c.2) ∈ met ∧ M (c.1 - 1, c.2) = false then back M met k (c.1 - 1, c.2) (114 :: s) else back M met k (c.1, c.2 - 1) (109 :: s)
theorem cnt_app {s : List Nat} : ∀ {t : List Nat} {c d : Ct}, t.foldl one c = d → ∀ e : Ct, t.foldl one (c.1 + e.1, c.2 + e.2) = (d.1 + e.1, d.2 + e.2)
  | [], c, d, h, e => by subst h; rfl
  | x :: t, c, d, h, e => by
    rw [List.foldl_cons] at h ⊢
    have := cnt_app (s := s) h e
    rw [← this]
    unfold one
    split <;> simp <;> congr 2 <;> omega
theorem back_ok {met : List Ct} {n : Nat} (hm : ∀ x, x ∈ met ↔ ∃ j, j ≤ n ∧ Mt M j x) : ∀ {k : Nat} {c : Ct} {s : List Nat}, k ≤ n → Mt M k c → ∃ t, back M met k c s = t ++ s ∧ Rn M k t ∧ cnt t = c
  | 0, c, s, _, h => ⟨[], rfl, rfl, by subst h; rfl⟩
  | k + 1, c, s, hk, h => by
    unfold back
    split
    · rename_i g
      obtain ⟨j, hj, mj⟩ := (hm _).mp g.1
      have e : j = k := by
        have a := mj.sum.1; have b := h.sum.1
        simp only at a; omega
      subst e
      obtain ⟨t, e1, r, e2⟩ := back_ok hm (s := 114 :: s) (by omega) mj
      refine ⟨t ++ [114], by rw [e1, List.append_assoc]; rfl, ⟨t, 114, r, by rw [e2]; exact g.2, .inl rfl, rfl⟩, ?_⟩
      rw [cnt_snoc, e2]; simp [one]
    · rename_i g
      have p : Mt M k (c.1, c.2 - 1) ∧ M (c.1, c.2 - 1) = false := by
        rcases h.pred with p | p
        · exact (g ⟨(hm _).mpr ⟨k, by omega, p.1⟩, p.2⟩).elim
        · exact p
      obtain ⟨t, e1, r, e2⟩ := back_ok hm (s := 109 :: s) (by omega) p.1
      refine ⟨t ++ [109], by rw [e1, List.append_assoc]; rfl, ⟨t, 109, r, by rw [e2]; exact p.2, .inr rfl, rfl⟩, ?_⟩
      rw [cnt_snoc, e2]; simp [one]
/-- the law's own way: strings level by level -/
def runsC (M : Ct → Bool) (now : List (List Nat)) : List (List Nat) := now.flatMap fun s => ([114, 109].filter fun x => !M (cnt (s ++ [x]))).map fun x => s ++ [x]
def openC (M : Ct → Bool) : Nat → List (List Nat)
  | 0 => [[]]
  | k + 1 => runsC M (openC M k)
theorem mem_openC (h0 : M (0, 0) = false) : ∀ {k : Nat} {s : List Nat}, s ∈ openC M k ↔ Rn M k s ∧ M (cnt s) = false
  | 0, s => by
    constructor
    · intro h
      have e : s = [] := by simpa [openC] using h
      subst e; exact ⟨rfl, h0⟩
    · rintro ⟨h, _⟩
      have e : s = [] := h
      subst e; simp [openC]
  | k + 1, s => by
    unfold openC runsC
    rw [List.mem_flatMap]
    constructor
    · rintro ⟨t, ht, h⟩
      obtain ⟨x, hx, rfl⟩ := List.mem_map.mp h
      obtain ⟨hx1, hx2⟩ := List.mem_filter.mp hx
      have r := (mem_openC h0).mp ht
      exact ⟨⟨t, x, r.1, r.2, by simpa using hx1, rfl⟩, by simpa using hx2⟩
    · rintro ⟨⟨t, x, r, m, hx, rfl⟩, m2⟩
      exact ⟨t, (mem_openC h0).mpr ⟨r, m⟩, List.mem_map.mpr ⟨x, List.mem_filter.mpr ⟨by simpa using hx, by simpa using m2⟩, rfl⟩⟩
end Tab
/-! ### loops over dicts with tuples as keys, and their copies -/
theorem Dt.pe_fldK {X : Cx} {K : PySem.W.Frag} {e : Expr} {f : Str} {ta : TE} {pos : Pos} (hK : X.K = K) (he : PE X e ta) (hb : attributeBase e f X.env (eval e X.env) = eval e X.env) : PE X (.Attribute e f pos) (tFld K ta f) := by subst hK; exact pe_fld he hb
section
variable {d : Addr} {o : Obj} {kvs : Dt.Tb}
theorem walk_valsT : Walk (Dt.Vals d o kvs) kvs.length (fun H => H d = some (.frz o (.dT kvs))) (fun i H x H' => H' = H ∧ ∃ k, kvs[i]? = some (k, x)) :=
  ⟨fun _ _ more q => ⟨q, more⟩, fun _ q => ⟨q, Nat.le_refl _⟩, fun _ _ _ _ _ _ y => y⟩
theorem walk_itemsT : Walk (Dt.Items d o kvs) kvs.length (fun H => H d = some (.frz o (.dT kvs)))
    (fun i H x H' => ∃ (T q : Addr) (k : List Key) (v : V), kvs[i]? = some (k, v) ∧ H q = some (.tup (k.map kV)) ∧ x = .ref T ∧ H T = none ∧ H' = upd H T (.tup [.ref q, v])) :=
  ⟨fun _ _ more q => ⟨q, more⟩, fun _ q => ⟨q, Nat.le_refl _⟩, fun _ _ _ _ _ _ y => y⟩
end
theorem upd_back {H : Hp} {d : Addr} {o f : HO} (h : H d = some o) : upd (upd H d f) d o = H := by
  funext b
  by_cases c : b = d
  · subst c; rw [upd_same, h]
  · rw [upd_ne c, upd_ne c]
section
variable {K : PySem.W.Frag} {σ : L2.St} {H : Hp} {Q : VK} {te tk tv td : TE} {tt : TT} {G : TG} {vs : List Nat} {ts : TS} {D : L2.Ends} {d : Addr} {kvs : Dt.Tb}
/-- for k in d -/
theorem forKT_go (hd : H d = some (.dT kvs)) (up : ∀ od (Q' : VK), Q' (.ref d) (upd H d (.frz od (.dT kvs))) → td σ (upd H d (.frz od (.dT kvs))) Q') (Pv : Obj → Nat → L2.St → Hp → Prop) (h0 : ∀ od, Pv od 0 σ (upd H d (.frz od (.dT kvs)))) (hG : ∀ od i σ' H', Pv od i σ' H' → H' d = some (.frz od (.dT kvs)))
    (hs : ∀ od (i : Nat) k v q σ' H', kvs[i]? = some (k, v) → H' q = some (.tup (k.map kV)) → Pv od i σ' H' → G (.ref q) σ' H' fun σ2 H2 => ts ⟨Pv od (i + 1), fun v H' => H' d = some (.frz od (.dT kvs)) ∧ D.rt v (upd H' d (.dT kvs)), fun σ' H' => H' d = some (.frz od (.dT kvs)) ∧ D.nx σ' (upd H' d (.dT kvs)), Pv od (i + 1)⟩ σ2 H2)
    (he : ∀ od σ' H', Pv od kvs.length σ' H' → D.nx σ' (upd H' d (.dT kvs))) : tLock (tFor (iKeys td) G ts) D σ H := by
  refine ⟨d, .dT kvs, hd, trivial, fun od => up od _ ⟨d, od, rfl, .inr ⟨kvs, upd_same, ?_⟩⟩⟩
  refine for_it walk_keysT (fun i σ' H' => Pv od i σ' H') (h0 od) (fun i σ' H' _ p => hG od i σ' H' p) ?_ fun σ' H' p => ⟨hG _ _ _ _ p, he od σ' H' p⟩
  rintro i x σ' H1 H' hi p ⟨rfl, k, v, q, at1, rfl, tup⟩
  exact hs od i k v q σ' H' at1 tup p
/-- for v in d.values() -/
theorem forVT_go (hd : H d = some (.dT kvs)) (up : ∀ od (Q' : VK), Q' (.ref d) (upd H d (.frz od (.dT kvs))) → td σ (upd H d (.frz od (.dT kvs))) Q') (Pv : Obj → Nat → L2.St → Hp → Prop) (h0 : ∀ od, Pv od 0 σ (upd H d (.frz od (.dT kvs)))) (hG : ∀ od i σ' H', Pv od i σ' H' → H' d = some (.frz od (.dT kvs)))
    (hs : ∀ od (i : Nat) k v σ' H', kvs[i]? = some (k, v) → Pv od i σ' H' → G v σ' H' fun σ2 H2 => ts ⟨Pv od (i + 1), fun v H' => H' d = some (.frz od (.dT kvs)) ∧ D.rt v (upd H' d (.dT kvs)), fun σ' H' => H' d = some (.frz od (.dT kvs)) ∧ D.nx σ' (upd H' d (.dT kvs)), Pv od (i + 1)⟩ σ2 H2)
    (he : ∀ od σ' H', Pv od kvs.length σ' H' → D.nx σ' (upd H' d (.dT kvs))) : tLock (tFor (Dt.iValsT td) G ts) D σ H := by
  refine ⟨d, .dT kvs, hd, trivial, fun od => up od _ ⟨d, od, kvs, rfl, upd_same, ?_⟩⟩
  refine for_it walk_valsT (fun i σ' H' => Pv od i σ' H') (h0 od) (fun i σ' H' _ p => hG od i σ' H' p) ?_ fun σ' H' p => ⟨hG _ _ _ _ p, he od σ' H' p⟩
  rintro i x σ' H1 H' hi p ⟨rfl, k, at1⟩
  exact hs od i k x σ' H' at1 p
/-- [.. for k in d if ..], d locked -/
theorem lcKT_go {od : Obj} (hd : H d = some (.frz od (.dT kvs))) (up : ∀ (Q' : VK), Q' (.ref d) H → td σ H Q') (Pv : Addr → Nat → List V → Hp → Prop) (h0 : ∀ D, H D = none → Pv D 0 [] (upd H D (.lst []))) (hG : ∀ D i acc H', H D = none → Pv D i acc H' → H' d = some (.frz od (.dT kvs)))
    (hs : ∀ D (i : Nat) k v q acc H', kvs[i]? = some (k, v) → H' q = some (.tup (k.map kV)) → H D = none → H' D = some (.lst acc) → Pv D i acc H' → G (.ref q) (wipe σ vs) H' fun σ2 H2 => wipe σ2 vs = wipe σ vs ∧ tt σ2 H2 fun b H3 =>
      if b = true then te σ2 H3 fun y H4 => ∃ acc, H4 D = some (.lst acc) ∧ acc.length < sizeLine ∧ (∃ ac, (upd H4 D (.lst (acc ++ [y]))) D = some (.lst ac) ∧ Pv D (i + 1) ac (upd H4 D (.lst (acc ++ [y])))) else ∃ ac, H3 D = some (.lst ac) ∧ Pv D (i + 1) ac H3)
    (he : ∀ D acc H', H D = none → H' D = some (.lst acc) → Pv D kvs.length acc H' → Q (.ref D) H') : tLc (iKeys td) G tt te vs σ H Q := by
  refine up _ ⟨d, od, rfl, .inr ⟨kvs, hd, fun D hD => ?_⟩⟩
  refine lc_it walk_keysT (fun i H' => ∃ acc, H' D = some (.lst acc) ∧ Pv D i acc H') ⟨[], upd_same, h0 D hD⟩ (fun i H' _ ⟨acc, _, p⟩ => hG D i acc H' hD p) ?_ fun H' ⟨acc, ha, p⟩ => he D acc H' hD ha p
  rintro i x H1 H' hi ⟨acc, ha, p⟩ ⟨rfl, k, v, q, at1, rfl, tup⟩
  exact hs D i k v q acc H' at1 tup hD ha p
theorem dcT_it {J : It} {n : Nat} {Go : Hp → Prop} {Y : Nat → Hp → V → Hp → Prop} (w : Walk J n Go Y) {H1 : Hp} {D : Addr} {Qd : Hp → Prop} (Pv : Nat → Hp → Prop) (h0 : Pv 0 (upd H1 D (.dT []))) (hG : ∀ i H, i ≤ n → Pv i H → Go H)
    (hs : ∀ i x H H', i < n → Pv i H → Y i H x H' → G x (wipe σ vs) H' fun σ2 H2 => wipe σ2 vs = wipe σ vs ∧ tt σ2 H2 fun b H3 =>
      if b = true then tk σ2 H3 fun y H4 => tv σ2 H4 fun z H5 => ∃ (kvs : Dt.Tb) (k : List Key) (q : Addr), y = .ref q ∧ H5 q = some (.tup (k.map kV)) ∧ H5 D = some (.dT kvs) ∧ kvs.length < sizeLine ∧ Pv (i + 1) (upd H5 D (.dT (putK kvs k z))) else Pv (i + 1) H3) (hd : ∀ H, Pv n H → Qd H) :
    ∃ W : Nat → Nat → Hp → Prop, (∃ m, W 0 m (upd H1 D (.dT []))) ∧ ∀ i m H, W i m H →
      (J.stop i H ∧ Qd H) ∨ (J.go i H ∧ ∃ Nx : Hp → Prop, (∀ H', Nx H' → ∃ m', m' < m ∧ W (i + 1) m' H') ∧ ∀ x H', J.yld i H x H' → G x (wipe σ vs) H' fun σ2 H2 => wipe σ2 vs = wipe σ vs ∧ tt σ2 H2 fun b H3 =>
        if b = true then tk σ2 H3 fun y H4 => tv σ2 H4 fun z H5 => ∃ (kvs : Dt.Tb) (k : List Key) (q : Addr), y = .ref q ∧ H5 q = some (.tup (k.map kV)) ∧ H5 D = some (.dT kvs) ∧ kvs.length < sizeLine ∧ Nx (upd H5 D (.dT (putK kvs k z))) else Nx H3) := by
  let Turn : Nat → Nat → Hp → Prop := fun i left H => left + i = n ∧ Pv i H
  refine ⟨Turn, ⟨n, rfl, h0⟩, fun i left H ⟨sum, p⟩ => ?_⟩
  have stands := hG i H (by omega) p
  rcases Nat.eq_or_lt_of_le (show i ≤ n by omega) with full | more
  · cases full
    exact .inl ⟨w.stops H stands, hd H p⟩
  · exact .inr ⟨w.goes i H more stands, Pv (i + 1), fun H' p' => ⟨left - 1, by omega, by omega, p'⟩, fun v H' y => hs i v H H' more p (w.yields i H v H' more stands y)⟩
theorem put_new {k : List Key} {v : V} (h : k ∉ kvs.map (·.1)) : putK kvs k v = kvs ++ [(k, v)] := by
  unfold putK
  rw [if_neg]
  intro e
  obtain ⟨p, hp, g⟩ := List.any_eq_true.mp e
  exact h (List.mem_map.mpr ⟨p, hp, of_decide_eq_true g⟩)
/-- {k: v for k, v in d.items()}: a copy -/
theorem r_copyT {i j : Nat} (hd : H d = some (.dT kvs)) (nd : (kvs.map (·.1)).Nodup) (few : kvs.length ≤ 100000) (up : ∀ od (Q' : VK), Q' (.ref d) (upd H d (.frz od (.dT kvs))) → td σ (upd H d (.frz od (.dT kvs))) Q')
    (hw : ∀ x y, wipe (((wipe σ vs).set i (some x)).set j (some y)) vs = wipe σ vs) (hi : ∀ x y : V, (((wipe σ vs).set i (some x)).set j (some y))[i]? = some (some x)) (hj : ∀ x y : V, (((wipe σ vs).set i (some x)).set j (some y))[j]? = some (some y))
    (q : ∀ D H', Keep [] H H' → H D = none → H' D = some (.dT kvs) → Q (.ref D) H') : tLockE (Dt.tDcT (Dt.iItemsT td) (gTup K 2 (gCons (gName i) (gCons (gName j) gNil))) tYes (tVar i) (tVar j) vs) σ H Q := by
  refine ⟨d, .dT kvs, hd, trivial, fun od => up od _ ⟨d, od, kvs, rfl, upd_same, fun D hD => ?_⟩⟩
  have dne : D ≠ d := by rintro rfl; rw [upd_same] at hD; cases hD
  have hD0 : H D = none := by rw [upd_ne dne] at hD; exact hD
  refine dcT_it walk_itemsT (fun n H' => H' D = some (.dT (kvs.take n)) ∧ H' d = some (.frz od (.dT kvs)) ∧ Keep [] (upd H d (.frz od (.dT kvs))) H') ⟨by rw [upd_same]; simp, by rw [upd_ne (Ne.symm dne)]; exact upd_same, Keep.new hD⟩ (fun n H' _ p => p.2.1) ?_ ?_
  · rintro n x H1 H' more ⟨atD, atd, kp⟩ ⟨T, a, k, v, at1, tup, rfl, hT, rfl⟩
    have kT : Keep [] H1 (upd H1 T (.tup [.ref a, v])) := Keep.new hT
    refine r_gTup2 (sqT_of upd_same) ⟨hw _ _, ?_⟩
    refine r_yes (iteT ?_)
    refine r_var (hi _ _) (r_var (hj _ _) ?_)
    have atD' := kT _ _ (by simp) atD
    have atd' := kT _ _ (by simp) atd
    refine ⟨kvs.take n, k, a, rfl, kT _ _ (by simp) tup, atD', lt_size (by rw [List.length_take]; omega), ?_, by rw [upd_ne (Ne.symm dne)]; exact atd', (kp.trans kT).mut hD⟩
    have fresh : k ∉ (kvs.take n).map (·.1) := fun h => by
      obtain ⟨p, hp, e⟩ := List.mem_map.mp h
      obtain ⟨z, hz⟩ := List.getElem?_of_mem hp
      rw [List.getElem?_take] at hz
      split at hz
      · rename_i lt
        have h1 : (kvs.map (·.1))[z]? = some k := by rw [List.getElem?_map, hz]; exact congrArg some e
        have h2 : (kvs.map (·.1))[n]? = some k := by rw [List.getElem?_map, at1]; rfl
        have := (List.getElem?_inj (List.getElem?_eq_some_iff.mp h1).1 nd).mp (h1.trans h2.symm)
        omega
      · cases hz
    rw [upd_same, put_new fresh, List.take_add_one, at1]; rfl
  · rintro H' ⟨atD, atd, kp⟩
    rw [List.take_length] at atD
    exact ⟨atd, q D _ (Keep.unlock hd kp) hD0 (by rw [upd_ne dne]; exact atD)⟩
end
namespace Dt
open PySem PySem.Spec PyProof.Rows PyProof.V L2 StX
/-! ### == of two dicts with the same keys, tuples, in the same order, and the same values -/
section
variable {prog : Program} {w : World} {Ky : Type} [DecidableEq Ky] {knd : HeapKind prog w Ky} {A : Around} {E : Value → Shared → Prop} {s : Shared}
theorem same_pairsT {nm : String} {a b : Addr} {xa xb : List (Ky × Addr × Value)} {Q : Bool → Shared → Prop} (ha : (a == sysModules) = false) (hb : (b == sysModules) = false) (hu : knd.room A) (da : s.heap.DictOfH knd a xa) (db : s.heap.DictOfH knd b xb)
    (len : xa.length = xb.length) (al : ∀ (i : Nat) x, xa[i]? = some x → ∃ y, xb[i]? = some y ∧ y.1 = x.1 ∧ SeqAt.EqAt A s x.2.2 y.2.2 true) (q : Q true s) : wpAny (model prog w) A (Builtin.Dict.samePairs nm a b) Q E s := by
  obtain ⟨oa, es, ep, hoa, _, hda, hes, hia, _⟩ := da
  obtain ⟨ob, fs, fp, hob, _, hdb, hfs, hib, hnb⟩ := db
  have sa := size_of_entries hes
  have sb := size_of_entries hfs
  unfold Builtin.Dict.samePairs Builtin.Dict.showsAll
  rw [if_neg (show ¬ (a == sysModules) = true by rw [ha]; exact Bool.false_ne_true), if_neg (show ¬ (b == sysModules) = true by rw [hb]; exact Bool.false_ne_true)]
  refine wpAny_bind (wpAny_pure (wpAny_bind (wpAny_pure (wpAny_bind (wpAny_dictEntries hoa hda ?_)))))
  dsimp only
  refine wpAny_bind (wpAny_dictEntries hob hdb ?_)
  have hsz : es.size = fs.size := by omega
  rw [if_neg (by rw [hsz]; simp)]
  refine wpAny_bind (wpAny_dictEpoch hoa hda (wpAny_bind ?_))
  rw [Std.Legacy.Range.forIn_eq_forIn_range']
  simp only [Std.Legacy.Range.size, Nat.sub_zero, Nat.add_sub_cancel, Nat.div_one]
  refine wpAny_forIn_list _ (fun rest r s' => s' = s ∧ r = (none, ()) ∧ ∃ i, rest = List.range' i (es.size - i) ∧ i ≤ es.size) _ ?_ ?_ _ _ ⟨rfl, rfl, 0, by simp, Nat.zero_le _⟩
  · rintro x rest r s' ⟨rfl, rfl, i, hr, hi⟩
    have lt : i < es.size := by
      rcases Nat.lt_or_ge i es.size with h | h
      · exact h
      · rw [Nat.sub_eq_zero_of_le h] at hr; simp at hr
    rw [show es.size - i = (es.size - (i + 1)) + 1 by omega, List.range'_succ] at hr
    injection hr with h1 h2
    subst h1
    obtain ⟨e, he⟩ : ∃ e, xa[x]? = some e := ⟨_, List.getElem?_eq_getElem (by omega)⟩
    obtain ⟨f, hf, ek, ev⟩ := al x e he
    have ge : es[x]? = some (entryOfKey knd e) := by rw [entry_at hes, he]; rfl
    have gf : fs[x]? = some (entryOfKey knd f) := by rw [entry_at hfs, hf]; rfl
    refine wpAny_bind (wpAny_dictEntries hoa hda ?_)
    rw [ge]
    refine wpAny_bind (wpAny_holding (wpAny_bind (wpAny_dictFind_heap hu (hia _ (List.mem_of_getElem? he)) hob hdb hfs hib hnb (fun no => ?_) fun j p hj => ?_)))
    · exact absurd (show xb[x]? = some (e.1, f.2) by rw [hf, ← ek]) (no x _)
    · obtain rfl : j = x := idxH_unique hnb hj (show xb[x]? = some (e.1, f.2) by rw [hf, ← ek])
      refine wpAny_bind (wpAny_dictEntries hob hdb ?_)
      rw [gf]
      refine wpAny_holding (ev _ _ _ _ ?_)
      show wpAny _ _ (if (!true) = true then _ else _) _ _ _
      rw [if_neg (by decide)]
      refine wpAny_bind (wpAny_dictEpoch hoa hda ?_)
      rw [if_neg (by simp)]
      exact wpAny_pure ⟨rfl, rfl, j + 1, h2, lt⟩
  · rintro r s' ⟨rfl, rfl, _⟩
    exact wpAny_pure q
end
theorem kt_both {H : Hp} {kvs : List (List Key × V)} {xa xb : List (List Key × Addr × Value)} (ra : KT H kvs xa) (rb : KT H kvs xb) : xa.length = xb.length ∧
    ∀ (i : Nat) x, xa[i]? = some x → ∃ y p, xb[i]? = some y ∧ y.1 = x.1 ∧ p ∈ kvs ∧ RelV p.2 x.2.2 ∧ RelV p.2 y.2.2 := by
  induction ra generalizing xb with
  | nil =>
    cases rb
    exact ⟨rfl, fun i x h => by simp at h⟩
  | @cons p q ps qs h t ih =>
    cases rb with
    | @cons _ q2 _ qs2 h2 t2 =>
      obtain ⟨l, g⟩ := ih t2
      refine ⟨by rw [List.length_cons, List.length_cons, l], fun i x hx => ?_⟩
      cases i with
      | zero =>
        have e : q = x := by simpa using hx
        subst e
        exact ⟨q2, p, by simp, h2.1.symm.trans h.1, List.mem_cons_self, h.2.2, h2.2.2⟩
      | succ i =>
        obtain ⟨y, p2, a, b, c, d, e⟩ := g i x (by simpa using hx)
        exact ⟨y, p2, by simpa using a, b, List.mem_cons_of_mem _ c, d, e⟩
def rEqSameT : R2 := fun x y H Q => ∃ a b kvs, x = .ref a ∧ y = .ref b ∧ H a = some (.dT kvs) ∧ H b = some (.dT kvs) ∧ (∀ p ∈ kvs, SameV p.2) ∧ Q (.bl true) H
theorem op_eqSameT {X : Cx} (small : X.A.units + 1 < cLine) : OpR X (compareOp .Eq) rEqSameT := by
  rintro pins s σ H x y v u Q I rx ry ⟨a, b, kvs, rfl, rfl, ea, eb, same, q⟩
  cases (show v = Value.ref a from rx)
  cases (show u = Value.ref b from ry)
  obtain ⟨_, na, xa, ra, da⟩ := dt_of I.hok ea
  obtain ⟨_, nb, xb, rb, db⟩ := dt_of I.hok eb
  obtain ⟨len, al⟩ := kt_both ra rb
  refine wpAny_richCompare_same_room (op := .Eq) da.typeIs db.typeIs PySem.F.slot_dict_eq (wpAny_call_entry PySem.F.slot_dict_eq da.typeIs PySem.F.entry_dict_eq ?_ (PySem.F.args_dict_eq_2 _ _)) (by omega)
  show wpAny _ _ (Builtin.Dict.dictSlotArgs "__eq__" ⟨[.ref a, .ref b], []⟩ >>= _) _ _ s
  refine wpAny_bind ?_
  unfold Builtin.Dict.dictSlotArgs
  refine wpAny_bind (wpAny_notOrdered_dict da.typeIs ?_)
  show wpAny _ _ (pure (Value.ref a, Value.ref b)) _ _ s
  refine wpAny_pure (wpAny_bind (wpAny_isInstance (T := "dict") db.typeIs PySem.F.sub_dict_dict ?_))
  simp only [Bool.not_true, Bool.false_eq_true, if_false]
  refine wpAny_bind (wpAny_pure (wpAny_bind (wpAny_pure (wpAny_bind (same_pairsT na nb (show X.A.in1.units < cLine from small) da db len (fun i x hx => ?_) ?_)))))
  · obtain ⟨y, p, hy, ek, hp, r1, r2⟩ := al i x hx
    exact ⟨y, hy, ek, eqAt_sameV r1 r2 (same p hp)⟩
  · refine wpAny_pure ⟨_, rfl, ?_, ?_⟩
    · exact fun x => nomatch x
    · exact ⟨.bl true, H, I, rfl, q⟩
end Dt
namespace Ht
open PySem PySem.Spec PyProof.Rows L2 HotX L2H
/-! ### a def that raises nothing, called within an except suite, whatever is known of the handled exception -/
structure FnA (P : Program) (w : World) (K : PySem.W.Frag) (mg : Str → Option Value) (base : PySem.Heap) (k : Nat) (f : Addr) (fd : FuncData) (ps : List Str) (sp : Sp) : Prop where
  len : ∀ vs H Q E, sp vs H Q E → vs.length = ps.length
  run : ∀ (A : Around) (outer : List Env) (s : Shared) (H : Hp) (args : Args) (us : List Value) (vs : List V) (Q : VK) (E : XK) (p : Addr × Obj), RoomH k A → PinOk outer H s p → Env0 P w K mg base A outer s H → BindsTo s fd args (ps.zip us) → Vals vs us → sp vs H Q E →
    codeAny (model P w) A (.call (.ref f) args) (CR CX0 outer P w H s Q E) s
section
variable {P : Program} {w : World} {K : PySem.W.Frag} {mg : Str → Option Value} {base : PySem.Heap}
theorem Fun.okA {x qual : Str} {st : Stmt} {f : Addr} {fd : FuncData} {N ps : List Str} {k : Nat} {sp : Sp} (F : Fun K x qual st f fd) (S : FnScope N ps (defScope st)) (len : ∀ vs H Q E, sp vs H Q E → vs.length = ps.length)
    (hbody : ∀ (cdv : Value) (A : Around) (outer : List Env) (s : Shared) (H : Hp) (vs : List V) (Q : VK) (E : XK) (p : Addr × Obj), RoomH k (A.deeper (envOfC qual (defScope st) s.heap.objs.size f cdv)) → sp vs H Q E →
      ∃ t, PSs (cxH CX0 P w K mg base N qual (defScope st) f cdv A outer s H E p) (defBody st) t ∧ t { nx := fun _ H' => Q .non H', rt := Q } (L2.start N vs) H) : FnA P w K mg base (k + 1) f fd ps sp := by
  obtain ⟨oc, od, kV, doc, pm, an, cdv, ct, osl, rfl, lk, hcd⟩ := F.ex
  refine ⟨len, fun A outer s H args us vs Q E p room pin e0 binds rv wish => ?_⟩
  have here : K.In s.heap := e0.mod.kin.keeps fun b o e => (e0.bs b o e).1
  have free : s.heap.NoLimit := e0.mod.nolimit.keeps fun b o e => (e0.bs b o e).1
  have kinds : ∀ y ∈ ps.zip us, (defScope st).names.lookup y.1 = some .local ∨ ((defScope st).names.lookup y.1 = some .cell ∧ ((cellsFrom (s.heap.objs.size + 1) (defScope st).names []).lookup y.1).isSome = true) := fun ⟨n, v⟩ hy =>
    (S.par n (List.of_mem_zip hy).1).imp id fun q => ⟨q, PySem.W.cellsFrom_some _ _ _ (.inl q)⟩
  refine codeAny_call_function room.depth (here _ _ lk) rfl S.co S.gen rfl (PySem.W.codeRec_of here hcd) (binds _ _ _ _ (wpAny_newFunctionEnv_cells S.kind kinds fun env he s1 x => ?_))
  subst he
  obtain ⟨t, ht, hq⟩ := hbody cdv A outer s H vs Q E p (room.deeper _) wish
  refine ⟨free.keeps x.toInCall.keep, codeAny_func (wpAny_mono (ht.run [] s1 (L2.start N vs) H _ (inv_startH S pin e0 (len _ _ _ _ wish) rv x) hq) (fun fl s' hs => ?_) fun e s' hs => hs)⟩
  cases fl with
  | ret u =>
    obtain ⟨v, σ', H', J, r, q⟩ := hs
    exact ⟨v, H', J.os, J.bare, J.base, J.hok, r, q⟩
  | next =>
    obtain ⟨σ', H', J, q⟩ := hs
    exact ⟨V.non, H', J.os, J.bare, J.base, J.hok, rfl, q⟩
  | brk =>
    obtain ⟨_, _, _, q⟩ := hs
    exact False.elim q
  | cont =>
    obtain ⟨_, _, _, q⟩ := hs
    exact False.elim q
end
section
variable {X : Cx} {k : Nat} {f : Addr} {fd : FuncData} {ps : List Str} {sp : Sp} {x : Str} {q pos : Pos} {e : Expr} {es : List Expr} {t : TA} {p : Addr × Obj}
theorem pe_callA (F : FnA X.prog X.w X.K X.mg X.base k f fd ps sp) (room : RoomH k X.A) (hp : p ∈ X.pn) (hg : Gl X x) (hm : X.mg x = some (.ref f)) (hk : PySem.W.keepIn X.K (.ref f) = true) (hb : Binds X.K fd ps [])
    (ha : PA X (e :: es) t) (hdb : (x == ("__debug__" : Str)) = false := by decide) (he : starEach (e :: es) X.env = (false, eval e X.env) :: starEach es X.env := by rfl) (hpl : (backTo pos (starEach es X.env)).any (·.1) = false := by rfl) :
    PE X (.Call (.Name x q) (e :: es) [] pos) (tCall sp [] E0 t) := by
  refine ⟨fun pins s σ H Q I h => ?_⟩
  refine wpAny_Call_Name_kw (ld_glob I hg hm ?_ hdb)
  refine PySem.W.callWith_K (h₀ := X.base) I.ok.mod.kin hk (thn (ha.run pos pins s σ H _ I h) fun us s1 ⟨vs, H1, I1, r, wish⟩ => ⟨I1.kIn, ?_⟩) he hpl
  replace wish : sp vs H1 Q E0 := by
    have wish2 : sp (vs ++ []) H1 Q E0 := wish
    rwa [List.append_nil] at wish2
  have b := hb s1 us I1.kIn (by rw [List.append_nil, ← r.length]; exact F.len _ _ _ _ wish)
  rw [List.append_nil] at b
  have pin := I1.pin p (List.mem_append_left _ hp)
  refine wpAny_call (codeAny_mono (F.run X.A X.stack s1 H1 ⟨us, []⟩ us vs Q E0 p room ⟨pin.1, pin.2.1, fun hm => (List.mem_cons.mp (I1.stkSub p.1 hm)).elim pin.2.2.1 pin.2.2.2.1, pin.2.2.2.2⟩ I1.env0 b r wish) fun r s' out => ?_)
  cases r with
  | error e => exact False.elim out
  | ok fl =>
    cases fl with
    | ret u => exact I1.after out
    | next => exact False.elim out
    | brk => exact False.elim out
    | cont => exact False.elim out
theorem roomMark {k : Nat} {A : Around} {v : Option Value} (r : Room k A) : RoomH k (A.mark v) := ⟨r.dp, r.un⟩
end
end Ht
namespace Ow
open PySem PySem.Spec PyProof.Rows PyProof.V L2 StX
open PySem.W PySem.Calls
/-! ### x != y where the class has its own __eq__ and object's __ne__ -/
section
variable {prog : Program} {w : World} {M : Model} {A : Around} {E : Value → Shared → Prop} {s : Shared} {K : Frag} {x y C f : Addr} {ox oy : Obj} {od od' : Option Obj}
theorem ifBound_objNe {args : List Value} {Q : Option Value → Shared → Prop} (X : K.In s.heap) (I : InstAt s.heap x ox C od) (hs : findIn K (.ref C) "__ne__" = some (some (.builtin "object.__ne__")))
    (h : wpAny M A (call (.builtin "object.__ne__") (.ref x :: args)) (fun v => Q (some v)) E s) : wpAny M A (callSpecialIfBound? (.ref x) "__ne__" args) Q E s := by
  simp only [callSpecialIfBound?, bindSpecialIfBound?]
  refine wpAny_holding (wpAny_bind (wpAny_bind (wpAny_bind (I.type.here ((looks_findIn X hs).here ?_)))))
  refine wpAny_bind (wpAny_askSetting (wpAny_ite ?_))
  have fin : wpAny M A (call (.builtin "object.__ne__") ([.ref x] ++ args) >>= fun v => pure (some v)) Q E s := wpAny_bind (wpAny_mono h (fun v s' h' => wpAny_pure h') fun _ _ h' => h')
  split
  · exact wpAny_bind (wpAny_of_eq (F.cmp_object.ne.bind _) (wpAny_pure (by exact fin)))
  · exact wpAny_tryCatch (wpAny_bind (wpAny_of_eq (F.cmp_object.ne.bind _) (wpAny_pure (by exact fin))))
theorem entry_ne {Q : Fin → Shared → Prop} (hu : A.units < cLine) (X : K.In s.heap) (I : InstAt s.heap x ox C od) (hs : findIn K (.ref C) "__eq__" = some (some (.ref f))) (hf : isFn K (.ref f) = true)
    (h : wpAny (model prog w) A (call (.ref f) [.ref x, .ref y]) (fun v s' => ∃ b, v = .bool b ∧ Q (.done (.ret (.bool (!b)))) s') E s) : wpAny (model prog w) A (Builtin.«object.__ne__» ⟨[.ref x, .ref y], []⟩) Q E s := by
  have one := ifBound_K (M := model prog w) (args := [.ref y]) (Q := fun r s' => ∃ b, r = some (.bool b) ∧ Q (.done (.ret (.bool (!b)))) s') X I hs hf (wpAny_mono h (fun v s' hv => by obtain ⟨b, rfl, q⟩ := hv; exact ⟨b, rfl, q⟩) fun _ _ e => e)
  obtain ⟨hh, g, d, t, os⟩ := s
  unfold Builtin.«object.__ne__»
  repeat (first
    | with_reducible refine wpAny_cRoomFor hu ?_
    | (refine wpAny_bind (m := callSpecialIfBound? (.ref x) (Str.ofString "__eq__") [.ref y]) (wpAny_mono one (fun r s' hr => ?_) fun _ _ e => e))
    | wp_step)
  · obtain ⟨b, rfl, q⟩ := hr
    repeat (first | exact q | exact wpAny_pure q | exact wpAny_truthy_bool q | (refine wpAny_bind (m := truthy (.bool _)) (wpAny_truthy_bool ?_)) | wp_step)
theorem call_objNe {Q : Value → Shared → Prop} (hu : A.in1.units < cLine) (X : K.In s.heap) (I : InstAt s.heap x ox C od) (hm : mroIn K C (.type "object") = some true) (hs : findIn K (.ref C) "__eq__" = some (some (.ref f))) (hf : isFn K (.ref f) = true)
    (h : wpAny (model prog w) A.in1 (call (.ref f) [.ref x, .ref y]) (fun v s' => ∃ b, v = .bool b ∧ Q (.bool (!b)) s') E s) : wpAny (model prog w) A (call (.builtin "object.__ne__") [.ref x, .ref y]) Q E s :=
  wpAny_call (codeAny_call_builtin F.cmp_object.ne.plain F.cmpEntry_ne (check_slot F.cmpKind_ne F.cmpSplit_ne (I.type.andThen (looks_mroIn X hm)) (F.cmpArgs_ne _ _) (entry_ne hu X I hs hf (wpAny_mono h (fun v s' hv => by obtain ⟨b, e, q⟩ := hv; exact ⟨b, e, q⟩) fun _ _ e => e))))
theorem rc_ownNe {Q : Value → Shared → Prop} (hu0 : A.units < cLine) (hu : A.in1.units < cLine) (X : K.In s.heap) (I : InstAt s.heap x ox C od) (J : InstAt s.heap y oy C od') (hm : mroIn K C (.type "object") = some true) (hn : findIn K (.ref C) "__ne__" = some (some (.builtin "object.__ne__"))) (hs : findIn K (.ref C) "__eq__" = some (some (.ref f))) (hf : isFn K (.ref f) = true)
    (h : wpAny (model prog w) A.in1 (call (.ref f) [.ref x, .ref y]) (fun v s' => ∃ b, v = .bool b ∧ Q (.bool (!b)) s') E s) : wpAny (model prog w) A (richCompare .NotEq (.ref x) (.ref y)) Q E s := by
  have one : wpAny (model prog w) A (tryCompare (.ref x) "__ne__" (.ref y)) (fun r s' => ∃ b : Bool, r = some (.bool b) ∧ Q (.bool b) s') E s := by
    unfold tryCompare
    refine wpAny_bind (ifBound_objNe X I hn (call_objNe hu X I hm hs hf (wpAny_mono h (fun v s' hv => ?_) fun _ _ e => e)))
    obtain ⟨b, rfl, q⟩ := hv
    exact ⟨b, rfl, wpAny_pure ⟨_, rfl, q⟩⟩
  unfold richCompare
  simp only [oneThing_ref]
  refine wpAny_holding (wpAny_bind (wpAny_cRoomFor hu0 ?_))
  refine wpAny_bind (I.type.here (wpAny_bind (J.type.here ?_)))
  rw [show (Value.ref C != Value.ref C) = false from by simp]
  simp only [Bool.false_eq_true, if_false]
  refine wpAny_bind (wpAny_pure ?_)
  simp only [Bool.false_eq_true, if_false]
  refine wpAny_bind (wpAny_mono one (fun r s' z => ?_) fun _ _ e => e)
  obtain ⟨v, rfl, hq⟩ := z
  exact wpAny_pure hq
end
section
variable {X : Cx} {CX : CXT} {k : Nat} {C f : Addr} {sp : Sp} {E : XK}
def rOwnNe (C : Addr) (sp : Sp) (E : XK) : R2 := fun x y H Q => ∃ a dx fs b dy gs, x = .ref a ∧ y = .ref b ∧ H a = some (.ins C dx fs) ∧ H b = some (.ins C dy gs) ∧ sp [x, y] H (fun v H' => ∃ c, v = .bl c ∧ Q (.bl (!c)) H') E
theorem op_ownNe (M : Meth X.K C "__eq__" f) (hn : findIn X.K (.ref C) "__ne__" = some (some (.builtin "object.__ne__"))) (hm : mroIn X.K C (.type "object") = some true) (F : FnR X.prog X.w X.K X.mg X.base CX k f sp) (hr : Room (k + 1) X.A) (hx : Passes CX X E) (hu : X.A.units < cLine) : OpR X (compareOp .NotEq) (rOwnNe C sp E) := by
  intro pins s σ H x y v u Q I rx ry h
  obtain ⟨a, dx, fs, b, dy, gs, rfl, rfl, ha, hb, q⟩ := h
  obtain rfl : v = Value.ref a := rx
  obtain rfl : u = Value.ref b := ry
  obtain ⟨ox, od, J, _⟩ := inst_of I ha
  obtain ⟨oy, od', J', _⟩ := inst_of I hb
  have hr1 : Room k X.A.in1 := Room.in1 hr
  show wpAny _ _ (richCompare .NotEq (.ref a) (.ref b)) _ _ _
  refine rc_ownNe hu hr1.units0 I.kIn J J' hm hn M.at_ M.fn (wpAny_mono (wpAny_call (SlX.run_at (us := [.ref a, .ref b]) (ws := [.ref a, .ref b]) F hr1 I.env0.in1 hx I (.cons rfl (.cons rfl .nil)) q)) (fun u' s' z => ?_) fun _ _ x => x)
  obtain ⟨z', H', I', rz, c, ec, qz⟩ := z
  subst ec
  cases (show u' = Value.bool c from rz)
  exact ⟨c, rfl, .bl (!c), H', I', rfl, qz⟩
theorem r_ownNe {C a b dx dy : Addr} {fs gs : List (Str × V)} {sp : Sp} {E : XK} {H : Hp} {Q : VK} (ha : H a = some (.ins C dx fs)) (hb : H b = some (.ins C dy gs)) (k : sp [.ref a, .ref b] H (fun v H' => ∃ c, v = .bl c ∧ Q (.bl (!c)) H') E) : rOwnNe C sp E (.ref a) (.ref b) H Q := ⟨a, dx, fs, b, dy, gs, rfl, rfl, ha, hb, k⟩
end
end Ow
namespace Dt
open PySem PySem.Spec PyProof.Rows PyProof.V L2 StX
/-! ### d.clear(), the keys tuples -/
def rClearT : V → List V → Hp → VK → Prop := fun x vs H Q => ∃ (a : Addr) (kvs : Tb), x = .ref a ∧ vs = [] ∧ H a = some (.dT kvs) ∧ Q .non (upd H a (.dT []))
theorem mtd_clearT {X : Cx} : MtR X "dict.clear" rClearT := by
  intro pins s σ H x vs v us Q I rx rv h
  obtain ⟨a, kvs, ex, ev, e, q⟩ := h
  subst ex
  subst ev
  obtain rfl : v = Value.ref a := rx
  have hus := rv.zero
  subst hus
  obtain ⟨small, apart, cells, pairs, u, es, ep, stands, cls, data, list, _⟩ := dt_of I.hok e
  have len : es.size = cells.length := size_of_entries list
  have len2 : kvs.length = cells.length := Paired.length pairs
  have raw : s.heap.DictRaw a es ep := ⟨u, stands, cls, data⟩
  refine call_meetsIn PySem.F.slot_dict_clear raw.typeIs PySem.F.entry_dict_clear (PySem.F.args_dict_clear_1 _) (PySem.meets_dict_clear_raw a) ⟨es, ep, raw, by omega, fun h' dd' hs => ?_⟩
  obtain ⟨o', ho', hc', hd'⟩ := dd'
  refine ⟨.non, _, d_write (t' := s.toks) I (by rw [e]; exact True.intro) hs ⟨o', ho'⟩ ?_, rfl, q⟩
  exact ⟨Nat.zero_le _, apart, [], .nil, o', #[], ep + 1, ho', hc', hd', rfl, List.Pairwise.nil⟩
section
variable {X : Cx} {o : Expr} {to : TE} {apos cpos : Pos}
theorem pe_dclearT (ho : PE X o to) (hbase : attributeBase o "clear" X.env (eval o X.env) = eval o X.env := by rfl) (hline : (apos.endLine == cpos.line) = true := by rfl) : PE X (.Call (.Attribute o "clear" apos) [] [] cpos) (tBM0 X.K "dict" rClearT to) :=
  pe_bm0 PySem.F.plainAttrs_dict PySem.F.slot_dict_clear PySem.F.type_dict_clear mtd_clearT ho hbase hline
end
/-! ### == of two dicts with the same keys in the same order, the values flat -/
section
variable {prog : Program} {w : World} {Ky : Type} [DecidableEq Ky] {knd : HeapKind prog w Ky} {A : Around} {E : Value → Shared → Prop} {s : Shared}
theorem pairsT {nm : String} {a b : Addr} {xa xb : List (Ky × Addr × Value)} {P : Nat → Bool} {Q : Bool → Shared → Prop} (ha : (a == sysModules) = false) (hb : (b == sysModules) = false) (hu : knd.room A) (da : s.heap.DictOfH knd a xa) (db : s.heap.DictOfH knd b xb)
    (len : xa.length = xb.length) (al : ∀ (i : Nat) x, xa[i]? = some x → ∃ y, xb[i]? = some y ∧ y.1 = x.1 ∧ SeqAt.EqAt A s x.2.2 y.2.2 (P i)) (q : (∀ i, i < xa.length → P i = true) → Q true s) (n : ∀ i, i < xa.length → P i = false → Q false s) : wpAny (model prog w) A (Builtin.Dict.samePairs nm a b) Q E s := by
  obtain ⟨oa, es, ep, hoa, _, hda, hes, hia, _⟩ := da
  obtain ⟨ob, fs, fp, hob, _, hdb, hfs, hib, hnb⟩ := db
  have sa := size_of_entries hes
  have sb := size_of_entries hfs
  unfold Builtin.Dict.samePairs Builtin.Dict.showsAll
  rw [if_neg (show ¬ (a == sysModules) = true by rw [ha]; exact Bool.false_ne_true), if_neg (show ¬ (b == sysModules) = true by rw [hb]; exact Bool.false_ne_true)]
  refine wpAny_bind (wpAny_pure (wpAny_bind (wpAny_pure (wpAny_bind (wpAny_dictEntries hoa hda ?_)))))
  dsimp only
  refine wpAny_bind (wpAny_dictEntries hob hdb ?_)
  have hsz : es.size = fs.size := by omega
  rw [if_neg (by rw [hsz]; simp)]
  refine wpAny_bind (wpAny_dictEpoch hoa hda (wpAny_bind ?_))
  rw [Std.Legacy.Range.forIn_eq_forIn_range']
  simp only [Std.Legacy.Range.size, Nat.sub_zero, Nat.add_sub_cancel, Nat.div_one]
  refine wpAny_forIn_list _ (fun rest r s' => s' = s ∧ r = (none, ()) ∧ ∃ i, rest = List.range' i (es.size - i) ∧ i ≤ es.size ∧ ∀ j, j < i → P j = true) _ ?_ ?_ _ _ ⟨rfl, rfl, 0, by simp, Nat.zero_le _, by simp⟩
  · rintro x rest r s' ⟨rfl, rfl, i, hr, hi, ok⟩
    have lt : i < es.size := by
      rcases Nat.lt_or_ge i es.size with h | h
      · exact h
      · rw [Nat.sub_eq_zero_of_le h] at hr; simp at hr
    rw [show es.size - i = (es.size - (i + 1)) + 1 by omega, List.range'_succ] at hr
    injection hr with h1 h2
    subst h1
    obtain ⟨e, he⟩ : ∃ e, xa[x]? = some e := ⟨_, List.getElem?_eq_getElem (by omega)⟩
    obtain ⟨f, hf, ek, ev⟩ := al x e he
    have ge : es[x]? = some (entryOfKey knd e) := by rw [entry_at hes, he]; rfl
    have gf : fs[x]? = some (entryOfKey knd f) := by rw [entry_at hfs, hf]; rfl
    refine wpAny_bind (wpAny_dictEntries hoa hda ?_)
    rw [ge]
    refine wpAny_bind (wpAny_holding (wpAny_bind (wpAny_dictFind_heap hu (hia _ (List.mem_of_getElem? he)) hob hdb hfs hib hnb (fun no => ?_) fun j p hj => ?_)))
    · exact absurd (show xb[x]? = some (e.1, f.2) by rw [hf, ← ek]) (no x _)
    · obtain rfl : j = x := idxH_unique hnb hj (show xb[x]? = some (e.1, f.2) by rw [hf, ← ek])
      refine wpAny_bind (wpAny_dictEntries hob hdb ?_)
      rw [gf]
      refine wpAny_holding (ev _ _ _ _ ?_)
      cases hp : P j with
      | false =>
        show wpAny _ _ (if (!false) = true then _ else _) _ _ _
        rw [if_pos (by decide)]
        exact wpAny_pure (wpAny_pure (n j (by omega) hp))
      | true =>
        show wpAny _ _ (if (!true) = true then _ else _) _ _ _
        rw [if_neg (by decide)]
        refine wpAny_bind (wpAny_dictEpoch hoa hda ?_)
        rw [if_neg (by simp)]
        refine wpAny_pure ⟨rfl, rfl, j + 1, h2, lt, fun i hi => ?_⟩
        rcases Nat.lt_or_ge i j with h | h
        · exact ok i h
        · obtain rfl : i = j := by omega
          exact hp
  · rintro r s' ⟨rfl, rfl, i, hr, hi, ok⟩
    refine wpAny_pure (q fun j hj => ok j ?_)
    rcases Nat.lt_or_ge i es.size with h | h
    · rw [show es.size - i = (es.size - (i + 1)) + 1 by omega, List.range'_succ] at hr; cases hr
    · omega
end
/-- keys alike, values flat -/
def rEqFlatT : R2 := fun x y H Q => ∃ (a b : Addr) (kvs lvs : Tb), x = .ref a ∧ y = .ref b ∧ H a = some (.dT kvs) ∧ H b = some (.dT lvs) ∧ kvs.map (·.1) = lvs.map (·.1) ∧ (∀ p ∈ kvs, L2.flatV p.2 = true) ∧ (∀ p ∈ lvs, L2.flatV p.2 = true) ∧
  ((∀ i : Nat, ∀ p q, kvs[i]? = some p → lvs[i]? = some q → L2.eqV p.2 q.2 = true) → Q (.bl true) H) ∧ (∀ i : Nat, ∀ p q, kvs[i]? = some p → lvs[i]? = some q → L2.eqV p.2 q.2 = false → Q (.bl false) H)
theorem kt_at {H : Hp} : ∀ {kvs : Tb} {xa : List (List Key × Addr × Value)}, KT H kvs xa → kvs.length = xa.length ∧ ∀ (i : Nat) x, xa[i]? = some x → ∃ p, kvs[i]? = some p ∧ p.1 = x.1 ∧ RelV p.2 x.2.2
  | _, _, .nil => ⟨rfl, fun i x h => by simp at h⟩
  | _, _, .cons (a := p) (b := q) h t => by
    obtain ⟨l, g⟩ := kt_at t
    refine ⟨by rw [List.length_cons, List.length_cons, l], fun i x hx => ?_⟩
    cases i with
    | zero =>
      have e : q = x := by simpa using hx
      subst e
      exact ⟨p, by simp, h.1, h.2.2⟩
    | succ i => simpa using g i x (by simpa using hx)
theorem op_eqFlatT {X : Cx} (small : X.A.units + 1 < cLine) : OpR X (compareOp .Eq) rEqFlatT := by
  rintro pins s σ H x y v u Q I rx ry ⟨a, b, kvs, lvs, rfl, rfl, ea, eb, keys, fa, fb, q, n⟩
  cases (show v = Value.ref a from rx)
  cases (show u = Value.ref b from ry)
  obtain ⟨_, na, xa, ra, da⟩ := dt_of I.hok ea
  obtain ⟨_, nb, xb, rb, db⟩ := dt_of I.hok eb
  obtain ⟨la, ga⟩ := kt_at ra
  obtain ⟨lb, gb⟩ := kt_at rb
  have lk : kvs.length = lvs.length := by have := congrArg List.length keys; rwa [List.length_map, List.length_map] at this
  let P : Nat → Bool := fun i => match kvs[i]?, lvs[i]? with
    | some p, some q => L2.eqV p.2 q.2
    | _, _ => true
  refine wpAny_richCompare_same_room (op := .Eq) da.typeIs db.typeIs PySem.F.slot_dict_eq (wpAny_call_entry PySem.F.slot_dict_eq da.typeIs PySem.F.entry_dict_eq ?_ (PySem.F.args_dict_eq_2 _ _)) (by omega)
  show wpAny _ _ (Builtin.Dict.dictSlotArgs "__eq__" ⟨[.ref a, .ref b], []⟩ >>= _) _ _ s
  refine wpAny_bind ?_
  unfold Builtin.Dict.dictSlotArgs
  refine wpAny_bind (wpAny_notOrdered_dict da.typeIs ?_)
  show wpAny _ _ (pure (Value.ref a, Value.ref b)) _ _ s
  refine wpAny_pure (wpAny_bind (wpAny_isInstance (T := "dict") db.typeIs PySem.F.sub_dict_dict ?_))
  simp only [Bool.not_true, Bool.false_eq_true, if_false]
  refine wpAny_bind (wpAny_pure (wpAny_bind (wpAny_pure (wpAny_bind (pairsT (P := P) na nb (show X.A.in1.units < cLine from small) da db (by omega) (fun i x hx => ?_) (fun all => ?_) fun i hi hp => ?_)))))
  · obtain ⟨p, hp, ek, rp⟩ := ga i x hx
    have lt : i < xb.length := by have := (List.getElem?_eq_some_iff.mp hx).1; omega
    obtain ⟨y, hy⟩ : ∃ y, xb[i]? = some y := ⟨_, List.getElem?_eq_getElem lt⟩
    obtain ⟨r, hr, er, rr⟩ := gb i y hy
    have kk : p.1 = r.1 := by
      have h1 : (kvs.map (·.1))[i]? = some p.1 := by rw [List.getElem?_map, hp]; rfl
      have h2 : (lvs.map (·.1))[i]? = some r.1 := by rw [List.getElem?_map, hr]; rfl
      rw [keys, h2] at h1
      exact (Option.some.inj h1).symm
    refine ⟨y, hy, er.symm.trans (kk.symm.trans ek), ?_⟩
    have : P i = L2.eqV p.2 r.2 := by show (match kvs[i]?, lvs[i]? with | some p, some q => L2.eqV p.2 q.2 | _, _ => true) = _; rw [hp, hr]
    rw [this]
    exact eqAt_V rp rr (fa p (List.mem_of_getElem? hp)) (fb r (List.mem_of_getElem? hr))
  · refine wpAny_pure ⟨_, rfl, (fun x => nomatch x), ⟨.bl true, H, I, rfl, q fun i p r hp hr => ?_⟩⟩
    have := all i (by have := (List.getElem?_eq_some_iff.mp hp).1; omega)
    have e : P i = L2.eqV p.2 r.2 := by show (match kvs[i]?, lvs[i]? with | some p, some q => L2.eqV p.2 q.2 | _, _ => true) = _; rw [hp, hr]
    rw [← e]; exact this
  · obtain ⟨p, hp0⟩ : ∃ p, kvs[i]? = some p := ⟨_, List.getElem?_eq_getElem (by omega)⟩
    obtain ⟨r, hr0⟩ : ∃ r, lvs[i]? = some r := ⟨_, List.getElem?_eq_getElem (by omega)⟩
    have e : P i = L2.eqV p.2 r.2 := by show (match kvs[i]?, lvs[i]? with | some p, some q => L2.eqV p.2 q.2 | _, _ => true) = _; rw [hp0, hr0]
    exact wpAny_pure ⟨_, rfl, (fun x => nomatch x), ⟨.bl false, H, I, rfl, n i p r hp0 hr0 (by rw [← e]; exact hp)⟩⟩
end Dt
/-! sorted() of triples of two ints and a text, the pairs of ints telling the text -/
namespace So
open PySem PySem.Spec PyProof.Rows SrtO Srt L2
def IsTri (h : Heap) (v : Value) (x y : Int) (z : Str) : Prop := ∃ a o t u r n, v = .ref a ∧ h.get? a = some o ∧ o.cls = .type "tuple" ∧ o.data = .seq #[.int x t, .int y u, .str z r] n
theorem IsTri.keeps {h h' : Heap} {v : Value} {x y : Int} {z : Str} (p : IsTri h v x y z) (k : ∀ b o, h.get? b = some o → o.cls = .type "tuple" → h'.get? b = some o) : IsTri h' v x y z := by
  obtain ⟨a, o, t, u, r, n, e, ho, hc, hd⟩ := p
  exact ⟨a, o, t, u, r, n, e, k _ _ ho hc, hc, hd⟩
theorem firsts_of {h : Heap} : ∀ {vs : List Value}, (∀ v ∈ vs, ∃ x y z, IsTri h v x y z) → ∃ fs : List Value, PySem.W.KatTups h vs fs ∧ fs.length = vs.length ∧ ∀ f ∈ fs, ∃ x t, f = Value.int x t
  | [], _ => ⟨[], PySem.W.KatTups.nil, rfl, fun _ hm => by simp at hm⟩
  | v :: vs, hp => by
    obtain ⟨fs, h1, h2, h3⟩ := firsts_of (vs := vs) fun v' hm => hp v' (List.mem_cons_of_mem _ hm)
    obtain ⟨x, y, z, a, o, t, u, r, n, e, ho, hc, hd⟩ := hp v (List.mem_cons_self ..)
    subst e
    refine ⟨.int x t :: fs, PySem.W.KatTups.cons ho hc hd rfl h1, by rw [List.length_cons, List.length_cons, h2], fun f hm => ?_⟩
    rcases List.mem_cons.mp hm with rfl | hm
    · exact ⟨x, t, rfl⟩
    · exact h3 f hm
section
variable {prog : Program} {w : World} {A : Around} {E : Value → Shared → Prop} {s : Shared}
theorem tri_cmp {vs : List Value} {k : Value → Int × Int} {g : Value → Str} (hp : ∀ v ∈ vs, IsTri s.heap v (k v).1 (k v).2 (g v)) (hg : ∀ v ∈ vs, ∀ u ∈ vs, k v = k u → g v = g u) : Cmp prog w A s (tuples' true) (fun p => p.1 ∈ vs) (lt2 fun v u => lexB (k v) (k u)) := by
  intro p q hm hm'
  have h1 := hp _ hm
  have h2 := hp _ hm'
  have h3 := hg _ hm _ hm'
  show wpAny (model prog w) A (keyLt' (tuples' true) p.1 q.1) (fun r s' => s' = s ∧ r = lexB (k p.1) (k q.1)) (fun _ _ => False) s
  have h4 : (k p.1).1 = (k q.1).1 → (k p.1).2 = (k q.1).2 → g p.1 = g q.1 := fun a b => h3 (Prod.ext a b)
  unfold lexB
  clear h3
  generalize (k p.1).1 = x at h1 h4 ⊢
  generalize (k p.1).2 = y at h1 h4 ⊢
  generalize (k q.1).1 = x' at h2 h4 ⊢
  generalize (k q.1).2 = y' at h2 h4 ⊢
  generalize g p.1 = z at h1 h4
  generalize g q.1 = z' at h2 h4
  obtain ⟨a, o, t, u, r, n, e, ho, hc, hd⟩ := h1
  obtain ⟨a', o', t', u', r', n', e', ho', hc', hd'⟩ := h2
  rw [e, e']
  refine PySem.W.kat_lt ho hd ho' hd' ?_
  show PySem.W.KatLex prog w A true (decide (3 < 3)) _ [(.int x t, .int x' t'), (.int y u, .int y' u'), (.str z r, .str z' r')] 0 s
  refine PySem.W.kat_cons (SeqAt.EqAt.int_int x t x' t' prog w _ _ ?_)
  refine PySem.W.kat_go (fun e1 => ?_) (fun e1 => ?_)
  · have ex : x = x' := by simpa using e1
    refine PySem.W.kat_yes (PySem.W.kat_cons (SeqAt.EqAt.int_int y u y' u' prog w _ _ ?_))
    refine PySem.W.kat_go (fun e2 => ?_) (fun e2 => ?_)
    · have ey : y = y' := by simpa using e2
      have e3 : (if x = x' then decide (y < y') else decide (x < x')) = false := by
        rw [if_pos ex, ey]
        exact decide_eq_false (Int.lt_irrefl _)
      refine PySem.W.kat_yes (PySem.W.kat_cons (SeqAt.EqAt.str_str z r z' r' prog w _ _ ?_))
      rw [h4 ex ey, beq_self_eq_true]
      exact PySem.W.kat_yes (PySem.W.kat_nil ⟨rfl, e3.symm⟩)
    · have e3 : (if x = x' then decide (y < y') else decide (x < x')) = decide (y < y') := if_pos ex
      refine PySem.W.kat_no (PySem.W.kat_one _ _ (PyProof.Rows.lt_int ?_))
      exact (show s = s ∧ decide (y < y') = (if x = x' then decide (y < y') else decide (x < x')) from ⟨rfl, e3.symm⟩)
  · have ex : ¬ x = x' := by simpa using e1
    have e3 : (if x = x' then decide (y < y') else decide (x < x')) = decide (x < x') := if_neg ex
    exact PySem.W.kat_no (oneLt_int ⟨rfl, e3.symm⟩)
theorem tri_sortable {a : Addr} {vs : List Value} {k : Value → Int × Int} {g : Value → Str} (h0 : 0 < vs.length) (hp : ∀ v ∈ vs, IsTri s.heap v (k v).1 (k v).2 (g v)) (hg : ∀ v ∈ vs, ∀ u ∈ vs, k v = k u → g v = g u) (ha : ∀ o, s.heap.get? a = some o → o.cls ≠ .type "tuple") : SortableO prog w A s a vs fun v u => lexB (k v) (k u) := by
  intro h' keep
  have hp' : ∀ v ∈ vs, IsTri h' v (k v).1 (k v).2 (g v) := fun v hm => (hp v hm).keeps fun b o e c => keep b o (fun z => by subst z; exact ha o e c) e
  obtain ⟨fs, h1, h2, h3⟩ := firsts_of fun v hm => ⟨_, _, _, hp' v hm⟩
  refine ⟨tuples' true, fun Q E hq => ?_, tri_cmp hp' hg⟩
  refine PySem.W.kat_kind (T := .type "int") h1 (by omega) (fun f hm => ?_) (by rfl) ?_
  · obtain ⟨x, t, rfl⟩ := h3 f hm
    exact PySem.W.Looks.now
  · have e : (Value.type "int" != Value.type "tuple") = true := by first | decide +kernel | rfl | decide
    rw [e]
    exact hq
theorem sorted_tri {l : Addr} {vs : List Value} {k : Value → Int × Int} {g : Value → Str} {Q : Value → Shared → Prop} (hl : s.heap.IsList l vs.toArray) (hz : vs.length ≤ sizeLine) (hp : ∀ v ∈ vs, IsTri s.heap v (k v).1 (k v).2 (g v)) (hg : ∀ v ∈ vs, ∀ u ∈ vs, k v = k u → g v = g u)
    (h : ∀ (h' : Heap) (d : Addr) (out : List Value), Srtd (fun v u => lexB (k v) (k u)) out → Stb (fun v u => lexB (k v) (k u)) out vs → (∀ b o, s.heap.get? b = some o → h'.get? b = some o) → s.heap.objs.size ≤ d → (∃ n, h'.get? d = some (seqObj "list" out.toArray n)) → Q (.ref d) { s with heap := h' }) :
    wpAny (model prog w) A (call (.builtin "sorted") [.ref l]) Q E s := by
  refine sorted_ord (swo_lex k) hl hz (fun h2 h₁ a ha kk => ?_) fun out hs hb => ?_
  · refine tri_sortable (s := { s with heap := h₁ }) (g := g) (by omega) (fun v hm => (hp v hm).keeps fun b o e _ => (kk b o e).2) hg fun o e => ?_
    have e' : some o = some (seqObj "list" vs.toArray 0) := e.symm.trans ha
    cases e'
    intro c
    exact absurd (Value.type.inj c) (by decide)
  · exact h _ _ out hs hb (fun b o e => sortedAll_old e) (Nat.le_succ _) (sortedAll_at s.heap vs out.toArray)
end
theorem vals3 {a b c : V} {us : List Value} (r : L2.Vals [a, b, c] us) : ∃ u1 u2 u3, us = [u1, u2, u3] ∧ RelV a u1 ∧ RelV b u2 ∧ RelV c u3 := by
  cases r with
  | cons r1 r => cases r with
    | cons r2 r => cases r with
      | cons r3 r => cases r; exact ⟨_, _, _, rfl, r1, r2, r3⟩
end So
/-- sorted(xs), xs a list of triples (int, int, text) where the two ints tell the text -/
def rSorted3 (K : PySem.W.Frag) : List V → Hp → VK → Prop := fun vs H Q => ∃ (a : Addr) (xs : List V) (k : V → Int × Int) (g : V → Str), vs = [V.ref a] ∧ SqL K H a xs ∧ (∀ x ∈ xs, ∃ t, x = V.ref t ∧ H t = some (.tup [.int (k x).1, .int (k x).2, .str (g x)])) ∧ (∀ x ∈ xs, ∀ y ∈ xs, k x = k y → g x = g y) ∧
  ∀ ys p, SrtO.Srtd (ltP k) ys → ys.Perm xs → H p = none → Q (.ref p) (upd H p (.lst ys))
theorem cr_sorted3 {X : Cx} {K : PySem.W.Frag} (hK : X.K = K) : CallR X (.builtin "sorted") (rSorted3 K) := by
  subst hK
  intro pins s σ H vs us Q I r h
  obtain ⟨a, xs, k, g, rfl, hs, hx, hg, q⟩ := h
  obtain ⟨its, rv, hl, hz⟩ := I.list hs
  obtain ⟨u, rfl, ru⟩ := vals1 r
  obtain rfl : u = Value.ref a := ru
  obtain ⟨e1, e2⟩ := refs_back rv fun x m => by
    obtain ⟨t, e, _⟩ := hx x m
    exact ⟨t, e⟩
  have back : ∀ v ∈ its, backV v ∈ xs := fun v hv => by rw [e1]; exact List.mem_map.mpr ⟨v, hv, rfl⟩
  refine So.sorted_tri (k := fun u => k (backV u)) (g := fun u => g (backV u)) hl.isList (by rw [← rv.length]; exact hz) (fun v hv => ?_) (fun v hv u hu e => hg _ (back v hv) _ (back u hu) e) fun h' d out h1 h2 kp hd hn => ?_
  · obtain ⟨t, rfl⟩ := e2 v hv
    have hm : V.ref t ∈ xs := by rw [e1]; exact List.mem_map.mpr ⟨_, hv, rfl⟩
    obtain ⟨t', e, ht⟩ := hx _ hm
    cases e
    obtain ⟨_, its2, r2, o, ho, hc, n, hd⟩ := I.hok _ _ ht
    obtain ⟨u1, u2, u3, rfl, ri, rj, rk⟩ := So.vals3 r2
    obtain ⟨t1, rfl⟩ := ri
    obtain ⟨t2, rfl⟩ := rj
    obtain ⟨t3, rfl⟩ := rk
    exact ⟨t, o, t1, t2, t3, n, rfl, ho, hc, hd⟩
  · have h3 : ∀ u ∈ out, ∃ a, u = Value.ref a := fun u hu => e2 u (h2.perm.mem_iff.mp hu)
    obtain ⟨n, hn⟩ := hn
    have hb : SrtO.Stb (ltP k) (out.map backV) xs := by
      rw [e1]
      exact SrtO.Stb.map (ltP_swo k) backV h2
    refine ⟨.ref d, upd H d (.lst (out.map backV)), I.laid (t' := s.toks) kp hd ⟨?_, out, n, vals_back h3, hn⟩, rfl, q _ d (SrtO.srtd_map h1) hb.perm (I.hok.fresh hd)⟩
    rw [hb.len]
    exact hz
namespace Dt
open PySem PySem.Spec PyProof.Rows PyProof.V L2 StX
/-! ### {k: v}, the key a tuple -/
def tDisp1T (tk tv : TE) : TE := fun σ H Q => ∀ p, H p = none → tk σ (upd H p (.dT [])) fun y H1 => tv σ H1 fun z H2 => ∃ (k : List Key) (q : Addr), y = .ref q ∧ H2 p = some (.dT []) ∧ H2 q = some (.tup (k.map kV)) ∧ Q (.ref p) (upd H2 p (.dT [(k, z)]))
theorem pe_disp1T {X : Cx} {pos : Pos} {ke ve : Expr} {tk tv : TE} (hu : X.A.units + 64 < cLine) (hk : PE X ke tk) (hv : PE X ve tv) : PE X (.Dict [some ke] [ve] pos) (tDisp1T tk tv) := by
  refine ⟨fun pins s σ H Q I q => ?_⟩
  have hn := I.hok.fresh (Nat.le_refl s.heap.objs.size)
  have I1 := I.laid (a := s.heap.objs.size) (o := .dT []) (h' := s.heap.push { cls := .type "dict", data := .dict #[] }) (t' := s.toks) (fun _ _ q => Heap.get?_push_of_some _ q) (Nat.le_refl _) (dt_empty s.heap I.big)
  have run := (pps_cons (pos := pos) hk hv pps_nil).run pins _ σ _ (fun ps H2 => ∃ y z, ps = [(y, z)] ∧ ∃ (k : List Key) (q : Addr), y = .ref q ∧ H2 s.heap.objs.size = some (.dT []) ∧ H2 q = some (.tup (k.map kV)) ∧ Q (.ref s.heap.objs.size) (upd H2 s.heap.objs.size (.dT [(k, z)]))) I1
    (by
      show tk σ _ _
      have q0 := q _ hn
      show tk σ (upd H s.heap.objs.size (.dT [])) fun x H1 => tv σ H1 fun y H2 => ∃ y' z, [(x, y)] = [(y', z)] ∧ _
      have e : (fun (x : V) (H1 : Hp) => tv σ H1 fun y H2 => ∃ (k : List Key) (q : Addr), x = .ref q ∧ H2 s.heap.objs.size = some (.dT []) ∧ H2 q = some (.tup (k.map kV)) ∧ Q (.ref s.heap.objs.size) (upd H2 s.heap.objs.size (.dT [(k, y)]))) = fun (x : V) (H1 : Hp) => tv σ H1 fun y H2 => ∃ y' z, [(x, y)] = [(y', z)] ∧ ∃ (k : List Key) (q : Addr), y' = .ref q ∧ H2 s.heap.objs.size = some (.dT []) ∧ H2 q = some (.tup (k.map kV)) ∧ Q (.ref s.heap.objs.size) (upd H2 s.heap.objs.size (.dT [(k, z)])) := by
        funext x H1
        congr 1
        funext y H2
        apply propext
        constructor
        · intro h; exact ⟨x, y, rfl, h⟩
        · rintro ⟨y', z, e, h⟩
          cases e; exact h
      rw [← e]; exact q0)
  rw [arm_eval_Dict, zip_pairTrees [some ke] [ve] X.env pos rfl rfl, dictDisplay_pairs (pairTrees [some ke] [ve] X.env pos) (by simp [pairTrees]) (by simp [pairTrees])]
  refine wpAny_bind (wpAny_standAt (wpAny_bind (wpAny_subDictH (knd := tupleKind (mixKind X.prog X.w)) (Q := fun d s' => wpAny (model X.prog X.w) X.A (pure (Value.ref d)) (EP X pins σ Q) X.xe s') (show X.A.units < cLine by omega) (by simp [pairTrees]) (thn run fun vs s1 got => ?_))))
  obtain ⟨ps, H2, I2, rel, y, z, eps, k, q2, ey, at2, tup, fin⟩ := got
  subst eps
  subst ey
  cases rel with
  | cons r rest =>
    cases rest
    rename_i b
    obtain ⟨b1, b2⟩ := b
    obtain ⟨r1, r2⟩ := r
    cases (show b1 = Value.ref q2 from r1)
    obtain ⟨small, apart, cells, pairs, held⟩ := dt_of I2.hok at2
    cases pairs
    refine ⟨[(k, q2, b2)], ⟨rfl, rfl, key_of I2.hok tup, trivial⟩, held, fun h' tk' held' but => wpAny_pure ⟨.ref s.heap.objs.size, _, ?_, rfl, fin⟩⟩
    obtain ⟨u, es, ep, stands, a1, a2, a3, _, a4⟩ := held'
    have nq : q2 ≠ s.heap.objs.size := by rintro rfl; rw [at2] at tup; cases tup
    exact d_write I2 (by rw [at2]; exact True.intro) but ⟨u, stands⟩ ⟨by show 1 ≤ sizeLine; decide, apart, [(k, q2, b2)], .cons ⟨rfl, by rw [upd_ne nq]; exact tup, r2⟩ .nil, u, es, ep, stands, a1, a2, a3, a4⟩
/-! ### d.pop(q), the key there -/
def tDPop1T (td ty : TE) : TE := fun σ H Q => td σ H fun x H1 => ∃ a, x = .ref a ∧ IsD H1 a ∧ ty σ H1 fun y H2 => ∃ (kvs : Tb) (k : List Key) (q : Addr) (v : V), H2 a = some (.dT kvs) ∧ y = .ref q ∧ H2 q = some (.tup (k.map kV)) ∧ valV kvs k = some v ∧ Q v (upd H2 a (.dT (dropK kvs k)))
theorem pe_dpop1T {X : Cx} {o e : Expr} {td ty : TE} {apos cpos : Pos} (hu : X.A.units + 1 < cLine) (ho : PE X o td) (he : PE X e ty) (m : M1 X o "pop" apos e cpos) : PE X (.Call (.Attribute o "pop" apos) [e] [] cpos) (tDPop1T td ty) := by
  refine ⟨fun pins s σ H Q I h => ?_⟩
  refine wpAny_Call_method m.base m.few m.line PySem.F.plainAttrs_dict PySem.F.slot_dict_pop PySem.F.type_dict_pop (thn (ho.run pins s σ H _ I h) fun u s1 ⟨x, H1, I1, rx, a, ex, d, q1⟩ => ?_)
  subst ex
  obtain rfl : u = Value.ref a := rx
  obtain ⟨t1, t2, _⟩ := isD_at I1 d
  refine ⟨t1, t2, ?_⟩
  rw [m.trees]
  refine Calls.callWith_builtin rfl (Calls.evalArgs_plain (Calls.spliced_cons (thn (he.run pins s1 σ H1 _ I1 q1) fun iv s2 ⟨y, H2, I2, ry, kvs, k, q, v, ea, ey, tup, l, q2⟩ => Calls.spliced_nil ?_)))
  subst ey
  cases (show iv = Value.ref q from ry)
  obtain ⟨z, hd, xs, rel, dd⟩ := dt_of I2.hok ea
  have hz : xs.length ≤ sizeLine := by rw [← Paired.length rel]; exact z
  have look := rel.val k
  rw [l] at look
  obtain ⟨p, hp, rv⟩ : ∃ p, atKey xs k = some p ∧ RelV v p.2 := by
    cases ev : atKey xs k with
    | none => rw [ev] at look; exact (show False from look).elim
    | some p => rw [ev] at look; exact ⟨p, rfl, look⟩
  refine PySem.call_pop_heap (hsz := hz) (knd := tupleKind (mixKind X.prog X.w)) (.inl rfl) (PySem.F.args_dict_pop_2 _ _) (tupleKind_room_in1 hu) (key_of I2.hok tup) hd dd hp fun h' dd' hs => ?_
  obtain ⟨o, es, ep, hq, h2, h3, h4, _, h5⟩ := dd'
  have I3 : Inv X pins σ (upd H2 a (.dT (dropK kvs k))) { s2 with heap := h', toks := s2.toks + (tupleKind (mixKind X.prog X.w)).draws k } := d_write I2 (by rw [ea]; exact True.intro) hs ⟨o, hq⟩ ⟨Nat.le_trans (dropK_le kvs k) z, hd, _, (L2.DX.KT_drop k rel).keeps (fun c ys ec => (by rw [upd_ne (ne_of ec ea (fun z => nomatch z))]; exact ec)), o, es, ep, hq, h2, h3, h4, h5⟩
  exact ⟨v, _, I3, rv, q2⟩
/-! ### == and != of two dicts with tuples as keys, the values flat -/
section
variable {prog : Program} {w : World} {Ky : Type} [DecidableEq Ky] {knd : HeapKind prog w Ky} {A : Around} {E : Value → Shared → Prop} {s : Shared}
theorem pairsM {nm : String} {a b : Addr} {xa xb : List (Ky × Addr × Value)} {P : Nat → Bool} {Q : Bool → Shared → Prop} (ha : (a == sysModules) = false) (hb : (b == sysModules) = false) (hu : knd.room A) (da : s.heap.DictOfH knd a xa) (db : s.heap.DictOfH knd b xb)
    (al : ∀ (i : Nat) x, xa[i]? = some x → ((∀ (j : Nat) p, ¬ xb[j]? = some (x.1, p)) ∧ P i = false) ∨ ∃ (j : Nat) (y : Addr × Value), xb[j]? = some (x.1, y) ∧ SeqAt.EqAt A s x.2.2 y.2 (P i)) (l : xa.length ≠ xb.length → Q false s) (q : xa.length = xb.length → (∀ i, i < xa.length → P i = true) → Q true s) (n : ∀ i, i < xa.length → P i = false → Q false s) : wpAny (model prog w) A (Builtin.Dict.samePairs nm a b) Q E s := by
  obtain ⟨oa, es, ep, hoa, _, hda, hes, hia, _⟩ := da
  obtain ⟨ob, fs, fp, hob, _, hdb, hfs, hib, hnb⟩ := db
  have sa := size_of_entries hes
  have sb := size_of_entries hfs
  unfold Builtin.Dict.samePairs Builtin.Dict.showsAll
  rw [if_neg (show ¬ (a == sysModules) = true by rw [ha]; exact Bool.false_ne_true), if_neg (show ¬ (b == sysModules) = true by rw [hb]; exact Bool.false_ne_true)]
  refine wpAny_bind (wpAny_pure (wpAny_bind (wpAny_pure (wpAny_bind (wpAny_dictEntries hoa hda ?_)))))
  dsimp only
  refine wpAny_bind (wpAny_dictEntries hob hdb ?_)
  by_cases hsz : es.size = fs.size
  case neg =>
    rw [if_pos (by simpa using hsz)]
    exact wpAny_bind (wpAny_rule (wpAny_pure (l (by omega))))
  rw [if_neg (by rw [hsz]; simp)]
  refine wpAny_bind (wpAny_dictEpoch hoa hda (wpAny_bind ?_))
  rw [Std.Legacy.Range.forIn_eq_forIn_range']
  simp only [Std.Legacy.Range.size, Nat.sub_zero, Nat.add_sub_cancel, Nat.div_one]
  refine wpAny_forIn_list _ (fun rest r s' => s' = s ∧ r = (none, ()) ∧ ∃ i, rest = List.range' i (es.size - i) ∧ i ≤ es.size ∧ ∀ j, j < i → P j = true) _ ?_ ?_ _ _ ⟨rfl, rfl, 0, by simp, Nat.zero_le _, by simp⟩
  · rintro x rest r s' ⟨rfl, rfl, i, hr, hi, ok⟩
    have lt : i < es.size := by
      rcases Nat.lt_or_ge i es.size with h | h
      · exact h
      · rw [Nat.sub_eq_zero_of_le h] at hr; simp at hr
    rw [show es.size - i = (es.size - (i + 1)) + 1 by omega, List.range'_succ] at hr
    injection hr with h1 h2
    subst h1
    obtain ⟨e, he⟩ : ∃ e, xa[x]? = some e := ⟨_, List.getElem?_eq_getElem (by omega)⟩
    have ge : es[x]? = some (entryOfKey knd e) := by rw [entry_at hes, he]; rfl
    refine wpAny_bind (wpAny_dictEntries hoa hda ?_)
    rw [ge]
    refine wpAny_bind (wpAny_holding (wpAny_bind (wpAny_dictFind_heap hu (hia _ (List.mem_of_getElem? he)) hob hdb hfs hib hnb (fun no => ?_) fun j p hj => ?_)))
    · have hp : P x = false := by
        rcases al x e he with ⟨_, h⟩ | ⟨j, y, hj, _⟩
        · exact h
        · exact (no j y hj).elim
      refine wpAny_pure ?_
      show wpAny _ _ (if (!false) = true then _ else _) _ _ _
      rw [if_pos (by decide)]
      exact wpAny_pure (wpAny_pure (n x (by omega) hp))
    · obtain ⟨ev⟩ : SeqAt.EqAt A s' e.2.2 p.2 (P x) ∧ True := by
        rcases al x e he with ⟨h, _⟩ | ⟨j2, y, hj2, h⟩
        · exact (h j p hj).elim
        · obtain rfl : j = j2 := idxH_unique hnb hj hj2
          rw [hj] at hj2
          have : p = y := by simpa using hj2
          rw [this]; exact ⟨h, trivial⟩
      have gf : fs[j]? = some (entryOfKey knd (e.1, p)) := by rw [entry_at hfs, hj]; rfl
      refine wpAny_bind (wpAny_dictEntries hob hdb ?_)
      rw [gf]
      refine wpAny_holding (ev _ _ _ _ ?_)
      cases hp : P x with
      | false =>
        show wpAny _ _ (if (!false) = true then _ else _) _ _ _
        rw [if_pos (by decide)]
        exact wpAny_pure (wpAny_pure (n x (by omega) hp))
      | true =>
        show wpAny _ _ (if (!true) = true then _ else _) _ _ _
        rw [if_neg (by decide)]
        refine wpAny_bind (wpAny_dictEpoch hoa hda ?_)
        rw [if_neg (by simp)]
        refine wpAny_pure ⟨rfl, rfl, x + 1, h2, lt, fun i hi => ?_⟩
        rcases Nat.lt_or_ge i x with h | h
        · exact ok i h
        · obtain rfl : i = x := by omega
          exact hp
  · rintro r s' ⟨rfl, rfl, i, hr, hi, ok⟩
    refine wpAny_pure (q (by omega) fun j hj => ok j ?_)
    rcases Nat.lt_or_ge i es.size with h | h
    · rw [show es.size - i = (es.size - (i + 1)) + 1 by omega, List.range'_succ] at hr; cases hr
    · omega
end
def eqB (lvs : Tb) (p : List Key × V) : Bool := match valV lvs p.1 with
  | some v => L2.eqV p.2 v
  | none => false
def mapEq (kvs lvs : Tb) : Bool := decide (kvs.length = lvs.length) && kvs.all (eqB lvs)
theorem kt_keys {H : Hp} : ∀ {kvs : Tb} {xa : List (List Key × Addr × Value)}, KT H kvs xa → kvs.map (·.1) = xa.map (·.1)
  | _, _, .nil => rfl
  | _, _, .cons h t => by rw [List.map_cons, List.map_cons, kt_keys t, h.1]
theorem valV_none {kvs : Tb} {k : List Key} (h : ∀ (j : Nat) v, ¬ kvs[j]? = some (k, v)) : valV kvs k = none := by
  induction kvs with
  | nil => rfl
  | cons p r ih =>
    by_cases e : p.1 = k
    · exact (h 0 p.2 (by rw [← e]; rfl)).elim
    · rw [valV_neg e]; exact ih fun j v hj => h (j + 1) v (by simpa using hj)
theorem valV_at {kvs : Tb} {j : Nat} {p : List Key × V} (nd : (kvs.map (·.1)).Nodup) (h : kvs[j]? = some p) : valV kvs p.1 = some p.2 := by
  induction kvs generalizing j with
  | nil => simp at h
  | cons q r ih =>
    rw [List.map_cons, List.nodup_cons] at nd
    cases j with
    | zero =>
      have e : q = p := by simpa using h
      subst e; exact valV_pos rfl
    | succ j =>
      have h' : r[j]? = some p := by simpa using h
      rw [valV_neg (fun e => nd.1 (by rw [e]; exact List.mem_map_of_mem (List.mem_of_getElem? h')))]
      exact ih nd.2 h'
def rCmpM (neg : Bool) : R2 := fun x y H Q => ∃ (a b : Addr) (kvs lvs : Tb), x = .ref a ∧ y = .ref b ∧ Rd H a (.dT kvs) ∧ Rd H b (.dT lvs) ∧ (∀ p ∈ kvs, L2.flatV p.2 = true) ∧ (∀ p ∈ lvs, L2.flatV p.2 = true) ∧ Q (.bl (if neg then !mapEq kvs lvs else mapEq kvs lvs)) H
theorem same_map {X : Cx} {nm : String} {pins : List (Addr × Obj)} {σ : L2.St} {H : Hp} {s : Shared} {a b : Addr} {kvs lvs : Tb} {E : Value → Shared → Prop} {Q : Bool → Shared → Prop} (small : X.A.units + 1 < cLine) (I : Inv X pins σ H s) (ea : Rd H a (.dT kvs)) (eb : Rd H b (.dT lvs)) (fa : ∀ p ∈ kvs, L2.flatV p.2 = true) (fb : ∀ p ∈ lvs, L2.flatV p.2 = true)
    (q : Q (mapEq kvs lvs) s) : wpAny (model X.prog X.w) X.A.in1 (Builtin.Dict.samePairs nm a b) Q E s := by
  obtain ⟨_, na, xa, ra, da⟩ := dt_rd I.hok ea
  obtain ⟨_, nb, xb, rb, db⟩ := dt_rd I.hok eb
  obtain ⟨la, ga⟩ := kt_at ra
  obtain ⟨lb, gb⟩ := kt_at rb
  have kb := kt_keys rb
  have ndb : (lvs.map (·.1)).Nodup := by rw [kb]; obtain ⟨_, _, _, _, _, _, _, _, nd⟩ := db; exact nd
  let P : Nat → Bool := fun i => match kvs[i]? with
    | some p => eqB lvs p
    | none => true
  have hP : ∀ i p, kvs[i]? = some p → P i = eqB lvs p := fun i p h => by show (match kvs[i]? with | some p => eqB lvs p | none => true) = _; rw [h]
  refine pairsM (P := P) na nb (show X.A.in1.units < cLine from small) da db (fun i x hx => ?_) (fun ne => ?_) (fun e all => ?_) fun i hi hp => ?_
  · obtain ⟨p, hp, ek, rp⟩ := ga i x hx
    rw [hP i p hp]
    by_cases c : ∃ (j : Nat) (y : Addr × Value), xb[j]? = some (x.1, y)
    · obtain ⟨j, y, hy⟩ := c
      obtain ⟨r, hr, er, rr⟩ := gb j (x.1, y) hy
      refine .inr ⟨j, y, hy, ?_⟩
      have v := valV_at ndb hr
      have ev : valV lvs p.1 = some r.2 := by rw [ek, ← show r.1 = x.1 from er]; exact v
      unfold eqB
      rw [ev]
      exact eqAt_V rp rr (fa p (List.mem_of_getElem? hp)) (fb r (List.mem_of_getElem? hr))
    · refine .inl ⟨fun j y h => c ⟨j, y, h⟩, ?_⟩
      have ev : valV lvs p.1 = none := valV_none fun j v hj => by
        have lt : j < xb.length := by have := (List.getElem?_eq_some_iff.mp hj).1; omega
        have h1 : (lvs.map (·.1))[j]? = some p.1 := by rw [List.getElem?_map, hj]; rfl
        rw [kb, List.getElem?_map, List.getElem?_eq_getElem lt] at h1
        refine c ⟨j, (xb[j]).2, ?_⟩
        have e1 : (xb[j]).1 = x.1 := by rw [← ek]; simpa using h1
        rw [List.getElem?_eq_getElem lt, ← e1]
      unfold eqB
      rw [ev]
  · have e : mapEq kvs lvs = false := by unfold mapEq; rw [decide_eq_false (by omega)]; rfl
    rwa [e] at q
  · have e2 : mapEq kvs lvs = true := by
      unfold mapEq
      rw [decide_eq_true (by omega), Bool.true_and, List.all_eq_true]
      intro p hp
      obtain ⟨i, hi⟩ := List.getElem?_of_mem hp
      rw [← hP i p hi]
      exact all i (by have := (List.getElem?_eq_some_iff.mp hi).1; omega)
    rwa [e2] at q
  · obtain ⟨p, hp0⟩ : ∃ p, kvs[i]? = some p := ⟨_, List.getElem?_eq_getElem (by omega)⟩
    have e2 : mapEq kvs lvs = false := by
      unfold mapEq
      rw [Bool.and_eq_false_iff]
      right
      rw [List.all_eq_false]
      exact ⟨p, List.mem_of_getElem? hp0, by rw [← hP i p hp0, hp]; decide⟩
    rwa [e2] at q
theorem op_eqM {X : Cx} (small : X.A.units + 1 < cLine) : OpR X (compareOp .Eq) (rCmpM false) := by
  rintro pins s σ H x y v u Q I rx ry ⟨a, b, kvs, lvs, rfl, rfl, ea, eb, fa, fb, q⟩
  cases (show v = Value.ref a from rx)
  cases (show u = Value.ref b from ry)
  obtain ⟨_, _, _, _, da⟩ := dt_rd I.hok ea
  obtain ⟨_, _, _, _, db⟩ := dt_rd I.hok eb
  refine wpAny_richCompare_same_room (op := .Eq) da.typeIs db.typeIs PySem.F.slot_dict_eq (wpAny_call_entry PySem.F.slot_dict_eq da.typeIs PySem.F.entry_dict_eq ?_ (PySem.F.args_dict_eq_2 _ _)) (by omega)
  show wpAny _ _ (Builtin.Dict.dictSlotArgs "__eq__" ⟨[.ref a, .ref b], []⟩ >>= _) _ _ s
  refine wpAny_bind ?_
  unfold Builtin.Dict.dictSlotArgs
  refine wpAny_bind (wpAny_notOrdered_dict da.typeIs ?_)
  show wpAny _ _ (pure (Value.ref a, Value.ref b)) _ _ s
  refine wpAny_pure (wpAny_bind (wpAny_isInstance (T := "dict") db.typeIs PySem.F.sub_dict_dict ?_))
  simp only [Bool.not_true, Bool.false_eq_true, if_false]
  refine wpAny_bind (wpAny_pure (wpAny_bind (wpAny_pure (wpAny_bind (same_map small I ea eb fa fb ?_)))))
  exact wpAny_pure ⟨_, rfl, (fun x => nomatch x), ⟨.bl (mapEq kvs lvs), H, I, (by show Value.bool _ = Value.bool _; cases mapEq kvs lvs <;> rfl), q⟩⟩
theorem op_neM {X : Cx} (small : X.A.units + 1 < cLine) : OpR X (compareOp .NotEq) (rCmpM true) := by
  rintro pins s σ H x y v u Q I rx ry ⟨a, b, kvs, lvs, rfl, rfl, ea, eb, fa, fb, q⟩
  cases (show v = Value.ref a from rx)
  cases (show u = Value.ref b from ry)
  obtain ⟨_, _, _, _, da⟩ := dt_rd I.hok ea
  obtain ⟨_, _, _, _, db⟩ := dt_rd I.hok eb
  refine wpAny_richCompare_same_room (op := .NotEq) da.typeIs db.typeIs PySem.F.slot_dict_ne (wpAny_call_entry PySem.F.slot_dict_ne da.typeIs PySem.F.entry_dict_ne ?_ (PySem.F.args_dict_ne_2 _ _)) (by omega)
  show wpAny _ _ (Builtin.Dict.dictSlotArgs "__ne__" ⟨[.ref a, .ref b], []⟩ >>= _) _ _ s
  refine wpAny_bind ?_
  unfold Builtin.Dict.dictSlotArgs
  refine wpAny_bind (wpAny_notOrdered_dict da.typeIs ?_)
  show wpAny _ _ (pure (Value.ref a, Value.ref b)) _ _ s
  refine wpAny_pure (wpAny_bind (wpAny_isInstance (T := "dict") db.typeIs PySem.F.sub_dict_dict ?_))
  simp only [Bool.not_true, Bool.false_eq_true, if_false]
  refine wpAny_bind (wpAny_pure (wpAny_bind (wpAny_pure (wpAny_bind (same_map small I ea eb fa fb ?_)))))
  exact wpAny_pure ⟨_, rfl, (fun x => nomatch x), ⟨.bl (!mapEq kvs lvs), H, I, (by show Value.bool _ = Value.bool _; cases mapEq kvs lvs <;> rfl), q⟩⟩
/-! ### C(..) in a try: what is raised is wished for at the caller's slots -/
section
variable {X : Cx} {CX : CXT} {C f : Addr} {fd : FuncData} {k : Nat} {sp : Sp} {ps : List Str} {ds : List Value} {dvs : List V} {E : L2.St → XK} {x : Str} {p pos : Pos} {e : Expr} {es : List Expr} {t : TA}
def tMakeSD (C : Addr) (sp : Sp) (dvs : List V) (E : L2.St → XK) (t : TA) : TE := fun σ H Q => t σ H fun vs H1 => ∀ x dx, H1 x = none → H1 dx = none → dx ≠ x → sp (.ref x :: (vs ++ dvs)) (upd (upd H1 dx (.own x)) x (.ins C dx [])) (fun v H2 => v = .non ∧ Q (.ref x) H2) (E σ)
theorem run_makeSD {pins : List (Addr × Obj)} {σ : L2.St} {H : Hp} {s : Shared} {Q : VK} {us : List Value} {vs : List V} (M : Mk X.K C f) (F : FnOk X.prog X.w X.K X.mg X.base CX k f fd ps sp) (hr : Room (k + 1) X.A) (hb : Binds X.K fd ps ds) (hd : L2.Vals dvs ds)
    (hx : PassesAt CX X σ (E σ)) (I : Inv X pins σ H s) (r : L2.Vals vs us)
    (h : ∀ x dx, H x = none → H dx = none → dx ≠ x → sp (.ref x :: (vs ++ dvs)) (upd (upd H dx (.own x)) x (.ins C dx [])) (fun v H2 => v = .non ∧ Q (.ref x) H2) (E σ)) :
    wpAny (model X.prog X.w) X.A (call (.ref C) us) (EP X pins σ Q) X.xe s := by
  have hq := h (s.heap.objs.size + 1) s.heap.objs.size (I.hok.fresh (Nat.le_succ _)) (I.hok.fresh (Nat.le_refl _)) (Nat.ne_of_lt (Nat.lt_succ_self _))
  have I2 := Inv.made (C := C) I
  have r2 : L2.Vals (V.ref (s.heap.objs.size + 1) :: (vs ++ dvs)) (Value.ref (s.heap.objs.size + 1) :: (us ++ ds)) := .cons rfl (r.append hd)
  have hl : (Value.ref (s.heap.objs.size + 1) :: us ++ ds).length = ps.length := by
    have e := r2.length
    rw [F.len _ _ _ _ hq] at e
    exact e.symm
  refine wpAny_call (make_map (f := f) I.kIn M.makes M.init (beq_iff_eq.mp M.fn) (codeAny_mono (F.run _ X.stack _ _ ⟨Value.ref (s.heap.objs.size + 1) :: us, []⟩ (Value.ref (s.heap.objs.size + 1) :: (us ++ ds)) _ _ (E σ) (hr.make C us [])
    (I2.env0.make C us []) (hb _ (Value.ref (s.heap.objs.size + 1) :: us) I2.kIn hl) r2 hq) fun r s' hq' => ?_))
  cases r with
  | error e => exact hx pins _ _ e s' I2 hq'
  | ok fl =>
    cases fl with
    | ret u =>
      obtain ⟨v, H', I3, rv, ev, q3⟩ := I2.after hq'
      subst ev
      exact ⟨rv, ⟨V.ref (s.heap.objs.size + 1), H', I3, rfl, q3⟩⟩
    | next => exact False.elim hq'
    | brk => exact False.elim hq'
    | cont => exact False.elim hq'
theorem pe_makeSD (M : Mk X.K C f) (F : FnOk X.prog X.w X.K X.mg X.base CX k f fd ps sp) (hr : Room (k + 1) X.A) (hg : Gl X x) (hm : X.mg x = some (.ref C)) (hb : Binds X.K fd ps ds) (hd : L2.Vals dvs ds) (hx : ∀ σ, PassesAt CX X σ (E σ))
    (ha : PA X (e :: es) t) (hdb : (x == ("__debug__" : Str)) = false := by decide) (he : starEach (e :: es) X.env = (false, eval e X.env) :: starEach es X.env := by rfl) (hpl : (backTo pos (starEach es X.env)).any (·.1) = false := by rfl) :
    PE X (.Call (.Name x p) (e :: es) [] pos) (tMakeSD C sp dvs E t) := by
  refine ⟨fun pins s σ H Q I h => ?_⟩
  refine wpAny_Call_Name_kw (ld_glob I hg hm ?_ hdb)
  refine PySem.W.callWith_K (h₀ := X.base) I.ok.mod.kin M.kp (thn (ha.run pos pins s σ H _ I h) fun us s1 ⟨vs, H1, I1, r, q⟩ => ⟨I1.kIn, ?_⟩) he hpl
  exact run_makeSD M F hr hb hd (hx σ) I1 r q
end
end Dt
abbrev PG : Program := PySem.Challenge.pw_metehouse_k39_tables_made_and_stopped
def topS (i : Nat) : Stmt := PySem.Challenge.pw_metehouse_k39_tables_made_and_stopped.main.body.getD i (.Pass ⟨0, 0, 0, 0⟩)
abbrev s_counts_met : Stmt := topS 8
theorem sc_counts_met : FnScope ["limit", "marks", "found", "now", "_", "ahead", "reached", "missed"] ["limit", "marks"] (defScope s_counts_met) := ⟨rfl, rfl, rfl, by decide +kernel, rfl, by decide +kernel, by decide +kernel⟩
abbrev s_Table___init : Stmt := inClass (topS 10) 0
theorem sc_Table___init : FnScope ["self", "limit", "ends", "reached", "missed", "word", "count"] ["self", "limit", "ends"] (defScope s_Table___init) := ⟨rfl, rfl, rfl, by decide +kernel, rfl, by decide +kernel, by decide +kernel⟩
abbrev s_Table_ends : Stmt := inClass (topS 10) 2
theorem sc_Table_ends : FnScope ["self", "count", "word"] ["self"] (defScope s_Table_ends) := ⟨rfl, rfl, rfl, by decide +kernel, rfl, by decide +kernel, by decide +kernel⟩
abbrev s_Table_word_after : Stmt := inClass (topS 10) 3
theorem sc_Table_word_after : FnScope ["self", "tries", "reached", "missed", "one"] ["self", "tries"] (defScope s_Table_word_after) := ⟨rfl, rfl, rfl, by decide +kernel, rfl, by decide +kernel, by decide +kernel⟩
abbrev s_Table_stops : Stmt := inClass (topS 10) 4
theorem sc_Table_stops : FnScope ["self", "met", "count"] ["self"] (defScope s_Table_stops) := ⟨rfl, rfl, rfl, by decide +kernel, rfl, by decide +kernel, by decide +kernel⟩
abbrev s_Table___eq : Stmt := inClass (topS 10) 8
theorem sc_Table___eq : FnScope ["self", "other"] ["self", "other"] (defScope s_Table___eq) := ⟨rfl, rfl, rfl, by decide +kernel, rfl, by decide +kernel, by decide +kernel⟩
abbrev s_w_box : Stmt := topS 12
theorem sc_w_box : FnScope ["_law_script", "_law_place"] ["_law_script", "_law_place"] (defScope s_w_box) := ⟨rfl, rfl, rfl, by decide +kernel, rfl, by decide +kernel, by decide +kernel⟩
abbrev s_w_take : Stmt := topS 13
theorem sc_w_take : FnScope ["_law_box_here", "_law_size", "_law_digit", "_law_one", "_law_two"] ["_law_box_here", "_law_size"] (defScope s_w_take) := ⟨rfl, rfl, rfl, by decide +kernel, rfl, by decide +kernel, by decide +kernel⟩
abbrev s_w_is_integer : Stmt := topS 14
theorem sc_w_is_integer : FnScope ["_law_value"] ["_law_value"] (defScope s_w_is_integer) := ⟨rfl, rfl, rfl, by decide +kernel, rfl, by decide +kernel, by decide +kernel⟩
abbrev s_w_copy : Stmt := topS 15
theorem sc_w_copy : FnScope ["_law_ends", "_law_made", "_law_count"] ["_law_ends"] (defScope s_w_copy) := ⟨rfl, rfl, rfl, by decide +kernel, rfl, by decide +kernel, by decide +kernel⟩
abbrev s_w_turned : Stmt := topS 16
theorem sc_w_turned : FnScope ["_law_ends", "_law_turned_here", "_law_counts", "_law_made", "_law_count"] ["_law_ends", "_law_turned_here"] (defScope s_w_turned) := ⟨rfl, rfl, rfl, by decide +kernel, rfl, by decide +kernel, by decide +kernel⟩
abbrev s_w_limit : Stmt := topS 17
theorem sc_w_limit : FnScope ["_law_box_here"] ["_law_box_here"] (defScope s_w_limit) := ⟨rfl, rfl, rfl, by decide +kernel, rfl, by decide +kernel, by decide +kernel⟩
abbrev s_w_word : Stmt := topS 18
theorem sc_w_word : FnScope ["_law_box_here"] ["_law_box_here"] (defScope s_w_word) := ⟨rfl, rfl, rfl, by decide +kernel, rfl, by decide +kernel, by decide +kernel⟩
abbrev s_w_entries : Stmt := topS 19
theorem sc_w_entries : FnScope ["_law_box_here", "_law_limit_here", "_law_most", "_law_size", "_law_ends", "_law_k", "_law_word_here", "_law_total", "_law_reached"] ["_law_box_here", "_law_limit_here"] (defScope s_w_entries) := ⟨rfl, rfl, rfl, by decide +kernel, rfl, by decide +kernel, by decide +kernel⟩
abbrev s_w_step : Stmt := topS 20
theorem sc_w_step : FnScope ["_law_met_here", "_law_found", "_law_count", "_law_letter", "_law_after", "_law_paths_here", "_law_old"] ["_law_met_here", "_law_found", "_law_count"] (defScope s_w_step) := ⟨rfl, rfl, rfl, by decide +kernel, rfl, by decide +kernel, by decide +kernel⟩
abbrev s_w_met : Stmt := topS 21
theorem sc_w_met : FnScope ["_law_limit_here", "_law_ends", "_law_met_here", "_law_level", "_law_size", "_law_found", "_law_count"] ["_law_limit_here", "_law_ends"] (defScope s_w_met) := ⟨rfl, rfl, rfl, by decide +kernel, rfl, by decide +kernel, by decide +kernel⟩
abbrev s_w_filled : Stmt := topS 22
theorem sc_w_filled : FnScope ["_law_box_here", "_law_limit_here", "_law_ends", "_law_full", "_law_count"] ["_law_box_here", "_law_limit_here", "_law_ends"] (defScope s_w_filled) := ⟨rfl, rfl, rfl, by decide +kernel, rfl, by decide +kernel, by decide +kernel⟩
abbrev s_w_fault : Stmt := topS 23
theorem sc_w_fault : FnScope ["_law_limit_here", "_law_ends", "_law_count"] ["_law_limit_here", "_law_ends"] (defScope s_w_fault) := ⟨rfl, rfl, rfl, by decide +kernel, rfl, by decide +kernel, by decide +kernel⟩
abbrev s_w_flags : Stmt := topS 24
theorem sc_w_flags : FnScope ["_law_box_here", "_law_way", "_law_k"] ["_law_box_here"] (defScope s_w_flags) := ⟨rfl, rfl, rfl, by decide +kernel, rfl, by decide +kernel, by decide +kernel⟩
abbrev s_w_bad_limit : Stmt := topS 25
theorem sc_w_bad_limit : FnScope ["_law_box_here", "_law_limit_here", "_law_flag", "_law_way", "_law_far"] ["_law_box_here", "_law_limit_here", "_law_flag"] (defScope s_w_bad_limit) := ⟨rfl, rfl, rfl, by decide +kernel, rfl, by decide +kernel, by decide +kernel⟩
abbrev s_w_bad_count : Stmt := topS 26
theorem sc_w_bad_count : FnScope ["_law_box_here", "_law_limit_here", "_law_way", "_law_far"] ["_law_box_here", "_law_limit_here"] (defScope s_w_bad_count) := ⟨rfl, rfl, rfl, by decide +kernel, rfl, by decide +kernel, by decide +kernel⟩
abbrev s_w_bad_ends : Stmt := topS 27
theorem sc_w_bad_ends : FnScope ["_law_box_here", "_law_limit_here", "_law_ends", "_law_flags_here", "_law_bad", "_law_last", "_law_count", "_law_counts", "_law_wrong_count"] ["_law_box_here", "_law_limit_here", "_law_ends", "_law_flags_here"] (defScope s_w_bad_ends) := ⟨rfl, rfl, rfl, by decide +kernel, rfl, by decide +kernel, by decide +kernel⟩
abbrev s_w_creation : Stmt := topS 28
theorem sc_w_creation : FnScope ["_law_limit_here", "_law_ends", "_law_table", "e"] ["_law_limit_here", "_law_ends"] (defScope s_w_creation) := ⟨rfl, rfl, rfl, by decide +kernel, rfl, by decide +kernel, by decide +kernel⟩
abbrev s_w_refuses : Stmt := topS 29
theorem sc_w_refuses : FnScope ["_law_box_here", "_law_limit_here", "_law_ends", "_law_flags_here", "_law_bad", "_law_bad_limit_here", "_law_fault_here", "_law_due_here", "_law_handed"] ["_law_box_here", "_law_limit_here", "_law_ends"] (defScope s_w_refuses) := ⟨rfl, rfl, rfl, by decide +kernel, rfl, by decide +kernel, by decide +kernel⟩
abbrev s_w_due : Stmt := topS 30
theorem sc_w_due : FnScope ["_law_ends", "_law_tries", "_law_reached", "_law_missed", "_law_word_here", "_law_letter"] ["_law_ends", "_law_tries"] (defScope s_w_due) := ⟨rfl, rfl, rfl, by decide +kernel, rfl, by decide +kernel, by decide +kernel⟩
abbrev s_w_answer : Stmt := topS 31
theorem sc_w_answer : FnScope ["_law_table", "_law_tries", "e"] ["_law_table", "_law_tries"] (defScope s_w_answer) := ⟨rfl, rfl, rfl, by decide +kernel, rfl, by decide +kernel, by decide +kernel⟩
abbrev s_w_paths : Stmt := topS 32
theorem sc_w_paths : FnScope ["_law_limit_here", "_law_ends", "_law_paths_here", "_law_met_here", "_law_count", "_law_path"] ["_law_limit_here", "_law_ends"] (defScope s_w_paths) := ⟨rfl, rfl, rfl, by decide +kernel, rfl, by decide +kernel, by decide +kernel⟩
abbrev s_w_strings : Stmt := topS 33
theorem sc_w_strings : FnScope ["_law_box_here", "_law_limit_here", "_law_strings_here", "_law_k", "_law_letters", "_law_j", "_law_odd", "_law_place"] ["_law_box_here", "_law_limit_here"] (defScope s_w_strings) := ⟨rfl, rfl, rfl, by decide +kernel, rfl, by decide +kernel, by decide +kernel⟩
abbrev s_w_dict_right : Stmt := topS 34
theorem sc_w_dict_right : FnScope ["_law_told", "_law_ends", "_law_count"] ["_law_told", "_law_ends"] (defScope s_w_dict_right) := ⟨rfl, rfl, rfl, by decide +kernel, rfl, by decide +kernel, by decide +kernel⟩
abbrev s_w_list_right : Stmt := topS 35
theorem sc_w_list_right : FnScope ["_law_told", "_law_due_here", "_law_stop"] ["_law_told", "_law_due_here"] (defScope s_w_list_right) := ⟨rfl, rfl, rfl, by decide +kernel, rfl, by decide +kernel, by decide +kernel⟩
abbrev s_w_tells : Stmt := topS 36
theorem sc_w_tells : FnScope ["_law_table", "_law_limit_here", "_law_ends", "_law_met_here", "_law_due_here", "_law_count", "_law_first_ends", "_law_second_ends", "_law_first_stops", "_law_second_stops"] ["_law_table", "_law_limit_here", "_law_ends"] (defScope s_w_tells) := ⟨rfl, rfl, rfl, by decide +kernel, rfl, by decide +kernel, by decide +kernel⟩
abbrev s_w_keeps : Stmt := topS 37
theorem sc_w_keeps : FnScope ["_law_table", "_law_limit_here", "_law_ends", "_law_strings_here", "_law_tries"] ["_law_table", "_law_limit_here", "_law_ends", "_law_strings_here"] (defScope s_w_keeps) := ⟨rfl, rfl, rfl, by decide +kernel, rfl, by decide +kernel, by decide +kernel⟩
abbrev s_w_changed : Stmt := topS 38
theorem sc_w_changed : FnScope ["_law_box_here", "_law_limit_here", "_law_ends", "_law_total", "_law_reached", "_law_count", "_law_changed_here", "_law_words"] ["_law_box_here", "_law_limit_here", "_law_ends"] (defScope s_w_changed) := ⟨rfl, rfl, rfl, by decide +kernel, rfl, by decide +kernel, by decide +kernel⟩
abbrev s_w_makes : Stmt := topS 39
theorem sc_w_makes : FnScope ["_law_box_here", "_law_limit_here", "_law_ends", "_law_strings_here", "_law_turned_here", "_law_handed", "_law_table", "_law_changed_here", "_law_other", "_law_twin", "_law_wider"] ["_law_box_here", "_law_limit_here", "_law_ends"] (defScope s_w_makes) := ⟨rfl, rfl, rfl, by decide +kernel, rfl, by decide +kernel, by decide +kernel⟩
abbrev s_law : Stmt := topS 40
theorem sc_law : FnScope ["_law_script", "_law_box_here", "_law_limit_here", "_law_ends"] ["_law_script"] (defScope s_law) := ⟨rfl, rfl, rfl, by decide +kernel, rfl, by decide +kernel, by decide +kernel⟩
abbrev s_BadTable_init : Stmt := inClass (topS 3) 0
theorem sh_BadTable {w : World} : Er.Sh1 PG w s_BadTable_init "fault" := by
  refine ⟨⟨_, _, _, _, _, _, _, _, _, _, _, rfl, fun q L fI cda cc m v A E s Q hm hv hn k => ?_, fun q L fI cda cc => ⟨rfl, rfl, rfl, rfl, rfl⟩⟩, ⟨_, rfl, rfl⟩, rfl, rfl, rfl, rfl, by decide, by decide, rfl, rfl, rfl, by decide +kernel, fun s x v qual doc pm an cda cc ct => .of_eq rfl⟩
  exact Er.tx_joined (.cons (Er.tx_const (by decide)) (.cons (Er.tx_plain hm hv rfl rfl) .nil)) (by decide) hn k
abbrev s_BadTries_init : Stmt := inClass (topS 4) 0
theorem sh_BadTries {w : World} : Er.Sh1 PG w s_BadTries_init "tries" := by
  refine ⟨⟨_, _, _, _, _, _, _, _, _, _, _, rfl, fun q L fI cda cc m v A E s Q hm hv hn k => ?_, fun q L fI cda cc => ⟨rfl, rfl, rfl, rfl, rfl⟩⟩, ⟨_, rfl, rfl⟩, rfl, rfl, rfl, rfl, by decide, by decide, rfl, rfl, rfl, by decide +kernel, fun s x v qual doc pm an cda cc ct => .of_eq rfl⟩
  exact Er.tx_joined (.cons (Er.tx_repr hm hv rfl rfl) (.cons (Er.tx_const (by decide)) .nil)) (by decide) hn k
/-- what the top has written -/
structure Tx (K : PySem.W.Frag) (mg : Str → Option Value) : Type where
  f_counts_met : Addr
  fd_counts_met : FuncData
  F_counts_met : Fun K "counts_met" "counts_met" s_counts_met f_counts_met fd_counts_met
  g_counts_met : mg "counts_met" = some (.ref f_counts_met)
  b_counts_met : Binds K fd_counts_met ["limit", "marks"] []
  f_Table___init : Addr
  fd_Table___init : FuncData
  F_Table___init : Fun K "__init__" "Table.__init__" s_Table___init f_Table___init fd_Table___init
  b_Table___init : Binds K fd_Table___init ["self", "limit", "ends"] []
  f_Table_ends : Addr
  fd_Table_ends : FuncData
  F_Table_ends : Fun K "ends" "Table.ends" s_Table_ends f_Table_ends fd_Table_ends
  b_Table_ends : Binds K fd_Table_ends ["self"] []
  f_Table_word_after : Addr
  fd_Table_word_after : FuncData
  F_Table_word_after : Fun K "word_after" "Table.word_after" s_Table_word_after f_Table_word_after fd_Table_word_after
  b_Table_word_after : Binds K fd_Table_word_after ["self", "tries"] []
  f_Table_stops : Addr
  fd_Table_stops : FuncData
  F_Table_stops : Fun K "stops" "Table.stops" s_Table_stops f_Table_stops fd_Table_stops
  b_Table_stops : Binds K fd_Table_stops ["self"] []
  f_Table___eq : Addr
  fd_Table___eq : FuncData
  F_Table___eq : Fun K "__eq__" "Table.__eq__" s_Table___eq f_Table___eq fd_Table___eq
  b_Table___eq : Binds K fd_Table___eq ["self", "other"] []
  f_w_box : Addr
  fd_w_box : FuncData
  F_w_box : Fun K "_law_box" "_law_box" s_w_box f_w_box fd_w_box
  g_w_box : mg "_law_box" = some (.ref f_w_box)
  b_w_box : Binds K fd_w_box ["_law_script", "_law_place"] []
  f_w_take : Addr
  fd_w_take : FuncData
  F_w_take : Fun K "_law_take" "_law_take" s_w_take f_w_take fd_w_take
  g_w_take : mg "_law_take" = some (.ref f_w_take)
  b_w_take : Binds K fd_w_take ["_law_box_here", "_law_size"] []
  f_w_is_integer : Addr
  fd_w_is_integer : FuncData
  F_w_is_integer : Fun K "_law_is_integer" "_law_is_integer" s_w_is_integer f_w_is_integer fd_w_is_integer
  g_w_is_integer : mg "_law_is_integer" = some (.ref f_w_is_integer)
  b_w_is_integer : Binds K fd_w_is_integer ["_law_value"] []
  f_w_copy : Addr
  fd_w_copy : FuncData
  F_w_copy : Fun K "_law_copy" "_law_copy" s_w_copy f_w_copy fd_w_copy
  g_w_copy : mg "_law_copy" = some (.ref f_w_copy)
  b_w_copy : Binds K fd_w_copy ["_law_ends"] []
  f_w_turned : Addr
  fd_w_turned : FuncData
  F_w_turned : Fun K "_law_turned" "_law_turned" s_w_turned f_w_turned fd_w_turned
  g_w_turned : mg "_law_turned" = some (.ref f_w_turned)
  b_w_turned : Binds K fd_w_turned ["_law_ends", "_law_turned_here"] []
  f_w_limit : Addr
  fd_w_limit : FuncData
  F_w_limit : Fun K "_law_limit" "_law_limit" s_w_limit f_w_limit fd_w_limit
  g_w_limit : mg "_law_limit" = some (.ref f_w_limit)
  b_w_limit : Binds K fd_w_limit ["_law_box_here"] []
  f_w_word : Addr
  fd_w_word : FuncData
  F_w_word : Fun K "_law_word" "_law_word" s_w_word f_w_word fd_w_word
  g_w_word : mg "_law_word" = some (.ref f_w_word)
  b_w_word : Binds K fd_w_word ["_law_box_here"] []
  f_w_entries : Addr
  fd_w_entries : FuncData
  F_w_entries : Fun K "_law_entries" "_law_entries" s_w_entries f_w_entries fd_w_entries
  g_w_entries : mg "_law_entries" = some (.ref f_w_entries)
  b_w_entries : Binds K fd_w_entries ["_law_box_here", "_law_limit_here"] []
  f_w_step : Addr
  fd_w_step : FuncData
  F_w_step : Fun K "_law_step" "_law_step" s_w_step f_w_step fd_w_step
  g_w_step : mg "_law_step" = some (.ref f_w_step)
  b_w_step : Binds K fd_w_step ["_law_met_here", "_law_found", "_law_count"] []
  f_w_met : Addr
  fd_w_met : FuncData
  F_w_met : Fun K "_law_met" "_law_met" s_w_met f_w_met fd_w_met
  g_w_met : mg "_law_met" = some (.ref f_w_met)
  b_w_met : Binds K fd_w_met ["_law_limit_here", "_law_ends"] []
  f_w_filled : Addr
  fd_w_filled : FuncData
  F_w_filled : Fun K "_law_filled" "_law_filled" s_w_filled f_w_filled fd_w_filled
  g_w_filled : mg "_law_filled" = some (.ref f_w_filled)
  b_w_filled : Binds K fd_w_filled ["_law_box_here", "_law_limit_here", "_law_ends"] []
  f_w_fault : Addr
  fd_w_fault : FuncData
  F_w_fault : Fun K "_law_fault" "_law_fault" s_w_fault f_w_fault fd_w_fault
  g_w_fault : mg "_law_fault" = some (.ref f_w_fault)
  b_w_fault : Binds K fd_w_fault ["_law_limit_here", "_law_ends"] []
  f_w_flags : Addr
  fd_w_flags : FuncData
  F_w_flags : Fun K "_law_flags" "_law_flags" s_w_flags f_w_flags fd_w_flags
  g_w_flags : mg "_law_flags" = some (.ref f_w_flags)
  b_w_flags : Binds K fd_w_flags ["_law_box_here"] []
  f_w_bad_limit : Addr
  fd_w_bad_limit : FuncData
  F_w_bad_limit : Fun K "_law_bad_limit" "_law_bad_limit" s_w_bad_limit f_w_bad_limit fd_w_bad_limit
  g_w_bad_limit : mg "_law_bad_limit" = some (.ref f_w_bad_limit)
  b_w_bad_limit : Binds K fd_w_bad_limit ["_law_box_here", "_law_limit_here", "_law_flag"] []
  f_w_bad_count : Addr
  fd_w_bad_count : FuncData
  F_w_bad_count : Fun K "_law_bad_count" "_law_bad_count" s_w_bad_count f_w_bad_count fd_w_bad_count
  g_w_bad_count : mg "_law_bad_count" = some (.ref f_w_bad_count)
  b_w_bad_count : Binds K fd_w_bad_count ["_law_box_here", "_law_limit_here"] []
  f_w_bad_ends : Addr
  fd_w_bad_ends : FuncData
  F_w_bad_ends : Fun K "_law_bad_ends" "_law_bad_ends" s_w_bad_ends f_w_bad_ends fd_w_bad_ends
  g_w_bad_ends : mg "_law_bad_ends" = some (.ref f_w_bad_ends)
  b_w_bad_ends : Binds K fd_w_bad_ends ["_law_box_here", "_law_limit_here", "_law_ends", "_law_flags_here"] []
  f_w_creation : Addr
  fd_w_creation : FuncData
  F_w_creation : Fun K "_law_creation" "_law_creation" s_w_creation f_w_creation fd_w_creation
  g_w_creation : mg "_law_creation" = some (.ref f_w_creation)
  b_w_creation : Binds K fd_w_creation ["_law_limit_here", "_law_ends"] []
  f_w_refuses : Addr
  fd_w_refuses : FuncData
  F_w_refuses : Fun K "_law_refuses" "_law_refuses" s_w_refuses f_w_refuses fd_w_refuses
  g_w_refuses : mg "_law_refuses" = some (.ref f_w_refuses)
  b_w_refuses : Binds K fd_w_refuses ["_law_box_here", "_law_limit_here", "_law_ends"] []
  f_w_due : Addr
  fd_w_due : FuncData
  F_w_due : Fun K "_law_due" "_law_due" s_w_due f_w_due fd_w_due
  g_w_due : mg "_law_due" = some (.ref f_w_due)
  b_w_due : Binds K fd_w_due ["_law_ends", "_law_tries"] []
  f_w_answer : Addr
  fd_w_answer : FuncData
  F_w_answer : Fun K "_law_answer" "_law_answer" s_w_answer f_w_answer fd_w_answer
  g_w_answer : mg "_law_answer" = some (.ref f_w_answer)
  b_w_answer : Binds K fd_w_answer ["_law_table", "_law_tries"] []
  f_w_paths : Addr
  fd_w_paths : FuncData
  F_w_paths : Fun K "_law_paths" "_law_paths" s_w_paths f_w_paths fd_w_paths
  g_w_paths : mg "_law_paths" = some (.ref f_w_paths)
  b_w_paths : Binds K fd_w_paths ["_law_limit_here", "_law_ends"] []
  f_w_strings : Addr
  fd_w_strings : FuncData
  F_w_strings : Fun K "_law_strings" "_law_strings" s_w_strings f_w_strings fd_w_strings
  g_w_strings : mg "_law_strings" = some (.ref f_w_strings)
  b_w_strings : Binds K fd_w_strings ["_law_box_here", "_law_limit_here"] []
  f_w_dict_right : Addr
  fd_w_dict_right : FuncData
  F_w_dict_right : Fun K "_law_dict_right" "_law_dict_right" s_w_dict_right f_w_dict_right fd_w_dict_right
  g_w_dict_right : mg "_law_dict_right" = some (.ref f_w_dict_right)
  b_w_dict_right : Binds K fd_w_dict_right ["_law_told", "_law_ends"] []
  f_w_list_right : Addr
  fd_w_list_right : FuncData
  F_w_list_right : Fun K "_law_list_right" "_law_list_right" s_w_list_right f_w_list_right fd_w_list_right
  g_w_list_right : mg "_law_list_right" = some (.ref f_w_list_right)
  b_w_list_right : Binds K fd_w_list_right ["_law_told", "_law_due_here"] []
  f_w_tells : Addr
  fd_w_tells : FuncData
  F_w_tells : Fun K "_law_tells" "_law_tells" s_w_tells f_w_tells fd_w_tells
  g_w_tells : mg "_law_tells" = some (.ref f_w_tells)
  b_w_tells : Binds K fd_w_tells ["_law_table", "_law_limit_here", "_law_ends"] []
  f_w_keeps : Addr
  fd_w_keeps : FuncData
  F_w_keeps : Fun K "_law_keeps" "_law_keeps" s_w_keeps f_w_keeps fd_w_keeps
  g_w_keeps : mg "_law_keeps" = some (.ref f_w_keeps)
  b_w_keeps : Binds K fd_w_keeps ["_law_table", "_law_limit_here", "_law_ends", "_law_strings_here"] []
  f_w_changed : Addr
  fd_w_changed : FuncData
  F_w_changed : Fun K "_law_changed" "_law_changed" s_w_changed f_w_changed fd_w_changed
  g_w_changed : mg "_law_changed" = some (.ref f_w_changed)
  b_w_changed : Binds K fd_w_changed ["_law_box_here", "_law_limit_here", "_law_ends"] []
  f_w_makes : Addr
  fd_w_makes : FuncData
  F_w_makes : Fun K "_law_makes" "_law_makes" s_w_makes f_w_makes fd_w_makes
  g_w_makes : mg "_law_makes" = some (.ref f_w_makes)
  b_w_makes : Binds K fd_w_makes ["_law_box_here", "_law_limit_here", "_law_ends"] []
  f_law : Addr
  fd_law : FuncData
  F_law : Fun K "law" "law" s_law f_law fd_law
  g_law : mg "law" = some (.ref f_law)
  b_law : Binds K fd_law ["_law_script"] []
  C_Table : Addr
  gC_Table : mg "Table" = some (.ref C_Table)
  oc_Table : Ow.OC K C_Table
  ne_Table : PySem.W.findIn K (.ref C_Table) "__ne__" = some (some (.builtin "object.__ne__"))
  na_Table_limit : NoAttr K C_Table "limit"
  na_Table_marks : NoAttr K C_Table "marks"
  mk_Table : Mk K C_Table f_Table___init
  me_Table_ends : Meth K C_Table "ends" f_Table_ends
  me_Table_word_after : Meth K C_Table "word_after" f_Table_word_after
  me_Table_stops : Meth K C_Table "stops" f_Table_stops
  me_Table___eq : Meth K C_Table "__eq__" f_Table___eq
  si_Table : PySem.W.subIn K (.ref C_Table) (.type "int") = some false
  is_Table : PySem.W.subIn K (.type "int") (.ref C_Table) = some false
  C_BadTable : Addr
  gC_BadTable : mg "BadTable" = some (.ref C_BadTable)
  C_BadTries : Addr
  gC_BadTries : mg "BadTries" = some (.ref C_BadTries)
  C_MeteError : Addr
  gC_MeteError : mg "MeteError" = some (.ref C_MeteError)
  Z_BadTable : ∀ w, Er.Cls1 PG w K mg "BadTable" "fault" C_BadTable
  X_BadTable : ExcC K C_BadTable
  xf_BadTable : XfC K C_BadTable
  Z_BadTries : ∀ w, Er.Cls1 PG w K mg "BadTries" "tries" C_BadTries
  X_BadTries : ExcC K C_BadTries
  xf_BadTries : XfC K C_BadTries
  kit_BadTable_BadTries : PySem.W.kitOne K (.ref C_BadTable) (.ref C_BadTries) = some false
  kit_BadTable_MeteError : PySem.W.kitOne K (.ref C_BadTable) (.ref C_MeteError) = some true
  kit_BadTable_ValueError : PySem.W.kitOne K (.ref C_BadTable) (.type "ValueError") = some true
  kit_BadTries_BadTable : PySem.W.kitOne K (.ref C_BadTries) (.ref C_BadTable) = some false
  kit_BadTries_MeteError : PySem.W.kitOne K (.ref C_BadTries) (.ref C_MeteError) = some true
  kit_BadTries_ValueError : PySem.W.kitOne K (.ref C_BadTries) (.type "ValueError") = some true
  exm_BadTable_BadTable : PySem.W.exmOne K (.ref C_BadTable) (.ref C_BadTable) = some true
  exm_BadTries_BadTries : PySem.W.exmOne K (.ref C_BadTries) (.ref C_BadTries) = some true
  m_len : mg "len" = none
  m_range : mg "range" = none
  m_isinstance : mg "isinstance" = none
  m_int : mg "int" = none
  m_bool : mg "bool" = none
  m_list : mg "list" = none
  m_tuple : mg "tuple" = none
  m_dict : mg "dict" = none
  m_min : mg "min" = none
  m_sum : mg "sum" = none
  m_sorted : mg "sorted" = none
  m_ValueError : mg "ValueError" = none
  c_MOST_TRIES : ∃ t, mg "MOST_TRIES" = some (.int (12) t)
  a_WORDS : Addr
  c_WORDS : mg "WORDS" = some (.ref a_WORDS)
  t_WORDS : SqTK K a_WORDS [V.str "reached", V.str "missed", V.str "unsure"]
local macro_rules | `(tactic| walk_at "st") => `(tactic| first
  | (with_reducible refine r_seq ?_)
  | (with_reducible refine r_asg ?_)
  | (with_reducible refine r_ifS ?_)
  | (with_reducible refine r_ret ?_)
  | (with_reducible refine r_next ?_)
  | (with_reducible refine r_drop ?_)
  | (with_reducible refine r_retN ?_)
  | (with_reducible refine r_cont ?_)
  | (with_reducible refine r_break ?_)
  | (with_reducible refine r_op ?_)
  | (with_reducible refine r_un ?_)
  | ((with_reducible refine' r_var ?h1 ?_); (case h1 => exact rfl))
  | (with_reducible refine r_c ?_)
  | (with_reducible refine r_I0 ?_)
  | (with_reducible refine r_eqI ?_)
  | (with_reducible refine r_neI ?_)
  | (with_reducible refine r_eqS ?_)
  | (with_reducible refine r_neS ?_)
  | (with_reducible refine r_eqB ?_)
  | (with_reducible refine r_neB ?_)
  | (with_reducible refine r_U ?_)
  | (with_reducible refine r_test ?_)
  | (with_reducible refine r_tB ?_)
  | (with_reducible refine r_bl ?_)
  | (with_reducible refine r_and ?_)
  | (with_reducible refine r_or ?_)
  | (with_reducible refine r_not ?_)
  | (with_reducible refine r_andV ?_)
  | (with_reducible refine r_orV ?_)
  | (with_reducible refine r_notV ?_)
  | (with_reducible refine r_if ?_)
  | (with_reducible refine r_chain ?_)
  | (with_reducible refine r_gName0 ?_)
  | (with_reducible refine r_gName1 ?_)
  | (with_reducible refine r_gName2 ?_)
  | (with_reducible refine r_gName3 ?_)
  | (with_reducible refine r_gName4 ?_)
  | (with_reducible refine r_gName5 ?_)
  | (with_reducible refine r_gName6 ?_)
  | (with_reducible refine r_gName7 ?_)
  | (with_reducible refine r_gName8 ?_)
  | (with_reducible refine r_gName9 ?_)
  | (with_reducible refine r_gName10 ?_)
  | (with_reducible refine r_gName11 ?_)
  | (with_reducible refine r_gName12 ?_)
  | (with_reducible refine r_gName13 ?_)
  | (with_reducible refine r_gName14 ?_)
  | (with_reducible refine r_gName15 ?_)
  | (with_reducible refine r_gName16 ?_)
  | (with_reducible refine r_gName17 ?_)
  | (with_reducible refine r_gName18 ?_)
  | (with_reducible refine r_gName19 ?_)
  | (with_reducible refine r_cb ?_)
  | (with_reducible refine r_cons ?_)
  | (with_reducible refine r_nil ?_)
  | ((with_reducible refine r_call ?_); try simp only [List.cons_append, List.nil_append])
  | ((with_reducible refine r_callSD ?_); try simp only [List.cons_append, List.nil_append])
  | (with_reducible refine r_gSub ?_)
  | (with_reducible refine r_sl ?_)
  | (with_reducible refine r_lst ?_)
  | (with_reducible refine r_tup ?_)
  | (with_reducible refine r_int1 ?_)
  | (with_reducible refine r_intB ?_)
  | ((with_reducible refine r_in1 ?_); try simp only [abs_if])
  | ((with_reducible refine r_in2 ?_); try simp only [max_if])
  | (with_reducible refine r_forR1 ?_)
  | (with_reducible refine r_forR2 ?_)
  | (with_reducible refine r_forL ?_)
  | (with_reducible refine r_forT ?_)
  | (with_reducible refine r_lcR1 ?_)
  | (with_reducible refine r_lcL ?_)
  | (with_reducible refine r_lcT ?_)
  | (with_reducible refine r_yes ?_)
  | (with_reducible refine r_tPart ?_)
  | (with_reducible refine r_noPart ?_)
  | (with_reducible refine r_exI ?_)
  | (with_reducible refine r_par ?_)
  | (with_reducible refine Er.r_raise1 ?_)
  | (with_reducible refine r_isN ?_)
  | (with_reducible refine r_isI ?_)
  | (with_reducible refine r_isR ?_)
  | (with_reducible refine r_isS ?_)
  | (with_reducible refine r_noN ?_)
  | (with_reducible refine r_noI ?_)
  | (with_reducible refine r_noR ?_)
  | (with_reducible refine r_noS ?_)
  | (with_reducible refine r_isB ?_)
  | (with_reducible refine r_noB ?_)
  | (with_reducible refine r_iteTT ?_)
  | (with_reducible refine r_iteFF ?_)
  | (with_reducible refine Er.r_xf ?_)
  | (with_reducible refine r_bm ?_)
  | ((with_reducible refine' r_tyL ?h1 ?_); (case h1 => walk_at "sq"))
  | ((with_reducible refine' r_app ?h1 ?h2 ?_); (case h1 => walk_at "hp"); (case h2 => exact lt_size (by simp only [List.length_map, List.length_append, List.length_cons, List.length_nil]; omega)))
  | (with_reducible refine r_exP ?_)
  | (with_reducible refine r_iteT rfl ?_)
  | (with_reducible refine r_iteNF rfl ?_)
  | ((with_reducible refine' r_ixL ?h1 ?h2 ?_); (case h1 => walk_at "sq"); (case h2 => walk_at "at"))
  | ((with_reducible refine' r_ixT ?h1 ?h2 ?_); (case h1 => walk_at "sq"); (case h2 => walk_at "at"))
  | (with_reducible refine r_lenL (sqL_of (by assumption)) ?_)
  | (with_reducible refine r_lenT (sqT_of (by assumption)) ?_)
  | ((with_reducible refine' r_lenL ?h1 ?_); (case h1 => walk_at "sq"))
  | ((with_reducible refine' r_lenT ?h1 ?_); (case h1 => walk_at "sq"))
  | ((with_reducible refine' r_setP0 ?h1 ?_); (case h1 => walk_at "hp"); try simp only [upd_upd])
  | ((with_reducible refine' r_setP1 ?h1 ?_); (case h1 => walk_at "hp"); try simp only [upd_upd])
  | ((with_reducible refine' r_setP2 ?h1 ?_); (case h1 => walk_at "hp"); try simp only [upd_upd])
  | ((with_reducible refine' r_setP3 ?h1 ?_); (case h1 => walk_at "hp"); try simp only [upd_upd])
  | ((with_reducible refine' r_setL ?h1 ?h2 ?_); (case h1 => walk_at "hp"); (case h2 => walk_at "ix"))
  | ((with_reducible refine r_I ?h1 ?_); (case h1 => walk_at "side"); try simp only [Int.reduceToNat, Int.reducePow])
  | ((with_reducible refine r_iteT ?h1 ?_); (case h1 => walk_at "dec"))
  | ((with_reducible refine r_iteF ?h1 ?_); (case h1 => walk_at "dec"))
  | ((with_reducible refine r_iteNT ?h1 ?_); (case h1 => walk_at "dec"))
  | ((with_reducible refine r_iteNF ?h1 ?_); (case h1 => walk_at "dec"))
  | ((with_reducible refine' r_gNameW ?h1 ?_); (case h1 => (simp only [L2.wipe, List.map_cons, List.map_nil, List.set_cons_zero, List.set_cons_succ]; try exact rfl)))
  | ((with_reducible refine r_wipe ?h1 ?_); (case h1 => rfl))
  | (with_reducible refine iteT ?_)
  | (with_reducible refine r_iteNT1 ?_)
  | (with_reducible refine r_iteNF1 ?_)
  | (with_reducible refine r_gcd ?_)
  | ((with_reducible refine' r_isi ?h1 ?h2 ?_); (case h1 => first | exact .base (.int _) | exact .base (.bl _) | exact .base (.str _) | exact .base .non | exact .base (.tup (by walk_at "hp")) | exact .base (.lst (by walk_at "hp")) | exact .base (.dK (by walk_at "hp"))); (case h2 => first | (with_reducible exact kit_ii) | (with_reducible exact kit_ib) | (with_reducible exact kit_tt) | (with_reducible exact kit_ss) | (with_reducible exact kit_ll) | (with_reducible exact kit_bb) | (with_reducible exact kit_bi) | (with_reducible exact kit_dd) | (with_reducible exact kit_nt) | (with_reducible exact kit_ni) | (with_reducible exact kit_is) | (with_reducible exact kit_si) | (with_reducible exact kit_it)))
  | (with_reducible refine iteF ?_)
  | ((with_reducible refine And.intro ?h1 ?_); (case h1 => exact le_size (by simp only [List.length_cons, List.length_nil]; omega)))
  | (with_reducible refine r_nxE ?_)
  | (with_reducible refine r_bkE ?_)
  | (with_reducible refine r_ctE ?_)
  | (with_reducible refine r_rtE ?_))
local macro_rules | `(tactic| walk_at "sts") => `(tactic| repeat walk_at "st")
local macro_rules | `(tactic| walk_at "hp") => `(tactic| first | assumption | exact upd_same | (rw [upd_ne (by walk_at "ne")]; walk_at "hp") | exact Keep.out (by assumption) (by walk_at "nin") (by walk_at "hp"))
local macro_rules | `(tactic| walk_at "nin") => `(tactic| (simp only [List.mem_cons, List.not_mem_nil, or_false, not_false_eq_true]; first | done | walk_at "ne"))
local macro_rules | `(tactic| walk_at "ne") => `(tactic| first | assumption | (apply Ne.symm; assumption) | exact ne_free (by assumption) (by assumption) | exact (ne_free (by assumption) (by assumption)).symm)
local macro_rules | `(tactic| walk_at "sq") => `(tactic| first | assumption | exact sqL_of (by walk_at "hp") | exact sqT_of (by walk_at "hp") | exact Keep.l (by assumption) (by walk_at "nin") (by walk_at "sq") | exact Keep.t (by assumption) (by walk_at "nin") (by walk_at "sq"))
local macro_rules | `(tactic| walk_at "at") => `(tactic| first
  | exact atI_nat (j := 0) rfl | exact atI_nat (j := 1) rfl | exact atI_nat (j := 2) rfl | exact atI_nat (j := 3) rfl | exact atI_nat (j := 4) rfl | exact atI_nat (j := 5) rfl
  | (refine atI_map ?_ ?_ <;> omega) | assumption)
local macro_rules | `(tactic| walk_at "ix") => `(tactic| first | exact ixN_of (by decide) (by simp; omega) | exact ixN_of (by omega) (by simp; omega))
local macro_rules | `(tactic| walk_at "side") => `(tactic| first | omega | decide | exact .inl (by omega) | exact .inr (by omega) | exact ⟨by omega, by omega⟩ | exact .inl (.inl (by omega)) | exact .inl (.inr (by omega)) | (exact ⟨by decide, by decide, by decide⟩) | (exact ⟨by omega, by decide⟩))
local macro_rules | `(tactic| walk_at "start") => `(tactic| simp only [start_cc, start_cn, start_nn, cxOf_K])
local macro_rules | `(tactic| walk_at "dec") => `(tactic| first | omega | (simp only [List.length_cons, List.length_nil, List.length_map, List.length_append]; omega))
local macro_rules | `(tactic| walk_at "st") => `(tactic| first
  | (with_reducible refine Ow.r_fld ?_)
  | ((with_reducible refine' Ow.r_fldAt ?h1 ?h2 ?h3 ?h4 ?_); (case h1 => walk_at "hp"); (case h2 => exact Ow.OC.cl (by assumption)); (case h3 => assumption); (case h4 => rfl))
  | (with_reducible refine Ow.r_len_str ?_))
local macro_rules | `(tactic| walk_at "st") => `(tactic| first
  | (with_reducible refine r_inSg ?_)
  | (with_reducible refine r_ninSg ?_)
  | (with_reducible refine r_dnew ?_)
  | (with_reducible refine r_dget ?_)
  | (with_reducible refine r_dget2 ?_)
  | (with_reducible refine r_dput ?_)
  | (with_reducible refine r_din ?_)
  | (with_reducible refine r_dnin ?_)
  | (with_reducible refine r_strS ?_)
  | (with_reducible refine r_lcS ?_)
  | ((with_reducible refine' r_isD ?h1 ?_); (case h1 => walk_at "hp"))
  | ((with_reducible refine' r_dgetO ?h1 ?_); (case h1 => walk_at "hp"))
  | ((with_reducible refine' r_gTup2 ?h1 ?_); (case h1 => walk_at "sq"); try simp only [List.set_cons_zero, List.set_cons_succ]))
local macro_rules | `(tactic| walk_at "st") => `(tactic| first
  | (with_reducible refine r_js ?_)
  | (with_reducible refine r_js0 ?_)
  | (with_reducible refine r_fmt ?_))
local macro_rules | `(tactic| walk_at "st") => `(tactic| first
  | (with_reducible refine Ow.r_sfld ?_)
  | ((with_reducible refine' Ow.r_sfldAt ?h1 ?h2 ?h3 ?h4 ?_); (case h1 => walk_at "hp"); (case h2 => exact Ow.OC.cl (by assumption)); (case h3 => assumption); (case h4 => (simp only [List.length_cons, List.length_nil]; omega)))
  | ((with_reducible refine Ow.r_make ?_); try simp only [List.cons_append, List.nil_append])
  | ((with_reducible refine Ow.r_meth ?_); skip)
  | ((with_reducible refine' Ow.r_methAt ?h1 ?h2 ?_); (case h1 => walk_at "hp"); (case h2 => rfl); try simp only [List.cons_append, List.nil_append]))
/-! ### dicts of counts -/
abbrev Ct := Int × Int
def ck (c : Ct) : List Key := [.inl c.1, .inl c.2]
theorem ck_inj {a b : Ct} : ck a = ck b ↔ a = b := by
  constructor
  · intro h
    simp only [ck, List.cons.injEq, Sum.inl.injEq, and_true] at h
    exact Prod.ext h.1 h.2
  · rintro rfl; rfl
section
variable {α : Type} {f : α → V} {m : List (Ct × α)} {c d : Ct} {x : α}
def kvG (f : α → V) (m : List (Ct × α)) : Dt.Tb := m.map fun p => (ck p.1, f p.2)
def getA (m : List (Ct × α)) (c : Ct) : Option α := (m.find? fun p => decide (p.1 = c)).map (·.2)
def putA (m : List (Ct × α)) (c : Ct) (x : α) : List (Ct × α) := if (m.any fun p => decide (p.1 = c)) = true then m.map (fun p => if p.1 = c then (p.1, x) else p) else m ++ [(c, x)]
def hasA (m : List (Ct × α)) (c : Ct) : Bool := (getA m c).isSome
theorem getA_nil : getA ([] : List (Ct × α)) c = none := rfl
theorem getA_cons {p : Ct × α} : getA (p :: m) c = if p.1 = c then some p.2 else getA m c := by
  unfold getA
  by_cases h : p.1 = c
  · rw [List.find?_cons_of_pos (by simpa using h), if_pos h]; rfl
  · rw [List.find?_cons_of_neg (by simpa using h), if_neg h]
theorem val_kvG : valV (kvG f m) (ck c) = (getA m c).map f := by
  induction m with
  | nil => rfl
  | cons p m ih =>
    rw [getA_cons]
    show valV ((ck p.1, f p.2) :: kvG f m) (ck c) = _
    by_cases h : p.1 = c
    · rw [valV_pos (by rw [h]), if_pos h]; rfl
    · rw [valV_neg (fun e => h (ck_inj.mp e)), if_neg h, ih]
theorem any_iff : (m.any fun p => decide (p.1 = c)) = true ↔ c ∈ m.map (·.1) := by
  rw [List.any_eq_true]
  constructor
  · rintro ⟨p, hp, e⟩; exact List.mem_map.mpr ⟨p, hp, of_decide_eq_true e⟩
  · intro h; obtain ⟨p, hp, e⟩ := List.mem_map.mp h; exact ⟨p, hp, decide_eq_true e⟩
theorem put_kvG : putK (kvG f m) (ck c) (f x) = kvG f (putA m c x) := by
  have e : ((kvG f m).any fun kv => decide (kv.1 = ck c)) = m.any fun p => decide (p.1 = c) := by
    unfold kvG
    rw [List.any_map]
    congr 1; funext p; simp [ck_inj]
  unfold putK putA
  rw [e]
  split
  · unfold kvG
    rw [List.map_map, List.map_map]
    apply List.map_congr_left
    intro p hp
    simp only [Function.comp, ck_inj]
    split
    · rfl
    · rfl
  · unfold kvG; rw [List.map_append]; rfl
theorem len_kvG : (kvG f m).length = m.length := by unfold kvG; rw [List.length_map]
theorem hasA_iff : hasA m c = true ↔ c ∈ m.map (·.1) := by
  unfold hasA
  induction m with
  | nil => simp [getA_nil]
  | cons p m ih =>
    rw [getA_cons]
    by_cases h : p.1 = c
    · rw [if_pos h]; simp [h]
    · rw [if_neg h, ih, List.map_cons, List.mem_cons]
      exact ⟨.inr, fun g => g.elim (fun e => (h e.symm).elim) id⟩
theorem putA_keys : (putA m c x).map (·.1) = if c ∈ m.map (·.1) then m.map (·.1) else m.map (·.1) ++ [c] := by
  unfold putA
  by_cases h : c ∈ m.map (·.1)
  · rw [if_pos (any_iff.mpr h), if_pos h, List.map_map]
    apply List.map_congr_left
    intro p _
    simp only [Function.comp]
    split <;> rfl
  · rw [if_neg (fun e => h (any_iff.mp e)), if_neg h, List.map_append]; rfl
theorem getA_app {m' : List (Ct × α)} : getA (m ++ m') c = (getA m c).or (getA m' c) := by
  induction m with
  | nil => simp [getA_nil]
  | cons p m ih =>
    rw [List.cons_append, getA_cons, getA_cons, ih]
    split <;> rfl
theorem getA_map (m : List (Ct × α)) (c d : Ct) (x : α) : getA (m.map fun p => if p.1 = c then (p.1, x) else p) d = if d = c then (getA m c).map (fun _ => x) else getA m d := by
  induction m with
  | nil => split <;> rfl
  | cons p m ih =>
    rw [List.map_cons, getA_cons, getA_cons (p := p) (c := c), getA_cons (p := p) (c := d), ih]
    by_cases e : p.1 = c
    · simp only [e, if_true]
      by_cases g : c = d
      · subst g; simp
      · rw [if_neg g, if_neg (fun z => g z.symm), if_neg (fun z => g z.symm)]
        rw [if_neg g]
    · simp only [if_neg e]
      by_cases g : p.1 = d
      · rw [if_pos g, if_pos g, if_neg (fun z => e (g.trans z))]
      · rw [if_neg g, if_neg g]
theorem getA_putA : getA (putA m c x) d = if d = c then some x else getA m d := by
  unfold putA
  by_cases h : c ∈ m.map (·.1)
  · rw [if_pos (any_iff.mpr h), getA_map]
    have : (getA m c).isSome = true := hasA_iff.mpr h
    cases e : getA m c with
    | none => rw [e] at this; cases this
    | some y => rfl
  · rw [if_neg (fun e => h (any_iff.mp e)), getA_app, getA_cons, getA_nil]
    by_cases g : d = c
    · subst g
      have none' : getA m d = none := by
        cases e : getA m d with
        | none => rfl
        | some y => exact (h (hasA_iff.mp (by unfold hasA; rw [e]; rfl))).elim
      rw [none']; simp
    · rw [if_neg g, if_neg (fun z => g z.symm)]
      cases getA m d <;> rfl
theorem putA_nodup (h : (m.map (·.1)).Nodup) : ((putA m c x).map (·.1)).Nodup := by
  rw [putA_keys]; split
  · exact h
  · rename_i n
    exact List.nodup_append.mpr ⟨h, by simp, fun a ha b hb e => n (by rw [← List.mem_singleton.mp hb, ← e]; exact ha)⟩
theorem putA_len : (putA m c x).length ≤ m.length + 1 := by
  unfold putA; split
  · simp
  · simp
theorem getA_mem (h : (m.map (·.1)).Nodup) {p : Ct × α} (hp : p ∈ m) : getA m p.1 = some p.2 := by
  induction m with
  | nil => simp at hp
  | cons q m ih =>
    rw [List.map_cons, List.nodup_cons] at h
    rw [getA_cons]
    rcases List.mem_cons.mp hp with e | hp
    · subst e; rw [if_pos rfl]
    · rw [if_neg (fun z => h.1 (by rw [z]; exact List.mem_map_of_mem hp)), ih h.2 hp]
theorem mem_getA {y : α} (h : getA m c = some y) : (c, y) ∈ m := by
  induction m with
  | nil => rw [getA_nil] at h; cases h
  | cons q m ih =>
    rw [getA_cons] at h
    by_cases e : q.1 = c
    · rw [if_pos e] at h; cases h; subst e; simp
    · rw [if_neg e] at h; exact List.mem_cons_of_mem _ (ih h)
end
abbrev Ends := List (Ct × Str)
def EndsAt (H : Hp) (d : Addr) (m : Ends) : Prop := H d = some (.dT (kvG V.str m))
def cHO (c : Ct) : HO := .tup [.int c.1, .int c.2]
/-- a list of counts -/
def CtsAt (H : Hp) (q : Addr) (cs : List Ct) : Prop := ∃ as : List Addr, H q = some (.lst (as.map V.ref)) ∧ AllAt cHO H as cs
def kvB (cs : List Ct) : Dt.Tb := cs.map fun c => (ck c, V.bl true)
theorem put_kvB {cs : List Ct} {c : Ct} : putK (kvB cs) (ck c) (V.bl true) = kvB (Tab.addC cs c) := by
  have e : ((kvB cs).any fun kv => decide (kv.1 = ck c)) = true ↔ c ∈ cs := by
    unfold kvB
    rw [List.any_map, List.any_eq_true]
    constructor
    · rintro ⟨x, hx, h⟩
      have : ck x = ck c := of_decide_eq_true h
      rw [ck_inj] at this; subst this; exact hx
    · intro h; exact ⟨c, h, decide_eq_true rfl⟩
  unfold putK Tab.addC
  by_cases h : c ∈ cs
  · rw [if_pos (e.mpr h), if_pos h]
    unfold kvB
    rw [List.map_map]
    apply List.map_congr_left
    intro x _
    simp only [Function.comp]
    split <;> rfl
  · rw [if_neg (fun g => h (e.mp g)), if_neg h]
    unfold kvB; rw [List.map_append]; rfl
theorem keys_kvB {H : Hp} : ∀ {cs : List Ct} {bs : List Addr}, IsKeys H (kvB cs) bs → AllAt cHO H bs cs
  | [], bs, h => by cases h; trivial
  | c :: cs, bs, h => by
    cases h with
    | cons a b => exact ⟨a, keys_kvB b⟩
theorem stepC_len {M : Ct → Bool} {cs : List Ct} {c : Ct} : (Tab.stepC M cs c).length ≤ cs.length + 2 := by
  unfold Tab.stepC Tab.addC
  split
  · omega
  · split <;> split <;> simp
theorem foldC_len {M : Ct → Bool} : ∀ {now cs : List Ct}, (now.foldl (Tab.stepC M) cs).length ≤ cs.length + 2 * now.length
  | [], cs => by simp
  | c :: now, cs => by
    rw [List.foldl_cons]
    have := foldC_len (M := M) (now := now) (cs := Tab.stepC M cs c)
    have := stepC_len (M := M) (cs := cs) (c := c)
    simp only [List.length_cons]; omega
theorem levC_len {M : Ct → Bool} : ∀ {k : Nat}, (Tab.levC M k).length ≤ 2 ^ k
  | 0 => by simp [Tab.levC]
  | k + 1 => by
    unfold Tab.levC Tab.nextC
    have := foldC_len (M := M) (now := Tab.levC M k) (cs := [])
    have := levC_len (M := M) (k := k)
    simp only [List.length_nil] at *
    rw [Nat.pow_succ]; omega
theorem metC_len {M : Ct → Bool} : ∀ {k : Nat}, (Tab.metC M k).length < 2 ^ (k + 1)
  | 0 => by simp [Tab.metC]
  | k + 1 => by
    unfold Tab.metC
    rw [List.length_append]
    have := metC_len (M := M) (k := k)
    have := levC_len (M := M) (k := k + 1)
    rw [Nat.pow_succ 2 (k + 1)]; omega
theorem AllAt.perm {α : Type} {f : α → HO} {H : Hp} : ∀ {as bs : List Addr}, as.Perm bs → ∀ {xs : List α}, AllAt f H as xs → ∃ ys : List α, ys.Perm xs ∧ AllAt f H bs ys := by
  intro as bs p
  induction p with
  | nil => intro xs h; exact ⟨xs, .refl _, h⟩
  | cons a p ih =>
    intro xs h
    match xs, h with
    | x :: xs, h =>
      obtain ⟨ys, hy, g⟩ := ih h.2
      exact ⟨x :: ys, hy.cons x, h.1, g⟩
  | swap a b l =>
    intro xs h
    match xs, h with
    | x :: y :: xs, h => exact ⟨y :: x :: xs, .swap x y xs, h.2.1, h.1, h.2.2⟩
  | trans p q ih1 ih2 =>
    intro xs h
    obtain ⟨ys, hy, g⟩ := ih1 h
    obtain ⟨zs, hz, g2⟩ := ih2 g
    exact ⟨zs, hz.trans hy, g2⟩
/-- before, by the first number, then by the second -/
def Lx (a b : Ct) : Prop := a.1 < b.1 ∨ (a.1 = b.1 ∧ a.2 < b.2)
theorem metC_nodup {M : Ct → Bool} : ∀ {k : Nat}, (Tab.metC M k).Nodup
  | 0 => by simp [Tab.metC]
  | k + 1 => by
    unfold Tab.metC
    refine List.nodup_append.mpr ⟨metC_nodup, Tab.nodup_levC, fun a ha b hb e => ?_⟩
    obtain ⟨j, hj, mt⟩ := Tab.mem_metC.mp ha
    have m2 := Tab.mem_levC.mp hb
    have h1 := mt.sum.1
    have h2 := m2.sum.1
    rw [e] at h1; omega
/-- the numbers of a pair that stands in the heap -/
def kOf (H : Hp) : V → Int × Int
  | .ref b => match H b with
    | some (.tup (.int i :: .int j :: _)) => (i, j)
    | _ => (0, 0)
  | _ => (0, 0)
theorem kOf_c {H : Hp} {b : Addr} {c : Ct} (h : H b = some (cHO c)) : kOf H (.ref b) = c := by
  unfold kOf; simp only [h]; rfl
theorem lx_of {H : Hp} : ∀ {bs : List Addr} {cs : List Ct}, AllAt cHO H bs cs → cs.Nodup → SrtO.Srtd (ltP (kOf H)) (bs.map V.ref) → cs.Pairwise Lx
  | [], [], _, _, _ => .nil
  | b :: bs, c :: cs, h, n, s => by
    have n2 := List.nodup_cons.mp n
    have s2 := List.pairwise_cons.mp s
    refine List.pairwise_cons.mpr ⟨fun d hd => ?_, lx_of h.2 n2.2 s2.2⟩
    obtain ⟨i, hi⟩ := List.getElem?_of_mem hd
    have le := h.2.len
    obtain ⟨e, he⟩ : ∃ e, bs[i]? = some e := ⟨_, List.getElem?_eq_getElem (by have := (List.getElem?_eq_some_iff.mp hi).1; omega)⟩
    obtain ⟨d', hd', ed⟩ := h.2.get he
    have ed2 : d' = d := by rw [hi] at hd'; exact (Option.some.inj hd').symm
    subst ed2
    have q := s2.1 (.ref e) (List.mem_map_of_mem (List.mem_of_getElem? he))
    have q2 : SrtO.lexB (kOf H (.ref e)) (kOf H (.ref b)) = false := q
    rw [kOf_c ed, kOf_c h.1] at q2
    have q3 := SrtO.lexB_no.mp q2
    have ne : ¬ (c.1 = d'.1 ∧ c.2 = d'.2) := fun z => n2.1 (by rw [show c = d' from Prod.ext z.1 z.2]; exact hd)
    unfold Lx
    omega
  | [], _ :: _, h, _, _ => h.elim
  | _ :: _, [], h, _, _ => h.elim
theorem Lx.irrefl {a : Ct} (h : Lx a a) : False := by unfold Lx at h; omega
theorem lx_ext {α : Type} {f : α → Ct} : ∀ {xs ys : List α}, xs.Pairwise (fun a b => Lx (f a) (f b)) → ys.Pairwise (fun a b => Lx (f a) (f b)) → (∀ x, x ∈ xs ↔ x ∈ ys) → xs = ys
  | [], [], _, _, _ => rfl
  | [], y :: _, _, _, h => by have := (h y).mpr (by simp); simp at this
  | x :: _, [], _, _, h => by have := (h x).mp (by simp); simp at this
  | x :: xs, y :: ys, px, py, h => by
    obtain ⟨hx, px'⟩ := List.pairwise_cons.mp px
    obtain ⟨hy, py'⟩ := List.pairwise_cons.mp py
    have e : x = y := by
      rcases List.mem_cons.mp ((h x).mp (by simp)) with e | e
      · exact e
      · rcases List.mem_cons.mp ((h y).mpr (by simp)) with e2 | e2
        · exact e2.symm
        · have a := hx y e2
          have b := hy x e
          exfalso; unfold Lx at a b; omega
    subst e
    congr 1
    refine lx_ext px' py' fun z => ?_
    constructor
    · intro hz
      rcases List.mem_cons.mp ((h z).mp (List.mem_cons_of_mem _ hz)) with e | e
      · subst e; exact (Lx.irrefl (hx _ hz)).elim
      · exact e
    · intro hz
      rcases List.mem_cons.mp ((h z).mpr (List.mem_cons_of_mem _ hz)) with e | e
      · subst e; exact (Lx.irrefl (hy _ hz)).elim
      · exact e
def spCounts : Sp := fun vs H Q _ => ∃ (d : Addr) (n : Nat) (m : Ends), vs = [.int n, .ref d] ∧ n ≤ 12 ∧ EndsAt H d m ∧ ∀ (q : Addr) (cs : List Ct) (H' : Hp), Keep [] H H' → H q = none → CtsAt H' q cs → cs.Perm (Tab.metC (hasA m) n) → cs.Pairwise Lx → Q (.ref q) H'
/-! ### counts_met -/
theorem getRef {as : List Addr} {i : Nat} {x : V} (h : (as.map V.ref)[i]? = some x) : ∃ a, as[i]? = some a ∧ x = .ref a := by
  rw [List.getElem?_map] at h
  obtain ⟨a, ha, rfl⟩ := Option.map_eq_some_iff.mp h
  exact ⟨a, ha, rfl⟩
theorem take_snoc {α : Type} {xs : List α} {i : Nat} {x : α} (h : xs[i]? = some x) : xs.take (i + 1) = xs.take i ++ [x] := by rw [List.take_add_one, h]; rfl
/-- `in` a dict of counts -/
theorem r_dinT {α : Type} {f : α → V} {m : List (Ct × α)} {g : Bool → Bool} {p q : Addr} {c : Ct} {H : Hp} {Q : VK} (h : H p = some (.dT (kvG f m))) (hq : H q = some (cHO c)) (k : Q (.bl (g (hasA m c))) H) : rDInB g (.ref q) (.ref p) H Q :=
  ⟨p, _, rfl, DGet.t (k := ck c) h hq, by rw [val_kvG, Option.isSome_map]; exact k⟩
theorem r_dputT {kvs : Dt.Tb} {p q : Addr} {c : Ct} {v : V} {H : Hp} {Q : Hp → Prop} (h : H p = some (.dT kvs)) (hq : H q = some (cHO c)) (hl : kvs.length < sizeLine) (k : Q (upd H p (.dT (putK kvs (ck c) v)))) : rDPut (.ref p) (.ref q) v H Q := ⟨p, _, rfl, DPut.t (k := ck c) h hq hl, k⟩
theorem r_dnewT {σ : L2.St} {H : Hp} {Q : VK} (k : ∀ p, H p = none → Q (.ref p) (upd H p (.dT []))) : tDNewT σ H Q := k
theorem cts_upd {H : Hp} {p : Addr} {o : HO} {as : List Addr} {cs : List Ct} (h : AllAt cHO H as cs) (n : ∀ xs, H p ≠ some (.tup xs)) : AllAt cHO (upd H p o) as cs := h.mono fun a c _ _ e => by
  rw [upd_ne (by rintro rfl; exact n _ e)]; exact e
def unV : V → Addr
  | .ref a => a
  | _ => 0
theorem refs_perm {ys : List V} {fa : List Addr} (h : ys.Perm (fa.map V.ref)) : ∃ bs : List Addr, bs.Perm fa ∧ ys = bs.map V.ref := by
  refine ⟨ys.map unV, ?_, ?_⟩
  · have := h.map unV
    rw [List.map_map] at this
    have e : fa.map (unV ∘ V.ref) = fa := by conv => rhs; rw [← List.map_id fa]
                                             rfl
    rwa [e] at this
  · rw [List.map_map]
    conv => lhs; rw [← List.map_id ys]
    apply List.map_congr_left
    intro y hy
    obtain ⟨a, _, rfl⟩ := List.mem_map.mp (h.mem_iff.mp hy)
    rfl
section
variable {P : Program} {w : World} {K : PySem.W.Frag} {mg : Str → Option Value} {base : Heap}
theorem ok_counts (T : Tx K mg) : FnOk P w K mg base CX0 1 T.f_counts_met T.fd_counts_met ["limit", "marks"] spCounts := by
  refine T.F_counts_met.ok sc_counts_met (fun vs H Q E h => ?_) (fun cdv A outer s H vs Q E hr h => ?_)
  · obtain ⟨d, n, m, rfl, _⟩ := h; rfl
  · obtain ⟨d, n, m, rfl, hn, ed, qq⟩ := h
    refine ⟨_, (pss_cons (ps_set (i := 2) sc_counts_met.nd rfl (Or.inl rfl) (pe_lst (pa_cons (pe_tup (pa_cons pe_int (pa_cons pe_int pa_nil))) pa_nil)))
    (pss_cons (ps_set (i := 3) sc_counts_met.nd rfl (Or.inl rfl) (pe_lst (pa_cons (pe_tup (pa_cons pe_int (pa_cons pe_int pa_nil))) pa_nil)))
    (pss_cons (ps_for PassesOwn.never rfl (pi_range1 rfl T.m_range (pa_cons (pv 0) pa_nil)) (pg_name (i := 4) sc_counts_met.nd rfl (Or.inl rfl))
    (pss_cons (ps_set (i := 5) sc_counts_met.nd rfl (Or.inl rfl) pe_dnewT)
    (pss_cons (ps_for PassesOwn.never rfl (pi_list (pv 3)) (pg_tup (n := 2) rfl (pgs_cons (pg_name (i := 6) sc_counts_met.nd rfl (Or.inl rfl)) (pgs_cons (pg_name (i := 7) sc_counts_met.nd rfl (Or.inl rfl)) pgs_nil)))
    (pss_one (ps_if (pt_cmp (pc_dnotin (hu_of hr) (pe_tup (pa_cons (pv 6) (pa_cons (pv 7) pa_nil))) (pv 1)))
    (pss_cons (ps_dput (hu_of hr) (pv 5) (pe_tup (pa_cons (pe_op op_add (pv 6) pe_int) (pa_cons (pv 7) pa_nil))) pe_bl rfl)
    (pss_one (ps_dput (hu_of hr) (pv 5) (pe_tup (pa_cons (pv 6) (pa_cons (pe_op op_add (pv 7) pe_int) pa_nil))) pe_bl rfl)))
    pss_nil)))
    (pss_cons (ps_set (i := 3) sc_counts_met.nd rfl (Or.inl rfl) (pe_callTy (call_list_dT rfl) (by rfl) T.m_list (by decide +kernel) (pa_cons (pv 5) pa_nil)))
    (pss_one (ps_expr (pe_bm PySem.F.plainAttrs_list PySem.F.slot_list_extend PySem.F.type_list_extend mt_extend (pv 2) (pa_cons (pv 3) pa_nil))))))))
    (pss_one (ps_ret (pe_callB cr_sortedPO (by rfl) T.m_sorted (by decide +kernel) (pa_cons (pv 2) pa_nil))))))), ?_⟩
    walk_at "start"
    walk_at "sts"
    intro t0 ht0
    have k1 : Keep [] H (upd H t0 (.tup [.int 0, .int 0])) := Keep.new ht0
    have et0 : upd H t0 (.tup [.int 0, .int 0]) t0 = some (cHO (0, 0)) := upd_same
    generalize upd H t0 (.tup [.int 0, .int 0]) = H1 at k1 et0 ⊢
    walk_at "sts"
    intro l hl
    have k2 : Keep [] H1 (upd H1 l (.lst [.ref t0])) := Keep.new hl
    have nlH : H l = none := k1.free (by simp) hl
    have el : upd H1 l (.lst [.ref t0]) l = some (.lst ([t0].map V.ref)) := upd_same
    have et1 := k2 _ _ (by simp) et0
    generalize upd H1 l (.lst [.ref t0]) = H2 at k2 el et1 ⊢
    walk_at "sts"
    intro t1 ht1
    have k3 : Keep [] H2 (upd H2 t1 (.tup [.int 0, .int 0])) := Keep.new ht1
    have et2 : upd H2 t1 (.tup [.int 0, .int 0]) t1 = some (cHO (0, 0)) := upd_same
    have el2 := k3 _ _ (by simp) el
    have et3 := k3 _ _ (by simp) et1
    generalize upd H2 t1 (.tup [.int 0, .int 0]) = H3 at k3 et2 el2 et3 ⊢
    walk_at "sts"
    intro n0 hn0
    have k4 : Keep [] H3 (upd H3 n0 (.lst [.ref t1])) := Keep.new hn0
    have en : upd H3 n0 (.lst [.ref t1]) n0 = some (.lst ([t1].map V.ref)) := upd_same
    have el3 := k4 _ _ (by simp) el2
    have et4 := k4 _ _ (by simp) et3
    have et5 := k4 _ _ (by simp) et2
    have k14 : Keep [] H (upd H3 n0 (.lst [.ref t1])) := k1.trans (k2.trans (k3.trans k4))
    generalize upd H3 n0 (.lst [.ref t1]) = H4 at k4 en el3 et4 et5 k14 ⊢
    walk_at "sts"
    refine forR1_go (fun i σ' H' => ∃ (nq : Addr) (fa na : List Addr) (x1 x2 x3 x4 : Option V), σ' = [some (.int n), some (.ref d), some (.ref l), some (.ref nq), x1, x2, x3, x4] ∧ H' l = some (.lst (fa.map V.ref)) ∧ AllAt cHO H' fa (Tab.metC (hasA m) i) ∧ nq ≠ l ∧ H' nq = some (.lst (na.map V.ref)) ∧ AllAt cHO H' na (Tab.levC (hasA m) i) ∧ Keep [] H H') (by omega) ⟨n0, [t0], [t1], _, _, _, _, by first | exact rfl | trivial, el3, ⟨et4, trivial⟩, (by rintro rfl; rw [el2] at hn0; cases hn0), en, ⟨et5, trivial⟩, k14⟩ ?_ ?_
    · rintro i σ' H5 hi ⟨nq, fa, na, x1, x2, x3, x4, rfl, el5, ha5, nne, en5, hn5, k5⟩
      walk_at "sts"
      refine r_dnewT fun a ha => ?_
      have k6 : Keep [] H5 (upd H5 a (.dT [])) := Keep.new ha
      have ea : upd H5 a (.dT []) a = some (.dT (kvB [])) := upd_same
      have naH : H a = none := k5.free (by simp) ha
      have nal : a ≠ l := by rintro rfl; rw [el5] at ha; cases ha
      generalize upd H5 a (.dT []) = H6 at k6 ea ⊢
      have en6 := k6 _ _ (by simp) en5
      have hla := hn5.len
      have lv := levC_len (M := hasA m) (k := i)
      have lv2 : 2 ^ i ≤ 2 ^ 12 := Nat.pow_le_pow_right (by decide) (by omega)
      walk_at "sts"
      refine forL_go (fun j σ' H' => ∃ (y1 y2 : Option V) (cs : List Ct), σ' = [some (.int n), some (.ref d), some (.ref l), some (.ref nq), some (.int i), some (.ref a), y1, y2] ∧ H' a = some (.dT (kvB cs)) ∧ cs = ((Tab.levC (hasA m) i).take j).foldl (Tab.stepC (hasA m)) [] ∧ Keep [] H5 H') (sqL_of en6) ⟨_, _, [], by first | exact rfl | trivial, ea, by simp, k6⟩ (fun j σ' H' _ h => by obtain ⟨_, _, _, _, _, _, k⟩ := h; exact sqL_of (k _ _ (by simp) en5)) ?_ ?_
      · rintro j v σ' H7 hv ⟨y1, y2, cs, rfl, e7, hcs, k7⟩
        obtain ⟨b, hb, rfl⟩ := getRef hv
        obtain ⟨c, hc, eb⟩ := hn5.get hb
        have eb7 : H7 b = some (.tup [.int c.1, .int c.2]) := k7 _ _ (by simp) eb
        have hcs2 : ((Tab.levC (hasA m) i).take (j + 1)).foldl (Tab.stepC (hasA m)) [] = Tab.stepC (hasA m) cs c := by rw [take_snoc hc, List.foldl_append, ← hcs]; rfl
        have lcs : cs.length ≤ 2 * 2 ^ 12 := by
          have := foldC_len (M := hasA m) (now := (Tab.levC (hasA m) i).take j) (cs := [])
          rw [← hcs, List.length_take] at this
          simp only [List.length_nil] at this
          omega
        refine r_gTup2 (sqT_of eb7) ?_
        simp only [List.set_cons_zero, List.set_cons_succ]
        walk_at "sts"
        intro u1 hu1
        have k8 : Keep [] H7 (upd H7 u1 (.tup [.int c.1, .int c.2])) := Keep.new hu1
        have eu1 : upd H7 u1 (.tup [.int c.1, .int c.2]) u1 = some (cHO c) := upd_same
        have e8 := k8 _ _ (by simp) e7
        generalize upd H7 u1 (.tup [.int c.1, .int c.2]) = H8 at k8 eu1 e8 ⊢
        have k58 := k7.trans k8
        walk_at "sts"
        refine r_dinT (f := V.str) ((k5.trans k58) _ _ (by simp) ed) eu1 ?_
        cases hM : hasA m c with
        | true =>
          walk_at "sts"
          refine ⟨_, _, cs, by first | exact rfl | trivial, e8, ?_, k58⟩
          rw [hcs2]; unfold Tab.stepC; rw [hM]; rfl
        | false =>
          walk_at "sts"
          intro u2 hu2
          have k9 : Keep [] H8 (upd H8 u2 (.tup [.int (c.1 + 1), .int c.2])) := Keep.new hu2
          have eu2 : upd H8 u2 (.tup [.int (c.1 + 1), .int c.2]) u2 = some (cHO (c.1 + 1, c.2)) := upd_same
          have e9 := k9 _ _ (by simp) e8
          generalize upd H8 u2 (.tup [.int (c.1 + 1), .int c.2]) = H9 at k9 eu2 e9 ⊢
          refine r_dputT e9 eu2 (lt_size (by unfold kvB; rw [List.length_map]; omega)) ?_
          rw [put_kvB]
          have k59 : Keep [] H5 (upd H9 a (.dT (kvB (Tab.addC cs (c.1 + 1, c.2))))) := (k58.trans k9).mut ha
          have e10 : upd H9 a (.dT (kvB (Tab.addC cs (c.1 + 1, c.2)))) a = some (.dT (kvB (Tab.addC cs (c.1 + 1, c.2)))) := upd_same
          generalize upd H9 a (.dT (kvB (Tab.addC cs (c.1 + 1, c.2)))) = H10 at k59 e10 ⊢
          walk_at "sts"
          intro u3 hu3
          have k11 : Keep [] H10 (upd H10 u3 (.tup [.int c.1, .int (c.2 + 1)])) := Keep.new hu3
          have eu3 : upd H10 u3 (.tup [.int c.1, .int (c.2 + 1)]) u3 = some (cHO (c.1, c.2 + 1)) := upd_same
          have e11 := k11 _ _ (by simp) e10
          generalize upd H10 u3 (.tup [.int c.1, .int (c.2 + 1)]) = H11 at k11 eu3 e11 ⊢
          have la1 : (Tab.addC cs (c.1 + 1, c.2)).length ≤ cs.length + 1 := by unfold Tab.addC; split <;> simp
          refine r_dputT e11 eu3 (lt_size (by unfold kvB; rw [List.length_map]; omega)) ?_
          rw [put_kvB]
          refine ⟨_, _, _, by first | exact rfl | trivial, upd_same, ?_, (k59.trans k11).mut ha⟩
          rw [hcs2]; unfold Tab.stepC; rw [hM]; rfl
      · rintro σ' H7 ⟨y1, y2, cs, rfl, e7, hcs, k7⟩
        rw [List.length_map, hla, List.take_length] at hcs
        have hcs' : cs = Tab.levC (hasA m) (i + 1) := hcs
        walk_at "sts"
        refine ⟨a, _, rfl, .inl e7, fun nq2 bs hnq2 hk => ?_⟩
        have hb7 := keys_kvB hk
        have k8 : Keep [] H7 (upd H7 nq2 (.lst (bs.map V.ref))) := Keep.new hnq2
        have e8 : upd H7 nq2 (.lst (bs.map V.ref)) nq2 = some (.lst (bs.map V.ref)) := upd_same
        have hb8 := hb7.keep0 k8
        generalize upd H7 nq2 (.lst (bs.map V.ref)) = H8 at k8 e8 hb8 ⊢
        have k58 := k7.trans k8
        have el8 := k58 _ _ (by simp) el5
        have ha8 := ha5.keep0 k58
        have nn2 : nq2 ≠ l := by rintro rfl; rw [k7 _ _ (by simp) el5] at hnq2; cases hnq2
        have l1 := ha5.len
        have l2 := metC_len (M := hasA m) (k := i)
        have l3 : 2 ^ (i + 1) ≤ 2 ^ 13 := Nat.pow_le_pow_right (by decide) (by omega)
        have l4 := hb8.len
        have l5 := levC_len (M := hasA m) (k := i + 1)
        rw [← hcs'] at l5
        walk_at "sts"
        refine ⟨l, nq2, _, _, rfl, rfl, el8, e8, le_size (by simp only [List.length_map]; omega), ?_⟩
        have nt : ∀ xs, H8 l ≠ some (.tup xs) := fun xs e => by rw [el8] at e; cases e
        refine ⟨nq2, fa ++ bs, bs, _, _, _, _, by first | exact rfl | trivial, by rw [upd_same, List.map_append], ?_, nn2, by rw [upd_ne nn2]; exact e8, ?_, (k5.trans k58).mut nlH⟩
        · exact cts_upd (ha8.app (by rw [← hcs']; exact hb8)) nt
        · rw [← hcs']; exact cts_upd hb8 nt
    · rintro σ' H5 ⟨nq, fa, na, x1, x2, x3, x4, rfl, el5, ha5, nne, en5, hn5, k5⟩
      have e : (n : Int).toNat = n := by omega
      rw [e] at ha5
      walk_at "sts"
      refine ⟨l, _, kOf H5, rfl, sqL_of el5, fun x hx => ?_, fun ys q hs hst hq => ?_⟩
      · obtain ⟨j, hj⟩ := List.getElem?_of_mem hx
        obtain ⟨b, hb, rfl⟩ := getRef hj
        obtain ⟨c, _, eb⟩ := ha5.get hb
        exact ⟨b, rfl, by rw [kOf_c eb]; exact eb⟩
      · have hp := hst.perm
        obtain ⟨bs, hbs, rfl⟩ := refs_perm hp
        obtain ⟨cs, hcs, hc⟩ := ha5.perm hbs.symm
        have k6 : Keep [] H5 (upd H5 q (.lst (bs.map V.ref))) := Keep.new hq
        exact qq q cs _ (k5.trans k6) (k5.free (by simp) hq) ⟨bs, upd_same, hc.keep0 k6⟩ hcs (lx_of hc (hcs.nodup_iff.mpr metC_nodup) hs)
end
/-! ### refuted, tries_to -/
abbrev wR : Str := Str.ofString "reached"
abbrev wM : Str := Str.ofString "missed"
abbrev wU : Str := Str.ofString "unsure"
def oS : Option Str → V
  | some x => .str x
  | none => .non
def strL (s : List Nat) : Str := ⟨s.toArray⟩
theorem strL_len {s : List Nat} : (strL s).length = s.length := by show (strL s).cps.size = _; simp [strL]
theorem strL_app {s t : List Nat} : strL s ++ strL t = strL (s ++ t) := by
  show (⟨(strL s).cps ++ (strL t).cps⟩ : Str) = _
  simp [strL]
theorem str_r : Str.ofString "r" = strL [114] := rfl
theorem str_m : Str.ofString "m" = strL [109] := rfl
theorem str_0 : Str.ofString "" = strL [] := rfl
def cD (c : Ct) : PyData := .tuple [.int c.1, .int c.2]
theorem dp_c {K : PySem.W.Frag} {H : Hp} {a : Addr} {c : Ct} (h : H a = some (cHO c)) : Dp K H (.ref a) (cD c) := .tup (sqT_of h) (.cons (.int _) (.cons (.int _) .nil))
theorem dp_cs {K : PySem.W.Frag} {H : Hp} : ∀ {as : List Addr} {cs : List Ct}, AllAt cHO H as cs → DpAll K H (as.map V.ref) (cs.map cD)
  | [], [], _ => .nil
  | _ :: _, _ :: _, h => .cons (dp_c h.1) (dp_cs h.2)
  | [], _ :: _, h => h.elim
  | _ :: _, [], h => h.elim
theorem lay_cs : ∀ {cs : List Ct}, PyData.canLayAll0 (cs.map cD) = true ∧ PyData.depthAll (cs.map cD) ≤ 1
  | [] => by simp [PyData.canLayAll0, PyData.depthAll]
  | c :: cs => by
    have ih := lay_cs (cs := cs)
    refine ⟨by simp [cD, PyData.canLayAll0, PyData.canLay0, ih.1], ?_⟩
    have := ih.2
    simp [cD, PyData.depthAll, PyData.depth]
    omega
theorem shaped_cs {cs : List Ct} : SeqAt.shaped (.list (cs.map cD)) = true := by
  have := lay_cs (cs := cs)
  unfold SeqAt.shaped
  simp [PyData.canLay0, PyData.depth, this.1]
  omega
theorem shaped_c {c : Ct} : SeqAt.shaped (cD c) = true := by
  unfold SeqAt.shaped
  simp [cD, PyData.canLay0, PyData.canLayAll0, PyData.depth, PyData.depthAll]
theorem eqv_c {a b : Ct} : PyData.eqv (cD a) (cD b) = decide (a = b) := by
  unfold cD
  rw [eqvT]
  by_cases h : a = b
  · subst h; simp [PyData.eqvAll, PyData.eqv]
  · rw [decide_eq_false h]
    have : ¬ (a.1 = b.1 ∧ a.2 = b.2) := fun g => h (Prod.ext g.1 g.2)
    simp [PyData.eqvAll, PyData.eqv]
    intro g1 g2
    exact this ⟨g1, g2⟩
theorem any_cs {cs : List Ct} {c : Ct} : ((cs.map cD).any fun z => PyData.eqv z (cD c)) = decide (c ∈ cs) := by
  rw [List.any_map]
  rw [Bool.eq_iff_iff, List.any_eq_true]
  simp only [Function.comp, eqv_c, decide_eq_true_eq]
  exact ⟨fun ⟨x, h, e⟩ => e ▸ h, fun h => ⟨c, h, rfl⟩⟩
theorem r_inC {K : PySem.W.Frag} {H : Hp} {Q : VK} {a p : Addr} {c : Ct} {cs : List Ct} (h : H a = some (cHO c)) (hp : CtsAt H p cs) (k : Q (.bl (decide (c ∈ cs))) H) : rInD K (.ref a) (.ref p) H Q := by
  obtain ⟨as, e, g⟩ := hp
  exact ⟨_, _, dp_c h, .lst (sqL_of e) (dp_cs g), shaped_c, shaped_cs, by rw [any_cs]; exact k⟩
theorem r_ninC {K : PySem.W.Frag} {H : Hp} {Q : VK} {a p : Addr} {c : Ct} {cs : List Ct} (h : H a = some (cHO c)) (hp : CtsAt H p cs) (k : Q (.bl (!decide (c ∈ cs))) H) : rNotInD K (.ref a) (.ref p) H Q := by
  obtain ⟨as, e, g⟩ := hp
  exact ⟨_, _, dp_c h, .lst (sqL_of e) (dp_cs g), shaped_c, shaped_cs, by rw [any_cs]; exact k⟩
theorem CtsAt.keep0 {H H' : Hp} {p : Addr} {cs : List Ct} (h : CtsAt H p cs) (k : Keep [] H H') : CtsAt H' p cs := by
  obtain ⟨as, e, g⟩ := h; exact ⟨as, k _ _ (by simp) e, g.keep0 k⟩
theorem r_augC {i : Nat} {b : Int} {g : Int → Int → Int} {D : L2.Ends} {σ : L2.St} {H : Hp} {a : Int} (h : σ[i]? = some (some (.int a))) (k : D.nx (σ.set i (some (.int (g a b)))) H) : tAug i (tC (.int b)) (ipI g) D σ H :=
  ⟨.int a, h, ⟨a, b, rfl, rfl, k⟩⟩
/-! ### the table -/
structure Valid (L : Nat) (m : Ends) : Prop where
  l1 : 1 ≤ L
  l2 : L ≤ 12
  nd : (m.map (·.1)).Nodup
  key : ∀ p ∈ m, 0 ≤ p.1.1 ∧ 0 ≤ p.1.2 ∧ 1 ≤ p.1.1 + p.1.2 ∧ p.1.1 + p.1.2 ≤ (L : Int)
  word : ∀ p ∈ m, p.2 = wR ∨ p.2 = wM ∨ p.2 = wU
  len : m.length ≤ 5000
  gap : ∀ c, Tab.Mt (hasA m) L c → hasA m c = true
def TableAt (C : Addr) (H : Hp) (x : Addr) (L : Nat) (m : Ends) : Prop := ∃ dx d, H x = some (.ins C dx [("limit", .int L), ("marks", .ref d)]) ∧ EndsAt H d m
def spInit (C : Addr) : Sp := fun vs H Q _ => ∃ (x dx d : Addr) (L : Nat) (m : Ends), vs = [.ref x, .int L, .ref d] ∧ H x = some (.ins C dx []) ∧ EndsAt H d m ∧ Valid L m ∧ ∀ H' D, Keep [x] H H' → H' x = some (.ins C dx [("limit", .int L), ("marks", .ref D)]) → EndsAt H' D m → H D = none → Q .non H'
def spEnds (C : Addr) : Sp := fun vs H Q _ => ∃ (x : Addr) (L : Nat) (m : Ends), vs = [.ref x] ∧ TableAt C H x L m ∧ Valid L m ∧ ∀ D H', Keep [] H H' → H D = none → EndsAt H' D m → Q (.ref D) H'
theorem nodup_kvG {α : Type} {f : α → V} {m : List (Ct × α)} (h : (m.map (·.1)).Nodup) : ((kvG f m).map (·.1)).Nodup := by
  unfold kvG
  rw [List.map_map]
  have e : m.map ((fun x : List Key × V => x.1) ∘ fun p => (ck p.1, f p.2)) = (m.map (·.1)).map ck := by rw [List.map_map]; rfl
  rw [e]
  exact List.Pairwise.map _ (fun (a b : Ct) (e : a ≠ b) (g : ck a = ck b) => e (ck_inj.mp g)) h
theorem get_kvG {α : Type} {f : α → V} {m : List (Ct × α)} {i : Nat} {k : List Key} {v : V} (h : (kvG f m)[i]? = some (k, v)) : ∃ p, m[i]? = some p ∧ k = ck p.1 ∧ v = f p.2 := by
  unfold kvG at h
  rw [List.getElem?_map] at h
  obtain ⟨p, hp, e⟩ := Option.map_eq_some_iff.mp h
  cases e
  exact ⟨p, hp, rfl, rfl⟩
theorem TableAt.keep0 {C : Addr} {H H' : Hp} {x : Addr} {L : Nat} {m : Ends} (h : TableAt C H x L m) (k : Keep [] H H') : TableAt C H' x L m := by
  obtain ⟨dx, d, e, g⟩ := h; exact ⟨dx, d, k _ _ (by simp) e, k _ _ (by simp) g⟩
theorem put2T {l : V} {d : V} : putF (Str.ofString "marks") d [(Str.ofString "limit", l)] = [(Str.ofString "limit", l), (Str.ofString "marks", d)] := rfl
theorem flat_ws : ([V.str wR, V.str wM, V.str wU] : List V).all L2.flatV = true := by decide +kernel
theorem word_flat {w : Str} (h : w = wR ∨ w = wM ∨ w = wU) : L2.flatV (V.str w) = true ∧ inV (V.str w) [V.str wR, V.str wM, V.str wU] = true := by
  rcases h with rfl | rfl | rfl <;> exact ⟨by decide +kernel, by decide +kernel⟩
section
variable {P : Program} {w : World} {K : PySem.W.Frag} {mg : Str → Option Value} {base : Heap}
theorem ok_init (T : Tx K mg) (G_counts_met : FnOk P w K mg base CX0 1 T.f_counts_met T.fd_counts_met ["limit", "marks"] spCounts) : FnOk P w K mg base CX0 2 T.f_Table___init T.fd_Table___init ["self", "limit", "ends"] (spInit T.C_Table) := by
  refine T.F_Table___init.ok sc_Table___init (fun vs H Q E h => ?_) (fun cdv A outer s H vs Q E hr h => ?_)
  · obtain ⟨x, dx, d, L, m, rfl, _⟩ := h; rfl
  · obtain ⟨x, dx, d, L, m, rfl, hx, ed, va, qq⟩ := h
    have oc := T.oc_Table
    have nl := T.na_Table_limit
    have nm := T.na_Table_marks
    have l1 := va.l1
    have l2 := va.l2
    refine ⟨_, PSs.nox (pss_cons (ps_if (pt_not (pt_chain op_le op_le pe_int (pv 1) (pe_glob (v := .int (12)) rfl T.c_MOST_TRIES.choose_spec ⟨_, rfl⟩)))
    (pss_one ps_never)
    pss_nil)
    (pss_cons (ps_lock (ps_for PassesOwn.never rfl (pi_keys (pv 2)) (pg_tup (n := 2) rfl (pgs_cons (pg_name (i := 3) sc_Table___init.nd rfl (Or.inl rfl)) (pgs_cons (pg_name (i := 4) sc_Table___init.nd rfl (Or.inl rfl)) pgs_nil)))
    (pss_one (ps_if (PW.pt (pw_or (pt_cmpR op_lt (pv 3) pe_int (nomark _)) (pw_or (pt_cmpR op_lt (pv 4) pe_int (nomark _)) (pw_or1 (pt_not (pt_chain op_le op_le pe_int (pe_op op_add (pv 3) (pv 4)) (pv 1)))))))
    (pss_one ps_never)
    pss_nil))))
    (pss_cons (ps_lock (ps_for PassesOwn.never rfl (Dt.pi_valuesT (pv 2)) (pg_name (i := 5) sc_Table___init.nd rfl (Or.inl rfl))
    (pss_one (ps_if (pt_cmpR op_notIn_seq (pv 5) (pe_glob (v := .ref T.a_WORDS) rfl T.c_WORDS rfl) (by rfl))
    (pss_one ps_never)
    pss_nil))))
    (pss_cons (ps_for PassesOwn.never rfl (pi_list (pe_call G_counts_met (hr.mono (by decide)) rfl T.g_counts_met T.F_counts_met.kp T.b_counts_met .nil pass0 (pa_cons (pv 1) (pa_cons (pv 2) pa_nil)))) (pg_tup (n := 2) rfl (pgs_cons (pg_name (i := 3) sc_Table___init.nd rfl (Or.inl rfl)) (pgs_cons (pg_name (i := 4) sc_Table___init.nd rfl (Or.inl rfl)) pgs_nil)))
    (pss_one (ps_if (PW.pt (pw_and (pt_cmpR op_eq (pe_op op_add (pv 3) (pv 4)) (pv 1) (nomark _)) (pw_and1 (pt_cmp (pc_dnotin (hu_of hr) (pe_tup (pa_cons (pv 3) (pa_cons (pv 4) pa_nil))) (pv 2))))))
    (pss_one ps_never)
    pss_nil)))
    (pss_cons (ps_fld (pv 0) (pv 1) rfl)
    (pss_one (ps_fld (pv 0) (pe_lock (Dt.pe_dcT (own := [("count", 6), ("word", 5)]) (g := gTup K 2 (gCons (gName 6) (gCons (gName 5) gNil))) (tt := tYes) hr.units0 rfl sc_Table___init.nd (Dt.pi_itemsT (pv 2)) (blkOk_by (own := [("count", 6), ("word", 5)]) (N := ["self", "limit", "ends", "reached", "missed", "word", "count"]) (sc := defScope s_Table___init) (by decide +kernel)) (fun _ _ _ _ _ => pg_tup (n := 2) rfl (pgs_cons (pg_name (i := 6) sc_Table___init.nd rfl (Or.inl rfl)) (pgs_cons (pg_name (i := 5) sc_Table___init.nd rfl (Or.inl rfl)) pgs_nil))) (fun _ _ _ _ _ => pts_nil) (fun _ _ _ _ _ => (pv 6)) (fun _ _ _ _ _ => (pv 5)))) rfl))))))), ?_⟩
    walk_at "start"
    walk_at "sts"
    have ndk : d ≠ x := by rintro rfl; cases (hx.symm.trans ed)
    refine forKT_go ed (fun od Q' hQ => r_var rfl hQ) (fun od i σ' H' => ∃ y1 y2 : Option V, σ' = [some (.ref x), some (.int L), some (.ref d), y1, y2, none, none] ∧ H' = upd H d (.frz od (.dT (kvG V.str m)))) (fun od => ⟨_, _, by first | exact rfl | trivial, rfl⟩) (fun od i σ' H' h => by obtain ⟨_, _, _, rfl⟩ := h; exact upd_same) ?_ ?_
    · rintro od i k v q σ' H' at1 tup ⟨y1, y2, rfl, rfl⟩
      obtain ⟨p, hp, rfl, rfl⟩ := get_kvG at1
      have key := va.key p (List.mem_of_getElem? hp)
      refine r_gTup2 (x := .int p.1.1) (y := .int p.1.2) (sqT_of tup) ?_
      simp only [List.set_cons_zero, List.set_cons_succ]
      walk_at "sts"
      exact ⟨_, _, by first | exact rfl | trivial, rfl⟩
    rintro od σ' H' ⟨y1, y2, rfl, rfl⟩
    rw [upd_back ed]
    walk_at "sts"
    refine forVT_go ed (fun od Q' hQ => r_var rfl hQ) (fun od i σ' H' => ∃ y3 : Option V, σ' = [some (.ref x), some (.int L), some (.ref d), y1, y2, y3, none] ∧ H' = upd H d (.frz od (.dT (kvG V.str m)))) (fun od => ⟨_, by first | exact rfl | trivial, rfl⟩) (fun od i σ' H' h => by obtain ⟨_, _, rfl⟩ := h; exact upd_same) ?_ ?_
    · rintro od i k v σ' H' at1 ⟨y3, rfl, rfl⟩
      obtain ⟨p, hp, rfl, rfl⟩ := get_kvG at1
      have wd := word_flat (va.word p (List.mem_of_getElem? hp))
      walk_at "sts"
      refine ⟨_, _, rfl, .inr T.t_WORDS.at, wd.1, flat_ws, ?_⟩
      have e2 : (if (true : Bool) = true then !inV (V.str p.2) [V.str "reached", V.str "missed", V.str "unsure"] else inV (V.str p.2) [V.str "reached", V.str "missed", V.str "unsure"]) = false := by
        rw [if_pos rfl]; have := wd.2; rw [this]; rfl
      rw [e2]
      walk_at "sts"
      exact ⟨_, by first | exact rfl | trivial, rfl⟩
    rintro od σ' H' ⟨y3, rfl, rfl⟩
    rw [upd_back ed]
    walk_at "sts"
    refine ⟨d, L, m, rfl, l2, ed, fun q cs H1 k1 nq ⟨as, eq, ca⟩ pm _ => ?_⟩
    refine forL_go (fun i σ' H' => ∃ y4 y5 : Option V, σ' = [some (.ref x), some (.int L), some (.ref d), y4, y5, y3, none] ∧ Keep [] H1 H') (sqL_of eq) ⟨_, _, by first | exact rfl | trivial, Keep.refl _ _⟩ (fun i σ' H' _ h => by obtain ⟨_, _, _, k⟩ := h; exact sqL_of (k _ _ (by simp) eq)) ?_ ?_
    · rintro i v σ' H2 hv ⟨y4, y5, rfl, k2⟩
      obtain ⟨b, hb, rfl⟩ := getRef hv
      obtain ⟨c, hc, eb⟩ := ca.get hb
      have mc := pm.mem_iff.mp (List.mem_of_getElem? hc)
      obtain ⟨j, hj, mt⟩ := Tab.mem_metC.mp mc
      refine r_gTup2 (x := .int c.1) (y := .int c.2) (sqT_of (k2 _ _ (by simp) eb)) ?_
      simp only [List.set_cons_zero, List.set_cons_succ]
      walk_at "sts"
      refine r_ite (fun c1 => ?_) (fun c1 => ?_)
      · have ej : j = L := by have := mt.sum.1; omega
        subst ej
        have hM := va.gap c mt
        walk_at "sts"
        intro u hu
        have k3 : Keep [] H2 (upd H2 u (.tup [.int c.1, .int c.2])) := Keep.new hu
        have eu : upd H2 u (.tup [.int c.1, .int c.2]) u = some (cHO c) := upd_same
        generalize upd H2 u (.tup [.int c.1, .int c.2]) = H3 at k3 eu ⊢
        walk_at "sts"
        refine r_dinT (f := V.str) ((k1.trans (k2.trans k3)) _ _ (by simp) ed) eu ?_
        rw [hM]
        walk_at "sts"
        exact ⟨_, _, by first | exact rfl | trivial, k2.trans k3⟩
      · walk_at "sts"
        exact ⟨_, _, by first | exact rfl | trivial, k2⟩
    rintro σ' H2 ⟨y4, y5, rfl, k2⟩
    have k12 := k1.trans k2
    have ex := k12 _ _ (by simp) hx
    have ed2 := k12 _ _ (by simp) ed
    walk_at "sts"
    rw [show putF (Str.ofString "limit") (V.int L) [] = [((Str.ofString "limit"), .int L)] from rfl]
    have kx : Keep [x] H2 (upd H2 x (.ins T.C_Table dx [((Str.ofString "limit"), .int L)])) := Keep.at (by simp)
    have ex3 : upd H2 x (.ins T.C_Table dx [((Str.ofString "limit"), .int L)]) x = some (.ins T.C_Table dx [((Str.ofString "limit"), .int L)]) := upd_same
    have ed3 := kx _ _ (by simpa using ndk) ed2
    generalize upd H2 x (.ins T.C_Table dx [((Str.ofString "limit"), .int L)]) = H3 at kx ex3 ed3 ⊢
    walk_at "sts"
    refine r_copyT ed3 (nodup_kvG va.nd) (by rw [len_kvG]; have := va.len; omega) (fun od Q' hQ => r_var rfl hQ) (fun _ _ => rfl) (fun _ _ => rfl) (fun _ _ => rfl) fun D H4 k4 nD eD => ?_
    have ex4 := k4 _ _ (by simp) ex3
    walk_at "sts"
    rw [put2T]
    have nDx : D ≠ x := by rintro rfl; rw [ex4] at eD; cases eD
    have k5 : Keep [x] H4 (upd H4 x (.ins T.C_Table dx [(Str.ofString "limit", .int L), (Str.ofString "marks", .ref D)])) := Keep.at (by simp)
    exact qq _ D ((k12.mono (by simp)).trans (kx.trans ((k4.mono (by simp)).trans k5))) upd_same (k5 _ _ (by simpa using nDx) eD) (((k12.mono (by simp)).trans kx).free (by simpa using nDx) nD)
theorem ok_ends (T : Tx K mg) : FnOk P w K mg base CX0 1 T.f_Table_ends T.fd_Table_ends ["self"] (spEnds T.C_Table) := by
  refine T.F_Table_ends.ok sc_Table_ends (fun vs H Q E h => ?_) (fun cdv A outer s H vs Q E hr h => ?_)
  · obtain ⟨x, L, m, rfl, _⟩ := h; rfl
  · obtain ⟨x, L, m, rfl, ⟨dx, d, ex, ed⟩, va, qq⟩ := h
    have oc := T.oc_Table
    have nl := T.na_Table_limit
    have nm := T.na_Table_marks
    refine ⟨_, PSs.nox (pss_one (ps_ret (pe_lock (Dt.pe_dcT (own := [("count", 1), ("word", 2)]) (g := gTup K 2 (gCons (gName 1) (gCons (gName 2) gNil))) (tt := tYes) hr.units0 rfl sc_Table_ends.nd (Dt.pi_itemsT (pe_fld (pv 0) rfl)) (blkOk_by (own := [("count", 1), ("word", 2)]) (N := ["self", "count", "word"]) (sc := defScope s_Table_ends) (by decide +kernel)) (fun _ _ _ _ _ => pg_tup (n := 2) rfl (pgs_cons (pg_name (i := 1) sc_Table_ends.nd rfl (Or.inl rfl)) (pgs_cons (pg_name (i := 2) sc_Table_ends.nd rfl (Or.inl rfl)) pgs_nil))) (fun _ _ _ _ _ => pts_nil) (fun _ _ _ _ _ => (pv 1)) (fun _ _ _ _ _ => (pv 2)))))), ?_⟩
    walk_at "start"
    walk_at "sts"
    have nxd : x ≠ d := by rintro rfl; cases (ex.symm.trans ed)
    refine r_copyT ed (nodup_kvG va.nd) (by rw [len_kvG]; have := va.len; omega) (fun od Q' hQ => ?_) (fun _ _ => rfl) (fun _ _ => rfl) (fun _ _ => rfl) fun D H4 k4 nD eD => ?_
    · have ex2 : upd H d (.frz od (.dT (kvG V.str m))) x = some (.ins T.C_Table dx [("limit", .int L), ("marks", .ref d)]) := by rw [upd_ne nxd]; exact ex
      walk_at "sts"
      exact hQ
    · exact qq D H4 k4 nD eD
end
/-! ### stops and sound -/
def sHO (p : Ct × Str) : HO := .tup [.int p.1.1, .int p.1.2, .str p.2]
def spStops (C : Addr) : Sp := fun vs H Q _ => ∃ (x : Addr) (L : Nat) (m : Ends), vs = [.ref x] ∧ TableAt C H x L m ∧ Valid L m ∧
  ∀ (q : Addr) (as : List Addr) (ps : List (Ct × Str)) (H' : Hp), Keep [] H H' → H q = none → H' q = some (.lst (as.map V.ref)) → AllAt sHO H' as ps → (∀ p, p ∈ ps ↔ (∃ j, j ≤ L ∧ Tab.Mt (hasA m) j p.1) ∧ getA m p.1 = some p.2) → ps.length ≤ 8192 → ps.Pairwise (fun a b => Lx a.1 b.1) → Q (.ref q) H'
def stopsOf (m : Ends) (cs : List Ct) : List (Ct × Str) := cs.filterMap fun c => (getA m c).map fun w => (c, w)
theorem mem_stops {m : Ends} {cs : List Ct} {p : Ct × Str} : p ∈ stopsOf m cs ↔ p.1 ∈ cs ∧ getA m p.1 = some p.2 := by
  unfold stopsOf
  rw [List.mem_filterMap]
  constructor
  · rintro ⟨c, hc, e⟩
    obtain ⟨w, hw, rfl⟩ := Option.map_eq_some_iff.mp e
    exact ⟨hc, hw⟩
  · rintro ⟨hc, e⟩
    exact ⟨p.1, hc, by rw [e]; rfl⟩
theorem stops_snoc {m : Ends} {cs : List Ct} {i : Nat} {c : Ct} (h : cs[i]? = some c) : stopsOf m (cs.take (i + 1)) = stopsOf m (cs.take i) ++ ((getA m c).map fun w => (c, w)).toList := by
  unfold stopsOf
  have one : [c].filterMap (fun c => (getA m c).map fun w => (c, w)) = ((getA m c).map fun w => (c, w)).toList := by cases e : getA m c <;> simp [e]
  rw [take_snoc h, List.filterMap_append, one]
theorem stops_len {m : Ends} {cs : List Ct} : (stopsOf m cs).length ≤ cs.length := List.length_filterMap_le _ _
theorem stops_lx {m : Ends} {cs : List Ct} (h : cs.Pairwise Lx) : (stopsOf m cs).Pairwise (fun a b => Lx a.1 b.1) := by
  unfold stopsOf
  refine List.Pairwise.filterMap _ (fun a b l x hx y hy => ?_) h
  obtain ⟨_, _, rfl⟩ := Option.map_eq_some_iff.mp hx
  obtain ⟨_, _, rfl⟩ := Option.map_eq_some_iff.mp hy
  exact l
theorem r_star {K : PySem.W.Frag} {te : TE} {t : TA} {σ : L2.St} {H : Hp} {Q : List V → Hp → Prop} (k : te σ H fun x H1 => ∃ p xs, x = V.ref p ∧ (SqT K H1 p xs ∨ SqL K H1 p xs) ∧ t σ H1 fun ys H2 => Q (xs ++ ys) H2) : tStar K te t σ H Q := k
theorem r_dgetT {td ty : TE} {σ : L2.St} {H : Hp} {Q : VK} (k : td σ H fun x H1 => ty σ H1 fun y H2 => ∃ a v, x = .ref a ∧ DGet H2 a y (some v) ∧ Q v H2) : tDGet td ty σ H Q := k
theorem dgetT {α : Type} {f : α → V} {m : List (Ct × α)} {H : Hp} {p q : Addr} {c : Ct} {x : α} (h : H p = some (.dT (kvG f m))) (hq : H q = some (cHO c)) (e : getA m c = some x) : DGet H p (.ref q) (some (f x)) := by
  have := DGet.t (k := ck c) h hq
  rw [val_kvG, e] at this
  exact this
section
variable {P : Program} {w : World} {K : PySem.W.Frag} {mg : Str → Option Value} {base : Heap}
theorem ok_stops (T : Tx K mg) (G_counts_met : FnOk P w K mg base CX0 1 T.f_counts_met T.fd_counts_met ["limit", "marks"] spCounts) : FnOk P w K mg base CX0 2 T.f_Table_stops T.fd_Table_stops ["self"] (spStops T.C_Table) := by
  refine T.F_Table_stops.ok sc_Table_stops (fun vs H Q E h => ?_) (fun cdv A outer s H vs Q E hr h => ?_)
  · obtain ⟨x, L, m, rfl, _⟩ := h; rfl
  · obtain ⟨x, L, m, rfl, ⟨dx, d, ex, ed⟩, va, qq⟩ := h
    have oc := T.oc_Table
    have nl := T.na_Table_limit
    have nm := T.na_Table_marks
    refine ⟨_, PSs.nox (pss_cons (ps_set (i := 1) sc_Table_stops.nd rfl (Or.inl rfl) (pe_call G_counts_met (hr.mono (by decide)) rfl T.g_counts_met T.F_counts_met.kp T.b_counts_met .nil pass0 (pa_cons (pe_fld (pv 0) rfl) (pa_cons (pe_fld (pv 0) rfl) pa_nil))))
    (pss_one (ps_ret (pe_lc (own := [("count", 2)]) (g := gName 2)  rfl sc_Table_stops.nd (pi_list (pv 1)) (blkOk_by (own := [("count", 2)]) (N := ["self", "met", "count"]) (sc := defScope s_Table_stops) (by decide +kernel)) (fun _ _ _ _ _ => pg_name (i := 2) sc_Table_stops.nd rfl (Or.inl rfl)) (fun _ _ _ _ _ => pts_one (pt_cmp (pc_din (hu_of hr) (pv 2) (Dt.pe_fldK (K := K) rfl (pv 0) rfl)))) (fun _ _ _ _ _ => (pe_tup (Dt.pa_starK (K := K) rfl (pv 2) (pa_cons (pe_dget (hu_of hr) (Dt.pe_fldK (K := K) rfl (pv 0) rfl) (pv 2) (fun _ _ => rfl)) pa_nil)))))))), ?_⟩
    walk_at "start"
    walk_at "sts"
    refine ⟨d, L, m, rfl, va.l2, ed, fun q cs H1 k1 nq ⟨as, eq, ca⟩ pm px => ?_⟩
    have ex1 := k1 _ _ (by simp) ex
    have ed1 := k1 _ _ (by simp) ed
    have lc := ca.len
    have lcs : cs.length < 2 ^ 13 := by
      have h1 := pm.length_eq
      have h2 := metC_len (M := hasA m) (k := L)
      have h3 : 2 ^ (L + 1) ≤ 2 ^ 13 := Nat.pow_le_pow_right (by decide) (by have := va.l2; omega)
      omega
    walk_at "sts"
    refine lcL_go (fun D i acc H' => ∃ bs : List Addr, acc = bs.map V.ref ∧ AllAt sHO H' bs (stopsOf m (cs.take i)) ∧ Keep [] H1 H' ∧ H1 D = none) (sqL_of eq) (fun D hD => ⟨[], rfl, by simp [stopsOf, AllAt], Keep.new hD, hD⟩) (fun D i acc H' _ h => by obtain ⟨_, _, _, k, _⟩ := h; exact sqL_of (k _ _ (by simp) eq)) ?_ ?_
    · rintro D i v acc H2 hv hD ⟨bs, rfl, hb, k2, nD⟩
      obtain ⟨b, hb0, rfl⟩ := getRef hv
      obtain ⟨c, hc, eb⟩ := ca.get hb0
      have eb2 := k2 _ _ (by simp) eb
      have ed2 := k2 _ _ (by simp) ed1
      have ex2 := k2 _ _ (by simp) ex1
      have hbl := hb.len
      have sl := stops_len (m := m) (cs := cs.take i)
      rw [List.length_take] at sl
      have sn := stops_snoc (m := m) hc
      walk_at "sts"
      refine r_dinT (f := V.str) (g := id) ed2 eb2 ?_
      cases hw : getA m c with
      | none =>
        rw [hw] at sn
        unfold hasA
        rw [hw]
        walk_at "sts"
        exact ⟨_, hD, bs, rfl, by rw [sn]; simpa using hb, k2, nD⟩
      | some wd =>
        rw [hw] at sn
        unfold hasA
        rw [hw]
        walk_at "sts"
        rw [if_pos (show id (some wd).isSome = true from rfl)]
        walk_at "sts"
        refine r_star ?_
        walk_at "sts"
        refine ⟨b, [.int c.1, .int c.2], rfl, .inl (sqT_of eb2), ?_⟩
        walk_at "sts"
        refine ⟨d, _, rfl, dgetT (f := V.str) ed2 eb2 hw, ?_⟩
        walk_at "sts"
        simp only [List.cons_append, List.nil_append]
        walk_at "sts"
        intro u hu
        have k3 : Keep [] H2 (upd H2 u (.tup [.int c.1, .int c.2, .str wd])) := Keep.new hu
        have eu : upd H2 u (.tup [.int c.1, .int c.2, .str wd]) u = some (sHO (c, wd)) := upd_same
        have hD3 := k3 _ _ (by simp) hD
        have hb3 := hb.keep0 k3
        generalize upd H2 u (.tup [.int c.1, .int c.2, .str wd]) = H3 at k3 eu hD3 hb3 ⊢
        refine lc_put (acc := bs.map V.ref) hD3 (by rw [List.length_map]; exact lt_size (by omega)) ⟨bs ++ [u], by rw [List.map_append]; rfl, ?_, (k2.trans k3).mut nD, nD⟩
        rw [sn]
        exact (hb3.app (bs := [u]) (ys := [(c, wd)]) ⟨eu, trivial⟩).keep (Keep.at (M := [D]) (by simp)) (fun a ha x e => by rw [List.mem_singleton.mp ha, hD3] at e; cases e)
    · rintro D acc H2 nD hD ⟨bs, rfl, hb, k2, _⟩
      rw [List.length_map, lc, List.take_length] at hb
      refine qq D bs _ H2 (k1.trans k2) (k1.free (by simp) nD) hD hb (fun p => ?_) (Nat.le_trans stops_len (by omega)) (stops_lx px)
      rw [mem_stops, pm.mem_iff, Tab.mem_metC]
end
/-! ### a table made or refused -/
abbrev fL : Str := Str.ofString "limit"
abbrev fC : Str := Str.ofString "count"
abbrev fW : Str := Str.ofString "word"
abbrev fG : Str := Str.ofString "gap"
abbrev f0 : Str := Str.ofString ""
theorem eqV_dec {a b : Str} : L2.eqV (.str a) (.str b) = decide (b = a) := by
  show (a == b) = _
  rw [Bool.eq_iff_iff, beq_iff_eq, decide_eq_true_eq]; exact eq_comm
def badC (l : Int) (c : Ct) : Bool := decide (c.1 < 0) || (decide (c.2 < 0) || !(decide (1 ≤ c.1 + c.2) && decide (c.1 + c.2 ≤ l)))
def isW (w : Str) : Bool := decide (w = wR) || (decide (w = wM) || decide (w = wU))
def gapC (l : Int) (m : Ends) (c : Ct) : Bool := decide (c.1 + c.2 = l) && !hasA m c
def gapB (l : Nat) (m : Ends) : Bool := (Tab.metC (hasA m) l).any (gapC l m)
def faultS (l : Int) (m : Ends) : Str := if ¬ (1 ≤ l ∧ l ≤ 12) then fL else if (m.any fun p => badC l p.1) = true then fC else if (m.any fun p => !isW p.2) = true then fW else if gapB l.toNat m = true then fG else f0
theorem fault_L {l : Int} {m : Ends} (h : ¬ (1 ≤ l ∧ l ≤ 12)) : faultS l m = fL := by unfold faultS; rw [if_pos h]
theorem fault_C {l : Int} {m : Ends} (h : 1 ≤ l ∧ l ≤ 12) (b : (m.any fun p => badC l p.1) = true) : faultS l m = fC := by unfold faultS; rw [if_neg (fun n => n h), if_pos b]
theorem fault_W {l : Int} {m : Ends} (h : 1 ≤ l ∧ l ≤ 12) (b : ¬ (m.any fun p => badC l p.1) = true) (c : (m.any fun p => !isW p.2) = true) : faultS l m = fW := by unfold faultS; rw [if_neg (fun n => n h), if_neg b, if_pos c]
theorem fault_G {l : Int} {m : Ends} (h : 1 ≤ l ∧ l ≤ 12) (b : ¬ (m.any fun p => badC l p.1) = true) (c : ¬ (m.any fun p => !isW p.2) = true) (g : gapB l.toNat m = true) : faultS l m = fG := by unfold faultS; rw [if_neg (fun n => n h), if_neg b, if_neg c, if_pos g]
theorem fault_0 {l : Int} {m : Ends} (h : 1 ≤ l ∧ l ≤ 12) (b : ¬ (m.any fun p => badC l p.1) = true) (c : ¬ (m.any fun p => !isW p.2) = true) (g : ¬ gapB l.toNat m = true) : faultS l m = f0 := by unfold faultS; rw [if_neg (fun n => n h), if_neg b, if_neg c, if_neg g]
theorem isW_iff {w : Str} : isW w = true ↔ w = wR ∨ w = wM ∨ w = wU := by unfold isW; simp
theorem fault_ne : fL ≠ f0 ∧ fC ≠ f0 ∧ fW ≠ f0 ∧ fG ≠ f0 := by decide
theorem valid_of {l : Int} {m : Ends} (nd : (m.map (·.1)).Nodup) (len : m.length ≤ 5000) (h : faultS l m = f0) : 1 ≤ l ∧ l ≤ 12 ∧ Valid l.toNat m := by
  obtain ⟨n1, n2, n3, n4⟩ := fault_ne
  by_cases a : 1 ≤ l ∧ l ≤ 12
  · by_cases b : (m.any fun p => badC l p.1) = true
    · rw [fault_C a b] at h; exact (n2 h).elim
    · by_cases c : (m.any fun p => !isW p.2) = true
      · rw [fault_W a b c] at h; exact (n3 h).elim
      · by_cases g : gapB l.toNat m = true
        · rw [fault_G a b c g] at h; exact (n4 h).elim
        · have hl : ((l.toNat : Nat) : Int) = l := by omega
          refine ⟨a.1, a.2, by omega, by omega, nd, fun p hp => ?_, fun p hp => ?_, len, fun x hx => ?_⟩
          · have : badC l p.1 = false := by
              cases e : badC l p.1 with
              | false => rfl
              | true => exact (b (List.any_eq_true.mpr ⟨p, hp, e⟩)).elim
            unfold badC at this
            simp at this
            omega
          · have : isW p.2 = true := by
              cases e : isW p.2 with
              | true => rfl
              | false => exact (c (List.any_eq_true.mpr ⟨p, hp, by rw [e]; rfl⟩)).elim
            exact isW_iff.mp this
          · cases e : hasA m x with
            | true => rfl
            | false =>
              refine (g (List.any_eq_true.mpr ⟨x, Tab.mem_metC.mpr ⟨_, Nat.le_refl _, hx⟩, ?_⟩)).elim
              unfold gapC
              rw [e, decide_eq_true (by have := hx.sum.1; omega)]; rfl
  · rw [fault_L a] at h; exact (n1 h).elim
def spInitX (C CB : Addr) : Sp := fun vs H Q E => ∃ (x dx d : Addr) (l : Int) (m : Ends), vs = [.ref x, .int l, .ref d] ∧ H x = some (.ins C dx []) ∧ EndsAt H d m ∧ (m.map (·.1)).Nodup ∧ m.length ≤ 5000 ∧ (faultS l m = f0 → ∀ H', Keep [x] H H' → TableAt C H' x l.toNat m → Q .non H') ∧
  (faultS l m ≠ f0 → ∀ e H1, Keep [d] H H1 → Rd H1 d (.dT (kvG V.str m)) → H1 e = none → E (.ref CB) (some e) (upd H1 e (.xd [("fault", .str (faultS l m))])))
section
variable {w : World} {K : PySem.W.Frag} {mg : Str → Option Value} {base : Heap}
theorem ok_initX (T : Tx K mg) (G_counts_met : FnOk PG w K mg base CX0 1 T.f_counts_met T.fd_counts_met ["limit", "marks"] spCounts) : FnOk PG w K mg base (L2.CX PG w) 2 T.f_Table___init T.fd_Table___init ["self", "limit", "ends"] (spInitX T.C_Table T.C_BadTable) := by
  refine T.F_Table___init.okX sc_Table___init (fun vs H Q E h => ?_) (fun cdv A outer s H vs Q E hr h => ?_)
  · obtain ⟨x, dx, d, l, m, rfl, _⟩ := h; rfl
  · obtain ⟨x, dx, d, l, m, rfl, hx, ed, nd, len, qm, qf⟩ := h
    have oc := T.oc_Table
    have nl := T.na_Table_limit
    have nm := T.na_Table_marks
    have tk0 : Takes (cxOf (L2.CX PG w) PG w K mg base ["self", "limit", "ends", "reached", "missed", "word", "count"] "Table.__init__" (defScope s_Table___init) T.f_Table___init cdv A outer s H E) (fun cls d _ H => E cls d H) := takes_of rfl rfl rfl rfl
    refine ⟨_, (pss_cons (ps_if (pt_not (pt_chain op_le op_le pe_int (pv 1) (pe_glob (v := .int (12)) rfl T.c_MOST_TRIES.choose_spec ⟨_, rfl⟩)))
    (pss_one (Er.ps_raise1 rfl (T.Z_BadTable w) hr tk0 (pa_cons pe_str pa_nil)))
    pss_nil)
    (pss_cons (ps_lock (ps_for (passes_of rfl) rfl (pi_keys (pv 2)) (pg_tup (n := 2) rfl (pgs_cons (pg_name (i := 3) sc_Table___init.nd rfl (Or.inl rfl)) (pgs_cons (pg_name (i := 4) sc_Table___init.nd rfl (Or.inl rfl)) pgs_nil)))
    (pss_one (ps_if (PW.pt (pw_or (pt_cmpR op_lt (pv 3) pe_int (nomark _)) (pw_or (pt_cmpR op_lt (pv 4) pe_int (nomark _)) (pw_or1 (pt_not (pt_chain op_le op_le pe_int (pe_op op_add (pv 3) (pv 4)) (pv 1)))))))
    (pss_one (Er.ps_raise1 rfl (T.Z_BadTable w) hr tk0 (pa_cons pe_str pa_nil)))
    pss_nil))))
    (pss_cons (ps_lock (ps_for (passes_of rfl) rfl (Dt.pi_valuesT (pv 2)) (pg_name (i := 5) sc_Table___init.nd rfl (Or.inl rfl))
    (pss_one (ps_if (pt_cmpR op_notIn_seq (pv 5) (pe_glob (v := .ref T.a_WORDS) rfl T.c_WORDS rfl) (by rfl))
    (pss_one (Er.ps_raise1 rfl (T.Z_BadTable w) hr tk0 (pa_cons pe_str pa_nil)))
    pss_nil))))
    (pss_cons (ps_for (passes_of rfl) rfl (pi_list (pe_call G_counts_met (hr.mono (by decide)) rfl T.g_counts_met T.F_counts_met.kp T.b_counts_met .nil pass0 (pa_cons (pv 1) (pa_cons (pv 2) pa_nil)))) (pg_tup (n := 2) rfl (pgs_cons (pg_name (i := 3) sc_Table___init.nd rfl (Or.inl rfl)) (pgs_cons (pg_name (i := 4) sc_Table___init.nd rfl (Or.inl rfl)) pgs_nil)))
    (pss_one (ps_if (PW.pt (pw_and (pt_cmpR op_eq (pe_op op_add (pv 3) (pv 4)) (pv 1) (nomark _)) (pw_and1 (pt_cmp (pc_dnotin (hu_of hr) (pe_tup (pa_cons (pv 3) (pa_cons (pv 4) pa_nil))) (pv 2))))))
    (pss_one (Er.ps_raise1 rfl (T.Z_BadTable w) hr tk0 (pa_cons pe_str pa_nil)))
    pss_nil)))
    (pss_cons (ps_fld (pv 0) (pv 1) rfl)
    (pss_one (ps_fld (pv 0) (pe_lock (Dt.pe_dcT (own := [("count", 6), ("word", 5)]) (g := gTup K 2 (gCons (gName 6) (gCons (gName 5) gNil))) (tt := tYes) hr.units0 rfl sc_Table___init.nd (Dt.pi_itemsT (pv 2)) (blkOk_by (own := [("count", 6), ("word", 5)]) (N := ["self", "limit", "ends", "reached", "missed", "word", "count"]) (sc := defScope s_Table___init) (by decide +kernel)) (fun _ _ _ _ _ => pg_tup (n := 2) rfl (pgs_cons (pg_name (i := 6) sc_Table___init.nd rfl (Or.inl rfl)) (pgs_cons (pg_name (i := 5) sc_Table___init.nd rfl (Or.inl rfl)) pgs_nil))) (fun _ _ _ _ _ => pts_nil) (fun _ _ _ _ _ => (pv 6)) (fun _ _ _ _ _ => (pv 5)))) rfl))))))), ?_⟩
    walk_at "start"
    walk_at "sts"
    have raise : ∀ (f : Str) (e : Addr) (H1 : Hp), faultS l m = f → f ≠ f0 → Keep [d] H H1 → Rd H1 d (.dT (kvG V.str m)) → H1 e = none → E (.ref T.C_BadTable) (some e) (upd H1 e (.xd [("fault", .str f)])) := fun f e H1 hf hn k r he => by
      have := qf (by rw [hf]; exact hn) e H1 k r he
      rwa [hf] at this
    refine r_ite (fun c1 => ?_) (fun c1 => ?_)
    case refine_2 =>
      walk_at "sts"
      refine Er.r_msgS (by decide +kernel) (by decide +kernel) fun e he => ?_
      exact raise fL e H (fault_L (by omega)) fault_ne.1 (Keep.refl _ _) (.inl ed) he
    walk_at "sts"
    refine r_iteN (fun c2 => ?_) (fun c2 => ?_)
    case refine_1 =>
      walk_at "sts"
      refine Er.r_msgS (by decide +kernel) (by decide +kernel) fun e he => ?_
      exact raise fL e H (fault_L (by omega)) fault_ne.1 (Keep.refl _ _) (.inl ed) he
    have hl : 1 ≤ l ∧ l ≤ 12 := ⟨c1, by omega⟩
    walk_at "sts"
    have ndk : d ≠ x := by rintro rfl; cases (hx.symm.trans ed)
    refine forKT_go ed (fun od Q' hQ => r_var rfl hQ) (fun od i σ' H' => ∃ y1 y2 : Option V, σ' = [some (.ref x), some (.int l), some (.ref d), y1, y2, none, none] ∧ H' = upd H d (.frz od (.dT (kvG V.str m))) ∧ ∀ p ∈ m.take i, badC l p.1 = false) (fun od => ⟨_, _, by first | exact rfl | trivial, rfl, by simp⟩) (fun od i σ' H' h => by obtain ⟨_, _, _, rfl, _⟩ := h; exact upd_same) ?_ ?_
    · rintro od i k v q σ' H' at1 tup ⟨y1, y2, rfl, rfl, ok⟩
      obtain ⟨p, hp, rfl, rfl⟩ := get_kvG at1
      have fin : badC l p.1 = true → ∀ e, (upd H d (.frz od (.dT (kvG V.str m)))) e = none → E (.ref T.C_BadTable) (some e) (upd (upd H d (.frz od (.dT (kvG V.str m)))) e (.xd [("fault", .str fC)])) := fun hb e he =>
        raise fC e _ (fault_C hl (List.any_eq_true.mpr ⟨p, List.mem_of_getElem? hp, hb⟩)) fault_ne.2.1 (Keep.at (by simp)) (.inr ⟨od, upd_same⟩) he
      have good : badC l p.1 = false → ∀ z ∈ m.take (i + 1), badC l z.1 = false := fun hb z hz => by
        rw [take_snoc hp, List.mem_append, List.mem_singleton] at hz
        rcases hz with hz | rfl
        · exact ok z hz
        · exact hb
      refine r_gTup2 (x := .int p.1.1) (y := .int p.1.2) (sqT_of tup) ?_
      simp only [List.set_cons_zero, List.set_cons_succ]
      walk_at "sts"
      refine r_ite (fun c1 => ?_) (fun c1 => ?_)
      · walk_at "sts"
        refine Er.r_msgS (by decide +kernel) (by decide +kernel) fun e he => fin (by unfold badC; rw [decide_eq_true c1]; rfl) e he
      walk_at "sts"
      refine r_ite (fun c2 => ?_) (fun c2 => ?_)
      · walk_at "sts"
        refine Er.r_msgS (by decide +kernel) (by decide +kernel) fun e he => fin (by unfold badC; rw [decide_eq_true c2]; simp) e he
      walk_at "sts"
      refine r_ite (fun c3 => ?_) (fun c3 => ?_)
      case refine_2 =>
        walk_at "sts"
        refine Er.r_msgS (by decide +kernel) (by decide +kernel) fun e he => fin (by unfold badC; rw [decide_eq_false c3]; simp) e he
      walk_at "sts"
      refine r_iteN (fun c4 => ?_) (fun c4 => ?_)
      · walk_at "sts"
        refine Er.r_msgS (by decide +kernel) (by decide +kernel) fun e he => fin (by unfold badC; rw [decide_eq_false c4]; simp) e he
      walk_at "sts"
      exact ⟨_, _, by first | exact rfl | trivial, rfl, good (by unfold badC; rw [decide_eq_false c1, decide_eq_false c2, decide_eq_true c3, decide_eq_true c4]; rfl)⟩
    rintro od σ' H' ⟨y1, y2, rfl, rfl, okc⟩
    rw [len_kvG, List.take_length] at okc
    have nb : ¬ (m.any fun p => badC l p.1) = true := fun h => by
      obtain ⟨p, hp, e⟩ := List.any_eq_true.mp h
      rw [okc p hp] at e; cases e
    rw [upd_back ed]
    walk_at "sts"
    refine forVT_go ed (fun od Q' hQ => r_var rfl hQ) (fun od i σ' H' => ∃ y3 : Option V, σ' = [some (.ref x), some (.int l), some (.ref d), y1, y2, y3, none] ∧ H' = upd H d (.frz od (.dT (kvG V.str m))) ∧ ∀ p ∈ m.take i, isW p.2 = true) (fun od => ⟨_, by first | exact rfl | trivial, rfl, by simp⟩) (fun od i σ' H' h => by obtain ⟨_, _, rfl, _⟩ := h; exact upd_same) ?_ ?_
    · rintro od i k v σ' H' at1 ⟨y3, rfl, rfl, ok⟩
      obtain ⟨p, hp, rfl, rfl⟩ := get_kvG at1
      have e1 : inV (V.str p.2) [V.str wR, V.str wM, V.str wU] = isW p.2 := by
        unfold inV isW
        simp only [List.any_cons, List.any_nil, Bool.or_false, eqV_dec]
      walk_at "sts"
      refine ⟨_, _, rfl, .inr T.t_WORDS.at, rfl, flat_ws, ?_⟩
      rw [show inV (V.str p.2) [V.str "reached", V.str "missed", V.str "unsure"] = isW p.2 from e1, if_pos rfl]
      cases hw : isW p.2 with
      | true =>
        walk_at "sts"
        refine ⟨_, by first | exact rfl | trivial, rfl, fun z hz => ?_⟩
        rw [take_snoc hp, List.mem_append, List.mem_singleton] at hz
        rcases hz with hz | rfl
        · exact ok z hz
        · exact hw
      | false =>
        walk_at "sts"
        refine Er.r_msgS (by decide +kernel) (by decide +kernel) fun e he => ?_
        exact raise fW e _ (fault_W hl nb (List.any_eq_true.mpr ⟨p, List.mem_of_getElem? hp, by rw [hw]; rfl⟩)) fault_ne.2.2.1 (Keep.at (by simp)) (.inr ⟨od, upd_same⟩) he
    rintro od σ' H' ⟨y3, rfl, rfl, okw⟩
    rw [len_kvG, List.take_length] at okw
    have nw : ¬ (m.any fun p => !isW p.2) = true := fun h => by
      obtain ⟨p, hp, e⟩ := List.any_eq_true.mp h
      rw [okw p hp] at e; cases e
    rw [upd_back ed]
    obtain ⟨L, rfl⟩ : ∃ L : Nat, l = L := ⟨l.toNat, by omega⟩
    walk_at "sts"
    refine ⟨d, L, m, rfl, by omega, ed, fun q cs H1 k1 nq ⟨as, eq, ca⟩ pm _ => ?_⟩
    refine forL_go (fun i σ' H' => ∃ y4 y5 : Option V, σ' = [some (.ref x), some (.int L), some (.ref d), y4, y5, y3, none] ∧ Keep [] H1 H' ∧ ∀ c ∈ cs.take i, gapC L m c = false) (sqL_of eq) ⟨_, _, by first | exact rfl | trivial, Keep.refl _ _, by simp⟩ (fun i σ' H' _ h => by obtain ⟨_, _, _, k, _⟩ := h; exact sqL_of (k _ _ (by simp) eq)) ?_ ?_
    · rintro i v σ' H2 hv ⟨y4, y5, rfl, k2, ok⟩
      obtain ⟨b, hb, rfl⟩ := getRef hv
      obtain ⟨c, hc, eb⟩ := ca.get hb
      have good : gapC L m c = false → ∀ z ∈ cs.take (i + 1), gapC L m z = false := fun hb z hz => by
        rw [take_snoc hc, List.mem_append, List.mem_singleton] at hz
        rcases hz with hz | rfl
        · exact ok z hz
        · exact hb
      refine r_gTup2 (x := .int c.1) (y := .int c.2) (sqT_of (k2 _ _ (by simp) eb)) ?_
      simp only [List.set_cons_zero, List.set_cons_succ]
      walk_at "sts"
      refine r_ite (fun c1 => ?_) (fun c1 => ?_)
      · walk_at "sts"
        intro u hu
        have k3 : Keep [] H2 (upd H2 u (.tup [.int c.1, .int c.2])) := Keep.new hu
        have eu : upd H2 u (.tup [.int c.1, .int c.2]) u = some (cHO c) := upd_same
        generalize upd H2 u (.tup [.int c.1, .int c.2]) = H3 at k3 eu ⊢
        have k13 := k1.trans (k2.trans k3)
        walk_at "sts"
        refine r_dinT (f := V.str) (g := fun b => !b) (k13 _ _ (by simp) ed) eu ?_
        cases hM : hasA m c with
        | true =>
          walk_at "sts"
          exact ⟨_, _, by first | exact rfl | trivial, k2.trans k3, good (by unfold gapC; rw [hM]; simp)⟩
        | false =>
          walk_at "sts"
          refine Er.r_msgS (by decide +kernel) (by decide +kernel) fun e he => ?_
          refine raise fG e _ (fault_G hl nb nw ?_) fault_ne.2.2.2 (k13.mono (by simp)) (.inl (k13 _ _ (by simp) ed)) he
          exact List.any_eq_true.mpr ⟨c, pm.mem_iff.mp (List.mem_of_getElem? hc), by unfold gapC; rw [hM, decide_eq_true (by rw [c1]; omega)]; rfl⟩
      · walk_at "sts"
        exact ⟨_, _, by first | exact rfl | trivial, k2, good (by unfold gapC; rw [decide_eq_false c1]; rfl)⟩
    rintro σ' H2 ⟨y4, y5, rfl, k2, okg⟩
    have lc := ca.len
    rw [List.length_map, lc, List.take_length] at okg
    have ng : ¬ gapB (L : Int).toNat m = true := fun h => by
      obtain ⟨c, hc, e⟩ := List.any_eq_true.mp h
      have e2 : (((L : Int).toNat : Nat) : Int) = L := by omega
      rw [e2, okg c (pm.mem_iff.mpr hc)] at e; cases e
    have k12 := k1.trans k2
    have ex := k12 _ _ (by simp) hx
    have ed2 := k12 _ _ (by simp) ed
    walk_at "sts"
    rw [show putF (Str.ofString "limit") (V.int L) [] = [((Str.ofString "limit"), .int L)] from rfl]
    have kx : Keep [x] H2 (upd H2 x (.ins T.C_Table dx [((Str.ofString "limit"), .int L)])) := Keep.at (by simp)
    have ex3 : upd H2 x (.ins T.C_Table dx [((Str.ofString "limit"), .int L)]) x = some (.ins T.C_Table dx [((Str.ofString "limit"), .int L)]) := upd_same
    have ed3 := kx _ _ (by simpa using ndk) ed2
    generalize upd H2 x (.ins T.C_Table dx [((Str.ofString "limit"), .int L)]) = H3 at kx ex3 ed3 ⊢
    walk_at "sts"
    refine r_copyT ed3 (nodup_kvG nd) (by rw [len_kvG]; omega) (fun od Q' hQ => r_var rfl hQ) (fun _ _ => rfl) (fun _ _ => rfl) (fun _ _ => rfl) fun D H4 k4 nD eD => ?_
    have ex4 := k4 _ _ (by simp) ex3
    walk_at "sts"
    rw [put2T]
    have nDx : D ≠ x := by rintro rfl; rw [ex4] at eD; cases eD
    have k5 : Keep [x] H4 (upd H4 x (.ins T.C_Table dx [(Str.ofString "limit", .int L), (Str.ofString "marks", .ref D)])) := Keep.at (by simp)
    exact qm (fault_0 hl nb nw ng) _ ((k12.mono (by simp)).trans (kx.trans ((k4.mono (by simp)).trans k5))) ⟨dx, D, upd_same, k5 _ _ (by simpa using nDx) eD⟩
end
/-! ### word_after, whatever the string -/
open Tab (cnt)
def ForS (G : TG) (ts : TS) (D : L2.Ends) (σ : L2.St) (v : V) (H : Hp) : Prop := ∃ z, v = .str z ∧ ∃ W : Nat → Nat → L2.St → Hp → Prop, (∃ m, W 0 m σ H) ∧ ∀ i m σ H, W i m σ H →
  ((Its z).stop i H ∧ D.nx σ H) ∨ ((Its z).go i H ∧ ∃ N : L2.St → Hp → Prop, (∀ σ' H', N σ' H' → ∃ m', m' < m ∧ W (i + 1) m' σ' H') ∧ ∀ x H', (Its z).yld i H x H' → G x σ H' fun σ2 H2 => ts { D with nx := N, ct := N, bk := D.nx } σ2 H2)
section
variable {G : TG} {ts : TS} {D : L2.Ends} {σ : L2.St} {H : Hp} {tl : TE}
theorem r_forS (k : tl σ H fun x H1 => ForS G ts D σ x H1) : tFor (iStr tl) G ts D σ H := k
theorem forS_go {s : List Nat} (Pv : Nat → L2.St → Hp → Prop) (h0 : Pv 0 σ H) (hs : ∀ (i : Nat) c σ' H', s[i]? = some c → Pv i σ' H' → G (.str (strL [c])) σ' H' fun σ2 H2 => ts { D with nx := Pv (i + 1), ct := Pv (i + 1), bk := D.nx } σ2 H2)
    (hd : ∀ σ' H', Pv s.length σ' H' → D.nx σ' H') : ForS G ts D σ (.str (strL s)) H :=
  ⟨strL s, rfl, for_it (walk_str (z := strL s)) Pv h0 (fun _ _ _ _ _ => True.intro) (fun i x σ' H1 H' hi p ⟨e, c, hc, hx⟩ => by
    subst e; subst hx
    exact hs i c σ' _ (by simpa [strL] using hc) p) fun σ' H' p => hd σ' H' (by simpa [strL] using p)⟩
end
theorem dget1T {m : Ends} {H : Hp} {p q : Addr} {c : Ct} (h : H p = some (.dT (kvG V.str m))) (hq : H q = some (cHO c)) : DGet H p (.ref q) ((getA m c).map V.str) := by
  have := DGet.t (k := ck c) h hq
  rw [val_kvG] at this
  exact this
theorem r_dget1 {td ty : TE} {σ : L2.St} {H : Hp} {Q : VK} (k : td σ H fun x H1 => ∃ a, x = .ref a ∧ IsD H1 a ∧ ty σ H1 fun y H2 => ∃ o, DGet H2 a y o ∧ Q (o.getD .non) H2) : tDGet1 td ty σ H Q := k
theorem oS_map {o : Option Str} : (o.map V.str).getD .non = oS o := by cases o <;> rfl
def sV (s : List Nat) : V := .str (strL s)
theorem r_inA {K : PySem.W.Frag} {x : V} {p : Addr} {xs : List V} {H : Hp} {Q : VK} (hq : SqL K H p xs ∨ SqT K H p xs) (fx : L2.flatV x = true) (fs : xs.all L2.flatV = true) (k : Q (.bl (L2.inV x xs)) H) : rIn K false x (.ref p) H Q := ⟨p, xs, rfl, hq, fx, fs, k⟩
theorem strL_inj {s t : List Nat} (h : strL s = strL t) : s = t := by
  have := congrArg (fun x : Str => x.cps.toList) h
  simpa [strL] using this
theorem inV_s {s : List Nat} {us : List (List Nat)} : L2.inV (.str (strL s)) (us.map sV) = true ↔ s ∈ us := by
  unfold L2.inV
  rw [List.any_map, List.any_eq_true]
  constructor
  · rintro ⟨u, hu, e⟩
    have e2 : strL u = strL s := by simpa [sV, Function.comp, L2.eqV] using e
    rw [← strL_inj e2]; exact hu
  · intro h; exact ⟨s, h, by simp [sV, Function.comp, L2.eqV]⟩
def wordRun (m : Ends) : List Nat → Ct → Option Ct
  | [], c => some c
  | x :: s, c => if (x = 114 ∨ x = 109) ∧ hasA m c = false then wordRun m s (Tab.one c x) else none
theorem wordRun_go {m : Ends} {x : Nat} {s : List Nat} {c : Ct} (h : x = 114 ∨ x = 109) (n : hasA m c = false) : wordRun m (x :: s) c = wordRun m s (Tab.one c x) := by
  show (if (x = 114 ∨ x = 109) ∧ hasA m c = false then _ else _) = _
  rw [if_pos ⟨h, n⟩]
theorem wordRun_stop {m : Ends} {x : Nat} {s : List Nat} {c : Ct} (h : ¬ ((x = 114 ∨ x = 109) ∧ hasA m c = false)) : wordRun m (x :: s) c = none := by
  show (if (x = 114 ∨ x = 109) ∧ hasA m c = false then _ else _) = _
  rw [if_neg h]
theorem drop_of {α : Type} {s : List α} {i : Nat} {x : α} (h : s[i]? = some x) : s.drop i = x :: s.drop (i + 1) := by
  obtain ⟨lt, e⟩ := List.getElem?_eq_some_iff.mp h
  rw [List.drop_eq_getElem_cons lt, e]
def TextOk (s : List Nat) : Prop := s.length ≤ 1000 ∧ ∀ c ∈ s, c < 0x110000
theorem text_len {s : List Nat} (h : TextOk s) : (reprText (strL s)).length ≤ 100000 ∧ (strL s).length ≤ 100000 := by
  have e : (strL s).cps.toList = s := by simp [strL]
  have := PySem.StrLaws.reprText_len (strL s) (by rw [e]; exact fun c hc => Nat.lt_trans (h.2 c hc) (by decide))
  rw [strL_len] at *
  have := h.1
  omega
theorem text_flat {s : List Nat} (h : TextOk s) : flatV (.str (strL s)) = true := by
  show ((strL s).cps.all fun c => decide (c < 0x110000)) = true
  rw [Array.all_eq_true']
  intro c hc
  have : c ∈ s := by simpa [strL] using hc
  exact decide_eq_true (h.2 c this)
def spWordX (C CB : Addr) : Sp := fun vs H Q E => ∃ (x : Addr) (L : Nat) (m : Ends) (s : List Nat), vs = [.ref x, .str (strL s)] ∧ TableAt C H x L m ∧ TextOk s ∧ (∀ c, wordRun m s (0, 0) = some c → ∀ H', Keep [] H H' → Q (oS (getA m c)) H') ∧
  (wordRun m s (0, 0) = none → ∀ e H1, Keep [] H H1 → H1 e = none → E (.ref CB) (some e) (upd H1 e (.xd [("tries", .str (strL s))])))
theorem inRM {c : Nat} : L2.inV (.str (strL [c])) [.str (strL [114]), .str (strL [109])] = (decide (c = 114) || decide (c = 109)) := by
  rw [Bool.eq_iff_iff, Bool.or_eq_true, decide_eq_true_eq, decide_eq_true_eq]
  have := inV_s (s := [c]) (us := [[114], [109]])
  exact this.trans (by simp)
section
variable {w : World} {K : PySem.W.Frag} {mg : Str → Option Value} {base : Heap}
theorem ok_wordX (T : Tx K mg) : FnOk PG w K mg base (L2.CX PG w) 1 T.f_Table_word_after T.fd_Table_word_after ["self", "tries"] (spWordX T.C_Table T.C_BadTries) := by
  refine T.F_Table_word_after.okX sc_Table_word_after (fun vs H Q E h => ?_) (fun cdv A outer sh H vs Q E hr h => ?_)
  · obtain ⟨x, L, m, s, rfl, _⟩ := h; rfl
  · obtain ⟨x, L, m, s, rfl, tab, ts, qm, qf⟩ := h
    obtain ⟨dx, d, ex, ed⟩ := id tab
    have oc := T.oc_Table
    have nm := T.na_Table_marks
    have tk0 : Takes (cxOf (L2.CX PG w) PG w K mg base ["self", "tries", "reached", "missed", "one"] "Table.word_after" (defScope s_Table_word_after) T.f_Table_word_after cdv A outer sh H E) (fun cls d _ H => E cls d H) := takes_of rfl rfl rfl rfl
    refine ⟨_, (pss_cons (ps_asg (pe_tup (pa_cons pe_int (pa_cons pe_int pa_nil))) (pg_tup (n := 2) rfl (pgs_cons (pg_name (i := 2) sc_Table_word_after.nd rfl (Or.inl rfl)) (pgs_cons (pg_name (i := 3) sc_Table_word_after.nd rfl (Or.inl rfl)) pgs_nil))))
    (pss_cons (ps_for (passes_of rfl) rfl (pi_str (pv 1)) (pg_name (i := 4) sc_Table_word_after.nd rfl (Or.inl rfl))
    (pss_cons (ps_if (PW.pt (pw_or (pt_cmpR op_notIn_seq (pv 4) (pe_tup (pa_cons pe_str (pa_cons pe_str pa_nil))) (by rfl)) (pw_or1 (pt_cmp (pc_din (hu_of hr) (pe_tup (pa_cons (pv 2) (pa_cons (pv 3) pa_nil))) (pe_fld (pv 0) rfl))))))
    (pss_one (Er.ps_raise1 rfl (T.Z_BadTries w) hr tk0 (pa_cons (pv 1) pa_nil)))
    pss_nil)
    (pss_one (ps_if (pt_cmpR op_eq (pv 4) pe_str (nomark _))
    (pss_one (ps_aug (i := 2) sc_Table_word_after.nd rfl (Or.inl rfl) pe_int ip_add))
    (pss_one (ps_aug (i := 3) sc_Table_word_after.nd rfl (Or.inl rfl) pe_int ip_add))))))
    (pss_one (ps_ret (pe_dget1 (hu_of hr) (pe_fld (pv 0) rfl) (pe_tup (pa_cons (pv 2) (pa_cons (pv 3) pa_nil))) ⟨rfl, rfl, rfl, rfl⟩))))), ?_⟩
    walk_at "start"
    walk_at "sts"
    intro t0 ht0
    have k0 : Keep [] H (upd H t0 (.tup [.int 0, .int 0])) := Keep.new ht0
    have et0 : upd H t0 (.tup [.int 0, .int 0]) t0 = some (.tup [.int 0, .int 0]) := upd_same
    generalize upd H t0 (.tup [.int 0, .int 0]) = H0 at k0 et0 ⊢
    refine r_gTup2 (sqT_of et0) ?_
    simp only [List.set_cons_zero, List.set_cons_succ]
    walk_at "sts"
    refine r_forS ?_
    walk_at "sts"
    refine forS_go (fun i σ' H' => ∃ (n : Ct) (y4 : Option V), σ' = [some (.ref x), some (.str (strL s)), some (.int n.1), some (.int n.2), y4] ∧ wordRun m s (0, 0) = wordRun m (s.drop i) n ∧ Keep [] H H') ⟨(0, 0), _, by first | exact rfl | trivial, rfl, k0⟩ ?_ ?_
    · rintro i c σ' H1 hc ⟨n, y4, rfl, hrun, k1⟩
      rw [drop_of hc] at hrun
      have ex1 := k1 _ _ (by simp) ex
      have stop : ∀ H2, Keep [] H H2 → ¬ ((c = 114 ∨ c = 109) ∧ hasA m n = false) → ∀ e, H2 e = none → E (.ref T.C_BadTries) (some e) (upd H2 e (.xd [("tries", .str (strL s))])) := fun H2 k2 hn e he => qf (hrun.trans (wordRun_stop hn)) e H2 k2 he
      walk_at "sts"
      intro p hp
      have k2 : Keep [] H1 (upd H1 p (.tup [.str (strL [114]), .str (strL [109])])) := Keep.new hp
      have ep : upd H1 p (.tup [.str (strL [114]), .str (strL [109])]) p = some (.tup [.str (strL [114]), .str (strL [109])]) := upd_same
      rw [str_r, str_m]
      generalize upd H1 p (.tup [.str (strL [114]), .str (strL [109])]) = H2 at k2 ep ⊢
      refine ⟨p, _, rfl, .inr (sqT_of ep), rfl, rfl, ?_⟩
      rw [inRM, if_pos rfl]
      by_cases hx : c = 114 ∨ c = 109
      case neg =>
        rw [show (decide (c = 114) || decide (c = 109)) = false by simpa using hx]
        walk_at "sts"
        refine Er.r_msgS (text_len ts).1 (text_len ts).2 fun e he => ?_
        exact stop H2 (k1.trans k2) (fun z => hx z.1) e he
      rw [show (decide (c = 114) || decide (c = 109)) = true by simpa using hx]
      walk_at "sts"
      intro u hu
      have k3 : Keep [] H2 (upd H2 u (.tup [.int n.1, .int n.2])) := Keep.new hu
      have eu : upd H2 u (.tup [.int n.1, .int n.2]) u = some (cHO n) := upd_same
      generalize upd H2 u (.tup [.int n.1, .int n.2]) = H3 at k3 eu ⊢
      have k13 := k1.trans (k2.trans k3)
      have ex3 := k13 _ _ (by simp) ex
      have ed3 : EndsAt H3 d m := k13 _ _ (by simp) ed
      walk_at "sts"
      refine r_dinT (f := V.str) ed3 eu ?_
      cases hm : hasA m n with
      | true =>
        rw [show id true = true from rfl]
        walk_at "sts"
        refine Er.r_msgS (text_len ts).1 (text_len ts).2 fun e he => ?_
        exact stop H3 k13 (fun z => by rw [hm] at z; cases z.2) e he
      | false =>
        rw [show id false = false from rfl]
        rw [wordRun_go hx hm] at hrun
        walk_at "sts"
        rcases hx with rfl | rfl
        · refine r_ite (fun c1 => ?_) (fun c1 => (c1 rfl).elim)
          refine r_augC rfl ?_
          simp only [List.set_cons_zero, List.set_cons_succ]
          exact ⟨Tab.one n 114, _, by first | exact rfl | trivial, hrun, k13⟩
        · refine r_ite (fun c1 => absurd (strL_inj c1) (show ¬ ([109] : List Nat) = [114] by decide)) (fun c1 => ?_)
          refine r_augC rfl ?_
          simp only [List.set_cons_zero, List.set_cons_succ]
          exact ⟨Tab.one n 109, _, by first | exact rfl | trivial, hrun, k13⟩
    · rintro σ' H1 ⟨n, y4, rfl, hrun, k1⟩
      rw [List.drop_length] at hrun
      have ex1 := k1 _ _ (by simp) ex
      have ed1 : EndsAt H1 d m := k1 _ _ (by simp) ed
      walk_at "sts"
      refine r_dget1 ?_
      walk_at "sts"
      refine ⟨d, rfl, .inr ⟨_, .inl ed1⟩, ?_⟩
      walk_at "sts"
      intro u hu
      have k3 : Keep [] H1 (upd H1 u (.tup [.int n.1, .int n.2])) := Keep.new hu
      have eu : upd H1 u (.tup [.int n.1, .int n.2]) u = some (cHO n) := upd_same
      have ed3 : EndsAt (upd H1 u (.tup [.int n.1, .int n.2])) d m := k3 _ _ (by simp) ed1
      refine ⟨_, dget1T ed3 eu, ?_⟩
      rw [oS_map]
      exact qm n hrun _ (k1.trans k3)
end
/-! ### == of tables -/
theorem ct_nodup_len : ∀ {l xs : List Ct}, l.Nodup → (∀ x ∈ l, x ∈ xs) → l.length ≤ xs.length
  | [], _, _, _ => Nat.zero_le _
  | x :: l, xs, n, h => by
    have hx := h x (by simp)
    have := ct_nodup_len (l := l) (xs := xs.erase x) (List.nodup_cons.mp n).2 fun y hy => (List.mem_erase_of_ne (fun e => (List.nodup_cons.mp n).1 (by rw [← e]; exact hy))).mpr (h y (by simp [hy]))
    rw [List.length_erase_of_mem hx] at this
    have := List.length_pos_of_mem hx
    rw [List.length_cons]; omega
theorem ct_sup {l xs : List Ct} (n : l.Nodup) (h : ∀ x ∈ l, x ∈ xs) (le : xs.length ≤ l.length) : ∀ x ∈ xs, x ∈ l := fun x hx => by
  by_cases e : x ∈ l
  · exact e
  · have := ct_nodup_len (l := x :: l) (xs := xs) (List.nodup_cons.mpr ⟨e, n⟩) fun y hy => by
      rcases List.mem_cons.mp hy with rfl | hy
      · exact hx
      · exact h y hy
    rw [List.length_cons] at this; omega
def sameB (m n : Ends) : Bool := Dt.mapEq (kvG V.str m) (kvG V.str n)
theorem eqB_iff {n : Ends} {p : Ct × Str} : Dt.eqB (kvG V.str n) (ck p.1, V.str p.2) = true ↔ getA n p.1 = some p.2 := by
  unfold Dt.eqB
  rw [val_kvG]
  cases e : getA n p.1 with
  | none => simp
  | some w =>
    show L2.eqV (.str p.2) (.str w) = true ↔ _
    rw [eqV_dec]
    simp
theorem sameB_iff {m n : Ends} (nm : (m.map (·.1)).Nodup) (nn : (n.map (·.1)).Nodup) : sameB m n = true ↔ ∀ c, getA m c = getA n c := by
  have all : sameB m n = true ↔ m.length = n.length ∧ ∀ p ∈ m, getA n p.1 = some p.2 := by
    unfold sameB Dt.mapEq
    rw [Bool.and_eq_true, decide_eq_true_eq, List.all_eq_true, len_kvG, len_kvG]
    refine and_congr Iff.rfl ⟨fun h p hp => ?_, fun h z hz => ?_⟩
    · exact eqB_iff.mp (h (ck p.1, V.str p.2) (List.mem_map.mpr ⟨p, hp, rfl⟩))
    · obtain ⟨p, hp, rfl⟩ := List.mem_map.mp hz
      exact eqB_iff.mpr (h p hp)
  rw [all]
  constructor
  · rintro ⟨le, h⟩ c
    have sub : ∀ x ∈ m.map (·.1), x ∈ n.map (·.1) := fun x hx => by
      obtain ⟨p, hp, rfl⟩ := List.mem_map.mp hx
      exact List.mem_map.mpr ⟨(p.1, p.2), mem_getA (h p hp), rfl⟩
    have sup := ct_sup nm sub (by rw [List.length_map, List.length_map]; omega)
    cases e : getA m c with
    | some w => exact (h (c, w) (mem_getA e)).symm
    | none =>
      cases e2 : getA n c with
      | none => rfl
      | some w =>
        have := hasA_iff.mpr (sup c (List.mem_map.mpr ⟨(c, w), mem_getA e2, rfl⟩))
        unfold hasA at this
        rw [e] at this; cases this
  · intro h
    have kk : ∀ c, c ∈ m.map (·.1) ↔ c ∈ n.map (·.1) := fun c => by
      rw [← hasA_iff, ← hasA_iff]; unfold hasA; rw [h c]
    have l1 := ct_nodup_len nm fun x hx => (kk x).mp hx
    have l2 := ct_nodup_len nn fun x hx => (kk x).mpr hx
    rw [List.length_map, List.length_map] at l1 l2
    exact ⟨by omega, fun p hp => by rw [← h]; exact getA_mem nm hp⟩
theorem flat_kv {m : Ends} : ∀ z ∈ kvG V.str m, L2.flatV z.2 = true := fun z hz => by
  obtain ⟨y, _, rfl⟩ := List.mem_map.mp hz
  rfl
theorem r_eqM {H : Hp} {p q : Addr} {m n : Ends} {Q : VK} (hp : Rd H p (.dT (kvG V.str m))) (hq : Rd H q (.dT (kvG V.str n))) (k : Q (.bl (sameB m n)) H) : Dt.rCmpM false (.ref p) (.ref q) H Q := ⟨p, q, _, _, rfl, rfl, hp, hq, flat_kv, flat_kv, k⟩
theorem r_neM {H : Hp} {p q : Addr} {m n : Ends} {Q : VK} (hp : Rd H p (.dT (kvG V.str m))) (hq : Rd H q (.dT (kvG V.str n))) (k : Q (.bl (!sameB m n)) H) : Dt.rCmpM true (.ref p) (.ref q) H Q := ⟨p, q, _, _, rfl, rfl, hp, hq, flat_kv, flat_kv, k⟩
def spEq (C : Addr) : Sp := fun vs H Q _ => ∃ (x y : Addr) (L L2 : Nat) (m n : Ends), vs = [.ref x, .ref y] ∧ TableAt C H x L m ∧ TableAt C H y L2 n ∧ Q (.bl (decide (L = L2) && sameB m n)) H
section
variable {P : Program} {w : World} {K : PySem.W.Frag} {mg : Str → Option Value} {base : Heap}
theorem ok_eq (T : Tx K mg) : FnOk P w K mg base CX0 1 T.f_Table___eq T.fd_Table___eq ["self", "other"] (spEq T.C_Table) := by
  refine T.F_Table___eq.ok sc_Table___eq (fun vs H Q E h => ?_) (fun cdv A outer s H vs Q E hr h => ?_)
  · obtain ⟨x, y, L, L2, m, n, rfl, _⟩ := h; rfl
  · obtain ⟨x, y, L, L2, m, n, rfl, ⟨dx, d, ex, ed⟩, ⟨dy, e, ey, ee⟩, qq⟩ := h
    have oc := T.oc_Table
    have nl := T.na_Table_limit
    have nm := T.na_Table_marks
    refine ⟨_, PSs.nox (pss_one (ps_ret (pe_and (pe_callB call_isi (by rfl) T.m_isinstance (by decide +kernel) (pa_cons (pv 1) (pa_cons (pe_glob (v := .ref T.C_Table) rfl T.gC_Table rfl) pa_nil))) (pe_and (pe_cmpR op_eq (pe_fld (pv 0) rfl) (pe_fld (pv 1) rfl) (nomark _)) (pe_one (pe_cmpR (Dt.op_eqM (Nat.lt_of_le_of_lt (Nat.add_le_add_left (by decide : 1 ≤ 64) _) hr.units)) (pe_fld (pv 0) rfl) (pe_fld (pv 1) rfl) (nomark _))))))), ?_⟩
    walk_at "start"
    walk_at "sts"
    refine Ow.r_isiOwn oc ey ?_
    walk_at "sts"
    refine r_ite (fun c1 => ?_) (fun c1 => ?_)
    · rw [decide_eq_true (by omega), Bool.true_and] at qq
      walk_at "sts"
      exact r_eqM (.inl ed) (.inl ee) qq
    · rw [decide_eq_false (by omega), Bool.false_and] at qq
      walk_at "sts"
      exact qq
end
/-! ### the box of draws -/
def BoxAt (a : Addr) (H : Hp) : Prop := ∃ x b c : Int, H a = some (.lst [.int x, .int b, .int c]) ∧ 0 ≤ x
def spDr : Sp := fun vs H Q _ => ∃ (a : Addr) (n : Int), vs = [.ref a, .int n] ∧ BoxAt a H ∧ 0 < n ∧ n < 2 ^ 200 ∧ ∀ (r : Int) (H' : Hp), 0 ≤ r → r < n → Keep [a] H H' → BoxAt a H' → Q (.int r) H'
theorem r_dr {Q : VK} {E : XK} {H : Hp} {a : Addr} {n : Int} (hp : BoxAt a H) (h0 : 0 < n) (h1 : n < 2 ^ 200) (k : ∀ (r : Int) (H' : Hp), 0 ≤ r → r < n → Keep [a] H H' → BoxAt a H' → Q (.int r) H') : spDr [.ref a, .int n] H Q E := ⟨a, n, rfl, hp, h0, h1, k⟩
def spBox (K : PySem.W.Frag) : Sp := fun vs H Q _ => ∃ (p : Addr) (ns : List Int) (pl : Nat), vs = [.ref p, .int pl] ∧ SqL K H p (ns.map V.int) ∧ ns.length ≤ 63 ∧ pl ≤ 1 ∧ ∀ a H', Keep [] H H' → H a = none → BoxAt a H' → Q (.ref a) H'
def spIsInt : Sp := fun vs H Q _ => ∃ i : Int, vs = [.int i] ∧ Q (.bl true) H
def spLimit : Sp := fun vs H Q _ => ∃ a : Addr, vs = [.ref a] ∧ BoxAt a H ∧ ∀ (L : Nat) H', 1 ≤ L → L ≤ 12 → Keep [a] H H' → BoxAt a H' → Q (.int L) H'
def IsW (w : Str) : Prop := w = wR ∨ w = wM ∨ w = wU
def spWord : Sp := fun vs H Q _ => ∃ a : Addr, vs = [.ref a] ∧ BoxAt a H ∧ ∀ w H', IsW w → Keep [a] H H' → BoxAt a H' → Q (.str w) H'
theorem BoxAt.lst {a : Addr} {H : Hp} (h : BoxAt a H) : ∀ m ∈ [a], ∃ xs, H m = some (.lst xs) := fun m hm => by
  obtain ⟨x, b, c, e, _⟩ := h; rw [List.mem_singleton.mp hm]; exact ⟨_, e⟩
theorem BoxAt.ne {a p : Addr} {H : Hp} (h : BoxAt a H) (n : H p = none) : p ≠ a := by
  rintro rfl; obtain ⟨x, b, c, e, _⟩ := h; rw [e] at n; cases n
theorem BoxAt.ned {a p : Addr} {H : Hp} {kvs : Dt.Tb} (h : BoxAt a H) (n : H p = some (.dT kvs)) : p ≠ a := by
  rintro rfl; obtain ⟨x, b, c, e, _⟩ := h; rw [e] at n; cases n
theorem BoxAt.keep0 {a : Addr} {H H' : Hp} (h : BoxAt a H) (k : Keep [] H H') : BoxAt a H' := by
  obtain ⟨x, b, c, e, g⟩ := h; exact ⟨x, b, c, k _ _ (by simp) e, g⟩
theorem BoxAt.put {a p : Addr} {o : HO} {H : Hp} (h : BoxAt a H) (n : p ≠ a) : BoxAt a (upd H p o) := by
  obtain ⟨x, b, c, e, g⟩ := h; exact ⟨x, b, c, by rw [upd_ne n.symm]; exact e, g⟩
theorem BoxAt.new {a p : Addr} {o : HO} {H : Hp} (h : BoxAt a H) (n : H p = none) : BoxAt a (upd H p o) := h.put (h.ne n)
section
variable {P : Program} {w : World} {K : PySem.W.Frag} {mg : Str → Option Value} {base : Heap}
theorem ok_take (T : Tx K mg) : FnOk P w K mg base CX0 1 T.f_w_take T.fd_w_take ["_law_box_here", "_law_size"] spDr := by
  refine T.F_w_take.ok sc_w_take (fun vs H Q E h => ?_) (fun cdv A outer s H vs Q E hr h => ?_)
  · obtain ⟨a, n, rfl, _⟩ := h; rfl
  · obtain ⟨a, n, rfl, ⟨x, b, c, ea, hx⟩, h0, h1, qq⟩ := h
    refine ⟨_, (pss_cons (ps_if (pt_cmpR op_gt (pe_ix ix_list (pv 0) pe_int (fun _ _ => rfl)) pe_int (nomark _))
    (pss_cons (ps_set (i := 2) sc_w_take.nd rfl (Or.inl rfl) (pe_op op_mod (pe_callTy call_int1 (by rfl) T.m_int (by decide +kernel) (pa_cons (pe_ix ix_list (pv 0) pe_int (fun _ _ => rfl)) pa_nil)) (pv 1)))
    (pss_cons (ps_asg (pe_op op_fdivWN (pe_callTy call_int1 (by rfl) T.m_int (by decide +kernel) (pa_cons (pe_ix ix_list (pv 0) pe_int (fun _ _ => rfl)) pa_nil)) (pv 1)) (pg_sub (pv 0) pe_int set_list))
    (pss_one (ps_ret (pv 2)))))
    pss_nil)
    (pss_cons (ps_asg (pe_op op_add (pe_ix ix_list (pv 0) pe_int (fun _ _ => rfl)) pe_int) (pg_sub (pv 0) pe_int set_list))
    (pss_cons (ps_set (i := 3) sc_w_take.nd rfl (Or.inl rfl) (pe_op op_mod (pe_callTy call_int1 (by rfl) T.m_int (by decide +kernel) (pa_cons (pe_op op_add (pe_op op_mul (pe_callTy call_int1 (by rfl) T.m_int (by decide +kernel) (pa_cons (pe_ix ix_list (pv 0) pe_int (fun _ _ => rfl)) pa_nil)) pe_int) (pe_op op_mul (pe_callTy call_int1 (by rfl) T.m_int (by decide +kernel) (pa_cons (pe_ix ix_list (pv 0) pe_int (fun _ _ => rfl)) pa_nil)) pe_int)) pa_nil)) pe_int))
    (pss_cons (ps_set (i := 4) sc_w_take.nd rfl (Or.inl rfl) (pe_op op_mod (pe_callTy call_int1 (by rfl) T.m_int (by decide +kernel) (pa_cons (pe_op op_mulG (pv 3) (pe_op op_add (pe_op op_add (pe_op op_fdiv (pv 3) pe_int) (pe_callTy call_int1 (by rfl) T.m_int (by decide +kernel) (pa_cons (pe_ix ix_list (pv 0) pe_int (fun _ _ => rfl)) pa_nil))) pe_int)) pa_nil)) pe_int))
    (pss_one (ps_ret (pe_op op_mod (pe_callTy call_int1 (by rfl) T.m_int (by decide +kernel) (pa_cons (pe_op op_fdiv (pv 4) pe_int) pa_nil)) (pv 1)))))))), ?_⟩
    walk_at "start"
    walk_at "sts"
    refine r_ite (fun c1 => ?_) (fun c1 => ?_)
    · walk_at "sts"
      refine r_I ⟨by omega, log_ok 200 (by omega)⟩ ?_
      walk_at "sts"
      exact qq _ _ (Int.emod_nonneg _ (by omega)) (Int.emod_lt_of_pos _ h0) (Keep.at (by simp)) ⟨_, _, _, upd_same, Int.fdiv_nonneg (by omega) (by omega)⟩
    · walk_at "sts"
      exact qq _ _ (Int.emod_nonneg _ (by omega)) (Int.emod_lt_of_pos _ h0) (Keep.at (by simp)) ⟨x, b, c + 1, upd_same, hx⟩
theorem ok_isInt (T : Tx K mg) : FnOk P w K mg base CX0 1 T.f_w_is_integer T.fd_w_is_integer ["_law_value"] spIsInt := by
  refine T.F_w_is_integer.ok sc_w_is_integer (fun vs H Q E h => ?_) (fun cdv A outer s H vs Q E hr h => ?_)
  · obtain ⟨i, rfl, _⟩ := h; rfl
  · obtain ⟨i, rfl, qq⟩ := h
    refine ⟨_, (pss_one (ps_ret (pe_and (pe_callB call_isi (by rfl) T.m_isinstance (by decide +kernel) (pa_cons (pv 0) (pa_cons (pe_bltn (v := .ty "int") (by rfl) T.m_int (by decide +kernel) rfl) pa_nil))) (pe_one (pe_not (pe_callB call_isi (by rfl) T.m_isinstance (by decide +kernel) (pa_cons (pv 0) (pa_cons (pe_bltn (v := .ty "bool") (by rfl) T.m_bool (by decide +kernel) rfl) pa_nil)))))))), ?_⟩
    walk_at "start"
    walk_at "sts"
    exact qq
theorem ok_box (T : Tx K mg) : FnOk P w K mg base CX0 1 T.f_w_box T.fd_w_box ["_law_script", "_law_place"] (spBox K) := by
  refine T.F_w_box.ok sc_w_box (fun vs H Q E h => ?_) (fun cdv A outer s H vs Q E hr h => ?_)
  · obtain ⟨p, ns, pl, rfl, _⟩ := h; rfl
  · obtain ⟨p, ns, pl, rfl, hp, hn, hpl, qq⟩ := h
    have fin : ∀ (x b c : Int) (a : Addr), 0 ≤ x → H a = none → Q (.ref a) (upd H a (.lst [.int x, .int b, .int c])) := fun x b c a hx ha => qq a _ (Keep.new ha) ha ⟨x, b, c, upd_same, hx⟩
    refine ⟨_, (pss_cons (ps_if (PW.pt (pw_and (pt_cmpR op_lt (pv 1) (pe_callB call_len_seq (by rfl) T.m_len PySem.boot_len (pa_cons (pv 0) pa_nil)) (nomark _)) (pw_and1 (pt_cmpR op_ge (pe_ix ix_list (pv 0) (pv 1) (fun _ _ => rfl)) (pe_op op_pow pe_int pe_int) (nomark _)))))
    (pss_one (ps_ret (pe_lst (pa_cons (pe_ix ix_list (pv 0) (pv 1) (fun _ _ => rfl)) (pa_cons (pe_ix ix_list (pv 0) (pv 1) (fun _ _ => rfl)) (pa_cons (pe_op op_mul pe_int (pv 1)) pa_nil))))))
    pss_nil)
    (pss_cons (ps_if (pt_cmpR op_lt (pv 1) (pe_callB call_len_seq (by rfl) T.m_len PySem.boot_len (pa_cons (pv 0) pa_nil)) (nomark _))
    (pss_one (ps_ret (pe_lst (pa_cons pe_int (pa_cons (pe_ix ix_list (pv 0) (pv 1) (fun _ _ => rfl)) (pa_cons (pe_op op_mul pe_int (pv 1)) pa_nil))))))
    pss_nil)
    (pss_one (ps_ret (pe_lst (pa_cons pe_int (pa_cons (pe_callB (cr_sum rfl) (by rfl) T.m_sum (by decide +kernel) (pa_cons (pv 0) pa_nil)) (pa_cons (pe_op op_mul pe_int (pv 1)) pa_nil)))))))), ?_⟩
    walk_at "start"
    walk_at "sts"
    simp only [List.length_map]
    refine r_ite (fun c1 => ?_) (fun c1 => ?_)
    · walk_at "sts"
      refine r_ite (fun c2 => ?_) (fun c2 => ?_)
      · walk_at "sts"
        intro a ha
        exact fin _ _ _ a (by omega) ha
      · walk_at "sts"
        intro a ha
        exact fin _ _ _ a (by omega) ha
    · walk_at "sts"
      refine r_sum hp ?_
      walk_at "sts"
      intro a ha
      exact fin _ _ _ a (by omega) ha
theorem ok_limit (T : Tx K mg) (G_w_take : FnOk P w K mg base CX0 1 T.f_w_take T.fd_w_take ["_law_box_here", "_law_size"] spDr) : FnOk P w K mg base CX0 2 T.f_w_limit T.fd_w_limit ["_law_box_here"] spLimit := by
  refine T.F_w_limit.ok sc_w_limit (fun vs H Q E h => ?_) (fun cdv A outer s H vs Q E hr h => ?_)
  · obtain ⟨a, rfl, _⟩ := h; rfl
  · obtain ⟨a, rfl, hb, qq⟩ := h
    refine ⟨_, (pss_cons (ps_if (pt_cmpR op_eq (pe_call G_w_take (hr.mono (by decide)) rfl T.g_w_take T.F_w_take.kp T.b_w_take .nil pass0 (pa_cons (pv 0) (pa_cons pe_int pa_nil))) pe_int (nomark _))
    (pss_one (ps_ret (pe_op op_add pe_int (pe_call G_w_take (hr.mono (by decide)) rfl T.g_w_take T.F_w_take.kp T.b_w_take .nil pass0 (pa_cons (pv 0) (pa_cons pe_int pa_nil))))))
    pss_nil)
    (pss_one (ps_ret (pe_ix ix_list (pe_lst (pa_cons pe_int (pa_cons pe_int (pa_cons pe_int (pa_cons pe_int (pa_cons pe_int (pa_cons pe_int (pa_cons pe_int (pa_cons pe_int (pa_cons pe_int pa_nil)))))))))) (pe_call G_w_take (hr.mono (by decide)) rfl T.g_w_take T.F_w_take.kp T.b_w_take .nil pass0 (pa_cons (pv 0) (pa_cons pe_int pa_nil))) (fun _ _ => rfl))))), ?_⟩
    walk_at "start"
    walk_at "sts"
    refine r_dr hb (by omega) (by omega) fun n H1 a1 b1 k1 p1 => ?_
    walk_at "sts"
    refine r_ite (fun c1 => ?_) (fun c1 => ?_)
    · walk_at "sts"
      refine r_dr p1 (by omega) (by omega) fun n2 H2 a2 b2 k2 p2 => ?_
      walk_at "sts"
      have := qq (6 + n2.toNat) H2 (by omega) (by omega) (k1.trans k2) p2
      rwa [show ((6 + n2.toNat : Nat) : Int) = 6 + n2 by omega] at this
    · walk_at "sts"
      intro l hl
      have hb2 := p1.new (o := .lst [.int 1, .int 2, .int 3, .int 2, .int 4, .int 3, .int 5, .int 4, .int 5]) hl
      have el : upd H1 l (.lst [.int 1, .int 2, .int 3, .int 2, .int 4, .int 3, .int 5, .int 4, .int 5]) l = some (.lst (([1, 2, 3, 2, 4, 3, 5, 4, 5] : List Int).map V.int)) := upd_same
      have k2 : Keep [] H1 (upd H1 l (.lst [.int 1, .int 2, .int 3, .int 2, .int 4, .int 3, .int 5, .int 4, .int 5])) := Keep.new hl
      have nla := p1.ne hl
      generalize upd H1 l (.lst [.int 1, .int 2, .int 3, .int 2, .int 4, .int 3, .int 5, .int 4, .int 5]) = H2 at hb2 el k2 ⊢
      walk_at "sts"
      refine r_dr hb2 (by omega) (by omega) fun n2 H3 a2 b2 k3 p3 => ?_
      have el3 := k3 _ _ (by simpa using nla) el
      obtain ⟨j, rfl⟩ : ∃ j : Nat, n2 = j := ⟨n2.toNat, by omega⟩
      refine r_ixL (sqL_of el3) (atI_map (by omega) (by simp; omega)) ?_
      have hall : ∀ j : Nat, j < 9 → 1 ≤ ([1, 2, 3, 2, 4, 3, 5, 4, 5] : List Int).getD j 0 ∧ ([1, 2, 3, 2, 4, 3, 5, 4, 5] : List Int).getD j 0 ≤ 12 := by decide
      obtain ⟨g1, g2⟩ := hall j (by omega)
      obtain ⟨L, eL, h1, h2⟩ : ∃ L : Nat, ([1, 2, 3, 2, 4, 3, 5, 4, 5] : List Int).getD j 0 = (L : Int) ∧ 1 ≤ L ∧ L ≤ 12 := ⟨(([1, 2, 3, 2, 4, 3, 5, 4, 5] : List Int).getD j 0).toNat, by omega, by omega, by omega⟩
      have := qq L H3 h1 h2 (k1.trans ((k2.mono (by simp)).trans k3)) p3
      rw [← eL] at this
      walk_at "sts"
      exact this
theorem ok_word (T : Tx K mg) (G_w_take : FnOk P w K mg base CX0 1 T.f_w_take T.fd_w_take ["_law_box_here", "_law_size"] spDr) : FnOk P w K mg base CX0 2 T.f_w_word T.fd_w_word ["_law_box_here"] spWord := by
  refine T.F_w_word.ok sc_w_word (fun vs H Q E h => ?_) (fun cdv A outer s H vs Q E hr h => ?_)
  · obtain ⟨a, rfl, _⟩ := h; rfl
  · obtain ⟨a, rfl, hb, qq⟩ := h
    refine ⟨_, (pss_one (ps_ret (pe_ix ix_list (pe_lst (pa_cons pe_str (pa_cons pe_str (pa_cons pe_str pa_nil)))) (pe_call G_w_take (hr.mono (by decide)) rfl T.g_w_take T.F_w_take.kp T.b_w_take .nil pass0 (pa_cons (pv 0) (pa_cons pe_int pa_nil))) (fun _ _ => rfl)))), ?_⟩
    walk_at "start"
    walk_at "sts"
    intro l hl
    have hb2 := hb.new (o := .lst [.str wR, .str wM, .str wU]) hl
    have el : upd H l (.lst [.str wR, .str wM, .str wU]) l = some (.lst [.str wR, .str wM, .str wU]) := upd_same
    have k2 : Keep [] H (upd H l (.lst [.str wR, .str wM, .str wU])) := Keep.new hl
    have nla := hb.ne hl
    generalize upd H l (.lst [.str wR, .str wM, .str wU]) = H2 at hb2 el k2 ⊢
    walk_at "sts"
    refine r_dr hb2 (by omega) (by omega) fun n2 H3 a2 b2 k3 p3 => ?_
    have el3 := k3 _ _ (by simpa using nla) el
    have kk : Keep [a] H H3 := (k2.mono (by simp)).trans k3
    have hn : n2 = 0 ∨ n2 = 1 ∨ n2 = 2 := by omega
    rcases hn with rfl | rfl | rfl
    · walk_at "sts"
      exact qq _ H3 (.inl rfl) kk p3
    · walk_at "sts"
      exact qq _ H3 (.inr (.inl rfl)) kk p3
    · walk_at "sts"
      exact qq _ H3 (.inr (.inr rfl)) kk p3
end
/-! ### copies, entries, the last level -/
theorem Keep.dropNew {H H1 H2 : Hp} {D : Addr} (k1 : Keep [] H H1) (k2 : Keep [D] H1 H2) (n : H D = none) : Keep [] H H2 := fun b o _ e => k2 b o (by rw [List.mem_singleton]; rintro rfl; rw [n] at e; cases e) (k1 b o (by simp) e)
theorem dgetTL {α : Type} {f : α → V} {m : List (Ct × α)} {H : Hp} {p q : Addr} {o : Obj} {c : Ct} {x : α} (h : H p = some (.frz o (.dT (kvG f m)))) (hq : H q = some (cHO c)) (e : getA m c = some x) : DGet H p (.ref q) (some (f x)) :=
  .inr ⟨_, ck c, q, .inr ⟨o, h⟩, rfl, hq, by rw [val_kvG, e]; rfl⟩
theorem putA_take {α : Type} {m : List (Ct × α)} {i : Nat} {p : Ct × α} (nd : (m.map (·.1)).Nodup) (h : m[i]? = some p) : putA (m.take i) p.1 p.2 = m.take (i + 1) := by
  have fresh : p.1 ∉ (m.take i).map (·.1) := fun hp => by
    obtain ⟨q, hq, e⟩ := List.mem_map.mp hp
    obtain ⟨z, hz⟩ := List.getElem?_of_mem hq
    rw [List.getElem?_take] at hz
    split at hz
    · rename_i lt
      have h1 : (m.map (·.1))[z]? = some p.1 := by rw [List.getElem?_map, hz]; exact congrArg some e
      have h2 : (m.map (·.1))[i]? = some p.1 := by rw [List.getElem?_map, h]; rfl
      have := (List.getElem?_inj (List.getElem?_eq_some_iff.mp h1).1 nd).mp (h1.trans h2.symm)
      omega
    · cases hz
  unfold putA
  rw [if_neg (fun e => fresh (any_iff.mp e)), take_snoc h]
structure Pre (L : Nat) (m : Ends) : Prop where
  nd : (m.map (·.1)).Nodup
  key : ∀ p ∈ m, 0 ≤ p.1.1 ∧ 0 ≤ p.1.2 ∧ 1 ≤ p.1.1 + p.1.2 ∧ p.1.1 + p.1.2 ≤ (L : Int)
  word : ∀ p ∈ m, IsW p.2
theorem putA_mem {α : Type} {m : List (Ct × α)} {c : Ct} {x : α} {p : Ct × α} (h : p ∈ putA m c x) : p ∈ m ∨ p = (c, x) := by
  unfold putA at h
  split at h
  · obtain ⟨q, hq, e⟩ := List.mem_map.mp h
    split at e
    · rename_i g; right; rw [← e, ← g]
    · left; rw [← e]; exact hq
  · rcases List.mem_append.mp h with h | h
    · exact .inl h
    · exact .inr (List.mem_singleton.mp h)
theorem Pre.put {L : Nat} {m : Ends} {c : Ct} {wd : Str} (h : Pre L m) (hc : 0 ≤ c.1 ∧ 0 ≤ c.2 ∧ 1 ≤ c.1 + c.2 ∧ c.1 + c.2 ≤ (L : Int)) (hw : IsW wd) : Pre L (putA m c wd) :=
  ⟨putA_nodup h.nd, fun p hp => (putA_mem hp).elim (h.key p) fun e => by rw [e]; exact hc, fun p hp => (putA_mem hp).elim (h.word p) fun e => by rw [e]; exact hw⟩
def spCopy : Sp := fun vs H Q _ => ∃ (d : Addr) (m : Ends), vs = [.ref d] ∧ EndsAt H d m ∧ (m.map (·.1)).Nodup ∧ m.length ≤ 5000 ∧ ∀ D H', Keep [] H H' → H D = none → EndsAt H' D m → Q (.ref D) H'
def spEntries : Sp := fun vs H Q _ => ∃ (a : Addr) (L : Nat), vs = [.ref a, .int L] ∧ BoxAt a H ∧ 1 ≤ L ∧ L ≤ 12 ∧ ∀ D m H', Keep [a] H H' → BoxAt a H' → H D = none → EndsAt H' D m → Pre L m → m.length ≤ 90 → Q (.ref D) H'
section
variable {P : Program} {w : World} {K : PySem.W.Frag} {mg : Str → Option Value} {base : Heap}
theorem ok_copy (T : Tx K mg) : FnOk P w K mg base CX0 1 T.f_w_copy T.fd_w_copy ["_law_ends"] spCopy := by
  refine T.F_w_copy.ok sc_w_copy (fun vs H Q E h => ?_) (fun cdv A outer s H vs Q E hr h => ?_)
  · obtain ⟨d, m, rfl, _⟩ := h; rfl
  · obtain ⟨d, m, rfl, ed, nd, len, qq⟩ := h
    refine ⟨_, (pss_cons (ps_set (i := 1) sc_w_copy.nd rfl (Or.inl rfl) pe_dnewT)
    (pss_cons (ps_lock (ps_for PassesOwn.never rfl (pi_keys (pv 0)) (pg_name (i := 2) sc_w_copy.nd rfl (Or.inl rfl))
    (pss_one (ps_dput (hu_of hr) (pv 1) (pv 2) (pe_dget (hu_of hr) (pv 0) (pv 2) (fun _ _ => rfl)) rfl))))
    (pss_one (ps_ret (pv 1))))), ?_⟩
    walk_at "start"
    walk_at "sts"
    refine r_dnewT fun D hD => ?_
    have k1 : Keep [] H (upd H D (.dT [])) := Keep.new hD
    have eD : upd H D (.dT []) D = some (.dT (kvG V.str (m.take 0))) := by rw [upd_same]; simp [kvG]
    have ed1 := k1 _ _ (by simp) ed
    have nDd : D ≠ d := by rintro rfl; cases (hD.symm.trans ed)
    generalize upd H D (.dT []) = H1 at k1 eD ed1 ⊢
    walk_at "sts"
    refine forKT_go ed1 (fun od Q' hQ => r_var rfl hQ) (fun od i σ' H' => ∃ y : Option V, σ' = [some (.ref d), some (.ref D), y] ∧ H' D = some (.dT (kvG V.str (m.take i))) ∧ H' d = some (.frz od (.dT (kvG V.str m))) ∧ Keep [D] (upd H1 d (.frz od (.dT (kvG V.str m)))) H') (fun od => ⟨_, by first | exact rfl | trivial, by rw [upd_ne nDd]; exact eD, upd_same, Keep.refl _ _⟩) (fun od i σ' H' h => by obtain ⟨_, _, _, e, _⟩ := h; exact e) ?_ ?_
    · rintro od i k v q σ' H2 at1 tup ⟨y, rfl, eD2, ed2, k2⟩
      obtain ⟨p, hp, rfl, rfl⟩ := get_kvG at1
      have gp := getA_mem nd (List.mem_of_getElem? hp)
      walk_at "sts"
      refine ⟨d, _, rfl, dgetTL (f := V.str) ed2 tup gp, ?_⟩
      walk_at "sts"
      refine r_dputT eD2 tup (lt_size (by rw [len_kvG, List.length_take]; omega)) ?_
      rw [put_kvG, putA_take nd hp]
      exact ⟨_, by first | exact rfl | trivial, upd_same, by rw [upd_ne (Ne.symm nDd)]; exact ed2, k2.trans (Keep.at (by simp))⟩
    · rintro od σ' H2 ⟨y, rfl, eD2, ed2, k2⟩
      rw [len_kvG, List.take_length] at eD2
      have k3 : Keep [D] H1 (upd H2 d (.dT (kvG V.str m))) := Keep.unlock ed1 k2
      have eD3 : upd H2 d (.dT (kvG V.str m)) D = some (.dT (kvG V.str m)) := by rw [upd_ne nDd]; exact eD2
      walk_at "sts"
      exact qq D _ (k1.dropNew k3 hD) hD eD3
theorem ok_entries (T : Tx K mg) (G_w_take : FnOk P w K mg base CX0 1 T.f_w_take T.fd_w_take ["_law_box_here", "_law_size"] spDr) (G_w_word : FnOk P w K mg base CX0 2 T.f_w_word T.fd_w_word ["_law_box_here"] spWord) : FnOk P w K mg base CX0 3 T.f_w_entries T.fd_w_entries ["_law_box_here", "_law_limit_here"] spEntries := by
  refine T.F_w_entries.ok sc_w_entries (fun vs H Q E h => ?_) (fun cdv A outer s H vs Q E hr h => ?_)
  · obtain ⟨a, L, rfl, _⟩ := h; rfl
  · obtain ⟨a, L, rfl, hb, l1, l2, qq⟩ := h
    have bnd : ((L : Int) * (L + 3)) / 2 ≤ 90 ∧ 0 ≤ ((L : Int) * (L + 3)) / 2 := by
      have hall : ∀ n : Nat, n ≤ 12 → ((n : Int) * (n + 3)) / 2 ≤ 90 ∧ 0 ≤ ((n : Int) * (n + 3)) / 2 := by decide
      exact hall L l2
    refine ⟨_, (pss_cons (ps_set (i := 2) sc_w_entries.nd rfl (Or.inl rfl) (pe_op op_fdiv (pe_op op_mulG (pv 1) (pe_op op_add (pv 1) pe_int)) pe_int))
    (pss_cons (ps_set (i := 3) sc_w_entries.nd rfl (Or.inl rfl) (pe_call G_w_take (hr.mono (by decide)) rfl T.g_w_take T.F_w_take.kp T.b_w_take .nil pass0 (pa_cons (pv 0) (pa_cons (pe_op op_add pe_int (pe_callB (call_min2 rfl) (by rfl) T.m_min (by decide +kernel) (pa_cons (pv 2) (pa_cons pe_int pa_nil)))) pa_nil))))
    (Evl.pss_cut (ps_if (pt_cmpR op_eq (pe_call G_w_take (hr.mono (by decide)) rfl T.g_w_take T.F_w_take.kp T.b_w_take .nil pass0 (pa_cons (pv 0) (pa_cons pe_int pa_nil))) pe_int (nomark _))
    (pss_one (ps_set (i := 3) sc_w_entries.nd rfl (Or.inl rfl) (pe_call G_w_take (hr.mono (by decide)) rfl T.g_w_take T.F_w_take.kp T.b_w_take .nil pass0 (pa_cons (pv 0) (pa_cons (pe_op op_add pe_int (pv 2)) pa_nil)))))
    pss_nil)
    (pss_cons (ps_set (i := 4) sc_w_entries.nd rfl (Or.inl rfl) pe_dnewT)
    (pss_cons (ps_for PassesOwn.never rfl (pi_range1 rfl T.m_range (pa_cons (pv 3) pa_nil)) (pg_name (i := 5) sc_w_entries.nd rfl (Or.inl rfl))
    (pss_cons (ps_set (i := 6) sc_w_entries.nd rfl (Or.inl rfl) (pe_call G_w_word (hr.mono (by decide)) rfl T.g_w_word T.F_w_word.kp T.b_w_word .nil pass0 (pa_cons (pv 0) pa_nil)))
    (pss_cons (ps_set (i := 7) sc_w_entries.nd rfl (Or.inl rfl) (pe_op op_add pe_int (pe_call G_w_take (hr.mono (by decide)) rfl T.g_w_take T.F_w_take.kp T.b_w_take .nil pass0 (pa_cons (pv 0) (pa_cons (pv 1) pa_nil)))))
    (pss_cons (ps_set (i := 8) sc_w_entries.nd rfl (Or.inl rfl) (pe_call G_w_take (hr.mono (by decide)) rfl T.g_w_take T.F_w_take.kp T.b_w_take .nil pass0 (pa_cons (pv 0) (pa_cons (pe_op op_add (pv 7) pe_int) pa_nil))))
    (pss_one (ps_dput (hu_of hr) (pv 4) (pe_tup (pa_cons (pv 8) (pa_cons (pe_op op_sub (pv 7) (pv 8)) pa_nil))) (pv 6) rfl))))))
    (pss_one (ps_ret (pv 4)))))))), ?_⟩
    walk_at "start"
    walk_at "sts"
    generalize ((L : Int) * (L + 3)) / 2 = B at bnd ⊢
    have sz : 1 ≤ 1 + (if 5 < B then 5 else B) ∧ 1 + (if 5 < B then 5 else B) ≤ 6 := by split <;> omega
    refine r_dr hb (by omega) (by omega) fun n H1 a1 b1 k1 p1 => ?_
    walk_at "sts"
    refine r_cut (fun σ' H' => ∃ n : Int, σ' = [some (.ref a), some (.int L), some (.int B), some (.int n), none, none, none, none, none] ∧ 0 ≤ n ∧ n ≤ 90 ∧ Keep [a] H H' ∧ BoxAt a H') ?_ ?_
    · walk_at "sts"
      refine r_dr p1 (by omega) (by omega) fun n2 H2 a2 b2 k2 p2 => ?_
      walk_at "sts"
      refine r_ite (fun c1 => ?_) (fun c1 => ?_)
      · walk_at "sts"
        refine r_dr p2 (by omega) (by omega) fun n3 H3 a3 b3 k3 p3 => ?_
        walk_at "sts"
        exact ⟨_, by first | exact rfl | trivial, a3, by omega, k1.trans (k2.trans k3), p3⟩
      · walk_at "sts"
        exact ⟨_, by first | exact rfl | trivial, a1, by omega, k1.trans k2, p2⟩
    rintro σ' H2 ⟨n, rfl, n0, n90, k2, p2⟩
    walk_at "sts"
    refine r_dnewT fun D hD => ?_
    have nDa := p2.ne hD
    have hD0 : H D = none := k2.free (by simpa using nDa) hD
    have k3 : Keep [a] H (upd H2 D (.dT [])) := k2.trans (Keep.new hD)
    have eD : EndsAt (upd H2 D (.dT [])) D [] := upd_same
    have p3 := p2.new (o := .dT []) hD
    generalize upd H2 D (.dT []) = H3 at k3 eD p3 ⊢
    walk_at "sts"
    refine forR1_go (fun i σ' H' => ∃ (m : Ends) (y5 y6 y7 y8 : Option V), σ' = [some (.ref a), some (.int L), some (.int B), some (.int n), some (.ref D), y5, y6, y7, y8] ∧ EndsAt H' D m ∧ Pre L m ∧ m.length ≤ i ∧ Keep [a] H H' ∧ BoxAt a H') (by omega) ⟨[], _, _, _, _, by first | exact rfl | trivial, eD, ⟨by simp, by simp, by simp⟩, by simp, k3, p3⟩ ?_ ?_
    · rintro i σ' H4 hi ⟨m, y5, y6, y7, y8, rfl, e4, pm, lm, k4, p4⟩
      walk_at "sts"
      refine ⟨a, rfl, p4, fun wd H5 hw k5 p5 => ?_⟩
      have e5 := k5 _ _ (by simpa using nDa) e4
      walk_at "sts"
      refine r_dr p5 (by omega) (by omega) fun t H6 a6 b6 k6 p6 => ?_
      have e6 := k6 _ _ (by simpa using nDa) e5
      walk_at "sts"
      refine r_dr p6 (by omega) (by omega) fun r H7 a7 b7 k7 p7 => ?_
      have e7 := k7 _ _ (by simpa using nDa) e6
      walk_at "sts"
      intro u hu
      have k8 : Keep [] H7 (upd H7 u (.tup [.int r, .int (1 + t - r)])) := Keep.new hu
      have eu : upd H7 u (.tup [.int r, .int (1 + t - r)]) u = some (cHO (r, 1 + t - r)) := upd_same
      have e8 := k8 _ _ (by simp) e7
      have p8 := p7.keep0 k8
      generalize upd H7 u (.tup [.int r, .int (1 + t - r)]) = H8 at k8 eu e8 p8 ⊢
      refine r_dputT e8 eu (lt_size (by rw [len_kvG]; omega)) ?_
      rw [put_kvG]
      have k48 : Keep [a] H H8 := k4.trans (k5.trans (k6.trans (k7.trans (k8.mono (by simp)))))
      refine ⟨_, _, _, _, _, by first | exact rfl | trivial, upd_same, pm.put ⟨by show 0 ≤ r; omega, by show 0 ≤ 1 + t - r; omega, by show 1 ≤ r + (1 + t - r); omega, by show r + (1 + t - r) ≤ _; omega⟩ hw, Nat.le_trans putA_len (by omega), k48.mut hD0, p8.put nDa⟩
    · rintro σ' H4 ⟨m, y5, y6, y7, y8, rfl, e4, pm, lm, k4, p4⟩
      walk_at "sts"
      exact qq D m H4 k4 p4 hD0 e4 pm (by omega)
end
/-! ### turned, and what can be met -/
open Tab (cnt)
theorem mt_mono {M M' : Ct → Bool} (h : ∀ d, M' d = false → M d = false) : ∀ {k : Nat} {c : Ct}, Tab.Mt M' k c → Tab.Mt M k c
  | 0, _, e => e
  | _ + 1, _, ⟨d, hd, m, e⟩ => ⟨d, mt_mono h hd, h d m, e⟩
theorem hasA_put {α : Type} {m : List (Ct × α)} {c x : Ct} {y : α} : hasA (putA m c y) x = true ↔ x = c ∨ hasA m x = true := by
  unfold hasA
  rw [getA_putA]
  by_cases h : x = c
  · rw [if_pos h]; simp [h]
  · rw [if_neg h]; simp [h]
theorem hasA_keys {α : Type} {m m' : List (Ct × α)} (h : m'.map (·.1) = m.map (·.1)) : hasA m' = hasA m := by
  funext c
  rw [Bool.eq_iff_iff, hasA_iff, hasA_iff, h]
theorem Valid.words {L : Nat} {m m' : Ends} (h : Valid L m) (k : m'.map (·.1) = m.map (·.1)) (w : ∀ p ∈ m', IsW p.2) : Valid L m' := by
  refine ⟨h.l1, h.l2, by rw [k]; exact h.nd, fun p hp => ?_, w, ?_, ?_⟩
  · have : p.1 ∈ m.map (·.1) := by rw [← k]; exact List.mem_map_of_mem hp
    obtain ⟨q, hq, e⟩ := List.mem_map.mp this
    rw [← e]; exact h.key q hq
  · have := congrArg List.length k
    rw [List.length_map, List.length_map] at this
    have := h.len; omega
  · rw [hasA_keys k]; exact h.gap
theorem Valid.ne {L : Nat} {m : Ends} (h : Valid L m) : m ≠ [] := by
  rintro rfl
  have all : ∀ k : Nat, Tab.Mt (hasA ([] : Ends)) k ((k : Int), 0) := fun k => by
    induction k with
    | zero => rfl
    | succ k ih => exact ⟨_, ih, rfl, .inl (by simp)⟩
  have := h.gap _ (all L)
  cases this
theorem keys_kvG {α : Type} {f : α → V} {H : Hp} : ∀ {m : List (Ct × α)} {bs : List Addr}, IsKeys H (kvG f m) bs → AllAt cHO H bs (m.map (·.1))
  | [], bs, h => by cases h; trivial
  | c :: cs, bs, h => by
    cases h with
    | cons a b => exact ⟨a, keys_kvG b⟩
theorem AllAt.rev {α : Type} {f : α → HO} {H : Hp} : ∀ {as : List Addr} {xs : List α}, AllAt f H as xs → AllAt f H as.reverse xs.reverse
  | [], [], _ => trivial
  | a :: as, x :: xs, h => by
    rw [List.reverse_cons, List.reverse_cons]
    exact (AllAt.rev h.2).app (bs := [a]) (ys := [x]) ⟨h.1, trivial⟩
  | [], _ :: _, h => h.elim
  | _ :: _, [], h => h.elim
theorem r_bm0 {K : PySem.W.Frag} {T : String} {r : V → List V → Hp → VK → Prop} {to : TE} {σ : L2.St} {H : Hp} {Q : VK} (k : to σ H fun x H1 => tyV K T x H1 ∧ r x [] H1 Q) : tBM0 K T r to σ H Q := k
def wordA (m : Ends) (c : Ct) : Str := (getA m c).getD wU
theorem wordA_of {m : Ends} (nd : (m.map (·.1)).Nodup) {p : Ct × Str} (hp : p ∈ m) : wordA m p.1 = p.2 := by unfold wordA; rw [getA_mem nd hp]; rfl
theorem getA_perm {m n : Ends} (nd : (m.map (·.1)).Nodup) (p : n.Perm m) : ∀ c, getA n c = getA m c := fun c => by
  have nn : (n.map (·.1)).Nodup := ((p.map (·.1)).nodup_iff).mpr nd
  cases e : getA n c with
  | some w => exact (getA_mem nd (p := (c, w)) (p.mem_iff.mp (mem_getA e))).symm
  | none =>
    cases e2 : getA m c with
    | none => rfl
    | some w =>
      have := getA_mem nn (p := (c, w)) (p.mem_iff.mpr (mem_getA e2))
      rw [e] at this; cases this
def spTurned : Sp := fun vs H Q _ => ∃ (d : Addr) (b : Bool) (m : Ends), vs = [.ref d, .bl b] ∧ EndsAt H d m ∧ (m.map (·.1)).Nodup ∧ m.length ≤ 5000 ∧ ∀ D m' H', Keep [] H H' → H D = none → EndsAt H' D m' → m'.Perm m → Q (.ref D) H'
def spCopy2 : Sp := spCopy
theorem putA_fresh {α : Type} {m : List (Ct × α)} {c : Ct} {y : α} (h : c ∉ m.map (·.1)) : putA m c y = m ++ [(c, y)] := by
  unfold putA
  rw [if_neg (fun e => h (any_iff.mp e))]
section
variable {P : Program} {w : World} {K : PySem.W.Frag} {mg : Str → Option Value} {base : Heap}
theorem ok_turned (T : Tx K mg) : FnOk P w K mg base CX0 1 T.f_w_turned T.fd_w_turned ["_law_ends", "_law_turned_here"] spTurned := by
  refine T.F_w_turned.ok sc_w_turned (fun vs H Q E h => ?_) (fun cdv A outer s H vs Q E hr h => ?_)
  · obtain ⟨d, b, m, rfl, _⟩ := h; rfl
  · obtain ⟨d, b, m, rfl, ed, nd, len, qq⟩ := h
    refine ⟨_, (pss_cons (ps_set (i := 2) sc_w_turned.nd rfl (Or.inl rfl) (pe_callTy (call_list_dT rfl) (by rfl) T.m_list (by decide +kernel) (pa_cons (pv 0) pa_nil)))
    (Evl.pss_cut (ps_if (pt_val (pv 1))
    (pss_one (ps_expr (pe_bm0 PySem.F.plainAttrs_list PySem.F.slot_list_reverse PySem.F.type_list_reverse mt_reverse (pv 2))))
    pss_nil)
    (pss_cons (ps_set (i := 3) sc_w_turned.nd rfl (Or.inl rfl) pe_dnewT)
    (pss_cons (ps_for PassesOwn.never rfl (pi_list (pv 2)) (pg_name (i := 4) sc_w_turned.nd rfl (Or.inl rfl))
    (pss_one (ps_dput (hu_of hr) (pv 3) (pv 4) (pe_dget (hu_of hr) (pv 0) (pv 4) (fun _ _ => rfl)) rfl)))
    (pss_one (ps_ret (pv 3))))))), ?_⟩
    walk_at "start"
    walk_at "sts"
    refine ⟨d, _, rfl, .inl ed, fun lq bs hlq hks => ?_⟩
    have ks := keys_kvG hks
    have k1 : Keep [] H (upd H lq (.lst (bs.map V.ref))) := Keep.new hlq
    have elq : upd H lq (.lst (bs.map V.ref)) lq = some (.lst (bs.map V.ref)) := upd_same
    have ks1 := ks.keep0 k1
    generalize upd H lq (.lst (bs.map V.ref)) = H1 at k1 elq ks1 ⊢
    walk_at "sts"
    refine r_cut (fun σ' H' => ∃ (as : List Addr) (cs : List Ct), σ' = [some (.ref d), some (.bl b), some (.ref lq), none, none] ∧ H' lq = some (.lst (as.map V.ref)) ∧ AllAt cHO H' as cs ∧ cs.Perm (m.map (·.1)) ∧ Keep [] H H') ?_ ?_
    · walk_at "sts"
      cases b with
      | true =>
        walk_at "sts"
        refine r_bm0 ?_
        walk_at "sts"
        refine ⟨lq, _, rfl, rfl, elq, ?_⟩
        walk_at "sts"
        refine ⟨bs.reverse, (m.map (·.1)).reverse, by first | exact rfl | trivial, by rw [upd_same, List.map_reverse], cts_upd ks1.rev (fun xs e => by rw [elq] at e; cases e), List.reverse_perm _, k1.mut hlq⟩
      | false =>
        walk_at "sts"
        exact ⟨bs, _, by first | exact rfl | trivial, elq, ks1, List.Perm.refl _, k1⟩
    rintro σ' H2 ⟨as, cs, rfl, el2, ha2, pm, k2⟩
    have nc : cs.Nodup := pm.nodup_iff.mpr nd
    have lcs : cs.length ≤ 5000 := by rw [pm.length_eq, List.length_map]; exact len
    have las := ha2.len
    walk_at "sts"
    refine r_dnewT fun D hD => ?_
    have hD0 : H D = none := k2.free (by simp) hD
    have k3 : Keep [] H2 (upd H2 D (.dT [])) := Keep.new hD
    have eD : upd H2 D (.dT []) D = some (.dT (kvG V.str [])) := upd_same
    have nDl : lq ≠ D := by rintro rfl; rw [el2] at hD; cases hD
    have nDd : d ≠ D := by rintro rfl; cases (hD0.symm.trans ed)
    generalize upd H2 D (.dT []) = H3 at k3 eD ⊢
    have el3 := k3 _ _ (by simp) el2
    have ha3 := ha2.keep0 k3
    have ed3 : EndsAt H3 d m := (k2.trans k3) _ _ (by simp) ed
    walk_at "sts"
    refine forL_go (fun i σ' H' => ∃ y : Option V, σ' = [some (.ref d), some (.bl b), some (.ref lq), some (.ref D), y] ∧ H' D = some (.dT (kvG V.str ((cs.take i).map fun c => (c, wordA m c)))) ∧ Keep [D] H3 H') (sqL_of el3) ⟨_, by first | exact rfl | trivial, by simpa using eD, Keep.refl _ _⟩ (fun i σ' H' _ h => by obtain ⟨_, _, _, k⟩ := h; exact sqL_of (k _ _ (by simpa using nDl) el3)) ?_ ?_
    · rintro i v σ' H4 hv ⟨y, rfl, eD4, k4⟩
      obtain ⟨a, ha, rfl⟩ := getRef hv
      obtain ⟨c, hc, ea⟩ := ha3.get ha
      have naD : a ≠ D := by rintro rfl; cases (ea.symm.trans eD)
      have ea4 := k4 _ _ (by simpa using naD) ea
      have ed4 : EndsAt H4 d m := k4 _ _ (by simpa using nDd) ed3
      have mc : c ∈ m.map (·.1) := pm.mem_iff.mp (List.mem_of_getElem? hc)
      obtain ⟨wd, gw⟩ : ∃ wd, getA m c = some wd := by
        have := hasA_iff.mpr mc
        unfold hasA at this
        exact Option.isSome_iff_exists.mp this
      have ew : wordA m c = wd := by unfold wordA; rw [gw]; rfl
      have fresh : c ∉ ((cs.take i).map fun c => (c, wordA m c)).map (·.1) := fun hx => by
        rw [List.map_map] at hx
        have hx2 : c ∈ cs.take i := by
          obtain ⟨z, hz, e⟩ := List.mem_map.mp hx
          have : z = c := e
          rw [← this]; exact hz
        obtain ⟨z, hz⟩ := List.getElem?_of_mem hx2
        rw [List.getElem?_take] at hz
        split at hz
        · rename_i lt
          have := (List.getElem?_inj (List.getElem?_eq_some_iff.mp hz).1 nc).mp (hz.trans hc.symm)
          omega
        · cases hz
      have hi := (List.getElem?_eq_some_iff.mp hc).1
      have snoc : (cs.take (i + 1)).map (fun c => (c, wordA m c)) = (cs.take i).map (fun c => (c, wordA m c)) ++ [(c, wd)] := by rw [take_snoc hc, List.map_append, ← ew]; rfl
      walk_at "sts"
      refine ⟨d, _, rfl, dgetT (f := V.str) ed4 ea4 gw, ?_⟩
      walk_at "sts"
      refine r_dputT eD4 ea4 (lt_size (by rw [len_kvG, List.length_map, List.length_take]; omega)) ?_
      rw [put_kvG, putA_fresh fresh, ← snoc]
      exact ⟨_, by first | exact rfl | trivial, upd_same, k4.trans (Keep.at (by simp))⟩
    · rintro σ' H4 ⟨y, rfl, eD4, k4⟩
      rw [List.length_map, las, List.take_length] at eD4
      walk_at "sts"
      refine qq D _ H4 ((k2.trans k3).dropNew k4 hD0) hD0 eD4 ?_
      have e : m = (m.map (·.1)).map fun c => (c, wordA m c) := by
        rw [List.map_map]
        conv => lhs; rw [← List.map_id m]
        apply List.map_congr_left
        intro p hp
        simp only [Function.comp, id, wordA_of nd hp]
      conv => rhs; rw [e]
      exact pm.map _
end
/-! ### one step further -/
open Tab (cnt addC)
/-- what can be met: each count's list of two strings -/
abbrev Ms := List (Ct × (Addr × List Nat × List Nat))
def fM (p : Addr × List Nat × List Nat) : V := .ref p.1
def MetAt (H : Hp) (D : Addr) (R : Ms) : Prop := H D = some (.dT (kvG fM R)) ∧ ∀ e ∈ R, H e.2.1 = some (.lst [sV e.2.2.1, sV e.2.2.2])
def Lets (s : List Nat) : Prop := ∀ c ∈ s, c = 114 ∨ c = 109
structure MetOk (R : Ms) : Prop where
  nd : (R.map (·.1)).Nodup
  l1 : ∀ e ∈ R, (e.2.2.1.length : Int) ≤ e.1.1 + e.1.2 ∧ Lets e.2.2.1
  l2 : ∀ e ∈ R, (e.2.2.2.length : Int) ≤ e.1.1 + e.1.2 ∧ Lets e.2.2.2
theorem Lets.snoc {s : List Nat} {x : Nat} (h : Lets s) (hx : x = 114 ∨ x = 109) : Lets (s ++ [x]) := fun c hc => by
  rcases List.mem_append.mp hc with hc | hc
  · exact h c hc
  · rw [List.mem_singleton.mp hc]; exact hx
theorem MetOk.put {R : Ms} {x : Ct} {a : Addr} {s t : List Nat} (h : MetOk R) (hs : (s.length : Int) ≤ x.1 + x.2 ∧ Lets s) (ht : (t.length : Int) ≤ x.1 + x.2 ∧ Lets t) : MetOk (putA R x (a, s, t)) :=
  ⟨putA_nodup h.nd, fun e he => (putA_mem he).elim (h.l1 e) fun z => by rw [z]; exact hs, fun e he => (putA_mem he).elim (h.l2 e) fun z => by rw [z]; exact ht⟩
theorem metPut {H : Hp} {D a : Addr} {R : Ms} {x : Ct} {s t : List Nat} (h : MetAt H D R) (ha : H a = some (.lst [sV s, sV t])) : MetAt (upd H D (.dT (kvG fM (putA R x (a, s, t))))) D (putA R x (a, s, t)) := by
  refine ⟨upd_same, fun e he => ?_⟩
  have ne : ∀ b xs, H b = some (.lst xs) → b ≠ D := fun b xs e1 e2 => by rw [e2, h.1] at e1; cases e1
  rcases putA_mem he with he | he
  · rw [upd_ne (ne _ _ (h.2 e he))]; exact h.2 e he
  · subst he; rw [upd_ne (ne _ _ ha)]; exact ha
theorem MetAt.keepF {H H' : Hp} {D fl : Addr} {R : Ms} {as : List Addr} (h : MetAt H D R) (hf : H fl = some (.lst (as.map V.ref))) (n : D ≠ fl) (k : Keep [fl] H H') : MetAt H' D R := by
  refine ⟨k _ _ (by simpa using n) h.1, fun e he => k _ _ ?_ (h.2 e he)⟩
  rw [List.mem_singleton]
  intro e2
  have := h.2 e he
  rw [e2, hf] at this
  have e3 := HO.lst.inj (Option.some.inj this)
  cases as with
  | nil => cases e3
  | cons a as => cases e3
theorem MetAt.keep0 {H H' : Hp} {D : Addr} {R : Ms} (h : MetAt H D R) (k : Keep [] H H') : MetAt H' D R := ⟨k _ _ (by simp) h.1, fun e he => k _ _ (by simp) (h.2 e he)⟩
def spStep : Sp := fun vs H Q _ => ∃ (D fl q : Addr) (R : Ms) (A cs : List Ct) (c : Ct), vs = [.ref D, .ref fl, .ref q] ∧ MetAt H D R ∧ MetOk R ∧ H q = some (cHO c) ∧ CtsAt H fl cs ∧ c ∈ R.map (·.1) ∧ R.map (·.1) = A ++ cs ∧ (∀ x ∈ A, x.1 + x.2 < c.1 + c.2 + 1) ∧ D ≠ fl ∧ R.length ≤ 9000 ∧ c.1 + c.2 ≤ 12 ∧
  ∀ R' H', Keep [D, fl] H H' → MetAt H' D R' → MetOk R' → CtsAt H' fl (addC (addC cs (c.1 + 1, c.2)) (c.1, c.2 + 1)) → R'.map (·.1) = A ++ addC (addC cs (c.1 + 1, c.2)) (c.1, c.2 + 1) → Q (.ref fl) H'
section
variable {P : Program} {w : World} {K : PySem.W.Frag} {mg : Str → Option Value} {base : Heap}
theorem ok_step (T : Tx K mg) : FnOk P w K mg base CX0 1 T.f_w_step T.fd_w_step ["_law_met_here", "_law_found", "_law_count"] spStep := by
  refine T.F_w_step.ok sc_w_step (fun vs H Q E h => ?_) (fun cdv A outer s H vs Q E hr h => ?_)
  · obtain ⟨D, fl, q, R, A, cs, c, rfl, _⟩ := h; rfl
  · obtain ⟨D, fl, q, R, B, cs, c, rfl, met, ok, eq, ⟨fa, efl, hfa⟩, mc, hk, low, nDf, lR, c12, qq⟩ := h
    have nqD : q ≠ D := by rintro rfl; cases (eq.symm.trans met.1)
    have nqf : q ≠ fl := by rintro rfl; cases (eq.symm.trans efl)
    refine ⟨_, (pss_cons (ps_for PassesOwn.never rfl (pi_list (pe_lst (pa_cons pe_str (pa_cons pe_str pa_nil)))) (pg_name (i := 3) sc_w_step.nd rfl (Or.inl rfl))
    (pss_cons (ps_set (i := 4) sc_w_step.nd rfl (Or.inl rfl) (pe_tup (pa_cons (pe_op op_add (pe_ix ix_tup (pv 2) pe_int (fun _ _ => rfl)) pe_int) (pa_cons (pe_ix ix_tup (pv 2) pe_int (fun _ _ => rfl)) pa_nil))))
    (Evl.pss_cut (ps_if (pt_cmpR op_eq (pv 3) pe_str (nomark _))
    (pss_one (ps_set (i := 4) sc_w_step.nd rfl (Or.inl rfl) (pe_tup (pa_cons (pe_ix ix_tup (pv 2) pe_int (fun _ _ => rfl)) (pa_cons (pe_op op_add (pe_ix ix_tup (pv 2) pe_int (fun _ _ => rfl)) pe_int) pa_nil)))))
    pss_nil)
    (pss_cons (ps_set (i := 5) sc_w_step.nd rfl (Or.inl rfl) (pe_dget (hu_of hr) (pv 0) (pv 2) (fun _ _ => rfl)))
    (pss_one (ps_if (pt_cmp (pc_din (hu_of hr) (pv 4) (pv 0)))
    (pss_cons (ps_set (i := 6) sc_w_step.nd rfl (Or.inl rfl) (pe_dget (hu_of hr) (pv 0) (pv 4) (fun _ _ => rfl)))
    (pss_one (ps_dput (hu_of hr) (pv 0) (pv 4) (pe_lst (pa_cons (pe_ix ix_list (pv 6) pe_int (fun _ _ => rfl)) (pa_cons (pe_op op_addS (pe_ix ix_list (pv 5) pe_int (fun _ _ => rfl)) (pv 3)) pa_nil))) rfl)))
    (pss_cons (ps_dput (hu_of hr) (pv 0) (pv 4) (pe_lst (pa_cons (pe_op op_addS (pe_ix ix_list (pv 5) pe_int (fun _ _ => rfl)) (pv 3)) (pa_cons (pe_op op_addS (pe_ix ix_list (pv 5) pe_int (fun _ _ => rfl)) (pv 3)) pa_nil))) rfl)
    (pss_one (ps_expr (pe_bm PySem.F.plainAttrs_list PySem.F.slot_list_append PySem.F.type_list_append mt_append (pv 1) (pa_cons (pv 4) pa_nil)))))))))))
    (pss_one (ps_ret (pv 1)))), ?_⟩
    walk_at "start"
    walk_at "sts"
    intro l0 hl0
    have k0 : Keep [] H (upd H l0 (.lst [.str (strL [114]), .str (strL [109])])) := Keep.new hl0
    have el0 : upd H l0 (.lst [.str (strL [114]), .str (strL [109])]) l0 = some (.lst [.str (strL [114]), .str (strL [109])]) := upd_same
    have nl0f : l0 ≠ fl := by rintro rfl; rw [efl] at hl0; cases hl0
    have nl0D : l0 ≠ D := by rintro rfl; rw [met.1] at hl0; cases hl0
    rw [str_r, str_m]
    have met0 := met.keep0 k0
    have efl0 := k0 _ _ (by simp) efl
    have hfa0 := hfa.keep0 k0
    have eq0 := k0 _ _ (by simp) eq
    generalize upd H l0 (.lst [.str (strL [114]), .str (strL [109])]) = H0 at k0 el0 met0 efl0 hfa0 eq0 ⊢
    refine forL_go (fun i σ' H' => ∃ (R' : Ms) (fa' : List Addr) (y3 y4 y5 y6 : Option V), σ' = [some (.ref D), some (.ref fl), some (.ref q), y3, y4, y5, y6] ∧ MetAt H' D R' ∧ MetOk R' ∧ H' fl = some (.lst (fa'.map V.ref)) ∧ AllAt cHO H' fa' ((([(c.1 + 1, c.2), (c.1, c.2 + 1)] : List Ct).take i).foldl addC cs) ∧ R'.map (·.1) = B ++ (([(c.1 + 1, c.2), (c.1, c.2 + 1)] : List Ct).take i).foldl addC cs ∧ R'.length ≤ R.length + i ∧ c ∈ R'.map (·.1) ∧ Keep [D, fl] H0 H') (sqL_of el0) ⟨R, fa, _, _, _, _, by first | exact rfl | trivial, met0, ok, efl0, hfa0, hk, by omega, mc, Keep.refl _ _⟩ (fun i σ' H' _ h => by obtain ⟨_, _, _, _, _, _, _, _, _, _, _, _, _, _, k⟩ := h; exact sqL_of (k _ _ (by simp [nl0D, nl0f]) el0)) ?_ ?_
    · rintro i v σ' H1 hv ⟨R1, fa1, y3, y4, y5, y6, rfl, met1, ok1, efl1, hfa1, hk1, lR1, mc1, k1⟩
      obtain ⟨ch, x, rfl, hch, hx, hi⟩ : ∃ (ch : Nat) (x : Ct), v = .str (strL [ch]) ∧ (ch = 114 ∨ ch = 109) ∧ x = (if ch = 109 then (c.1, c.2 + 1) else (c.1 + 1, c.2)) ∧ ([(c.1 + 1, c.2), (c.1, c.2 + 1)] : List Ct)[i]? = some x := by
        rcases i with _ | _ | i
        · exact ⟨114, (c.1 + 1, c.2), by simpa using hv.symm, .inl rfl, rfl, rfl⟩
        · exact ⟨109, (c.1, c.2 + 1), by simpa using hv.symm, .inr rfl, rfl, rfl⟩
        · exact absurd hv (by simp)
      have eq1 : H1 q = some (.tup [.int c.1, .int c.2]) := k1 _ _ (by simp [nqD, nqf]) eq0
      have sumx : x.1 + x.2 = c.1 + c.2 + 1 := by rw [hx]; split <;> (simp only []; omega)
      have sn : (([(c.1 + 1, c.2), (c.1, c.2 + 1)] : List Ct).take (i + 1)).foldl addC cs = addC ((([(c.1 + 1, c.2), (c.1, c.2 + 1)] : List Ct).take i).foldl addC cs) x := by rw [take_snoc hi, List.foldl_append]; rfl
      rw [sn]
      generalize (([(c.1 + 1, c.2), (c.1, c.2 + 1)] : List Ct).take i).foldl addC cs = cs1 at hfa1 hk1
      have i2 : i < 2 := (List.getElem?_eq_some_iff.mp hi).1
      clear hi sn hv
      walk_at "sts"
      intro t1 ht1
      have k2 : Keep [] H1 (upd H1 t1 (.tup [.int (c.1 + 1), .int c.2])) := Keep.new ht1
      have et1 : upd H1 t1 (.tup [.int (c.1 + 1), .int c.2]) t1 = some (cHO (c.1 + 1, c.2)) := upd_same
      generalize upd H1 t1 (.tup [.int (c.1 + 1), .int c.2]) = H2 at k2 et1 ⊢
      walk_at "sts"
      refine r_cut (fun σ' H' => ∃ u : Addr, σ' = [some (.ref D), some (.ref fl), some (.ref q), some (.str (strL [ch])), some (.ref u), y5, y6] ∧ H' u = some (cHO x) ∧ Keep [] H1 H') ?_ ?_
      · have eq2 := k2 _ _ (by simp) eq1
        walk_at "sts"
        refine r_ite (fun c1 => ?_) (fun c1 => ?_)
        · have e : ch = 109 := by simpa using strL_inj c1
          rw [if_pos e] at hx
          walk_at "sts"
          intro t2 ht2
          have k3 : Keep [] H2 (upd H2 t2 (.tup [.int c.1, .int (c.2 + 1)])) := Keep.new ht2
          walk_at "sts"
          exact ⟨t2, by first | exact rfl | trivial, by rw [upd_same, hx]; rfl, k2.trans k3⟩
        · have e : ¬ ch = 109 := fun e => c1 (by rw [e])
          rw [if_neg e] at hx
          walk_at "sts"
          exact ⟨t1, by first | exact rfl | trivial, by rw [et1, hx], k2⟩
      · rintro σ' H3 ⟨u, rfl, eu, k3⟩
        have met3 := met1.keep0 k3
        have eq3 : H3 q = some (cHO c) := k3 _ _ (by simp) eq1
        have efl3 := k3 _ _ (by simp) efl1
        have hfa3 := hfa1.keep0 k3
        clear k2 et1 eq1 efl1 met1
        obtain ⟨e, he, ec⟩ := List.mem_map.mp mc1
        have ge := getA_mem ok1.nd he
        rw [ec] at ge
        have lst3 := met3.2 e he
        have p1 := ok1.l1 e he
        have p2 := ok1.l2 e he
        rw [ec] at p1 p2
        obtain ⟨ek, ea, s1, s2⟩ := e
        simp only [] at ec ge lst3 p1 p2
        have xin : hasA R1 x = true ↔ x ∈ cs1 := by
          rw [hasA_iff, hk1, List.mem_append]
          constructor
          · rintro (h | h)
            · have := low x h; omega
            · exact h
          · exact .inr
        have nuf : u ≠ fl := by rintro rfl; cases (eu.symm.trans efl3)
        have nuD : u ≠ D := by rintro rfl; cases (eu.symm.trans met3.1)
        walk_at "sts"
        refine ⟨D, _, rfl, dgetT (f := fM) met3.1 eq3 ge, ?_⟩
        unfold fM
        walk_at "sts"
        refine r_dinT (f := fM) met3.1 eu ?_
        cases hx2 : hasA R1 x with
        | true =>
          have xc := xin.mp hx2
          obtain ⟨e2, he2, ec2⟩ := List.mem_map.mp (hasA_iff.mp hx2)
          have ge2 := getA_mem ok1.nd he2
          rw [ec2] at ge2
          have lst2 := met3.2 e2 he2
          have o1 := ok1.l1 e2 he2
          rw [ec2] at o1
          obtain ⟨ek2, ea2, o, o'⟩ := e2
          simp only [] at ec2 ge2 lst2 o1
          walk_at "sts"
          refine r_iteTT ?_
          walk_at "sts"
          refine ⟨D, _, rfl, dgetT (f := fM) met3.1 eu ge2, ?_⟩
          unfold fM
          walk_at "sts"
          refine r_addS (i := strL s2) (le_size (by rw [strL_len, strL_len]; simp only [List.length_singleton]; omega)) ?_
          rw [strL_app]
          walk_at "sts"
          intro l hl
          have k4 : Keep [] H3 (upd H3 l (.lst [sV o, sV (s2 ++ [ch])])) := Keep.new hl
          have el : upd H3 l (.lst [sV o, sV (s2 ++ [ch])]) l = some (.lst [sV o, sV (s2 ++ [ch])]) := upd_same
          have met4 := met3.keep0 k4
          have eu4 := k4 _ _ (by simp) eu
          have efl4 := k4 _ _ (by simp) efl3
          have hfa4 := hfa3.keep0 k4
          rw [show (HO.lst [sV o, V.str (strL (s2 ++ [ch]))]) = HO.lst [sV o, sV (s2 ++ [ch])] from rfl]
          generalize upd H3 l (.lst [sV o, sV (s2 ++ [ch])]) = H4 at k4 el met4 eu4 efl4 hfa4 ⊢
          walk_at "sts"
          refine r_dputT met4.1 eu4 (lt_size (by rw [len_kvG]; omega)) ?_
          rw [show V.ref l = fM (l, o, s2 ++ [ch]) from rfl, put_kvG]
          have keys : (putA R1 x (l, o, s2 ++ [ch])).map (·.1) = R1.map (·.1) := by rw [putA_keys, if_pos (hasA_iff.mp hx2)]
          have ac : addC cs1 x = cs1 := by unfold addC; rw [if_pos xc]
          refine ⟨putA R1 x (l, o, s2 ++ [ch]), fa1, _, _, _, _, by first | exact rfl | trivial, metPut met4 el, ok1.put o1 ⟨by rw [List.length_append, List.length_singleton]; omega, p2.2.snoc hch⟩, by rw [upd_ne (Ne.symm nDf)]; exact efl4, ?_, by rw [keys, hk1, ac], Nat.le_trans putA_len (by omega), by rw [keys]; exact mc1, ?_⟩
          · rw [ac]; exact cts_upd hfa4 (fun xs e => by rw [met4.1] at e; cases e)
          · exact (k1.trans ((k3.trans k4).mono (by simp))).trans (Keep.at (by simp))
        | false =>
          have xc : ¬ x ∈ cs1 := fun h => by rw [xin.mpr h] at hx2; cases hx2
          walk_at "sts"
          refine r_iteFF ?_
          walk_at "sts"
          refine r_addS (i := strL s1) (le_size (by rw [strL_len, strL_len]; simp only [List.length_singleton]; omega)) ?_
          rw [strL_app]
          walk_at "sts"
          refine r_addS (i := strL s2) (le_size (by rw [strL_len, strL_len]; simp only [List.length_singleton]; omega)) ?_
          rw [strL_app]
          walk_at "sts"
          intro l hl
          have k4 : Keep [] H3 (upd H3 l (.lst [sV (s1 ++ [ch]), sV (s2 ++ [ch])])) := Keep.new hl
          have el : upd H3 l (.lst [sV (s1 ++ [ch]), sV (s2 ++ [ch])]) l = some (.lst [sV (s1 ++ [ch]), sV (s2 ++ [ch])]) := upd_same
          have met4 := met3.keep0 k4
          have eu4 := k4 _ _ (by simp) eu
          have efl4 := k4 _ _ (by simp) efl3
          have hfa4 := hfa3.keep0 k4
          rw [show (HO.lst [V.str (strL (s1 ++ [ch])), V.str (strL (s2 ++ [ch]))]) = HO.lst [sV (s1 ++ [ch]), sV (s2 ++ [ch])] from rfl]
          generalize upd H3 l (.lst [sV (s1 ++ [ch]), sV (s2 ++ [ch])]) = H4 at k4 el met4 eu4 efl4 hfa4 ⊢
          walk_at "sts"
          refine r_dputT met4.1 eu4 (lt_size (by rw [len_kvG]; omega)) ?_
          rw [show V.ref l = fM (l, s1 ++ [ch], s2 ++ [ch]) from rfl, put_kvG]
          have fresh : x ∉ R1.map (·.1) := fun h => by rw [hasA_iff.mpr h] at hx2; cases hx2
          have keys : (putA R1 x (l, s1 ++ [ch], s2 ++ [ch])).map (·.1) = R1.map (·.1) ++ [x] := by rw [putA_keys, if_neg fresh]
          have ac : addC cs1 x = cs1 ++ [x] := by unfold addC; rw [if_neg xc]
          have met5 := metPut (x := x) met4 el
          have ok5 : MetOk (putA R1 x (l, s1 ++ [ch], s2 ++ [ch])) := ok1.put ⟨by rw [List.length_append, List.length_singleton]; omega, p1.2.snoc hch⟩ ⟨by rw [List.length_append, List.length_singleton]; omega, p2.2.snoc hch⟩
          have lR5 : (putA R1 x (l, s1 ++ [ch], s2 ++ [ch])).length ≤ R.length + (i + 1) := Nat.le_trans putA_len (by omega)
          have efl5 : upd H4 D (.dT (kvG fM (putA R1 x (l, s1 ++ [ch], s2 ++ [ch])))) fl = some (.lst (fa1.map V.ref)) := by rw [upd_ne (Ne.symm nDf)]; exact efl4
          have hfa5 : AllAt cHO (upd H4 D (.dT (kvG fM (putA R1 x (l, s1 ++ [ch], s2 ++ [ch]))))) fa1 cs1 := cts_upd hfa4 (fun xs e => by rw [met4.1] at e; cases e)
          have eu5 : upd H4 D (.dT (kvG fM (putA R1 x (l, s1 ++ [ch], s2 ++ [ch])))) u = some (cHO x) := by rw [upd_ne nuD]; exact eu4
          have k15 : Keep [D, fl] H0 (upd H4 D (.dT (kvG fM (putA R1 x (l, s1 ++ [ch], s2 ++ [ch]))))) := (k1.trans ((k3.trans k4).mono (by simp))).trans (Keep.at (by simp))
          have lf : fa1.length ≤ 10000 := by
            have h1 := hfa5.len
            have h2 := congrArg List.length hk1
            rw [List.length_map, List.length_append] at h2
            omega
          generalize upd H4 D (.dT (kvG fM (putA R1 x (l, s1 ++ [ch], s2 ++ [ch])))) = H5 at met5 efl5 hfa5 eu5 k15 ⊢
          walk_at "sts"
          refine ⟨_, fa1 ++ [u], _, _, _, _, by first | exact rfl | trivial, ?_, ok5, by rw [upd_same, List.map_append]; rfl, ?_, by rw [keys, hk1, ac, List.append_assoc], lR5, by rw [keys]; exact List.mem_append_left _ mc1, k15.trans (Keep.at (by simp))⟩
          · exact met5.keepF efl5 nDf (Keep.at (by simp))
          · rw [ac]
            exact cts_upd (hfa5.app (bs := [u]) (ys := [x]) ⟨eu5, trivial⟩) (fun xs e => by rw [efl5] at e; cases e)
    · rintro σ' H1 ⟨R1, fa1, y3, y4, y5, y6, rfl, met1, ok1, efl1, hfa1, hk1, lR1, mc1, k1⟩
      walk_at "sts"
      exact qq R1 H1 ((k0.mono (by simp)).trans k1) met1 ok1 ⟨fa1, efl1, hfa1⟩ hk1
end
/-! ### all that can be met -/
open Tab (cnt addC)
def spMet : Sp := fun vs H Q _ => ∃ (L : Nat) (d : Addr) (m : Ends), vs = [.int L, .ref d] ∧ EndsAt H d m ∧ L ≤ 12 ∧ ∀ D R H', Keep [] H H' → H D = none → MetAt H' D R → MetOk R → R.map (·.1) = Tab.metC (hasA m) L → R.length ≤ 8192 → Q (.ref D) H'
theorem r_disp1T {tk tv : TE} {σ : L2.St} {H : Hp} {Q : VK} (k : ∀ p, H p = none → tk σ (upd H p (.dT [])) fun y H1 => tv σ H1 fun z H2 => ∃ (k : List Key) (q : Addr), y = .ref q ∧ H2 p = some (.dT []) ∧ H2 q = some (.tup (k.map kV)) ∧ Q (.ref p) (upd H2 p (.dT [(k, z)]))) : Dt.tDisp1T tk tv σ H Q := k
theorem Keep.drop2 {H H1 H2 : Hp} {D E : Addr} (k1 : Keep [] H H1) (k2 : Keep [D, E] H1 H2) (n : H D = none) (n2 : H E = none) : Keep [] H H2 := fun b o _ e => k2 b o (by
  simp only [List.mem_cons, List.not_mem_nil, or_false]
  rintro (rfl | rfl)
  · rw [n] at e; cases e
  · rw [n2] at e; cases e) (k1 b o (by simp) e)
section
variable {P : Program} {w : World} {K : PySem.W.Frag} {mg : Str → Option Value} {base : Heap}
theorem ok_met (T : Tx K mg) (G_w_step : FnOk P w K mg base CX0 1 T.f_w_step T.fd_w_step ["_law_met_here", "_law_found", "_law_count"] spStep) : FnOk P w K mg base CX0 2 T.f_w_met T.fd_w_met ["_law_limit_here", "_law_ends"] spMet := by
  refine T.F_w_met.ok sc_w_met (fun vs H Q E h => ?_) (fun cdv A outer s H vs Q E hr h => ?_)
  · obtain ⟨L, d, m, rfl, _⟩ := h; rfl
  · obtain ⟨L, d, m, rfl, ed, hL, qq⟩ := h
    refine ⟨_, (pss_cons (ps_set (i := 2) sc_w_met.nd rfl (Or.inl rfl) (Dt.pe_disp1T (Nat.lt_of_succ_lt (Dt.inD_of hr)) (pe_tup (pa_cons pe_int (pa_cons pe_int pa_nil))) (pe_lst (pa_cons pe_str (pa_cons pe_str pa_nil)))))
    (pss_cons (ps_set (i := 3) sc_w_met.nd rfl (Or.inl rfl) (pe_lst (pa_cons (pe_tup (pa_cons pe_int (pa_cons pe_int pa_nil))) pa_nil)))
    (pss_cons (ps_for PassesOwn.never rfl (pi_range1 rfl T.m_range (pa_cons (pv 0) pa_nil)) (pg_name (i := 4) sc_w_met.nd rfl (Or.inl rfl))
    (pss_cons (ps_set (i := 5) sc_w_met.nd rfl (Or.inl rfl) (pe_lst pa_nil))
    (pss_cons (ps_for PassesOwn.never rfl (pi_list (pv 3)) (pg_name (i := 6) sc_w_met.nd rfl (Or.inl rfl))
    (pss_one (ps_if (pt_cmp (pc_dnotin (hu_of hr) (pv 6) (pv 1)))
    (pss_one (ps_set (i := 5) sc_w_met.nd rfl (Or.inl rfl) (pe_call G_w_step (hr.mono (by decide)) rfl T.g_w_step T.F_w_step.kp T.b_w_step .nil pass0 (pa_cons (pv 2) (pa_cons (pv 5) (pa_cons (pv 6) pa_nil))))))
    pss_nil)))
    (pss_one (ps_set (i := 3) sc_w_met.nd rfl (Or.inl rfl) (pv 5))))))
    (pss_one (ps_ret (pv 2)))))), ?_⟩
    walk_at "start"
    walk_at "sts"
    refine r_disp1T fun D hD => ?_
    have k1 : Keep [] H (upd H D (.dT [])) := Keep.new hD
    have eD : upd H D (.dT []) D = some (.dT []) := upd_same
    generalize upd H D (.dT []) = H1 at k1 eD ⊢
    walk_at "sts"
    intro t0 ht0
    have k2 : Keep [] H1 (upd H1 t0 (.tup [.int 0, .int 0])) := Keep.new ht0
    have et0 : upd H1 t0 (.tup [.int 0, .int 0]) t0 = some (cHO (0, 0)) := upd_same
    generalize upd H1 t0 (.tup [.int 0, .int 0]) = H2 at k2 et0 ⊢
    walk_at "sts"
    intro l hl
    have k3 : Keep [] H2 (upd H2 l (.lst [sV [], sV []])) := Keep.new hl
    have el : upd H2 l (.lst [sV [], sV []]) l = some (.lst [sV [], sV []]) := upd_same
    rw [show (HO.lst [V.str (Str.ofString ""), V.str (Str.ofString "")]) = HO.lst [sV [], sV []] from rfl]
    generalize upd H2 l (.lst [sV [], sV []]) = H3 at k3 el ⊢
    have eD3 := (k2.trans k3) _ _ (by simp) eD
    have et3 := k3 _ _ (by simp) et0
    have k13 := k1.trans (k2.trans k3)
    refine ⟨ck (0, 0), t0, rfl, eD3, et3, ?_⟩
    have nlD : l ≠ D := by rintro rfl; cases (el.symm.trans eD3)
    have met0 : MetAt (upd H3 D (.dT [(ck (0, 0), .ref l)])) D [((0, 0), (l, [], []))] := ⟨upd_same, fun e he => by rw [List.mem_singleton.mp he]; rw [upd_ne nlD]; exact el⟩
    have ok0 : MetOk [((0, 0), (l, [], []))] := ⟨by simp, fun e he => by rw [List.mem_singleton.mp he]; exact ⟨by simp, by simp [Lets]⟩, fun e he => by rw [List.mem_singleton.mp he]; exact ⟨by simp, by simp [Lets]⟩⟩
    have k4 : Keep [] H (upd H3 D (.dT [(ck (0, 0), .ref l)])) := k13.mut hD
    generalize upd H3 D (.dT [(ck (0, 0), .ref l)]) = H4 at k4 met0 ⊢
    clear k1 k2 k3 k13 eD3 et3 eD et0 el nlD
    walk_at "sts"
    intro t1 ht1
    have k5 : Keep [] H4 (upd H4 t1 (.tup [.int 0, .int 0])) := Keep.new ht1
    have et1 : upd H4 t1 (.tup [.int 0, .int 0]) t1 = some (cHO (0, 0)) := upd_same
    generalize upd H4 t1 (.tup [.int 0, .int 0]) = H5 at k5 et1 ⊢
    walk_at "sts"
    intro l1 hl1
    have k6 : Keep [] H5 (upd H5 l1 (.lst [.ref t1])) := Keep.new hl1
    have el1 : CtsAt (upd H5 l1 (.lst [.ref t1])) l1 [(0, 0)] := ⟨[t1], upd_same, k6 _ _ (by simp) et1, trivial⟩
    have met6 := met0.keep0 (k5.trans k6)
    have kH6 := k4.trans (k5.trans k6)
    generalize upd H5 l1 (.lst [.ref t1]) = H6 at k6 el1 met6 kH6 ⊢
    clear k4 k5 k6 et1 met0
    walk_at "sts"
    refine forR1_go (fun i σ' H' => ∃ (l' : Addr) (R : Ms) (y4 y5 y6 : Option V), σ' = [some (.int L), some (.ref d), some (.ref D), some (.ref l'), y4, y5, y6] ∧ CtsAt H' l' (Tab.levC (hasA m) i) ∧ MetAt H' D R ∧ MetOk R ∧ R.map (·.1) = Tab.metC (hasA m) i ∧ l' ≠ D ∧ Keep [] H H') (by omega) ⟨l1, _, _, _, _, by first | exact rfl | trivial, el1, met6, ok0, rfl, (by rintro rfl; obtain ⟨_, e, _⟩ := el1; cases (e.symm.trans met6.1)), kH6⟩ ?_ ?_
    · rintro i σ' H7 hi ⟨l', R, y4, y5, y6, rfl, ⟨na, el', hn'⟩, met7, ok7, hk7, nlD, k7⟩
      walk_at "sts"
      intro fl hfl
      have k8 : Keep [] H7 (upd H7 fl (.lst [])) := Keep.new hfl
      have hf0 : H fl = none := k7.free (by simp) hfl
      have efl : CtsAt (upd H7 fl (.lst [])) fl [] := ⟨[], upd_same, trivial⟩
      have nDf : D ≠ fl := by rintro rfl; rw [met7.1] at hfl; cases hfl
      have nlf : l' ≠ fl := by rintro rfl; rw [el'] at hfl; cases hfl
      have met8 := met7.keep0 k8
      have el8 := k8 _ _ (by simp) el'
      have hn8 := hn'.keep0 k8
      generalize upd H7 fl (.lst []) = H8 at k8 efl met8 el8 hn8 ⊢
      have nl := hn'.len
      have lv := levC_len (M := hasA m) (k := i)
      have lv2 : 2 ^ i ≤ 2 ^ 11 := Nat.pow_le_pow_right (by decide) (by omega)
      have lm := metC_len (M := hasA m) (k := i)
      have lm2 : 2 ^ (i + 1) ≤ 2 ^ 12 := Nat.pow_le_pow_right (by decide) (by omega)
      walk_at "sts"
      refine forL_go (fun j σ' H' => ∃ (R : Ms) (cs : List Ct) (y6 : Option V), σ' = [some (.int L), some (.ref d), some (.ref D), some (.ref l'), some (.int i), some (.ref fl), y6] ∧ CtsAt H' fl cs ∧ cs = ((Tab.levC (hasA m) i).take j).foldl (Tab.stepC (hasA m)) [] ∧ MetAt H' D R ∧ MetOk R ∧ R.map (·.1) = Tab.metC (hasA m) i ++ cs ∧ Keep [D, fl] H8 H') (sqL_of el8) ⟨R, [], _, by first | exact rfl | trivial, efl, rfl, met8, ok7, by rw [hk7, List.append_nil], Keep.refl _ _⟩ (fun j σ' H' _ h => by obtain ⟨_, _, _, _, _, _, _, _, _, k⟩ := h; exact sqL_of (k _ _ (by simp [nlD, nlf]) el8)) ?_ ?_
      · rintro j v σ' H9 hv ⟨R9, cs, y6, rfl, ct9, hcs, met9, ok9, hk9, k9⟩
        obtain ⟨b, hb, rfl⟩ := getRef hv
        obtain ⟨c, hc, eb⟩ := hn8.get hb
        have nbD : b ≠ D := by rintro rfl; cases (eb.symm.trans met8.1)
        have nbf : b ≠ fl := by rintro rfl; obtain ⟨_, e, _⟩ := efl; cases (eb.symm.trans e)
        have eb9 := k9 _ _ (by simp [nbD, nbf]) eb
        have ndD : d ≠ D := by rintro rfl; cases (hD.symm.trans ed)
        have ndf : d ≠ fl := by rintro rfl; cases (hf0.symm.trans ed)
        have ed9 : EndsAt H9 d m := k9 _ _ (by simp [ndD, ndf]) ((k7.trans k8) _ _ (by simp) ed)
        have mc := List.mem_of_getElem? hc
        have sc := (Tab.mem_levC.mp mc).sum.1
        have hcs2 : ((Tab.levC (hasA m) i).take (j + 1)).foldl (Tab.stepC (hasA m)) [] = Tab.stepC (hasA m) cs c := by rw [take_snoc hc, List.foldl_append, ← hcs]; rfl
        have lcs : cs.length ≤ 2 * 2 ^ 11 := by
          have := foldC_len (M := hasA m) (now := (Tab.levC (hasA m) i).take j) (cs := [])
          rw [← hcs, List.length_take] at this
          simp only [List.length_nil] at this
          omega
        have lR9 : R9.length ≤ 9000 := by
          have h2 := congrArg List.length hk9
          rw [List.length_map, List.length_append] at h2
          omega
        rw [hcs2]
        walk_at "sts"
        refine r_dinT (f := V.str) (g := fun b => !b) ed9 eb9 ?_
        unfold Tab.stepC
        cases hM : hasA m c with
        | true =>
          walk_at "sts"
          exact ⟨R9, cs, _, by first | exact rfl | trivial, ct9, rfl, met9, ok9, hk9, k9⟩
        | false =>
          have cin : c ∈ Tab.metC (hasA m) i := Tab.mem_metC.mpr ⟨i, Nat.le_refl _, Tab.mem_levC.mp mc⟩
          walk_at "sts"
          refine ⟨D, fl, b, R9, Tab.metC (hasA m) i, cs, c, rfl, met9, ok9, eb9, ct9, by rw [hk9]; exact List.mem_append_left _ cin, hk9, fun x hx => ?_, nDf, lR9, by omega, fun R' H' k10 met10 ok10 ct10 hk10 => ?_⟩
          · obtain ⟨j', hj', mt⟩ := Tab.mem_metC.mp hx
            have := mt.sum.1; omega
          · walk_at "sts"
            exact ⟨R', _, _, by first | exact rfl | trivial, ct10, rfl, met10, ok10, hk10, k9.trans k10⟩
      · rintro σ' H9 ⟨R9, cs, y6, rfl, ct9, hcs, met9, ok9, hk9, k9⟩
        rw [List.length_map, nl, List.take_length] at hcs
        have e1 : cs = Tab.levC (hasA m) (i + 1) := hcs
        walk_at "sts"
        refine ⟨fl, R9, _, _, _, by first | exact rfl | trivial, e1 ▸ ct9, met9, ok9, by rw [hk9, e1]; rfl, Ne.symm nDf, (k7.trans k8).drop2 k9 hD hf0⟩
    · rintro σ' H7 ⟨l', R, y4, y5, y6, rfl, ct7, met7, ok7, hk7, nlD, k7⟩
      rw [show (L : Int).toNat = L by omega] at hk7
      walk_at "sts"
      refine qq D R H7 k7 hD met7 ok7 hk7 ?_
      have h2 := congrArg List.length hk7
      rw [List.length_map] at h2
      have lm := metC_len (M := hasA m) (k := L)
      have lm2 : 2 ^ (L + 1) ≤ 2 ^ 13 := Nat.pow_le_pow_right (by decide) (by omega)
      omega
end
/-! ### filled, and the fault that is due -/
open Tab (cnt addC)
def spFilled : Sp := fun vs H Q _ => ∃ (a : Addr) (L : Nat) (d : Addr) (m : Ends), vs = [.ref a, .int L, .ref d] ∧ BoxAt a H ∧ EndsAt H d m ∧ Pre L m ∧ m.length ≤ 90 ∧ 1 ≤ L ∧ L ≤ 12 ∧ ∀ D m' H', Keep [a] H H' → BoxAt a H' → H D = none → EndsAt H' D m' → Valid L m' → Q (.ref D) H'
def spFault : Sp := fun vs H Q _ => ∃ (d : Addr) (l : Int) (m : Ends), vs = [.int l, .ref d] ∧ EndsAt H d m ∧ (m.map (·.1)).Nodup ∧ m.length ≤ 5000 ∧ ∀ H', Keep [] H H' → Q (.str (faultS l m)) H'
def gridC : List Ct := (List.range 13).flatMap fun (i : Nat) => (List.range 13).map fun (j : Nat) => ((i : Int), (j : Int))
theorem few_of {L : Nat} {m : Ends} (nd : (m.map (·.1)).Nodup) (l2 : L ≤ 12) (key : ∀ p ∈ m, 0 ≤ p.1.1 ∧ 0 ≤ p.1.2 ∧ 1 ≤ p.1.1 + p.1.2 ∧ p.1.1 + p.1.2 ≤ (L : Int)) : m.length ≤ 169 := by
  have h := ct_nodup_len (xs := gridC) nd fun x hx => by
    obtain ⟨p, hp, rfl⟩ := List.mem_map.mp hx
    obtain ⟨a, b, c, d⟩ := key p hp
    unfold gridC
    rw [List.mem_flatMap]
    refine ⟨p.1.1.toNat, List.mem_range.mpr (by omega), List.mem_map.mpr ⟨p.1.2.toNat, List.mem_range.mpr (by omega), ?_⟩⟩
    exact Prod.ext (by show ((p.1.1.toNat : Nat) : Int) = _; omega) (by show ((p.1.2.toNat : Nat) : Int) = _; omega)
  rw [List.length_map] at h
  exact Nat.le_trans h (by decide)
section
variable {P : Program} {w : World} {K : PySem.W.Frag} {mg : Str → Option Value} {base : Heap}
theorem ok_filled (T : Tx K mg) (G_w_copy : FnOk P w K mg base CX0 1 T.f_w_copy T.fd_w_copy ["_law_ends"] spCopy) (G_w_met : FnOk P w K mg base CX0 2 T.f_w_met T.fd_w_met ["_law_limit_here", "_law_ends"] spMet)
    (G_w_word : FnOk P w K mg base CX0 2 T.f_w_word T.fd_w_word ["_law_box_here"] spWord) : FnOk P w K mg base CX0 3 T.f_w_filled T.fd_w_filled ["_law_box_here", "_law_limit_here", "_law_ends"] spFilled := by
  refine T.F_w_filled.ok sc_w_filled (fun vs H Q E h => ?_) (fun cdv A outer s H vs Q E hr h => ?_)
  · obtain ⟨a, L, d, m, rfl, _⟩ := h; rfl
  · obtain ⟨a, L, d, m, rfl, hb, ed, pm, lm, l1, l2, qq⟩ := h
    refine ⟨_, (pss_cons (ps_set (i := 3) sc_w_filled.nd rfl (Or.inl rfl) (pe_call G_w_copy (hr.mono (by decide)) rfl T.g_w_copy T.F_w_copy.kp T.b_w_copy .nil pass0 (pa_cons (pv 2) pa_nil)))
    (pss_cons (ps_for PassesOwn.never rfl (pi_list (pe_callTy (call_list_dT rfl) (by rfl) T.m_list (by decide +kernel) (pa_cons (pe_call G_w_met (hr.mono (by decide)) rfl T.g_w_met T.F_w_met.kp T.b_w_met .nil pass0 (pa_cons (pv 1) (pa_cons (pv 2) pa_nil))) pa_nil))) (pg_name (i := 4) sc_w_filled.nd rfl (Or.inl rfl))
    (pss_one (ps_if (PW.pt (pw_and (pt_cmpR op_eq (pe_op op_add (pe_ix ix_tup (pv 4) pe_int (fun _ _ => rfl)) (pe_ix ix_tup (pv 4) pe_int (fun _ _ => rfl))) (pv 1) (nomark _)) (pw_and1 (pt_cmp (pc_dnotin (hu_of hr) (pv 4) (pv 2))))))
    (pss_one (ps_dput (hu_of hr) (pv 3) (pv 4) (pe_call G_w_word (hr.mono (by decide)) rfl T.g_w_word T.F_w_word.kp T.b_w_word .nil pass0 (pa_cons (pv 0) pa_nil)) rfl))
    pss_nil)))
    (pss_one (ps_ret (pv 3))))), ?_⟩
    walk_at "start"
    walk_at "sts"
    refine ⟨d, m, rfl, ed, pm.nd, by omega, fun D H1 k1 nD eD => ?_⟩
    walk_at "sts"
    refine ⟨L, d, m, rfl, k1 _ _ (by simp) ed, l2, fun DM R H2 k2 nDM met ok hk lR => ?_⟩
    walk_at "sts"
    refine ⟨DM, _, rfl, .inl met.1, fun lq bs hlq hks => ?_⟩
    have ks := keys_kvG hks
    rw [hk] at ks
    have k3 : Keep [] H2 (upd H2 lq (.lst (bs.map V.ref))) := Keep.new hlq
    have eq : upd H2 lq (.lst (bs.map V.ref)) lq = some (.lst (bs.map V.ref)) := upd_same
    have ca := ks.keep0 k3
    have nqH2 : H1 lq = none := k2.free (by simp) hlq
    have k12' : Keep [] H1 (upd H2 lq (.lst (bs.map V.ref))) := k2.trans k3
    generalize upd H2 lq (.lst (bs.map V.ref)) = H3 at k3 eq ca k12' ⊢
    generalize hcs : Tab.metC (hasA m) L = cs at ca hk
    have lcs : cs.length ≤ 8192 := by have := congrArg List.length hk; rw [List.length_map] at this; omega
    have mem : ∀ c, c ∈ cs ↔ ∃ j, j ≤ L ∧ Tab.Mt (hasA m) j c := fun c => by rw [← hcs, Tab.mem_metC]
    have k12 := k1.trans k12'
    have eD2 := k12' _ _ (by simp) eD
    have hb2 := hb.keep0 k12
    have nDa : D ≠ a := hb.ne nD
    have nqa : lq ≠ a := (hb.keep0 k1).ne nqH2
    have nqD : lq ≠ D := by rintro rfl; cases (nqH2.symm.trans eD)
    have lca := ca.len
    walk_at "sts"
    refine forL_go (fun i σ' H' => ∃ (m' : Ends) (y : Option V), σ' = [some (.ref a), some (.int L), some (.ref d), some (.ref D), y] ∧ EndsAt H' D m' ∧ Pre L m' ∧ (∀ c, hasA m' c = true ↔ hasA m c = true ∨ (c ∈ cs.take i ∧ c.1 + c.2 = (L : Int))) ∧ m'.length ≤ m.length + i ∧ Keep [a, D] H3 H' ∧ Keep [a] H H' ∧ BoxAt a H') (sqL_of eq) ⟨m, _, by first | exact rfl | trivial, eD2, pm, by simp, by omega, Keep.refl _ _, k12.mono (by simp), hb2⟩ (fun i σ' H' _ h => by obtain ⟨_, _, _, _, _, _, _, k, _⟩ := h; exact sqL_of (k _ _ (by simp [nqa, nqD]) eq)) ?_ ?_
    · rintro i v σ' H4 hv ⟨m', y, rfl, e3, p3, h3, l3, k3', kH, b3⟩
      obtain ⟨b, hb0, rfl⟩ := getRef hv
      obtain ⟨c, hc, eb⟩ := ca.get hb0
      have hi := (List.getElem?_eq_some_iff.mp hc).1
      have nba : b ≠ a := by rintro rfl; obtain ⟨_, _, _, e, _⟩ := hb2; cases (e.symm.trans eb)
      have nbD : b ≠ D := by rintro rfl; cases (eD2.symm.trans eb)
      have eb4 : H4 b = some (.tup [.int c.1, .int c.2]) := k3' _ _ (by simp [nba, nbD]) eb
      have nda := hb.ned ed
      have ed4 : EndsAt H4 d m := kH _ _ (by simpa using nda) ed
      have skip : ¬ (c.1 + c.2 = (L : Int) ∧ hasA m c = false) → ∀ x, hasA m' x = true ↔ hasA m x = true ∨ (x ∈ cs.take (i + 1) ∧ x.1 + x.2 = (L : Int)) := fun hn x => by
        rw [h3, take_snoc hc, List.mem_append, List.mem_singleton]
        constructor
        · rintro (h | h)
          · exact .inl h
          · exact .inr ⟨.inl h.1, h.2⟩
        · rintro (h | ⟨h | rfl, e⟩)
          · exact .inl h
          · exact .inr ⟨h, e⟩
          · cases hM : hasA m x with
            | true => exact .inl rfl
            | false => exact (hn ⟨e, hM⟩).elim
      walk_at "sts"
      refine r_ite (fun c1 => ?_) (fun c1 => ?_)
      case refine_2 =>
        walk_at "sts"
        exact ⟨m', _, by first | exact rfl | trivial, e3, p3, skip (fun z => c1 z.1), by omega, k3', kH, b3⟩
      walk_at "sts"
      refine r_dinT (f := V.str) (g := fun b => !b) ed4 eb4 ?_
      cases hM : hasA m c with
      | true =>
        walk_at "sts"
        exact ⟨m', _, by first | exact rfl | trivial, e3, p3, skip (fun z => by rw [hM] at z; cases z.2), by omega, k3', kH, b3⟩
      | false =>
        obtain ⟨j, hj, mt⟩ := (mem c).mp (List.mem_of_getElem? hc)
        have sm := mt.sum
        walk_at "sts"
        refine ⟨a, rfl, b3, fun wd H5 hw k4 b4 => ?_⟩
        have e4 := k4 _ _ (by simpa using nDa) e3
        have eb5 := k4 _ _ (by simpa using nba) eb4
        walk_at "sts"
        refine r_dputT e4 eb5 (lt_size (by rw [len_kvG]; omega)) ?_
        rw [put_kvG]
        refine ⟨_, _, by first | exact rfl | trivial, upd_same, p3.put ⟨sm.2.1, sm.2.2, by omega, by omega⟩ hw, fun x => ?_, Nat.le_trans putA_len (by omega), (k3'.trans (k4.mono (by simp))).trans (Keep.at (by simp)), (kH.trans k4).mut nD, b4.put nDa⟩
        rw [hasA_put, h3, take_snoc hc, List.mem_append, List.mem_singleton]
        constructor
        · rintro (e | e | e)
          · exact .inr ⟨.inr e, by rw [e]; exact c1⟩
          · exact .inl e
          · exact .inr ⟨.inl e.1, e.2⟩
        · rintro (e | ⟨e | e, e2⟩)
          · exact .inr (.inl e)
          · exact .inr (.inr ⟨e, e2⟩)
          · exact .inl e
    · rintro σ' H4 ⟨m', y, rfl, e3, p3, h3, l3, k3', kH, b3⟩
      rw [List.length_map, lca] at l3
      rw [List.length_map, lca, List.take_length] at h3
      walk_at "sts"
      refine qq D m' H4 kH b3 nD e3 ⟨l1, l2, p3.nd, p3.key, p3.word, ?_, fun c hc => ?_⟩
      · exact Nat.le_trans (few_of p3.nd l2 p3.key) (by decide)
      · have mt : Tab.Mt (hasA m) L c := mt_mono (fun x hx => by
          cases e : hasA m x with
          | false => rfl
          | true => have := (h3 x).mpr (.inl e); rw [hx] at this; cases this) hc
        rw [h3]
        exact .inr ⟨(mem c).mpr ⟨L, Nat.le_refl _, mt⟩, mt.sum.1⟩
theorem ok_fault (T : Tx K mg) (G_w_met : FnOk P w K mg base CX0 2 T.f_w_met T.fd_w_met ["_law_limit_here", "_law_ends"] spMet) : FnOk P w K mg base CX0 3 T.f_w_fault T.fd_w_fault ["_law_limit_here", "_law_ends"] spFault := by
  refine T.F_w_fault.ok sc_w_fault (fun vs H Q E h => ?_) (fun cdv A outer s H vs Q E hr h => ?_)
  · obtain ⟨d, l, m, rfl, _⟩ := h; rfl
  · obtain ⟨d, l, m, rfl, ed, nd, len, qq⟩ := h
    refine ⟨_, (pss_cons (ps_if (PW.pt (pw_or (pt_cmpR op_lt (pv 0) pe_int (nomark _)) (pw_or1 (pt_cmpR op_gt (pv 0) pe_int (nomark _)))))
    (pss_one (ps_ret pe_str))
    pss_nil)
    (pss_cons (ps_lock (ps_for PassesOwn.never rfl (pi_keys (pv 1)) (pg_name (i := 2) sc_w_fault.nd rfl (Or.inl rfl))
    (pss_one (ps_if (PW.pt (pw_or (pt_cmpR op_lt (pe_ix ix_tup (pv 2) pe_int (fun _ _ => rfl)) pe_int (nomark _)) (pw_or (pt_cmpR op_lt (pe_ix ix_tup (pv 2) pe_int (fun _ _ => rfl)) pe_int (nomark _)) (pw_or (pt_cmpR op_lt (pe_op op_add (pe_ix ix_tup (pv 2) pe_int (fun _ _ => rfl)) (pe_ix ix_tup (pv 2) pe_int (fun _ _ => rfl))) pe_int (nomark _)) (pw_or1 (pt_cmpR op_gt (pe_op op_add (pe_ix ix_tup (pv 2) pe_int (fun _ _ => rfl)) (pe_ix ix_tup (pv 2) pe_int (fun _ _ => rfl))) (pv 0) (nomark _)))))))
    (pss_one (ps_ret pe_str))
    pss_nil))))
    (pss_cons (ps_lock (ps_for PassesOwn.never rfl (pi_keys (pv 1)) (pg_name (i := 2) sc_w_fault.nd rfl (Or.inl rfl))
    (pss_one (ps_if (pt_cmpR op_notIn_seq (pe_dget (hu_of hr) (pv 1) (pv 2) (fun _ _ => rfl)) (pe_lst (pa_cons pe_str (pa_cons pe_str (pa_cons pe_str pa_nil)))) (by rfl))
    (pss_one (ps_ret pe_str))
    pss_nil))))
    (pss_cons (ps_for PassesOwn.never rfl (pi_list (pe_callTy (call_list_dT rfl) (by rfl) T.m_list (by decide +kernel) (pa_cons (pe_call G_w_met (hr.mono (by decide)) rfl T.g_w_met T.F_w_met.kp T.b_w_met .nil pass0 (pa_cons (pv 0) (pa_cons (pv 1) pa_nil))) pa_nil))) (pg_name (i := 2) sc_w_fault.nd rfl (Or.inl rfl))
    (pss_one (ps_if (PW.pt (pw_and (pt_cmpR op_eq (pe_op op_add (pe_ix ix_tup (pv 2) pe_int (fun _ _ => rfl)) (pe_ix ix_tup (pv 2) pe_int (fun _ _ => rfl))) (pv 0) (nomark _)) (pw_and1 (pt_cmp (pc_dnotin (hu_of hr) (pv 2) (pv 1))))))
    (pss_one (ps_ret pe_str))
    pss_nil)))
    (pss_one (ps_ret pe_str)))))), ?_⟩
    walk_at "start"
    walk_at "sts"
    have told : ∀ (f : Str) H', faultS l m = f → Keep [] H H' → Q (.str f) H' := fun f H' e k => by
      have := qq H' k
      rwa [e] at this
    refine r_ite (fun c1 => ?_) (fun c1 => ?_)
    case refine_1 =>
      walk_at "sts"
      exact told fL H (fault_L (by omega)) (Keep.refl _ _)
    walk_at "sts"
    refine r_ite (fun c2 => ?_) (fun c2 => ?_)
    case refine_1 =>
      walk_at "sts"
      exact told fL H (fault_L (by omega)) (Keep.refl _ _)
    have hl : 1 ≤ l ∧ l ≤ 12 := by omega
    walk_at "sts"
    refine forKT_go ed (fun od Q' hQ => r_var rfl hQ) (fun od i σ' H' => ∃ y2 : Option V, σ' = [some (.int l), some (.ref d), y2] ∧ H' = upd H d (.frz od (.dT (kvG V.str m))) ∧ ∀ p ∈ m.take i, badC l p.1 = false) (fun od => ⟨_, by first | exact rfl | trivial, rfl, by simp⟩) (fun od i σ' H' h => by obtain ⟨_, _, rfl, _⟩ := h; exact upd_same) ?_ ?_
    · rintro od i k v q σ' H' at1 tup ⟨y2, rfl, rfl, ok⟩
      obtain ⟨p, hp, rfl, rfl⟩ := get_kvG at1
      have tup2 : upd H d (.frz od (.dT (kvG V.str m))) q = some (.tup [.int p.1.1, .int p.1.2]) := tup
      have fin : badC l p.1 = true → Q (.str fC) H := fun hb => told fC H (fault_C hl (List.any_eq_true.mpr ⟨p, List.mem_of_getElem? hp, hb⟩)) (Keep.refl _ _)
      have back := upd_back (f := .frz od (.dT (kvG V.str m))) ed
      have at2 : upd H d (.frz od (.dT (kvG V.str m))) d = some (.frz od (.dT (kvG V.str m))) := upd_same
      have good : badC l p.1 = false → ∀ z ∈ m.take (i + 1), badC l z.1 = false := fun hb z hz => by
        rw [take_snoc hp, List.mem_append, List.mem_singleton] at hz
        rcases hz with hz | rfl
        · exact ok z hz
        · exact hb
      walk_at "sts"
      refine r_ite (fun c1 => ?_) (fun c1 => ?_)
      · walk_at "sts"
        exact ⟨at2, by rw [back]; exact fin (by unfold badC; rw [decide_eq_true c1]; rfl)⟩
      walk_at "sts"
      refine r_ite (fun c2 => ?_) (fun c2 => ?_)
      · walk_at "sts"
        exact ⟨at2, by rw [back]; exact fin (by unfold badC; rw [decide_eq_true c2]; simp)⟩
      walk_at "sts"
      refine r_ite (fun c3 => ?_) (fun c3 => ?_)
      · walk_at "sts"
        exact ⟨at2, by rw [back]; exact fin (by unfold badC; rw [decide_eq_false (show ¬ 1 ≤ p.1.1 + p.1.2 by omega)]; simp)⟩
      walk_at "sts"
      refine r_ite (fun c4 => ?_) (fun c4 => ?_)
      · walk_at "sts"
        exact ⟨at2, by rw [back]; exact fin (by unfold badC; rw [decide_eq_false (show ¬ p.1.1 + p.1.2 ≤ l by omega)]; simp)⟩
      walk_at "sts"
      exact ⟨_, by first | exact rfl | trivial, rfl, good (by unfold badC; rw [decide_eq_false c1, decide_eq_false c2, decide_eq_true (show 1 ≤ p.1.1 + p.1.2 by omega), decide_eq_true (show p.1.1 + p.1.2 ≤ l by omega)]; rfl)⟩
    rintro od σ' H' ⟨y2, rfl, rfl, okc⟩
    rw [len_kvG, List.take_length] at okc
    have nb : ¬ (m.any fun p => badC l p.1) = true := fun h => by
      obtain ⟨p, hp, e⟩ := List.any_eq_true.mp h
      rw [okc p hp] at e; cases e
    rw [upd_back ed]
    walk_at "sts"
    refine forKT_go ed (fun od Q' hQ => r_var rfl hQ) (fun od i σ' H' => ∃ y2 : Option V, σ' = [some (.int l), some (.ref d), y2] ∧ Keep [] (upd H d (.frz od (.dT (kvG V.str m)))) H' ∧ ∀ p ∈ m.take i, isW p.2 = true) (fun od => ⟨_, by first | exact rfl | trivial, Keep.refl _ _, by simp⟩) (fun od i σ' H' h => by obtain ⟨_, _, k, _⟩ := h; exact k _ _ (by simp) upd_same) ?_ ?_
    · rintro od i k v q σ' H1 at1 tup ⟨y2, rfl, k1, ok⟩
      obtain ⟨p, hp, rfl, rfl⟩ := get_kvG at1
      have gp := getA_mem nd (List.mem_of_getElem? hp)
      have tup2 : H1 q = some (cHO p.1) := tup
      have ed1 : H1 d = some (.frz od (.dT (kvG V.str m))) := k1 _ _ (by simp) upd_same
      have e1 : inV (V.str p.2) [V.str wR, V.str wM, V.str wU] = isW p.2 := by
        unfold inV isW
        simp only [List.any_cons, List.any_nil, Bool.or_false, eqV_dec]
      walk_at "sts"
      refine ⟨d, _, rfl, dgetTL (f := V.str) ed1 tup2 gp, ?_⟩
      walk_at "sts"
      intro l3 hl3
      have k2 : Keep [] H1 (upd H1 l3 (.lst [.str wR, .str wM, .str wU])) := Keep.new hl3
      have el3 : upd H1 l3 (.lst [.str wR, .str wM, .str wU]) l3 = some (.lst [.str wR, .str wM, .str wU]) := upd_same
      generalize upd H1 l3 (.lst [.str wR, .str wM, .str wU]) = H2 at k2 el3 ⊢
      have ed2 := k2 _ _ (by simp) ed1
      refine ⟨l3, _, rfl, .inl (sqL_of el3), rfl, flat_ws, ?_⟩
      rw [show inV (V.str p.2) [V.str "reached", V.str "missed", V.str "unsure"] = isW p.2 from e1, if_pos rfl]
      cases hw : isW p.2 with
      | true =>
        walk_at "sts"
        refine ⟨_, by first | exact rfl | trivial, k1.trans k2, fun z hz => ?_⟩
        rw [take_snoc hp, List.mem_append, List.mem_singleton] at hz
        rcases hz with hz | rfl
        · exact ok z hz
        · exact hw
      | false =>
        walk_at "sts"
        exact ⟨ed2, told fW _ (fault_W hl nb (List.any_eq_true.mpr ⟨p, List.mem_of_getElem? hp, by rw [hw]; rfl⟩)) (Keep.unlock ed (k1.trans k2))⟩
    rintro od σ' H1 ⟨y3, rfl, k1, okw⟩
    rw [len_kvG, List.take_length] at okw
    have nw : ¬ (m.any fun p => !isW p.2) = true := fun h => by
      obtain ⟨p, hp, e⟩ := List.any_eq_true.mp h
      rw [okw p hp] at e; cases e
    have k2 : Keep [] H (upd H1 d (.dT (kvG V.str m))) := Keep.unlock ed k1
    have ed2 : EndsAt (upd H1 d (.dT (kvG V.str m))) d m := upd_same
    generalize upd H1 d (.dT (kvG V.str m)) = H2 at k2 ed2 ⊢
    clear k1
    obtain ⟨L, rfl⟩ : ∃ L : Nat, l = L := ⟨l.toNat, by omega⟩
    walk_at "sts"
    refine ⟨L, d, m, rfl, ed2, by omega, fun DM R H3 k3 nDM met ok hk lR => ?_⟩
    walk_at "sts"
    refine ⟨DM, _, rfl, .inl met.1, fun lq bs hlq hks => ?_⟩
    have ks := keys_kvG hks
    rw [hk] at ks
    have k4 : Keep [] H3 (upd H3 lq (.lst (bs.map V.ref))) := Keep.new hlq
    have eq : upd H3 lq (.lst (bs.map V.ref)) lq = some (.lst (bs.map V.ref)) := upd_same
    have ca := ks.keep0 k4
    have kH4 := k2.trans (k3.trans k4)
    have ed4 : EndsAt (upd H3 lq (.lst (bs.map V.ref))) d m := (k3.trans k4) _ _ (by simp) ed2
    generalize upd H3 lq (.lst (bs.map V.ref)) = H4 at k4 eq ca kH4 ed4 ⊢
    have lca := ca.len
    have e2 : (((L : Int).toNat : Nat) : Int) = L := by omega
    walk_at "sts"
    refine forL_go (fun i σ' H' => ∃ y : Option V, σ' = [some (.int L), some (.ref d), y] ∧ H' = H4 ∧ ∀ c ∈ (Tab.metC (hasA m) L).take i, gapC L m c = false) (sqL_of eq) ⟨_, by first | exact rfl | trivial, rfl, by simp⟩ (fun i σ' H' _ h => by obtain ⟨_, _, rfl, _⟩ := h; exact sqL_of eq) ?_ ?_
    · rintro i v σ' H5 hv ⟨y, rfl, rfl, ok⟩
      obtain ⟨b, hb0, rfl⟩ := getRef hv
      obtain ⟨c, hc, eb⟩ := ca.get hb0
      have eb4 : H5 b = some (.tup [.int c.1, .int c.2]) := eb
      have good : gapC L m c = false → ∀ z ∈ (Tab.metC (hasA m) L).take (i + 1), gapC L m z = false := fun hb z hz => by
        rw [take_snoc hc, List.mem_append, List.mem_singleton] at hz
        rcases hz with hz | rfl
        · exact ok z hz
        · exact hb
      walk_at "sts"
      refine r_ite (fun c1 => ?_) (fun c1 => ?_)
      · walk_at "sts"
        refine r_dinT (f := V.str) (g := fun b => !b) ed4 eb ?_
        cases hM : hasA m c with
        | true =>
          walk_at "sts"
          exact ⟨_, by first | exact rfl | trivial, rfl, good (by unfold gapC; rw [hM]; simp)⟩
        | false =>
          walk_at "sts"
          exact told fG _ (fault_G hl nb nw (List.any_eq_true.mpr ⟨c, List.mem_of_getElem? hc, by unfold gapC; rw [hM, e2, decide_eq_true c1]; rfl⟩)) kH4
      · walk_at "sts"
        exact ⟨_, by first | exact rfl | trivial, rfl, good (by unfold gapC; rw [decide_eq_false c1]; rfl)⟩
    · rintro σ' H5 ⟨y, rfl, rfl, okg⟩
      rw [List.length_map, lca, List.take_length] at okg
      have ng : ¬ gapB (L : Int).toNat m = true := fun h => by
        obtain ⟨c, hc, e⟩ := List.any_eq_true.mp h
        rw [e2, okg c hc] at e; cases e
      walk_at "sts"
      exact told f0 _ (fault_0 hl nb nw ng) kH4
end
/-! ### what is made wrong -/
open Tab (cnt addC)
def spFlags : Sp := fun vs H Q _ => ∃ a : Addr, vs = [.ref a] ∧ BoxAt a H ∧ ∀ (q : Addr) (bs : List Bool) (H' : Hp), Keep [a] H H' → BoxAt a H' → H q = none → H' q = some (.lst (bs.map V.bl)) → bs.length = 4 → Q (.ref q) H'
def spBadLimit : Sp := fun vs H Q _ => ∃ (a : Addr) (L : Int) (b : Bool), vs = [.ref a, .int L, .bl b] ∧ BoxAt a H ∧ ∀ (l : Int) (H' : Hp), Keep [a] H H' → BoxAt a H' → Q (.int l) H'
def spBadCount : Sp := fun vs H Q _ => ∃ (a : Addr) (L : Int), vs = [.ref a, .int L] ∧ BoxAt a H ∧ ∀ (q : Addr) (c : Ct) (H' : Hp), Keep [a] H H' → BoxAt a H' → H' q = some (cHO c) → Q (.ref q) H'
section
variable {P : Program} {w : World} {K : PySem.W.Frag} {mg : Str → Option Value} {base : Heap}
theorem ok_flags (T : Tx K mg) (G_w_take : FnOk P w K mg base CX0 1 T.f_w_take T.fd_w_take ["_law_box_here", "_law_size"] spDr) : FnOk P w K mg base CX0 2 T.f_w_flags T.fd_w_flags ["_law_box_here"] spFlags := by
  refine T.F_w_flags.ok sc_w_flags (fun vs H Q E h => ?_) (fun cdv A outer s H vs Q E hr h => ?_)
  · obtain ⟨a, rfl, _⟩ := h; rfl
  · obtain ⟨a, rfl, hb, qq⟩ := h
    refine ⟨_, (pss_cons (ps_set (i := 1) sc_w_flags.nd rfl (Or.inr rfl) (pe_call G_w_take (hr.mono (by decide)) rfl T.g_w_take T.F_w_take.kp T.b_w_take .nil pass0 (pa_cons (pv 0) (pa_cons pe_int pa_nil))))
    (pss_cons (ps_if (pt_cmpR op_eq (pv 1) pe_int (nomark _))
    (pss_one (ps_ret (pe_lc (own := [("_law_k", 2)]) (g := gName 2) (tt := tYes) rfl sc_w_flags.nd (pi_range1 rfl T.m_range (pa_cons pe_int pa_nil)) (blkOk_by (own := [("_law_k", 2)]) (N := ["_law_box_here", "_law_way", "_law_k"]) (sc := defScope s_w_flags) (by decide +kernel)) (fun _ _ _ _ _ => pg_name (i := 2) sc_w_flags.nd rfl (Or.inl rfl)) (fun _ _ _ _ _ => pts_nil) (fun _ _ _ _ _ => (pe_cmpR op_eq (pe_call G_w_take (hr.mono (by decide)) rfl T.g_w_take T.F_w_take.kp T.b_w_take .nil pass0 (pa_cons (pv 0) (pa_cons pe_int pa_nil))) pe_int (nomark _))))))
    pss_nil)
    (pss_one (ps_ret (pe_lc (own := [("_law_k", 2)]) (g := gName 2) (tt := tYes) rfl sc_w_flags.nd (pi_range1 rfl T.m_range (pa_cons pe_int pa_nil)) (blkOk_by (own := [("_law_k", 2)]) (N := ["_law_box_here", "_law_way", "_law_k"]) (sc := defScope s_w_flags) (by decide +kernel)) (fun _ _ _ _ _ => pg_name (i := 2) sc_w_flags.nd rfl (Or.inl rfl)) (fun _ _ _ _ _ => pts_nil) (fun _ _ _ _ _ => (pe_cmpR op_eq (pv 1) (pe_op op_add (pv 2) pe_int) (nomark _)))))))), ?_⟩
    walk_at "start"
    walk_at "sts"
    refine r_dr hb (by decide) (by decide) fun n H1 a1 b1 k1 p1 => ?_
    walk_at "sts"
    refine r_ite (fun c1 => ?_) (fun c1 => ?_)
    · walk_at "sts"
      refine lcR1_go (fun D i acc H' => ∃ bs : List Bool, acc = bs.map V.bl ∧ bs.length = i ∧ Keep [a] H1 H' ∧ BoxAt a H' ∧ H1 D = none ∧ D ≠ a) (by omega) (fun D hD => ⟨[], rfl, rfl, Keep.new hD, p1.new hD, hD, p1.ne hD⟩) ?_ ?_
      · rintro D i acc H2 hi e2 ⟨bs, rfl, lb, k2, p2, nD, nDa⟩
        walk_at "sts"
        refine r_dr p2 (by decide) (by decide) fun n3 H3 a3 b3 k3 p3 => ?_
        have e3 := k3 _ _ (by simpa using nDa) e2
        walk_at "sts"
        exact ⟨bs.map V.bl, e3, lt_size (by rw [List.length_map]; omega), _, upd_same, bs ++ [decide (n3 = 1)], by simp, by simp [lb], (k2.trans k3).mut nD, p3.put nDa, nD, nDa⟩
      · rintro D acc H2 _ e2 ⟨bs, rfl, lb, k2, p2, nD, nDa⟩
        walk_at "sts"
        exact qq D bs H2 (k1.trans k2) p2 (k1.free (by simpa using nDa) nD) e2 lb
    · walk_at "sts"
      refine lcR1_go (fun D i acc H' => ∃ bs : List Bool, acc = bs.map V.bl ∧ bs.length = i ∧ Keep [] H1 H' ∧ H1 D = none) (by omega) (fun D hD => ⟨[], rfl, rfl, Keep.new hD, hD⟩) ?_ ?_
      · rintro D i acc H2 hi e2 ⟨bs, rfl, lb, k2, nD⟩
        walk_at "sts"
        exact ⟨bs.map V.bl, e2, lt_size (by rw [List.length_map]; omega), _, upd_same, bs ++ [decide (n = (i : Int) + 1)], by simp, by simp [lb], k2.mut nD, nD⟩
      · rintro D acc H2 _ e2 ⟨bs, rfl, lb, k2, nD⟩
        have nDa := p1.ne nD
        walk_at "sts"
        exact qq D bs H2 (k1.trans (k2.mono (by simp))) (p1.keep0 k2) (k1.free (by simpa using nDa) nD) e2 lb
theorem ok_bad_limit (T : Tx K mg) (G_w_take : FnOk P w K mg base CX0 1 T.f_w_take T.fd_w_take ["_law_box_here", "_law_size"] spDr) : FnOk P w K mg base CX0 2 T.f_w_bad_limit T.fd_w_bad_limit ["_law_box_here", "_law_limit_here", "_law_flag"] spBadLimit := by
  refine T.F_w_bad_limit.ok sc_w_bad_limit (fun vs H Q E h => ?_) (fun cdv A outer s H vs Q E hr h => ?_)
  · obtain ⟨a, L, b, rfl, _⟩ := h; rfl
  · obtain ⟨a, L, b, rfl, hb, qq⟩ := h
    refine ⟨_, (pss_cons (ps_if (pt_not (pt_val (pv 2)))
    (pss_one (ps_ret (pv 1)))
    pss_nil)
    (pss_cons (ps_set (i := 3) sc_w_bad_limit.nd rfl (Or.inl rfl) (pe_call G_w_take (hr.mono (by decide)) rfl T.g_w_take T.F_w_take.kp T.b_w_take .nil pass0 (pa_cons (pv 0) (pa_cons pe_int pa_nil))))
    (pss_cons (ps_set (i := 4) sc_w_bad_limit.nd rfl (Or.inl rfl) (pe_call G_w_take (hr.mono (by decide)) rfl T.g_w_take T.F_w_take.kp T.b_w_take .nil pass0 (pa_cons (pv 0) (pa_cons (pe_op op_pow pe_int pe_int) pa_nil))))
    (pss_cons (ps_if (pt_cmpR op_eq (pv 3) pe_int (nomark _))
    (pss_one (ps_ret pe_int))
    pss_nil)
    (pss_cons (ps_if (pt_cmpR op_eq (pv 3) pe_int (nomark _))
    (pss_one (ps_ret (pe_op op_sub (pe_un un_neg pe_int) (pv 4))))
    pss_nil)
    (pss_cons (ps_if (pt_cmpR op_eq (pv 3) pe_int (nomark _))
    (pss_one (ps_ret pe_int))
    pss_nil)
    (pss_one (ps_ret (pe_op op_add pe_int (pv 4)))))))))), ?_⟩
    walk_at "start"
    walk_at "sts"
    cases b with
    | false =>
      walk_at "sts"
      exact qq _ H (Keep.refl _ _) hb
    | true =>
      walk_at "sts"
      refine r_dr hb (by decide) (by decide) fun n H1 a1 b1 k1 p1 => ?_
      walk_at "sts"
      refine r_dr p1 (by decide) (by decide) fun n2 H2 a2 b2 k2 p2 => ?_
      have k12 := k1.trans k2
      walk_at "sts"
      refine r_ite (fun c1 => ?_) (fun c1 => ?_)
      · walk_at "sts"
        exact qq _ H2 k12 p2
      walk_at "sts"
      refine r_ite (fun c1 => ?_) (fun c1 => ?_)
      · walk_at "sts"
        exact qq _ H2 k12 p2
      walk_at "sts"
      refine r_ite (fun c1 => ?_) (fun c1 => ?_)
      · walk_at "sts"
        exact qq _ H2 k12 p2
      walk_at "sts"
      exact qq _ H2 k12 p2
theorem ok_bad_count (T : Tx K mg) (G_w_take : FnOk P w K mg base CX0 1 T.f_w_take T.fd_w_take ["_law_box_here", "_law_size"] spDr) : FnOk P w K mg base CX0 2 T.f_w_bad_count T.fd_w_bad_count ["_law_box_here", "_law_limit_here"] spBadCount := by
  refine T.F_w_bad_count.ok sc_w_bad_count (fun vs H Q E h => ?_) (fun cdv A outer s H vs Q E hr h => ?_)
  · obtain ⟨a, L, rfl, _⟩ := h; rfl
  · obtain ⟨a, L, rfl, hb, qq⟩ := h
    refine ⟨_, (pss_cons (ps_set (i := 2) sc_w_bad_count.nd rfl (Or.inl rfl) (pe_call G_w_take (hr.mono (by decide)) rfl T.g_w_take T.F_w_take.kp T.b_w_take .nil pass0 (pa_cons (pv 0) (pa_cons pe_int pa_nil))))
    (pss_cons (ps_set (i := 3) sc_w_bad_count.nd rfl (Or.inl rfl) (pe_op op_add pe_int (pe_call G_w_take (hr.mono (by decide)) rfl T.g_w_take T.F_w_take.kp T.b_w_take .nil pass0 (pa_cons (pv 0) (pa_cons (pe_op op_pow pe_int pe_int) pa_nil)))))
    (pss_cons (ps_if (pt_cmpR op_eq (pv 2) pe_int (nomark _))
    (pss_one (ps_ret (pe_tup (pa_cons pe_int (pa_cons pe_int pa_nil)))))
    pss_nil)
    (pss_cons (ps_if (pt_cmpR op_eq (pv 2) pe_int (nomark _))
    (pss_one (ps_ret (pe_tup (pa_cons (pe_un un_neg (pv 3)) (pa_cons (pe_op op_add (pv 3) pe_int) pa_nil)))))
    pss_nil)
    (pss_cons (ps_if (pt_cmpR op_eq (pv 2) pe_int (nomark _))
    (pss_one (ps_ret (pe_tup (pa_cons (pe_op op_add (pv 3) (pv 1)) (pa_cons (pe_un un_neg (pv 3)) pa_nil)))))
    pss_nil)
    (pss_cons (ps_if (pt_cmpR op_eq (pv 2) pe_int (nomark _))
    (pss_one (ps_ret (pe_tup (pa_cons (pv 1) (pa_cons pe_int pa_nil)))))
    pss_nil)
    (pss_cons (ps_if (pt_cmpR op_eq (pv 2) pe_int (nomark _))
    (pss_one (ps_ret (pe_tup (pa_cons pe_int (pa_cons (pe_op op_add (pv 1) (pv 3)) pa_nil)))))
    pss_nil)
    (pss_one (ps_ret (pe_tup (pa_cons (pe_un un_neg pe_int) (pa_cons (pe_un un_neg (pv 3)) pa_nil)))))))))))), ?_⟩
    walk_at "start"
    walk_at "sts"
    refine r_dr hb (by decide) (by decide) fun n H1 a1 b1 k1 p1 => ?_
    walk_at "sts"
    refine r_dr p1 (by decide) (by decide) fun n2 H2 a2 b2 k2 p2 => ?_
    have k12 := k1.trans k2
    have fin : ∀ (i j : Int) (u : Addr), H2 u = none → Q (.ref u) (upd H2 u (.tup [.int i, .int j])) := fun i j u hu => qq u (i, j) _ (k12.trans (Keep.new hu)) (p2.new hu) upd_same
    walk_at "sts"
    refine r_ite (fun c1 => ?_) (fun c1 => ?_)
    · walk_at "sts"
      intro u hu
      exact fin _ _ u hu
    walk_at "sts"
    refine r_ite (fun c1 => ?_) (fun c1 => ?_)
    · walk_at "sts"
      intro u hu
      exact fin _ _ u hu
    walk_at "sts"
    refine r_ite (fun c1 => ?_) (fun c1 => ?_)
    · walk_at "sts"
      intro u hu
      exact fin _ _ u hu
    walk_at "sts"
    refine r_ite (fun c1 => ?_) (fun c1 => ?_)
    · walk_at "sts"
      intro u hu
      exact fin _ _ u hu
    walk_at "sts"
    refine r_ite (fun c1 => ?_) (fun c1 => ?_)
    · walk_at "sts"
      intro u hu
      exact fin _ _ u hu
    walk_at "sts"
    intro u hu
    exact fin _ _ u hu
end
/-! ### a dict made wrong -/
open Tab (cnt addC)
def spBadEnds : Sp := fun vs H Q _ => ∃ (a : Addr) (L : Nat) (d fl : Addr) (m : Ends) (bs : List Bool), vs = [.ref a, .int L, .ref d, .ref fl] ∧ BoxAt a H ∧ EndsAt H d m ∧ Valid L m ∧ H fl = some (.lst (bs.map V.bl)) ∧ bs.length = 4 ∧ ∀ D m' H', Keep [a] H H' → BoxAt a H' → H D = none → EndsAt H' D m' → (m'.map (·.1)).Nodup → m'.length ≤ 5000 → Q (.ref D) H'
theorem Valid.zero {L : Nat} {m : Ends} (h : Valid L m) : ∃ c, hasA m c = true ∧ c.2 = 0 := by
  have all : ∀ k : Nat, k ≤ L → Tab.Mt (hasA m) k ((k : Int), 0) ∨ ∃ c, hasA m c = true ∧ c.2 = 0 := fun k => by
    induction k with
    | zero => intro _; exact .inl rfl
    | succ k ih =>
      intro hk
      rcases ih (by omega) with h1 | h1
      · cases e : hasA m ((k : Int), 0) with
        | true => exact .inr ⟨_, e, rfl⟩
        | false => exact .inl ⟨_, h1, e, .inl (by simp)⟩
      · exact .inr h1
  rcases all L (Nat.le_refl _) with h1 | h1
  · exact ⟨_, h.gap _ h1, rfl⟩
  · exact h1
theorem Valid.zero' {L : Nat} {m : Ends} (h : Valid L m) : ∃ c, hasA m c = true ∧ c.1 = 0 := by
  have all : ∀ k : Nat, k ≤ L → Tab.Mt (hasA m) k (0, (k : Int)) ∨ ∃ c, hasA m c = true ∧ c.1 = 0 := fun k => by
    induction k with
    | zero => intro _; exact .inl rfl
    | succ k ih =>
      intro hk
      rcases ih (by omega) with h1 | h1
      · cases e : hasA m (0, (k : Int)) with
        | true => exact .inr ⟨_, e, rfl⟩
        | false => exact .inl ⟨_, h1, e, .inr (by simp)⟩
      · exact .inr h1
  rcases all L (Nat.le_refl _) with h1 | h1
  · exact ⟨_, h.gap _ h1, rfl⟩
  · exact h1
theorem Valid.two {L : Nat} {m : Ends} (h : Valid L m) (x : Ct) : ∃ c, hasA m c = true ∧ c ≠ x := by
  obtain ⟨c, hc, c0⟩ := h.zero
  obtain ⟨e, he, e0⟩ := h.zero'
  by_cases q : c = x
  · refine ⟨e, he, fun z => ?_⟩
    obtain ⟨p, hp, ep⟩ := List.mem_map.mp (hasA_iff.mp hc)
    have := h.key p hp
    rw [ep, q] at this
    rw [q] at c0
    rw [z] at e0
    omega
  · exact ⟨c, hc, q⟩
def dropA (m : Ends) (c : Ct) : Ends := m.filter fun p => decide (p.1 ≠ c)
theorem drop_kvG {m : Ends} {c : Ct} : dropK (kvG V.str m) (ck c) = kvG V.str (dropA m c) := by
  unfold dropK kvG dropA
  rw [List.filter_map]
  congr 1
  apply List.filter_congr
  intro p _
  simp [Function.comp, ck_inj]
theorem dropA_nodup {m : Ends} {c : Ct} (h : (m.map (·.1)).Nodup) : ((dropA m c).map (·.1)).Nodup := by
  unfold dropA
  exact h.sublist (List.Sublist.map _ List.filter_sublist)
theorem dropA_pos {L : Nat} {m : Ends} (h : Valid L m) {c : Ct} : 0 < (dropA m c).length := by
  obtain ⟨e, he, ne⟩ := h.two c
  obtain ⟨p, hp, ep⟩ := List.mem_map.mp (hasA_iff.mp he)
  refine List.length_pos_of_mem (a := p) ?_
  unfold dropA
  exact List.mem_filter.mpr ⟨hp, by rw [ep]; simpa using ne⟩
theorem r_truL {K : PySem.W.Frag} {H : Hp} {p : Addr} {xs : List V} {R : Bool → Prop} (h : SqL K H p xs) (k : R (!xs.isEmpty)) : ∃ b, TruV K (.ref p) H b ∧ R b := ⟨_, .inl ⟨xs, h, rfl⟩, k⟩
theorem r_dpop1T {td ty : TE} {σ : L2.St} {H : Hp} {Q : VK} (k : td σ H fun x H1 => ∃ a, x = .ref a ∧ IsD H1 a ∧ ty σ H1 fun y H2 => ∃ (kvs : Dt.Tb) (k : List Key) (q : Addr) (v : V), H2 a = some (.dT kvs) ∧ y = .ref q ∧ H2 q = some (.tup (k.map kV)) ∧ valV kvs k = some v ∧ Q v (upd H2 a (.dT (dropK kvs k)))) : Dt.tDPop1T td ty σ H Q := k
theorem r_ixAny {K : PySem.W.Frag} {H : Hp} {l : Addr} {xs : List V} {j : Int} {Q : VK} (h : SqL K H l xs) (h0 : 0 ≤ j) (h1 : j < xs.length) (k : ∀ (i : Nat) v, j = i → xs[i]? = some v → Q v H) : rIxL K (.ref l) (.int j) H Q := by
  obtain ⟨i, rfl⟩ : ∃ i : Nat, j = i := ⟨j.toNat, by omega⟩
  obtain ⟨v, hv⟩ : ∃ v, xs[i]? = some v := ⟨_, List.getElem?_eq_getElem (by omega)⟩
  exact r_ixL h (atI_nat hv) (k i v rfl hv)
section
variable {P : Program} {w : World} {K : PySem.W.Frag} {mg : Str → Option Value} {base : Heap}
theorem ok_bad_ends (T : Tx K mg) (G_w_take : FnOk P w K mg base CX0 1 T.f_w_take T.fd_w_take ["_law_box_here", "_law_size"] spDr) (G_w_copy : FnOk P w K mg base CX0 1 T.f_w_copy T.fd_w_copy ["_law_ends"] spCopy) (G_w_met : FnOk P w K mg base CX0 2 T.f_w_met T.fd_w_met ["_law_limit_here", "_law_ends"] spMet)
    (G_w_bad_count : FnOk P w K mg base CX0 2 T.f_w_bad_count T.fd_w_bad_count ["_law_box_here", "_law_limit_here"] spBadCount) (G_w_word : FnOk P w K mg base CX0 2 T.f_w_word T.fd_w_word ["_law_box_here"] spWord) :
    FnOk P w K mg base CX0 3 T.f_w_bad_ends T.fd_w_bad_ends ["_law_box_here", "_law_limit_here", "_law_ends", "_law_flags_here"] spBadEnds := by
  refine T.F_w_bad_ends.ok sc_w_bad_ends (fun vs H Q E h => ?_) (fun cdv A outer s H vs Q E hr h => ?_)
  · obtain ⟨a, L, d, fl, m, bs, rfl, _⟩ := h; rfl
  · obtain ⟨a, L, d, fl, m, bs, rfl, hb, ed, va, efl, lb, qq⟩ := h
    obtain ⟨b0, b1, b2, b3, rfl⟩ : ∃ b0 b1 b2 b3, bs = [b0, b1, b2, b3] := by
      match bs, lb with
      | [b0, b1, b2, b3], _ => exact ⟨b0, b1, b2, b3, rfl⟩
    have efl' : H fl = some (.lst [.bl b0, .bl b1, .bl b2, .bl b3]) := efl
    have nfa : fl ≠ a := by rintro rfl; obtain ⟨_, _, _, e, _⟩ := hb; rw [efl'] at e; cases e
    have l2 := va.l2
    have few : m.length ≤ 169 := few_of va.nd va.l2 va.key
    refine ⟨_, (pss_cons (ps_set (i := 4) sc_w_bad_ends.nd rfl (Or.inl rfl) (pe_call G_w_copy (hr.mono (by decide)) rfl T.g_w_copy T.F_w_copy.kp T.b_w_copy .nil pass0 (pa_cons (pv 2) pa_nil)))
    (pss_cons (ps_setLc (i := 5) (own := [("_law_count", 6)]) (g := gName 6)  rfl sc_w_bad_ends.nd rfl rfl (sw_true rfl rfl rfl (by decide +kernel)) (pi_list (pe_callTy (call_list_dT rfl) (by rfl) T.m_list (by decide +kernel) (pa_cons (pe_call G_w_met (hr.mono (by decide)) rfl T.g_w_met T.F_w_met.kp T.b_w_met .nil pass0 (pa_cons (pv 1) (pa_cons (pv 2) pa_nil))) pa_nil))) (blkOk_by (own := [("_law_count", 6)]) (N := ["_law_box_here", "_law_limit_here", "_law_ends", "_law_flags_here", "_law_bad", "_law_last", "_law_count", "_law_counts", "_law_wrong_count"]) (sc := defScope s_w_bad_ends) (by decide +kernel)) (fun _ _ _ _ _ => pg_name (i := 6) sc_w_bad_ends.nd rfl (Or.inl rfl)) (fun _ _ _ _ _ => pts_one (pt_cmpR op_eq (pe_op op_add (pe_ix (ix_tupK (K := K) rfl) (pv 6) pe_int (fun _ _ => rfl)) (pe_ix (ix_tupK (K := K) rfl) (pv 6) pe_int (fun _ _ => rfl))) (pv 1) (nomark _))) (fun _ _ _ _ _ => (pv 6)))
    (Evl.pss_cut (ps_if (PW.pt (pw_and (pt_val (pe_ix ix_list (pv 3) pe_int (fun _ _ => rfl))) (pw_and1 (pt_truth (pv 5) (by intro _; rfl)))))
    (pss_one (ps_expr (Dt.pe_dpop1T (hu_of hr) (pv 4) (pe_ix ix_list (pv 5) (pe_call G_w_take (hr.mono (by decide)) rfl T.g_w_take T.F_w_take.kp T.b_w_take .nil pass0 (pa_cons (pv 0) (pa_cons (pe_callB call_len_seq (by rfl) T.m_len PySem.boot_len (pa_cons (pv 5) pa_nil)) pa_nil))) (fun _ _ => rfl)) ⟨rfl, rfl, rfl, rfl⟩)))
    pss_nil)
    (Evl.pss_cut (ps_if (pt_val (pe_ix ix_list (pv 3) pe_int (fun _ _ => rfl)))
    (pss_cons (ps_set (i := 7) sc_w_bad_ends.nd rfl (Or.inl rfl) (pe_callTy (call_list_dT rfl) (by rfl) T.m_list (by decide +kernel) (pa_cons (pv 4) pa_nil)))
    (pss_cons (ps_set (i := 6) sc_w_bad_ends.nd rfl (Or.inl rfl) (pe_ix ix_list (pv 7) (pe_call G_w_take (hr.mono (by decide)) rfl T.g_w_take T.F_w_take.kp T.b_w_take .nil pass0 (pa_cons (pv 0) (pa_cons (pe_callB call_len_seq (by rfl) T.m_len PySem.boot_len (pa_cons (pv 7) pa_nil)) pa_nil))) (fun _ _ => rfl)))
    (pss_one (ps_dput (hu_of hr) (pv 4) (pv 6) (pe_ix ix_list (pe_lst (pa_cons pe_str (pa_cons pe_str (pa_cons pe_str (pa_cons pe_str (pa_cons pe_str (pa_cons pe_str pa_nil))))))) (pe_call G_w_take (hr.mono (by decide)) rfl T.g_w_take T.F_w_take.kp T.b_w_take .nil pass0 (pa_cons (pv 0) (pa_cons pe_int pa_nil))) (fun _ _ => rfl)) rfl))))
    pss_nil)
    (pss_cons (ps_if (pt_val (pe_ix ix_list (pv 3) pe_int (fun _ _ => rfl)))
    (pss_cons (ps_set (i := 8) sc_w_bad_ends.nd rfl (Or.inl rfl) (pe_call G_w_bad_count (hr.mono (by decide)) rfl T.g_w_bad_count T.F_w_bad_count.kp T.b_w_bad_count .nil pass0 (pa_cons (pv 0) (pa_cons (pv 1) pa_nil))))
    (pss_one (ps_dput (hu_of hr) (pv 4) (pv 8) (pe_call G_w_word (hr.mono (by decide)) rfl T.g_w_word T.F_w_word.kp T.b_w_word .nil pass0 (pa_cons (pv 0) pa_nil)) rfl)))
    pss_nil)
    (pss_one (ps_ret (pv 4)))))))), ?_⟩
    walk_at "start"
    walk_at "sts"
    refine ⟨d, m, rfl, ed, va.nd, va.len, fun D H1 k1 nD eD => ?_⟩
    have nDa : D ≠ a := hb.ne nD
    walk_at "sts"
    refine ⟨L, d, m, rfl, k1 _ _ (by simp) ed, l2, fun DM R H2 k2 nDM met ok hk lR => ?_⟩
    walk_at "sts"
    refine ⟨DM, _, rfl, .inl met.1, fun lq as hlq hks => ?_⟩
    have ks := keys_kvG hks
    rw [hk] at ks
    have k3 : Keep [] H2 (upd H2 lq (.lst (as.map V.ref))) := Keep.new hlq
    have eq : upd H2 lq (.lst (as.map V.ref)) lq = some (.lst (as.map V.ref)) := upd_same
    have ca := ks.keep0 k3
    have kH3 := k1.trans (k2.trans k3)
    have eD3 : EndsAt (upd H2 lq (.lst (as.map V.ref))) D m := (k2.trans k3) _ _ (by simp) eD
    generalize upd H2 lq (.lst (as.map V.ref)) = H3 at k3 eq ca kH3 eD3 ⊢
    generalize hcs : Tab.metC (hasA m) L = cs at ca hk
    have lcs : cs.length ≤ 8192 := by have := congrArg List.length hk; rw [List.length_map] at this; omega
    have mem : ∀ c, c ∈ cs ↔ ∃ j, j ≤ L ∧ Tab.Mt (hasA m) j c := fun c => by rw [← hcs, Tab.mem_metC]
    have las := ca.len
    clear hks ks k1 k2 k3 eD met ok hk lR hcs
    walk_at "sts"
    refine lcL_go (fun D' i acc H' => ∃ (bs : List Addr) (ds : List Ct), acc = bs.map V.ref ∧ AllAt cHO H' bs ds ∧ (∀ c ∈ ds, c ∈ cs ∧ c.1 + c.2 = (L : Int)) ∧ bs.length ≤ i ∧ Keep [] H3 H' ∧ H3 D' = none) (sqL_of eq) (fun D' hD' => ⟨[], [], rfl, trivial, by simp, by simp, Keep.new hD', hD'⟩) (fun D' i acc H' _ h => by obtain ⟨_, _, _, _, _, _, k, _⟩ := h; exact sqL_of (k _ _ (by simp) eq)) ?_ ?_
    · rintro D' i v acc H4 hv hD' ⟨bs, ds, rfl, hbs, hds, lbs, k4, nD'⟩
      obtain ⟨b, hb0, rfl⟩ := getRef hv
      obtain ⟨c, hc, eb⟩ := ca.get hb0
      have hi := (List.getElem?_eq_some_iff.mp hc).1
      have eb4 : H4 b = some (.tup [.int c.1, .int c.2]) := k4 _ _ (by simp) eb
      walk_at "sts"
      refine r_ite (fun c1 => ?_) (fun c1 => ?_)
      · walk_at "sts"
        refine lc_put (acc := bs.map V.ref) hD' (by rw [List.length_map]; exact lt_size (by omega)) ⟨bs ++ [b], ds ++ [c], by rw [List.map_append]; rfl, ?_, fun x hx => ?_, by simp; omega, k4.mut nD', nD'⟩
        · exact cts_upd (hbs.app (bs := [b]) (ys := [c]) ⟨eb4, trivial⟩) (fun ys e => by rw [hD'] at e; cases e)
        · rcases List.mem_append.mp hx with hx | hx
          · exact hds x hx
          · rw [List.mem_singleton.mp hx]; exact ⟨List.mem_of_getElem? hc, c1⟩
      · walk_at "sts"
        exact ⟨_, hD', bs, ds, rfl, hbs, hds, by omega, k4, nD'⟩
    · rintro D' acc H4 nD' hD' ⟨bs, ds, rfl, hbs, hds, lbs, k4, _⟩
      have kH4 := kH3.trans k4
      have eD4 : EndsAt H4 D m := k4 _ _ (by simp) eD3
      have ef4 := kH4 _ _ (by simp) efl'
      have p4 := hb.keep0 kH4
      have nfD : fl ≠ D := by rintro rfl; rw [efl'] at nD; cases nD
      have nDa' : D' ≠ a := (hb.keep0 kH3).ne nD'
      have nDD' : D ≠ D' := by rintro rfl; cases (eD3.symm.trans nD')
      have lds := hbs.len
      rw [List.length_map] at lbs
      clear eD3 kH3 k4 eq ca
      walk_at "sts"
      refine r_cut (fun σ' H' => ∃ m1 : Ends, σ' = [some (.ref a), some (.int L), some (.ref d), some (.ref fl), some (.ref D), some (.ref D'), none, none, none] ∧ EndsAt H' D m1 ∧ (m1.map (·.1)).Nodup ∧ 0 < m1.length ∧ m1.length ≤ 169 ∧ H' fl = some (.lst [.bl b0, .bl b1, .bl b2, .bl b3]) ∧ Keep [a] H H' ∧ BoxAt a H') ?_ ?_
      · have stay : ∀ H', Keep [a] H4 H' → BoxAt a H' → ∃ m1 : Ends, [some (V.ref a), some (.int L), some (.ref d), some (.ref fl), some (.ref D), some (.ref D'), none, none, none] = [some (.ref a), some (.int L), some (.ref d), some (.ref fl), some (.ref D), some (.ref D'), none, none, none] ∧ EndsAt H' D m1 ∧ (m1.map (·.1)).Nodup ∧ 0 < m1.length ∧ m1.length ≤ 169 ∧ H' fl = some (.lst [.bl b0, .bl b1, .bl b2, .bl b3]) ∧ Keep [a] H H' ∧ BoxAt a H' := fun H' k p => by
          obtain ⟨c, hc, _⟩ := va.zero
          refine ⟨m, rfl, k _ _ (by simpa using nDa) eD4, va.nd, ?_, few, k _ _ (by simpa using nfa) ef4, (kH4.mono (by simp)).trans k, p⟩
          obtain ⟨z, hz, _⟩ := List.mem_map.mp (hasA_iff.mp hc)
          exact List.length_pos_of_mem hz
        walk_at "sts"
        cases b3 with
        | false =>
          walk_at "sts"
          exact stay H4 (Keep.refl _ _) p4
        | true =>
          walk_at "sts"
          refine r_truL (sqL_of hD') ?_
          cases hbs0 : bs with
          | nil =>
            walk_at "sts"
            exact stay H4 (Keep.refl _ _) p4
          | cons b' bs' =>
            rw [← hbs0]
            have lpos : 0 < bs.length := by rw [hbs0]; simp
            rw [show (!(bs.map V.ref).isEmpty) = true by rw [hbs0]; rfl]
            walk_at "sts"
            refine r_dpop1T ?_
            walk_at "sts"
            refine ⟨D, rfl, .inr ⟨_, .inl eD4⟩, ?_⟩
            walk_at "sts"
            simp only [List.length_map]
            refine r_dr p4 (by omega) (by omega) fun j H5 a5 b5 k5 p5 => ?_
            have hD5 := k5 _ _ (by simpa using nDa') hD'
            have eD5 : H5 D = some (.dT (kvG V.str m)) := k5 _ _ (by simpa using nDa) eD4
            refine r_ixAny (sqL_of hD5) a5 (by rw [List.length_map]; omega) fun i v _ hv => ?_
            obtain ⟨b, hb0, rfl⟩ := getRef hv
            obtain ⟨c, hc, eb⟩ := hbs.get hb0
            have nba : b ≠ a := by rintro rfl; obtain ⟨_, _, _, e, _⟩ := p4; cases (e.symm.trans eb)
            have eb5 : H5 b = some (.tup ((ck c).map kV)) := k5 _ _ (by simpa using nba) eb
            obtain ⟨cin, csum⟩ := hds c (List.mem_of_getElem? hc)
            obtain ⟨j', hj', mt⟩ := (mem c).mp cin
            have ej : j' = L := by have := mt.sum.1; omega
            rw [ej] at mt
            obtain ⟨wd, gw⟩ : ∃ wd, getA m c = some wd := by
              have := va.gap c mt
              unfold hasA at this
              exact Option.isSome_iff_exists.mp this
            refine ⟨kvG V.str m, ck c, b, .str wd, eD5, rfl, eb5, by rw [val_kvG, gw]; rfl, ?_⟩
            rw [drop_kvG]
            walk_at "sts"
            have ef5 := k5 _ _ (by simpa using nfa) ef4
            refine ⟨dropA m c, by first | exact rfl | trivial, upd_same, dropA_nodup va.nd, dropA_pos va, Nat.le_trans (List.length_filter_le _ _) few, by rw [upd_ne nfD]; exact ef5, ((kH4.mono (by simp)).trans k5).mut nD, p5.put nDa⟩
      rintro σ' H5 ⟨m1, rfl, eD5, nd1, pos1, len1, ef5, kH5, p5⟩
      clear eD4 kH4 ef4 p4 hD' hbs hds
      walk_at "sts"
      refine r_cut (fun σ' H' => ∃ (m1 : Ends) (y6 y7 : Option V), σ' = [some (.ref a), some (.int L), some (.ref d), some (.ref fl), some (.ref D), some (.ref D'), y6, y7, none] ∧ EndsAt H' D m1 ∧ (m1.map (·.1)).Nodup ∧ m1.length ≤ 169 ∧ H' fl = some (.lst [.bl b0, .bl b1, .bl b2, .bl b3]) ∧ Keep [a] H H' ∧ BoxAt a H') ?_ ?_
      · walk_at "sts"
        cases b2 with
        | false =>
          walk_at "sts"
          exact ⟨m1, _, _, by first | exact rfl | trivial, eD5, nd1, len1, ef5, kH5, p5⟩
        | true =>
          walk_at "sts"
          refine ⟨D, _, rfl, .inl eD5, fun lq bs hlq hks => ?_⟩
          have ks := keys_kvG hks
          have lks := ks.len
          rw [List.length_map] at lks
          have k6 : Keep [] H5 (upd H5 lq (.lst (bs.map V.ref))) := Keep.new hlq
          have elq : upd H5 lq (.lst (bs.map V.ref)) lq = some (.lst (bs.map V.ref)) := upd_same
          have p6 := p5.new (o := .lst (bs.map V.ref)) hlq
          have nlq := p5.ne hlq
          generalize upd H5 lq (.lst (bs.map V.ref)) = H6 at k6 elq p6 ⊢
          walk_at "sts"
          simp only [List.length_map]
          refine r_dr p6 (by omega) (by omega) fun j H7 a7 b7 k7 p7 => ?_
          have elq7 := k7 _ _ (by simpa using nlq) elq
          refine r_ixAny (sqL_of elq7) a7 (by rw [List.length_map]; omega) fun i v _ hv => ?_
          obtain ⟨b, hb0, rfl⟩ := getRef hv
          obtain ⟨c, hc, eb⟩ := ks.get hb0
          have nba : b ≠ a := by rintro rfl; obtain ⟨_, _, _, e, _⟩ := p5; cases (e.symm.trans eb)
          walk_at "sts"
          intro l8 hl8
          have eb7 := k7 _ _ (by simpa using nba) (k6 _ _ (by simp) eb)
          have eD7 := k7 _ _ (by simpa using nDa) (k6 _ _ (by simp) eD5)
          have ef7 := k7 _ _ (by simpa using nfa) (k6 _ _ (by simp) ef5)
          have k57 : Keep [a] H5 H7 := (k6.mono (by simp)).trans k7
          have k8 : Keep [] H7 (upd H7 l8 (.lst [.str "", .str "Reached", .str "unsure ", .str "miss", .str "sure", .str "none"])) := Keep.new hl8
          have el8 : upd H7 l8 (.lst [.str "", .str "Reached", .str "unsure ", .str "miss", .str "sure", .str "none"]) l8 = some (.lst (["", "Reached", "unsure ", "miss", "sure", "none"].map fun s => V.str (Str.ofString s))) := upd_same
          have p8 := p7.new (o := .lst [.str "", .str "Reached", .str "unsure ", .str "miss", .str "sure", .str "none"]) hl8
          have nl8 := p7.ne hl8
          generalize upd H7 l8 (.lst [.str "", .str "Reached", .str "unsure ", .str "miss", .str "sure", .str "none"]) = H8 at k8 el8 p8 ⊢
          walk_at "sts"
          refine r_dr p8 (by decide) (by decide) fun g H9 a9 b9 k9 p9 => ?_
          have el9 := k9 _ _ (by simpa using nl8) el8
          have k79 : Keep [a] H7 H9 := (k8.mono (by simp)).trans k9
          have eb9 := k79 _ _ (by simpa using nba) eb7
          have eD9 := k79 _ _ (by simpa using nDa) eD7
          have ef9 := k79 _ _ (by simpa using nfa) ef7
          refine r_ixAny (sqL_of el9) a9 (by simp; omega) fun i2 v2 _ hv2 => ?_
          obtain ⟨ws, rfl⟩ : ∃ ws : Str, v2 = .str ws := by
            rw [List.getElem?_map] at hv2
            obtain ⟨z, _, e⟩ := Option.map_eq_some_iff.mp hv2
            exact ⟨_, e.symm⟩
          walk_at "sts"
          refine r_dputT eD9 eb9 (lt_size (by rw [len_kvG]; omega)) ?_
          rw [put_kvG]
          have keys : (putA m1 c ws).map (·.1) = m1.map (·.1) := by rw [putA_keys, if_pos (List.mem_of_getElem? hc)]
          have lk := congrArg List.length keys
          rw [List.length_map, List.length_map] at lk
          exact ⟨putA m1 c ws, _, _, by first | exact rfl | trivial, upd_same, by rw [keys]; exact nd1, by omega, by rw [upd_ne nfD]; exact ef9, (kH5.trans (k57.trans k79)).mut nD, p9.put nDa⟩
      · rintro σ' H6 ⟨m2, y6, y7, rfl, eD6, nd2, len2, ef6, kH6, p6⟩
        walk_at "sts"
        cases b1 with
        | false =>
          walk_at "sts"
          exact qq D m2 H6 kH6 p6 nD eD6 nd2 (by omega)
        | true =>
          walk_at "sts"
          refine ⟨a, L, rfl, p6, fun b c H7 k7 p7 eb => ?_⟩
          have eD7 := k7 _ _ (by simpa using nDa) eD6
          have nba : b ≠ a := by rintro rfl; obtain ⟨_, _, _, e, _⟩ := p7; cases (e.symm.trans eb)
          walk_at "sts"
          refine ⟨a, rfl, p7, fun wd H8 hw k8 p8 => ?_⟩
          have eD8 := k8 _ _ (by simpa using nDa) eD7
          have eb8 := k8 _ _ (by simpa using nba) eb
          walk_at "sts"
          refine r_dputT eD8 eb8 (lt_size (by rw [len_kvG]; omega)) ?_
          rw [put_kvG]
          walk_at "sts"
          exact qq D (putA m2 c wd) _ ((kH6.trans (k7.trans k8)).mut nD) (p8.put nDa) nD upd_same (putA_nodup nd2) (Nat.le_trans putA_len (by omega))
end
/-! ### a table made, or the error told -/
open Tab (cnt addC)
def dueT (f : Str) : List V := if f = f0 then [.str (Str.ofString "made"), .str f0] else [.str (Str.ofString "fault"), .str f]
theorem faultS_ok {l : Int} {m : Ends} : PyData.canLay0 (.str (faultS l m)) = true := by
  unfold faultS
  split
  · decide +kernel
  · split
    · decide +kernel
    · split
      · decide +kernel
      · split <;> decide +kernel
theorem dueT_flat {f : Str} (h : PyData.canLay0 (.str f) = true) : (dueT f).all flatV = true := by
  unfold dueT
  split
  · decide +kernel
  · show (flatV (V.str (Str.ofString "fault")) && (flatV (V.str f) && true)) = true
    rw [show flatV (V.str f) = PyData.canLay0 (.str f) from rfl, h]
    decide +kernel
def spCreation : Sp := fun vs H Q _ => ∃ (d : Addr) (l : Int) (m : Ends), vs = [.int l, .ref d] ∧ EndsAt H d m ∧ (m.map (·.1)).Nodup ∧ m.length ≤ 5000 ∧ ∀ t H', Keep [d] H H' → Rd H' d (.dT (kvG V.str m)) → H' t = some (.tup (dueT (faultS l m))) → Q (.ref t) H'
theorem r_makeSD {C : Addr} {sp : Sp} {dvs : List V} {E : L2.St → XK} {t : TA} {σ : L2.St} {H : Hp} {Q : VK} (k : t σ H fun vs H1 => ∀ x dx, H1 x = none → H1 dx = none → dx ≠ x → sp (.ref x :: (vs ++ dvs)) (upd (upd H1 dx (.own x)) x (.ins C dx [])) (fun v H2 => v = .non ∧ Q (.ref x) H2) (E σ)) : Dt.tMakeSD C sp dvs E t σ H Q := k
theorem _root_.L2.Rd.keep0 {H H' : Hp} {a : Addr} {u : HO} (h : Rd H a u) (k : Keep [] H H') : Rd H' a u := k.rd (by simp) h
theorem Rd.ne {H : Hp} {a b : Addr} {u : HO} (h : Rd H a u) (n : H b = none) : a ≠ b := by
  rintro rfl
  rcases h with h | ⟨o, h⟩
  · rw [n] at h; cases h
  · rw [n] at h; cases h
section
variable {w : World} {K : PySem.W.Frag} {mg : Str → Option Value} {base : Heap}
theorem ok_creation (T : Tx K mg) (G_Table___initX : FnOk PG w K mg base (L2.CX PG w) 2 T.f_Table___init T.fd_Table___init ["self", "limit", "ends"] (spInitX T.C_Table T.C_BadTable)) : FnOk PG w K mg base CX0 4 T.f_w_creation T.fd_w_creation ["_law_limit_here", "_law_ends"] spCreation := by
  refine T.F_w_creation.ok sc_w_creation (fun vs H Q E h => ?_) (fun cdv A outer s H vs Q E hr h => ?_)
  · obtain ⟨d, l, m, rfl, _⟩ := h; rfl
  · obtain ⟨d, l, m, rfl, ed, nd, len, qq⟩ := h
    have oc := T.oc_Table
    have nl := T.na_Table_limit
    refine ⟨_, (pss_cons (ps_try_as (i := 3) (Wout := fun _ _ _ _ => False) rfl rfl sc_w_creation.nd rfl rfl ⟨rfl, by decide, Or.inl T.gC_BadTable⟩ takes0 (fun W pn xe tk _ => (pss_one (ps_set (i := 2) sc_w_creation.nd rfl (Or.inl rfl) (Dt.pe_makeSD T.mk_Table G_Table___initX (hr.mono (by decide)) rfl T.gC_Table T.b_Table___init .nil (fun σ => passAt tk σ) (pa_cons (pv 0) (pa_cons (pv 1) pa_nil)))))) (fun a oe cls d pn hz hf => (pss_cons (ps_if (PW.pt (pw_or (pt_val (pe_callB (Er.call_isD hz hf) (by rfl) T.m_isinstance (by decide +kernel) (pa_cons (pv 3) (pa_cons (pe_glob (v := .ref T.C_BadTries) rfl T.gC_BadTries rfl) pa_nil)))) (pw_or (pt_not (pt_val (pe_callB (Er.call_isD hz hf) (by rfl) T.m_isinstance (by decide +kernel) (pa_cons (pv 3) (pa_cons (pe_glob (v := .ref T.C_MeteError) rfl T.gC_MeteError rfl) pa_nil))))) (pw_or1 (pt_not (pt_val (pe_callB (Er.call_isD hz hf) (by rfl) T.m_isinstance (by decide +kernel) (pa_cons (pv 3) (pa_cons (pe_bltn (v := .ty "ValueError") (by rfl) T.m_ValueError boot_ValueError rfl) pa_nil)))))))))
    (pss_one (ps_ret (pe_tup (pa_cons pe_str (pa_cons pe_str pa_nil)))))
    pss_nil)
    (pss_one (ps_ret (pe_tup (pa_cons pe_str (pa_cons (pe_xf T.xf_BadTable (T.Z_BadTable w).noN hz hf (pv 3)) pa_nil))))))))
    (pss_cons (ps_if (pt_cmpR op_ne (pe_fld (pv 2) rfl) (pv 0) (nomark _))
    (pss_one (ps_ret (pe_tup (pa_cons pe_str (pa_cons pe_str pa_nil)))))
    pss_nil)
    (pss_one (ps_ret (pe_tup (pa_cons pe_str (pa_cons pe_str pa_nil))))))), ?_⟩
    walk_at "start"
    walk_at "sts"
    refine r_makeSD ?_
    walk_at "sts"
    intro x dx hx hdx ne
    have k1 : Keep [] H (upd (upd H dx (.own x)) x (.ins T.C_Table dx [])) := (Keep.new hdx).trans (Keep.new (by rw [upd_ne (Ne.symm ne)]; exact hx))
    refine ⟨x, dx, d, l, m, rfl, upd_same, k1 _ _ (by simp) ed, nd, len, fun hf H1 k2 tab => ⟨rfl, ?_⟩, fun hf e H1 k2 rd he => ?_⟩
    · obtain ⟨l1, l2, va⟩ := valid_of nd len hf
      obtain ⟨dx1, d1, ex1, ed1⟩ := tab
      have kH : Keep [] H H1 := k1.dropNew k2 hx
      have edH : EndsAt H1 d m := kH _ _ (by simp) ed
      have e2 : ((l.toNat : Nat) : Int) = l := by omega
      walk_at "sts"
      intro t ht
      have k3 : Keep [] H1 (upd H1 t (.tup [.str (Str.ofString "made"), .str f0])) := Keep.new ht
      refine qq t _ ((kH.trans k3).mono (by simp)) (.inl (k3 _ _ (by simp) edH)) ?_
      rw [upd_same, hf]; rfl
    · refine ⟨true, T.exm_BadTable_BadTable, fun _ a ha => ?_, fun z => nomatch z⟩
      have k3 : Keep [d] H H1 := (k1.mono (by simp)).trans k2
      have he' : upd H1 e (.xd [("fault", .str (faultS l m))]) e = some (.xd [("fault", .str (faultS l m))]) := upd_same
      have k4 : Keep [] H1 (upd H1 e (.xd [("fault", .str (faultS l m))])) := Keep.new he
      generalize upd H1 e (.xd [("fault", .str (faultS l m))]) = H5 at he' k4 ha ⊢
      simp only [List.set_cons_succ, List.set_cons_zero]
      walk_at "sts"
      refine Er.r_isD T.X_BadTable he' (fun u r => r) T.kit_BadTable_BadTries ?_
      walk_at "sts"
      refine Er.r_isD T.X_BadTable he' (fun u r => r) T.kit_BadTable_MeteError ?_
      walk_at "sts"
      refine Er.r_isD T.X_BadTable he' (fun u r => r) T.kit_BadTable_ValueError ?_
      walk_at "sts"
      refine Er.r_xfE he' rfl ?_
      walk_at "sts"
      intro t ht
      have k5 : Keep [] H5 (upd H5 t (.tup [.str (Str.ofString "fault"), .str (faultS l m)])) := Keep.new ht
      refine qq t _ (k3.trans ((k4.trans k5).mono (by simp))) ((rd.keep0 k4).keep0 k5) ?_
      rw [upd_same]; unfold dueT; rw [if_neg hf]
end
/-! ### faults are told as the law has them -/
open Tab (cnt addC)
theorem any_perm {α : Type} {f : α → Bool} {xs ys : List α} (p : xs.Perm ys) : xs.any f = ys.any f := by
  rw [Bool.eq_iff_iff, List.any_eq_true, List.any_eq_true]
  exact ⟨fun ⟨x, h, e⟩ => ⟨x, p.mem_iff.mp h, e⟩, fun ⟨x, h, e⟩ => ⟨x, p.mem_iff.mpr h, e⟩⟩
theorem hasA_perm {m n : Ends} (nd : (m.map (·.1)).Nodup) (p : n.Perm m) : hasA n = hasA m := by
  funext c
  unfold hasA
  rw [getA_perm nd p]
theorem fault_perm {l : Int} {m n : Ends} (nd : (m.map (·.1)).Nodup) (p : n.Perm m) : faultS l n = faultS l m := by
  unfold faultS gapB gapC
  rw [any_perm p, any_perm p, hasA_perm nd p]
theorem nodup_perm {m n : Ends} (nd : (m.map (·.1)).Nodup) (p : n.Perm m) : (n.map (·.1)).Nodup := ((p.map (·.1)).nodup_iff).mpr nd
theorem same_perm {m n : Ends} (nd : (m.map (·.1)).Nodup) (p : n.Perm m) : sameB n m = true := (sameB_iff (nodup_perm nd p) nd).mpr (getA_perm nd p)
def spRefuses : Sp := fun vs H Q _ => ∃ (a : Addr) (L : Nat) (d : Addr) (m : Ends), vs = [.ref a, .int L, .ref d] ∧ BoxAt a H ∧ EndsAt H d m ∧ Valid L m ∧ ∀ H', Keep [a] H H' → Q (.bl true) H'
section
variable {w : World} {K : PySem.W.Frag} {mg : Str → Option Value} {base : Heap}
theorem ok_refuses (T : Tx K mg) (G_w_take : FnOk PG w K mg base CX0 1 T.f_w_take T.fd_w_take ["_law_box_here", "_law_size"] spDr) (G_w_flags : FnOk PG w K mg base CX0 2 T.f_w_flags T.fd_w_flags ["_law_box_here"] spFlags) (G_w_bad_ends : FnOk PG w K mg base CX0 3 T.f_w_bad_ends T.fd_w_bad_ends ["_law_box_here", "_law_limit_here", "_law_ends", "_law_flags_here"] spBadEnds)
    (G_w_bad_limit : FnOk PG w K mg base CX0 2 T.f_w_bad_limit T.fd_w_bad_limit ["_law_box_here", "_law_limit_here", "_law_flag"] spBadLimit) (G_w_fault : FnOk PG w K mg base CX0 3 T.f_w_fault T.fd_w_fault ["_law_limit_here", "_law_ends"] spFault) (G_w_turned : FnOk PG w K mg base CX0 1 T.f_w_turned T.fd_w_turned ["_law_ends", "_law_turned_here"] spTurned)
    (G_w_creation : FnOk PG w K mg base CX0 4 T.f_w_creation T.fd_w_creation ["_law_limit_here", "_law_ends"] spCreation) : FnOk PG w K mg base CX0 5 T.f_w_refuses T.fd_w_refuses ["_law_box_here", "_law_limit_here", "_law_ends"] spRefuses := by
  refine T.F_w_refuses.ok sc_w_refuses (fun vs H Q E h => ?_) (fun cdv A outer s H vs Q E hr h => ?_)
  · obtain ⟨a, L, d, m, rfl, _⟩ := h; rfl
  · obtain ⟨a, L, d, m, rfl, hb, ed, va, qq⟩ := h
    have nda := hb.ned ed
    refine ⟨_, (pss_cons (ps_set (i := 3) sc_w_refuses.nd rfl (Or.inl rfl) (pe_call G_w_flags (hr.mono (by decide)) rfl T.g_w_flags T.F_w_flags.kp T.b_w_flags .nil pass0 (pa_cons (pv 0) pa_nil)))
    (pss_cons (ps_set (i := 4) sc_w_refuses.nd rfl (Or.inl rfl) (pe_call G_w_bad_ends (hr.mono (by decide)) rfl T.g_w_bad_ends T.F_w_bad_ends.kp T.b_w_bad_ends .nil pass0 (pa_cons (pv 0) (pa_cons (pv 1) (pa_cons (pv 2) (pa_cons (pv 3) pa_nil))))))
    (pss_cons (ps_set (i := 5) sc_w_refuses.nd rfl (Or.inl rfl) (pe_call G_w_bad_limit (hr.mono (by decide)) rfl T.g_w_bad_limit T.F_w_bad_limit.kp T.b_w_bad_limit .nil pass0 (pa_cons (pv 0) (pa_cons (pv 1) (pa_cons (pe_ix ix_list (pv 3) pe_int (fun _ _ => rfl)) pa_nil)))))
    (pss_cons (ps_set (i := 6) sc_w_refuses.nd rfl (Or.inl rfl) (pe_call G_w_fault (hr.mono (by decide)) rfl T.g_w_fault T.F_w_fault.kp T.b_w_fault .nil pass0 (pa_cons (pv 5) (pa_cons (pv 4) pa_nil))))
    (pss_cons (ps_set (i := 7) sc_w_refuses.nd rfl (Or.inl rfl) (pe_tup (pa_cons pe_str (pa_cons pe_str pa_nil))))
    (Evl.pss_cut (ps_if (pt_cmpR op_ne (pv 6) pe_str (nomark _))
    (pss_one (ps_set (i := 7) sc_w_refuses.nd rfl (Or.inl rfl) (pe_tup (pa_cons pe_str (pa_cons (pv 6) pa_nil)))))
    pss_nil)
    (pss_cons (ps_set (i := 8) sc_w_refuses.nd rfl (Or.inl rfl) (pe_call G_w_turned (hr.mono (by decide)) rfl T.g_w_turned T.F_w_turned.kp T.b_w_turned .nil pass0 (pa_cons (pv 4) (pa_cons (pe_cmpR op_eq (pe_call G_w_take (hr.mono (by decide)) rfl T.g_w_take T.F_w_take.kp T.b_w_take .nil pass0 (pa_cons (pv 0) (pa_cons pe_int pa_nil))) pe_int (nomark _)) pa_nil))))
    (pss_one (ps_ret (pe_and (pe_cmpR (op_eqD hr.units) (pe_call G_w_creation (hr.mono (by decide)) rfl T.g_w_creation T.F_w_creation.kp T.b_w_creation .nil pass0 (pa_cons (pv 5) (pa_cons (pv 8) pa_nil))) (pv 7) (nomark _)) (pe_one (pe_cmpR (Dt.op_eqM (Nat.lt_of_le_of_lt (Nat.add_le_add_left (by decide : 1 ≤ 64) _) hr.units)) (pv 8) (pv 4) (nomark _))))))))))))), ?_⟩
    walk_at "start"
    walk_at "sts"
    refine ⟨a, rfl, hb, fun fl bs H1 k1 p1 nfl efl lb => ?_⟩
    have ed1 : EndsAt H1 d m := k1 _ _ (by simpa using nda) ed
    have nfa : fl ≠ a := hb.ne nfl
    walk_at "sts"
    refine ⟨a, L, d, fl, m, bs, rfl, p1, ed1, va, efl, lb, fun B mb H2 k2 p2 nB eB nb lbd => ?_⟩
    have efl2 := k2 _ _ (by simpa using nfa) efl
    have nBa : B ≠ a := p1.ne nB
    have kH2 := k1.trans k2
    have nB0 : H B = none := k1.free (by simpa using nBa) nB
    obtain ⟨b0, b1, b2, b3, rfl⟩ : ∃ b0 b1 b2 b3, bs = [b0, b1, b2, b3] := by
      match bs, lb with
      | [b0, b1, b2, b3], _ => exact ⟨b0, b1, b2, b3, rfl⟩
    have efl3 : H2 fl = some (.lst [.bl b0, .bl b1, .bl b2, .bl b3]) := efl2
    walk_at "sts"
    refine ⟨a, L, b0, rfl, p2, fun l H3 k3 p3 => ?_⟩
    have eB3 : EndsAt H3 B mb := k3 _ _ (by simpa using nBa) eB
    have kH3 := kH2.trans k3
    walk_at "sts"
    refine ⟨B, l, mb, rfl, eB3, nb, lbd, fun H4 k4 => ?_⟩
    have eB4 : EndsAt H4 B mb := k4 _ _ (by simp) eB3
    have p4 := p3.keep0 k4
    have kH4 : Keep [a] H H4 := kH3.trans (k4.mono (by simp))
    clear k1 k2 k3 k4 kH2 kH3 eB eB3 p1 p2 p3 ed1 efl efl2 efl3
    walk_at "sts"
    intro t0 ht0
    have k5 : Keep [] H4 (upd H4 t0 (.tup [.str (Str.ofString "made"), .str f0])) := Keep.new ht0
    have et0 : upd H4 t0 (.tup [.str (Str.ofString "made"), .str f0]) t0 = some (.tup [.str (Str.ofString "made"), .str f0]) := upd_same
    generalize upd H4 t0 (.tup [.str (Str.ofString "made"), .str f0]) = H5 at k5 et0 ⊢
    walk_at "sts"
    refine r_cut (fun σ' H' => ∃ t : Addr, σ' = [some (.ref a), some (.int L), some (.ref d), some (.ref fl), some (.ref B), some (.int l), some (.str (faultS l mb)), some (.ref t), none] ∧ H' t = some (.tup (dueT (faultS l mb))) ∧ Keep [] H4 H') ?_ ?_
    · walk_at "sts"
      refine r_iteN (fun c1 => ?_) (fun c1 => ?_)
      · walk_at "sts"
        intro t1 ht1
        have k6 : Keep [] H5 (upd H5 t1 (.tup [.str (Str.ofString "fault"), .str (faultS l mb)])) := Keep.new ht1
        walk_at "sts"
        exact ⟨t1, by first | exact rfl | trivial, by rw [upd_same]; unfold dueT; rw [if_neg c1], k5.trans k6⟩
      · walk_at "sts"
        exact ⟨t0, by first | exact rfl | trivial, by rw [et0]; unfold dueT; rw [if_pos c1], k5⟩
    rintro σ' H6 ⟨t, rfl, et, k6⟩
    have eB6 : EndsAt H6 B mb := k6 _ _ (by simp) eB4
    have p6 := p4.keep0 k6
    have kH6 : Keep [a] H H6 := kH4.trans (k6.mono (by simp))
    walk_at "sts"
    refine r_dr p6 (by decide) (by decide) fun n H7 a7 b7 k7 p7 => ?_
    have eB7 : EndsAt H7 B mb := k7 _ _ (by simpa using nBa) eB6
    have nta : t ≠ a := by rintro rfl; obtain ⟨_, _, _, e, _⟩ := p6; cases (e.symm.trans et)
    have et7 := k7 _ _ (by simpa using nta) et
    walk_at "sts"
    refine ⟨B, _, mb, rfl, eB7, nb, lbd, fun D m' H8 k8 nD eD pm => ?_⟩
    have eB8 : EndsAt H8 B mb := k8 _ _ (by simp) eB7
    have et8 := k8 _ _ (by simp) et7
    have kH8 := kH6.trans (k7.trans (k8.mono (by simp)))
    have nBD : B ≠ D := by rintro rfl; cases (nD.symm.trans eB7)
    have ntD : t ≠ D := by rintro rfl; rw [et7] at nD; cases nD
    have nDa : D ≠ a := p7.ne nD
    have nD0 : H D = none := (kH6.trans k7).free (by simpa using nDa) nD
    walk_at "sts"
    refine ⟨D, l, m', rfl, eD, nodup_perm nb pm, by rw [pm.length_eq]; exact lbd, fun u H9 k9 rd eu => ?_⟩
    rw [fault_perm nb pm] at eu
    have eB9 : EndsAt H9 B mb := k9 _ _ (by simpa using nBD) eB8
    have et9 := k9 _ _ (by simpa using ntD) et8
    walk_at "sts"
    refine r_eqT (sqT_of eu) (sqT_of et9) (dueT_flat faultS_ok) (dueT_flat faultS_ok) (eqv_flats (dueT_flat faultS_ok)) ?_
    walk_at "sts"
    refine r_eqM rd (.inl eB9) ?_
    rw [same_perm nb pm]
    have k10 : Keep [a] H H9 := fun b o hb e => k9 b o (by rw [List.mem_singleton]; rintro rfl; rw [nD0] at e; cases e) (kH8 b o hb e)
    exact qq H9 k10
end
/-! ### what word_after is to answer -/
open Tab (cnt addC)
def ansT (m : Ends) (s : List Nat) : List V := match wordRun m s (0, 0) with
  | some c => [.str (Str.ofString "word"), oS (getA m c)]
  | none => [.str (Str.ofString "refused"), .str (strL s)]
theorem ansT_some {m : Ends} {s : List Nat} {c : Ct} (h : wordRun m s (0, 0) = some c) : ansT m s = [.str (Str.ofString "word"), oS (getA m c)] := by unfold ansT; rw [h]
theorem ansT_none {m : Ends} {s : List Nat} (h : wordRun m s (0, 0) = none) : ansT m s = [.str (Str.ofString "refused"), .str (strL s)] := by unfold ansT; rw [h]
theorem isW_flat {w : Str} (h : IsW w) : flatV (.str w) = true := by rcases h with rfl | rfl | rfl <;> decide +kernel
theorem ansT_flat {m : Ends} {s : List Nat} (hw : ∀ p ∈ m, IsW p.2) (ts : TextOk s) : (ansT m s).all flatV = true := by
  unfold ansT
  cases wordRun m s (0, 0) with
  | none =>
    show (flatV (V.str (Str.ofString "refused")) && (flatV (V.str (strL s)) && true)) = true
    rw [text_flat ts]; decide +kernel
  | some c =>
    show (flatV (V.str (Str.ofString "word")) && (flatV (oS (getA m c)) && true)) = true
    cases e : getA m c with
    | none => decide +kernel
    | some x =>
      rw [show flatV (oS (some x)) = flatV (.str x) from rfl, isW_flat (hw _ (mem_getA e))]; decide +kernel
def spDue : Sp := fun vs H Q _ => ∃ (d : Addr) (m : Ends) (s : List Nat), vs = [.ref d, .str (strL s)] ∧ EndsAt H d m ∧ hasA m (0, 0) = false ∧ ∀ t H', Keep [] H H' → H' t = some (.tup (ansT m s)) → Q (.ref t) H'
def spAnswer (C : Addr) : Sp := fun vs H Q _ => ∃ (x : Addr) (L : Nat) (m : Ends) (s : List Nat), vs = [.ref x, .str (strL s)] ∧ TableAt C H x L m ∧ TextOk s ∧ ∀ t H', Keep [] H H' → H' t = some (.tup (ansT m s)) → Q (.ref t) H'
section
variable {P : Program} {w : World} {K : PySem.W.Frag} {mg : Str → Option Value} {base : Heap}
theorem ok_due (T : Tx K mg) : FnOk P w K mg base CX0 1 T.f_w_due T.fd_w_due ["_law_ends", "_law_tries"] spDue := by
  refine T.F_w_due.ok sc_w_due (fun vs H Q E h => ?_) (fun cdv A outer sh H vs Q E hr h => ?_)
  · obtain ⟨d, m, s, rfl, _⟩ := h; rfl
  · obtain ⟨d, m, s, rfl, ed, h00, qq⟩ := h
    refine ⟨_, (pss_cons (ps_set (i := 2) sc_w_due.nd rfl (Or.inl rfl) pe_int)
    (pss_cons (ps_set (i := 3) sc_w_due.nd rfl (Or.inl rfl) pe_int)
    (pss_cons (ps_set (i := 4) sc_w_due.nd rfl (Or.inl rfl) pe_non)
    (pss_cons (ps_for PassesOwn.never rfl (pi_str (pv 1)) (pg_name (i := 5) sc_w_due.nd rfl (Or.inl rfl))
    (pss_cons (ps_if (PW.pt (pw_or (pt_cmpR op_notNc (pv 4) pe_non (nomark _)) (pw_or1 (pt_cmpR op_notIn_seq (pv 5) (pe_lst (pa_cons pe_str (pa_cons pe_str pa_nil))) (by rfl)))))
    (pss_one (ps_ret (pe_tup (pa_cons pe_str (pa_cons (pv 1) pa_nil)))))
    pss_nil)
    (pss_cons (ps_if (pt_cmpR op_eq (pv 5) pe_str (nomark _))
    (pss_one (ps_set (i := 2) sc_w_due.nd rfl (Or.inl rfl) (pe_op op_add (pv 2) pe_int)))
    (pss_one (ps_set (i := 3) sc_w_due.nd rfl (Or.inl rfl) (pe_op op_add (pv 3) pe_int))))
    (pss_one (ps_set (i := 4) sc_w_due.nd rfl (Or.inl rfl) (pe_dget1 (hu_of hr) (pv 0) (pe_tup (pa_cons (pv 2) (pa_cons (pv 3) pa_nil))) ⟨rfl, rfl, rfl, rfl⟩))))))
    (pss_one (ps_ret (pe_tup (pa_cons pe_str (pa_cons (pv 4) pa_nil))))))))), ?_⟩
    have g00 : getA m (0, 0) = none := by
      unfold hasA at h00
      exact Option.isNone_iff_eq_none.mp (Option.isSome_eq_false_iff.mp h00)
    have refuse : ∀ H1, Keep [] H H1 → wordRun m s (0, 0) = none → ∀ t, H1 t = none → Q (.ref t) (upd H1 t (.tup [.str (Str.ofString "refused"), .str (strL s)])) := fun H1 k hn t ht => qq t _ (k.trans (Keep.new ht)) (by rw [upd_same, ansT_none hn])
    walk_at "start"
    walk_at "sts"
    refine r_forS ?_
    walk_at "sts"
    refine forS_go (fun i σ' H' => ∃ (n : Ct) (y5 : Option V), σ' = [some (.ref d), some (.str (strL s)), some (.int n.1), some (.int n.2), some (oS (getA m n)), y5] ∧ wordRun m s (0, 0) = wordRun m (s.drop i) n ∧ Keep [] H H') ⟨(0, 0), _, by rw [g00]; first | exact rfl | trivial, rfl, Keep.refl _ _⟩ ?_ ?_
    · rintro i c σ' H1 hc ⟨n, y5, rfl, hrun, k1⟩
      rw [drop_of hc] at hrun
      have stop : ¬ ((c = 114 ∨ c = 109) ∧ hasA m n = false) → wordRun m s (0, 0) = none := fun hn => hrun.trans (wordRun_stop hn)
      cases hg : getA m n with
      | some wd =>
        rw [show oS (some wd) = V.str wd from rfl]
        walk_at "sts"
        intro t ht
        exact refuse H1 k1 (stop fun z => by unfold hasA at z; rw [hg] at z; cases z.2) t ht
      | none =>
        have hn : hasA m n = false := by unfold hasA; rw [hg]; rfl
        rw [show oS (none : Option Str) = V.non from rfl]
        walk_at "sts"
        intro l hl
        have k2 : Keep [] H1 (upd H1 l (.lst [.str (strL [114]), .str (strL [109])])) := Keep.new hl
        have el : upd H1 l (.lst [.str (strL [114]), .str (strL [109])]) l = some (.lst [.str (strL [114]), .str (strL [109])]) := upd_same
        rw [str_r, str_m]
        generalize upd H1 l (.lst [.str (strL [114]), .str (strL [109])]) = H2 at k2 el ⊢
        refine ⟨l, _, rfl, .inl (sqL_of el), rfl, rfl, ?_⟩
        rw [inRM, if_pos rfl]
        by_cases hx : c = 114 ∨ c = 109
        case neg =>
          rw [show (decide (c = 114) || decide (c = 109)) = false by simpa using hx]
          walk_at "sts"
          intro t ht
          exact refuse H2 (k1.trans k2) (stop fun z => hx z.1) t ht
        rw [show (decide (c = 114) || decide (c = 109)) = true by simpa using hx]
        rw [wordRun_go hx hn] at hrun
        have ed2 : EndsAt H2 d m := (k1.trans k2) _ _ (by simp) ed
        walk_at "sts"
        rcases hx with rfl | rfl
        · refine r_ite (fun c1 => ?_) (fun c1 => (c1 rfl).elim)
          walk_at "sts"
          refine r_dget1 ?_
          walk_at "sts"
          refine ⟨d, rfl, .inr ⟨_, .inl ed2⟩, ?_⟩
          walk_at "sts"
          intro u hu
          have k3 : Keep [] H2 (upd H2 u (.tup [.int (n.1 + 1), .int n.2])) := Keep.new hu
          have eu : upd H2 u (.tup [.int (n.1 + 1), .int n.2]) u = some (cHO (Tab.one n 114)) := upd_same
          have ed3 : EndsAt (upd H2 u (.tup [.int (n.1 + 1), .int n.2])) d m := k3 _ _ (by simp) ed2
          refine ⟨_, dget1T ed3 eu, ?_⟩
          rw [oS_map]
          walk_at "sts"
          exact ⟨Tab.one n 114, _, by first | exact rfl | trivial, hrun, (k1.trans k2).trans k3⟩
        · refine r_ite (fun c1 => absurd (strL_inj c1) (show ¬ ([109] : List Nat) = [114] by decide)) (fun c1 => ?_)
          walk_at "sts"
          refine r_dget1 ?_
          walk_at "sts"
          refine ⟨d, rfl, .inr ⟨_, .inl ed2⟩, ?_⟩
          walk_at "sts"
          intro u hu
          have k3 : Keep [] H2 (upd H2 u (.tup [.int n.1, .int (n.2 + 1)])) := Keep.new hu
          have eu : upd H2 u (.tup [.int n.1, .int (n.2 + 1)]) u = some (cHO (Tab.one n 109)) := upd_same
          have ed3 : EndsAt (upd H2 u (.tup [.int n.1, .int (n.2 + 1)])) d m := k3 _ _ (by simp) ed2
          refine ⟨_, dget1T ed3 eu, ?_⟩
          rw [oS_map]
          walk_at "sts"
          exact ⟨Tab.one n 109, _, by first | exact rfl | trivial, hrun, (k1.trans k2).trans k3⟩
    · rintro σ' H1 ⟨n, y5, rfl, hrun, k1⟩
      rw [List.drop_length] at hrun
      walk_at "sts"
      intro t ht
      exact qq t _ (k1.trans (Keep.new ht)) (by rw [upd_same, ansT_some hrun])
end
section
variable {w : World} {K : PySem.W.Frag} {mg : Str → Option Value} {base : Heap}
theorem r_methSD {C : Addr} {m : Str} {sp : Sp} {dvs : List V} {E : L2.St → XK} {ta : TE} {t : TA} {σ : L2.St} {H : Hp} {Q : VK} (k : ta σ H fun x H1 => ∃ a dx fs, x = .ref a ∧ H1 a = some (.ins C dx fs) ∧ fs.lookup m = none ∧ t σ H1 fun vs H2 => sp (x :: vs ++ dvs) H2 Q (E σ)) : Dt.tMethSD C m sp dvs E ta t σ H Q := k
theorem ok_answer (T : Tx K mg) (G_Table_word_afterX : FnOk PG w K mg base (L2.CX PG w) 1 T.f_Table_word_after T.fd_Table_word_after ["self", "tries"] (spWordX T.C_Table T.C_BadTries)) : FnOk PG w K mg base CX0 2 T.f_w_answer T.fd_w_answer ["_law_table", "_law_tries"] (spAnswer T.C_Table) := by
  refine T.F_w_answer.ok sc_w_answer (fun vs H Q E h => ?_) (fun cdv A outer sh H vs Q E hr h => ?_)
  · obtain ⟨x, L, m, s, rfl, _⟩ := h; rfl
  · obtain ⟨x, L, m, s, rfl, tab, ts, qq⟩ := h
    obtain ⟨dx, d, ex, ed⟩ := id tab
    refine ⟨_, (pss_one (ps_try_as (i := 2) (Wout := fun _ _ _ _ => False) rfl rfl sc_w_answer.nd rfl rfl ⟨rfl, by decide, Or.inl T.gC_BadTries⟩ takes0 (fun W pn xe tk _ => (pss_one (ps_ret (pe_tup (pa_cons pe_str (pa_cons (Dt.pe_methSD (pv 0) T.oc_Table.cl T.me_Table_word_after G_Table_word_afterX (hr.mono (by decide)) T.b_Table_word_after .nil (fun σ => passAt tk σ) (pa_cons (pv 1) pa_nil)) pa_nil)))))) (fun a oe cls d pn hz hf => (pss_cons (ps_if (PW.pt (pw_or (pt_val (pe_callB (Er.call_isD hz hf) (by rfl) T.m_isinstance (by decide +kernel) (pa_cons (pv 2) (pa_cons (pe_glob (v := .ref T.C_BadTable) rfl T.gC_BadTable rfl) pa_nil)))) (pw_or (pt_not (pt_val (pe_callB (Er.call_isD hz hf) (by rfl) T.m_isinstance (by decide +kernel) (pa_cons (pv 2) (pa_cons (pe_glob (v := .ref T.C_MeteError) rfl T.gC_MeteError rfl) pa_nil))))) (pw_or1 (pt_not (pt_val (pe_callB (Er.call_isD hz hf) (by rfl) T.m_isinstance (by decide +kernel) (pa_cons (pv 2) (pa_cons (pe_bltn (v := .ty "ValueError") (by rfl) T.m_ValueError boot_ValueError rfl) pa_nil)))))))))
    (pss_one (ps_ret (pe_tup (pa_cons pe_str (pa_cons pe_str pa_nil)))))
    pss_nil)
    (pss_one (ps_ret (pe_tup (pa_cons pe_str (pa_cons (pe_xf T.xf_BadTries (T.Z_BadTries w).noN hz hf (pv 2)) pa_nil))))))))), ?_⟩
    walk_at "start"
    walk_at "sts"
    refine r_methSD ?_
    walk_at "sts"
    refine ⟨x, dx, _, rfl, ex, rfl, ?_⟩
    walk_at "sts"
    refine ⟨x, L, m, s, rfl, tab, ts, fun c hc H1 k1 => ?_, fun hn e H1 k1 he => ?_⟩
    · walk_at "sts"
      intro t ht
      exact qq t _ (k1.trans (Keep.new ht)) (by rw [upd_same, ansT_some hc])
    · refine ⟨true, T.exm_BadTries_BadTries, fun _ a ha => ?_, fun z => nomatch z⟩
      have he' : upd H1 e (.xd [("tries", .str (strL s))]) e = some (.xd [("tries", .str (strL s))]) := upd_same
      have k4 : Keep [] H1 (upd H1 e (.xd [("tries", .str (strL s))])) := Keep.new he
      generalize upd H1 e (.xd [("tries", .str (strL s))]) = H5 at he' k4 ha ⊢
      simp only [List.set_cons_succ, List.set_cons_zero]
      walk_at "sts"
      refine Er.r_isD T.X_BadTries he' (fun u r => r) T.kit_BadTries_BadTable ?_
      walk_at "sts"
      refine Er.r_isD T.X_BadTries he' (fun u r => r) T.kit_BadTries_MeteError ?_
      walk_at "sts"
      refine Er.r_isD T.X_BadTries he' (fun u r => r) T.kit_BadTries_ValueError ?_
      walk_at "sts"
      refine Er.r_xfE he' rfl ?_
      walk_at "sts"
      intro t ht
      exact qq t _ (k1.trans (k4.trans (Keep.new ht))) (by rw [upd_same, ansT_none hn])
end
/-! ### the strings of tries that are asked -/
open Tab (cnt addC)
def spPaths : Sp := fun vs H Q _ => ∃ (L : Nat) (d : Addr) (m : Ends), vs = [.int L, .ref d] ∧ EndsAt H d m ∧ L ≤ 12 ∧ ∀ (q : Addr) (ss : List (List Nat)) (H' : Hp), Keep [] H H' → H q = none → H' q = some (.lst (ss.map sV)) → (∀ s ∈ ss, TextOk s) → ss.length ≤ 65536 → Q (.ref q) H'
def spStrings : Sp := fun vs H Q _ => ∃ (a : Addr) (L : Nat), vs = [.ref a, .int L] ∧ BoxAt a H ∧ L ≤ 12 ∧ ∀ (q : Addr) (ss : List (List Nat)) (H' : Hp), Keep [a] H H' → BoxAt a H' → H q = none → H' q = some (.lst (ss.map sV)) → (∀ s ∈ ss, TextOk s) → ss.length ≤ 4 → Q (.ref q) H'
theorem Lets.text {s : List Nat} (h : Lets s) (l : s.length ≤ 100) : TextOk s := ⟨by omega, fun c hc => by rcases h c hc with rfl | rfl <;> decide⟩
theorem TextOk.snoc {s : List Nat} {x : Nat} (h : TextOk s) (l : s.length ≤ 100) (hx : x < 0x110000) : TextOk (s ++ [x]) := ⟨by rw [List.length_append, List.length_singleton]; omega, fun c hc => by
  rcases List.mem_append.mp hc with hc | hc
  · exact h.2 c hc
  · rw [List.mem_singleton.mp hc]; exact hx⟩
theorem join_chars : ∀ cs : List Nat, Txt.join (strL []) (cs.map fun c => strL [c]) = strL cs := fun cs => by
  rw [show Txt.join (strL []) (cs.map fun c => strL [c]) = Str.join (strL []) (cs.map fun c => strL [c]) from PySem.StrLaws.glued_eq_join _ _]
  induction cs with
  | nil => rfl
  | cons c cs ih =>
    cases cs with
    | nil => rfl
    | cons e cs =>
      show strL [c] ++ strL [] ++ Str.join (strL []) ((e :: cs).map fun c => strL [c]) = _
      rw [ih, strL_app, strL_app]; rfl
theorem str_x : Str.ofString "x" = strL [120] := rfl
section
variable {P : Program} {w : World} {K : PySem.W.Frag} {mg : Str → Option Value} {base : Heap}
theorem ok_paths (T : Tx K mg) (G_w_met : FnOk P w K mg base CX0 2 T.f_w_met T.fd_w_met ["_law_limit_here", "_law_ends"] spMet) : FnOk P w K mg base CX0 3 T.f_w_paths T.fd_w_paths ["_law_limit_here", "_law_ends"] spPaths := by
  refine T.F_w_paths.ok sc_w_paths (fun vs H Q E h => ?_) (fun cdv A outer sh H vs Q E hr h => ?_)
  · obtain ⟨L, d, m, rfl, _⟩ := h; rfl
  · obtain ⟨L, d, m, rfl, ed, hL, qq⟩ := h
    refine ⟨_, (pss_cons (ps_set (i := 2) sc_w_paths.nd rfl (Or.inl rfl) (pe_lst pa_nil))
    (pss_cons (ps_set (i := 3) sc_w_paths.nd rfl (Or.inl rfl) (pe_call G_w_met (hr.mono (by decide)) rfl T.g_w_met T.F_w_met.kp T.b_w_met .nil pass0 (pa_cons (pv 0) (pa_cons (pv 1) pa_nil))))
    (pss_cons (ps_lock (ps_for PassesOwn.never rfl (pi_keys (pv 3)) (pg_name (i := 4) sc_w_paths.nd rfl (Or.inl rfl))
    (pss_one (ps_for PassesOwn.never rfl (pi_list (pe_dget (hu_of hr) (pv 3) (pv 4) (fun _ _ => rfl))) (pg_name (i := 5) sc_w_paths.nd rfl (Or.inl rfl))
    (pss_cons (ps_expr (pe_bm PySem.F.plainAttrs_list PySem.F.slot_list_extend PySem.F.type_list_extend mt_extend (pv 2) (pa_cons (pe_lst (pa_cons (pv 5) (pa_cons (pe_op op_addS (pv 5) pe_str) pa_nil))) pa_nil)))
    (pss_one (ps_if (pt_cmp (pc_din (hu_of hr) (pv 4) (pv 1)))
    (pss_one (ps_expr (pe_bm PySem.F.plainAttrs_list PySem.F.slot_list_extend PySem.F.type_list_extend mt_extend (pv 2) (pa_cons (pe_lst (pa_cons (pe_op op_addS (pv 5) pe_str) (pa_cons (pe_op op_addS (pv 5) pe_str) pa_nil))) pa_nil))))
    pss_nil)))))))
    (pss_one (ps_ret (pv 2)))))), ?_⟩
    walk_at "start"
    walk_at "sts"
    intro q hq
    have k1 : Keep [] H (upd H q (.lst [])) := Keep.new hq
    have eq : upd H q (.lst []) q = some (.lst (([] : List (List Nat)).map sV)) := upd_same
    generalize upd H q (.lst []) = H1 at k1 eq ⊢
    walk_at "sts"
    refine ⟨L, d, m, rfl, k1 _ _ (by simp) ed, hL, fun D R H2 k2 nD met ok hk lR => ?_⟩
    have eq2 := k2 _ _ (by simp) eq
    have kH2 := k1.trans k2
    have ed2 := kH2 _ _ (by simp) ed
    have nD0 : H D = none := k1.free (by simp) nD
    have nqD : q ≠ D := by rintro rfl; rw [eq] at nD; cases nD
    have ndD : d ≠ D := by rintro rfl; cases (nD0.symm.trans ed)
    have ndq : d ≠ q := by rintro rfl; cases (hq.symm.trans ed)
    walk_at "sts"
    refine forKT_go met.1 (fun od Q' hQ => r_var rfl hQ) (fun od i σ' H' => ∃ (ss : List (List Nat)) (y4 y5 : Option V), σ' = [some (.int L), some (.ref d), some (.ref q), some (.ref D), y4, y5] ∧ H' q = some (.lst (ss.map sV)) ∧ (∀ s ∈ ss, TextOk s) ∧ ss.length ≤ 8 * i ∧ Keep [q] (upd H2 D (.frz od (.dT (kvG fM R)))) H') (fun od => ⟨[], _, _, by first | exact rfl | trivial, by rw [upd_ne nqD]; exact eq2, by simp, by simp, Keep.refl _ _⟩) (fun od i σ' H' h => by obtain ⟨_, _, _, _, _, _, _, k⟩ := h; exact k _ _ (by simpa using Ne.symm nqD) upd_same) ?_ ?_
    · rintro od i k v u σ' H3 at1 tup ⟨ss, y4, y5, rfl, eq3, hss, lss, k3⟩
      obtain ⟨e, he, rfl, rfl⟩ := get_kvG at1
      have me := List.mem_of_getElem? he
      have hi : i < 8192 := by have := (List.getElem?_eq_some_iff.mp he).1; omega
      have ge := getA_mem ok.nd me
      have tup2 : H3 u = some (cHO e.1) := tup
      have eD3 : H3 D = some (.frz od (.dT (kvG fM R))) := k3 _ _ (by simpa using Ne.symm nqD) upd_same
      have ls2 := met.2 e me
      have neD : e.2.1 ≠ D := by intro z; rw [z, met.1] at ls2; cases ls2
      have neq : e.2.1 ≠ q := by intro z; rw [z, eq2] at ls2; cases ls2
      have ls3 : H3 e.2.1 = some (.lst [sV e.2.2.1, sV e.2.2.2]) := k3 _ _ (by simpa using neq) (by rw [upd_ne neD]; exact ls2)
      have ed3 : EndsAt H3 d m := k3 _ _ (by simpa using ndq) (by rw [upd_ne ndD]; exact ed2)
      have nuq : u ≠ q := by rintro rfl; cases (eq3.symm.trans tup2)
      have sm : e.1.1 + e.1.2 ≤ 12 := by
        have : e.1 ∈ Tab.metC (hasA m) L := by rw [← hk]; exact List.mem_map_of_mem me
        obtain ⟨j, hj, mt⟩ := Tab.mem_metC.mp this
        have := mt.sum.1; omega
      have o1 := ok.l1 e me
      have o2 := ok.l2 e me
      walk_at "sts"
      refine ⟨D, _, rfl, dgetTL (f := fM) eD3 tup2 ge, ?_⟩
      unfold fM
      walk_at "sts"
      refine forL_go (fun j σ' H' => ∃ (ss : List (List Nat)) (y5 : Option V), σ' = [some (.int L), some (.ref d), some (.ref q), some (.ref D), some (.ref u), y5] ∧ H' q = some (.lst (ss.map sV)) ∧ (∀ s ∈ ss, TextOk s) ∧ ss.length ≤ 8 * i + 4 * j ∧ Keep [q] H3 H') (sqL_of ls3) ⟨ss, _, by first | exact rfl | trivial, eq3, hss, by omega, Keep.refl _ _⟩ (fun j σ' H' _ h => by obtain ⟨_, _, _, _, _, _, k⟩ := h; exact sqL_of (k _ _ (by simpa using neq) ls3)) ?_ ?_
      · rintro j v σ' H4 hv ⟨ss4, y5, rfl, eq4, hss4, lss4, k4⟩
        obtain ⟨s, rfl, hl, hlen, hj⟩ : ∃ s, v = sV s ∧ Lets s ∧ s.length ≤ 12 ∧ j < 2 := by
          rcases j with _ | _ | j
          · exact ⟨e.2.2.1, by simpa using hv.symm, o1.2, by omega, by omega⟩
          · exact ⟨e.2.2.2, by simpa using hv.symm, o2.2, by omega, by omega⟩
          · exact absurd hv (by simp)
        have ts := hl.text (by omega)
        have tup4 : H4 u = some (cHO e.1) := k4 _ _ (by simpa using nuq) tup2
        have ed4 : EndsAt H4 d m := k4 _ _ (by simpa using ndq) ed3
        have lz : ∀ x : Nat, (strL s).length + (strL [x]).length ≤ sizeLine := fun x => le_size (by rw [strL_len, strL_len, List.length_singleton]; omega)
        unfold sV
        walk_at "sts"
        rw [str_x]
        refine r_addS (lz _) ?_
        rw [strL_app]
        walk_at "sts"
        intro l hl0
        have k5 : Keep [] H4 (upd H4 l (.lst [sV s, sV (s ++ [120])])) := Keep.new hl0
        have el : upd H4 l (.lst [sV s, sV (s ++ [120])]) l = some (.lst [sV s, sV (s ++ [120])]) := upd_same
        have eq5 := k5 _ _ (by simp) eq4
        have tup5 := k5 _ _ (by simp) tup4
        have ed5 : EndsAt (upd H4 l (.lst [sV s, sV (s ++ [120])])) d m := k5 _ _ (by simp) ed4
        have nlq : l ≠ q := by rintro rfl; rw [eq4] at hl0; cases hl0
        rw [show (HO.lst [V.str (strL s), V.str (strL (s ++ [120]))]) = HO.lst [sV s, sV (s ++ [120])] from rfl]
        generalize upd H4 l (.lst [sV s, sV (s ++ [120])]) = H5 at k5 el eq5 tup5 ed5 ⊢
        refine ⟨q, l, ss4.map sV, _, rfl, rfl, eq5, el, le_size (by rw [List.length_map]; simp only [List.length_cons, List.length_nil]; omega), ?_⟩
        have eq6 : upd H5 q (.lst (ss4.map sV ++ [sV s, sV (s ++ [120])])) q = some (.lst ((ss4 ++ [s, s ++ [120]]).map sV)) := by rw [upd_same, List.map_append]; rfl
        have k6 : Keep [q] H5 (upd H5 q (.lst (ss4.map sV ++ [sV s, sV (s ++ [120])]))) := Keep.at (by simp)
        have tup6 := k6 _ _ (by simpa using nuq) tup5
        have ed6 : EndsAt (upd H5 q (.lst (ss4.map sV ++ [sV s, sV (s ++ [120])]))) d m := k6 _ _ (by simpa using ndq) ed5
        have hss6 : ∀ z ∈ ss4 ++ [s, s ++ [120]], TextOk z := fun z hz => by
          rcases List.mem_append.mp hz with hz | hz
          · exact hss4 z hz
          · simp only [List.mem_cons, List.not_mem_nil, or_false] at hz
            rcases hz with rfl | rfl
            · exact ts
            · exact ts.snoc (by omega) (by decide)
        have lss6 : (ss4 ++ [s, s ++ [120]]).length ≤ 8 * i + 4 * j + 2 := by rw [List.length_append]; simp only [List.length_cons, List.length_nil]; omega
        have k36 : Keep [q] H3 (upd H5 q (.lst (ss4.map sV ++ [sV s, sV (s ++ [120])]))) := k4.trans ((k5.mono (by simp)).trans k6)
        generalize upd H5 q (.lst (ss4.map sV ++ [sV s, sV (s ++ [120])])) = H6 at eq6 k6 tup6 ed6 k36 ⊢
        generalize ss4 ++ [s, s ++ [120]] = ss6 at eq6 hss6 lss6
        walk_at "sts"
        refine r_dinT (f := V.str) ed6 tup6 ?_
        cases hM : hasA m e.1 with
        | false =>
          rw [show id false = false from rfl]
          walk_at "sts"
          exact ⟨ss6, _, by first | exact rfl | trivial, eq6, hss6, by omega, k36⟩
        | true =>
          rw [show id true = true from rfl]
          walk_at "sts"
          rw [str_r]
          refine r_addS (lz _) ?_
          rw [strL_app]
          walk_at "sts"
          rw [str_m]
          refine r_addS (lz _) ?_
          rw [strL_app]
          walk_at "sts"
          intro l7 hl7
          have k7 : Keep [] H6 (upd H6 l7 (.lst [sV (s ++ [114]), sV (s ++ [109])])) := Keep.new hl7
          have el7 : upd H6 l7 (.lst [sV (s ++ [114]), sV (s ++ [109])]) l7 = some (.lst [sV (s ++ [114]), sV (s ++ [109])]) := upd_same
          have eq7 := k7 _ _ (by simp) eq6
          rw [show (HO.lst [V.str (strL (s ++ [114])), V.str (strL (s ++ [109]))]) = HO.lst [sV (s ++ [114]), sV (s ++ [109])] from rfl]
          generalize upd H6 l7 (.lst [sV (s ++ [114]), sV (s ++ [109])]) = H7 at k7 el7 eq7 ⊢
          refine ⟨q, l7, ss6.map sV, _, rfl, rfl, eq7, el7, le_size (by rw [List.length_map]; simp only [List.length_cons, List.length_nil]; omega), ?_⟩
          walk_at "sts"
          refine ⟨ss6 ++ [s ++ [114], s ++ [109]], _, by first | exact rfl | trivial, by rw [upd_same, List.map_append]; rfl, fun z hz => ?_, by rw [List.length_append]; simp only [List.length_cons, List.length_nil]; omega, k36.trans ((k7.mono (by simp)).trans (Keep.at (by simp)))⟩
          rcases List.mem_append.mp hz with hz | hz
          · exact hss6 z hz
          · simp only [List.mem_cons, List.not_mem_nil, or_false] at hz
            rcases hz with rfl | rfl
            · exact ts.snoc (by omega) (by decide)
            · exact ts.snoc (by omega) (by decide)
      · rintro σ' H4 ⟨ss4, y5, rfl, eq4, hss4, lss4, k4⟩
        simp only [List.length_cons, List.length_nil] at lss4
        exact ⟨ss4, _, _, by first | exact rfl | trivial, eq4, hss4, by omega, k3.trans k4⟩
    · rintro od σ' H3 ⟨ss, y4, y5, rfl, eq3, hss, lss, k3⟩
      rw [len_kvG] at lss
      have k4 : Keep [q] H2 (upd H3 D (.dT (kvG fM R))) := Keep.unlock met.1 k3
      have eq4 : upd H3 D (.dT (kvG fM R)) q = some (.lst (ss.map sV)) := by rw [upd_ne nqD]; exact eq3
      walk_at "sts"
      exact qq q ss _ (kH2.dropNew k4 hq) hq eq4 hss (by omega)
end
/-! ### drawn strings -/
open Tab (cnt addC)
def chV (c : Nat) : V := .str (strL [c])
theorem chs_set {cs : List Nat} {j c : Nat} : (cs.map chV).set j (chV c) = (cs.set j c).map chV := by rw [List.map_set]
theorem chG {cs : List Nat} {i : Nat} {v : V} (h : (cs.map chV)[i]? = some v) : ∃ c, cs[i]? = some c ∧ v = chV c := by
  rw [List.getElem?_map] at h
  obtain ⟨c, hc, e⟩ := Option.map_eq_some_iff.mp h
  exact ⟨c, hc, e.symm⟩
section
variable {P : Program} {w : World} {K : PySem.W.Frag} {mg : Str → Option Value} {base : Heap}
theorem ok_strings (T : Tx K mg) (G_w_take : FnOk P w K mg base CX0 1 T.f_w_take T.fd_w_take ["_law_box_here", "_law_size"] spDr) : FnOk P w K mg base CX0 2 T.f_w_strings T.fd_w_strings ["_law_box_here", "_law_limit_here"] spStrings := by
  refine T.F_w_strings.ok sc_w_strings (fun vs H Q E h => ?_) (fun cdv A outer sh H vs Q E hr h => ?_)
  · obtain ⟨a, L, rfl, _⟩ := h; rfl
  · obtain ⟨a, L, rfl, hb, hL, qq⟩ := h
    refine ⟨_, (pss_cons (ps_set (i := 2) sc_w_strings.nd rfl (Or.inl rfl) (pe_lst (pa_cons pe_str pa_nil)))
    (pss_cons (ps_for PassesOwn.never rfl (pi_range1 rfl T.m_range (pa_cons pe_int pa_nil)) (pg_name (i := 3) sc_w_strings.nd rfl (Or.inl rfl))
    (pss_cons (ps_setLc (i := 4) (own := [("_law_j", 5)]) (g := gName 5) (tt := tYes) rfl sc_w_strings.nd rfl rfl (sw_true rfl rfl rfl (by decide +kernel)) (pi_range1 rfl T.m_range (pa_cons (pe_call G_w_take (hr.mono (by decide)) rfl T.g_w_take T.F_w_take.kp T.b_w_take .nil pass0 (pa_cons (pv 0) (pa_cons (pe_op op_add (pv 1) pe_int) pa_nil))) pa_nil)) (blkOk_by (own := [("_law_j", 5)]) (N := ["_law_box_here", "_law_limit_here", "_law_strings_here", "_law_k", "_law_letters", "_law_j", "_law_odd", "_law_place"]) (sc := defScope s_w_strings) (by decide +kernel)) (fun _ _ _ _ _ => pg_name (i := 5) sc_w_strings.nd rfl (Or.inl rfl)) (fun _ _ _ _ _ => pts_nil) (fun _ _ _ _ _ => (pe_ix (ix_listK (K := K) rfl) (pe_lst (pa_cons pe_str (pa_cons pe_str pa_nil))) (pe_call G_w_take (hr.mono (by decide)) rfl T.g_w_take T.F_w_take.kp T.b_w_take .nil pass0 (pa_cons (pv 0) (pa_cons pe_int pa_nil))) (fun _ _ => rfl))))
    (Evl.pss_cut (ps_if (PW.pt (pw_and (pt_truth (pv 4) (by intro _; rfl)) (pw_and1 (pt_cmpR op_eq (pe_call G_w_take (hr.mono (by decide)) rfl T.g_w_take T.F_w_take.kp T.b_w_take .nil pass0 (pa_cons (pv 0) (pa_cons pe_int pa_nil))) pe_int (nomark _)))))
    (pss_cons (ps_set (i := 6) sc_w_strings.nd rfl (Or.inl rfl) (pe_ix ix_list (pe_lst (pa_cons pe_str (pa_cons pe_str (pa_cons pe_str (pa_cons pe_str (pa_cons pe_str (pa_cons pe_str (pa_cons pe_str pa_nil)))))))) (pe_call G_w_take (hr.mono (by decide)) rfl T.g_w_take T.F_w_take.kp T.b_w_take .nil pass0 (pa_cons (pv 0) (pa_cons pe_int pa_nil))) (fun _ _ => rfl)))
    (pss_cons (ps_set (i := 7) sc_w_strings.nd rfl (Or.inl rfl) (pe_call G_w_take (hr.mono (by decide)) rfl T.g_w_take T.F_w_take.kp T.b_w_take .nil pass0 (pa_cons (pv 0) (pa_cons (pe_callB call_len_seq (by rfl) T.m_len PySem.boot_len (pa_cons (pv 4) pa_nil)) pa_nil))))
    (pss_one (ps_asg (pv 6) (pg_sub (pv 4) (pv 7) set_list)))))
    pss_nil)
    (pss_one (ps_expr (pe_bm PySem.F.plainAttrs_list PySem.F.slot_list_append PySem.F.type_list_append mt_append (pv 2) (pa_cons (pe_bm PySem.F.plainAttrs_str PySem.F.slot_str_join PySem.F.type_str_join mt_join pe_str (pa_cons (pv 4) pa_nil)) pa_nil)))))))
    (pss_one (ps_ret (pv 2))))), ?_⟩
    walk_at "start"
    walk_at "sts"
    intro q hq
    have nqa := hb.ne hq
    have k1 : Keep [] H (upd H q (.lst [sV []])) := Keep.new hq
    have eq : upd H q (.lst [sV []]) q = some (.lst (([[]] : List (List Nat)).map sV)) := upd_same
    have p1 := hb.keep0 k1
    rw [show (HO.lst [V.str (Str.ofString "")]) = HO.lst [sV []] from rfl]
    generalize upd H q (.lst [sV []]) = H1 at k1 eq p1 ⊢
    walk_at "sts"
    refine forR1_go (fun i σ' H' => ∃ (ss : List (List Nat)) (y3 y4 y6 y7 : Option V), σ' = [some (.ref a), some (.int L), some (.ref q), y3, y4, none, y6, y7] ∧ H' q = some (.lst (ss.map sV)) ∧ (∀ s ∈ ss, TextOk s) ∧ ss.length ≤ i + 1 ∧ Keep [a] H H' ∧ BoxAt a H') (by omega) ⟨[[]], _, _, _, _, by first | exact rfl | trivial, eq, by simp [TextOk], by simp, k1.mono (by simp), p1⟩ ?_ ?_
    · rintro i σ' H2 hi ⟨ss, y3, y4, y6, y7, rfl, eq2, hss, lss, k2, p2⟩
      walk_at "sts"
      refine r_dr p2 (by omega) (by omega) fun n H3 a3 b3 k3 p3 => ?_
      have eq3 := k3 _ _ (by simpa using nqa) eq2
      refine lcR1_go (fun D j acc H' => ∃ cs : List Nat, acc = cs.map chV ∧ cs.length = j ∧ (∀ c ∈ cs, c < 0x110000) ∧ Keep [a] H3 H' ∧ BoxAt a H' ∧ H3 D = none ∧ D ≠ a) (by omega) (fun D hD => ⟨[], rfl, rfl, by simp, Keep.new hD, p3.new hD, hD, p3.ne hD⟩) ?_ ?_
      · rintro D j acc H4 hj e4 ⟨cs, rfl, lc, hc, k4, p4, nD, nDa⟩
        walk_at "sts"
        intro l hl
        have k5 : Keep [] H4 (upd H4 l (.lst (([114, 109] : List Nat).map chV))) := Keep.new hl
        have el : upd H4 l (.lst (([114, 109] : List Nat).map chV)) l = some (.lst (([114, 109] : List Nat).map chV)) := upd_same
        have p5 := p4.keep0 k5
        have nla := p4.ne hl
        have e5 := k5 _ _ (by simp) e4
        rw [show (HO.lst [V.str (Str.ofString "r"), V.str (Str.ofString "m")]) = HO.lst (([114, 109] : List Nat).map chV) from rfl]
        generalize upd H4 l (.lst (([114, 109] : List Nat).map chV)) = H5 at k5 el p5 e5 ⊢
        walk_at "sts"
        refine r_dr p5 (by decide) (by decide) fun g H6 a6 b6 k6 p6 => ?_
        have el6 := k6 _ _ (by simpa using nla) el
        have e6 := k6 _ _ (by simpa using nDa) e5
        refine r_ixAny (sqL_of el6) a6 (by simp; omega) fun i2 v2 _ hv2 => ?_
        obtain ⟨c, hc2, rfl⟩ := chG hv2
        have cb : c < 0x110000 := by
          have := List.mem_of_getElem? hc2
          simp only [List.mem_cons, List.not_mem_nil, or_false] at this
          rcases this with rfl | rfl <;> decide
        refine ⟨_, e6, lt_size (by rw [List.length_map]; omega), _, upd_same, cs ++ [c], by rw [List.map_append]; rfl, by simp [lc], fun z hz => ?_, (k4.trans ((k5.mono (by simp)).trans k6)).mut nD, p6.put nDa, nD, nDa⟩
        rcases List.mem_append.mp hz with hz | hz
        · exact hc z hz
        · rw [List.mem_singleton.mp hz]; exact cb
      · rintro D acc H4 nD e4 ⟨cs, rfl, lc, hc, k4, p4, _, nDa⟩
        walk_at "sts"
        have eq4 := k4 _ _ (by simpa using nqa) eq3
        have nqD : q ≠ D := by rintro rfl; rw [eq3] at nD; cases nD
        have nD0 : H D = none := (k2.trans k3).free (by simpa using nDa) nD
        have kH4 : Keep [a] H H4 := k2.trans (k3.trans k4)
        have lcs : cs.length ≤ 14 := by omega
        clear eq3 eq2 k3 k4 k2 p2 p3
        refine r_cut (fun σ' H' => ∃ (cs : List Nat) (y6 y7 : Option V), σ' = [some (.ref a), some (.int L), some (.ref q), some (.int i), some (.ref D), none, y6, y7] ∧ H' D = some (.lst (cs.map chV)) ∧ cs.length ≤ 14 ∧ (∀ c ∈ cs, c < 0x110000) ∧ H' q = some (.lst (ss.map sV)) ∧ Keep [a] H H' ∧ BoxAt a H') ?_ ?_
        · walk_at "sts"
          refine r_truL (sqL_of e4) ?_
          cases hcs : cs with
          | nil =>
            walk_at "sts"
            exact ⟨[], _, _, by first | exact rfl | trivial, by rw [hcs] at e4; exact e4, by simp, by simp, eq4, kH4, p4⟩
          | cons c0 cs0 =>
            rw [← hcs]
            have pos : 0 < cs.length := by rw [hcs]; simp
            rw [show (!(cs.map chV).isEmpty) = true by rw [hcs]; rfl]
            walk_at "sts"
            refine r_dr p4 (by decide) (by decide) fun g H5 a5 b5 k5 p5 => ?_
            have e5 := k5 _ _ (by simpa using nDa) e4
            have eq5 := k5 _ _ (by simpa using nqa) eq4
            have kH5 := kH4.trans k5
            walk_at "sts"
            refine r_ite (fun c1 => ?_) (fun c1 => ?_)
            case refine_2 =>
              walk_at "sts"
              exact ⟨cs, _, _, by first | exact rfl | trivial, e5, lcs, hc, eq5, kH5, p5⟩
            walk_at "sts"
            intro l hl
            have k6 : Keep [] H5 (upd H5 l (.lst (([82, 77, 32, 120, 48, 10, 45] : List Nat).map chV))) := Keep.new hl
            have el : upd H5 l (.lst (([82, 77, 32, 120, 48, 10, 45] : List Nat).map chV)) l = some (.lst (([82, 77, 32, 120, 48, 10, 45] : List Nat).map chV)) := upd_same
            have p6 := p5.keep0 k6
            have nla := p5.ne hl
            have e6 := k6 _ _ (by simp) e5
            have eq6 := k6 _ _ (by simp) eq5
            rw [show (HO.lst [V.str (Str.ofString "R"), V.str (Str.ofString "M"), V.str (Str.ofString " "), V.str (Str.ofString "x"), V.str (Str.ofString "0"), V.str (Str.ofString "\n"), V.str (Str.ofString "-")]) = HO.lst (([82, 77, 32, 120, 48, 10, 45] : List Nat).map chV) from rfl]
            generalize upd H5 l (.lst (([82, 77, 32, 120, 48, 10, 45] : List Nat).map chV)) = H6 at k6 el p6 e6 eq6 ⊢
            walk_at "sts"
            refine r_dr p6 (by decide) (by decide) fun g2 H7 a7 b7 k7 p7 => ?_
            have el7 := k7 _ _ (by simpa using nla) el
            have e7 := k7 _ _ (by simpa using nDa) e6
            have eq7 := k7 _ _ (by simpa using nqa) eq6
            have kH7 := kH5.trans ((k6.mono (by simp)).trans k7)
            refine r_ixAny (sqL_of el7) a7 (by simp; omega) fun i2 v2 _ hv2 => ?_
            obtain ⟨c, hc2, rfl⟩ := chG hv2
            have cb : c < 0x110000 := by
              have := List.mem_of_getElem? hc2
              simp only [List.mem_cons, List.not_mem_nil, or_false] at this
              rcases this with rfl | rfl | rfl | rfl | rfl | rfl | rfl <;> decide
            walk_at "sts"
            simp only [List.length_map]
            refine r_dr p7 (by omega) (by omega) fun g3 H8 a8 b8 k8 p8 => ?_
            have e8 := k8 _ _ (by simpa using nDa) e7
            have eq8 := k8 _ _ (by simpa using nqa) eq7
            walk_at "sts"
            rw [chs_set]
            refine ⟨cs.set g3.toNat c, _, _, by first | exact rfl | trivial, upd_same, by rw [List.length_set]; exact lcs, fun z hz => ?_, by rw [upd_ne nqD]; exact eq8, (kH7.trans k8).mut nD0, p8.put nDa⟩
            rcases List.mem_or_eq_of_mem_set hz with hz | hz
            · exact hc z hz
            · rw [hz]; exact cb
        rintro σ' H5 ⟨cs5, y6', y7', rfl, e5, lc5, hc5, eq5, kH5, p5⟩
        walk_at "sts"
        refine ⟨rfl, ?_⟩
        walk_at "sts"
        refine ⟨_, D, cs5.map (fun c => strL [c]), rfl, rfl, .inl (sqL_of (by rw [List.map_map]; exact e5)), ?_, ?_⟩
        · have e1 : ∀ l : List Nat, (List.map (fun x : Str => x.length) (List.map (fun c => strL [c]) l)).sum = l.length := fun l => by
            induction l with
            | nil => rfl
            | cons c l ih => rw [List.map_cons, List.map_cons, List.sum_cons, ih, List.length_cons, show (strL [c]).length = 1 from rfl]; omega
          rw [e1, show (Str.ofString "").length = 0 from rfl]
          omega
        walk_at "sts"
        rw [show Txt.join (Str.ofString "") (List.map (fun c => strL [c]) cs5) = strL cs5 from join_chars cs5]
        have nqa' : q ≠ a := nqa
        refine ⟨ss ++ [cs5], _, _, _, _, by first | exact rfl | trivial, by rw [List.map_append]; exact upd_same, fun z hz => ?_, by rw [List.length_append, List.length_singleton]; omega, kH5.mut hq, p5.put nqa⟩
        rcases List.mem_append.mp hz with hz | hz
        · exact hss z hz
        · rw [List.mem_singleton.mp hz]; exact ⟨by omega, hc5⟩
    · rintro σ' H2 ⟨ss, y3, y4, y6, y7, rfl, eq2, hss, lss, k2, p2⟩
      walk_at "sts"
      exact qq q ss H2 k2 p2 hq eq2 hss (by omega)
end
/-! ### what the law says of a dict and of a list that is told -/
open Tab (Rn cnt)
theorem r_lenT2 {H : Hp} {p : Addr} {m : Ends} {Q : VK} (h : H p = some (.dT (kvG V.str m))) (k : Q (.int m.length) H) : rLenT [.ref p] H Q := ⟨p, _, rfl, h, by rw [len_kvG]; exact k⟩
def sD (p : Ct × Str) : PyData := .tuple [.int p.1.1, .int p.1.2, .str p.2]
theorem dp_s {K : PySem.W.Frag} {H : Hp} {a : Addr} {p : Ct × Str} (h : H a = some (sHO p)) : Dp K H (.ref a) (sD p) := .tup (sqT_of h) (.cons (.int _) (.cons (.int _) (.cons (.str _) .nil)))
theorem dp_ss {K : PySem.W.Frag} {H : Hp} : ∀ {as : List Addr} {ps : List (Ct × Str)}, AllAt sHO H as ps → DpAll K H (as.map V.ref) (ps.map sD)
  | [], [], _ => .nil
  | _ :: _, _ :: _, h => .cons (dp_s h.1) (dp_ss h.2)
  | [], _ :: _, h => h.elim
  | _ :: _, [], h => h.elim
theorem lay_w {w : Str} (h : IsW w) : PyData.canLay0 (.str w) = true := by
  rcases h with rfl | rfl | rfl <;> decide +kernel
theorem lay_ss : ∀ {ps : List (Ct × Str)}, (∀ p ∈ ps, IsW p.2) → PyData.canLayAll0 (ps.map sD) = true ∧ PyData.depthAll (ps.map sD) ≤ 1
  | [], _ => by simp [PyData.canLayAll0, PyData.depthAll]
  | c :: cs, h => by
    have ih := lay_ss (ps := cs) fun p hp => h p (List.mem_cons_of_mem _ hp)
    have w0 := lay_w (h c (List.mem_cons_self ..))
    refine ⟨?_, ?_⟩
    · have := ih.1
      simp only [List.map_cons, PyData.canLayAll0, sD, PyData.canLay0, Bool.and_true, Bool.and_eq_true, Bool.true_and] at w0 ⊢
      exact ⟨w0, this⟩
    · have := ih.2
      simp [sD, PyData.depthAll, PyData.depth]
      omega
theorem shaped_ss {ps : List (Ct × Str)} (h : ∀ p ∈ ps, IsW p.2) : SeqAt.shaped (.list (ps.map sD)) = true := by
  have := lay_ss h
  unfold SeqAt.shaped
  simp [PyData.canLay0, PyData.depth, this.1]
  omega
theorem eqv_ss : ∀ {ps : List (Ct × Str)}, PyData.eqvAll (ps.map sD) (ps.map sD) = true
  | [] => rfl
  | p :: ps => by
    have ih := eqv_ss (ps := ps)
    simp [sD, PyData.eqvAll, PyData.eqv] at ih ⊢
    exact ih
theorem r_eqSs {K : PySem.W.Frag} {H : Hp} {Q : VK} {q r : Addr} {as bs : List Addr} {ps : List (Ct × Str)} (hq : H q = some (.lst (as.map V.ref))) (ha : AllAt sHO H as ps) (hr : H r = some (.lst (bs.map V.ref))) (hb : AllAt sHO H bs ps) (h : ∀ p ∈ ps, IsW p.2) (k : Q (.bl true) H) : rEqD K (.ref q) (.ref r) H Q :=
  ⟨_, _, .lst (sqL_of hq) (dp_ss ha), .lst (sqL_of hr) (dp_ss hb), shaped_ss h, shaped_ss h, by rw [eqvL, eqv_ss]; exact k⟩
def spDictRight : Sp := fun vs H Q _ => ∃ (p q : Addr) (n m : Ends), vs = [.ref p, .ref q] ∧ EndsAt H p n ∧ EndsAt H q m ∧ (m.map (·.1)).Nodup ∧ n.Perm m ∧ p ≠ q ∧ ∀ H', Keep [] H H' → Q (.bl true) H'
def StopsAt (H : Hp) (q : Addr) (ps : List (Ct × Str)) : Prop := ∃ as : List Addr, H q = some (.lst (as.map V.ref)) ∧ AllAt sHO H as ps
theorem StopsAt.keep0 {H H' : Hp} {p : Addr} {cs : List (Ct × Str)} (h : StopsAt H p cs) (k : Keep [] H H') : StopsAt H' p cs := by
  obtain ⟨as, e, g⟩ := h; exact ⟨as, k _ _ (by simp) e, g.keep0 k⟩
def spListRight : Sp := fun vs H Q _ => ∃ (q r : Addr) (ps : List (Ct × Str)), vs = [.ref q, .ref r] ∧ StopsAt H q ps ∧ StopsAt H r ps ∧ (∀ p ∈ ps, IsW p.2) ∧ ∀ H', Keep [] H H' → Q (.bl true) H'
section
variable {P : Program} {w : World} {K : PySem.W.Frag} {mg : Str → Option Value} {base : Heap}
theorem ok_dict_right (T : Tx K mg) (G_w_is_integer : FnOk P w K mg base CX0 1 T.f_w_is_integer T.fd_w_is_integer ["_law_value"] spIsInt) : FnOk P w K mg base CX0 2 T.f_w_dict_right T.fd_w_dict_right ["_law_told", "_law_ends"] spDictRight := by
  refine T.F_w_dict_right.ok sc_w_dict_right (fun vs H Q E h => ?_) (fun cdv A outer s H vs Q E hr h => ?_)
  · obtain ⟨p, q, n, m, rfl, _⟩ := h; rfl
  · obtain ⟨p, q, n, m, rfl, ep, eq, nd, pm, npq, qq⟩ := h
    have epd : H p = some (.dT (kvG V.str n)) := ep
    have eqd : H q = some (.dT (kvG V.str m)) := eq
    have ln : n.length = m.length := pm.length_eq
    refine ⟨_, (pss_cons (ps_if (PW.pt (pw_or (pt_not (pt_val (pe_callB call_isi (by rfl) T.m_isinstance (by decide +kernel) (pa_cons (pv 0) (pa_cons (pe_bltn (v := .ty "dict") (by rfl) T.m_dict (by decide +kernel) rfl) pa_nil))))) (pw_or1 (pt_cmpR op_ne (pe_callB call_len_dT (by rfl) T.m_len PySem.boot_len (pa_cons (pv 0) pa_nil)) (pe_callB call_len_dT (by rfl) T.m_len PySem.boot_len (pa_cons (pv 1) pa_nil)) (nomark _)))))
    (pss_one (ps_ret pe_bl))
    pss_nil)
    (pss_cons (ps_lock (ps_for PassesOwn.never rfl (pi_keys (pv 0)) (pg_name (i := 2) sc_w_dict_right.nd rfl (Or.inl rfl))
    (pss_cons (ps_if (PW.pt (pw_or (pt_not (pt_val (pe_callB call_isi (by rfl) T.m_isinstance (by decide +kernel) (pa_cons (pv 2) (pa_cons (pe_bltn (v := .ty "tuple") (by rfl) T.m_tuple (by decide +kernel) rfl) pa_nil))))) (pw_or1 (pt_cmpR op_ne (pe_callB call_len_seq (by rfl) T.m_len PySem.boot_len (pa_cons (pv 2) pa_nil)) pe_int (nomark _)))))
    (pss_one (ps_ret pe_bl))
    pss_nil)
    (pss_cons (ps_if (PW.pt (pw_or (pt_not (pt_val (pe_call G_w_is_integer (hr.mono (by decide)) rfl T.g_w_is_integer T.F_w_is_integer.kp T.b_w_is_integer .nil pass0 (pa_cons (pe_ix ix_tup (pv 2) pe_int (fun _ _ => rfl)) pa_nil)))) (pw_or1 (pt_not (pt_val (pe_call G_w_is_integer (hr.mono (by decide)) rfl T.g_w_is_integer T.F_w_is_integer.kp T.b_w_is_integer .nil pass0 (pa_cons (pe_ix ix_tup (pv 2) pe_int (fun _ _ => rfl)) pa_nil)))))))
    (pss_one (ps_ret pe_bl))
    pss_nil)
    (pss_one (ps_if (PW.pt (pw_or (pt_cmp (pc_dnotin (hu_of hr) (pv 2) (pv 1))) (pw_or1 (pt_cmpR op_ne (pe_dget (hu_of hr) (pv 0) (pv 2) (fun _ _ => rfl)) (pe_dget (hu_of hr) (pv 1) (pv 2) (fun _ _ => rfl)) (nomark _)))))
    (pss_one (ps_ret pe_bl))
    pss_nil))))))
    (pss_one (ps_ret pe_bl)))), ?_⟩
    walk_at "start"
    walk_at "sts"
    refine r_isi (.base (.dT epd)) kit_dd ?_
    walk_at "sts"
    refine r_lenT2 epd ?_
    rw [ln]
    walk_at "sts"
    refine r_lenT2 eqd ?_
    walk_at "sts"
    refine forKT_go epd (fun od Q' hQ => r_var rfl hQ) (fun od i σ' H' => ∃ y2 : Option V, σ' = [some (.ref p), some (.ref q), y2] ∧ H' = upd H p (.frz od (.dT (kvG V.str n)))) (fun od => ⟨_, by first | exact rfl | trivial, rfl⟩) (fun od i σ' H' h => by obtain ⟨_, _, rfl⟩ := h; exact upd_same) ?_ ?_
    · rintro od i k v u σ' H' at1 tup ⟨y2, rfl, rfl⟩
      obtain ⟨z, hz, rfl, rfl⟩ := get_kvG at1
      have mz := List.mem_of_getElem? hz
      have gz0 := getA_mem (nodup_perm nd pm) mz
      have gz := getA_mem nd (pm.mem_iff.mp mz)
      have hz2 : hasA m z.1 = true := hasA_iff.mpr (List.mem_map_of_mem (pm.mem_iff.mp mz))
      have ep1 : upd H p (.frz od (.dT (kvG V.str n))) p = some (.frz od (.dT (kvG V.str n))) := upd_same
      have eq1 : upd H p (.frz od (.dT (kvG V.str n))) q = some (.dT (kvG V.str m)) := by rw [upd_ne (Ne.symm npq)]; exact eq
      have tup2 : upd H p (.frz od (.dT (kvG V.str n))) u = some (cHO z.1) := tup
      have tup3 : upd H p (.frz od (.dT (kvG V.str n))) u = some (.tup [.int z.1.1, .int z.1.2]) := tup
      have back : upd (upd H p (.frz od (.dT (kvG V.str n)))) p (.dT (kvG V.str n)) = H := upd_back ep
      generalize hH : upd H p (.frz od (.dT (kvG V.str n))) = H1 at ep1 eq1 tup2 tup3 back ⊢
      walk_at "sts"
      refine ⟨_, rfl, ?_⟩
      walk_at "sts"
      refine ⟨_, rfl, ?_⟩
      walk_at "sts"
      refine r_dinT (f := V.str) (g := fun b => !b) eq1 tup2 ?_
      rw [hz2, Bool.not_true]
      walk_at "sts"
      refine ⟨p, _, rfl, dgetTL (f := V.str) ep1 tup2 gz0, ?_⟩
      walk_at "sts"
      refine ⟨q, _, rfl, dgetT (f := V.str) eq1 tup2 gz, ?_⟩
      walk_at "sts"
      exact ⟨_, by first | exact rfl | trivial, rfl⟩
    · rintro od σ' H' ⟨y2, rfl, rfl⟩
      rw [upd_back ep]
      walk_at "sts"
      exact qq H (Keep.refl _ _)
theorem ok_list_right (T : Tx K mg) (G_w_is_integer : FnOk P w K mg base CX0 1 T.f_w_is_integer T.fd_w_is_integer ["_law_value"] spIsInt) : FnOk P w K mg base CX0 2 T.f_w_list_right T.fd_w_list_right ["_law_told", "_law_due_here"] spListRight := by
  refine T.F_w_list_right.ok sc_w_list_right (fun vs H Q E h => ?_) (fun cdv A outer s H vs Q E hr h => ?_)
  · obtain ⟨q, r, ps, rfl, _⟩ := h; rfl
  · obtain ⟨q, r, ps, rfl, ⟨as, eq, aq⟩, ⟨bs, er, ar⟩, hw, qq⟩ := h
    have la : (as.map V.ref).length = ps.length := by rw [List.length_map, aq.len]
    have lb : (bs.map V.ref).length = ps.length := by rw [List.length_map, ar.len]
    refine ⟨_, (pss_cons (ps_if (PW.pt (pw_or (pt_not (pt_val (pe_callB call_isi (by rfl) T.m_isinstance (by decide +kernel) (pa_cons (pv 0) (pa_cons (pe_bltn (v := .ty "list") (by rfl) T.m_list (by decide +kernel) rfl) pa_nil))))) (pw_or1 (pt_cmpR op_ne (pe_callB call_len_seq (by rfl) T.m_len PySem.boot_len (pa_cons (pv 0) pa_nil)) (pe_callB call_len_seq (by rfl) T.m_len PySem.boot_len (pa_cons (pv 1) pa_nil)) (nomark _)))))
    (pss_one (ps_ret pe_bl))
    pss_nil)
    (pss_cons (ps_for PassesOwn.never rfl (pi_list (pv 0)) (pg_name (i := 2) sc_w_list_right.nd rfl (Or.inl rfl))
    (pss_cons (ps_if (PW.pt (pw_or (pt_not (pt_val (pe_callB call_isi (by rfl) T.m_isinstance (by decide +kernel) (pa_cons (pv 2) (pa_cons (pe_bltn (v := .ty "tuple") (by rfl) T.m_tuple (by decide +kernel) rfl) pa_nil))))) (pw_or1 (pt_cmpR op_ne (pe_callB call_len_seq (by rfl) T.m_len PySem.boot_len (pa_cons (pv 2) pa_nil)) pe_int (nomark _)))))
    (pss_one (ps_ret pe_bl))
    pss_nil)
    (pss_one (ps_if (PW.pt (pw_or (pt_not (pt_val (pe_call G_w_is_integer (hr.mono (by decide)) rfl T.g_w_is_integer T.F_w_is_integer.kp T.b_w_is_integer .nil pass0 (pa_cons (pe_ix ix_tup (pv 2) pe_int (fun _ _ => rfl)) pa_nil)))) (pw_or1 (pt_not (pt_val (pe_call G_w_is_integer (hr.mono (by decide)) rfl T.g_w_is_integer T.F_w_is_integer.kp T.b_w_is_integer .nil pass0 (pa_cons (pe_ix ix_tup (pv 2) pe_int (fun _ _ => rfl)) pa_nil)))))))
    (pss_one (ps_ret pe_bl))
    pss_nil))))
    (pss_one (ps_ret (pe_cmpR (op_eqD hr.units) (pv 0) (pv 1) (nomark _)))))), ?_⟩
    walk_at "start"
    walk_at "sts"
    refine forL_go (fun j σ' H' => ∃ (y2 : Option V), σ' = [some (.ref q), some (.ref r), y2] ∧ H' = H) (sqL_of eq) ⟨_, by first | exact rfl | trivial, rfl⟩ (fun j σ' H' _ h => by obtain ⟨_, _, rfl⟩ := h; exact sqL_of eq) ?_ ?_
    · rintro j v σ' H' hj ⟨y2, rfl, rfl⟩
      obtain ⟨u, hu, rfl⟩ := getRef hj
      obtain ⟨z, hz, eu⟩ := aq.get hu
      have eu2 : H' u = some (.tup [.int z.1.1, .int z.1.2, .str z.2]) := eu
      walk_at "sts"
      refine ⟨_, rfl, ?_⟩
      walk_at "sts"
      refine ⟨_, rfl, ?_⟩
      walk_at "sts"
      exact ⟨_, by first | exact rfl | trivial, rfl⟩
    · rintro σ' H' ⟨y2, rfl, rfl⟩
      walk_at "sts"
      refine r_eqSs eq aq er ar hw ?_
      walk_at "sts"
      exact qq _ (Keep.refl _ _)
end
/-! ### what a table tells -/
open Tab (Rn cnt)
def gOf (H : Hp) : V → Str
  | .ref b => match H b with
    | some (.tup (_ :: _ :: .str s :: _)) => s
    | _ => wU
  | _ => wU
theorem gOf_s {H : Hp} {b : Addr} {p : Ct × Str} (h : H b = some (sHO p)) : gOf H (.ref b) = p.2 := by
  unfold gOf; simp only [h]; rfl
theorem kOf_s {H : Hp} {b : Addr} {p : Ct × Str} (h : H b = some (sHO p)) : kOf H (.ref b) = p.1 := by
  unfold kOf; simp only [h]; rfl
theorem lx_ofS {H : Hp} : ∀ {bs : List Addr} {ps : List (Ct × Str)}, AllAt sHO H bs ps → (ps.map (·.1)).Nodup → SrtO.Srtd (ltP (kOf H)) (bs.map V.ref) → ps.Pairwise (fun a b => Lx a.1 b.1)
  | [], [], _, _, _ => .nil
  | b :: bs, c :: cs, h, n, s => by
    have n2 := List.nodup_cons.mp n
    have s2 := List.pairwise_cons.mp s
    refine List.pairwise_cons.mpr ⟨fun d hd => ?_, lx_ofS h.2 n2.2 s2.2⟩
    obtain ⟨i, hi⟩ := List.getElem?_of_mem hd
    have le := h.2.len
    obtain ⟨e, he⟩ : ∃ e, bs[i]? = some e := ⟨_, List.getElem?_eq_getElem (by have := (List.getElem?_eq_some_iff.mp hi).1; omega)⟩
    obtain ⟨d', hd', ed⟩ := h.2.get he
    have ed2 : d' = d := by rw [hi] at hd'; exact (Option.some.inj hd').symm
    subst ed2
    have q := s2.1 (.ref e) (List.mem_map_of_mem (List.mem_of_getElem? he))
    have q2 : SrtO.lexB (kOf H (.ref e)) (kOf H (.ref b)) = false := q
    rw [kOf_s ed, kOf_s h.1] at q2
    have q3 := SrtO.lexB_no.mp q2
    have ne : ¬ (c.1.1 = d'.1.1 ∧ c.1.2 = d'.1.2) := fun z => n2.1 (by show c.1 ∈ _; rw [show c.1 = d'.1 from Prod.ext z.1 z.2]; exact List.mem_map_of_mem (f := (·.1)) hd)
    unfold Lx
    omega
  | [], _ :: _, h, _, _ => h.elim
  | _ :: _, [], h, _, _ => h.elim
theorem stops_nodup {m : Ends} : ∀ {cs : List Ct}, cs.Nodup → ((stopsOf m cs).map (·.1)).Nodup := fun {cs} n => by
  have e : (stopsOf m cs).map (·.1) = cs.filter (hasA m) := by
    clear n
    induction cs with
    | nil => rfl
    | cons c cs ih =>
      unfold stopsOf at ih ⊢
      cases e : getA m c with
      | none =>
        rw [List.filterMap_cons_none (by rw [e]; rfl), List.filter_cons_of_neg (by unfold hasA; rw [e]; simp)]
        exact ih
      | some w =>
        rw [List.filterMap_cons_some (b := (c, w)) (by rw [e]; rfl), List.filter_cons_of_pos (by unfold hasA; rw [e]; rfl), List.map_cons, ih]
  rw [e]
  exact n.filter _
theorem StopsAt.put {H : Hp} {p q : Addr} {o : HO} {ps : List (Ct × Str)} (h : StopsAt H q ps) (n : p ≠ q) (nt : ∀ xs, H p ≠ some (.tup xs)) : StopsAt (upd H p o) q ps := by
  obtain ⟨as, e, g⟩ := h
  exact ⟨as, by rw [upd_ne (Ne.symm n)]; exact e, g.mono fun a x _ _ ea => by rw [upd_ne (by rintro rfl; exact nt _ ea)]; exact ea⟩
structure StopsOk (L : Nat) (m : Ends) (ps : List (Ct × Str)) : Prop where
  mem : ∀ p, p ∈ ps ↔ (∃ j, j ≤ L ∧ Tab.Mt (hasA m) j p.1) ∧ getA m p.1 = some p.2
  lx : ps.Pairwise (fun a b => Lx a.1 b.1)
theorem StopsOk.uniq {L : Nat} {m n : Ends} {ps qs : List (Ct × Str)} (h : StopsOk L m ps) (g : StopsOk L n qs) (nd : (m.map (·.1)).Nodup) (pm : n.Perm m) : qs = ps :=
  lx_ext g.lx h.lx fun p => by rw [g.mem, h.mem, hasA_perm nd pm, getA_perm nd pm]
theorem StopsOk.word {L : Nat} {m : Ends} {ps : List (Ct × Str)} (h : StopsOk L m ps) (va : ∀ p ∈ m, IsW p.2) : ∀ p ∈ ps, IsW p.2 := fun p hp => va (p.1, p.2) (mem_getA ((h.mem p).mp hp).2)
theorem Valid.perm {L : Nat} {m n : Ends} (h : Valid L m) (p : n.Perm m) : Valid L n :=
  ⟨h.l1, h.l2, nodup_perm h.nd p, fun z hz => h.key z (p.mem_iff.mp hz), fun z hz => h.word z (p.mem_iff.mp hz), by rw [p.length_eq]; exact h.len, fun c hc => by rw [hasA_perm h.nd p] at hc ⊢; exact h.gap c hc⟩
def spTells (C : Addr) : Sp := fun vs H Q _ => ∃ (x d : Addr) (L : Nat) (n m : Ends), vs = [.ref x, .int L, .ref d] ∧ TableAt C H x L n ∧ EndsAt H d m ∧ Valid L m ∧ n.Perm m ∧ ∀ H', Keep [] H H' → Q (.bl true) H'
section
variable {P : Program} {w : World} {K : PySem.W.Frag} {mg : Str → Option Value} {base : Heap}
theorem ok_tells (T : Tx K mg) (G_w_met : FnOk P w K mg base CX0 2 T.f_w_met T.fd_w_met ["_law_limit_here", "_law_ends"] spMet) (G_Table_ends : FnOk P w K mg base CX0 1 T.f_Table_ends T.fd_Table_ends ["self"] (spEnds T.C_Table))
    (G_Table_stops : FnOk P w K mg base CX0 2 T.f_Table_stops T.fd_Table_stops ["self"] (spStops T.C_Table)) (G_w_dict_right : FnOk P w K mg base CX0 2 T.f_w_dict_right T.fd_w_dict_right ["_law_told", "_law_ends"] spDictRight)
    (G_w_list_right : FnOk P w K mg base CX0 2 T.f_w_list_right T.fd_w_list_right ["_law_told", "_law_due_here"] spListRight) : FnOk P w K mg base CX0 3 T.f_w_tells T.fd_w_tells ["_law_table", "_law_limit_here", "_law_ends"] (spTells T.C_Table) := by
  refine T.F_w_tells.ok sc_w_tells (fun vs H Q E h => ?_) (fun cdv A outer s H vs Q E hr h => ?_)
  · obtain ⟨x, d, L, n, m, rfl, _⟩ := h; rfl
  · obtain ⟨x, d, L, n, m, rfl, tab, ed, va, pm, qq⟩ := h
    have van := va.perm pm
    obtain ⟨dx, d0, ex, ed0⟩ := id tab
    have oc := T.oc_Table
    refine ⟨_, (pss_cons (ps_set (i := 3) sc_w_tells.nd rfl (Or.inl rfl) (pe_call G_w_met (hr.mono (by decide)) rfl T.g_w_met T.F_w_met.kp T.b_w_met .nil pass0 (pa_cons (pv 1) (pa_cons (pv 2) pa_nil))))
    (pss_cons (ps_set (i := 4) sc_w_tells.nd rfl (Or.inl rfl) (pe_callB (cr_sorted3 rfl) (by rfl) T.m_sorted (by decide +kernel) (pa_cons (pe_lc (own := [("_law_count", 5)]) (g := gName 5)  rfl sc_w_tells.nd (pi_list (pe_callTy (call_list_dT rfl) (by rfl) T.m_list (by decide +kernel) (pa_cons (pv 3) pa_nil))) (blkOk_by (own := [("_law_count", 5)]) (N := ["_law_table", "_law_limit_here", "_law_ends", "_law_met_here", "_law_due_here", "_law_count", "_law_first_ends", "_law_second_ends", "_law_first_stops", "_law_second_stops"]) (sc := defScope s_w_tells) (by decide +kernel)) (fun _ _ _ _ _ => pg_name (i := 5) sc_w_tells.nd rfl (Or.inl rfl)) (fun _ _ _ _ _ => pts_one (pt_cmp (pc_din (hu_of hr) (pv 5) (pv 2)))) (fun _ _ _ _ _ => (pe_tup (pa_cons (pe_ix (ix_tupK (K := K) rfl) (pv 5) pe_int (fun _ _ => rfl)) (pa_cons (pe_ix (ix_tupK (K := K) rfl) (pv 5) pe_int (fun _ _ => rfl)) (pa_cons (pe_dget (hu_of hr) (pv 2) (pv 5) (fun _ _ => rfl)) pa_nil)))))) pa_nil)))
    (pss_cons (ps_set (i := 6) sc_w_tells.nd rfl (Or.inl rfl) (pe_meth0 (pv 0) T.oc_Table.cl T.me_Table_ends G_Table_ends (hr.mono (by decide)) T.b_Table_ends .nil pass0))
    (pss_cons (ps_set (i := 7) sc_w_tells.nd rfl (Or.inl rfl) (pe_meth0 (pv 0) T.oc_Table.cl T.me_Table_ends G_Table_ends (hr.mono (by decide)) T.b_Table_ends .nil pass0))
    (pss_cons (ps_set (i := 8) sc_w_tells.nd rfl (Or.inl rfl) (pe_meth0 (pv 0) T.oc_Table.cl T.me_Table_stops G_Table_stops (hr.mono (by decide)) T.b_Table_stops .nil pass0))
    (pss_cons (ps_set (i := 9) sc_w_tells.nd rfl (Or.inl rfl) (pe_meth0 (pv 0) T.oc_Table.cl T.me_Table_stops G_Table_stops (hr.mono (by decide)) T.b_Table_stops .nil pass0))
    (pss_cons (ps_if (PW.pt (pw_or (pt_not (pt_val (pe_call G_w_dict_right (hr.mono (by decide)) rfl T.g_w_dict_right T.F_w_dict_right.kp T.b_w_dict_right .nil pass0 (pa_cons (pv 6) (pa_cons (pv 2) pa_nil))))) (pw_or1 (pt_not (pt_val (pe_call G_w_list_right (hr.mono (by decide)) rfl T.g_w_list_right T.F_w_list_right.kp T.b_w_list_right .nil pass0 (pa_cons (pv 8) (pa_cons (pv 4) pa_nil))))))))
    (pss_one (ps_ret pe_bl))
    pss_nil)
    (pss_cons (ps_expr (Dt.pe_dclearT (pv 6)))
    (pss_cons (ps_expr (pe_bm0 PySem.F.plainAttrs_list PySem.F.slot_list_clear PySem.F.type_list_clear mt_clear (pv 8)))
    (pss_cons (ps_if (PW.pt (pw_or (pt_not (pt_val (pe_call G_w_dict_right (hr.mono (by decide)) rfl T.g_w_dict_right T.F_w_dict_right.kp T.b_w_dict_right .nil pass0 (pa_cons (pv 7) (pa_cons (pv 2) pa_nil))))) (pw_or1 (pt_not (pt_val (pe_call G_w_list_right (hr.mono (by decide)) rfl T.g_w_list_right T.F_w_list_right.kp T.b_w_list_right .nil pass0 (pa_cons (pv 9) (pa_cons (pv 4) pa_nil))))))))
    (pss_one (ps_ret pe_bl))
    pss_nil)
    (pss_one (ps_ret (pe_and (pe_call G_w_dict_right (hr.mono (by decide)) rfl T.g_w_dict_right T.F_w_dict_right.kp T.b_w_dict_right .nil pass0 (pa_cons (pe_meth0 (pv 0) T.oc_Table.cl T.me_Table_ends G_Table_ends (hr.mono (by decide)) T.b_Table_ends .nil pass0) (pa_cons (pv 2) pa_nil))) (pe_one (pe_call G_w_list_right (hr.mono (by decide)) rfl T.g_w_list_right T.F_w_list_right.kp T.b_w_list_right .nil pass0 (pa_cons (pe_meth0 (pv 0) T.oc_Table.cl T.me_Table_stops G_Table_stops (hr.mono (by decide)) T.b_Table_stops .nil pass0) (pa_cons (pv 4) pa_nil))))))))))))))))), ?_⟩
    walk_at "start"
    walk_at "sts"
    refine ⟨L, d, m, rfl, ed, va.l2, fun DM R H1 k1 nDM met ok hk lR => ?_⟩
    walk_at "sts"
    refine ⟨DM, _, rfl, .inl met.1, fun lq bs hlq hks => ?_⟩
    have ks := keys_kvG hks
    rw [hk] at ks
    have k2 : Keep [] H1 (upd H1 lq (.lst (bs.map V.ref))) := Keep.new hlq
    have eq : upd H1 lq (.lst (bs.map V.ref)) lq = some (.lst (bs.map V.ref)) := upd_same
    have ca := ks.keep0 k2
    have kH2 : Keep [] H (upd H1 lq (.lst (bs.map V.ref))) := k1.trans k2
    generalize upd H1 lq (.lst (bs.map V.ref)) = H2 at k2 eq ca kH2 ⊢
    generalize hcs : Tab.metC (hasA m) L = cs at ca hk
    have lcs : cs.length ≤ 8192 := by have := congrArg List.length hk; rw [List.length_map] at this; omega
    have mem : ∀ c, c ∈ cs ↔ ∃ j, j ≤ L ∧ Tab.Mt (hasA m) j c := fun c => by rw [← hcs, Tab.mem_metC]
    have ncs : cs.Nodup := by rw [← hcs]; exact metC_nodup
    have lc := ca.len
    have ed2 : EndsAt H2 d m := kH2 _ _ (by simp) ed
    walk_at "sts"
    refine lcL_go (fun D i acc H' => ∃ bs : List Addr, acc = bs.map V.ref ∧ AllAt sHO H' bs (stopsOf m (cs.take i)) ∧ Keep [] H2 H' ∧ H2 D = none) (sqL_of eq) (fun D hD => ⟨[], rfl, by simp [stopsOf, AllAt], Keep.new hD, hD⟩) (fun D i acc H' _ h => by obtain ⟨_, _, _, k, _⟩ := h; exact sqL_of (k _ _ (by simp) eq)) ?_ ?_
    · rintro D i v acc H3 hv hD ⟨bs, rfl, hb, k3, nD⟩
      obtain ⟨b, hb0, rfl⟩ := getRef hv
      obtain ⟨c, hc, eb⟩ := ca.get hb0
      have eb2 : H3 b = some (cHO c) := k3 _ _ (by simp) eb
      have eb3 : H3 b = some (.tup [.int c.1, .int c.2]) := eb2
      have ed3 := k3 _ _ (by simp) ed2
      have hbl := hb.len
      have sl := stops_len (m := m) (cs := cs.take i)
      rw [List.length_take] at sl
      have sn := stops_snoc (m := m) hc
      walk_at "sts"
      refine r_dinT (f := V.str) (g := id) ed3 eb2 ?_
      cases hw : getA m c with
      | none =>
        rw [hw] at sn
        unfold hasA
        rw [hw]
        walk_at "sts"
        exact ⟨_, hD, bs, rfl, by rw [sn]; simpa using hb, k3, nD⟩
      | some wd =>
        rw [hw] at sn
        unfold hasA
        rw [hw]
        walk_at "sts"
        rw [if_pos (show id (some wd).isSome = true from rfl)]
        walk_at "sts"
        refine ⟨d, _, rfl, dgetT (f := V.str) ed3 eb2 hw, ?_⟩
        walk_at "sts"
        intro u hu
        have k4 : Keep [] H3 (upd H3 u (.tup [.int c.1, .int c.2, .str wd])) := Keep.new hu
        have eu : upd H3 u (.tup [.int c.1, .int c.2, .str wd]) u = some (sHO (c, wd)) := upd_same
        have hD4 := k4 _ _ (by simp) hD
        have hb4 := hb.keep0 k4
        generalize upd H3 u (.tup [.int c.1, .int c.2, .str wd]) = H4 at k4 eu hD4 hb4 ⊢
        refine lc_put (acc := bs.map V.ref) hD4 (by rw [List.length_map]; exact lt_size (by omega)) ⟨bs ++ [u], by rw [List.map_append]; rfl, ?_, (k3.trans k4).mut nD, nD⟩
        rw [sn]
        exact (hb4.app (bs := [u]) (ys := [(c, wd)]) ⟨eu, trivial⟩).keep (Keep.at (M := [D]) (by simp)) (fun a ha x e => by rw [List.mem_singleton.mp ha, hD4] at e; cases e)
    · rintro D acc H3 nD hD ⟨bs, rfl, hb, k3, _⟩
      rw [List.length_map, lc, List.take_length] at hb
      have nps : ((stopsOf m cs).map (·.1)).Nodup := stops_nodup ncs
      walk_at "sts"
      refine ⟨D, _, kOf H3, gOf H3, rfl, sqL_of hD, fun z hz => ?_, fun z hz y hy ezy => ?_, fun ys q hs pr hq => ?_⟩
      · obtain ⟨i, hi⟩ := List.getElem?_of_mem hz
        obtain ⟨b, hb0, rfl⟩ := getRef hi
        obtain ⟨p, _, eb⟩ := hb.get hb0
        exact ⟨b, rfl, by rw [kOf_s eb, gOf_s eb]; exact eb⟩
      · obtain ⟨i, hi⟩ := List.getElem?_of_mem hz
        obtain ⟨b, hb0, rfl⟩ := getRef hi
        obtain ⟨p, hp, eb⟩ := hb.get hb0
        obtain ⟨j, hj⟩ := List.getElem?_of_mem hy
        obtain ⟨b2, hb2, rfl⟩ := getRef hj
        obtain ⟨p2, hp2, eb2⟩ := hb.get hb2
        rw [kOf_s eb, kOf_s eb2] at ezy
        rw [gOf_s eb, gOf_s eb2]
        have g1 := (mem_stops.mp (List.mem_of_getElem? hp)).2
        have g2 := (mem_stops.mp (List.mem_of_getElem? hp2)).2
        rw [ezy, g2] at g1
        exact (Option.some.inj g1).symm
      obtain ⟨bs2, hbs2, rfl⟩ := refs_perm pr
      obtain ⟨ps, hps, hc⟩ := hb.perm hbs2.symm
      have lxp := lx_ofS hc ((hps.map (·.1)).nodup_iff.mpr nps) hs
      have so : StopsOk L m ps := ⟨fun p => by rw [hps.mem_iff, mem_stops, mem], lxp⟩
      have iw := so.word va.word
      have k4 : Keep [] H3 (upd H3 q (.lst (bs2.map V.ref))) := Keep.new hq
      have sq : StopsAt (upd H3 q (.lst (bs2.map V.ref))) q ps := ⟨bs2, upd_same, hc.keep0 k4⟩
      have k5 : Keep [] H (upd H3 q (.lst (bs2.map V.ref))) := kH2.trans (k3.trans k4)
      generalize upd H3 q (.lst (bs2.map V.ref)) = H4 at sq k5 ⊢
      clear k4 hc hs pr hq hb hD nD k3 ks hks hlq eq ca k2 kH2 ed2 met k1
      have tab4 := tab.keep0 k5
      have ed4 : EndsAt H4 d m := k5 _ _ (by simp) ed
      walk_at "sts"
      refine ⟨x, L, n, rfl, tab4, van, fun E1 H5 k6 nE1 e1 => ?_⟩
      have k56 := k5.trans k6
      walk_at "sts"
      refine ⟨x, L, n, rfl, tab.keep0 k56, van, fun E2 H6 k7 nE2 e2 => ?_⟩
      have k57 := k56.trans k7
      walk_at "sts"
      refine ⟨x, L, n, rfl, tab.keep0 k57, van, fun S1 as1 ps1 H7 k8 nS1 s1 a1 m1 l1 x1 => ?_⟩
      obtain rfl : ps1 = ps := so.uniq ⟨m1, x1⟩ va.nd pm
      have k58 := k57.trans k8
      walk_at "sts"
      refine ⟨x, L, n, rfl, tab.keep0 k58, van, fun S2 as2 ps2 H8 k9 nS2 s2 a2 m2 l2 x2 => ?_⟩
      obtain rfl : ps2 = ps1 := so.uniq ⟨m2, x2⟩ va.nd pm
      have k59 := k58.trans k9
      have e18 : EndsAt H8 E1 n := (k7.trans (k8.trans k9)) _ _ (by simp) e1
      have e28 : EndsAt H8 E2 n := (k8.trans k9) _ _ (by simp) e2
      have s18 : H8 S1 = some (.lst (as1.map V.ref)) := k9 _ _ (by simp) s1
      have st1 : StopsAt H8 S1 ps2 := ⟨as1, s18, a1.keep0 k9⟩
      have st2 : StopsAt H8 S2 ps2 := ⟨as2, s2, a2⟩
      have sq8 : StopsAt H8 q ps2 := sq.keep0 (k6.trans (k7.trans (k8.trans k9)))
      have ed8 : EndsAt H8 d m := k59 _ _ (by simp) ed
      have nE1d : E1 ≠ d := by rintro rfl; cases (nE1.symm.trans (k5 _ _ (by simp) ed))
      have nE2d : E2 ≠ d := by rintro rfl; cases (nE2.symm.trans (k56 _ _ (by simp) ed))
      walk_at "sts"
      refine ⟨E1, d, n, m, rfl, e18, ed8, va.nd, pm, nE1d, fun H9 k10 => ?_⟩
      walk_at "sts"
      refine ⟨S1, q, _, rfl, st1.keep0 k10, sq8.keep0 k10, iw, fun H10 k11 => ?_⟩
      have k60 := k59.trans (k10.trans k11)
      have e110 : H10 E1 = some (.dT (kvG V.str n)) := (k10.trans k11) _ _ (by simp) e18
      walk_at "sts"
      refine r_bm0 ?_
      walk_at "sts"
      refine ⟨?ty, E1, _, rfl, rfl, e110, ?_⟩
      case ty => exact .inr (.inr (.inl ⟨rfl, .inr ⟨_, e110⟩⟩))
      have k61 : Keep [] H (upd H10 E1 (.dT [])) := k60.mut (k5.free (by simp) nE1)
      have k810 : Keep [] H8 H10 := k10.trans k11
      have n1 : ∀ xs, H10 E1 ≠ some (.tup xs) := fun xs e => by rw [e110] at e; cases e
      have nq1 : E1 ≠ q := by rintro rfl; obtain ⟨_, e, _⟩ := sq; cases (nE1.symm.trans e)
      have nS11 : E1 ≠ S1 := by rintro rfl; cases (e18.symm.trans s18)
      have nS21 : E1 ≠ S2 := by rintro rfl; cases (e18.symm.trans s2)
      have nE12 : E1 ≠ E2 := by rintro rfl; cases (nE2.symm.trans e1)
      have sq11 := (sq8.keep0 k810).put (o := .dT []) nq1 n1
      have st11 := (st1.keep0 k810).put (o := .dT []) nS11 n1
      have st21 := (st2.keep0 k810).put (o := .dT []) nS21 n1
      have e211 : EndsAt (upd H10 E1 (.dT [])) E2 n := by
        show upd H10 E1 (.dT []) E2 = _
        rw [upd_ne (Ne.symm nE12)]; exact k810 _ _ (by simp) e28
      generalize upd H10 E1 (.dT []) = H11 at k61 sq11 st11 st21 e211 ⊢
      have nS1H : H S1 = none := k57.free (by simp) nS1
      have s1q : S1 ≠ q := by
        rintro rfl
        obtain ⟨_, e, _⟩ := sq.keep0 (k6.trans k7)
        cases (nS1.symm.trans e)
      have s12 : S1 ≠ S2 := by rintro rfl; cases (nS2.symm.trans s1)
      have s1e : S1 ≠ E2 := by rintro rfl; cases (e28.symm.trans s18)
      clear k60 e110 k10 k11 st1 st2 sq8 ed8 e18 e28 s18 k810 n1
      obtain ⟨as11, e11, a11⟩ := st11
      walk_at "sts"
      refine r_bm0 ?_
      walk_at "sts"
      refine ⟨S1, _, rfl, rfl, e11, ?_⟩
      have k62 : Keep [] H (upd H11 S1 (.lst [])) := k61.mut nS1H
      have n1 : ∀ xs, H11 S1 ≠ some (.tup xs) := fun xs e => by rw [e11] at e; cases e
      have sq12 := sq11.put (o := .lst []) s1q n1
      have st22 := st21.put (o := .lst []) s12 n1
      have e212 : EndsAt (upd H11 S1 (.lst [])) E2 n := by
        show upd H11 S1 (.lst []) E2 = _
        rw [upd_ne (Ne.symm s1e)]; exact e211
      generalize upd H11 S1 (.lst []) = H12 at k62 sq12 st22 e212 ⊢
      clear e11 a11 sq11 st21 e211 k61 n1
      have ed12 : EndsAt H12 d m := k62 _ _ (by simp) ed
      walk_at "sts"
      refine ⟨E2, d, n, m, rfl, e212, ed12, va.nd, pm, nE2d, fun H13 k13 => ?_⟩
      walk_at "sts"
      refine ⟨S2, q, _, rfl, st22.keep0 k13, sq12.keep0 k13, iw, fun H14 k14 => ?_⟩
      have k63 := k62.trans (k13.trans k14)
      walk_at "sts"
      refine ⟨x, L, n, rfl, tab.keep0 k63, van, fun E3 H15 k15 nE3 e3 => ?_⟩
      have ed14 : EndsAt H14 d m := k63 _ _ (by simp) ed
      have ed15 : EndsAt H15 d m := k15 _ _ (by simp) ed14
      have nE3d : E3 ≠ d := by rintro rfl; cases (nE3.symm.trans ed14)
      walk_at "sts"
      refine ⟨E3, d, n, m, rfl, e3, ed15, va.nd, pm, nE3d, fun H16 k16 => ?_⟩
      have k64 := k63.trans (k15.trans k16)
      have sq16 := sq12.keep0 ((k13.trans k14).trans (k15.trans k16))
      walk_at "sts"
      refine ⟨x, L, n, rfl, tab.keep0 k64, van, fun S3 as3 ps3 H17 k17 nS3 s3 a3 m3 l3 x3 => ?_⟩
      obtain rfl : ps3 = ps2 := so.uniq ⟨m3, x3⟩ va.nd pm
      walk_at "sts"
      refine ⟨S3, q, _, rfl, ⟨as3, s3, a3⟩, sq16.keep0 k17, iw, fun H18 k18 => ?_⟩
      exact qq H18 (k64.trans (k17.trans k18))
end
/-! ### what a table keeps -/
open Tab (Rn cnt)
theorem Valid.m0 {L : Nat} {m : Ends} (h : Valid L m) : hasA m (0, 0) = false := by
  cases e : hasA m (0, 0) with
  | false => rfl
  | true =>
    obtain ⟨p, hp, e2⟩ := List.mem_map.mp (hasA_iff.mp e)
    have := (h.key p hp).2.2.1
    rw [e2] at this; simp at this
theorem wordRun_has {m n : Ends} (h : hasA n = hasA m) : ∀ (s : List Nat) (c : Ct), wordRun n s c = wordRun m s c
  | [], _ => rfl
  | x :: s, c => by unfold wordRun; rw [h]; split <;> first | rfl | exact wordRun_has h s _
theorem ansT_perm {m n : Ends} (nd : (m.map (·.1)).Nodup) (p : n.Perm m) (s : List Nat) : ansT n s = ansT m s := by
  unfold ansT
  rw [wordRun_has (hasA_perm nd p)]
  cases wordRun m s (0, 0) with
  | none => rfl
  | some c => simp only [getA_perm nd p]
theorem getS {ss : List (List Nat)} {i : Nat} {x : V} (h : (ss.map sV)[i]? = some x) : ∃ s, ss[i]? = some s ∧ x = .str (strL s) := by
  rw [List.getElem?_map] at h
  obtain ⟨a, ha, e⟩ := Option.map_eq_some_iff.mp h
  exact ⟨a, ha, e.symm⟩
def spKeeps (C : Addr) : Sp := fun vs H Q _ => ∃ (x d q : Addr) (L : Nat) (n m : Ends) (ss : List (List Nat)), vs = [.ref x, .int L, .ref d, .ref q] ∧ TableAt C H x L n ∧ EndsAt H d m ∧ Valid L m ∧ n.Perm m ∧ H q = some (.lst (ss.map sV)) ∧ (∀ s ∈ ss, TextOk s) ∧ ss.length ≤ 4 ∧ ∀ H', Keep [] H H' → Q (.bl true) H'
section
variable {w : World} {K : PySem.W.Frag} {mg : Str → Option Value} {base : Heap}
theorem ok_keeps (T : Tx K mg) (G_w_is_integer : FnOk PG w K mg base CX0 1 T.f_w_is_integer T.fd_w_is_integer ["_law_value"] spIsInt) (G_w_tells : FnOk PG w K mg base CX0 3 T.f_w_tells T.fd_w_tells ["_law_table", "_law_limit_here", "_law_ends"] (spTells T.C_Table))
    (G_w_paths : FnOk PG w K mg base CX0 3 T.f_w_paths T.fd_w_paths ["_law_limit_here", "_law_ends"] spPaths) (G_w_answer : FnOk PG w K mg base CX0 2 T.f_w_answer T.fd_w_answer ["_law_table", "_law_tries"] (spAnswer T.C_Table))
    (G_w_due : FnOk PG w K mg base CX0 1 T.f_w_due T.fd_w_due ["_law_ends", "_law_tries"] spDue) : FnOk PG w K mg base CX0 4 T.f_w_keeps T.fd_w_keeps ["_law_table", "_law_limit_here", "_law_ends", "_law_strings_here"] (spKeeps T.C_Table) := by
  refine T.F_w_keeps.ok sc_w_keeps (fun vs H Q E h => ?_) (fun cdv A outer s H vs Q E hr h => ?_)
  · obtain ⟨x, d, q, L, n, m, ss, rfl, _⟩ := h; rfl
  · obtain ⟨x, d, q, L, n, m, ss, rfl, tab, ed, va, pm, eq, hss, lss, qq⟩ := h
    obtain ⟨dx, d0, ex, ed0⟩ := id tab
    have oc := T.oc_Table
    have nl := T.na_Table_limit
    have nm := T.na_Table_marks
    have va0 := va.m0
    refine ⟨_, (pss_cons (ps_if (PW.pt (pw_or (pt_not (pt_val (pe_callB call_isi (by rfl) T.m_isinstance (by decide +kernel) (pa_cons (pv 0) (pa_cons (pe_glob (v := .ref T.C_Table) rfl T.gC_Table rfl) pa_nil))))) (pw_or (pt_not (pt_val (pe_call G_w_is_integer (hr.mono (by decide)) rfl T.g_w_is_integer T.F_w_is_integer.kp T.b_w_is_integer .nil pass0 (pa_cons (pe_fld (pv 0) rfl) pa_nil)))) (pw_or1 (pt_cmpR op_ne (pe_fld (pv 0) rfl) (pv 1) (nomark _))))))
    (pss_one (ps_ret pe_bl))
    pss_nil)
    (pss_cons (ps_if (pt_not (pt_val (pe_call G_w_tells (hr.mono (by decide)) rfl T.g_w_tells T.F_w_tells.kp T.b_w_tells .nil pass0 (pa_cons (pv 0) (pa_cons (pv 1) (pa_cons (pv 2) pa_nil))))))
    (pss_one (ps_ret pe_bl))
    pss_nil)
    (pss_cons (ps_for PassesOwn.never rfl (pi_list (pe_op op_cat (pv 3) (pe_call G_w_paths (hr.mono (by decide)) rfl T.g_w_paths T.F_w_paths.kp T.b_w_paths .nil pass0 (pa_cons (pv 1) (pa_cons (pv 2) pa_nil))))) (pg_name (i := 4) sc_w_keeps.nd rfl (Or.inl rfl))
    (pss_one (ps_if (pt_cmpR (op_neD hr.units) (pe_call G_w_answer (hr.mono (by decide)) rfl T.g_w_answer T.F_w_answer.kp T.b_w_answer .nil pass0 (pa_cons (pv 0) (pa_cons (pv 4) pa_nil))) (pe_call G_w_due (hr.mono (by decide)) rfl T.g_w_due T.F_w_due.kp T.b_w_due .nil pass0 (pa_cons (pv 2) (pa_cons (pv 4) pa_nil))) (nomark _))
    (pss_one (ps_ret pe_bl))
    pss_nil)))
    (pss_one (ps_ret (pe_call G_w_tells (hr.mono (by decide)) rfl T.g_w_tells T.F_w_tells.kp T.b_w_tells .nil pass0 (pa_cons (pv 0) (pa_cons (pv 1) (pa_cons (pv 2) pa_nil))))))))), ?_⟩
    walk_at "start"
    walk_at "sts"
    refine Ow.r_isiOwn oc ex ?_
    walk_at "sts"
    refine ⟨_, rfl, ?_⟩
    walk_at "sts"
    refine ⟨x, d, L, n, m, rfl, tab, ed, va, pm, fun H1 k1 => ?_⟩
    have ed1 : EndsAt H1 d m := k1 _ _ (by simp) ed
    have eq1 := k1 _ _ (by simp) eq
    walk_at "sts"
    refine ⟨L, d, m, rfl, ed1, va.l2, fun r rs H2 k2 nr er hrs lrs => ?_⟩
    have eq2 := k2 _ _ (by simp) eq1
    walk_at "sts"
    refine r_cat eq2 er (le_size (by rw [List.length_map, List.length_map]; omega)) fun p hp => ?_
    have k3 : Keep [] H2 (upd H2 p (.lst ((ss ++ rs).map sV))) := Keep.new hp
    have epp : upd H2 p (.lst ((ss ++ rs).map sV)) p = some (.lst ((ss ++ rs).map sV)) := upd_same
    have hall : ∀ z ∈ ss ++ rs, TextOk z := fun z hz => by
      rcases List.mem_append.mp hz with hz | hz
      · exact hss z hz
      · exact hrs z hz
    rw [← List.map_append]
    have k123 : Keep [] H (upd H2 p (.lst ((ss ++ rs).map sV))) := k1.trans (k2.trans k3)
    generalize upd H2 p (.lst ((ss ++ rs).map sV)) = H3 at k3 epp k123 ⊢
    walk_at "sts"
    refine forL_go (fun j σ' H' => ∃ (y : Option V), σ' = [some (.ref x), some (.int L), some (.ref d), some (.ref q), y] ∧ Keep [] H3 H') (sqL_of epp) ⟨_, by first | exact rfl | trivial, Keep.refl _ _⟩ (fun j σ' H' _ h => by obtain ⟨_, _, k⟩ := h; exact sqL_of (k _ _ (by simp) epp)) ?_ ?_
    · rintro j v σ' H4 hj ⟨y, rfl, k4⟩
      obtain ⟨z, hz, rfl⟩ := getS hj
      have hzt := hall z (List.mem_of_getElem? hz)
      have k14 := k123.trans k4
      walk_at "sts"
      refine ⟨x, L, n, z, rfl, tab.keep0 k14, hzt, fun t H5 k5 et => ?_⟩
      have k15 := k14.trans k5
      walk_at "sts"
      refine ⟨d, m, z, rfl, k15 _ _ (by simp) ed, va0, fun u H6 k6 eu => ?_⟩
      have et6 := k6 _ _ (by simp) et
      rw [ansT_perm va.nd pm] at et6
      have fl := ansT_flat (m := m) va.word hzt
      walk_at "sts"
      refine r_neT (sqT_of et6) (sqT_of eu) fl fl (eqv_flats fl) ?_
      walk_at "sts"
      exact ⟨_, by first | exact rfl | trivial, k4.trans (k5.trans k6)⟩
    · rintro σ' H4 ⟨y, rfl, k4⟩
      have k14 := k123.trans k4
      walk_at "sts"
      refine ⟨x, d, L, n, m, rfl, tab.keep0 k14, k14 _ _ (by simp) ed, va, pm, fun H5 k5 => ?_⟩
      exact qq H5 (k14.trans k5)
end
/-! ### a table with an entry changed -/
open Tab (Rn cnt)
def nextW (w : Str) : Str := if w = wR then wM else if w = wM then wU else wR
theorem nextW_ne {w : Str} (h : IsW w) : nextW w ≠ w ∧ IsW (nextW w) := by
  rcases h with rfl | rfl | rfl
  · exact ⟨by decide, .inr (.inl rfl)⟩
  · exact ⟨by decide, .inr (.inr rfl)⟩
  · exact ⟨by decide, .inl rfl⟩
theorem Valid.put {L : Nat} {m : Ends} {c : Ct} {w : Str} (h : Valid L m) (hc : 0 ≤ c.1 ∧ 0 ≤ c.2 ∧ 1 ≤ c.1 + c.2 ∧ c.1 + c.2 ≤ (L : Int)) (hw : IsW w) : Valid L (putA m c w) := by
  have key : ∀ p ∈ putA m c w, 0 ≤ p.1.1 ∧ 0 ≤ p.1.2 ∧ 1 ≤ p.1.1 + p.1.2 ∧ p.1.1 + p.1.2 ≤ (L : Int) := fun p hp => by
    have hk : p.1 ∈ (putA m c w).map (·.1) := List.mem_map_of_mem hp
    rw [← hasA_iff, hasA_put] at hk
    rcases hk with e | e
    · rw [e]; exact hc
    · obtain ⟨q, hq, e⟩ := List.mem_map.mp (hasA_iff.mp e)
      rw [← e]; exact h.key q hq
  have nd : ((putA m c w).map (·.1)).Nodup := by
    rw [putA_keys]
    split
    · exact h.nd
    · rename_i n
      exact List.nodup_append.mpr ⟨h.nd, by simp, fun a ha b hb e => n (by rw [← List.mem_singleton.mp hb, ← e]; exact ha)⟩
  refine ⟨h.l1, h.l2, nd, key, fun p hp => ?_, Nat.le_trans (few_of nd h.l2 key) (by decide), fun c' hc' => ?_⟩
  · rcases putA_mem hp with hp | e
    · exact h.word p hp
    · rw [e]; exact hw
  · rw [hasA_put]
    exact .inr (h.gap c' (mt_mono (fun x hx => by
      cases e : hasA m x with
      | false => rfl
      | true => have := (hasA_put (m := m) (c := c) (y := w)).mpr (.inr e); rw [hx] at this; cases this) hc'))
theorem diff_of {L : Nat} {m n : Ends} {c : Ct} (h : Valid L m) (v : Valid L n) (ne : getA m c ≠ getA n c) : sameB m n = false := by
  cases e : sameB m n with
  | false => rfl
  | true => exact (ne ((sameB_iff h.nd v.nd).mp e c)).elim
theorem flat_4w : ([V.str wR, V.str wM, V.str wU, V.str wR] : List V).all L2.flatV = true := by decide +kernel
theorem index_w {K : PySem.W.Frag} {q : Addr} {w0 : Str} {H : Hp} {Q : VK} (hw : IsW w0) (hq : H q = some (.lst [V.str wR, V.str wM, V.str wU, V.str wR])) (k : ∀ j : Nat, j < 3 → atI [V.str wR, V.str wM, V.str wU, V.str wR] ((j : Int) + 1) = some (.str (nextW w0)) → Q (.int j) H) : rIndex K (.ref q) [.str w0] H Q := by
  rcases hw with rfl | rfl | rfl
  · exact ⟨q, _, _, 0, .str wR, rfl, rfl, sqL_of hq, by decide +kernel, flat_4w, rfl, by decide +kernel, fun m z' hm => by omega, k 0 (by omega) (by decide +kernel)⟩
  · exact ⟨q, _, _, 1, .str wM, rfl, rfl, sqL_of hq, by decide +kernel, flat_4w, rfl, by decide +kernel, fun m z' hm hz => by
      obtain rfl : m = 0 := by omega
      obtain rfl := Option.some.inj hz
      decide +kernel, k 1 (by omega) (by decide +kernel)⟩
  · exact ⟨q, _, _, 2, .str wU, rfl, rfl, sqL_of hq, by decide +kernel, flat_4w, rfl, by decide +kernel, fun m z' hm hz => by
      obtain rfl | rfl : m = 0 ∨ m = 1 := by omega
      all_goals
        obtain rfl := Option.some.inj hz
        decide +kernel, k 2 (by omega) (by decide +kernel)⟩
def spChanged : Sp := fun vs H Q _ => ∃ (a : Addr) (L : Nat) (d : Addr) (m : Ends), vs = [.ref a, .int L, .ref d] ∧ BoxAt a H ∧ EndsAt H d m ∧ Valid L m ∧ ∀ D m' H', Keep [a] H H' → BoxAt a H' → H D = none → EndsAt H' D m' → Valid L m' → sameB m m' = false → Q (.ref D) H'
section
variable {P : Program} {w : World} {K : PySem.W.Frag} {mg : Str → Option Value} {base : Heap}
theorem ok_changed (T : Tx K mg) (G_w_take : FnOk P w K mg base CX0 1 T.f_w_take T.fd_w_take ["_law_box_here", "_law_size"] spDr) (G_w_copy : FnOk P w K mg base CX0 1 T.f_w_copy T.fd_w_copy ["_law_ends"] spCopy)
    (G_w_word : FnOk P w K mg base CX0 2 T.f_w_word T.fd_w_word ["_law_box_here"] spWord) : FnOk P w K mg base CX0 3 T.f_w_changed T.fd_w_changed ["_law_box_here", "_law_limit_here", "_law_ends"] spChanged := by
  refine T.F_w_changed.ok sc_w_changed (fun vs H Q E h => ?_) (fun cdv A outer s H vs Q E hr h => ?_)
  · obtain ⟨a, L, d, m, rfl, _⟩ := h; rfl
  · obtain ⟨a, L, d, m, rfl, hb, ed, va, qq⟩ := h
    have l1 := va.l1
    have l2 := va.l2
    have nda := hb.ned ed
    refine ⟨_, (pss_cons (ps_set (i := 3) sc_w_changed.nd rfl (Or.inl rfl) (pe_op op_add pe_int (pe_call G_w_take (hr.mono (by decide)) rfl T.g_w_take T.F_w_take.kp T.b_w_take .nil pass0 (pa_cons (pv 0) (pa_cons (pv 1) pa_nil)))))
    (pss_cons (ps_set (i := 4) sc_w_changed.nd rfl (Or.inl rfl) (pe_call G_w_take (hr.mono (by decide)) rfl T.g_w_take T.F_w_take.kp T.b_w_take .nil pass0 (pa_cons (pv 0) (pa_cons (pe_op op_add (pv 3) pe_int) pa_nil))))
    (pss_cons (ps_set (i := 5) sc_w_changed.nd rfl (Or.inl rfl) (pe_tup (pa_cons (pv 4) (pa_cons (pe_op op_sub (pv 3) (pv 4)) pa_nil))))
    (pss_cons (ps_set (i := 6) sc_w_changed.nd rfl (Or.inl rfl) (pe_call G_w_copy (hr.mono (by decide)) rfl T.g_w_copy T.F_w_copy.kp T.b_w_copy .nil pass0 (pa_cons (pv 2) pa_nil)))
    (pss_cons (ps_dput (hu_of hr) (pv 6) (pv 5) (pe_call G_w_word (hr.mono (by decide)) rfl T.g_w_word T.F_w_word.kp T.b_w_word .nil pass0 (pa_cons (pv 0) pa_nil)) rfl)
    (pss_cons (ps_if (PW.pt (pw_and (pt_cmp (pc_din (hu_of hr) (pv 5) (pv 2))) (pw_and1 (pt_cmpR op_eq (pe_dget (hu_of hr) (pv 6) (pv 5) (fun _ _ => rfl)) (pe_dget (hu_of hr) (pv 2) (pv 5) (fun _ _ => rfl)) (nomark _)))))
    (pss_cons (ps_set (i := 7) sc_w_changed.nd rfl (Or.inl rfl) (pe_lst (pa_cons pe_str (pa_cons pe_str (pa_cons pe_str (pa_cons pe_str pa_nil))))))
    (pss_one (ps_dput (hu_of hr) (pv 6) (pv 5) (pe_ix ix_list (pv 7) (pe_op op_add (pe_bm PySem.F.plainAttrs_list PySem.F.slot_list_index PySem.F.type_list_index mt_index (pv 7) (pa_cons (pe_dget (hu_of hr) (pv 2) (pv 5) (fun _ _ => rfl)) pa_nil)) pe_int) (fun _ _ => rfl)) rfl)))
    pss_nil)
    (pss_one (ps_ret (pv 6))))))))), ?_⟩
    walk_at "start"
    walk_at "sts"
    refine r_dr hb (by omega) (by omega) fun t H1 a1 b1 k1 p1 => ?_
    walk_at "sts"
    refine r_dr p1 (by omega) (by omega) fun r H2 a2 b2 k2 p2 => ?_
    have k12 := k1.trans k2
    walk_at "sts"
    intro u hu
    have k3 : Keep [] H2 (upd H2 u (.tup [.int r, .int (1 + t - r)])) := Keep.new hu
    have eu : upd H2 u (.tup [.int r, .int (1 + t - r)]) u = some (cHO (r, 1 + t - r)) := upd_same
    have p3 := p2.keep0 k3
    have k13 := k12.trans (k3.mono (by simp))
    generalize upd H2 u (.tup [.int r, .int (1 + t - r)]) = H3 at k3 eu p3 k13 ⊢
    have ed3 : EndsAt H3 d m := k13 _ _ (by simpa using nda) ed
    walk_at "sts"
    refine ⟨d, m, rfl, ed3, va.nd, va.len, fun D H4 k4 nD eD => ?_⟩
    have k14 := k13.trans (k4.mono (by simp))
    have p4 := p3.keep0 k4
    have eu4 := k4 _ _ (by simp) eu
    have nDa := p3.ne nD
    have nua : u ≠ a := by rintro rfl; obtain ⟨_, _, _, e, _⟩ := p4; cases (e.symm.trans eu4)
    have nDH : H D = none := k13.free (by simpa using nDa) nD
    walk_at "sts"
    refine ⟨a, rfl, p4, fun wd H5 hw k5 p5 => ?_⟩
    have eD5 := k5 _ _ (by simpa using nDa) eD
    have eu5 := k5 _ _ (by simpa using nua) eu4
    have k15 := k14.trans k5
    have hc : 0 ≤ r ∧ 0 ≤ 1 + t - r ∧ 1 ≤ r + (1 + t - r) ∧ r + (1 + t - r) ≤ (L : Int) := ⟨a2, by omega, by omega, by omega⟩
    generalize hcc : ((r, 1 + t - r) : Ct) = c at eu4 eu5 eu
    have hc2 : 0 ≤ c.1 ∧ 0 ≤ c.2 ∧ 1 ≤ c.1 + c.2 ∧ c.1 + c.2 ≤ (L : Int) := by rw [← hcc]; exact hc
    have nDu : D ≠ u := by rintro rfl; cases (nD.symm.trans eu)
    have nDd : D ≠ d := by rintro rfl; cases (nD.symm.trans ed3)
    walk_at "sts"
    refine r_dputT eD5 eu5 (lt_size (by rw [len_kvG]; have := va.len; omega)) ?_
    rw [put_kvG]
    have k16 : Keep [a] H (upd H5 D (.dT (kvG V.str (putA m c wd)))) := k15.mut nDH
    have eD6 : EndsAt (upd H5 D (.dT (kvG V.str (putA m c wd)))) D (putA m c wd) := upd_same
    have eu6 : upd H5 D (.dT (kvG V.str (putA m c wd))) u = some (cHO c) := by rw [upd_ne (Ne.symm nDu)]; exact eu5
    have p6 := p5.put (o := .dT (kvG V.str (putA m c wd))) nDa
    generalize upd H5 D (.dT (kvG V.str (putA m c wd))) = H6 at k16 eD6 eu6 p6 ⊢
    have ed6 : EndsAt H6 d m := k16 _ _ (by simpa using nda) ed
    have v1 := va.put hc2 hw
    walk_at "sts"
    refine r_dinT (f := V.str) (g := id) ed6 eu6 ?_
    cases hg : getA m c with
    | none =>
      rw [show id (hasA m c) = false by unfold hasA; rw [hg]; rfl]
      walk_at "sts"
      exact qq D _ H6 k16 p6 nDH eD6 v1 (diff_of va v1 (c := c) (by rw [hg, getA_putA, if_pos rfl]; simp))
    | some w0 =>
      have iw0 := va.word _ (mem_getA hg)
      rw [show id (hasA m c) = true by unfold hasA; rw [hg]; rfl]
      walk_at "sts"
      refine ⟨D, _, rfl, dgetT (f := V.str) eD6 eu6 (by rw [getA_putA, if_pos rfl]), ?_⟩
      walk_at "sts"
      refine ⟨d, _, rfl, dgetT (f := V.str) ed6 eu6 hg, ?_⟩
      walk_at "sts"
      by_cases hww : wd = w0
      case neg =>
        rw [decide_eq_false hww]
        walk_at "sts"
        exact qq D _ H6 k16 p6 nDH eD6 v1 (diff_of va v1 (c := c) (by rw [hg, getA_putA, if_pos rfl]; exact fun e => hww (Option.some.inj e).symm))
      rw [decide_eq_true hww]
      walk_at "sts"
      intro q hq
      have k7 : Keep [] H6 (upd H6 q (.lst [V.str wR, V.str wM, V.str wU, V.str wR])) := Keep.new hq
      have eq : upd H6 q (.lst [V.str wR, V.str wM, V.str wU, V.str wR]) q = some (.lst [V.str wR, V.str wM, V.str wU, V.str wR]) := upd_same
      have p7 := p6.keep0 k7
      have eD7 := k7 _ _ (by simp) eD6
      have eu7 := k7 _ _ (by simp) eu6
      have k17 := k16.trans (k7.mono (by simp))
      rw [show (HO.lst [V.str (Str.ofString "reached"), V.str (Str.ofString "missed"), V.str (Str.ofString "unsure"), V.str (Str.ofString "reached")]) = HO.lst [V.str wR, V.str wM, V.str wU, V.str wR] from rfl]
      generalize upd H6 q (.lst [V.str wR, V.str wM, V.str wU, V.str wR]) = H7 at k7 eq p7 eD7 eu7 k17 ⊢
      have ed7 : EndsAt H7 d m := k17 _ _ (by simpa using nda) ed
      walk_at "sts"
      refine ⟨d, _, rfl, dgetT (f := V.str) ed7 eu7 hg, ?_⟩
      walk_at "sts"
      refine index_w iw0 eq fun j hj hn => ?_
      walk_at "sts"
      have e7 : H7 D = some (.dT (kvG V.str (putA m c wd))) := eD7
      refine r_dputT e7 eu7 (lt_size (by rw [len_kvG]; have := v1.len; omega)) ?_
      rw [put_kvG]
      have iw2 := nextW_ne iw0
      have k18 := k17.mut (o := .dT (kvG V.str (putA (putA m c wd) c (nextW w0)))) nDH
      have p8 := p7.put (o := .dT (kvG V.str (putA (putA m c wd) c (nextW w0)))) nDa
      have e8 : EndsAt (upd H7 D (.dT (kvG V.str (putA (putA m c wd) c (nextW w0))))) D (putA (putA m c wd) c (nextW w0)) := upd_same
      have v2 := v1.put hc2 iw2.2
      walk_at "sts"
      exact qq D _ _ k18 p8 nDH e8 v2 (diff_of va v2 (c := c) (by rw [hg, getA_putA, if_pos rfl]; exact fun e => iw2.1 (Option.some.inj e).symm))
end
/-! ### tables made -/
open Tab (Rn cnt)
theorem r_newTable {C : Addr} {H : Hp} {d : Addr} {L : Nat} {m : Ends} {Q : Hp → Prop} {E : XK} {x dx : Addr} (hx : H x = none) (hdx : H dx = none) (ne : dx ≠ x) (ed : EndsAt H d m) (va : Valid L m) (k : ∀ H', Keep [] H H' → TableAt C H' x L m → (∀ D, H D ≠ none → D ≠ x → TableAt C (upd H' D (.dT [])) x L m) → Q H') :
    spInit C [.ref x, .int L, .ref d] (upd (upd H dx (.own x)) x (.ins C dx [])) (fun v H2 => v = .non ∧ Q H2) E := by
  have k1 : Keep [] H (upd (upd H dx (.own x)) x (.ins C dx [])) := (Keep.new hdx).trans (Keep.new (by rw [upd_ne (Ne.symm ne)]; exact hx))
  refine ⟨x, dx, d, L, m, rfl, upd_same, k1 _ _ (by simp) ed, va, fun H' D0 k2 ex eD nD => ⟨rfl, k H' (k1.dropNew k2 hx) ⟨dx, D0, ex, eD⟩ fun D hD nx => ⟨dx, D0, by rw [upd_ne (Ne.symm nx)]; exact ex, ?_⟩⟩⟩
  have nD0 : H D0 = none := k1.free (by simp) nD
  have ne2 : D0 ≠ D := by rintro rfl; exact hD nD0
  show upd H' D (.dT []) D0 = _
  rw [upd_ne ne2]; exact eD
theorem Valid.wider {L : Nat} {m : Ends} (h : Valid L m) (l : L < 12) : Valid (L + 1) m :=
  ⟨by omega, by omega, h.nd, fun p hp => by have := h.key p hp; refine ⟨this.1, this.2.1, this.2.2.1, ?_⟩; have := this.2.2.2; omega, h.word, h.len, fun c hc => by
    obtain ⟨d, hd, e, _⟩ := hc
    rw [h.gap d hd] at e; cases e⟩
theorem same_perms {m n l : Ends} (nd : (m.map (·.1)).Nodup) (p : n.Perm m) (q : l.Perm m) : sameB n l = true := by
  rw [sameB_iff (nodup_perm nd p) (nodup_perm nd q)]
  intro c
  rw [getA_perm nd p, getA_perm nd q]
theorem diff_perm {m n l : Ends} (nd : (m.map (·.1)).Nodup) (nl : (l.map (·.1)).Nodup) (p : n.Perm m) (h : sameB m l = false) : sameB n l = false ∧ sameB l n = false := by
  have np := nodup_perm nd p
  have g : ¬ ∀ c, getA m c = getA l c := fun z => by rw [(sameB_iff nd nl).mpr z] at h; cases h
  constructor
  · cases e : sameB n l with
    | false => rfl
    | true => exact (g fun c => by rw [← getA_perm nd p]; exact (sameB_iff np nl).mp e c).elim
  · cases e : sameB l n with
    | false => rfl
    | true => exact (g fun c => by rw [← getA_perm nd p]; exact ((sameB_iff nl np).mp e c).symm).elim
def spMakes : Sp := fun vs H Q _ => ∃ (a : Addr) (L : Nat) (d : Addr) (m : Ends), vs = [.ref a, .int L, .ref d] ∧ BoxAt a H ∧ EndsAt H d m ∧ Valid L m ∧ ∀ H', Keep [a] H H' → Q (.bl true) H'
section
variable {w : World} {K : PySem.W.Frag} {mg : Str → Option Value} {base : Heap}
theorem ok_makes (T : Tx K mg) (G_w_strings : FnOk PG w K mg base CX0 2 T.f_w_strings T.fd_w_strings ["_law_box_here", "_law_limit_here"] spStrings) (G_w_take : FnOk PG w K mg base CX0 1 T.f_w_take T.fd_w_take ["_law_box_here", "_law_size"] spDr)
    (G_w_turned : FnOk PG w K mg base CX0 1 T.f_w_turned T.fd_w_turned ["_law_ends", "_law_turned_here"] spTurned) (G_Table___init : FnOk PG w K mg base CX0 2 T.f_Table___init T.fd_Table___init ["self", "limit", "ends"] (spInit T.C_Table))
    (G_w_changed : FnOk PG w K mg base CX0 3 T.f_w_changed T.fd_w_changed ["_law_box_here", "_law_limit_here", "_law_ends"] spChanged) (G_w_copy : FnOk PG w K mg base CX0 1 T.f_w_copy T.fd_w_copy ["_law_ends"] spCopy)
    (G_w_keeps : FnOk PG w K mg base CX0 4 T.f_w_keeps T.fd_w_keeps ["_law_table", "_law_limit_here", "_law_ends", "_law_strings_here"] (spKeeps T.C_Table)) (G_Table___eq : FnOk PG w K mg base CX0 1 T.f_Table___eq T.fd_Table___eq ["self", "other"] (spEq T.C_Table)) :
    FnOk PG w K mg base CX0 5 T.f_w_makes T.fd_w_makes ["_law_box_here", "_law_limit_here", "_law_ends"] spMakes := by
  refine T.F_w_makes.ok sc_w_makes (fun vs H Q E h => ?_) (fun cdv A outer s H vs Q E hr h => ?_)
  · obtain ⟨a, L, d, m, rfl, _⟩ := h; rfl
  · obtain ⟨a, L, d, m, rfl, hb, ed, va, qq⟩ := h
    have l2 := va.l2
    have nda := hb.ned ed
    refine ⟨_, (pss_cons (ps_set (i := 3) sc_w_makes.nd rfl (Or.inl rfl) (pe_call G_w_strings (hr.mono (by decide)) rfl T.g_w_strings T.F_w_strings.kp T.b_w_strings .nil pass0 (pa_cons (pv 0) (pa_cons (pv 1) pa_nil))))
    (pss_cons (ps_set (i := 4) sc_w_makes.nd rfl (Or.inl rfl) (pe_cmpR op_eq (pe_call G_w_take (hr.mono (by decide)) rfl T.g_w_take T.F_w_take.kp T.b_w_take .nil pass0 (pa_cons (pv 0) (pa_cons pe_int pa_nil))) pe_int (nomark _)))
    (pss_cons (ps_set (i := 5) sc_w_makes.nd rfl (Or.inl rfl) (pe_call G_w_turned (hr.mono (by decide)) rfl T.g_w_turned T.F_w_turned.kp T.b_w_turned .nil pass0 (pa_cons (pv 2) (pa_cons (pv 4) pa_nil))))
    (pss_cons (ps_set (i := 6) sc_w_makes.nd rfl (Or.inl rfl) (pe_make T.mk_Table G_Table___init (hr.mono (by decide)) rfl T.gC_Table T.b_Table___init .nil pass0 (pa_cons (pv 1) (pa_cons (pv 5) pa_nil))))
    (pss_cons (ps_if (pt_cmpR (Dt.op_neM (Nat.lt_of_le_of_lt (Nat.add_le_add_left (by decide : 1 ≤ 64) _) hr.units)) (pv 5) (pv 2) (nomark _))
    (pss_one (ps_ret pe_bl))
    pss_nil)
    (pss_cons (ps_expr (Dt.pe_dclearT (pv 5)))
    (pss_cons (ps_set (i := 7) sc_w_makes.nd rfl (Or.inl rfl) (pe_call G_w_changed (hr.mono (by decide)) rfl T.g_w_changed T.F_w_changed.kp T.b_w_changed .nil pass0 (pa_cons (pv 0) (pa_cons (pv 1) (pa_cons (pv 2) pa_nil)))))
    (pss_cons (ps_set (i := 8) sc_w_makes.nd rfl (Or.inl rfl) (pe_make T.mk_Table G_Table___init (hr.mono (by decide)) rfl T.gC_Table T.b_Table___init .nil pass0 (pa_cons (pv 1) (pa_cons (pe_call G_w_copy (hr.mono (by decide)) rfl T.g_w_copy T.F_w_copy.kp T.b_w_copy .nil pass0 (pa_cons (pv 7) pa_nil)) pa_nil))))
    (pss_cons (ps_set (i := 9) sc_w_makes.nd rfl (Or.inl rfl) (pe_make T.mk_Table G_Table___init (hr.mono (by decide)) rfl T.gC_Table T.b_Table___init .nil pass0 (pa_cons (pv 1) (pa_cons (pe_call G_w_turned (hr.mono (by decide)) rfl T.g_w_turned T.F_w_turned.kp T.b_w_turned .nil pass0 (pa_cons (pv 2) (pa_cons (pe_not (pv 4)) pa_nil))) pa_nil))))
    (pss_cons (ps_if (PW.pt (pw_or (pt_not (pt_val (pe_call G_w_keeps (hr.mono (by decide)) rfl T.g_w_keeps T.F_w_keeps.kp T.b_w_keeps .nil pass0 (pa_cons (pv 6) (pa_cons (pv 1) (pa_cons (pv 2) (pa_cons (pv 3) pa_nil))))))) (pw_or1 (pt_not (pt_val (pe_call G_w_keeps (hr.mono (by decide)) rfl T.g_w_keeps T.F_w_keeps.kp T.b_w_keeps .nil pass0 (pa_cons (pv 8) (pa_cons (pv 1) (pa_cons (pv 7) (pa_cons (pv 3) pa_nil))))))))))
    (pss_one (ps_ret pe_bl))
    pss_nil)
    (pss_cons (ps_if (PW.pt (pw_or (pt_not (pt_cmpR (Ow.op_ownEq T.me_Table___eq (G_Table___eq.raw T.b_Table___eq .nil) (hr.mono (by decide)) pass0 hr.units0) (pv 6) (pv 9) (nomark _))) (pw_or (pt_not (pt_cmpR (Ow.op_ownEq T.me_Table___eq (G_Table___eq.raw T.b_Table___eq .nil) (hr.mono (by decide)) pass0 hr.units0) (pv 9) (pv 6) (nomark _))) (pw_or1 (pt_cmpR (Ow.op_ownNe T.me_Table___eq T.ne_Table T.oc_Table.cm (G_Table___eq.raw T.b_Table___eq .nil) (hr.mono (by decide)) pass0 hr.units0) (pv 6) (pv 9) (nomark _))))))
    (pss_one (ps_ret pe_bl))
    pss_nil)
    (pss_cons (ps_if (PW.pt (pw_or (pt_cmpR (Ow.op_ownEq T.me_Table___eq (G_Table___eq.raw T.b_Table___eq .nil) (hr.mono (by decide)) pass0 hr.units0) (pv 6) (pv 8) (nomark _)) (pw_or (pt_cmpR (Ow.op_ownEq T.me_Table___eq (G_Table___eq.raw T.b_Table___eq .nil) (hr.mono (by decide)) pass0 hr.units0) (pv 8) (pv 6) (nomark _)) (pw_or1 (pt_not (pt_cmpR (Ow.op_ownNe T.me_Table___eq T.ne_Table T.oc_Table.cm (G_Table___eq.raw T.b_Table___eq .nil) (hr.mono (by decide)) pass0 hr.units0) (pv 6) (pv 8) (nomark _)))))))
    (pss_one (ps_ret pe_bl))
    pss_nil)
    (pss_cons (ps_if (pt_cmpR op_lt (pv 1) pe_int (nomark _))
    (pss_cons (ps_set (i := 10) sc_w_makes.nd rfl (Or.inl rfl) (pe_make T.mk_Table G_Table___init (hr.mono (by decide)) rfl T.gC_Table T.b_Table___init .nil pass0 (pa_cons (pe_op op_add (pv 1) pe_int) (pa_cons (pe_call G_w_copy (hr.mono (by decide)) rfl T.g_w_copy T.F_w_copy.kp T.b_w_copy .nil pass0 (pa_cons (pv 2) pa_nil)) pa_nil))))
    (pss_one (ps_if (PW.pt (pw_or (pt_cmpR (Ow.op_ownEq T.me_Table___eq (G_Table___eq.raw T.b_Table___eq .nil) (hr.mono (by decide)) pass0 hr.units0) (pv 10) (pv 6) (nomark _)) (pw_or (pt_cmpR (Ow.op_ownEq T.me_Table___eq (G_Table___eq.raw T.b_Table___eq .nil) (hr.mono (by decide)) pass0 hr.units0) (pv 6) (pv 10) (nomark _)) (pw_or1 (pt_not (pt_val (pe_call G_w_keeps (hr.mono (by decide)) rfl T.g_w_keeps T.F_w_keeps.kp T.b_w_keeps .nil pass0 (pa_cons (pv 10) (pa_cons (pe_op op_add (pv 1) pe_int) (pa_cons (pv 2) (pa_cons (pv 3) pa_nil)))))))))))
    (pss_one (ps_ret pe_bl))
    pss_nil)))
    pss_nil)
    (pss_one (ps_ret (pe_and (pe_call G_w_keeps (hr.mono (by decide)) rfl T.g_w_keeps T.F_w_keeps.kp T.b_w_keeps .nil pass0 (pa_cons (pv 6) (pa_cons (pv 1) (pa_cons (pv 2) (pa_cons (pv 3) pa_nil))))) (pe_one (pe_call G_w_keeps (hr.mono (by decide)) rfl T.g_w_keeps T.F_w_keeps.kp T.b_w_keeps .nil pass0 (pa_cons (pv 9) (pa_cons (pv 1) (pa_cons (pv 2) (pa_cons (pv 3) pa_nil)))))))))))))))))))))), ?_⟩
    walk_at "start"
    walk_at "sts"
    refine ⟨a, L, rfl, hb, l2, fun q ss H1 k1 p1 nq eq hss lss => ?_⟩
    have nqa := hb.ne nq
    walk_at "sts"
    refine r_dr p1 (by decide) (by decide) fun t H2 a2 b2 k2 p2 => ?_
    have k12 := k1.trans k2
    have eq2 := k2 _ _ (by simpa using nqa) eq
    have ed2 : EndsAt H2 d m := k12 _ _ (by simpa using nda) ed
    clear k1 k2 p1 eq
    walk_at "sts"
    refine ⟨d, _, m, rfl, ed2, va.nd, va.len, fun D m1 H3 k3 nD eD pm1 => ?_⟩
    have va1 := va.perm pm1
    have k13 := k12.trans (k3.mono (by simp))
    have p3 := p2.keep0 k3
    have eq3 := k3 _ _ (by simp) eq2
    have nDa := p2.ne nD
    have nDH : H D = none := k12.free (by simpa using nDa) nD
    walk_at "sts"
    intro x dx hx hdx ne
    refine r_newTable hx hdx ne eD va1 fun H4 k4 _ clr => ?_
    have k14 := k13.trans (k4.mono (by simp))
    have p4 := p3.keep0 k4
    have eq4 := k4 _ _ (by simp) eq3
    have eD4 : H4 D = some (.dT (kvG V.str m1)) := k4 _ _ (by simp) eD
    have ed4 : H4 d = some (.dT (kvG V.str m)) := k14 _ _ (by simpa using nda) ed
    have nDq : D ≠ q := by rintro rfl; cases (nD.symm.trans eq2)
    have nDn : H3 D ≠ none := by rw [show H3 D = _ from eD]; simp
    have nDx : D ≠ x := by rintro rfl; cases (hx.symm.trans eD)
    clear k12 k3 k13 p2 p3 eq2 eq3 ed2 eD hx hdx ne k4
    walk_at "sts"
    refine r_neM (.inl eD4) (.inl ed4) ?_
    rw [same_perm va.nd pm1]
    walk_at "sts"
    refine r_bm0 ?_
    walk_at "sts"
    refine ⟨?ty, D, _, rfl, rfl, eD4, ?_⟩
    case ty => exact .inr (.inr (.inl ⟨rfl, .inr ⟨_, eD4⟩⟩))
    have tax := clr D nDn nDx
    have k15 : Keep [a] H (upd H4 D (.dT [])) := k14.mut nDH
    have p5 := p4.put (o := .dT []) nDa
    have eq5 : upd H4 D (.dT []) q = some (.lst (ss.map sV)) := by rw [upd_ne (Ne.symm nDq)]; exact eq4
    have ndH5 : H d ≠ none := by rw [show H d = _ from ed]; simp
    generalize upd H4 D (.dT []) = H5 at tax k15 p5 eq5 ⊢
    clear eD4 eq4 p4 k14 clr ed4
    have ed5 : EndsAt H5 d m := k15 _ _ (by simpa using nda) ed
    walk_at "sts"
    refine ⟨a, L, d, m, rfl, p5, ed5, va, fun C m' H6 k6 p6 nC eC va' df => ?_⟩
    have eq6 := k6 _ _ (by simpa using nqa) eq5
    have k16 := k15.trans k6
    obtain ⟨dx5, dd5, ex5, edx5⟩ := id tax
    have nxa : x ≠ a := by rintro rfl; obtain ⟨_, _, _, e, _⟩ := p5; cases (e.symm.trans ex5)
    have ndd5 : dd5 ≠ a := p5.ned edx5
    have tax6 : TableAt T.C_Table H6 x L m1 := ⟨dx5, dd5, k6 _ _ (by simpa using nxa) ex5, k6 _ _ (by simpa using ndd5) edx5⟩
    clear k15 k6 tax ex5 edx5 p5 eq5 ed5
    walk_at "sts"
    refine ⟨C, m', rfl, eC, va'.nd, va'.len, fun C2 H7 k7 nC2 eC2 => ?_⟩
    walk_at "sts"
    intro y dy hy hdy ney
    refine r_newTable hy hdy ney eC2 va' fun H8 k8 tay _ => ?_
    have k68 := k7.trans k8
    have k18 := k16.trans (k68.mono (by simp))
    have eq8 := k68 _ _ (by simp) eq6
    have eC8 : EndsAt H8 C m' := k68 _ _ (by simp) eC
    have tax8 := tax6.keep0 k68
    have ed8 : EndsAt H8 d m := k18 _ _ (by simpa using nda) ed
    clear k16 k7 k8 k68 hy hdy eC2 nC2 tax6 eq6 eC p6
    walk_at "sts"
    refine ⟨d, _, m, rfl, ed8, va.nd, va.len, fun D2 m2 H9 k9 nD2 eD2 pm2 => ?_⟩
    have va2 := va.perm pm2
    walk_at "sts"
    intro z dz hz hdz nez
    refine r_newTable hz hdz nez eD2 va2 fun H10 k10 taz _ => ?_
    have k810 := k9.trans k10
    have k110 := k18.trans (k810.mono (by simp))
    have eq10 := k810 _ _ (by simp) eq8
    have eC10 : EndsAt H10 C m' := k810 _ _ (by simp) eC8
    have tax10 := tax8.keep0 k810
    have tay10 := tay.keep0 k810
    have ed10 : EndsAt H10 d m := k810 _ _ (by simp) ed8
    clear k18 k9 k10 k810 hz hdz eD2 nD2 tax8 tay eq8 eC8 ed8
    walk_at "sts"
    refine ⟨x, d, q, L, m1, m, ss, rfl, tax10, ed10, va, pm1, eq10, hss, lss, fun H11 k11 => ?_⟩
    walk_at "sts"
    refine ⟨y, C, q, L, m', m', ss, rfl, tay10.keep0 k11, k11 _ _ (by simp) eC10, va', .refl _, k11 _ _ (by simp) eq10, hss, lss, fun H12 k12 => ?_⟩
    have k1012 := k11.trans k12
    have k112 := k110.trans (k1012.mono (by simp))
    have eq12 := k1012 _ _ (by simp) eq10
    have tax12 := tax10.keep0 k1012
    have tay12 := tay10.keep0 k1012
    have taz12 := taz.keep0 k1012
    have ed12 : EndsAt H12 d m := k1012 _ _ (by simp) ed10
    clear k110 k11 k12 k1012 eq10 tax10 tay10 taz ed10 eC10
    obtain ⟨dx12, ddx, ex12, _⟩ := id tax12
    obtain ⟨dy12, ddy, ey12, _⟩ := id tay12
    obtain ⟨dz12, ddz, ez12, _⟩ := id taz12
    have s12 : sameB m1 m2 = true := same_perms va.nd pm1 pm2
    have s21 : sameB m2 m1 = true := same_perms va.nd pm2 pm1
    obtain ⟨n1, n2⟩ := diff_perm va.nd va'.nd pm1 df
    have tru : (decide (L = L) && true) = true := by simp
    have fls : (decide (L = L) && false) = false := by simp
    walk_at "sts"
    refine Ow.r_own2 ex12 ez12 ⟨x, z, L, L, m1, m2, rfl, tax12, taz12, ?_⟩
    rw [s12, tru]
    walk_at "sts"
    refine Ow.r_own2 ez12 ex12 ⟨z, x, L, L, m2, m1, rfl, taz12, tax12, ?_⟩
    rw [s21, tru]
    walk_at "sts"
    refine Ow.r_ownNe ex12 ez12 ⟨x, z, L, L, m1, m2, rfl, tax12, taz12, ?_⟩
    rw [s12, tru]
    refine ⟨true, rfl, ?_⟩
    walk_at "sts"
    refine Ow.r_own2 ex12 ey12 ⟨x, y, L, L, m1, m', rfl, tax12, tay12, ?_⟩
    rw [n1, fls]
    walk_at "sts"
    refine Ow.r_own2 ey12 ex12 ⟨y, x, L, L, m', m1, rfl, tay12, tax12, ?_⟩
    rw [n2, fls]
    walk_at "sts"
    refine Ow.r_ownNe ex12 ey12 ⟨x, y, L, L, m1, m', rfl, tax12, tay12, ?_⟩
    rw [n1, fls]
    refine ⟨false, rfl, ?_⟩
    walk_at "sts"
    rw [if_neg (show ¬ (!!false) = true by decide)]
    walk_at "sts"
    refine r_ite (fun c1 => ?_) (fun c1 => ?_)
    case refine_2 =>
      have k13 : Keep [] H12 H12 := Keep.refl _ _
      walk_at "sts"
      refine ⟨x, d, q, L, m1, m, ss, rfl, tax12.keep0 k13, k13 _ _ (by simp) ed12, va, pm1, k13 _ _ (by simp) eq12, hss, lss, fun H24 k24 => ?_⟩
      have k1224 := k13.trans k24
      walk_at "sts"
      refine ⟨z, d, q, L, m2, m, ss, rfl, taz12.keep0 k1224, k1224 _ _ (by simp) ed12, va, pm2, k1224 _ _ (by simp) eq12, hss, lss, fun H25 k25 => ?_⟩
      exact qq H25 (k112.trans ((k1224.trans k25).mono (by simp)))
    have wi := va.wider (by omega)
    walk_at "sts"
    refine ⟨d, m, rfl, ed12, va.nd, va.len, fun D3 H13 k13 nD3 eD3 => ?_⟩
    walk_at "sts"
    intro v dv hv hdv nev
    rw [show ((L : Int) + 1) = ((L + 1 : Nat) : Int) by omega]
    refine r_newTable hv hdv nev eD3 wi fun H14 k14 tav _ => ?_
    have k1214 := k13.trans k14
    have tax14 := tax12.keep0 k1214
    have eq14 := k1214 _ _ (by simp) eq12
    have ed14 : EndsAt H14 d m := k1214 _ _ (by simp) ed12
    obtain ⟨dv14, ddv, ev14, _⟩ := id tav
    obtain ⟨dx14, ddx, ex14, _⟩ := id tax14
    have fl1 : ∀ b, (decide (L + 1 = L) && b) = false := fun b => by simp
    have fl2 : ∀ b, (decide (L = L + 1) && b) = false := fun b => by simp
    walk_at "sts"
    refine Ow.r_own2 ev14 ex14 ⟨v, x, L + 1, L, m, m1, rfl, tav, tax14, ?_⟩
    rw [fl1]
    walk_at "sts"
    refine Ow.r_own2 ex14 ev14 ⟨x, v, L, L + 1, m1, m, rfl, tax14, tav, ?_⟩
    rw [fl2]
    walk_at "sts"
    refine ⟨v, d, q, L + 1, m, m, ss, by first | exact rfl | trivial, tav, ed14, wi, .refl _, eq14, hss, lss, fun H15 k15 => ?_⟩
    have k13 : Keep [] H12 H15 := k1214.trans k15
    walk_at "sts"
    refine ⟨x, d, q, L, m1, m, ss, rfl, tax12.keep0 k13, k13 _ _ (by simp) ed12, va, pm1, k13 _ _ (by simp) eq12, hss, lss, fun H24 k24 => ?_⟩
    have k1224 := k13.trans k24
    walk_at "sts"
    refine ⟨z, d, q, L, m2, m, ss, rfl, taz12.keep0 k1224, k1224 _ _ (by simp) ed12, va, pm2, k1224 _ _ (by simp) eq12, hss, lss, fun H25 k25 => ?_⟩
    exact qq H25 (k112.trans ((k1224.trans k25).mono (by simp)))
end
/-! ### the law -/
open Tab (Rn cnt)
def spLaw (K : PySem.W.Frag) : Sp := fun vs H Q _ => ∃ (p : Addr) (ns : List Int), vs = [.ref p] ∧ SqL K H p (ns.map V.int) ∧ ns.length ≤ 63 ∧ ∀ H', Q (.bl true) H'
section
variable {P : Program} {w : World} {K : PySem.W.Frag} {mg : Str → Option Value} {base : Heap}
theorem ok_law (T : Tx K mg) (G_w_box : FnOk P w K mg base CX0 1 T.f_w_box T.fd_w_box ["_law_script", "_law_place"] (spBox K)) (G_w_limit : FnOk P w K mg base CX0 2 T.f_w_limit T.fd_w_limit ["_law_box_here"] spLimit)
    (G_w_entries : FnOk P w K mg base CX0 3 T.f_w_entries T.fd_w_entries ["_law_box_here", "_law_limit_here"] spEntries)
    (G_w_filled : FnOk P w K mg base CX0 3 T.f_w_filled T.fd_w_filled ["_law_box_here", "_law_limit_here", "_law_ends"] spFilled)
    (G_w_refuses : FnOk P w K mg base CX0 5 T.f_w_refuses T.fd_w_refuses ["_law_box_here", "_law_limit_here", "_law_ends"] spRefuses)
    (G_w_makes : FnOk P w K mg base CX0 5 T.f_w_makes T.fd_w_makes ["_law_box_here", "_law_limit_here", "_law_ends"] spMakes) :
    FnOk P w K mg base CX0 6 T.f_law T.fd_law ["_law_script"] (spLaw K) := by
  refine T.F_law.ok sc_law (fun vs H Q E h => ?_) (fun cdv A outer s H vs Q E hr h => ?_)
  · obtain ⟨p, ns, rfl, _⟩ := h; rfl
  · obtain ⟨p, ns, rfl, hp, hn, qq⟩ := h
    refine ⟨_, (pss_cons (ps_set (i := 1) sc_law.nd rfl (Or.inl rfl) (pe_call G_w_box (hr.mono (by decide)) rfl T.g_w_box T.F_w_box.kp T.b_w_box .nil pass0 (pa_cons (pv 0) (pa_cons pe_int pa_nil))))
    (pss_cons (ps_set (i := 2) sc_law.nd rfl (Or.inl rfl) (pe_call G_w_limit (hr.mono (by decide)) rfl T.g_w_limit T.F_w_limit.kp T.b_w_limit .nil pass0 (pa_cons (pv 1) pa_nil)))
    (pss_cons (ps_set (i := 3) sc_law.nd rfl (Or.inl rfl) (pe_call G_w_filled (hr.mono (by decide)) rfl T.g_w_filled T.F_w_filled.kp T.b_w_filled .nil pass0 (pa_cons (pv 1) (pa_cons (pv 2) (pa_cons (pe_call G_w_entries (hr.mono (by decide)) rfl T.g_w_entries T.F_w_entries.kp T.b_w_entries .nil pass0 (pa_cons (pv 1) (pa_cons (pv 2) pa_nil))) pa_nil)))))
    (pss_cons (ps_if (pt_not (pt_val (pe_call G_w_refuses (hr.mono (by decide)) rfl T.g_w_refuses T.F_w_refuses.kp T.b_w_refuses .nil pass0 (pa_cons (pv 1) (pa_cons (pv 2) (pa_cons (pv 3) pa_nil))))))
    (pss_one (ps_ret pe_bl))
    pss_nil)
    (pss_one (ps_ret (pe_call G_w_makes (hr.mono (by decide)) rfl T.g_w_makes T.F_w_makes.kp T.b_w_makes .nil pass0 (pa_cons (pe_call G_w_box (hr.mono (by decide)) rfl T.g_w_box T.F_w_box.kp T.b_w_box .nil pass0 (pa_cons (pv 0) (pa_cons pe_int pa_nil))) (pa_cons (pv 2) (pa_cons (pv 3) pa_nil)))))))))), ?_⟩
    walk_at "start"
    walk_at "sts"
    refine ⟨p, ns, 0, rfl, hp, hn, by omega, fun a H1 k1 na b1 => ?_⟩
    walk_at "sts"
    refine ⟨a, rfl, b1, fun L H2 l1 l2 k2 b2 => ?_⟩
    walk_at "sts"
    refine ⟨a, L, rfl, b2, l1, l2, fun D4 m4 H4 k4 b4 nD4 e4 pr4 lm4 => ?_⟩
    walk_at "sts"
    refine ⟨a, L, D4, m4, rfl, b4, e4, pr4, lm4, l1, l2, fun D m H5 k5 b5 nD5 e5 va => ?_⟩
    have k25 := k2.trans (k4.trans k5)
    walk_at "sts"
    refine ⟨a, L, D, m, rfl, b5, e5, va, fun H6 k6 => ?_⟩
    have k26 := k25.trans k6
    have kH6 : Keep [] H H6 := k1.dropNew k26 na
    have e6 : EndsAt H6 D m := k6 _ _ (by simpa using b5.ned e5) e5
    walk_at "sts"
    refine ⟨p, ns, 1, rfl, Keep.l kH6 (by simp) hp, hn, by omega, fun a2 H7 k7 na2 b7 => ?_⟩
    walk_at "sts"
    exact ⟨a2, L, D, m, rfl, b7, k7 _ _ (by simp) e6, va, fun H8 _ => qq H8⟩
end
/-! ### the end -/
theorem law_of {w : World} {K : PySem.W.Frag} {mg : Str → Option Value} {base : Heap} (T : Tx K mg) : FnOk PG w K mg base CX0 6 T.f_law T.fd_law ["_law_script"] (spLaw K) := by
  have gcm := ok_counts (w := w) (base := base) (P := PG) T
  have gin := ok_init T gcm
  have gix := ok_initX T gcm
  have gen := ok_ends (w := w) (base := base) (P := PG) T
  have gst := ok_stops T gcm
  have gwx := ok_wordX (w := w) (base := base) T
  have geq := ok_eq (w := w) (base := base) (P := PG) T
  have gt := ok_take (w := w) (base := base) (P := PG) T
  have gii := ok_isInt (w := w) (base := base) (P := PG) T
  have gwo := ok_word T gt
  have gco := ok_copy (w := w) (base := base) (P := PG) T
  have gtu := ok_turned (w := w) (base := base) (P := PG) T
  have gme := ok_met T (ok_step (w := w) (base := base) (P := PG) T)
  have gfi := ok_filled T gco gme gwo
  have gfa := ok_fault T gme
  have gbe := ok_bad_ends T gt gco gme (ok_bad_count T gt) gwo
  have gcr := ok_creation T gix
  have gre := ok_refuses T gt (ok_flags T gt) gbe (ok_bad_limit T gt) gfa gtu gcr
  have gan := ok_answer T gwx
  have gdu := ok_due (w := w) (base := base) (P := PG) T
  have gpa := ok_paths T gme
  have gss := ok_strings T gt
  have gdr := ok_dict_right T gii
  have glr := ok_list_right T gii
  have gte := ok_tells T gme gen gst gdr glr
  have gke := ok_keeps T gii gte gpa gan gdu
  have gch := ok_changed T gt gco gwo
  have gma := ok_makes T gss gt gtu gin gch gco gke geq
  exact ok_law T (ok_box (w := w) (base := base) (P := PG) T) (ok_limit T gt) (ok_entries T gt gwo) gfi gre gma
theorem all_mk {w : World} {K : PySem.W.Frag} {h : Heap} {mg : Str → Option Value} {fa : Addr} (X : K.In h) (G : h.Ns mainGlobals mg) (hfa : mg "law" = some (.ref fa))
    {C_Table : Addr} {f0 : Addr} {od0 an0 : Option Addr} {sl0 : Array (Option Value)} {oc0 kV0 dc0 pm0 cd0 ct0 : Value} {f1 : Addr} {od1 an1 : Option Addr} {sl1 : Array (Option Value)} {oc1 kV1 dc1 pm1 cd1 ct1 : Value} {f2 : Addr} {od2 an2 : Option Addr} {sl2 : Array (Option Value)} {oc2 kV2 dc2 pm2 cd2 ct2 : Value} {f3 : Addr} {od3 an3 : Option Addr} {sl3 : Array (Option Value)} {oc3 kV3 dc3 pm3 cd3 ct3 : Value} {f4 : Addr} {od4 an4 : Option Addr} {sl4 : Array (Option Value)} {oc4 kV4 dc4 pm4 cd4 ct4 : Value} {f5 : Addr} {od5 an5 : Option Addr} {sl5 : Array (Option Value)} {oc5 kV5 dc5 pm5 cd5 ct5 : Value} {f6 : Addr} {od6 an6 : Option Addr} {sl6 : Array (Option Value)} {oc6 kV6 dc6 pm6 cd6 ct6 : Value} {f7 : Addr} {od7 an7 : Option Addr} {sl7 : Array (Option Value)} {oc7 kV7 dc7 pm7 cd7 ct7 : Value} {f8 : Addr} {od8 an8 : Option Addr} {sl8 : Array (Option Value)} {oc8 kV8 dc8 pm8 cd8 ct8 : Value} {f9 : Addr} {od9 an9 : Option Addr} {sl9 : Array (Option Value)} {oc9 kV9 dc9 pm9 cd9 ct9 : Value} {f10 : Addr} {od10 an10 : Option Addr} {sl10 : Array (Option Value)} {oc10 kV10 dc10 pm10 cd10 ct10 : Value} {f11 : Addr} {od11 an11 : Option Addr} {sl11 : Array (Option Value)} {oc11 kV11 dc11 pm11 cd11 ct11 : Value} {f12 : Addr} {od12 an12 : Option Addr} {sl12 : Array (Option Value)} {oc12 kV12 dc12 pm12 cd12 ct12 : Value} {f13 : Addr} {od13 an13 : Option Addr} {sl13 : Array (Option Value)} {oc13 kV13 dc13 pm13 cd13 ct13 : Value} {f14 : Addr} {od14 an14 : Option Addr} {sl14 : Array (Option Value)} {oc14 kV14 dc14 pm14 cd14 ct14 : Value} {f15 : Addr} {od15 an15 : Option Addr} {sl15 : Array (Option Value)} {oc15 kV15 dc15 pm15 cd15 ct15 : Value} {f16 : Addr} {od16 an16 : Option Addr} {sl16 : Array (Option Value)} {oc16 kV16 dc16 pm16 cd16 ct16 : Value} {f17 : Addr} {od17 an17 : Option Addr} {sl17 : Array (Option Value)} {oc17 kV17 dc17 pm17 cd17 ct17 : Value} {f18 : Addr} {od18 an18 : Option Addr} {sl18 : Array (Option Value)} {oc18 kV18 dc18 pm18 cd18 ct18 : Value} {f19 : Addr} {od19 an19 : Option Addr} {sl19 : Array (Option Value)} {oc19 kV19 dc19 pm19 cd19 ct19 : Value} {f20 : Addr} {od20 an20 : Option Addr} {sl20 : Array (Option Value)} {oc20 kV20 dc20 pm20 cd20 ct20 : Value} {f21 : Addr} {od21 an21 : Option Addr} {sl21 : Array (Option Value)} {oc21 kV21 dc21 pm21 cd21 ct21 : Value} {f22 : Addr} {od22 an22 : Option Addr} {sl22 : Array (Option Value)} {oc22 kV22 dc22 pm22 cd22 ct22 : Value} {f23 : Addr} {od23 an23 : Option Addr} {sl23 : Array (Option Value)} {oc23 kV23 dc23 pm23 cd23 ct23 : Value} {f24 : Addr} {od24 an24 : Option Addr} {sl24 : Array (Option Value)} {oc24 kV24 dc24 pm24 cd24 ct24 : Value} {f25 : Addr} {od25 an25 : Option Addr} {sl25 : Array (Option Value)} {oc25 kV25 dc25 pm25 cd25 ct25 : Value} {f26 : Addr} {od26 an26 : Option Addr} {sl26 : Array (Option Value)} {oc26 kV26 dc26 pm26 cd26 ct26 : Value} {f27 : Addr} {od27 an27 : Option Addr} {sl27 : Array (Option Value)} {oc27 kV27 dc27 pm27 cd27 ct27 : Value} {f28 : Addr} {od28 an28 : Option Addr} {sl28 : Array (Option Value)} {oc28 kV28 dc28 pm28 cd28 ct28 : Value} {f29 : Addr} {od29 an29 : Option Addr} {sl29 : Array (Option Value)} {oc29 kV29 dc29 pm29 cd29 ct29 : Value} {f30 : Addr} {od30 an30 : Option Addr} {sl30 : Array (Option Value)} {oc30 kV30 dc30 pm30 cd30 ct30 : Value} {f31 : Addr} {od31 an31 : Option Addr} {sl31 : Array (Option Value)} {oc31 kV31 dc31 pm31 cd31 ct31 : Value} {f32 : Addr} {od32 an32 : Option Addr} {sl32 : Array (Option Value)} {oc32 kV32 dc32 pm32 cd32 ct32 : Value} {f33 : Addr} {od33 an33 : Option Addr} {sl33 : Array (Option Value)} {oc33 kV33 dc33 pm33 cd33 ct33 : Value} {f34 : Addr} {od34 an34 : Option Addr} {sl34 : Array (Option Value)} {oc34 kV34 dc34 pm34 cd34 ct34 : Value} {tc12 : Tok} {at13 : Addr} {oat13 : Option Addr} {nat13 : Nat} {sat13 : Array (Option Value)} {tt13_0 : Tok} {tt13_1 : Tok} {tt13_2 : Tok} {C_BadTable : Addr} {C_BadTries : Addr} {C_MeteError : Addr} {fE0 NE0 ccE0 cdaE0 : Addr} {nmE0 qE0 : Str} {bsE0 bmE0 : List Value} {snE0 : List Str} {subE0 : List Value} {abE0 : Bool} {colE0 : Option Bool} {ddE0 : Option Addr} {m0E0 m1E0 m2E0 m3E0 m5E0 : Option Value} {ocE0 docE0 pmE0 ctE0 clE0 cclE0 : Value} {odE0 anE0 cldE0 cddE0 : Option Addr} {oslE0 cslE0 ccsE0 : Array (Option Value)} {vsE0 : Array Value} {tfE0 : Tok} {fE1 NE1 ccE1 cdaE1 : Addr} {nmE1 qE1 : Str} {bsE1 bmE1 : List Value} {snE1 : List Str} {subE1 : List Value} {abE1 : Bool} {colE1 : Option Bool} {ddE1 : Option Addr} {m0E1 m1E1 m2E1 m3E1 m5E1 : Option Value} {ocE1 docE1 pmE1 ctE1 clE1 cclE1 : Value} {odE1 anE1 cldE1 cddE1 : Option Addr} {oslE1 cslE1 ccsE1 : Array (Option Value)} {vsE1 : Array Value} {tfE1 : Tok}
    (o0g : PySem.W.nsIn K mainGlobals "Table" = some (some (.ref C_Table)))
    (a0 : PySem.W.nsIn K mainGlobals "counts_met" = some (some (.ref f0)))
    (l0 : K.lookup f0 = some ⟨oc0, od0, .func (PySem.W.fnOf "counts_met" "counts_met" (defArgs s_counts_met) (defBody s_counts_met) (defScope s_counts_met) .none kV0 dc0 pm0 an0 cd0 ct0), sl0⟩)
    (c0 : PySem.W.codeIn K cd0 "counts_met" = true)
    (k0 : PySem.W.keepIn K (.ref f0) = true)
    (a1 : PySem.W.findIn K (.ref C_Table) "__init__" = some (some (.ref f1)))
    (l1 : K.lookup f1 = some ⟨oc1, od1, .func (PySem.W.fnOf "__init__" "Table.__init__" (defArgs s_Table___init) (defBody s_Table___init) (defScope s_Table___init) .none kV1 dc1 pm1 an1 cd1 ct1), sl1⟩)
    (c1 : PySem.W.codeIn K cd1 "Table.__init__" = true)
    (k1 : PySem.W.keepIn K (.ref f1) = true)
    (a2 : PySem.W.findIn K (.ref C_Table) "ends" = some (some (.ref f2)))
    (l2 : K.lookup f2 = some ⟨oc2, od2, .func (PySem.W.fnOf "ends" "Table.ends" (defArgs s_Table_ends) (defBody s_Table_ends) (defScope s_Table_ends) .none kV2 dc2 pm2 an2 cd2 ct2), sl2⟩)
    (c2 : PySem.W.codeIn K cd2 "Table.ends" = true)
    (k2 : PySem.W.keepIn K (.ref f2) = true)
    (a3 : PySem.W.findIn K (.ref C_Table) "word_after" = some (some (.ref f3)))
    (l3 : K.lookup f3 = some ⟨oc3, od3, .func (PySem.W.fnOf "word_after" "Table.word_after" (defArgs s_Table_word_after) (defBody s_Table_word_after) (defScope s_Table_word_after) .none kV3 dc3 pm3 an3 cd3 ct3), sl3⟩)
    (c3 : PySem.W.codeIn K cd3 "Table.word_after" = true)
    (k3 : PySem.W.keepIn K (.ref f3) = true)
    (a4 : PySem.W.findIn K (.ref C_Table) "stops" = some (some (.ref f4)))
    (l4 : K.lookup f4 = some ⟨oc4, od4, .func (PySem.W.fnOf "stops" "Table.stops" (defArgs s_Table_stops) (defBody s_Table_stops) (defScope s_Table_stops) .none kV4 dc4 pm4 an4 cd4 ct4), sl4⟩)
    (c4 : PySem.W.codeIn K cd4 "Table.stops" = true)
    (k4 : PySem.W.keepIn K (.ref f4) = true)
    (a5 : PySem.W.findIn K (.ref C_Table) "__eq__" = some (some (.ref f5)))
    (l5 : K.lookup f5 = some ⟨oc5, od5, .func (PySem.W.fnOf "__eq__" "Table.__eq__" (defArgs s_Table___eq) (defBody s_Table___eq) (defScope s_Table___eq) .none kV5 dc5 pm5 an5 cd5 ct5), sl5⟩)
    (c5 : PySem.W.codeIn K cd5 "Table.__eq__" = true)
    (k5 : PySem.W.keepIn K (.ref f5) = true)
    (a6 : PySem.W.nsIn K mainGlobals "_law_box" = some (some (.ref f6)))
    (l6 : K.lookup f6 = some ⟨oc6, od6, .func (PySem.W.fnOf "_law_box" "_law_box" (defArgs s_w_box) (defBody s_w_box) (defScope s_w_box) .none kV6 dc6 pm6 an6 cd6 ct6), sl6⟩)
    (c6 : PySem.W.codeIn K cd6 "_law_box" = true)
    (k6 : PySem.W.keepIn K (.ref f6) = true)
    (a7 : PySem.W.nsIn K mainGlobals "_law_take" = some (some (.ref f7)))
    (l7 : K.lookup f7 = some ⟨oc7, od7, .func (PySem.W.fnOf "_law_take" "_law_take" (defArgs s_w_take) (defBody s_w_take) (defScope s_w_take) .none kV7 dc7 pm7 an7 cd7 ct7), sl7⟩)
    (c7 : PySem.W.codeIn K cd7 "_law_take" = true)
    (k7 : PySem.W.keepIn K (.ref f7) = true)
    (a8 : PySem.W.nsIn K mainGlobals "_law_is_integer" = some (some (.ref f8)))
    (l8 : K.lookup f8 = some ⟨oc8, od8, .func (PySem.W.fnOf "_law_is_integer" "_law_is_integer" (defArgs s_w_is_integer) (defBody s_w_is_integer) (defScope s_w_is_integer) .none kV8 dc8 pm8 an8 cd8 ct8), sl8⟩)
    (c8 : PySem.W.codeIn K cd8 "_law_is_integer" = true)
    (k8 : PySem.W.keepIn K (.ref f8) = true)
    (a9 : PySem.W.nsIn K mainGlobals "_law_copy" = some (some (.ref f9)))
    (l9 : K.lookup f9 = some ⟨oc9, od9, .func (PySem.W.fnOf "_law_copy" "_law_copy" (defArgs s_w_copy) (defBody s_w_copy) (defScope s_w_copy) .none kV9 dc9 pm9 an9 cd9 ct9), sl9⟩)
    (c9 : PySem.W.codeIn K cd9 "_law_copy" = true)
    (k9 : PySem.W.keepIn K (.ref f9) = true)
    (a10 : PySem.W.nsIn K mainGlobals "_law_turned" = some (some (.ref f10)))
    (l10 : K.lookup f10 = some ⟨oc10, od10, .func (PySem.W.fnOf "_law_turned" "_law_turned" (defArgs s_w_turned) (defBody s_w_turned) (defScope s_w_turned) .none kV10 dc10 pm10 an10 cd10 ct10), sl10⟩)
    (c10 : PySem.W.codeIn K cd10 "_law_turned" = true)
    (k10 : PySem.W.keepIn K (.ref f10) = true)
    (a11 : PySem.W.nsIn K mainGlobals "_law_limit" = some (some (.ref f11)))
    (l11 : K.lookup f11 = some ⟨oc11, od11, .func (PySem.W.fnOf "_law_limit" "_law_limit" (defArgs s_w_limit) (defBody s_w_limit) (defScope s_w_limit) .none kV11 dc11 pm11 an11 cd11 ct11), sl11⟩)
    (c11 : PySem.W.codeIn K cd11 "_law_limit" = true)
    (k11 : PySem.W.keepIn K (.ref f11) = true)
    (a12 : PySem.W.nsIn K mainGlobals "_law_word" = some (some (.ref f12)))
    (l12 : K.lookup f12 = some ⟨oc12, od12, .func (PySem.W.fnOf "_law_word" "_law_word" (defArgs s_w_word) (defBody s_w_word) (defScope s_w_word) .none kV12 dc12 pm12 an12 cd12 ct12), sl12⟩)
    (c12 : PySem.W.codeIn K cd12 "_law_word" = true)
    (k12 : PySem.W.keepIn K (.ref f12) = true)
    (a13 : PySem.W.nsIn K mainGlobals "_law_entries" = some (some (.ref f13)))
    (l13 : K.lookup f13 = some ⟨oc13, od13, .func (PySem.W.fnOf "_law_entries" "_law_entries" (defArgs s_w_entries) (defBody s_w_entries) (defScope s_w_entries) .none kV13 dc13 pm13 an13 cd13 ct13), sl13⟩)
    (c13 : PySem.W.codeIn K cd13 "_law_entries" = true)
    (k13 : PySem.W.keepIn K (.ref f13) = true)
    (a14 : PySem.W.nsIn K mainGlobals "_law_step" = some (some (.ref f14)))
    (l14 : K.lookup f14 = some ⟨oc14, od14, .func (PySem.W.fnOf "_law_step" "_law_step" (defArgs s_w_step) (defBody s_w_step) (defScope s_w_step) .none kV14 dc14 pm14 an14 cd14 ct14), sl14⟩)
    (c14 : PySem.W.codeIn K cd14 "_law_step" = true)
    (k14 : PySem.W.keepIn K (.ref f14) = true)
    (a15 : PySem.W.nsIn K mainGlobals "_law_met" = some (some (.ref f15)))
    (l15 : K.lookup f15 = some ⟨oc15, od15, .func (PySem.W.fnOf "_law_met" "_law_met" (defArgs s_w_met) (defBody s_w_met) (defScope s_w_met) .none kV15 dc15 pm15 an15 cd15 ct15), sl15⟩)
    (c15 : PySem.W.codeIn K cd15 "_law_met" = true)
    (k15 : PySem.W.keepIn K (.ref f15) = true)
    (a16 : PySem.W.nsIn K mainGlobals "_law_filled" = some (some (.ref f16)))
    (l16 : K.lookup f16 = some ⟨oc16, od16, .func (PySem.W.fnOf "_law_filled" "_law_filled" (defArgs s_w_filled) (defBody s_w_filled) (defScope s_w_filled) .none kV16 dc16 pm16 an16 cd16 ct16), sl16⟩)
    (c16 : PySem.W.codeIn K cd16 "_law_filled" = true)
    (k16 : PySem.W.keepIn K (.ref f16) = true)
    (a17 : PySem.W.nsIn K mainGlobals "_law_fault" = some (some (.ref f17)))
    (l17 : K.lookup f17 = some ⟨oc17, od17, .func (PySem.W.fnOf "_law_fault" "_law_fault" (defArgs s_w_fault) (defBody s_w_fault) (defScope s_w_fault) .none kV17 dc17 pm17 an17 cd17 ct17), sl17⟩)
    (c17 : PySem.W.codeIn K cd17 "_law_fault" = true)
    (k17 : PySem.W.keepIn K (.ref f17) = true)
    (a18 : PySem.W.nsIn K mainGlobals "_law_flags" = some (some (.ref f18)))
    (l18 : K.lookup f18 = some ⟨oc18, od18, .func (PySem.W.fnOf "_law_flags" "_law_flags" (defArgs s_w_flags) (defBody s_w_flags) (defScope s_w_flags) .none kV18 dc18 pm18 an18 cd18 ct18), sl18⟩)
    (c18 : PySem.W.codeIn K cd18 "_law_flags" = true)
    (k18 : PySem.W.keepIn K (.ref f18) = true)
    (a19 : PySem.W.nsIn K mainGlobals "_law_bad_limit" = some (some (.ref f19)))
    (l19 : K.lookup f19 = some ⟨oc19, od19, .func (PySem.W.fnOf "_law_bad_limit" "_law_bad_limit" (defArgs s_w_bad_limit) (defBody s_w_bad_limit) (defScope s_w_bad_limit) .none kV19 dc19 pm19 an19 cd19 ct19), sl19⟩)
    (c19 : PySem.W.codeIn K cd19 "_law_bad_limit" = true)
    (k19 : PySem.W.keepIn K (.ref f19) = true)
    (a20 : PySem.W.nsIn K mainGlobals "_law_bad_count" = some (some (.ref f20)))
    (l20 : K.lookup f20 = some ⟨oc20, od20, .func (PySem.W.fnOf "_law_bad_count" "_law_bad_count" (defArgs s_w_bad_count) (defBody s_w_bad_count) (defScope s_w_bad_count) .none kV20 dc20 pm20 an20 cd20 ct20), sl20⟩)
    (c20 : PySem.W.codeIn K cd20 "_law_bad_count" = true)
    (k20 : PySem.W.keepIn K (.ref f20) = true)
    (a21 : PySem.W.nsIn K mainGlobals "_law_bad_ends" = some (some (.ref f21)))
    (l21 : K.lookup f21 = some ⟨oc21, od21, .func (PySem.W.fnOf "_law_bad_ends" "_law_bad_ends" (defArgs s_w_bad_ends) (defBody s_w_bad_ends) (defScope s_w_bad_ends) .none kV21 dc21 pm21 an21 cd21 ct21), sl21⟩)
    (c21 : PySem.W.codeIn K cd21 "_law_bad_ends" = true)
    (k21 : PySem.W.keepIn K (.ref f21) = true)
    (a22 : PySem.W.nsIn K mainGlobals "_law_creation" = some (some (.ref f22)))
    (l22 : K.lookup f22 = some ⟨oc22, od22, .func (PySem.W.fnOf "_law_creation" "_law_creation" (defArgs s_w_creation) (defBody s_w_creation) (defScope s_w_creation) .none kV22 dc22 pm22 an22 cd22 ct22), sl22⟩)
    (c22 : PySem.W.codeIn K cd22 "_law_creation" = true)
    (k22 : PySem.W.keepIn K (.ref f22) = true)
    (a23 : PySem.W.nsIn K mainGlobals "_law_refuses" = some (some (.ref f23)))
    (l23 : K.lookup f23 = some ⟨oc23, od23, .func (PySem.W.fnOf "_law_refuses" "_law_refuses" (defArgs s_w_refuses) (defBody s_w_refuses) (defScope s_w_refuses) .none kV23 dc23 pm23 an23 cd23 ct23), sl23⟩)
    (c23 : PySem.W.codeIn K cd23 "_law_refuses" = true)
    (k23 : PySem.W.keepIn K (.ref f23) = true)
    (a24 : PySem.W.nsIn K mainGlobals "_law_due" = some (some (.ref f24)))
    (l24 : K.lookup f24 = some ⟨oc24, od24, .func (PySem.W.fnOf "_law_due" "_law_due" (defArgs s_w_due) (defBody s_w_due) (defScope s_w_due) .none kV24 dc24 pm24 an24 cd24 ct24), sl24⟩)
    (c24 : PySem.W.codeIn K cd24 "_law_due" = true)
    (k24 : PySem.W.keepIn K (.ref f24) = true)
    (a25 : PySem.W.nsIn K mainGlobals "_law_answer" = some (some (.ref f25)))
    (l25 : K.lookup f25 = some ⟨oc25, od25, .func (PySem.W.fnOf "_law_answer" "_law_answer" (defArgs s_w_answer) (defBody s_w_answer) (defScope s_w_answer) .none kV25 dc25 pm25 an25 cd25 ct25), sl25⟩)
    (c25 : PySem.W.codeIn K cd25 "_law_answer" = true)
    (k25 : PySem.W.keepIn K (.ref f25) = true)
    (a26 : PySem.W.nsIn K mainGlobals "_law_paths" = some (some (.ref f26)))
    (l26 : K.lookup f26 = some ⟨oc26, od26, .func (PySem.W.fnOf "_law_paths" "_law_paths" (defArgs s_w_paths) (defBody s_w_paths) (defScope s_w_paths) .none kV26 dc26 pm26 an26 cd26 ct26), sl26⟩)
    (c26 : PySem.W.codeIn K cd26 "_law_paths" = true)
    (k26 : PySem.W.keepIn K (.ref f26) = true)
    (a27 : PySem.W.nsIn K mainGlobals "_law_strings" = some (some (.ref f27)))
    (l27 : K.lookup f27 = some ⟨oc27, od27, .func (PySem.W.fnOf "_law_strings" "_law_strings" (defArgs s_w_strings) (defBody s_w_strings) (defScope s_w_strings) .none kV27 dc27 pm27 an27 cd27 ct27), sl27⟩)
    (c27 : PySem.W.codeIn K cd27 "_law_strings" = true)
    (k27 : PySem.W.keepIn K (.ref f27) = true)
    (a28 : PySem.W.nsIn K mainGlobals "_law_dict_right" = some (some (.ref f28)))
    (l28 : K.lookup f28 = some ⟨oc28, od28, .func (PySem.W.fnOf "_law_dict_right" "_law_dict_right" (defArgs s_w_dict_right) (defBody s_w_dict_right) (defScope s_w_dict_right) .none kV28 dc28 pm28 an28 cd28 ct28), sl28⟩)
    (c28 : PySem.W.codeIn K cd28 "_law_dict_right" = true)
    (k28 : PySem.W.keepIn K (.ref f28) = true)
    (a29 : PySem.W.nsIn K mainGlobals "_law_list_right" = some (some (.ref f29)))
    (l29 : K.lookup f29 = some ⟨oc29, od29, .func (PySem.W.fnOf "_law_list_right" "_law_list_right" (defArgs s_w_list_right) (defBody s_w_list_right) (defScope s_w_list_right) .none kV29 dc29 pm29 an29 cd29 ct29), sl29⟩)
    (c29 : PySem.W.codeIn K cd29 "_law_list_right" = true)
    (k29 : PySem.W.keepIn K (.ref f29) = true)
    (a30 : PySem.W.nsIn K mainGlobals "_law_tells" = some (some (.ref f30)))
    (l30 : K.lookup f30 = some ⟨oc30, od30, .func (PySem.W.fnOf "_law_tells" "_law_tells" (defArgs s_w_tells) (defBody s_w_tells) (defScope s_w_tells) .none kV30 dc30 pm30 an30 cd30 ct30), sl30⟩)
    (c30 : PySem.W.codeIn K cd30 "_law_tells" = true)
    (k30 : PySem.W.keepIn K (.ref f30) = true)
    (a31 : PySem.W.nsIn K mainGlobals "_law_keeps" = some (some (.ref f31)))
    (l31 : K.lookup f31 = some ⟨oc31, od31, .func (PySem.W.fnOf "_law_keeps" "_law_keeps" (defArgs s_w_keeps) (defBody s_w_keeps) (defScope s_w_keeps) .none kV31 dc31 pm31 an31 cd31 ct31), sl31⟩)
    (c31 : PySem.W.codeIn K cd31 "_law_keeps" = true)
    (k31 : PySem.W.keepIn K (.ref f31) = true)
    (a32 : PySem.W.nsIn K mainGlobals "_law_changed" = some (some (.ref f32)))
    (l32 : K.lookup f32 = some ⟨oc32, od32, .func (PySem.W.fnOf "_law_changed" "_law_changed" (defArgs s_w_changed) (defBody s_w_changed) (defScope s_w_changed) .none kV32 dc32 pm32 an32 cd32 ct32), sl32⟩)
    (c32 : PySem.W.codeIn K cd32 "_law_changed" = true)
    (k32 : PySem.W.keepIn K (.ref f32) = true)
    (a33 : PySem.W.nsIn K mainGlobals "_law_makes" = some (some (.ref f33)))
    (l33 : K.lookup f33 = some ⟨oc33, od33, .func (PySem.W.fnOf "_law_makes" "_law_makes" (defArgs s_w_makes) (defBody s_w_makes) (defScope s_w_makes) .none kV33 dc33 pm33 an33 cd33 ct33), sl33⟩)
    (c33 : PySem.W.codeIn K cd33 "_law_makes" = true)
    (k33 : PySem.W.keepIn K (.ref f33) = true)
    (a34 : PySem.W.nsIn K mainGlobals "law" = some (some (.ref f34)))
    (l34 : K.lookup f34 = some ⟨oc34, od34, .func (PySem.W.fnOf "law" "law" (defArgs s_law) (defBody s_law) (defScope s_law) .none kV34 dc34 pm34 an34 cd34 ct34), sl34⟩)
    (c34 : PySem.W.codeIn K cd34 "law" = true)
    (k34 : PySem.W.keepIn K (.ref f34) = true)
    (z0 : PySem.W.nsIn K mainGlobals "len" = some none)
    (z1 : PySem.W.nsIn K mainGlobals "range" = some none)
    (z2 : PySem.W.nsIn K mainGlobals "isinstance" = some none)
    (z3 : PySem.W.nsIn K mainGlobals "int" = some none)
    (z4 : PySem.W.nsIn K mainGlobals "bool" = some none)
    (z5 : PySem.W.nsIn K mainGlobals "list" = some none)
    (z6 : PySem.W.nsIn K mainGlobals "tuple" = some none)
    (z7 : PySem.W.nsIn K mainGlobals "dict" = some none)
    (z8 : PySem.W.nsIn K mainGlobals "min" = some none)
    (z9 : PySem.W.nsIn K mainGlobals "sum" = some none)
    (z10 : PySem.W.nsIn K mainGlobals "sorted" = some none)
    (z11 : PySem.W.nsIn K mainGlobals "ValueError" = some none)
    (o0a : PySem.W.plainGet K C_Table Str.empty = true)
    (o0b : PySem.W.hasDictIn K C_Table = true)
    (o0c : PySem.W.plainOver K C_Table = true)
    (o0d : PySem.W.findIn K (.ref C_Table) "__setattr__" = some (some (.builtin "object.__setattr__")))
    (o0e : PySem.W.selfFirst K C_Table = true)
    (o0f : PySem.W.findIn K (.ref C_Table) "__class__" = some (some (.builtin "object.__class__")))
    (o0h : PySem.W.specialIn K (.builtin "object.__class__") "__get__" = some (some (.builtin "getset_descriptor.__get__")))
    (o0i : PySem.W.takesIn K (.builtin "object.__class__") = some true)
    (o0j : PySem.W.mroIn K C_Table (.type "object") = some true)
    (o0q : PySem.W.findIn K (.ref C_Table) "__ne__" = some (some (.builtin "object.__ne__")))
    (o0n0 : PySem.W.findIn K (.ref C_Table) "limit" = some none)
    (o0n1 : PySem.W.findIn K (.ref C_Table) "marks" = some none)
    (o0k : PySem.W.makesIn K C_Table = true)
    (o0l : PySem.W.keepIn K (.ref C_Table) = true)
    (fn1 : PySem.W.isFn K (.ref f1) = true)
    (fn2 : PySem.W.isFn K (.ref f2) = true)
    (fn3 : PySem.W.isFn K (.ref f3) = true)
    (fn4 : PySem.W.isFn K (.ref f4) = true)
    (fn5 : PySem.W.isFn K (.ref f5) = true)
    (o0s : PySem.W.subIn K (.ref C_Table) (.type "int") = some false)
    (o0t : PySem.W.subIn K (.type "int") (.ref C_Table) = some false)
    (z12 : PySem.W.nsIn K mainGlobals "MOST_TRIES" = some (some (.int (12) tc12)))
    (z13 : PySem.W.nsIn K mainGlobals "WORDS" = some (some (.ref at13)))
    (y13 : K.lookup at13 = some ⟨.type "tuple", oat13, .seq #[.str "reached" tt13_0, .str "missed" tt13_1, .str "unsure" tt13_2] nat13, sat13⟩)
    (es0 : PySem.W.specialIn K (.builtin "object.__class__") "__get__" = some (some (.builtin "getset_descriptor.__get__")))
    (es1 : PySem.W.takesIn K (.builtin "object.__class__") = some true)
    (es2 : PySem.W.nsIn K cStatics "thirdparty.any" = some none)
    (es3 : PySem.W.nsIn K mainGlobals "super" = some none)
    (eC0 : PySem.W.nsIn K mainGlobals "BadTable" = some (some (.ref C_BadTable)))
    (eB0 : PySem.W.subIn K (.ref C_BadTable) (.type "BaseException") = some true)
    (eH0 : PySem.W.hasDictIn K C_BadTable = true)
    (eT0 : PySem.W.typeIn K (.ref C_BadTable) = some (.type "type"))
    (eC1 : PySem.W.nsIn K mainGlobals "BadTries" = some (some (.ref C_BadTries)))
    (eB1 : PySem.W.subIn K (.ref C_BadTries) (.type "BaseException") = some true)
    (eH1 : PySem.W.hasDictIn K C_BadTries = true)
    (eT1 : PySem.W.typeIn K (.ref C_BadTries) = some (.type "type"))
    (eC2 : PySem.W.nsIn K mainGlobals "MeteError" = some (some (.ref C_MeteError)))
    (eB2 : PySem.W.subIn K (.ref C_MeteError) (.type "BaseException") = some true)
    (eH2 : PySem.W.hasDictIn K C_MeteError = true)
    (eT2 : PySem.W.typeIn K (.ref C_MeteError) = some (.type "type"))
    (eL0 : K.lookup C_BadTable = some (PySem.excClassObj nmE0 qE0 C_BadTable NE0 bsE0 bmE0 true snE0 subE0 abE0 colE0 ddE0 m0E0 m1E0 m2E0 m3E0 m5E0 "ValueError.__new__"))
    (eR0 : PySem.HandSPX.refsVE bmE0 = true)
    (eS0 : PySem.W.findIn K (.ref C_BadTable) "__setattr__" = some (some (.builtin "object.__setattr__")))
    (eG0 : PySem.W.findIn K (.ref C_BadTable) "__getattribute__" = some (some (.builtin "BaseException.__getattribute__")))
    (eg0 : PySem.W.findIn K (.ref C_BadTable) "__getattr__" = some none)
    (en0 : PySem.W.findIn K (.ref C_BadTable) "fault" = some none)
    (eI0 : PySem.W.findIn K (.ref C_BadTable) "__init__" = some (some (.ref fE0)))
    (et0 : PySem.W.typeIn K (.ref fE0) = some (.type "function"))
    (ef0 : K.lookup fE0 = some ⟨ocE0, odE0, .func (PySem.W.ksFn "__init__" "BadTable.__init__" (defArgs s_BadTable_init) (defBody s_BadTable_init) (defScope s_BadTable_init) .none .none docE0 pmE0 anE0 (.ref cdaE0) ctE0 ccE0), oslE0⟩)
    (ec0 : PySem.W.codeIn K (.ref cdaE0) "BadTable.__init__" = true)
    (eo0 : K.lookup ccE0 = some ⟨clE0, cldE0, .cell (some (.ref C_BadTable)), cslE0⟩)
    (ed0 : K.lookup cdaE0 = some ⟨cclE0, cddE0, .fields vsE0, ccsE0⟩)
    (eq0 : vsE0[2]? = some (.str PG.main.file tfE0))
    (ep0 : PySem.W.ks_superIn K C_BadTable C_BadTable "__init__" = some (some (.builtin "ValueError.__init__")))
    (ev0 : PySem.W.subIn K (.ref C_BadTable) (.type "ValueError") = some true)
    (em0 : PySem.W.mroIn K C_BadTable (.ref C_BadTable) = some true)
    (ek0 : PySem.W.keepIn K (.ref C_BadTable) = true)
    (ea0 : PySem.W.findIn K (.ref C_BadTable) "__class__" = some (some (.builtin "object.__class__")))
    (eb0 : PySem.W.mroIn K C_BadTable (.type "object") = some true)
    (eL1 : K.lookup C_BadTries = some (PySem.excClassObj nmE1 qE1 C_BadTries NE1 bsE1 bmE1 true snE1 subE1 abE1 colE1 ddE1 m0E1 m1E1 m2E1 m3E1 m5E1 "ValueError.__new__"))
    (eR1 : PySem.HandSPX.refsVE bmE1 = true)
    (eS1 : PySem.W.findIn K (.ref C_BadTries) "__setattr__" = some (some (.builtin "object.__setattr__")))
    (eG1 : PySem.W.findIn K (.ref C_BadTries) "__getattribute__" = some (some (.builtin "BaseException.__getattribute__")))
    (eg1 : PySem.W.findIn K (.ref C_BadTries) "__getattr__" = some none)
    (en1 : PySem.W.findIn K (.ref C_BadTries) "tries" = some none)
    (eI1 : PySem.W.findIn K (.ref C_BadTries) "__init__" = some (some (.ref fE1)))
    (et1 : PySem.W.typeIn K (.ref fE1) = some (.type "function"))
    (ef1 : K.lookup fE1 = some ⟨ocE1, odE1, .func (PySem.W.ksFn "__init__" "BadTries.__init__" (defArgs s_BadTries_init) (defBody s_BadTries_init) (defScope s_BadTries_init) .none .none docE1 pmE1 anE1 (.ref cdaE1) ctE1 ccE1), oslE1⟩)
    (ec1 : PySem.W.codeIn K (.ref cdaE1) "BadTries.__init__" = true)
    (eo1 : K.lookup ccE1 = some ⟨clE1, cldE1, .cell (some (.ref C_BadTries)), cslE1⟩)
    (ed1 : K.lookup cdaE1 = some ⟨cclE1, cddE1, .fields vsE1, ccsE1⟩)
    (eq1 : vsE1[2]? = some (.str PG.main.file tfE1))
    (ep1 : PySem.W.ks_superIn K C_BadTries C_BadTries "__init__" = some (some (.builtin "ValueError.__init__")))
    (ev1 : PySem.W.subIn K (.ref C_BadTries) (.type "ValueError") = some true)
    (em1 : PySem.W.mroIn K C_BadTries (.ref C_BadTries) = some true)
    (ek1 : PySem.W.keepIn K (.ref C_BadTries) = true)
    (ea1 : PySem.W.findIn K (.ref C_BadTries) "__class__" = some (some (.builtin "object.__class__")))
    (eb1 : PySem.W.mroIn K C_BadTries (.type "object") = some true)
    (ez0_1 : PySem.W.subIn K (.ref C_BadTable) (.ref C_BadTries) = some false)
    (ez0_1n : (Value.ref C_BadTable == Value.ref C_BadTries) = false)
    (ez0_2 : PySem.W.subIn K (.ref C_BadTable) (.ref C_MeteError) = some true)
    (ez0_2n : (Value.ref C_BadTable == Value.ref C_MeteError) = false)
    (ey0_ValueError : PySem.W.subIn K (.ref C_BadTable) (.type "ValueError") = some true)
    (ez1_0 : PySem.W.subIn K (.ref C_BadTries) (.ref C_BadTable) = some false)
    (ez1_0n : (Value.ref C_BadTries == Value.ref C_BadTable) = false)
    (ez1_2 : PySem.W.subIn K (.ref C_BadTries) (.ref C_MeteError) = some true)
    (ez1_2n : (Value.ref C_BadTries == Value.ref C_MeteError) = false)
    (ey1_ValueError : PySem.W.subIn K (.ref C_BadTries) (.type "ValueError") = some true)
    (ex0_0 : PySem.W.subIn K (.ref C_BadTable) (.ref C_BadTable) = some true)
    (ex1_1 : PySem.W.subIn K (.ref C_BadTries) (.ref C_BadTries) = some true) :
    ∃ fd : FuncData, (∀ (s : Shared) (v : Value), BindsTo s fd ⟨[v], []⟩ [("_law_script", v)]) ∧ ∀ base : Heap, K.In base → base.Ns mainGlobals mg → FnOk PG w K mg base CX0 6 fa fd ["_law_script"] (spLaw K) := by
  have F0 := fun_mk (st := s_counts_met) l0 c0 k0
  have F1 := fun_mk (st := s_Table___init) l1 c1 k1
  have F2 := fun_mk (st := s_Table_ends) l2 c2 k2
  have F3 := fun_mk (st := s_Table_word_after) l3 c3 k3
  have F4 := fun_mk (st := s_Table_stops) l4 c4 k4
  have F5 := fun_mk (st := s_Table___eq) l5 c5 k5
  have F6 := fun_mk (st := s_w_box) l6 c6 k6
  have F7 := fun_mk (st := s_w_take) l7 c7 k7
  have F8 := fun_mk (st := s_w_is_integer) l8 c8 k8
  have F9 := fun_mk (st := s_w_copy) l9 c9 k9
  have F10 := fun_mk (st := s_w_turned) l10 c10 k10
  have F11 := fun_mk (st := s_w_limit) l11 c11 k11
  have F12 := fun_mk (st := s_w_word) l12 c12 k12
  have F13 := fun_mk (st := s_w_entries) l13 c13 k13
  have F14 := fun_mk (st := s_w_step) l14 c14 k14
  have F15 := fun_mk (st := s_w_met) l15 c15 k15
  have F16 := fun_mk (st := s_w_filled) l16 c16 k16
  have F17 := fun_mk (st := s_w_fault) l17 c17 k17
  have F18 := fun_mk (st := s_w_flags) l18 c18 k18
  have F19 := fun_mk (st := s_w_bad_limit) l19 c19 k19
  have F20 := fun_mk (st := s_w_bad_count) l20 c20 k20
  have F21 := fun_mk (st := s_w_bad_ends) l21 c21 k21
  have F22 := fun_mk (st := s_w_creation) l22 c22 k22
  have F23 := fun_mk (st := s_w_refuses) l23 c23 k23
  have F24 := fun_mk (st := s_w_due) l24 c24 k24
  have F25 := fun_mk (st := s_w_answer) l25 c25 k25
  have F26 := fun_mk (st := s_w_paths) l26 c26 k26
  have F27 := fun_mk (st := s_w_strings) l27 c27 k27
  have F28 := fun_mk (st := s_w_dict_right) l28 c28 k28
  have F29 := fun_mk (st := s_w_list_right) l29 c29 k29
  have F30 := fun_mk (st := s_w_tells) l30 c30 k30
  have F31 := fun_mk (st := s_w_keeps) l31 c31 k31
  have F32 := fun_mk (st := s_w_changed) l32 c32 k32
  have F33 := fun_mk (st := s_w_makes) l33 c33 k33
  have F34 := fun_mk (st := s_law) l34 c34 k34
  have e := hfa.symm.trans (PySem.W.mg_of X G a34)
  cases e
  let T : Tx K mg := {
    f_counts_met := f0, fd_counts_met := _, F_counts_met := F0,
    g_counts_met := PySem.W.mg_of X G a0,
    b_counts_met := F0.binds (ps := ["limit", "marks"]) fun _ _ _ _ _ _ us hl => match us, hl with | [_, _], _ => rfl,
    f_Table___init := f1, fd_Table___init := _, F_Table___init := F1,
    b_Table___init := F1.binds (ps := ["self", "limit", "ends"]) fun _ _ _ _ _ _ us hl => match us, hl with | [_, _, _], _ => rfl,
    f_Table_ends := f2, fd_Table_ends := _, F_Table_ends := F2,
    b_Table_ends := F2.binds (ps := ["self"]) fun _ _ _ _ _ _ us hl => match us, hl with | [_], _ => rfl,
    f_Table_word_after := f3, fd_Table_word_after := _, F_Table_word_after := F3,
    b_Table_word_after := F3.binds (ps := ["self", "tries"]) fun _ _ _ _ _ _ us hl => match us, hl with | [_, _], _ => rfl,
    f_Table_stops := f4, fd_Table_stops := _, F_Table_stops := F4,
    b_Table_stops := F4.binds (ps := ["self"]) fun _ _ _ _ _ _ us hl => match us, hl with | [_], _ => rfl,
    f_Table___eq := f5, fd_Table___eq := _, F_Table___eq := F5,
    b_Table___eq := F5.binds (ps := ["self", "other"]) fun _ _ _ _ _ _ us hl => match us, hl with | [_, _], _ => rfl,
    f_w_box := f6, fd_w_box := _, F_w_box := F6,
    g_w_box := PySem.W.mg_of X G a6,
    b_w_box := F6.binds (ps := ["_law_script", "_law_place"]) fun _ _ _ _ _ _ us hl => match us, hl with | [_, _], _ => rfl,
    f_w_take := f7, fd_w_take := _, F_w_take := F7,
    g_w_take := PySem.W.mg_of X G a7,
    b_w_take := F7.binds (ps := ["_law_box_here", "_law_size"]) fun _ _ _ _ _ _ us hl => match us, hl with | [_, _], _ => rfl,
    f_w_is_integer := f8, fd_w_is_integer := _, F_w_is_integer := F8,
    g_w_is_integer := PySem.W.mg_of X G a8,
    b_w_is_integer := F8.binds (ps := ["_law_value"]) fun _ _ _ _ _ _ us hl => match us, hl with | [_], _ => rfl,
    f_w_copy := f9, fd_w_copy := _, F_w_copy := F9,
    g_w_copy := PySem.W.mg_of X G a9,
    b_w_copy := F9.binds (ps := ["_law_ends"]) fun _ _ _ _ _ _ us hl => match us, hl with | [_], _ => rfl,
    f_w_turned := f10, fd_w_turned := _, F_w_turned := F10,
    g_w_turned := PySem.W.mg_of X G a10,
    b_w_turned := F10.binds (ps := ["_law_ends", "_law_turned_here"]) fun _ _ _ _ _ _ us hl => match us, hl with | [_, _], _ => rfl,
    f_w_limit := f11, fd_w_limit := _, F_w_limit := F11,
    g_w_limit := PySem.W.mg_of X G a11,
    b_w_limit := F11.binds (ps := ["_law_box_here"]) fun _ _ _ _ _ _ us hl => match us, hl with | [_], _ => rfl,
    f_w_word := f12, fd_w_word := _, F_w_word := F12,
    g_w_word := PySem.W.mg_of X G a12,
    b_w_word := F12.binds (ps := ["_law_box_here"]) fun _ _ _ _ _ _ us hl => match us, hl with | [_], _ => rfl,
    f_w_entries := f13, fd_w_entries := _, F_w_entries := F13,
    g_w_entries := PySem.W.mg_of X G a13,
    b_w_entries := F13.binds (ps := ["_law_box_here", "_law_limit_here"]) fun _ _ _ _ _ _ us hl => match us, hl with | [_, _], _ => rfl,
    f_w_step := f14, fd_w_step := _, F_w_step := F14,
    g_w_step := PySem.W.mg_of X G a14,
    b_w_step := F14.binds (ps := ["_law_met_here", "_law_found", "_law_count"]) fun _ _ _ _ _ _ us hl => match us, hl with | [_, _, _], _ => rfl,
    f_w_met := f15, fd_w_met := _, F_w_met := F15,
    g_w_met := PySem.W.mg_of X G a15,
    b_w_met := F15.binds (ps := ["_law_limit_here", "_law_ends"]) fun _ _ _ _ _ _ us hl => match us, hl with | [_, _], _ => rfl,
    f_w_filled := f16, fd_w_filled := _, F_w_filled := F16,
    g_w_filled := PySem.W.mg_of X G a16,
    b_w_filled := F16.binds (ps := ["_law_box_here", "_law_limit_here", "_law_ends"]) fun _ _ _ _ _ _ us hl => match us, hl with | [_, _, _], _ => rfl,
    f_w_fault := f17, fd_w_fault := _, F_w_fault := F17,
    g_w_fault := PySem.W.mg_of X G a17,
    b_w_fault := F17.binds (ps := ["_law_limit_here", "_law_ends"]) fun _ _ _ _ _ _ us hl => match us, hl with | [_, _], _ => rfl,
    f_w_flags := f18, fd_w_flags := _, F_w_flags := F18,
    g_w_flags := PySem.W.mg_of X G a18,
    b_w_flags := F18.binds (ps := ["_law_box_here"]) fun _ _ _ _ _ _ us hl => match us, hl with | [_], _ => rfl,
    f_w_bad_limit := f19, fd_w_bad_limit := _, F_w_bad_limit := F19,
    g_w_bad_limit := PySem.W.mg_of X G a19,
    b_w_bad_limit := F19.binds (ps := ["_law_box_here", "_law_limit_here", "_law_flag"]) fun _ _ _ _ _ _ us hl => match us, hl with | [_, _, _], _ => rfl,
    f_w_bad_count := f20, fd_w_bad_count := _, F_w_bad_count := F20,
    g_w_bad_count := PySem.W.mg_of X G a20,
    b_w_bad_count := F20.binds (ps := ["_law_box_here", "_law_limit_here"]) fun _ _ _ _ _ _ us hl => match us, hl with | [_, _], _ => rfl,
    f_w_bad_ends := f21, fd_w_bad_ends := _, F_w_bad_ends := F21,
    g_w_bad_ends := PySem.W.mg_of X G a21,
    b_w_bad_ends := F21.binds (ps := ["_law_box_here", "_law_limit_here", "_law_ends", "_law_flags_here"]) fun _ _ _ _ _ _ us hl => match us, hl with | [_, _, _, _], _ => rfl,
    f_w_creation := f22, fd_w_creation := _, F_w_creation := F22,
    g_w_creation := PySem.W.mg_of X G a22,
    b_w_creation := F22.binds (ps := ["_law_limit_here", "_law_ends"]) fun _ _ _ _ _ _ us hl => match us, hl with | [_, _], _ => rfl,
    f_w_refuses := f23, fd_w_refuses := _, F_w_refuses := F23,
    g_w_refuses := PySem.W.mg_of X G a23,
    b_w_refuses := F23.binds (ps := ["_law_box_here", "_law_limit_here", "_law_ends"]) fun _ _ _ _ _ _ us hl => match us, hl with | [_, _, _], _ => rfl,
    f_w_due := f24, fd_w_due := _, F_w_due := F24,
    g_w_due := PySem.W.mg_of X G a24,
    b_w_due := F24.binds (ps := ["_law_ends", "_law_tries"]) fun _ _ _ _ _ _ us hl => match us, hl with | [_, _], _ => rfl,
    f_w_answer := f25, fd_w_answer := _, F_w_answer := F25,
    g_w_answer := PySem.W.mg_of X G a25,
    b_w_answer := F25.binds (ps := ["_law_table", "_law_tries"]) fun _ _ _ _ _ _ us hl => match us, hl with | [_, _], _ => rfl,
    f_w_paths := f26, fd_w_paths := _, F_w_paths := F26,
    g_w_paths := PySem.W.mg_of X G a26,
    b_w_paths := F26.binds (ps := ["_law_limit_here", "_law_ends"]) fun _ _ _ _ _ _ us hl => match us, hl with | [_, _], _ => rfl,
    f_w_strings := f27, fd_w_strings := _, F_w_strings := F27,
    g_w_strings := PySem.W.mg_of X G a27,
    b_w_strings := F27.binds (ps := ["_law_box_here", "_law_limit_here"]) fun _ _ _ _ _ _ us hl => match us, hl with | [_, _], _ => rfl,
    f_w_dict_right := f28, fd_w_dict_right := _, F_w_dict_right := F28,
    g_w_dict_right := PySem.W.mg_of X G a28,
    b_w_dict_right := F28.binds (ps := ["_law_told", "_law_ends"]) fun _ _ _ _ _ _ us hl => match us, hl with | [_, _], _ => rfl,
    f_w_list_right := f29, fd_w_list_right := _, F_w_list_right := F29,
    g_w_list_right := PySem.W.mg_of X G a29,
    b_w_list_right := F29.binds (ps := ["_law_told", "_law_due_here"]) fun _ _ _ _ _ _ us hl => match us, hl with | [_, _], _ => rfl,
    f_w_tells := f30, fd_w_tells := _, F_w_tells := F30,
    g_w_tells := PySem.W.mg_of X G a30,
    b_w_tells := F30.binds (ps := ["_law_table", "_law_limit_here", "_law_ends"]) fun _ _ _ _ _ _ us hl => match us, hl with | [_, _, _], _ => rfl,
    f_w_keeps := f31, fd_w_keeps := _, F_w_keeps := F31,
    g_w_keeps := PySem.W.mg_of X G a31,
    b_w_keeps := F31.binds (ps := ["_law_table", "_law_limit_here", "_law_ends", "_law_strings_here"]) fun _ _ _ _ _ _ us hl => match us, hl with | [_, _, _, _], _ => rfl,
    f_w_changed := f32, fd_w_changed := _, F_w_changed := F32,
    g_w_changed := PySem.W.mg_of X G a32,
    b_w_changed := F32.binds (ps := ["_law_box_here", "_law_limit_here", "_law_ends"]) fun _ _ _ _ _ _ us hl => match us, hl with | [_, _, _], _ => rfl,
    f_w_makes := f33, fd_w_makes := _, F_w_makes := F33,
    g_w_makes := PySem.W.mg_of X G a33,
    b_w_makes := F33.binds (ps := ["_law_box_here", "_law_limit_here", "_law_ends"]) fun _ _ _ _ _ _ us hl => match us, hl with | [_, _, _], _ => rfl,
    f_law := fa, fd_law := _, F_law := F34,
    g_law := PySem.W.mg_of X G a34,
    b_law := F34.binds (ps := ["_law_script"]) fun _ _ _ _ _ _ us hl => match us, hl with | [_], _ => rfl,
    m_len := PySem.W.mg_none_of X G z0,
    m_range := PySem.W.mg_none_of X G z1,
    m_isinstance := PySem.W.mg_none_of X G z2,
    m_int := PySem.W.mg_none_of X G z3,
    m_bool := PySem.W.mg_none_of X G z4,
    m_list := PySem.W.mg_none_of X G z5,
    m_tuple := PySem.W.mg_none_of X G z6,
    m_dict := PySem.W.mg_none_of X G z7,
    m_min := PySem.W.mg_none_of X G z8,
    m_sum := PySem.W.mg_none_of X G z9,
    m_sorted := PySem.W.mg_none_of X G z10,
    m_ValueError := PySem.W.mg_none_of X G z11,
    C_Table := C_Table, gC_Table := PySem.W.mg_of X G o0g, oc_Table := ⟨⟨o0a, o0b, o0c, o0d⟩, o0e, o0f, o0h, o0i, o0j⟩,
    ne_Table := o0q,
    na_Table_limit := o0n0,
    na_Table_marks := o0n1,
    mk_Table := ⟨o0k, a1, fn1, o0l⟩,
    me_Table_ends := ⟨a2, fn2, k2⟩,
    me_Table_word_after := ⟨a3, fn3, k3⟩,
    me_Table_stops := ⟨a4, fn4, k4⟩,
    me_Table___eq := ⟨a5, fn5, k5⟩,
    si_Table := o0s, is_Table := o0t,
    c_MOST_TRIES := ⟨_, PySem.W.mg_of X G z12⟩,
    a_WORDS := at13, c_WORDS := PySem.W.mg_of X G z13, t_WORDS := ⟨_, _, _, y13, rfl, rfl, (le_size (by simp)), by repeat constructor⟩,
    C_BadTable := C_BadTable, gC_BadTable := PySem.W.mg_of X G eC0,
    C_BadTries := C_BadTries, gC_BadTries := PySem.W.mg_of X G eC1,
    C_MeteError := C_MeteError, gC_MeteError := PySem.W.mg_of X G eC2,
    Z_BadTable := fun w => ⟨⟨fE0, ccE0, cdaE0, _, _, _, _, _, _, _, _, _, sh_BadTable, ⟨⟨_, _, _, _, _, _, _, _, _, _, _, _, _, _, _, eL0, eR0⟩, eS0, eI0, et0, ⟨_, _, _, eo0⟩, ⟨_, _, _, _, _, ed0, eq0⟩, ep0, ev0, em0, es2, PySem.W.mg_none_of X G es3, rfl⟩, ef0, ec0⟩, PySem.W.mg_of X G eC0, ek0, en0, eB0, eT0⟩,
    X_BadTable := ⟨eG0, eg0, eB0, eH0, ea0, es0, es1, eb0⟩,
    xf_BadTable := ⟨eG0, eg0, eB0, eH0⟩,
    Z_BadTries := fun w => ⟨⟨fE1, ccE1, cdaE1, _, _, _, _, _, _, _, _, _, sh_BadTries, ⟨⟨_, _, _, _, _, _, _, _, _, _, _, _, _, _, _, eL1, eR1⟩, eS1, eI1, et1, ⟨_, _, _, eo1⟩, ⟨_, _, _, _, _, ed1, eq1⟩, ep1, ev1, em1, es2, PySem.W.mg_none_of X G es3, rfl⟩, ef1, ec1⟩, PySem.W.mg_of X G eC1, ek1, en1, eB1, eT1⟩,
    X_BadTries := ⟨eG1, eg1, eB1, eH1, ea1, es0, es1, eb1⟩,
    xf_BadTries := ⟨eG1, eg1, eB1, eH1⟩,
    kit_BadTable_BadTries := Er.kit_refs eH1 eT1 ez0_1 ez0_1n,
    kit_BadTable_MeteError := Er.kit_refs eH2 eT2 ez0_2 ez0_2n,
    kit_BadTable_ValueError := Er.kit_typ (by decide +kernel) ey0_ValueError,
    kit_BadTries_BadTable := Er.kit_refs eH0 eT0 ez1_0 ez1_0n,
    kit_BadTries_MeteError := Er.kit_refs eH2 eT2 ez1_2 ez1_2n,
    kit_BadTries_ValueError := Er.kit_typ (by decide +kernel) ey1_ValueError,
    exm_BadTable_BadTable := PySem.W.exm_ref eB0 eH0 eT0 ex0_0,
    exm_BadTries_BadTries := PySem.W.exm_ref eB1 eH1 eT1 ex1_1 }
  refine ⟨T.fd_law, fun s v => .of_eq rfl, fun base _ _ => ?_⟩
  exact law_of T
end My
open PySem PySem.W PyProof.Rows
set_option maxHeartbeats 0 in
theorem PySem.Challenge.cw_metehouse_k39_tables_made_and_stopped_holds : PySem.Challenge.rw_metehouse_k39_tables_made_and_stopped.Holds := by
  w_on; o_law; k_head; (case hw => w_witness2)
  k_fill
  refine L2.walk_of (l := PySem.Challenge.rw_metehouse_k39_tables_made_and_stopped) (n := 63) (k := 6) (x := "_law_script") (CX := fun _ => L2.CX0) (sp := fun w => My.spLaw _) rfl (by decide) rfl ⟨rfl, by decide, by decide⟩ (fun w h Y => PySem.W.kIn_of Y) ?F (fun _ _ a ns hl _ hS => ⟨a, ns, rfl, hS, hl, fun _ => rfl⟩) (fun _ _ _ _ _ h => h)
  case F =>
    intro w mg fa h KX G hmg
    refine' My.all_mk KX G hmg ?o0g ?a0 ?l0 ?c0 ?k0 ?a1 ?l1 ?c1 ?k1 ?a2 ?l2 ?c2 ?k2 ?a3 ?l3 ?c3 ?k3 ?a4 ?l4 ?c4 ?k4 ?a5 ?l5 ?c5 ?k5 ?a6 ?l6 ?c6 ?k6 ?a7 ?l7 ?c7 ?k7 ?a8 ?l8 ?c8 ?k8 ?a9 ?l9 ?c9 ?k9 ?a10 ?l10 ?c10 ?k10 ?a11 ?l11 ?c11 ?k11 ?a12 ?l12 ?c12 ?k12 ?a13 ?l13 ?c13 ?k13 ?a14 ?l14 ?c14 ?k14 ?a15 ?l15 ?c15 ?k15 ?a16 ?l16 ?c16 ?k16 ?a17 ?l17 ?c17 ?k17 ?a18 ?l18 ?c18 ?k18 ?a19 ?l19 ?c19 ?k19 ?a20 ?l20 ?c20 ?k20 ?a21 ?l21 ?c21 ?k21 ?a22 ?l22 ?c22 ?k22 ?a23 ?l23 ?c23 ?k23 ?a24 ?l24 ?c24 ?k24 ?a25 ?l25 ?c25 ?k25 ?a26 ?l26 ?c26 ?k26 ?a27 ?l27 ?c27 ?k27 ?a28 ?l28 ?c28 ?k28 ?a29 ?l29 ?c29 ?k29 ?a30 ?l30 ?c30 ?k30 ?a31 ?l31 ?c31 ?k31 ?a32 ?l32 ?c32 ?k32 ?a33 ?l33 ?c33 ?k33 ?a34 ?l34 ?c34 ?k34 ?z0 ?z1 ?z2 ?z3 ?z4 ?z5 ?z6 ?z7 ?z8 ?z9 ?z10 ?z11 ?o0a ?o0b ?o0c ?o0d ?o0e ?o0f ?o0h ?o0i ?o0j ?o0q ?o0n0 ?o0n1 ?o0k ?o0l ?fn1 ?fn2 ?fn3 ?fn4 ?fn5 ?o0s ?o0t ?z12 ?z13 ?y13 ?es0 ?es1 ?es2 ?es3 ?eC0 ?eB0 ?eH0 ?eT0 ?eC1 ?eB1 ?eH1 ?eT1 ?eC2 ?eB2 ?eH2 ?eT2 ?eL0 ?eR0 ?eS0 ?eG0 ?eg0 ?en0 ?eI0 ?et0 ?ef0 ?ec0 ?eo0 ?ed0 ?eq0 ?ep0 ?ev0 ?em0 ?ek0 ?ea0 ?eb0 ?eL1 ?eR1 ?eS1 ?eG1 ?eg1 ?en1 ?eI1 ?et1 ?ef1 ?ec1 ?eo1 ?ed1 ?eq1 ?ep1 ?ev1 ?em1 ?ek1 ?ea1 ?eb1 ?ez0_1 ?ez0_1n ?ez0_2 ?ez0_2n ?ey0_ValueError ?ez1_0 ?ez1_0n ?ez1_2 ?ez1_2n ?ey1_ValueError ?ex0_0 ?ex1_1
    (case o0g => k_is)
    (case a0 => k_is)
    (case l0 => k_is)
    (case c0 => k_is)
    (case k0 => k_is)
    (case a1 => k_is)
    (case l1 => k_is)
    (case c1 => k_is)
    (case k1 => k_is)
    (case a2 => k_is)
    (case l2 => k_is)
    (case c2 => k_is)
    (case k2 => k_is)
    (case a3 => k_is)
    (case l3 => k_is)
    (case c3 => k_is)
    (case k3 => k_is)
    (case a4 => k_is)
    (case l4 => k_is)
    (case c4 => k_is)
    (case k4 => k_is)
    (case a5 => k_is)
    (case l5 => k_is)
    (case c5 => k_is)
    (case k5 => k_is)
    (case a6 => k_is)
    (case l6 => k_is)
    (case c6 => k_is)
    (case k6 => k_is)
    (case a7 => k_is)
    (case l7 => k_is)
    (case c7 => k_is)
    (case k7 => k_is)
    (case a8 => k_is)
    (case l8 => k_is)
    (case c8 => k_is)
    (case k8 => k_is)
    (case a9 => k_is)
    (case l9 => k_is)
    (case c9 => k_is)
    (case k9 => k_is)
    (case a10 => k_is)
    (case l10 => k_is)
    (case c10 => k_is)
    (case k10 => k_is)
    (case a11 => k_is)
    (case l11 => k_is)
    (case c11 => k_is)
    (case k11 => k_is)
    (case a12 => k_is)
    (case l12 => k_is)
    (case c12 => k_is)
    (case k12 => k_is)
    (case a13 => k_is)
    (case l13 => k_is)
    (case c13 => k_is)
    (case k13 => k_is)
    (case a14 => k_is)
    (case l14 => k_is)
    (case c14 => k_is)
    (case k14 => k_is)
    (case a15 => k_is)
    (case l15 => k_is)
    (case c15 => k_is)
    (case k15 => k_is)
    (case a16 => k_is)
    (case l16 => k_is)
    (case c16 => k_is)
    (case k16 => k_is)
    (case a17 => k_is)
    (case l17 => k_is)
    (case c17 => k_is)
    (case k17 => k_is)
    (case a18 => k_is)
    (case l18 => k_is)
    (case c18 => k_is)
    (case k18 => k_is)
    (case a19 => k_is)
    (case l19 => k_is)
    (case c19 => k_is)
    (case k19 => k_is)
    (case a20 => k_is)
    (case l20 => k_is)
    (case c20 => k_is)
    (case k20 => k_is)
    (case a21 => k_is)
    (case l21 => k_is)
    (case c21 => k_is)
    (case k21 => k_is)
    (case a22 => k_is)
    (case l22 => k_is)
    (case c22 => k_is)
    (case k22 => k_is)
    (case a23 => k_is)
    (case l23 => k_is)
    (case c23 => k_is)
    (case k23 => k_is)
    (case a24 => k_is)
    (case l24 => k_is)
    (case c24 => k_is)
    (case k24 => k_is)
    (case a25 => k_is)
    (case l25 => k_is)
    (case c25 => k_is)
    (case k25 => k_is)
    (case a26 => k_is)
    (case l26 => k_is)
    (case c26 => k_is)
    (case k26 => k_is)
    (case a27 => k_is)
    (case l27 => k_is)
    (case c27 => k_is)
    (case k27 => k_is)
    (case a28 => k_is)
    (case l28 => k_is)
    (case c28 => k_is)
    (case k28 => k_is)
    (case a29 => k_is)
    (case l29 => k_is)
    (case c29 => k_is)
    (case k29 => k_is)
    (case a30 => k_is)
    (case l30 => k_is)
    (case c30 => k_is)
    (case k30 => k_is)
    (case a31 => k_is)
    (case l31 => k_is)
    (case c31 => k_is)
    (case k31 => k_is)
    (case a32 => k_is)
    (case l32 => k_is)
    (case c32 => k_is)
    (case k32 => k_is)
    (case a33 => k_is)
    (case l33 => k_is)
    (case c33 => k_is)
    (case k33 => k_is)
    (case a34 => k_is)
    (case l34 => k_is)
    (case c34 => k_is)
    (case k34 => k_is)
    (case z0 => k_is)
    (case z1 => k_is)
    (case z2 => k_is)
    (case z3 => k_is)
    (case z4 => k_is)
    (case z5 => k_is)
    (case z6 => k_is)
    (case z7 => k_is)
    (case z8 => k_is)
    (case z9 => k_is)
    (case z10 => k_is)
    (case z11 => k_is)
    (case o0a => k_is)
    (case o0b => k_is)
    (case o0c => k_is)
    (case o0d => k_is)
    (case o0e => k_is)
    (case o0f => k_is)
    (case o0h => k_is)
    (case o0i => k_is)
    (case o0j => k_is)
    (case o0q => k_is)
    (case o0n0 => k_is)
    (case o0n1 => k_is)
    (case o0k => k_is)
    (case o0l => k_is)
    (case fn1 => k_is)
    (case fn2 => k_is)
    (case fn3 => k_is)
    (case fn4 => k_is)
    (case fn5 => k_is)
    (case o0s => k_is)
    (case o0t => k_is)
    (case z12 => k_is)
    (case z13 => k_is)
    (case y13 => k_is)
    (case es0 => k_is)
    (case es1 => k_is)
    (case es2 => k_is)
    (case es3 => k_is)
    (case eC0 => k_is)
    (case eB0 => k_is)
    (case eH0 => k_is)
    (case eT0 => k_is)
    (case eC1 => k_is)
    (case eB1 => k_is)
    (case eH1 => k_is)
    (case eT1 => k_is)
    (case eC2 => k_is)
    (case eB2 => k_is)
    (case eH2 => k_is)
    (case eT2 => k_is)
    (case eL0 => k_is)
    (case eR0 => decide +kernel)
    (case eS0 => k_is)
    (case eG0 => k_is)
    (case eg0 => k_is)
    (case en0 => k_is)
    (case eI0 => k_is)
    (case et0 => k_is)
    (case ef0 => k_is)
    (case ec0 => k_is)
    (case eo0 => k_is)
    (case ed0 => k_is)
    (case eq0 => rfl)
    (case ep0 => ks_is)
    (case ev0 => k_is)
    (case em0 => k_is)
    (case ek0 => k_is)
    (case ea0 => k_is)
    (case eb0 => k_is)
    (case eL1 => k_is)
    (case eR1 => decide +kernel)
    (case eS1 => k_is)
    (case eG1 => k_is)
    (case eg1 => k_is)
    (case en1 => k_is)
    (case eI1 => k_is)
    (case et1 => k_is)
    (case ef1 => k_is)
    (case ec1 => k_is)
    (case eo1 => k_is)
    (case ed1 => k_is)
    (case eq1 => rfl)
    (case ep1 => ks_is)
    (case ev1 => k_is)
    (case em1 => k_is)
    (case ek1 => k_is)
    (case ea1 => k_is)
    (case eb1 => k_is)
    (case ez0_1 => k_is)
    (case ez0_1n => rfl)
    (case ez0_2 => k_is)
    (case ez0_2n => rfl)
    (case ey0_ValueError => k_is)
    (case ez1_0 => k_is)
    (case ez1_0n => rfl)
    (case ez1_2 => k_is)
    (case ez1_2n => rfl)
    (case ey1_ValueError => k_is)
    (case ex0_0 => k_is)
    (case ex1_1 => k_is)
