import PyProof.Rows.All
import Wide.All
import OpenK.AllK
import Wide.FinOn
import HandS.ForMost
import HandS.Exc
import HandS.TryOnly
import HandS.ExcOwn
import HandS.ExcBuiltin
import HandS.WordsExc
import HandS.IsInst
import HandS.Defaults
import HandS.Star
import HandS.Flow
import HandS.Wide
import HandS.Gcd
import HandS.Evl
import HandS.CallSlots
import KE.KExcSuper
import HandS.ExcInit
import HandS.FStr
import HandS.ExcIs
import HandS.ExcField
import KE.KExcIs
import KE.KOpsOwn
import KE.KCallOwn
import HandS.OwnEq
import PyProof.ListMulRight
import HandS.Codes
import HandS.SlotsOwn
import PyProof.Rows.TmSorted
import PyProof.Rows.StrMeet
import HandS.Walk
import HandS.RaiseMore
import HandS.TupAny
import HandS.Conv
import PyProof.Rows.StrDigitsNeg
import PySem.Challenge.RW_metehouse_k02_forms_written_and_put
set_option Elab.async false
set_option linter.all false
set_option maxRecDepth 100000
set_option maxHeartbeats 4000000
namespace My
open PySem PySem.Spec PyProof.Rows L2 StX
/-! ### rules of my own -/
section
variable {X : Cx}
/-- floor division by any divisor that is not 0, below 2 ^ 9000 in size -/
theorem op_fdivWN : OpR X (binaryOp .FloorDiv) (rI (fun _ j => j ≠ 0 ∧ j.natAbs.log2 < 9000) fun i j => .int (i.fdiv j)) :=
  opI fun _ _ _ _ _ _ _ hc q => floordiv_int hc.1 q (.inl (PyProof.noPylong_of_log2 hc.2))
theorem op_mulG : OpR X (binaryOp .Mult) (rI (fun i j => CMul i j ∨ CMulW i j) fun i j => .int (i * j)) := opI fun _ _ _ _ _ _ _ hc q => mul_int q (hc.elim CMul.ok CMulW.ok)
variable {CX : CXT} {k : Nat} {f : Addr} {sp : Sp} {E : XK} {x : Str} {p pos : Pos} {e : Expr} {es : List Expr} {t : TA}
/-- a call of a def whose promise is told raw -/
theorem pe_callR (F : FnR X.prog X.w X.K X.mg X.base CX k f sp) (hr : Room k X.A) (hg : Gl X x) (hm : X.mg x = some (.ref f)) (hk : PySem.W.keepIn X.K (.ref f) = true) (hx : Passes CX X E)
    (ha : PA X (e :: es) t) (hdb : (x == ("__debug__" : Str)) = false := by decide) (he : starEach (e :: es) X.env = (false, eval e X.env) :: starEach es X.env := by rfl) (hpl : (backTo pos (starEach es X.env)).any (·.1) = false := by rfl) :
    PE X (.Call (.Name x p) (e :: es) [] pos) (fun σ H Q => t σ H fun vs H1 => sp vs H1 Q E) := by
  refine ⟨fun pins s σ H Q I h => ?_⟩
  refine wpAny_Call_Name_kw (ld_glob I hg hm ?_ hdb)
  refine PySem.W.callWith_K (h₀ := X.base) I.ok.mod.kin hk (thn (ha.run pos pins s σ H _ I h) fun us s1 ⟨vs, H1, I1, r, q⟩ => ⟨I1.kIn, ?_⟩) he hpl
  exact wpAny_call (run_fnR F hr hx I1 r q)
theorem pe_callR0 (F : FnR X.prog X.w X.K X.mg X.base CX k f sp) (hr : Room k X.A) (hg : Gl X x) (hm : X.mg x = some (.ref f)) (hk : PySem.W.keepIn X.K (.ref f) = true) (hx : Passes CX X E)
    (hdb : (x == ("__debug__" : Str)) = false := by decide) : PE X (.Call (.Name x p) [] [] pos) (fun σ H Q => sp [] H Q E) := by
  refine ⟨fun pins s σ H Q I h => ?_⟩
  refine wpAny_Call_Name_kw (ld_glob I hg hm ?_ hdb)
  exact PySem.W.callWith_K0 I.kIn hk (wpAny_call (run_fnR (us := []) F hr hx I .nil h))
end
section
variable {P : Program} {w : World} {K : PySem.W.Frag} {mg : Str → Option Value} {base : Heap}
/-- def f(a, .., *v) that lets nothing out -/
theorem Fun.okStar {x qual : Str} {st : Stmt} {f : Addr} {fd : FuncData} {N ps : List Str} {pv : Str} {k : Nat} {sp : Sp} (F : Fun K x qual st f fd) (S : FnScope N (ps ++ [pv]) (defScope st))
    (hb : ∀ (kV doc pm : Value) (an : Option Addr) (cdv ct : Value) (us rest : List Value), us.length = ps.length → bindArgs (PySem.W.fnOf x qual (defArgs st) (defBody st) (defScope st) .none kV doc pm an cdv ct) ⟨us ++ rest, []⟩ = (newTuple rest >>= fun t => pure (ps.zip us ++ [(pv, t)])))
    (hbody : ∀ (cdv : Value) (A : Around) (outer : List Env) (s : Shared) (H : Hp) (vs : List V) (Q : VK) (E : XK), Room k (A.deeper (envOfC qual (defScope st) s.heap.objs.size f cdv)) → sp vs H Q E →
      ∃ t, PSs (cxOf CX0 P w K mg base N qual (defScope st) f cdv A outer s H E).nox (defBody st) t ∧ t { nx := fun _ H' => Q .non H', rt := Q } (start N vs) H) :
    FnR P w K mg base CX0 (k + 1) f (fun vs H Q E => ∃ ws rest, vs = ws ++ rest ∧ ws.length = ps.length ∧ rest.length ≤ sizeLine ∧ ∀ p, H p = Option.none → sp (ws ++ [V.ref p]) (upd H p (.tup rest)) Q E) := by
  obtain ⟨oc, od, kV, doc, pm, an, cdv, ct, osl, rfl, lk, hcd⟩ := F.ex
  refine fn_star lk hcd S cxUp_none (hb kV doc pm an cdv ct) fun A outer s H vs Q E hr hsp => ?_
  obtain ⟨t, h, q⟩ := hbody cdv A outer s H vs Q E hr hsp
  exact ⟨t, h.nox, q⟩
end
/-! ### heaps: what is kept but at some addresses -/
def Keep (M : List Addr) (H H' : Hp) : Prop := ∀ b o, b ∉ M → H b = some o → H' b = some o
theorem Keep.refl (M : List Addr) (H : Hp) : Keep M H H := fun _ _ _ h => h
theorem Keep.trans {M : List Addr} {H H1 H2 : Hp} (a : Keep M H H1) (b : Keep M H1 H2) : Keep M H H2 := fun c o n h => b c o n (a c o n h)
theorem Keep.new {M : List Addr} {H : Hp} {p : Addr} {o : HO} (h : H p = none) : Keep M H (upd H p o) := fun b u _ e => by
  rw [upd_ne (ne_of_none e h)]; exact e
theorem Keep.at {M : List Addr} {H : Hp} {p : Addr} {o : HO} (h : p ∈ M) : Keep M H (upd H p o) := fun b u n e => by
  rw [upd_ne (fun z => n (by rw [z]; exact h))]; exact e
/-- an object that H does not know may change -/
theorem Keep.mut {M : List Addr} {H H' : Hp} {p : Addr} {o : HO} (e : Keep M H H') (h : H p = none) : Keep M H (upd H' p o) := fun b u n hb => by
  rw [upd_ne (ne_of_none hb h)]; exact e b u n hb
theorem Keep.mono {M N : List Addr} {H H' : Hp} (e : Keep M H H') (h : ∀ a ∈ M, a ∈ N) : Keep N H H' := fun b o n hb => e b o (fun z => n (h b z)) hb
theorem Keep.rd {M : List Addr} {H H' : Hp} {a : Addr} {u : HO} (e : Keep M H H') (n : a ∉ M) (h : Rd H a u) : Rd H' a u := by
  rcases h with h | ⟨o, h⟩
  · exact Or.inl (e a _ n h)
  · exact Or.inr ⟨o, e a _ n h⟩
theorem Keep.l {M : List Addr} {K : PySem.W.Frag} {H H' : Hp} {a : Addr} {xs : List V} (e : Keep M H H') (n : a ∉ M) (h : SqL K H a xs) : SqL K H' a xs := by
  rcases h with h | h
  · exact Or.inl (e.rd n h)
  · exact Or.inr h
theorem Keep.t {M : List Addr} {K : PySem.W.Frag} {H H' : Hp} {a : Addr} {xs : List V} (e : Keep M H H') (n : a ∉ M) (h : SqT K H a xs) : SqT K H' a xs := by
  rcases h with h | h
  · exact Or.inl (e.rd n h)
  · exact Or.inr h
theorem Keep.free {M : List Addr} {H H' : Hp} (e : Keep M H H') {l : Addr} (n : l ∉ M) (h : H' l = Option.none) : H l = Option.none := by
  cases q : H l with
  | none => rfl
  | some o => rw [e l o n q] at h; cases h
/-- an address that is untracked later, though tracked addresses stay (M's own, too) -/
theorem ne_free {H : Hp} {a p : Addr} {o : HO} (h : H a = some o) (n : H p = none) : p ≠ a := fun e => by rw [e, h] at n; cases n
theorem sqL_of {K : PySem.W.Frag} {H : Hp} {a : Addr} {xs : List V} (h : H a = some (.lst xs)) : SqL K H a xs := Or.inl (Or.inl h)
theorem sqT_of {K : PySem.W.Frag} {H : Hp} {a : Addr} {xs : List V} (h : H a = some (.tup xs)) : SqT K H a xs := Or.inl (Or.inl h)
theorem le_size {n : Nat} (h : n ≤ 100000) : n ≤ sizeLine := Nat.le_trans h (by decide)
theorem lt_size {n : Nat} (h : n < 100000) : n < sizeLine := Nat.lt_of_lt_of_le h (by decide)
theorem ixN_nn {n j : Nat} (h : j < n) : ixN n (j : Int) = some j := by
  unfold ixN; rw [if_pos (by omega), if_pos (by omega), Int.toNat_natCast]
theorem cxOf_K {CX : CXT} {P : Program} {w : World} {K : PySem.W.Frag} {mg : Str → Option Value} {base : Heap} {N : List Str} {qual : Str} {scope : Scope} {f : Addr} {cd : Value} {A : Around} {outer : List Env} {s : Shared} {H : Hp} {E : XK} :
    (cxOf CX P w K mg base N qual scope f cd A outer s H E).K = K := rfl
/-! ### readings, by the head of their terms -/
section
variable {K : PySem.W.Frag} {σ : L2.St} {H : Hp} {Q : VK} {QA : List V → Hp → Prop} {QB : Bool → Hp → Prop} {QO : Option Int → Hp → Prop} {D : Ends} {ta tb te tc : TE} {t u : TT} {ts tr : TS} {r : R2} {v x y : V} {G : TG} {tas : TA}
theorem r_nxE {a b d : L2.St → Hp → Prop} {c : VK} (k : a σ H) : Ends.nx ⟨a, c, b, d⟩ σ H := k
theorem r_bkE {a b d : L2.St → Hp → Prop} {c : VK} (k : b σ H) : Ends.bk ⟨a, c, b, d⟩ σ H := k
theorem r_ctE {a b d : L2.St → Hp → Prop} {c : VK} (k : d σ H) : Ends.ct ⟨a, c, b, d⟩ σ H := k
theorem r_rtE {a b d : L2.St → Hp → Prop} {c : VK} (k : c v H) : Ends.rt ⟨a, c, b, d⟩ v H := k
theorem r_var {i : Nat} (h : σ[i]? = some (some v)) (k : Q v H) : tVar i σ H Q := ⟨v, h, k⟩
theorem r_c (k : Q v H) : tC v σ H Q := k
theorem r_op (k : ta σ H fun x H1 => tb σ H1 fun y H2 => r x y H2 Q) : tOp r ta tb σ H Q := k
theorem r_un {r : V → Hp → VK → Prop} (k : ta σ H fun x H1 => r x H1 Q) : tUn r ta σ H Q := k
theorem r_I0 {g : Int → Int → V} {i j : Int} (k : Q (g i j) H) : rI0 g (.int i) (.int j) H Q := ⟨i, j, rfl, rfl, k⟩
theorem r_I {C : Int → Int → Prop} {g : Int → Int → V} {i j : Int} (c : C i j) (k : Q (g i j) H) : rI C g (.int i) (.int j) H Q := ⟨i, j, rfl, rfl, c, k⟩
theorem r_U {g : Int → V} {i : Int} (k : Q (g i) H) : rU g (.int i) H Q := ⟨i, rfl, k⟩
theorem dec_int {i j : Int} : decide (V.int i = V.int j) = decide (i = j) := by
  by_cases h : i = j
  · subst h; simp
  · rw [decide_eq_false h, decide_eq_false (fun e => h (V.int.inj e))]
theorem dec_str {i j : Str} : decide (V.str i = V.str j) = decide (i = j) := by
  by_cases h : i = j
  · subst h; simp
  · rw [decide_eq_false h, decide_eq_false (fun e => h (V.str.inj e))]
theorem dec_bl {i j : Bool} : decide (V.bl i = V.bl j) = decide (i = j) := by
  by_cases h : i = j
  · subst h; simp
  · rw [decide_eq_false h, decide_eq_false (fun e => h (V.bl.inj e))]
theorem r_eqI {i j : Int} (k : Q (.bl (decide (i = j))) H) : rEq (.int i) (.int j) H Q := ⟨rfl, by rw [dec_int]; exact k⟩
theorem r_neI {i j : Int} (k : Q (.bl (!decide (i = j))) H) : rNe (.int i) (.int j) H Q := ⟨rfl, by rw [dec_int]; exact k⟩
theorem r_eqS {i j : Str} (k : Q (.bl (decide (i = j))) H) : rEq (.str i) (.str j) H Q := ⟨rfl, by rw [dec_str]; exact k⟩
theorem r_neS {i j : Str} (k : Q (.bl (!decide (i = j))) H) : rNe (.str i) (.str j) H Q := ⟨rfl, by rw [dec_str]; exact k⟩
theorem r_eqB {i j : Bool} (k : Q (.bl (decide (i = j))) H) : rEq (.bl i) (.bl j) H Q := ⟨rfl, by rw [dec_bl]; exact k⟩
theorem r_neB {i j : Bool} (k : Q (.bl (!decide (i = j))) H) : rNe (.bl i) (.bl j) H Q := ⟨rfl, by rw [dec_bl]; exact k⟩
theorem r_test (k : te σ H fun x H' => ∃ k, x = .bl k ∧ QB k H') : tTest te σ H QB := k
theorem r_tB (k : te σ H fun x H' => ∃ k, x = .bl k ∧ QB k H') : tB te σ H QB := k
theorem r_bl {b : Bool} {P : Bool → Prop} (k : P b) : ∃ c, V.bl b = .bl c ∧ P c := ⟨b, rfl, k⟩
theorem r_and (k : t σ H fun c H1 => if c = true then u σ H1 QB else QB false H1) : tAnd t u σ H QB := k
theorem r_or (k : t σ H fun c H1 => if c = true then QB true H1 else u σ H1 QB) : tOr t u σ H QB := k
theorem r_not (k : t σ H fun c H1 => QB (!c) H1) : tNot t σ H QB := k
theorem r_andV (k : ta σ H fun x H1 => ∃ c, x = .bl c ∧ if c = true then tb σ H1 Q else Q (.bl false) H1) : tAndV ta tb σ H Q := k
theorem r_orV (k : ta σ H fun x H1 => ∃ c, x = .bl c ∧ if c = true then Q (.bl true) H1 else tb σ H1 Q) : tOrV ta tb σ H Q := k
theorem r_notV (k : ta σ H fun x H1 => ∃ c, x = .bl c ∧ Q (.bl (!c)) H1) : tNotV ta σ H Q := k
theorem r_if (k : t σ H fun c H1 => if c = true then ta σ H1 Q else tb σ H1 Q) : tIf t ta tb σ H Q := k
theorem r_chain {r' : R2} (k : ta σ H fun x H1 => tb σ H1 fun y H2 => r x y H2 fun z H3 => ∃ k, z = .bl k ∧ (if k = true then tc σ H3 fun w' H4 => r' y w' H4 Q else Q (.bl false) H3)) : tChain r r' ta tb tc σ H Q := k
theorem r_seq (k : ts { D with nx := tr D } σ H) : tSeq ts tr D σ H := k
theorem r_asg (k : te σ H fun x H1 => G x σ H1 D.nx) : tAsg te G D σ H := k
theorem r_gName {i : Nat} {Q : L2.St → Hp → Prop} (k : Q (σ.set i (some v)) H) : gName i v σ H Q := k
theorem r_gName0 {x0 : Option V} {Q : L2.St → Hp → Prop} (k : Q (some v :: σ) H) : gName 0 v (x0 :: σ) H Q := k
theorem r_gName1 {x0 x1 : Option V} {Q : L2.St → Hp → Prop} (k : Q (x0 :: some v :: σ) H) : gName 1 v (x0 :: x1 :: σ) H Q := k
theorem r_gName2 {x0 x1 x2 : Option V} {Q : L2.St → Hp → Prop} (k : Q (x0 :: x1 :: some v :: σ) H) : gName 2 v (x0 :: x1 :: x2 :: σ) H Q := k
theorem r_gName3 {x0 x1 x2 x3 : Option V} {Q : L2.St → Hp → Prop} (k : Q (x0 :: x1 :: x2 :: some v :: σ) H) : gName 3 v (x0 :: x1 :: x2 :: x3 :: σ) H Q := k
theorem r_gName4 {x0 x1 x2 x3 x4 : Option V} {Q : L2.St → Hp → Prop} (k : Q (x0 :: x1 :: x2 :: x3 :: some v :: σ) H) : gName 4 v (x0 :: x1 :: x2 :: x3 :: x4 :: σ) H Q := k
theorem r_gName5 {x0 x1 x2 x3 x4 x5 : Option V} {Q : L2.St → Hp → Prop} (k : Q (x0 :: x1 :: x2 :: x3 :: x4 :: some v :: σ) H) : gName 5 v (x0 :: x1 :: x2 :: x3 :: x4 :: x5 :: σ) H Q := k
theorem r_gName6 {x0 x1 x2 x3 x4 x5 x6 : Option V} {Q : L2.St → Hp → Prop} (k : Q (x0 :: x1 :: x2 :: x3 :: x4 :: x5 :: some v :: σ) H) : gName 6 v (x0 :: x1 :: x2 :: x3 :: x4 :: x5 :: x6 :: σ) H Q := k
theorem r_gName7 {x0 x1 x2 x3 x4 x5 x6 x7 : Option V} {Q : L2.St → Hp → Prop} (k : Q (x0 :: x1 :: x2 :: x3 :: x4 :: x5 :: x6 :: some v :: σ) H) : gName 7 v (x0 :: x1 :: x2 :: x3 :: x4 :: x5 :: x6 :: x7 :: σ) H Q := k
theorem r_gName8 {x0 x1 x2 x3 x4 x5 x6 x7 x8 : Option V} {Q : L2.St → Hp → Prop} (k : Q (x0 :: x1 :: x2 :: x3 :: x4 :: x5 :: x6 :: x7 :: some v :: σ) H) : gName 8 v (x0 :: x1 :: x2 :: x3 :: x4 :: x5 :: x6 :: x7 :: x8 :: σ) H Q := k
theorem r_gName9 {x0 x1 x2 x3 x4 x5 x6 x7 x8 x9 : Option V} {Q : L2.St → Hp → Prop} (k : Q (x0 :: x1 :: x2 :: x3 :: x4 :: x5 :: x6 :: x7 :: x8 :: some v :: σ) H) : gName 9 v (x0 :: x1 :: x2 :: x3 :: x4 :: x5 :: x6 :: x7 :: x8 :: x9 :: σ) H Q := k
theorem r_gName10 {x0 x1 x2 x3 x4 x5 x6 x7 x8 x9 x10 : Option V} {Q : L2.St → Hp → Prop} (k : Q (x0 :: x1 :: x2 :: x3 :: x4 :: x5 :: x6 :: x7 :: x8 :: x9 :: some v :: σ) H) : gName 10 v (x0 :: x1 :: x2 :: x3 :: x4 :: x5 :: x6 :: x7 :: x8 :: x9 :: x10 :: σ) H Q := k
theorem r_gName11 {x0 x1 x2 x3 x4 x5 x6 x7 x8 x9 x10 x11 : Option V} {Q : L2.St → Hp → Prop} (k : Q (x0 :: x1 :: x2 :: x3 :: x4 :: x5 :: x6 :: x7 :: x8 :: x9 :: x10 :: some v :: σ) H) : gName 11 v (x0 :: x1 :: x2 :: x3 :: x4 :: x5 :: x6 :: x7 :: x8 :: x9 :: x10 :: x11 :: σ) H Q := k
theorem r_gName12 {x0 x1 x2 x3 x4 x5 x6 x7 x8 x9 x10 x11 x12 : Option V} {Q : L2.St → Hp → Prop} (k : Q (x0 :: x1 :: x2 :: x3 :: x4 :: x5 :: x6 :: x7 :: x8 :: x9 :: x10 :: x11 :: some v :: σ) H) : gName 12 v (x0 :: x1 :: x2 :: x3 :: x4 :: x5 :: x6 :: x7 :: x8 :: x9 :: x10 :: x11 :: x12 :: σ) H Q := k
theorem r_gName13 {x0 x1 x2 x3 x4 x5 x6 x7 x8 x9 x10 x11 x12 x13 : Option V} {Q : L2.St → Hp → Prop} (k : Q (x0 :: x1 :: x2 :: x3 :: x4 :: x5 :: x6 :: x7 :: x8 :: x9 :: x10 :: x11 :: x12 :: some v :: σ) H) : gName 13 v (x0 :: x1 :: x2 :: x3 :: x4 :: x5 :: x6 :: x7 :: x8 :: x9 :: x10 :: x11 :: x12 :: x13 :: σ) H Q := k
theorem r_gName14 {x0 x1 x2 x3 x4 x5 x6 x7 x8 x9 x10 x11 x12 x13 x14 : Option V} {Q : L2.St → Hp → Prop} (k : Q (x0 :: x1 :: x2 :: x3 :: x4 :: x5 :: x6 :: x7 :: x8 :: x9 :: x10 :: x11 :: x12 :: x13 :: some v :: σ) H) : gName 14 v (x0 :: x1 :: x2 :: x3 :: x4 :: x5 :: x6 :: x7 :: x8 :: x9 :: x10 :: x11 :: x12 :: x13 :: x14 :: σ) H Q := k
theorem r_gName15 {x0 x1 x2 x3 x4 x5 x6 x7 x8 x9 x10 x11 x12 x13 x14 x15 : Option V} {Q : L2.St → Hp → Prop} (k : Q (x0 :: x1 :: x2 :: x3 :: x4 :: x5 :: x6 :: x7 :: x8 :: x9 :: x10 :: x11 :: x12 :: x13 :: x14 :: some v :: σ) H) : gName 15 v (x0 :: x1 :: x2 :: x3 :: x4 :: x5 :: x6 :: x7 :: x8 :: x9 :: x10 :: x11 :: x12 :: x13 :: x14 :: x15 :: σ) H Q := k
theorem r_gName16 {x0 x1 x2 x3 x4 x5 x6 x7 x8 x9 x10 x11 x12 x13 x14 x15 x16 : Option V} {Q : L2.St → Hp → Prop} (k : Q (x0 :: x1 :: x2 :: x3 :: x4 :: x5 :: x6 :: x7 :: x8 :: x9 :: x10 :: x11 :: x12 :: x13 :: x14 :: x15 :: some v :: σ) H) : gName 16 v (x0 :: x1 :: x2 :: x3 :: x4 :: x5 :: x6 :: x7 :: x8 :: x9 :: x10 :: x11 :: x12 :: x13 :: x14 :: x15 :: x16 :: σ) H Q := k
theorem r_gName17 {x0 x1 x2 x3 x4 x5 x6 x7 x8 x9 x10 x11 x12 x13 x14 x15 x16 x17 : Option V} {Q : L2.St → Hp → Prop} (k : Q (x0 :: x1 :: x2 :: x3 :: x4 :: x5 :: x6 :: x7 :: x8 :: x9 :: x10 :: x11 :: x12 :: x13 :: x14 :: x15 :: x16 :: some v :: σ) H) : gName 17 v (x0 :: x1 :: x2 :: x3 :: x4 :: x5 :: x6 :: x7 :: x8 :: x9 :: x10 :: x11 :: x12 :: x13 :: x14 :: x15 :: x16 :: x17 :: σ) H Q := k
theorem r_gName18 {x0 x1 x2 x3 x4 x5 x6 x7 x8 x9 x10 x11 x12 x13 x14 x15 x16 x17 x18 : Option V} {Q : L2.St → Hp → Prop} (k : Q (x0 :: x1 :: x2 :: x3 :: x4 :: x5 :: x6 :: x7 :: x8 :: x9 :: x10 :: x11 :: x12 :: x13 :: x14 :: x15 :: x16 :: x17 :: some v :: σ) H) : gName 18 v (x0 :: x1 :: x2 :: x3 :: x4 :: x5 :: x6 :: x7 :: x8 :: x9 :: x10 :: x11 :: x12 :: x13 :: x14 :: x15 :: x16 :: x17 :: x18 :: σ) H Q := k
theorem r_gName19 {x0 x1 x2 x3 x4 x5 x6 x7 x8 x9 x10 x11 x12 x13 x14 x15 x16 x17 x18 x19 : Option V} {Q : L2.St → Hp → Prop} (k : Q (x0 :: x1 :: x2 :: x3 :: x4 :: x5 :: x6 :: x7 :: x8 :: x9 :: x10 :: x11 :: x12 :: x13 :: x14 :: x15 :: x16 :: x17 :: x18 :: some v :: σ) H) : gName 19 v (x0 :: x1 :: x2 :: x3 :: x4 :: x5 :: x6 :: x7 :: x8 :: x9 :: x10 :: x11 :: x12 :: x13 :: x14 :: x15 :: x16 :: x17 :: x18 :: x19 :: σ) H Q := k
theorem r_ret (k : te σ H D.rt) : tRet te D σ H := k
theorem r_retN (k : D.rt .non H) : tRetN D σ H := k
theorem r_drop (k : te σ H fun _ H1 => D.nx σ H1) : tDrop te D σ H := k
theorem r_ifS (k : t σ H fun b H1 => if b = true then ts D σ H1 else tr D σ H1) : tIfS t ts tr D σ H := k
theorem r_next (k : D.nx σ H) : tNext D σ H := k
theorem r_cont (k : D.ct σ H) : tCont D σ H := k
theorem r_break (k : D.bk σ H) : tBreak D σ H := k
theorem r_cb {r : List V → Hp → VK → Prop} (k : tas σ H fun vs H1 => r vs H1 Q) : tCB r tas σ H Q := k
theorem r_cons (k : ta σ H fun x H1 => tas σ H1 fun xs H2 => QA (x :: xs) H2) : tCons ta tas σ H QA := k
theorem r_nil (k : QA [] H) : tNil σ H QA := k
theorem r_call {sp : Sp} {dvs : List V} {E : XK} (k : tas σ H fun vs H1 => sp (vs ++ dvs) H1 Q E) : tCall sp dvs E tas σ H Q := k
theorem r_lst (k : tas σ H fun xs H1 => xs.length ≤ sizeLine ∧ ∀ p, H1 p = none → Q (.ref p) (upd H1 p (.lst xs))) : tLst tas σ H Q := k
theorem r_tup (k : tas σ H fun xs H1 => xs.length ≤ sizeLine ∧ ∀ p, H1 p = none → Q (.ref p) (upd H1 p (.tup xs))) : tTup tas σ H Q := k
theorem r_ixL {p : Addr} {xs : List V} {i : Int} (h : SqL K H p xs) (h2 : atI xs i = some v) (k : Q v H) : rIxL K (.ref p) (.int i) H Q := ⟨p, xs, i, v, rfl, rfl, h, h2, k⟩
theorem r_ixT {p : Addr} {xs : List V} {i : Int} (h : SqT K H p xs) (h2 : atI xs i = some v) (k : Q v H) : rIxT K (.ref p) (.int i) H Q := ⟨p, xs, i, v, rfl, rfl, h, h2, k⟩
theorem r_gSub {to ti : TE} {s : TSet} {Q : L2.St → Hp → Prop} (k : to σ H fun o H1 => ti σ H1 fun i H2 => s o i v H2 fun H3 => Q σ H3) : gSub to ti s v σ H Q := k
theorem r_setL {p : Addr} {xs : List V} {i : Int} {j : Nat} {Q : Hp → Prop} (h : H p = some (.lst xs)) (h2 : ixN xs.length i = some j) (k : Q (upd H p (.lst (xs.set j v)))) : rSetL (.ref p) (.int i) v H Q := ⟨p, xs, i, j, rfl, rfl, h, h2, k⟩
theorem r_setP0 {p : Addr} {x0 : V} {xs : List V} {Q : Hp → Prop} (h : H p = some (.lst (x0 :: xs))) (k : Q (upd H p (.lst (v :: xs)))) : rSetL (.ref p) (.int 0) v H Q := ⟨p, _, 0, 0, rfl, rfl, h, ixN_nn (j := 0) (by simp), k⟩
theorem r_setP1 {p : Addr} {x0 x1 : V} {xs : List V} {Q : Hp → Prop} (h : H p = some (.lst (x0 :: x1 :: xs))) (k : Q (upd H p (.lst (x0 :: v :: xs)))) : rSetL (.ref p) (.int 1) v H Q := ⟨p, _, 1, 1, rfl, rfl, h, ixN_nn (j := 1) (by simp), k⟩
theorem r_setP2 {p : Addr} {x0 x1 x2 : V} {xs : List V} {Q : Hp → Prop} (h : H p = some (.lst (x0 :: x1 :: x2 :: xs))) (k : Q (upd H p (.lst (x0 :: x1 :: v :: xs)))) : rSetL (.ref p) (.int 2) v H Q := ⟨p, _, 2, 2, rfl, rfl, h, ixN_nn (j := 2) (by simp), k⟩
theorem r_setP3 {p : Addr} {x0 x1 x2 x3 : V} {xs : List V} {Q : Hp → Prop} (h : H p = some (.lst (x0 :: x1 :: x2 :: x3 :: xs))) (k : Q (upd H p (.lst (x0 :: x1 :: x2 :: v :: xs)))) : rSetL (.ref p) (.int 3) v H Q := ⟨p, _, 3, 3, rfl, rfl, h, ixN_nn (j := 3) (by simp), k⟩
theorem r_cut (M : L2.St → Hp → Prop) (h : ts { D with nx := M } σ H) (k : ∀ σ' H', M σ' H' → tr D σ' H') : Evl.tCut ts tr D σ H := ⟨M, h, k⟩
theorem r_sl {r : V → Option Int → Option Int → Hp → VK → Prop} {tl th : TO} (k : te σ H fun x H1 => tl σ H1 fun l H2 => th σ H2 fun u H3 => r x l u H3 Q) : tSl r te tl th σ H Q := k
theorem r_ite {p : Prop} {_i : Decidable p} {A B : Prop} (h1 : p → A) (h2 : ¬ p → B) : if decide p = true then A else B := by
  by_cases h : p
  · rw [if_pos (decide_eq_true h)]; exact h1 h
  · rw [if_neg (by rw [decide_eq_false h]; decide)]; exact h2 h
theorem r_iteN {p : Prop} {_i : Decidable p} {A B : Prop} (h1 : ¬ p → A) (h2 : p → B) : if (!decide p) = true then A else B := by
  by_cases h : p
  · rw [if_neg (by rw [decide_eq_true h]; decide)]; exact h2 h
  · rw [if_pos (by rw [decide_eq_false h]; rfl)]; exact h1 h
theorem r_iteT {p : Prop} [Decidable p] {A B : Prop} (h : p) (k : A) : if decide p = true then A else B := by
  rw [if_pos (decide_eq_true h)]; exact k
theorem r_iteF {p : Prop} [Decidable p] {A B : Prop} (h : ¬ p) (k : B) : if decide p = true then A else B := by
  rw [if_neg (by rw [decide_eq_false h]; decide)]; exact k
theorem r_iteNT {p : Prop} [Decidable p] {A B : Prop} (h : ¬ p) (k : A) : if (!decide p) = true then A else B := by
  rw [if_pos (by rw [decide_eq_false h]; rfl)]; exact k
theorem r_iteNF {p : Prop} [Decidable p] {A B : Prop} (h : p) (k : B) : if (!decide p) = true then A else B := by
  rw [if_neg (by rw [decide_eq_true h]; decide)]; exact k
theorem r_iteb {b : Bool} {A B : Prop} (h1 : b = true → A) (h2 : b = false → B) : if b = true then A else B := by
  cases b with
  | true => rw [if_pos rfl]; exact h1 rfl
  | false => rw [if_neg (by decide)]; exact h2 rfl
theorem r_itebN {b : Bool} {A B : Prop} (h1 : b = false → A) (h2 : b = true → B) : if (!b) = true then A else B := by
  cases b with
  | true => exact (if_neg (by decide : ¬ (!true) = true)).mpr (h2 rfl)
  | false => exact (if_pos (by decide : (!false) = true)).mpr (h1 rfl)
theorem r_int1 {i : Int} {F : Int → Prop} {G : Bool → Prop} (k : F i) : (∃ j, [V.int i] = [.int j] ∧ F j) ∨ ∃ b, [V.int i] = [.bl b] ∧ G b := .inl ⟨i, rfl, k⟩
theorem r_intB {b : Bool} {F : Int → Prop} {G : Bool → Prop} (k : G b) : (∃ j, [V.bl b] = [.int j] ∧ F j) ∨ ∃ c, [V.bl b] = [.bl c] ∧ G c := .inr ⟨b, rfl, k⟩
theorem r_lenL {p : Addr} {xs : List V} {F : List V → Prop} (h : SqL K H p xs) (k : F xs) : ∃ q ys, [V.ref p] = [.ref q] ∧ (SqL K H q ys ∨ SqT K H q ys) ∧ F ys := ⟨p, xs, rfl, .inl h, k⟩
theorem r_lenT {p : Addr} {xs : List V} {F : List V → Prop} (h : SqT K H p xs) (k : F xs) : ∃ q ys, [V.ref p] = [.ref q] ∧ (SqL K H q ys ∨ SqT K H q ys) ∧ F ys := ⟨p, xs, rfl, .inr h, k⟩
theorem abs_if {i : Int} : (if i < 0 then -i else i) = (i.natAbs : Int) := by split <;> omega
theorem max_if {i j : Int} : (if j > i then j else i) = max i j := by split <;> omega
theorem r_in1 {i : Int} {F : Int → Prop} (k : F i) : ∃ j, [V.int i] = [.int j] ∧ F j := ⟨i, rfl, k⟩
theorem r_in2 {i j : Int} {F : Int → Int → Prop} (k : F i j) : ∃ a b, [V.int i, V.int j] = [.int a, .int b] ∧ F a b := ⟨i, j, rfl, k⟩
theorem r_isi {x : V} {T : String} {b : Bool} {ty : String} (ty1 : TyX K H x (.type ty)) (h : kitB ty T = some b) (k : Q (.bl b) H) : rIsi K [x, .ty T] H Q :=
  ⟨x, .ty T, .type ty, .type T, b, rfl, .ty T, ty1, kit_ty h, k⟩
end
/-! ### loops -/
def ForR1 (G : TG) (ts : TS) (D : Ends) (σ : L2.St) (vs : List V) (H : Hp) : Prop := ∃ j : Int, vs = [.int j] ∧ -(2 ^ 62) ≤ j ∧ j < 2 ^ 62 ∧ ∃ W : Nat → Nat → L2.St → Hp → Prop, (∃ m, W 0 m σ H) ∧ ∀ i m σ H, W i m σ H →
  ((Itr 0 j.toNat).stop i H ∧ D.nx σ H) ∨ ((Itr 0 j.toNat).go i H ∧ ∃ N : L2.St → Hp → Prop, (∀ σ' H', N σ' H' → ∃ m', m' < m ∧ W (i + 1) m' σ' H') ∧ ∀ x H', (Itr 0 j.toNat).yld i H x H' → G x σ H' fun σ2 H2 => ts { D with nx := N, ct := N, bk := D.nx } σ2 H2)
def ForR2 (G : TG) (ts : TS) (D : Ends) (σ : L2.St) (vs : List V) (H : Hp) : Prop := ∃ i j : Int, vs = [.int i, .int j] ∧ (-(2 ^ 62) ≤ i ∧ i < 2 ^ 62 ∧ -(2 ^ 62) ≤ j ∧ j < 2 ^ 62) ∧ ∃ W : Nat → Nat → L2.St → Hp → Prop, (∃ m, W 0 m σ H) ∧ ∀ k m σ H, W k m σ H →
  ((Itr i (j - i).toNat).stop k H ∧ D.nx σ H) ∨ ((Itr i (j - i).toNat).go k H ∧ ∃ N : L2.St → Hp → Prop, (∀ σ' H', N σ' H' → ∃ m', m' < m ∧ W (k + 1) m' σ' H') ∧ ∀ x H', (Itr i (j - i).toNat).yld k H x H' → G x σ H' fun σ2 H2 => ts { D with nx := N, ct := N, bk := D.nx } σ2 H2)
def ForL (K : PySem.W.Frag) (G : TG) (ts : TS) (D : Ends) (σ : L2.St) (v : V) (H : Hp) : Prop := ∃ a, v = .ref a ∧ (∃ xs, SqL K H a xs) ∧ ∃ W : Nat → Nat → L2.St → Hp → Prop, (∃ m, W 0 m σ H) ∧ ∀ i m σ H, W i m σ H →
  ((Itl K a).stop i H ∧ D.nx σ H) ∨ ((Itl K a).go i H ∧ ∃ N : L2.St → Hp → Prop, (∀ σ' H', N σ' H' → ∃ m', m' < m ∧ W (i + 1) m' σ' H') ∧ ∀ x H', (Itl K a).yld i H x H' → G x σ H' fun σ2 H2 => ts { D with nx := N, ct := N, bk := D.nx } σ2 H2)
def ForT (K : PySem.W.Frag) (G : TG) (ts : TS) (D : Ends) (σ : L2.St) (v : V) (H : Hp) : Prop := ∃ a, v = .ref a ∧ (∃ xs, SqT K H a xs) ∧ ∃ W : Nat → Nat → L2.St → Hp → Prop, (∃ m, W 0 m σ H) ∧ ∀ i m σ H, W i m σ H →
  ((Itt K a).stop i H ∧ D.nx σ H) ∨ ((Itt K a).go i H ∧ ∃ N : L2.St → Hp → Prop, (∀ σ' H', N σ' H' → ∃ m', m' < m ∧ W (i + 1) m' σ' H') ∧ ∀ x H', (Itt K a).yld i H x H' → G x σ H' fun σ2 H2 => ts { D with nx := N, ct := N, bk := D.nx } σ2 H2)
section
variable {K : PySem.W.Frag} {σ : L2.St} {H : Hp} {Q : VK} {D : Ends} {te tl : TE} {tt c : TT} {ts : TS} {G : TG} {tas : TA} {v : V} {vs : List Nat}
theorem r_forR1 (k : tas σ H fun vs H1 => ForR1 G ts D σ vs H1) : tFor (iRng1 tas) G ts D σ H := k
theorem r_forR2 (k : tas σ H fun vs H1 => ForR2 G ts D σ vs H1) : tFor (iRng2 tas) G ts D σ H := k
theorem r_forL (k : tl σ H fun x H1 => ForL K G ts D σ x H1) : tFor (iList K tl) G ts D σ H := k
theorem r_forT (k : tl σ H fun x H1 => ForT K G ts D σ x H1) : tFor (iTup K tl) G ts D σ H := k
theorem forR1_go {j : Int} (Pv : Nat → L2.St → Hp → Prop) (hb : -(2 ^ 62) ≤ j ∧ j < 2 ^ 62) (h0 : Pv 0 σ H)
    (hs : ∀ (i : Nat) σ' H', (i : Int) < j → Pv i σ' H' → G (.int i) σ' H' fun σ2 H2 => ts { D with nx := Pv (i + 1), ct := Pv (i + 1), bk := D.nx } σ2 H2) (hd : ∀ σ' H', Pv j.toNat σ' H' → D.nx σ' H') : ForR1 G ts D σ [.int j] H :=
  ⟨j, rfl, hb.1, hb.2, for_range (lo := 0) Pv h0 (fun i σ' H' hi p => by rw [Int.zero_add]; exact hs i σ' H' (by omega) p) hd⟩
theorem forR2_go {i j : Int} (Pv : Nat → L2.St → Hp → Prop) (hb : -(2 ^ 62) ≤ i ∧ i < 2 ^ 62 ∧ -(2 ^ 62) ≤ j ∧ j < 2 ^ 62) (h0 : Pv 0 σ H)
    (hs : ∀ (k : Nat) σ' H', i + (k : Int) < j → Pv k σ' H' → G (.int (i + k)) σ' H' fun σ2 H2 => ts { D with nx := Pv (k + 1), ct := Pv (k + 1), bk := D.nx } σ2 H2) (hd : ∀ σ' H', Pv (j - i).toNat σ' H' → D.nx σ' H') : ForR2 G ts D σ [.int i, .int j] H :=
  ⟨i, j, rfl, hb, for_range (lo := i) Pv h0 (fun k σ' H' hi p => hs k σ' H' (by omega) p) hd⟩
theorem forL_go {a : Addr} {xs : List V} (Pv : Nat → L2.St → Hp → Prop) (hx : SqL K H a xs) (h0 : Pv 0 σ H) (hl : ∀ i σ' H', i ≤ xs.length → Pv i σ' H' → SqL K H' a xs)
    (hs : ∀ i x σ' H', xs[i]? = some x → Pv i σ' H' → G x σ' H' fun σ2 H2 => ts { D with nx := Pv (i + 1), ct := Pv (i + 1), bk := D.nx } σ2 H2) (hd : ∀ σ' H', Pv xs.length σ' H' → D.nx σ' H') : ForL K G ts D σ (.ref a) H :=
  ⟨a, rfl, ⟨xs, hx⟩, for_list Pv h0 hl hs hd⟩
theorem forT_go {a : Addr} {xs : List V} (Pv : Nat → L2.St → Hp → Prop) (hx : SqT K H a xs) (h0 : Pv 0 σ H) (hl : ∀ i σ' H', i ≤ xs.length → Pv i σ' H' → SqT K H' a xs)
    (hs : ∀ i x σ' H', xs[i]? = some x → Pv i σ' H' → G x σ' H' fun σ2 H2 => ts { D with nx := Pv (i + 1), ct := Pv (i + 1), bk := D.nx } σ2 H2) (hd : ∀ σ' H', Pv xs.length σ' H' → D.nx σ' H') : ForT K G ts D σ (.ref a) H :=
  ⟨a, rfl, ⟨xs, hx⟩, for_tup Pv h0 hl hs hd⟩
theorem r_while (W : Nat → L2.St → Hp → Prop) {m0 : Nat} (h0 : W m0 σ H)
    (hs : ∀ m σ' H', W m σ' H' → c σ' H' fun b H1 => if b = true then ∃ N : L2.St → Hp → Prop, (∀ σ2 H2, N σ2 H2 → ∃ m', m' < m ∧ W m' σ2 H2) ∧ ts { D with nx := N, ct := N, bk := D.nx } σ' H1 else D.nx σ' H1) : tWhile c ts D σ H := ⟨W, ⟨m0, h0⟩, hs⟩
theorem r_turn {B : L2.St → Hp → Prop} {R : VK} {Bk : L2.St → Hp → Prop} (k : ts { nx := B, rt := R, bk := Bk, ct := B } σ H) :
    ∃ N : L2.St → Hp → Prop, (∀ σ2 H2, N σ2 H2 → B σ2 H2) ∧ ts { nx := N, rt := R, bk := Bk, ct := N } σ H := ⟨_, fun _ _ h => h, k⟩
end
/-! ### comprehensions -/
section
variable {K : PySem.W.Frag} {σ : L2.St} {H : Hp} {Q : VK} {te tl : TE} {tt : TT} {G : TG} {tas : TA} {v : V} {vs : List Nat} {QB : Bool → Hp → Prop}
def CompW (J : It) (G : TG) (tt : TT) (te : TE) (vs : List Nat) (σ : L2.St) (Q : VK) (H1 : Hp) : Prop := ∀ D, H1 D = none → ∃ W : Nat → Nat → Hp → Prop, (∃ m, W 0 m (upd H1 D (.lst []))) ∧ ∀ i m H, W i m H → (J.stop i H ∧ Q (.ref D) H) ∨ (J.go i H ∧ ∃ Nx : Hp → Prop, (∀ H', Nx H' → ∃ m', m' < m ∧ W (i + 1) m' H') ∧
  ∀ x H', J.yld i H x H' → G x (wipe σ vs) H' fun σ2 H2 => wipe σ2 vs = wipe σ vs ∧ tt σ2 H2 fun b H3 => if b = true then te σ2 H3 fun y H4 => ∃ acc, H4 D = some (.lst acc) ∧ acc.length < sizeLine ∧ Nx (upd H4 D (.lst (acc ++ [y]))) else Nx H3)
def CompR1 (G : TG) (tt : TT) (te : TE) (vs : List Nat) (σ : L2.St) (Q : VK) (us : List V) (H1 : Hp) : Prop := ∃ j : Int, us = [.int j] ∧ -(2 ^ 62) ≤ j ∧ j < 2 ^ 62 ∧ CompW (Itr 0 j.toNat) G tt te vs σ Q H1
def CompL (K : PySem.W.Frag) (G : TG) (tt : TT) (te : TE) (vs : List Nat) (σ : L2.St) (Q : VK) (x : V) (H1 : Hp) : Prop := ∃ a, x = .ref a ∧ (∃ xs, SqL K H1 a xs) ∧ CompW (Itl K a) G tt te vs σ Q H1
def CompT (K : PySem.W.Frag) (G : TG) (tt : TT) (te : TE) (vs : List Nat) (σ : L2.St) (Q : VK) (x : V) (H1 : Hp) : Prop := ∃ a, x = .ref a ∧ (∃ xs, SqT K H1 a xs) ∧ CompW (Itt K a) G tt te vs σ Q H1
theorem r_lcR1 (k : tas σ H fun us H1 => CompR1 G tt te vs σ Q us H1) : tLc (iRng1 tas) G tt te vs σ H Q := k
theorem r_lcL (k : tl σ H fun x H1 => CompL K G tt te vs σ Q x H1) : tLc (iList K tl) G tt te vs σ H Q := k
theorem r_lcT (k : tl σ H fun x H1 => CompT K G tt te vs σ Q x H1) : tLc (iTup K tl) G tt te vs σ H Q := k
theorem r_wipe {σ2 : L2.St} {R : Prop} (h : wipe σ2 vs = wipe σ vs) (k : R) : wipe σ2 vs = wipe σ vs ∧ R := ⟨h, k⟩
theorem r_gNameW {i : Nat} {σ' : L2.St} {Q : L2.St → Hp → Prop} (h : wipe σ vs = σ') (k : gName i v σ' H Q) : gName i v (wipe σ vs) H Q := by rw [h]; exact k
theorem r_yes (k : QB true H) : tYes σ H QB := k
/-- the reading of one item, told with the list so far: P of the turn's number, the items made, the heap -/
def CompTurn (G : TG) (tt : TT) (te : TE) (vs : List Nat) (σ : L2.St) (D : Addr) (Nx : List V → Hp → Prop) (acc : List V) (x : V) (H : Hp) : Prop :=
  G x (wipe σ vs) H fun σ2 H2 => wipe σ2 vs = wipe σ vs ∧ tt σ2 H2 fun b H3 => if b = true then te σ2 H3 fun y H4 => H4 D = some (.lst acc) ∧ acc.length < sizeLine ∧ Nx (acc ++ [y]) (upd H4 D (.lst (acc ++ [y]))) else Nx acc H3
theorem lcR1_go {j : Int} (Pv : Addr → Nat → List V → Hp → Prop) (hb : -(2 ^ 62) ≤ j ∧ j < 2 ^ 62) (h0 : ∀ D, H D = none → Pv D 0 [] (upd H D (.lst [])))
    (hs : ∀ D (i : Nat) acc H', (i : Int) < j → H' D = some (.lst acc) → Pv D i acc H' → G (.int i) (wipe σ vs) H' fun σ2 H2 => wipe σ2 vs = wipe σ vs ∧ tt σ2 H2 fun b H3 =>
      if b = true then te σ2 H3 fun y H4 => ∃ acc, H4 D = some (.lst acc) ∧ acc.length < sizeLine ∧ (∃ ac, (upd H4 D (.lst (acc ++ [y]))) D = some (.lst ac) ∧ Pv D (i + 1) ac (upd H4 D (.lst (acc ++ [y])))) else ∃ ac, H3 D = some (.lst ac) ∧ Pv D (i + 1) ac H3)
    (hd : ∀ D acc H', H D = none → H' D = some (.lst acc) → Pv D j.toNat acc H' → Q (.ref D) H') : CompR1 G tt te vs σ Q [.int j] H :=
  ⟨j, rfl, hb.1, hb.2, fun D hD => lc_range (lo := 0) (fun i H' => ∃ acc, H' D = some (.lst acc) ∧ Pv D i acc H') ⟨[], upd_same, h0 D hD⟩ (fun i H' hi ⟨acc, ha, p⟩ => by rw [Int.zero_add]; exact hs D i acc H' (by omega) ha p) fun H' ⟨acc, ha, p⟩ => hd D acc H' hD ha p⟩
theorem lcL_go {a : Addr} {xs : List V} (Pv : Addr → Nat → List V → Hp → Prop) (hx : SqL K H a xs) (h0 : ∀ D, H D = none → Pv D 0 [] (upd H D (.lst []))) (hl : ∀ D i acc H', i ≤ xs.length → Pv D i acc H' → SqL K H' a xs)
    (hs : ∀ D (i : Nat) x acc H', xs[i]? = some x → H' D = some (.lst acc) → Pv D i acc H' → G x (wipe σ vs) H' fun σ2 H2 => wipe σ2 vs = wipe σ vs ∧ tt σ2 H2 fun b H3 =>
      if b = true then te σ2 H3 fun y H4 => ∃ acc, H4 D = some (.lst acc) ∧ acc.length < sizeLine ∧ (∃ ac, (upd H4 D (.lst (acc ++ [y]))) D = some (.lst ac) ∧ Pv D (i + 1) ac (upd H4 D (.lst (acc ++ [y])))) else ∃ ac, H3 D = some (.lst ac) ∧ Pv D (i + 1) ac H3)
    (hd : ∀ D acc H', H D = none → H' D = some (.lst acc) → Pv D xs.length acc H' → Q (.ref D) H') : CompL K G tt te vs σ Q (.ref a) H :=
  ⟨a, rfl, ⟨xs, hx⟩, fun D hD => lc_list (xs := xs) (fun i H' => ∃ acc, H' D = some (.lst acc) ∧ Pv D i acc H') ⟨[], upd_same, h0 D hD⟩ (fun i H' hi ⟨acc, ha, p⟩ => hl D i acc H' hi p) (fun i x H' hi ⟨acc, ha, p⟩ => hs D i x acc H' hi ha p) fun H' ⟨acc, ha, p⟩ => hd D acc H' hD ha p⟩
theorem lcT_go {a : Addr} {xs : List V} (Pv : Addr → Nat → List V → Hp → Prop) (hx : SqT K H a xs) (h0 : ∀ D, H D = none → Pv D 0 [] (upd H D (.lst []))) (hl : ∀ D i acc H', i ≤ xs.length → Pv D i acc H' → SqT K H' a xs)
    (hs : ∀ D (i : Nat) x acc H', xs[i]? = some x → H' D = some (.lst acc) → Pv D i acc H' → G x (wipe σ vs) H' fun σ2 H2 => wipe σ2 vs = wipe σ vs ∧ tt σ2 H2 fun b H3 =>
      if b = true then te σ2 H3 fun y H4 => ∃ acc, H4 D = some (.lst acc) ∧ acc.length < sizeLine ∧ (∃ ac, (upd H4 D (.lst (acc ++ [y]))) D = some (.lst ac) ∧ Pv D (i + 1) ac (upd H4 D (.lst (acc ++ [y])))) else ∃ ac, H3 D = some (.lst ac) ∧ Pv D (i + 1) ac H3)
    (hd : ∀ D acc H', H D = none → H' D = some (.lst acc) → Pv D xs.length acc H' → Q (.ref D) H') : CompT K G tt te vs σ Q (.ref a) H :=
  ⟨a, rfl, ⟨xs, hx⟩, fun D hD => lc_tup (xs := xs) (fun i H' => ∃ acc, H' D = some (.lst acc) ∧ Pv D i acc H') ⟨[], upd_same, h0 D hD⟩ (fun i H' hi ⟨acc, ha, p⟩ => hl D i acc H' hi p) (fun i x H' hi ⟨acc, ha, p⟩ => hs D i x acc H' hi ha p) fun H' ⟨acc, ha, p⟩ => hd D acc H' hD ha p⟩
/-- an item is kept: behind te, the list is known -/
theorem lc_put {D : Addr} {acc : List V} {y : V} {P : List V → List V → Prop} {H4 : Hp} (h : H4 D = some (.lst acc)) (hz : acc.length < sizeLine) (k : P acc (acc ++ [y])) :
    ∃ acc, H4 D = some (.lst acc) ∧ acc.length < sizeLine ∧ (∃ ac, (upd H4 D (.lst (acc ++ [y]))) D = some (.lst ac) ∧ P acc ac) := ⟨acc, h, hz, _, upd_same, k⟩
end
/-! ### lists, displays -/
section
variable {K : PySem.W.Frag} {H : Hp} {Q : VK}
theorem Keep.out {M : List Addr} {H H' : Hp} {a : Addr} {o : HO} (h : Keep M H H') (n : a ∉ M) (e : H a = some o) : H' a = some o := h a o n e
theorem getD_all {p : Int → Prop} {P : List Int} {i : Nat} (h : ∀ x ∈ P, p x) (hi : i < P.length) : p (P.getD i 0) := by
  rw [List.getD_eq_getElem?_getD, List.getElem?_eq_getElem hi]; exact h _ (List.getElem_mem hi)
theorem r_slL {a : Addr} {xs : List V} {lo hi : Option Int} (h : SqL K H a xs) (k : ∀ p, H p = none → Q (.ref p) (upd H p (.lst (cutV xs lo hi)))) : rSlL K (.ref a) lo hi H Q := ⟨a, xs, rfl, h, k⟩
theorem r_cat {l b : Addr} {xs zs : List V} (h : H l = some (.lst xs)) (h2 : H b = some (.lst zs)) (hz : xs.length + zs.length ≤ sizeLine) (k : ∀ p, H p = none → Q (.ref p) (upd H p (.lst (xs ++ zs)))) : rCat (.ref l) (.ref b) H Q :=
  ⟨l, b, xs, zs, rfl, rfl, h, h2, hz, k⟩
theorem r_listL {p : Addr} {xs : List V} {F : List V → Prop} (h : SqL K H p xs) (k : F xs) : ∃ q ys, [V.ref p] = [.ref q] ∧ (SqL K H q ys ∨ SqT K H q ys) ∧ F ys := ⟨p, xs, rfl, .inl h, k⟩
theorem r_tPart {te : TE} {σ : L2.St} {QO : Option Int → Hp → Prop} (k : te σ H fun v H1 => ∃ i, v = .int i ∧ QO (some i) H1) : tPart te σ H QO := k
theorem r_noPart {σ : L2.St} {QO : Option Int → Hp → Prop} (k : QO none H) : tNoPart σ H QO := k
theorem r_gcd {a b : Int} (k : Q (.int ((Nat.gcd a.natAbs b.natAbs : Nat) : Int)) H) : rGcd [.int a, .int b] H Q := ⟨a, b, rfl, k⟩
theorem r_iteNT1 {A B : Prop} (k : B) : if (!true) = true then A else B := by rw [if_neg (by decide)]; exact k
theorem r_iteNF1 {A B : Prop} (k : A) : if (!false) = true then A else B := by rw [if_pos (by decide)]; exact k
theorem kit_ii : kitB "int" "int" = some true := by decide +kernel
theorem kit_ib : kitB "int" "bool" = some false := by decide +kernel
theorem kit_bi : kitB "bool" "int" = some true := by decide +kernel
theorem kit_bb : kitB "bool" "bool" = some true := by decide +kernel
theorem kit_tt : kitB "tuple" "tuple" = some true := by decide +kernel
theorem kit_ss : kitB "str" "str" = some true := by decide +kernel
theorem kit_ll : kitB "list" "list" = some true := by decide +kernel
theorem kit_dd : kitB "dict" "dict" = some true := by decide +kernel
theorem kit_nt : kitB "NoneType" "tuple" = some false := by decide +kernel
theorem kit_ni : kitB "NoneType" "int" = some false := by decide +kernel
theorem kit_is : kitB "int" "str" = some false := by decide +kernel
theorem kit_si : kitB "str" "int" = some false := by decide +kernel
theorem kit_it : kitB "int" "tuple" = some false := by decide +kernel
theorem mulw {i j : Int} (a b : Nat) (ha : i.natAbs < 2 ^ a) (hb : j.natAbs < 2 ^ b) (h0 : 0 < a := by decide) (h1 : 0 < b := by decide) (h : a + b ≤ 1000000 := by decide) : CMul i j ∨ CMulW i j := .inr (wide_mul ha hb h0 h1 h)
theorem r_callSD {sp : Sp} {dvs : List V} {E : L2.St → XK} {tas : TA} {σ : L2.St} (k : tas σ H fun vs H1 => sp (vs ++ dvs) H1 Q (E σ)) : tCallSD sp dvs E tas σ H Q := k
theorem exm_ZD {K : PySem.W.Frag} : PySem.W.exmOne K (.type "ZeroDivisionError") (.type "ZeroDivisionError") = some true := by kernel_rfl
theorem r_par {i j : Nat} {ta : TA} {D : Ends} {σ : L2.St} (k : ta σ H fun vs H1 => ∃ v w, vs = [v, w] ∧ gName i v σ H1 fun σ1 H2 => gName j w σ1 H2 D.nx) : tPar i j ta D σ H := k
theorem r_exP {x y : V} {F : V → V → Prop} (k : F x y) : ∃ v w, [x, y] = [v, w] ∧ F v w := ⟨x, y, rfl, k⟩
theorem r_bm {T : String} {r : V → List V → Hp → VK → Prop} {to : TE} {ta : TA} {σ : L2.St} (k : to σ H fun x H1 => tyV K T x H1 ∧ ta σ H1 fun xs H2 => r x xs H2 Q) : tBM K T r to ta σ H Q := k
theorem r_tyL {p : Addr} {xs : List V} {R : Prop} (h : SqL K H p xs) (k : R) : tyV K "list" (.ref p) H ∧ R := ⟨.inl ⟨rfl, xs, h⟩, k⟩
theorem r_app {l : Addr} {xs : List V} {y : V} (h : H l = some (.lst xs)) (hz : xs.length < sizeLine) (k : Q .non (upd H l (.lst (xs ++ [y])))) : rAppend (.ref l) [y] H Q := ⟨l, xs, y, rfl, rfl, h, hz, k⟩
theorem r_exI {i : Int} {F : Int → Prop} (k : F i) : ∃ j, V.int i = .int j ∧ F j := ⟨i, rfl, k⟩
end
theorem start_cc {n : Str} {N : List Str} {v : V} {vs : List V} : L2.start (n :: N) (v :: vs) = some v :: L2.start N vs := by
  unfold L2.start
  rw [List.map_cons, List.length_cons, List.length_cons, Nat.add_sub_add_right, List.cons_append]
theorem start_cn {n : Str} {N : List Str} : L2.start (n :: N) [] = none :: L2.start N [] := rfl
theorem start_nn : L2.start [] [] = [] := rfl
theorem atI_map {P : List Int} {i : Int} (h0 : 0 ≤ i) (h1 : i < P.length) : atI (P.map V.int) i = some (.int (P.getD i.toNat 0)) := by
  obtain ⟨n, rfl⟩ : ∃ n : Nat, i = n := ⟨i.toNat, by omega⟩
  refine atI_nat ?_
  have h2 : n < P.length := by omega
  rw [List.getElem?_map, List.getElem?_eq_getElem h2, Int.toNat_natCast, List.getD_eq_getElem?_getD, List.getElem?_eq_getElem h2]; rfl
theorem ixN_of {n : Nat} {i : Int} (h0 : 0 ≤ i) (h1 : i < n) : ixN n i = some i.toNat := by
  unfold ixN; rw [if_pos h0, if_pos h1]
/-- sizes of ints -/
theorem log2_of {i : Int} {n : Nat} (h : i.natAbs < 2 ^ n) (h0 : 0 < n) : i.natAbs.log2 < n := PySem.Flt.log2_lt_of h0 h
theorem log_ok {j : Int} (n : Nat) (h : j.natAbs < 2 ^ n) (h0 : 0 < n := by decide) (h9 : n ≤ 9000 := by decide) : j.natAbs.log2 < 9000 := Nat.lt_of_lt_of_le (log2_of h h0) h9
theorem cmulw {i j : Int} (a b : Nat) (ha : i.natAbs < 2 ^ a) (hb : j.natAbs < 2 ^ b) (h0 : 0 < a := by decide) (h1 : 0 < b := by decide) (h : a + b ≤ 1000000 := by decide) : CMulW i j := wide_mul ha hb h0 h1 h
/-! ### == of flat rows -/
def fdV : V → PyData
  | .bl b => .bool b
  | .int i => .int i
  | .str x => .str x
  | _ => .none
def flatV : V → Bool
  | .non => true
  | .bl _ => true
  | .int _ => true
  | .str x => PyData.canLay0 (.str x)
  | _ => false
theorem dp_flat {K : PySem.W.Frag} {H : Hp} : ∀ {v : V}, flatV v = true → Dp K H v (fdV v)
  | .non, _ => .non
  | .bl b, _ => .bl b
  | .int i, _ => .int i
  | .str x, _ => .str x
theorem dp_flats {K : PySem.W.Frag} {H : Hp} : ∀ {xs : List V}, xs.all flatV = true → DpAll K H xs (xs.map fdV)
  | [], _ => .nil
  | v :: xs, h => by
    rw [List.all_cons, Bool.and_eq_true] at h
    exact .cons (dp_flat h.1) (dp_flats h.2)
theorem flat_lay : ∀ {v : V}, flatV v = true → (fdV v).canLay0 = true ∧ (fdV v).depth = 0
  | .non, _ => by simp [fdV, PyData.canLay0, PyData.depth]
  | .bl b, _ => by simp [fdV, PyData.canLay0, PyData.depth]
  | .int i, _ => by simp [fdV, PyData.canLay0, PyData.depth]
  | .str x, h => ⟨h, by simp [fdV, PyData.depth]⟩
theorem flats_lay : ∀ {xs : List V}, xs.all flatV = true → PyData.canLayAll0 (xs.map fdV) = true ∧ PyData.depthAll (xs.map fdV) = 0
  | [], _ => by simp [PyData.canLayAll0, PyData.depthAll]
  | v :: xs, h => by
    rw [List.all_cons, Bool.and_eq_true] at h
    have a := flat_lay h.1
    have b := flats_lay h.2
    simp [PyData.canLayAll0, PyData.depthAll, a.1, a.2, b.1, b.2]
theorem shaped_flat {xs : List V} (h : xs.all flatV = true) : SeqAt.shaped (.list (xs.map fdV)) = true ∧ SeqAt.shaped (.tuple (xs.map fdV)) = true := by
  have b := flats_lay h
  constructor <;> simp [SeqAt.shaped, PyData.canLay0, PyData.depth, b.1, b.2]
theorem eqv_flat : ∀ {v : V}, flatV v = true → PyData.eqv (fdV v) (fdV v) = true
  | .non, _ => by simp [fdV, PyData.eqv]
  | .bl b, _ => by simp [fdV, PyData.eqv]
  | .int i, _ => by simp [fdV, PyData.eqv]
  | .str x, _ => by simp [fdV, PyData.eqv]
theorem eqv_flats : ∀ {xs : List V}, xs.all flatV = true → PyData.eqvAll (xs.map fdV) (xs.map fdV) = true
  | [], _ => by simp [PyData.eqvAll]
  | v :: xs, h => by
    rw [List.all_cons, Bool.and_eq_true] at h
    simp [PyData.eqvAll, eqv_flat h.1, eqv_flats h.2]
section
variable {K : PySem.W.Frag} {H : Hp} {Q : VK} {p q : Addr} {xs ys : List V} {b : Bool}
theorem eqvL {xs ys : List PyData} : PyData.eqv (.list xs) (.list ys) = PyData.eqvAll xs ys := by simp [PyData.eqv]
theorem eqvT {xs ys : List PyData} : PyData.eqv (.tuple xs) (.tuple ys) = PyData.eqvAll xs ys := by simp [PyData.eqv]
theorem r_eqL (hp : SqL K H p xs) (hq : SqL K H q ys) (fx : xs.all flatV = true) (fy : ys.all flatV = true) (hb : PyData.eqvAll (xs.map fdV) (ys.map fdV) = b) (k : Q (.bl b) H) : rEqD K (.ref p) (.ref q) H Q :=
  ⟨_, _, .lst hp (dp_flats fx), .lst hq (dp_flats fy), (shaped_flat fx).1, (shaped_flat fy).1, by rw [eqvL, hb]; exact k⟩
theorem r_eqT (hp : SqT K H p xs) (hq : SqT K H q ys) (fx : xs.all flatV = true) (fy : ys.all flatV = true) (hb : PyData.eqvAll (xs.map fdV) (ys.map fdV) = b) (k : Q (.bl b) H) : rEqD K (.ref p) (.ref q) H Q :=
  ⟨_, _, .tup hp (dp_flats fx), .tup hq (dp_flats fy), (shaped_flat fx).2, (shaped_flat fy).2, by rw [eqvT, hb]; exact k⟩
theorem r_neL (hp : SqL K H p xs) (hq : SqL K H q ys) (fx : xs.all flatV = true) (fy : ys.all flatV = true) (hb : PyData.eqvAll (xs.map fdV) (ys.map fdV) = b) (k : Q (.bl (!b)) H) : rNeD K (.ref p) (.ref q) H Q :=
  ⟨_, _, .lst hp (dp_flats fx), .lst hq (dp_flats fy), (shaped_flat fx).1, (shaped_flat fy).1, by rw [eqvL, hb]; exact k⟩
theorem r_neT (hp : SqT K H p xs) (hq : SqT K H q ys) (fx : xs.all flatV = true) (fy : ys.all flatV = true) (hb : PyData.eqvAll (xs.map fdV) (ys.map fdV) = b) (k : Q (.bl (!b)) H) : rNeD K (.ref p) (.ref q) H Q :=
  ⟨_, _, .tup hp (dp_flats fx), .tup hq (dp_flats fy), (shaped_flat fx).2, (shaped_flat fy).2, by rw [eqvT, hb]; exact k⟩
end
/-! ### rules whose reading names K, told for a context that hides it (a comprehension, an except suite) -/
section
variable {X : Cx} {K : PySem.W.Frag}
theorem ix_listK (hK : X.K = K) : IxR X (rIxL K) := by subst hK; exact ix_list
theorem ix_tupK (hK : X.K = K) : IxR X (rIxT K) := by subst hK; exact ix_tup
theorem op_in_seqK (hK : X.K = K) : OpR X (compareOp .In) (rIn K false) := by subst hK; exact op_in_seq
theorem op_notIn_seqK (hK : X.K = K) : OpR X (compareOp .NotIn) (rIn K true) := by subst hK; exact op_notIn_seq
theorem call_len_seqK (hK : X.K = K) : CallR X (.builtin "len") (fun xs H Q => ∃ p ys, xs = [.ref p] ∧ (SqL K H p ys ∨ SqT K H p ys) ∧ Q (.int ys.length) H) := by subst hK; exact call_len_seq
theorem call_isiK (hK : X.K = K) : CallR X (.builtin "isinstance") (rIsi K) := by subst hK; exact call_isi
end
section
variable {H : Hp}
def rIsN : R2 := fun x y H Q => y = .non ∧ Q (.bl (decide (x = .non))) H
def rNoN : R2 := fun x y H Q => y = .non ∧ Q (.bl (!decide (x = .non))) H
theorem op_isNc {X : Cx} : OpR X (compareOp .Is) rIsN := op_isN
theorem op_notNc {X : Cx} : OpR X (compareOp .IsNot) rNoN := op_notN
theorem r_isN {Q : VK} (k : Q (.bl true) H) : rIsN (V.non) .non H Q := ⟨rfl, by rw [decide_eq_true rfl]; exact k⟩
theorem r_noN {Q : VK} (k : Q (.bl false) H) : rNoN (V.non) .non H Q := ⟨rfl, by rw [decide_eq_true rfl]; exact k⟩
theorem r_isI {i : Int} {Q : VK} (k : Q (.bl false) H) : rIsN (.int i) .non H Q := ⟨rfl, by rw [decide_eq_false (fun e => by cases e)]; exact k⟩
theorem r_noI {i : Int} {Q : VK} (k : Q (.bl true) H) : rNoN (.int i) .non H Q := ⟨rfl, by rw [decide_eq_false (fun e => by cases e)]; exact k⟩
theorem r_isR {p : Addr} {Q : VK} (k : Q (.bl false) H) : rIsN (.ref p) .non H Q := ⟨rfl, by rw [decide_eq_false (fun e => by cases e)]; exact k⟩
theorem r_noR {p : Addr} {Q : VK} (k : Q (.bl true) H) : rNoN (.ref p) .non H Q := ⟨rfl, by rw [decide_eq_false (fun e => by cases e)]; exact k⟩
theorem r_isS {x : Str} {Q : VK} (k : Q (.bl false) H) : rIsN (.str x) .non H Q := ⟨rfl, by rw [decide_eq_false (fun e => by cases e)]; exact k⟩
theorem r_noS {x : Str} {Q : VK} (k : Q (.bl true) H) : rNoN (.str x) .non H Q := ⟨rfl, by rw [decide_eq_false (fun e => by cases e)]; exact k⟩
theorem r_isB {b : Bool} {Q : VK} (k : Q (.bl false) H) : rIsN (.bl b) .non H Q := ⟨rfl, by rw [decide_eq_false (fun e => by cases e)]; exact k⟩
theorem r_noB {b : Bool} {Q : VK} (k : Q (.bl true) H) : rNoN (.bl b) .non H Q := ⟨rfl, by rw [decide_eq_false (fun e => by cases e)]; exact k⟩
theorem r_inL {K : PySem.W.Frag} {x : V} {p : Addr} {xs : List V} {Q : VK} (h : SqL K H p xs) (fx : L2.flatV x = true) (fs : xs.all L2.flatV = true) (k : Q (.bl (inV x xs)) H) : rIn K false x (.ref p) H Q := ⟨p, xs, rfl, .inl h, fx, fs, by simpa using k⟩
theorem r_ninL {K : PySem.W.Frag} {x : V} {p : Addr} {xs : List V} {Q : VK} (h : SqL K H p xs) (fx : L2.flatV x = true) (fs : xs.all L2.flatV = true) (k : Q (.bl (!inV x xs)) H) : rIn K true x (.ref p) H Q := ⟨p, xs, rfl, .inl h, fx, fs, by simpa using k⟩
theorem r_iteTT {A B : Prop} (k : A) : if true = true then A else B := by rw [if_pos rfl]; exact k
theorem r_iteFF {A B : Prop} (k : B) : if false = true then A else B := by rw [if_neg (by decide)]; exact k
end
/-! ### an own error over ValueError (through own classes) whose __init__ says super().__init__(a text), then stores its arguments -/
namespace Er
open PySem.W PySem.Calls PySem.HandSPX
section
variable {prog : Program} {w : World} {A : Around} {E : Value → Shared → Prop} {s : Shared} {K : Frag} {mg : Str → Option Value} {base : Heap} {m : Str → Option Value}
/-- what the written part says of the class at C: its __init__ at fI, the cell of __class__ at cc, the code at cda -/
structure Txt (P : Program) (K : Frag) (mg : Str → Option Value) (C fI cc cda : Addr) : Prop where
  cls : ∃ nm q N bs bm sn sub ab col dd k0 k1 k2 k3 k5, K.lookup C = some (excClassObj nm q C N bs bm true sn sub ab col dd k0 k1 k2 k3 k5 "ValueError.__new__") ∧ refsVE bm = true
  sa : findIn K (.ref C) "__setattr__" = some (some (.builtin "object.__setattr__"))
  iC : findIn K (.ref C) "__init__" = some (some (.ref fI))
  tI : typeIn K (.ref fI) = some (.type "function")
  cell : ∃ cl cld csl, K.lookup cc = some ⟨cl, cld, .cell (some (.ref C)), csl⟩
  code : ∃ ccl cdd vs ccs tf, K.lookup cda = some ⟨ccl, cdd, .fields vs, ccs⟩ ∧ vs[2]? = some (.str P.main.file tf)
  sup : ks_superIn K C C "__init__" = some (some (.builtin "ValueError.__init__"))
  supB : subIn K (.ref C) (.type "ValueError") = some true
  self : mroIn K C (.ref C) = some true
  opq : nsIn K cStatics "thirdparty.any" = some none
  mS : mg "super" = none
  top : (P.main.scope.names.lookup ("super" : Str)).isSome = false
theorem clsIn_of {C N : Addr} {nm q : Str} {bs bm : List Value} {hd : Bool} {sn : List Str} {sub : List Value} {ab : Bool} {col : Option Bool} {dd : Option Addr} {k0 k1 k2 k3 k5 : Option Value} {nw : String}
    (hC : K.lookup C = some (excClassObj nm q C N bs bm hd sn sub ab col dd k0 k1 k2 k3 k5 nw)) :
    clsIn K C = some { name := nm, bases := bs, mro := .ref C :: bm, ns := N, qualname := q, hasDict := hd, slotNames := sn, subclasses := sub, abstract := ab, collection := col, hasDel := false } := by
  unfold clsIn; rw [hC] <;> rfl
theorem call_mw {u e t0 C N : Addr} {nm q : Str} {bs bm : List Value} {hdct : Bool} {sn : List Str} {sub : List Value} {ab : Bool} {col : Option Bool} {dd : Option Addr} {k0 k1 k2 k3 k5 : Option Value} {h : Heap} {g : Array GenState} {d : Drawn} {t : Nat} {os : OsState} {rest : List Value} {Q : Value → Shared → Prop}
    (hC : h.get? C = some (excClassObj nm q C N bs bm hdct sn sub ab col dd k0 k1 k2 k3 k5 "ValueError.__new__")) (he : h.get? e = some (excObj C t0 none .none)) (hu : h.get? u = some (kxs_mw "ValueError.__init__" e)) (hrest : rest.length ≤ sizeLine)
    (hq : ∀ h' t1, (∀ b o, b ≠ e → h.get? b = some o → h'.get? b = some o) → h'.get? e = some (excObj C t1 none .none) → Q .none ⟨h', g, d, t, os⟩) :
    wpAny (model prog w) A (call (.ref u) rest) Q E ⟨h, g, d, t, os⟩ := by
  refine wpAny_call (codeAny_of_tree ?_)
  show wpAny _ A.in1 (callAny (.ref u) ⟨rest, []⟩) _ _ _
  simp only [callAny]
  refine wpAny_bind (wpAny_load hu ?_)
  simp only [kxs_mw, show (Value.type "method-wrapper" == Value.type "method" || Value.type "method-wrapper" == Value.type "builtin_function_or_method" || Value.type "method-wrapper" == Value.type "method-wrapper") = true by decide, if_true]
  refine KFB.if_so (by decide) ?_
  refine wpAny_bind (check_bound_init F.excBase_ValueError.toExcCallFacts hC he rfl ?_)
  refine wpAny_bind (wpAny_pure (wpAny_pure ?_))
  refine ⟨plainId_quiet F.excBase_ValueError.init.plain _, codeAny_builtin F.excBase_ValueError.initEntry ?_⟩
  exact exc_init_tree (cls := .ref C) (t0 := t0) (dv := none) (c2 := .none) (c3 := .none) (b4 := .bool false) he hrest fun h' k e' _ => hq h' _ k e'
theorem super_stmt {pl : Sem Bool} {C fI cc cda L x t0 : Addr} {fd : FuncData} {oc : Value} {od : Option Addr} {osl : Array (Option Value)} {ar : Arg} {q : Str} {scope : Scope} {body : List Stmt} {msg : Expr} {p0 p1 p2 p3 p4 : Pos} {Q : Flow → Shared → Prop}
    (T : Txt prog K mg C fI cc cda) (Mo : Mod K mg base) (kb : ∀ b o, base.get? b = some o → s.heap.get? b = some o)
    (hf : K.lookup fI = some ⟨oc, od, .func fd, osl⟩) (hp : (fd.params.posonlyargs ++ fd.params.args).head? = some ar) (har : ar.arg = "self")
    (hks : scope.names.lookup ("super" : Str) = some .globalImplicit) (hkc : scope.names.lookup ("__class__" : Str) = some .free) (hka : scope.names.lookup ("self" : Str) = some .local) (hk : scope.kind = .function)
    (hns : s.heap.Ns L m) (hv : m "self" = some (.ref x)) (hx : s.heap.get? x = some (excO C t0))
    (hmsg : ∀ (s' : Shared) (Q' : Value → Shared → Prop), s'.heap.Ns L m → (∀ (z : Str) tk n, Q' (.str z tk) { s' with toks := n }) → wpAny (model prog w) A (eval msg (ksEnv q scope L fI (.ref cda) cc)) Q' E s')
    (hq : ∀ h' tk t1, (∀ b o, b ≠ x → s.heap.get? b = some o → h'.get? b = some o) → h'.get? x = some (excO C t1) → Q .next { s with heap := h', toks := tk })
    (hin : interactive (ksEnv q scope L fI (.ref cda) cc) = false := by rfl)
    (he : starEach [msg] (ksEnv q scope L fI (.ref cda) cc) = (false, eval msg (ksEnv q scope L fI (.ref cda) cc)) :: starEach [] (ksEnv q scope L fI (.ref cda) cc) := by rfl)
    (hsw : swapsWith (.Call (.Attribute (.Call (.Name "super" p0) [] [] p1) "__init__" p2) [msg] [] p3) none p4.line (ksEnv q scope L fI (.ref cda) cc) = pure false := by rfl)
    (hmc : eval (.Call (.Attribute (.Call (.Name "super" p0) [] [] p1) "__init__" p2) [msg] [] p3) (ksEnv q scope L fI (.ref cda) cc) = (do
      let ov ← attributeBase (.Call (.Name "super" p0) [] [] p1) "__init__" (ksEnv q scope L fI (.ref cda) cc) (eval (.Call (.Name "super" p0) [] [] p1) (ksEnv q scope L fI (.ref cda) cc))
      standAt p2.atName
      let (f, first) ← holding [ov] (getMethod ov "__init__" pl)
      callWith p3 f first (backTo p3 (starEach [msg] (ksEnv q scope L fI (.ref cda) cc))) []) := by rfl) :
    PySem.wpAt (model prog w) A (.func body (ksEnv q scope L fI (.ref cda) cc)) (exec (.Expr (.Call (.Attribute (.Call (.Name "super" p0) [] [] p1) "__init__" p2) [msg] [] p3) p4) (ksEnv q scope L fI (.ref cda) cc)) Q E s := by
  obtain ⟨nm, q0, N, bs, bm, sn, sub, ab, col, dd, k0, k1, k2, k3, k5, hC, hbm⟩ := T.cls
  obtain ⟨cl, cld, csl, hcell⟩ := T.cell
  obtain ⟨ccl, cdd, vs, ccs, tf, hcode, hvs⟩ := T.code
  obtain ⟨mb, hb1, hb2⟩ := Mo.blt
  have X : K.In s.heap := Mo.kin.keeps kb
  have hcl := clsIn_of hC
  have hss : alongIn K "__init__" (((Value.ref C :: bm).dropWhile (· != .ref C)).drop 1) = some (some (.builtin "ValueError.__init__")) := by
    have z := T.sup
    unfold ks_superIn at z
    rw [hcl] at z
    exact z
  have Ix : InstAt s.heap x (excO C t0) C none := ⟨hx, rfl, rfl, trivial⟩
  have hxC : x ≠ C := ks_ne X Ix hcl
  obtain ⟨hh, g, d, t, os⟩ := s
  refine ks_wpAt_Expr_any (ks_wpAt_MethodCall (pl := pl) ?_ hmc) hin hsw
  refine ks_wpAt_super_base (env := ksEnv q scope L fI (.ref cda) cc) hks hkc rfl rfl (X _ _ hf) rfl hp rfl (X _ _ hcode) rfl hvs (beq_self_eq_true _) T.top ?_
  refine ks_loadName_global hk hks (loadGlobal_builtin (env := ksEnv q scope L fI (.ref cda) cc) (Mo.glob.keeps kb) T.mS (hb1.keeps kb) ((hb2 _ (by decide)).trans (by decide +kernel : bootBuiltins "super" = some (.type "super"))) ⟨rfl, ?_⟩)
  refine wpAny_loadName_free hk hkc rfl ⟨_, X _ _ hcell, rfl⟩ ?_
  rw [har]
  refine wpAny_loadName_local hk hka hns hv ?_
  refine ks_wpAny_isType_cls (X _ _ hC) rfl ⟨rfl, ?_⟩
  refine ks_wpAny_call_super (X _ _ hC) rfl hx rfl (fun c e => by cases e) (looks_mroIn X T.self) (fun h1 e1 kk1 => ?_)
  have X1 : K.In h1 := X.keeps kk1
  have hx1 := kk1 _ _ hx
  have I1 : InstAt h1 x (excO C t0) C none := ⟨hx1, rfl, rfl, trivial⟩
  refine kxs_getMethod kxs_ValueError e1 (looks_opaque X1 T.opq) (l₀ := .ref C :: bm) (fun A Q E s k q => wpAny_bind ((looks_clsIn X1 hcl) A _ E s k (wpAny_pure q))) rfl X1 hss (I1.type.andThen (looks_subIn X1 T.supB)) hxC rfl ?_
  have hns1 : (h1.push (kxs_mw "ValueError.__init__" x)).Ns L m := hns.keeps fun b o e => Heap.get?_push_of_some _ (kk1 b o e)
  rw [he]
  refine kxs_callWith (i := "ValueError.__init__") (x := x) rfl (evalArgs_plain (Calls.spliced_cons (hmsg _ _ hns1 fun z tk n => Calls.spliced_nil ⟨?_, ?_⟩)))
  · exact Heap.get?_push_size _ rfl
  · refine call_mw (Heap.get?_push_of_some _ (X1 _ _ hC)) (Heap.get?_push_of_some _ hx1) (Heap.get?_push_size _ rfl) (show 1 ≤ sizeLine by decide) fun h' t1 k e => ?_
    exact hq h' _ t1 (fun b o hb ho => k b o hb (Heap.get?_push_of_some _ (kk1 b o ho))) e
end
/-! ### the text -/
def TxE (prog : Program) (w : World) (env : Env) (m : Str → Option Value) (e : Expr) : Prop := ∀ (A : Around) (E : Value → Shared → Prop) (s : Shared) (Q : Value → Shared → Prop), s.heap.Ns env.locals m →
  (∀ (z : Str) tk n, z.length ≤ 100000 → Q (.str z tk) { s with toks := n }) → wpAny (model prog w) A (eval e env) Q E s
/-- what {x!r} is written of -/
def MsgV (v : Value) : Prop := (∃ i t, v = .int i t ∧ i.natAbs.log2 < 1920) ∨ ∃ y t, v = .str y t ∧ (reprText y).length ≤ 100000
section
variable {prog : Program} {w : World} {env : Env} {m : Str → Option Value}
theorem small_size {n : Nat} (h : n ≤ 100000) : n ≤ sizeLine := Nat.le_trans h (by decide)
theorem tx_const {z : Str} {k : Nat} {pos : Pos} (h : z.length ≤ 100000) : TxE prog w env m (.Constant (.str z) k pos) := fun A E s Q _ q => by
  rw [eval_Constant]
  exact wpAny_mkText (q z _ _ h)
theorem ld_name {A : Around} {E : Value → Shared → Prop} {s : Shared} {Q : Value → Shared → Prop} {x : Str} {p : Pos} {v : Value} (hn : s.heap.Ns env.locals m) (hv : m x = some v) (hk : env.scope.kind = .function) (hl : env.kindOf x = some .local) (h : Q v s) (hd : (x == ("__debug__" : Str)) = false := by decide) :
    wpAny (model prog w) A (eval (.Name x p) env) Q E s := wpAny_Name (wpAny_loadName_local hk hl hn hv h) hd
theorem tx_repr {x : Str} {p pos : Pos} {v : Value} (hv : m x = some v) (ok : MsgV v) (hk : env.scope.kind = .function) (hl : env.kindOf x = some .local) (hd : (x == ("__debug__" : Str)) = false := by decide) : TxE prog w env m (.FormattedValue (.Name x p) 114 none pos) := fun A E s Q hn q => by
  refine wpAny_FormattedValue_repr (ld_name hn hv hk hl ?_ hd)
  rcases ok with ⟨i, t, rfl, hz⟩ | ⟨y, t, rfl, hz⟩
  · have hl : (Str.ofString (toString i)).length ≤ 100000 := by
      have e := int_text_length_le (k := 1920) (by decide) hz
      rw [PySem.ofString_length]; omega
    exact pyReprObj_int hz (wpAny_formatField_str (q _ _ _ hl) (q _ _ _ hl) (small_size hl))
  · exact pyReprObj_str (wpAny_formatField_str (q _ _ _ hz) (q _ _ _ hz) (small_size hz)) (small_size hz)
inductive TxP (prog : Program) (w : World) (env : Env) (m : Str → Option Value) : List Expr → Prop where
  | nil : TxP prog w env m []
  | cons {e : Expr} {es : List Expr} (h : TxE prog w env m e) (r : TxP prog w env m es) : TxP prog w env m (e :: es)
theorem txp_run {es : List Expr} (h : TxP prog w env m es) : ∀ (A : Around) (E : Value → Shared → Prop) (acc : Str) (s : Shared) (R : Str → Shared → Prop), acc.length + 100000 * es.length ≤ sizeLine → s.heap.Ns env.locals m →
    (∀ out n, out.length ≤ sizeLine → R out { s with toks := n }) → Joins (model prog w) A E (evalEach es env) acc R s := by
  induction h with
  | nil =>
    intro A E acc s R hz hn k
    have e0 : evalEach [] env = [] := by first | rfl | simp [evalEach]
    rw [e0]
    exact k acc s.toks (by simpa using hz)
  | @cons e es he r ih =>
    intro A E acc s R hz hn k
    have e0 : evalEach (e :: es) env = eval e env :: evalEach es env := by first | rfl | simp [evalEach]
    rw [e0]
    rw [List.length_cons] at hz
    refine he A E s _ hn fun z tk n hl => ⟨z, tk, rfl, ?_, ?_⟩
    · rw [Str.length_append]; omega
    · refine ih A E (acc ++ z) { s with toks := n } R (by rw [Str.length_append]; omega) hn fun out n' ho => ?_
      exact k out n' ho
theorem tx_joined {v1 v2 : Expr} {rest : List Expr} {pos : Pos} {A : Around} {E : Value → Shared → Prop} {s : Shared} {Q : Value → Shared → Prop} (h : TxP prog w env m (v1 :: v2 :: rest)) (hz : 100000 * (v1 :: v2 :: rest).length ≤ sizeLine) (hn : s.heap.Ns env.locals m)
    (q : ∀ (z : Str) tk n, Q (.str z tk) { s with toks := n }) : wpAny (model prog w) A (eval (.JoinedStr (v1 :: v2 :: rest) pos) env) Q E s :=
  wpAny_JoinedStr (txp_run h A E Str.empty s _ (by rw [show Str.empty.length = 0 from rfl, Nat.zero_add]; exact hz) hn fun out n ho => ⟨ho, q out _ _⟩)
end
/-! ### __init__ of one argument -/
/-- the text of def __init__(self, f): super().__init__(msg); self.f = f -/
structure Sh1 (prog : Program) (w : World) (st : Stmt) (f : Str) : Prop where
  body : ∃ (msg : Expr) (p0 p1 p2 p3 p4 q1 q2 q3 q4 : Pos) (pl : Sem Bool), defBody st = [.Expr (.Call (.Attribute (.Call (.Name "super" p0) [] [] p1) "__init__" p2) [msg] [] p3) p4, .Assign [.Attribute (.Name "self" q1) f q2] (.Name f q3) q4] ∧
    (∀ (q : Str) (L fI cda cc : Addr) (m : Str → Option Value) (v : Value) (A : Around) (E : Value → Shared → Prop) (s : Shared) (Q : Value → Shared → Prop), m f = some v → MsgV v → s.heap.Ns L m → (∀ (z : Str) tk n, Q (.str z tk) { s with toks := n }) →
      wpAny (model prog w) A (eval msg (ksEnv q (defScope st) L fI (.ref cda) cc)) Q E s) ∧
    (∀ (q : Str) (L fI cda cc : Addr), interactive (ksEnv q (defScope st) L fI (.ref cda) cc) = false ∧ starEach [msg] (ksEnv q (defScope st) L fI (.ref cda) cc) = (false, eval msg (ksEnv q (defScope st) L fI (.ref cda) cc)) :: starEach [] (ksEnv q (defScope st) L fI (.ref cda) cc) ∧
      swapsWith (.Call (.Attribute (.Call (.Name "super" p0) [] [] p1) "__init__" p2) [msg] [] p3) none p4.line (ksEnv q (defScope st) L fI (.ref cda) cc) = pure false ∧
      eval (.Call (.Attribute (.Call (.Name "super" p0) [] [] p1) "__init__" p2) [msg] [] p3) (ksEnv q (defScope st) L fI (.ref cda) cc) = (do
        let ov ← attributeBase (.Call (.Name "super" p0) [] [] p1) "__init__" (ksEnv q (defScope st) L fI (.ref cda) cc) (eval (.Call (.Name "super" p0) [] [] p1) (ksEnv q (defScope st) L fI (.ref cda) cc))
        standAt p2.atName
        let (f, first) ← holding [ov] (getMethod ov "__init__" pl)
        callWith p3 f first (backTo p3 (starEach [msg] (ksEnv q (defScope st) L fI (.ref cda) cc))) []) ∧
      swapsWith (.Name f q3) (some (.Attribute (.Name "self" q1) f q2)) q4.line (ksEnv q (defScope st) L fI (.ref cda) cc) = pure false)
  head : ∃ ar, ((defArgs st).posonlyargs ++ (defArgs st).args).head? = some ar ∧ ar.arg = "self"
  ks : (defScope st).names.lookup ("super" : Str) = some .globalImplicit
  kc : (defScope st).names.lookup ("__class__" : Str) = some .free
  ka : (defScope st).names.lookup ("self" : Str) = some .local
  kf : (defScope st).names.lookup f = some .local
  fd : (f == ("__debug__" : Str)) = false
  fs : (("self" : Str) == f) = false
  k : (defScope st).kind = .function
  co : (defScope st).isCoroutine = false
  gen : (defScope st).isGenerator = false
  nocell : ∀ x ∈ (defScope st).names, x.2 ≠ .cell
  binds : ∀ (s : Shared) (x : Addr) (v : Value) (qual : Str) (doc pm : Value) (an : Option Addr) (cda cc : Addr) (ct : Value), BindsTo s (ksFn "__init__" qual (defArgs st) (defBody st) (defScope st) .none .none doc pm an (.ref cda) ct cc) ⟨[.ref x, v], []⟩ [("self", .ref x), (f, v)]
/-- what __init__ leaves of a fresh exception at x -/
structure IEnd (h h' : Heap) (x C dx t1 : Addr) (mA : Str → Option Value) : Prop where
  keep : ∀ b o, b ≠ x → h.get? b = some o → h'.get? b = some o
  obj : h'.get? x = some { cls := .ref C, dict := some dx, data := .fields #[.ref t1, .none, .none, .none, .bool false, .none] }
  dbig : h.objs.size ≤ dx
  dne : dx ≠ x
  ns : h'.Ns1 dx mA
section
variable {prog : Program} {w : World} {A : Around} {E : Value → Shared → Prop} {R : Result → Shared → Prop} {s : Shared} {K : Frag} {mg : Str → Option Value} {base : Heap}
theorem init1 {C fI cc cda x t0 : Addr} {st : Stmt} {f qual : Str} {oc doc pm ct : Value} {od an : Option Addr} {osl : Array (Option Value)} {v : Value} (S : Sh1 prog w st f) (T : Txt prog K mg C fI cc cda) (Mo : Mod K mg base) (kb : ∀ b o, base.get? b = some o → s.heap.get? b = some o)
    (hf : K.lookup fI = some ⟨oc, od, .func (ksFn "__init__" qual (defArgs st) (defBody st) (defScope st) .none .none doc pm an (.ref cda) ct cc), osl⟩) (hcd : codeIn K (.ref cda) qual = true) (noN : findIn K (.ref C) f = some none)
    (hx : s.heap.get? x = some (excO C t0)) (hnx : K.lookup x = none) (hroom : A.depth < recursionLimit) (ok : MsgV v)
    (hq : ∀ h' tk dx t1, IEnd s.heap h' x C dx t1 (fun y => if y = f then some v else none) → R (.ok (.ret .none)) { s with heap := h', toks := tk }) :
    codeAny (model prog w) A (.call (.ref fI) ⟨[.ref x, v], []⟩) R s := by
  obtain ⟨msg, p0, p1, p2, p3, p4, q1, q2, q3, q4, pl, hb, hmsg, hev⟩ := S.body
  obtain ⟨ar, har, hself⟩ := S.head
  obtain ⟨nm, q0, N, bs, bm, sn, sub, ab, col, dd, k0, k1, k2, k3, k5, hC, hbm⟩ := T.cls
  have hcl := clsIn_of hC
  have X : K.In s.heap := Mo.kin.keeps kb
  refine ks_codeAny_call_defAt (fd := ksFn "__init__" qual (defArgs st) (defBody st) (defScope st) .none .none doc pm an (.ref cda) ct cc) (body := defBody st) (binds := [("self", .ref x), (f, v)]) hroom (X _ _ hf) rfl (Mo.nolimit.keeps kb) (codeRec_of X hcd) rfl (S.binds s x v qual doc pm an cda cc ct) S.nocell (fun y hy => ?_) (fun h1 hns k1 => ?_) S.co S.gen S.k
  · rcases List.mem_cons.mp hy with rfl | hy
    · exact S.ka
    · rw [List.mem_singleton.mp hy]; exact S.kf
  · have hx1 := k1 _ _ hx
    have kb1 : ∀ b o, base.get? b = some o → h1.get? b = some o := fun b o e => k1 b o (kb b o e)
    obtain ⟨e0, e1, e2, e3, e4⟩ := hev qual s.heap.objs.size fI cda cc
    have hv1 : (fun y => List.lookup y [(("self" : Str), Value.ref x), (f, v)].reverse) "self" = some (.ref x) := by
      show List.lookup ("self" : Str) ([(f, v), (("self" : Str), Value.ref x)] : List (Str × Value)) = _
      simp [List.lookup, S.fs]
    have hv2 : (fun y => List.lookup y [(("self" : Str), Value.ref x), (f, v)].reverse) f = some v := by
      show List.lookup f ([(f, v), (("self" : Str), Value.ref x)] : List (Str × Value)) = _
      simp [List.lookup]
    show PySem.wpAt (model prog w) (A.deeper (ksEnv qual (defScope st) s.heap.objs.size fI (.ref cda) cc)) (.func (defBody st) (ksEnv qual (defScope st) s.heap.objs.size fI (.ref cda) cc)) (execs (defBody st) (ksEnv qual (defScope st) s.heap.objs.size fI (.ref cda) cc)) _ _ _
    generalize hbb : defBody st = bb at hb ⊢
    rw [hb]
    refine ks_wpAt_execs_cons (super_stmt (pl := pl) T Mo kb1 hf har hself S.ks S.kc S.ka S.k hns hv1 hx1 (fun s' Q' hn q => hmsg _ _ _ _ _ _ v _ _ _ _ hv2 ok hn q) (fun h2 tk2 t1 k2 hx2 => ?_) e0 e1 e2 e3)
    refine wpAt_of_wpAny ?_
    have hL : s.heap.objs.size ≠ x := Nat.ne_of_gt (Heap.lt_size hx)
    obtain ⟨oL, es, ep, hoL, hr⟩ := hns
    have hns2 : h2.Ns s.heap.objs.size (fun y => List.lookup y [(("self" : Str), Value.ref x), (f, v)].reverse) := ⟨oL, es, ep, k2 _ _ hL hoL, hr⟩
    have X2 : K.In h2 := fun b o e => k2 b o (fun z => by rw [z, hnx] at e; cases e) (k1 b o (X _ _ e))
    refine wpAny_execs_cons (plainObj_wpAny_Assign_Attribute ?_ e4)
    refine ld_name (v := v) hns2 hv2 S.k S.kf (ld_name (v := .ref x) hns2 hv1 S.k S.ka ?_) S.fd
    refine set_plain X2 (ox := excO C t1) (od := none) ⟨hx2, rfl, rfl, trivial⟩ T.sa ?_
    refine PySem.HandSPX.exc_osa X2 hx2 hcl (show refsVE (.ref C :: bm) = true from hbm) rfl noN (fun h3 tk3 dx k3 dn dne hx3 hn3 => ?_)
    have z : s.heap.objs.size ≤ h2.objs.size := Nat.le_of_lt (Heap.lt_size (k2 _ _ hL hoL))
    exact wpAny_execs_nil (hq h3 _ dx t1 ⟨fun b o hb e => k3 b o hb (k2 b o hb (k1 b o e)), hx3, Nat.le_trans z dn, dne, hn3⟩)
/-- a made error: its own dict d holds the field -/
structure Made (h h' : Heap) (e C d : Addr) (mA : Str → Option Value) : Prop where
  keep : ∀ b o, h.get? b = some o → h'.get? b = some o
  new : h.objs.size ≤ e
  obj : ∃ oe vs, h'.get? e = some oe ∧ oe.cls = .ref C ∧ oe.dict = some d ∧ oe.data = .fields vs ∧ vs[1]? = some .none
  dbig : h.objs.size ≤ d
  dne : d ≠ e
  ns : h'.Ns1 d mA
/-- all that is told of an own error class of one argument -/
structure Cls1 (prog : Program) (w : World) (K : Frag) (mg : Str → Option Value) (cn f : Str) (C : Addr) : Prop where
  ex : ∃ (fI cc cda : Addr) (st : Stmt) (qual : Str) (oc doc pm ct : Value) (od an : Option Addr) (osl : Array (Option Value)), Sh1 prog w st f ∧ Txt prog K mg C fI cc cda ∧
    K.lookup fI = some ⟨oc, od, .func (ksFn "__init__" qual (defArgs st) (defBody st) (defScope st) .none .none doc pm an (.ref cda) ct cc), osl⟩ ∧ codeIn K (.ref cda) qual = true
  gC : mg cn = some (.ref C)
  kC : keepIn K (.ref C) = true
  noN : findIn K (.ref C) f = some none
  exC : subIn K (.ref C) (.type "BaseException") = some true
  tyC : typeIn K (.ref C) = some (.type "type")
theorem one_size (v : Value) : [v].length ≤ sizeLine := by
  rw [sizeLine_eq]
  exact (by decide : 1 ≤ 16777216)
theorem made1 {cn f : Str} {C : Addr} {v : Value} (Z : Cls1 prog w K mg cn f C) (Mo : Mod K mg base) (kb : ∀ b o, base.get? b = some o → s.heap.get? b = some o) (hroom : A.depth + 1 < recursionLimit) (ok : MsgV v)
    (hq : ∀ h' tk e d, Made s.heap h' e C d (fun y => if y = f then some v else none) → R (.ok (.ret (.ref e))) { s with heap := h', toks := tk }) :
    codeAny (model prog w) A (.call (.ref C) ⟨[v], []⟩) R s := by
  obtain ⟨fI, cc, cda, st, qual, oc, doc, pm, ct, od, an, osl, S, T, hf, hcd⟩ := Z.ex
  obtain ⟨nm, q, N, bs, bm, sn, sub, ab, col, dd, k0, k1, k2, k3, k5, hC, hbm⟩ := T.cls
  have X : K.In s.heap := Mo.kin.keeps kb
  obtain ⟨hp, g, dr, tk, os⟩ := s
  have k : ∀ b o, hp.get? b = some o → ((hp.push (kdv_tup [v])).push (excO C hp.objs.size)).get? b = some o := fun b o e => Heap.get?_push_of_some _ (Heap.get?_push_of_some _ e)
  have hget : ((hp.push (kdv_tup [v])).push (excO C hp.objs.size)).get? (hp.objs.size + 1) = some (excO C hp.objs.size) := by heap_get
  have hnx : K.lookup (hp.objs.size + 1) = none := by
    cases e : K.lookup (hp.objs.size + 1) with
    | none => rfl
    | some o =>
      have z : hp.get? (hp.objs.size + 1) = some o := X _ _ e
      exact absurd (Nat.lt_of_succ_lt (Heap.lt_size z)) (Nat.lt_irrefl _)
  refine PySem.HandSPX.call_own F.excBase_ValueError (fun X => PySem.HandSPX.refsVE_contains X bm hbm) (X _ _ hC) (looks_findIn X T.iC) (fun self => bind_fn X self T.tI) (one_size v) ?_
  refine init1 (s := ⟨(hp.push (kdv_tup [v])).push (excO C hp.objs.size), g, dr, tk, os⟩) S T Mo (fun b o e => k b o (kb b o e)) hf hcd Z.noN hget hnx ?_ ok fun h' tk' dx t1 ⟨k', hx, dn, dne, hns⟩ => ?_
  · show A.depth + 1 < recursionLimit
    exact hroom
  · have old : ∀ b o, hp.get? b = some o → h'.get? b = some o := fun b o e => k' b o (Nat.ne_of_lt (Nat.lt_succ_of_lt (Heap.lt_size e))) (k b o e)
    have z : hp.objs.size + 1 + 1 ≤ dx := by
      first
        | (simpa only [Heap.size_push] using dn)
        | exact dn
        | (have q := dn; rw [Heap.size_push, Heap.size_push] at q; exact q)
    exact ⟨rfl, hq h' tk' (hp.objs.size + 1) dx ⟨old, Nat.le_succ _, ⟨_, _, hx, rfl, rfl, rfl, rfl⟩, Nat.le_trans (Nat.le_trans (Nat.le_succ _) (Nat.le_succ _)) z, dne, hns⟩⟩
end
theorem relO_one {f : Str} {v : V} {v' : Value} (r : RelV v v') (g : Str) : RelO (List.lookup g [(f, v)]) (if g = f then some v' else none) := by
  by_cases hw : g = f
  · subst hw
    rw [if_pos rfl]
    have q : List.lookup g [(g, v)] = some v := by simp [List.lookup]
    rw [q]
    exact r
  · rw [if_neg hw]
    have qw : (g == f) = false := by simpa using hw
    have q2 : List.lookup g [(f, v)] = none := by simp [List.lookup, qw]
    rw [q2]
    trivial
/-- what may be written in the message: ints below 2 ^ 1920, short texts -/
def MsgA (v : V) : Prop := (∃ i, v = .int i ∧ i.natAbs.log2 < 1920) ∨ ∃ y, v = .str y ∧ (reprText y).length ≤ 100000
theorem MsgA.v {v : V} {u : Value} (h : MsgA v) (r : RelV v u) : MsgV u := by
  rcases h with ⟨i, rfl, h⟩ | ⟨y, rfl, h⟩
  · obtain ⟨t, rfl⟩ := r; exact .inl ⟨i, t, rfl, h⟩
  · obtain ⟨t, rfl⟩ := r; exact .inr ⟨y, t, rfl, h⟩
section
variable {X : Cx} {C : Addr}
/-- the error of one argument, made -/
def tMk1 (C : Addr) (f : Str) (ta : TA) : L2.St → Hp → XK → Prop := fun σ H Q => ta σ H fun vs H1 => ∃ v, vs = [v] ∧ MsgA v ∧ ∀ d, H1 d = none → Q (.ref C) (some d) (upd H1 d (.xd [(f, v)]))
theorem pmk1 {cn f : Str} {a : Expr} {ta : TA} {p pos : Pos} {k : Nat} (Z : Cls1 X.prog X.w X.K X.mg cn f C) (hr : Room k X.A) (ha : PA X [a] ta) (hg : Gl X cn := by rfl) (hdb : (cn == ("__debug__" : Str)) = false := by decide)
    (he : starEach (a :: []) X.env = (false, eval a X.env) :: starEach [] X.env := by rfl) (hpl : (backTo pos (starEach [] X.env)).any (·.1) = false := by rfl) :
    PMk X (.Call (.Name cn p) [a] [] pos) (tMk1 C f ta) := by
  intro pins s σ H Q I h
  refine wpAny_Call_Name_kw (ld_glob I hg Z.gC ?_ hdb)
  refine PySem.W.callWith_K (h₀ := X.base) I.ok.mod.kin Z.kC (thn (ha.run pos pins s σ H _ I h) fun us s1 hh => ?_) he hpl
  obtain ⟨vs, H1, I1, r1, v, ev, hok, q1⟩ := hh
  subst ev
  refine ⟨I1.kIn, ?_⟩
  cases r1 with
  | cons rv rn =>
    rename_i v' us'
    cases rn
    show wpAny _ _ (call (.ref C) [v']) _ _ _
    have hbk := I1.bk
    obtain ⟨hp, g, dr, tk, os⟩ := s1
    refine wpAny_call (made1 Z I1.mod hbk (by have := hr.dp; omega) (hok.v rv) fun h' tk' e d M => ?_)
    show MkP X pins σ Q (.ref e) ⟨h', g, dr, tk', os⟩
    obtain ⟨oe, fv, hoe, hc, hd, hdat, h1⟩ := M.obj
    have hns := M.ns
    obtain ⟨G', g1, g2⟩ := restrict h' fun b => decide (b ≠ e)
    have gk : ∀ b, b ≠ e → G'.get? b = h'.get? b := fun b hb => g1 b (decide_eq_true hb)
    have ge : G'.get? e = none := g2 e (by simp)
    have old : ∀ b o, hp.get? b = some o → G'.get? b = some o := fun b o q => (gk b (Nat.ne_of_lt (Nat.lt_of_lt_of_le (Heap.lt_size q) M.new))).trans (M.keep b o q)
    have ob : ObjOk X.prog X.w (upd H1 d (.xd [(f, v)])) G' d (.xd [(f, v)]) :=
      ⟨_, hns.at (fun o q => (gk d M.dne).trans q), fun g => relO_one rv g⟩
    have J : Inv X pins σ (upd H1 d (.xd [(f, v)])) ⟨G', g, dr, tk', os⟩ := I1.laid (t' := tk') old M.dbig ob
    refine ⟨e, oe, fv, ⟨G', g, dr, tk', os⟩, _, .ref C, some d, rfl, J, fun b o q => ?_, ge, hoe, ⟨hc, hd⟩, hdat, h1, ?_, rfl, I1.bare, raises_own Z.exC Z.tyC, q1 d (I1.hok.fresh M.dbig)⟩
    · by_cases hb : b = e
      · have q' : G'.get? b = some o := q
        rw [hb, ge] at q'; cases q'
      · exact (gk b hb).symm.trans q
    · rw [upd_ne (Ne.symm M.dne)]
      exact I1.hok.fresh M.new
/-- raise C(e) -/
def tRaise1 (C : Addr) (f : Str) (W : WX) (ta : TA) : TS := fun _ σ H => tMk1 C f ta σ H fun cls d H' => W cls d σ H'
theorem ps_raise1 {cn f : Str} {a : Expr} {ta : TA} {W : WX} {p pos pos2 : Pos} {k : Nat} (hc : X.calm = true) (Z : Cls1 X.prog X.w X.K X.mg cn f C) (hr : Room k X.A) (tk : Takes X W) (ha : PA X [a] ta) (hg : Gl X cn := by rfl) (hdb : (cn == ("__debug__" : Str)) = false := by decide)
    (he : starEach (a :: []) X.env = (false, eval a X.env) :: starEach [] X.env := by rfl) (hpl : (backTo pos (starEach [] X.env)).any (·.1) = false := by rfl) :
    PS X (.Raise (some (.Call (.Name cn p) [a] [] pos)) none pos2) (tRaise1 C f W ta) := ps_raise hc tk (pmk1 Z hr ha hg hdb he hpl)
end
theorem r_raise1 {C : Addr} {f : Str} {W : WX} {ta : TA} {D : Ends} {σ : L2.St} {H : Hp} (k : ta σ H fun vs H1 => ∃ v, vs = [v] ∧ MsgA v ∧ ∀ d, H1 d = none → W (.ref C) (some d) σ (upd H1 d (.xd [(f, v)]))) : tRaise1 C f W ta D σ H := k
theorem r_msgI {i : Int} {F : V → Prop} (h : i.natAbs < 2 ^ 1000) (k : F (.int i)) : ∃ v, [V.int i] = [v] ∧ MsgA v ∧ F v := ⟨_, rfl, .inl ⟨i, rfl, Nat.lt_trans (log2_of h (by decide)) (by decide)⟩, k⟩
theorem r_xf {a C : Addr} {cls : Value} {d : Option Addr} {f : Str} {te : TE} {σ : L2.St} {H : Hp} {Q : VK}
    (k : te σ H fun x H1 => x = .ref a ∧ cls = .ref C ∧ ∃ (dd : Addr) (fs : List (Str × V)) (v : V), d = some dd ∧ H1 dd = some (.xd fs) ∧ fs.lookup f = some v ∧ Q v H1) : tXf a cls d C f te σ H Q := k
theorem r_xfE {a C dd : Addr} {f : Str} {H : Hp} {fs : List (Str × V)} {v : V} {Q : V → Prop} (hd : H dd = some (.xd fs)) (hv : fs.lookup f = some v) (k : Q v) :
    V.ref a = .ref a ∧ Value.ref C = .ref C ∧ ∃ (dd' : Addr) (fs : List (Str × V)) (v : V), some dd = some dd' ∧ H dd' = some (.xd fs) ∧ fs.lookup f = some v ∧ Q v := ⟨rfl, rfl, dd, fs, v, rfl, hd, hv, k⟩
theorem kit_self {K : PySem.W.Frag} {C : Addr} : PySem.W.kitOne K (.ref C) (.ref C) = some true := by
  unfold PySem.W.kitOne
  rw [if_pos (beq_self_eq_true _)]
theorem kit_refs {K : PySem.W.Frag} {C D : Addr} {b : Bool} (hdct : PySem.W.hasDictIn K D = true) (ht : PySem.W.typeIn K (.ref D) = some (.type "type")) (h4 : PySem.W.subIn K (.ref C) (.ref D) = some b) (hq : (Value.ref C == Value.ref D) = false) : PySem.W.kitOne K (.ref C) (.ref D) = some b := by
  obtain ⟨cd, hc, _⟩ := PySem.W.any_some hdct
  have e2 : ((PySem.W.clsIn K D).isSome && PySem.W.typeIn K (.ref D) == some (.type "type")) = true := by rw [hc, ht] <;> rfl
  unfold PySem.W.kitOne
  rw [if_neg (by rw [hq]; decide)]
  show (if ((PySem.W.clsIn K D).isSome && PySem.W.typeIn K (.ref D) == some (.type "type")) = true then PySem.W.subIn K (.ref C) (.ref D) else none) = some b
  rw [if_pos e2]
  exact h4
theorem kit_typ {K : PySem.W.Frag} {C : Addr} {T : String} {b : Bool} (hm : PySem.W.kitMeta T = true) (h4 : PySem.W.subIn K (.ref C) (.type T) = some b) : PySem.W.kitOne K (.ref C) (.type T) = some b := by
  unfold PySem.W.kitOne
  rw [if_neg (by show ¬ (Value.ref C == Value.type T) = true; intro z; cases (beq_iff_eq.mp z))]
  show (if PySem.W.kitMeta T = true then PySem.W.subIn K (.ref C) (.type T) else none) = some b
  rw [if_pos hm]
  exact h4
/-- the comparison within an except suite -/
theorem op_eqDK {X : Cx} {K : PySem.W.Frag} (hK : X.K = K) (hu : X.A.units + 64 < cLine) : OpR X (compareOp .Eq) (rEqD K) := by subst hK; exact op_eqD hu
theorem op_neDK {X : Cx} {K : PySem.W.Frag} (hK : X.K = K) (hu : X.A.units + 64 < cLine) : OpR X (compareOp .NotEq) (rNeD K) := by subst hK; exact op_neD hu
/-! ### isinstance(e, c), e a caught error of an own class with its dict -/
def rIsD (K : PySem.W.Frag) (a : Addr) (cls : Value) (d : Option Addr) : List V → Hp → VK → Prop := fun xs H Q => ∃ (D dd : Addr) (fs : List (Str × V)) (c : V) (cv : Value) (b : Bool), cls = .ref D ∧ d = some dd ∧ ExcC K D ∧ xs = [.ref a, c] ∧ H dd = some (.xd fs) ∧ (∀ u, RelV c u → u = cv) ∧ PySem.W.kitOne K (.ref D) cv = some b ∧ Q (.bl b) H
theorem call_isD {X : Cx} {a : Addr} {cls : Value} {d : Option Addr} {oe : Obj} {pn : List (Addr × Obj)} (hz : Zc cls d oe) (hf : ∃ vs, oe.data = .fields vs) : CallR (X.suite a ((a, oe) :: pn)) (.builtin "isinstance") (rIsD X.K a cls d) := by
  intro pins s σ H xs us Q I r h
  obtain ⟨D, dd, fs, c, cv, b, rfl, rfl, C, rfl, hdd, hcv, e, q⟩ := h
  cases r with
  | cons rx rr =>
    cases rr with
    | cons rt rr =>
      cases rr
      cases rx
      have ec := hcv _ rt
      subst ec
      obtain ⟨hget, _⟩ := I.pin (a, oe) (List.mem_append.mpr (.inl List.mem_cons_self))
      obtain ⟨vs, hv⟩ := hf
      have hx : ObjOk X.prog X.w H s.heap dd (.xd fs) := I.hok dd _ hdd
      obtain ⟨mA, ⟨od, es, ep, ho, hr⟩, hl⟩ := hx
      have J : PySem.W.InstAt s.heap a oe D (some od) := by
        refine ⟨hget, hz.1, by unfold PySem.W.notCls; rw [hv] <;> rfl, ?_⟩
        rw [hz.2]; exact ho
      obtain ⟨cd, hcd, _⟩ := PySem.W.any_some C.hd
      exact PySem.W.kia_one (PySem.W.kitx_exc (by rw [hcd]; rfl) C.hg C.hk C.hs C.ha C.hn C.ht C.hm) I.kIn J e (fun z => nomatch z) fun tk => ⟨.bl b, H, I.kept (t' := tk) fun _ _ z => z, rfl, q⟩
theorem r_isD {K : PySem.W.Frag} {a D dd : Addr} {fs : List (Str × V)} {c : V} {cv : Value} {b : Bool} {H : Hp} {Q : VK} (C : ExcC K D) (hd : H dd = some (.xd fs)) (hc : ∀ u, RelV c u → u = cv) (hk : PySem.W.kitOne K (.ref D) cv = some b) (k : Q (.bl b) H) :
    rIsD K a (.ref D) (some dd) [.ref a, c] H Q := ⟨D, dd, fs, c, cv, b, rfl, rfl, C, rfl, hd, hc, hk, k⟩
end Er
/-! ### operators of own classes, over the layer -/
namespace Ow
open PySem.W PySem.Calls
theorem inst_of {X : Cx} {pins : List (Addr × Obj)} {σ : L2.St} {H : Hp} {s : Shared} {a C dx : Addr} {fs : List (Str × V)} (I : Inv X pins σ H s) (h : H a = some (.ins C dx fs)) : ∃ ox od, InstAt s.heap a ox C od ∧ ox.data = .plain := by
  obtain ⟨mA, O, _⟩ := ins_get I.hok h
  obtain ⟨od, J, _⟩ := O.look
  exact ⟨_, _, J, rfl⟩
theorem not_ni {v : V} {u : Value} (r : RelV v u) : u ≠ .notImplemented := by
  rintro rfl
  cases v <;> first | (cases r; done) | (obtain ⟨t, e⟩ := r; cases e)
theorem cmpBack {X : Cx} {pins : List (Addr × Obj)} {σ : L2.St} {Q : VK} {u : Value} {s : Shared} (h : EP X pins σ Q u s) : PySem.W.CmpBack (EP X pins σ Q) u s := by
  obtain ⟨v, H', I, r, q⟩ := id h
  have n := not_ni r
  cases u <;> first | exact h | exact absurd rfl n
section
variable {X : Cx} {CX : CXT} {k : Nat} {C f : Addr} {sp : Sp} {E : XK}
/-- the callee, with values -/
theorem run_own {pins : List (Addr × Obj)} {σ : L2.St} {H : Hp} {s : Shared} {Q : VK} {us : List Value} {vs : List V} (F : FnR X.prog X.w X.K X.mg X.base CX k f sp) (hr : Room k X.A) (hx : Passes CX X E) (I : Inv X pins σ H s) (r : Vals vs us) (h : sp vs H Q E) :
    wpAny (model X.prog X.w) X.A (call (.ref f) us) (EP X pins σ Q) X.xe s := wpAny_call (run_fnR F hr hx I r h)
/-- x op y, both of the class C -/
def rOwn2 (C : Addr) (sp : Sp) (E : XK) : R2 := fun x y H Q => ∃ a dx fs b dy gs, x = .ref a ∧ y = .ref b ∧ H a = some (.ins C dx fs) ∧ H b = some (.ins C dy gs) ∧ sp [x, y] H Q E
theorem op_own2 {op : Operator} {m : Str} (sf : selfFirst X.K C = true) (M : Meth X.K C m f) (F : FnR X.prog X.w X.K X.mg X.base CX k f sp) (hr : Room k X.A) (hx : Passes CX X E) (hm : PySem.dunder op.info.2 = m := by rfl) : OpR X (binaryOp op) (rOwn2 C sp E) := by
  intro pins s σ H x y v u Q I rx ry h
  obtain ⟨a, dx, fs, b, dy, gs, rfl, rfl, ha, hb, q⟩ := h
  obtain rfl : v = Value.ref a := rx
  obtain rfl : u = Value.ref b := ry
  obtain ⟨ox, od, J, _⟩ := inst_of I ha
  obtain ⟨oy, od', J', _⟩ := inst_of I hb
  obtain ⟨mm, Fm⟩ := I.fr
  refine binop_K Fm I.ok.mod.kin J J'.type sf (by rw [hm]; exact M.at_) M.fn ?_
  exact wpAny_mono (run_own (vs := [.ref a, .ref b]) F hr hx I (.cons rfl (.cons rfl .nil)) q) (fun _ _ z => cmpBack z) fun _ _ e => e
/-- x op n, x of the class C, n an int -/
def rOwnI (C : Addr) (sp : Sp) (E : XK) : R2 := fun x y H Q => ∃ a dx fs n, x = .ref a ∧ y = .int n ∧ H a = some (.ins C dx fs) ∧ sp [x, y] H Q E
theorem op_ownI {op : Operator} {m mr : Str} {fo ro rc : Option Value} (sf : selfFirst X.K C = true) (M : Meth X.K C m f) (F : FnR X.prog X.w X.K X.mg X.base CX k f sp) (hr : Room k X.A) (hx : Passes CX X E)
    (hrc : findIn X.K (.ref C) mr = some rc) (hp : rc = none ∨ ∃ g : Addr, rc = some (.ref g)) (h1 : findIn X.K (.type "int") m = some fo) (h2 : findIn X.K (.type "int") mr = some ro) (hs : subIn X.K (.type "int") (.ref C) = some false)
    (hm : PySem.dunder op.info.2 = m := by rfl) (hmr : dunderR op.info.2 = mr := by rfl) : OpR X (binaryOp op) (rOwnI C sp E) := by
  intro pins s σ H x y v u Q I rx ry h
  obtain ⟨a, dx, fs, n, rfl, rfl, ha, q⟩ := h
  obtain rfl : v = Value.ref a := rx
  obtain ⟨t, rfl⟩ := ry
  obtain ⟨ox, od, J, _⟩ := inst_of I ha
  obtain ⟨mm, Fm⟩ := I.fr
  subst hm hmr
  refine ksp_binT Fm I.ok.mod.kin J (T := "int") rfl sf M.at_ M.fn hrc hp h1 h2 hs ?_
  exact wpAny_mono (run_own (vs := [.ref a, .int n]) F hr hx I (.cons rfl (.cons ⟨t, rfl⟩ .nil)) q) (fun _ _ z => cmpBack z) fun _ _ e => e
/-- -x -/
def rOwn1 (C : Addr) (sp : Sp) (E : XK) : V → Hp → VK → Prop := fun x H Q => ∃ a dx fs, x = .ref a ∧ H a = some (.ins C dx fs) ∧ sp [x] H Q E
theorem un_ownNeg (M : Meth X.K C "__neg__" f) (F : FnR X.prog X.w X.K X.mg X.base CX k f sp) (hr : Room k X.A) (hx : Passes CX X E) : UnR X (unaryOp .USub) (rOwn1 C sp E) := by
  intro pins s σ H x v Q I rx h
  obtain ⟨a, dx, fs, rfl, ha, q⟩ := h
  obtain rfl : v = Value.ref a := rx
  obtain ⟨ox, od, J, _⟩ := inst_of I ha
  obtain ⟨mm, Fm⟩ := I.fr
  exact ksp_neg Fm I.ok.mod.kin J M.at_ M.fn (run_own (vs := [.ref a]) F hr hx I (.cons rfl .nil) q)
/-- x == y, both of the class C -/
theorem op_ownEq {op : CmpOp} {m : Str} (M : Meth X.K C m f) (F : FnR X.prog X.w X.K X.mg X.base CX k f sp) (hr : Room k X.A) (hx : Passes CX X E) (hu : X.A.units < cLine) (hm : (cmpInfo op).2.1 = m := by rfl)
    (ho : ∀ a b, compareOp op a b = richCompare op a b := by intro _ _; rfl) : OpR X (compareOp op) (rOwn2 C sp E) := by
  intro pins s σ H x y v u Q I rx ry h
  obtain ⟨a, dx, fs, b, dy, gs, rfl, rfl, ha, hb, q⟩ := h
  obtain rfl : v = Value.ref a := rx
  obtain rfl : u = Value.ref b := ry
  obtain ⟨ox, od, J, _⟩ := inst_of I ha
  obtain ⟨oy, od', J', _⟩ := inst_of I hb
  obtain ⟨mm, Fm⟩ := I.fr
  rw [ho]
  refine cmp_K hu Fm I.ok.mod.kin J J'.type (by unfold notFirst; rw [beq_self_eq_true]; rfl) (by rw [hm]; exact M.at_) M.fn ?_
  exact wpAny_mono (run_own (vs := [.ref a, .ref b]) F hr hx I (.cons rfl (.cons rfl .nil)) q) (fun _ _ z => cmpBack z) fun _ _ e => e
end
section
open PySem.Builtin
theorem int_mul_own (a : Int) (t : Tok) (x C dx : Addr) :
    Meets (Builtin.«int.__mul__» ⟨[.int a t, .ref x], []⟩) (fun _ R s => s.heap.get? x = some (PySem.W.instObj C dx) ∧ R (.ok (.ret Value.notImplemented)) s) :=
  .of_wp fun prog w A R s ⟨hl, h⟩ => by
    obtain ⟨hp, g, d, tk, os⟩ := s
    wp_walk
    exact ⟨_, rfl, h⟩
theorem decl_gen {prog : Program} {w : World} {A : Around} {E : Value → Shared → Prop} {s : Shared} {self other : Value} {T id : String} {name : Str} {B : Builtin} {Q : Option Value → Shared → Prop} (hT : s.TypeIs self T) (h : Slot T name id) (entry : entryFor table id = some B)
    (args : argsOk id ⟨[self, other], []⟩) (hm : wpAny (model prog w) A.in1 (B ⟨[self, other], []⟩) (GQ.FinOf prog w A (wants (fun v s' => v = Value.notImplemented ∧ Q none s') E)) (fun e s' => wants (fun v s' => v = Value.notImplemented ∧ Q none s') E (.error e) s') s) :
    wpAny (model prog w) A (tryMethod self name other) Q E s := by
  refine wpAny_tryMethod_declines hT h ?_
  exact GQ.call_here h hT entry args hm
theorem int_declines {prog : Program} {w : World} {A : Around} {E : Value → Shared → Prop} {s : Shared} {x C dx : Addr} {i : Int} {t : Tok} {Q : Option Value → Shared → Prop} (hx : s.heap.get? x = some (instObj C dx)) (q : Q none s) :
    wpAny (model prog w) A (tryMethod (.int i t) (PySem.dunder "mul") (.ref x)) Q E s := by
  have h1 := @decl_gen prog w A E s (.int i t) (.ref x) "int" "int.__mul__" (PySem.dunder "mul") Builtin.«int.__mul__» Q
  have h2 := h1 (typeIs_int _ _ _) 
  have h3 := h2 PySem.F.slot_int_mul
  have h4 := h3 PySem.F.entry_int_mul 
  have h5 := h4 (PySem.F.args_int_mul_2 _ _)
  refine h5 ?_
  exact (int_mul_own i t x C dx prog w A (wants (fun v s' => v = Value.notImplemented ∧ Q none s') E) s ⟨hx, rfl, q⟩)
section
variable {prog : Program} {w : World} {A : Around} {E : Value → Shared → Prop} {s : Shared} {K : Frag} {x C dx f : Addr} {od : Obj}
theorem int_own {i : Int} {t : Tok} {g : Addr} {Q : Value → Shared → Prop} (X : K.In s.heap) (I : InstAt s.heap x (instObj C dx) C (some od)) (hc : selfFirst K C = true) (hm : findIn K (.ref C) "__mul__" = some (some (.ref g)))
    (hs : findIn K (.ref C) "__rmul__" = some (some (.ref f))) (hf : isFn K (.ref f) = true) (hsub : subIn K (.ref C) (.type "int") = some false) (h : wpAny (model prog w) A (call (.ref f) [.ref x, .int i t]) (PySem.W.CmpBack Q) E s) :
    wpAny (model prog w) A (binaryOp .Mult (.int i t) (.ref x)) Q E s := by
  obtain ⟨cd, rest, hcd, hmro⟩ := ksp_first hc
  have one := ksp_try (name := "__rmul__") X I hs hf h
  have L1 : Looks (model prog w) s.heap (typeOf (.int i t)) (.type "int") := Looks.of_pure rfl
  have L2 : Looks (model prog w) s.heap (typeOf (.ref x)) (.ref C) := I.type
  obtain ⟨hh, g', d, tt, os⟩ := s
  have L3 : Looks (model prog w) hh (fillsNumberSlot (.type "int") "mul") true := Looks.of_pure PySem.F.fills_int_mul
  have L4 : Looks (model prog w) hh (fillsNumberSlot (.ref C) "mul") true := fills_K X hcd hmro hm
  have L5 : Looks (model prog w) hh (isSubtype (.ref C) (.type "int")) false := looks_subIn X hsub
  have L7 : Looks (model prog w) hh (numberSlotInPython (.type "int") "mul") false := Looks.of_pure rfl
  have hne : (Value.type "int" == Value.ref C) = false := Bool.eq_false_iff.mpr fun q => by cases beq_iff_eq.mp q
  unfold binaryOp binaryOp1
  refine wpAny_holding (wpAny_bind ?_)
  refine wpAny_bind (L1.at (wpAny_bind (L2.at (wpAny_bind (L3.at ?_)))))
  simp only [hne, Bool.false_eq_true, if_false]
  ksp_lk
  refine int_declines I.at_ ?_
  ksp_lk
  refine wpAny_mono one (fun r s' hr' => ?_) fun _ _ e => e
  obtain ⟨v, rfl, hq⟩ := hr'
  ksp_lk
  exact hq
end
end
section
variable {X : Cx} {CX : CXT} {k : Nat} {C f : Addr} {sp : Sp} {E : XK}
/-- n * x, n an int, x of the class C: the reflected method -/
def rIntOwn (C : Addr) (sp : Sp) (E : XK) : R2 := fun x y H Q => ∃ b dx fs n, x = .int n ∧ y = .ref b ∧ H b = some (.ins C dx fs) ∧ sp [y, x] H Q E
theorem op_intMul {g : Addr} (sf : selfFirst X.K C = true) (M0 : Meth X.K C "__mul__" g) (M : Meth X.K C "__rmul__" f) (hs : subIn X.K (.ref C) (.type "int") = some false) (F : FnR X.prog X.w X.K X.mg X.base CX k f sp) (hr : Room k X.A) (hx : Passes CX X E) : OpR X (binaryOp .Mult) (rIntOwn C sp E) := by
  intro pins s σ H x y v u Q I rx ry h
  obtain ⟨b, dx, fs, n, rfl, rfl, hb, q⟩ := h
  obtain ⟨t, rfl⟩ := rx
  obtain rfl : u = Value.ref b := ry
  obtain ⟨mA, O, _⟩ := ins_get I.hok hb
  obtain ⟨od, J, _⟩ := O.look
  exact int_own I.kIn J sf M0.at_ M.at_ M.fn hs (wpAny_mono (run_own (vs := [.ref b, .int n]) F hr hx I (.cons rfl (.cons ⟨t, rfl⟩ .nil)) q) (fun _ _ z => cmpBack z) fun _ _ e => e)
/-- str(x), x of the class C -/
def rStrOwn (C : Addr) (sp : Sp) (E : XK) : List V → Hp → VK → Prop := fun xs H Q => ∃ a dx fs, xs = [.ref a] ∧ H a = some (.ins C dx fs) ∧ sp [.ref a] H (fun v H' => ∃ z, v = .str z ∧ Q v H') E
theorem call_strOwn (M : Meth X.K C "__str__" f) (F : FnR X.prog X.w X.K X.mg X.base CX k f sp) (hr : Room (k + 2) X.A) (hx : Passes CX X E) : CallR X (.type "str") (rStrOwn C sp E) := by
  intro pins s σ H xs us Q I r h
  obtain ⟨a, dx, fs, rfl, ha, q⟩ := h
  obtain ⟨u, rfl, ru⟩ := r.one
  obtain rfl : u = Value.ref a := ru
  obtain ⟨ox, od, J, _⟩ := inst_of I ha
  have hr2 : Room k X.A.in1.in1 := (show Room (k + 1) X.A.in1 from Room.in1 hr).in1
  refine kso_call hr2.units0 I.kIn J M.at_ M.fn (wpAny_mono (wpAny_call (SlX.run_at (us := [.ref a]) (ws := [.ref a]) F hr2 I.env0.in1.in1 hx I (.cons rfl .nil) q)) (fun u' s' z => ?_) fun _ _ x => x)
  obtain ⟨z', H', I', rz, y, ey, qz⟩ := z
  subst ey
  obtain ⟨t, e⟩ := (show ∃ t, u' = Value.str y t from rz)
  subst e
  exact ⟨.str y, H', I', ⟨t, rfl⟩, qz⟩
/-- x.f, read -/
def rFld (K : Frag) (f : Str) : V → Hp → VK → Prop := fun x H Q => ∃ a C dx fs v, x = .ref a ∧ H a = some (.ins C dx fs) ∧ Cls K C ∧ NoAttr K C f ∧ fs.lookup f = some v ∧ Q v H
theorem r_fld {K : Frag} {ta : TE} {f : Str} {σ : L2.St} {H : Hp} {Q : VK} (k : ta σ H fun x H1 => rFld K f x H1 Q) : tFld K ta f σ H Q := k
theorem r_fldAt {K : Frag} {f : Str} {H : Hp} {Q : VK} {a C dx : Addr} {fs : List (Str × V)} {v : V} (h : H a = some (.ins C dx fs)) (c : Cls K C) (n : NoAttr K C f) (l : fs.lookup f = some v) (k : Q v H) : rFld K f (.ref a) H Q := ⟨a, C, dx, fs, v, rfl, h, c, n, l, k⟩
/-- x.f = v -/
def rSFld (K : Frag) (f : Str) : V → V → Hp → (Hp → Prop) → Prop := fun x y H Q => ∃ a C dx fs, x = .ref a ∧ H a = some (.ins C dx fs) ∧ Cls K C ∧ NoAttr K C f ∧ fs.length < 1000 ∧ Q (upd H a (.ins C dx (putF f y fs)))
theorem r_sfld {K : Frag} {ta tv : TE} {f : Str} {D : Ends} {σ : L2.St} {H : Hp} (k : tv σ H fun y H1 => ta σ H1 fun x H2 => rSFld K f x y H2 fun H3 => D.nx σ H3) : sFld K ta tv f D σ H := k
theorem r_sfldAt {K : Frag} {f : Str} {H : Hp} {y : V} {Q : Hp → Prop} {a C dx : Addr} {fs : List (Str × V)} (h : H a = some (.ins C dx fs)) (c : Cls K C) (n : NoAttr K C f) (l : fs.length < 1000) (k : Q (upd H a (.ins C dx (putF f y fs)))) : rSFld K f (.ref a) y H Q := ⟨a, C, dx, fs, rfl, h, c, n, l, k⟩
/-- C(..) -/
theorem r_make {C : Addr} {sp : Sp} {dvs : List V} {E : XK} {t : TA} {σ : L2.St} {H : Hp} {Q : VK} (k : t σ H fun vs H1 => ∀ x dx, H1 x = none → H1 dx = none → dx ≠ x → sp (.ref x :: (vs ++ dvs)) (upd (upd H1 dx (.own x)) x (.ins C dx [])) (fun v H2 => v = .non ∧ Q (.ref x) H2) E) : tMake C sp dvs E t σ H Q := k
/-- x.m(..) -/
def rMeth (C : Addr) (m : Str) (R : V → Hp → Prop) : V → Hp → Prop := fun x H => ∃ a dx fs, x = .ref a ∧ H a = some (.ins C dx fs) ∧ fs.lookup m = none ∧ R x H
theorem r_meth {C : Addr} {m : Str} {sp : Sp} {dvs : List V} {E : XK} {ta : TE} {t : TA} {σ : L2.St} {H : Hp} {Q : VK} (k : ta σ H fun x H1 => rMeth C m (fun x H1 => t σ H1 fun vs H2 => sp (x :: (vs ++ dvs)) H2 Q E) x H1) : tMeth C m sp dvs E ta t σ H Q := k
theorem r_methAt {C a dx : Addr} {m : Str} {fs : List (Str × V)} {R : V → Hp → Prop} {H : Hp} (h : H a = some (.ins C dx fs)) (l : fs.lookup m = none) (k : R (.ref a) H) : rMeth C m R (.ref a) H := ⟨a, dx, fs, rfl, h, l, k⟩
/-- the operators -/
theorem r_own2 {C a b dx dy : Addr} {fs gs : List (Str × V)} {sp : Sp} {E : XK} {H : Hp} {Q : VK} (ha : H a = some (.ins C dx fs)) (hb : H b = some (.ins C dy gs)) (k : sp [.ref a, .ref b] H Q E) : rOwn2 C sp E (.ref a) (.ref b) H Q := ⟨a, dx, fs, b, dy, gs, rfl, rfl, ha, hb, k⟩
theorem r_ownI {C a dx : Addr} {n : Int} {fs : List (Str × V)} {sp : Sp} {E : XK} {H : Hp} {Q : VK} (ha : H a = some (.ins C dx fs)) (k : sp [.ref a, .int n] H Q E) : rOwnI C sp E (.ref a) (.int n) H Q := ⟨a, dx, fs, n, rfl, rfl, ha, k⟩
theorem r_own1 {C a dx : Addr} {fs : List (Str × V)} {sp : Sp} {E : XK} {H : Hp} {Q : VK} (ha : H a = some (.ins C dx fs)) (k : sp [.ref a] H Q E) : rOwn1 C sp E (.ref a) H Q := ⟨a, dx, fs, rfl, ha, k⟩
theorem r_len_str {x : Str} {F : Str → Prop} (k : x.length ≤ sizeLine ∧ F x) : ∃ y, [V.str x] = [.str y] ∧ y.length ≤ sizeLine ∧ F y := ⟨x, rfl, k.1, k.2⟩
/-- what is told of an own class -/
structure OC (K : Frag) (C : Addr) : Prop where
  cl : Cls K C
  sf : selfFirst K C = true
  ca : findIn K (.ref C) "__class__" = some (some (.builtin "object.__class__"))
  cn : specialIn K (.builtin "object.__class__") "__get__" = some (some (.builtin "getset_descriptor.__get__"))
  ct : takesIn K (.builtin "object.__class__") = some true
  cm : mroIn K C (.type "object") = some true
theorem OC.ty {K : Frag} {C a dx : Addr} {H : Hp} {fs : List (Str × V)} (o : OC K C) (h : H a = some (.ins C dx fs)) : TyX K H (.ref a) (.ref C) := .base (.ins h o.cl o.ca o.cn o.ct o.cm)
theorem r_isiOwn {K : Frag} {C a dx : Addr} {H : Hp} {fs : List (Str × V)} {Q : VK} (o : OC K C) (h : H a = some (.ins C dx fs)) (k : Q (.bl true) H) : rIsi K [.ref a, .ref C] H Q := ⟨_, _, _, _, true, rfl, .own C, o.ty h, Er.kit_self, k⟩
theorem r_isiNot {K : Frag} {C a dx : Addr} {T : String} {H : Hp} {fs : List (Str × V)} {Q : VK} (o : OC K C) (h : H a = some (.ins C dx fs)) (hm : kitMeta T = true) (hs : subIn K (.ref C) (.type T) = some false) (k : Q (.bl false) H) : rIsi K [.ref a, .ty T] H Q :=
  ⟨_, _, _, _, false, rfl, .ty T, o.ty h, Er.kit_typ hm hs, k⟩
end
theorem r_intOwn {C b dx : Addr} {n : Int} {fs : List (Str × V)} {sp : Sp} {E : XK} {H : Hp} {Q : VK} (hb : H b = some (.ins C dx fs)) (k : sp [.ref b, .int n] H Q E) : rIntOwn C sp E (.int n) (.ref b) H Q := ⟨b, dx, fs, n, rfl, rfl, hb, k⟩
theorem r_strOwn {C a dx : Addr} {fs : List (Str × V)} {sp : Sp} {E : XK} {H : Hp} {Q : VK} (ha : H a = some (.ins C dx fs)) (k : sp [.ref a] H (fun v H' => ∃ z, v = .str z ∧ Q v H') E) : rStrOwn C sp E [.ref a] H Q := ⟨a, dx, fs, rfl, ha, k⟩
end Ow
namespace Fm
open PySem PySem.Spec PyProof.Rows L2
/-! ### the order of texts -/
theorem lt_irr : ∀ a : List Nat, ltCps a a = false
  | [] => rfl
  | a :: r => by simp [ltCps, lt_irr r]
theorem lt_tr : ∀ {a b c : List Nat}, ltCps a b = true → ltCps b c = true → ltCps a c = true
  | [], [], _, h, _ => by simp [ltCps] at h
  | [], _ :: _, [], _, h => by simp [ltCps] at h
  | [], _ :: _, _ :: _, _, _ => by simp [ltCps]
  | _ :: _, [], _, h, _ => by simp [ltCps] at h
  | _ :: _, _ :: _, [], _, h => by simp [ltCps] at h
  | x :: a, y :: b, z :: c, h, k => by
    simp only [ltCps, Bool.or_eq_true, decide_eq_true_eq, Bool.and_eq_true, beq_iff_eq] at h k ⊢
    rcases h with h | ⟨rfl, h⟩ <;> rcases k with k | ⟨rfl, k⟩
    · exact .inl (Nat.lt_trans h k)
    · exact .inl h
    · exact .inl k
    · exact .inr ⟨rfl, lt_tr h k⟩
theorem lt_tri : ∀ a b : List Nat, a = b ∨ ltCps a b = true ∨ ltCps b a = true
  | [], [] => .inl rfl
  | [], _ :: _ => .inr (.inl rfl)
  | _ :: _, [] => .inr (.inr rfl)
  | x :: a, y :: b => by
    simp only [ltCps, Bool.or_eq_true, decide_eq_true_eq, Bool.and_eq_true, beq_iff_eq]
    rcases Nat.lt_trichotomy x y with h | rfl | h
    · exact .inr (.inl (.inl h))
    · rcases lt_tri a b with rfl | h | h
      · exact .inl rfl
      · exact .inr (.inl (.inr ⟨rfl, h⟩))
      · exact .inr (.inr (.inr ⟨rfl, h⟩))
    · exact .inr (.inr (.inl h))
def Lt (x y : Str) : Prop := ltCps x.cps.toList y.cps.toList = true
theorem Lt.irr {x : Str} (h : Lt x x) : False := by unfold Lt at h; rw [lt_irr] at h; cases h
theorem Lt.tr {x y z : Str} (h : Lt x y) (k : Lt y z) : Lt x z := lt_tr h k
theorem str_ext {x y : Str} (h : x.cps.toList = y.cps.toList) : x = y := by
  cases x; cases y; simp only [Str.mk.injEq]; exact Array.ext' h
theorem Lt.tri (x y : Str) : x = y ∨ Lt x y ∨ Lt y x := (lt_tri x.cps.toList y.cps.toList).imp str_ext id
/-- a sorted row without repetition ascends -/
theorem asc_of_rising : ∀ {l : List Str} {p : Str}, risingS p l = true → (p :: l).Nodup → (p :: l).Pairwise Lt
  | [], _, _, _ => by simp
  | x :: r, p, h, n => by
    have h' : ltCps x.cps.toList p.cps.toList = false ∧ risingS x r = true := by simpa [risingS] using h
    have n' : p ≠ x ∧ (x :: r).Nodup := ⟨fun e => by rw [e] at n; simp at n, (List.nodup_cons.mp n).2⟩
    have ih := asc_of_rising h'.2 n'.2
    have hp : Lt p x := by
      rcases Lt.tri p x with e | e | e
      · exact absurd e n'.1
      · exact e
      · unfold Lt at e; rw [h'.1] at e; cases e
    refine List.pairwise_cons.mpr ⟨fun y hy => ?_, ih⟩
    rcases List.mem_cons.mp hy with rfl | hy
    · exact hp
    · exact hp.tr (List.rel_of_pairwise_cons ih hy)
theorem asc_of_sorted : ∀ {l : List Str}, sortedS l = true → l.Nodup → l.Pairwise Lt
  | [], _, _ => .nil
  | _ :: _, h, n => asc_of_rising h n
/-! ### weights of names -/
abbrev Tm := Str × Int
/-- the weight of a name -/
def wt (ts : List Tm) (x : Str) : Int := ((ts.filter fun p => decide (p.1 = x)).map (·.2)).sum
theorem wt_nil {x : Str} : wt [] x = 0 := rfl
theorem wt_cons {p : Tm} {ts : List Tm} {x : Str} : wt (p :: ts) x = (if p.1 = x then p.2 else 0) + wt ts x := by
  unfold wt
  by_cases h : p.1 = x
  · rw [List.filter_cons_of_pos (by simpa using h), if_pos h]; simp
  · rw [List.filter_cons_of_neg (by simpa using h), if_neg h]; simp
theorem wt_append {x : Str} : ∀ {ts us : List Tm}, wt (ts ++ us) x = wt ts x + wt us x
  | [], us => by rw [List.nil_append, wt_nil, Int.zero_add]
  | p :: ts, us => by rw [List.cons_append, wt_cons, wt_cons, wt_append, Int.add_assoc]
theorem wt_none {x : Str} : ∀ {ts : List Tm}, (∀ p ∈ ts, p.1 ≠ x) → wt ts x = 0
  | [], _ => rfl
  | p :: ts, h => by rw [wt_cons, if_neg (h p (by simp)), wt_none fun q hq => h q (by simp [hq])]; rfl
/-- all weights times k -/
def scl (k : Int) (ts : List Tm) : List Tm := ts.map fun p => (p.1, k * p.2)
theorem wt_scl {k : Int} {x : Str} : ∀ {ts : List Tm}, wt (scl k ts) x = k * wt ts x
  | [] => by simp [scl, wt]
  | p :: ts => by
    show wt ((p.1, k * p.2) :: scl k ts) x = _
    rw [wt_cons, wt_cons, wt_scl, Int.mul_add]
    by_cases h : p.1 = x
    · rw [if_pos h, if_pos h]
    · rw [if_neg h, if_neg h, Int.mul_zero]
def dropN (x : Str) (ts : List Tm) : List Tm := ts.filter fun p => decide (p.1 ≠ x)
theorem wt_drop {x z : Str} : ∀ {ts : List Tm}, wt (dropN x ts) z = if z = x then 0 else wt ts z
  | [] => by simp [dropN, wt]
  | p :: ts => by
    unfold dropN
    by_cases h : p.1 = x
    · rw [List.filter_cons_of_neg (by simpa using h)]
      show wt (dropN x ts) z = _
      rw [wt_drop, wt_cons]
      by_cases hz : z = x
      · rw [if_pos hz, if_pos hz]
      · rw [if_neg hz, if_neg hz, if_neg (fun e => hz (e.symm.trans h)), Int.zero_add]
    · rw [List.filter_cons_of_pos (by simpa using h), wt_cons]
      show _ + wt (dropN x ts) z = _
      rw [wt_drop, wt_cons]
      by_cases hz : z = x
      · rw [if_pos hz, if_pos hz, if_neg (fun e => h (e.trans hz))]; rfl
      · rw [if_neg hz, if_neg hz]
/-- terms as a form has them -/
structure Canon (ts : List Tm) : Prop where
  asc : (ts.map (·.1)).Pairwise Lt
  nz : ∀ p ∈ ts, p.2 ≠ 0
theorem Canon.nil : Canon [] := ⟨by simp, by simp⟩
theorem Canon.tail {p : Tm} {ts : List Tm} (c : Canon (p :: ts)) : Canon ts := ⟨(List.pairwise_cons.mp c.asc).2, fun q hq => c.nz q (by simp [hq])⟩
theorem Canon.lt {p : Tm} {ts : List Tm} (c : Canon (p :: ts)) {q : Tm} (h : q ∈ ts) : Lt p.1 q.1 := (List.pairwise_cons.mp c.asc).1 q.1 (List.mem_map_of_mem h)
theorem Canon.head {p : Tm} {ts : List Tm} (c : Canon (p :: ts)) : wt (p :: ts) p.1 = p.2 := by
  rw [wt_cons, if_pos rfl, wt_none fun q hq e => ?_, Int.add_zero]
  exact (e ▸ c.lt hq).irr
theorem canon_eq : ∀ {ts us : List Tm}, Canon ts → Canon us → (∀ x, wt ts x = wt us x) → ts = us
  | [], [], _, _, _ => rfl
  | [], q :: us, _, d, h => by
    have := h q.1; rw [d.head, wt_nil] at this
    exact absurd this.symm (d.nz q (by simp))
  | p :: ts, [], c, _, h => by
    have := h p.1; rw [c.head, wt_nil] at this
    exact absurd this (c.nz p (by simp))
  | p :: ts, q :: us, c, d, h => by
    have e : p.1 = q.1 := by
      rcases Lt.tri p.1 q.1 with e | e | e
      · exact e
      · have := h p.1
        rw [c.head, wt_none (ts := q :: us) fun r hr z => ?_] at this
        · exact absurd this (c.nz p (by simp))
        · rcases List.mem_cons.mp hr with rfl | hr
          · exact (z ▸ e).irr
          · exact (z ▸ e.tr (d.lt hr)).irr
      · have := h q.1
        rw [d.head, wt_none (ts := p :: ts) fun r hr z => ?_] at this
        · exact absurd this.symm (d.nz q (by simp))
        · rcases List.mem_cons.mp hr with rfl | hr
          · exact (z ▸ e).irr
          · exact (z ▸ e.tr (c.lt hr)).irr
    have e2 : p.2 = q.2 := by rw [← c.head, ← d.head, h, e]
    have ep : p = q := Prod.ext e e2
    subst ep
    rw [canon_eq c.tail d.tail fun x => ?_]
    have := h x
    rw [wt_cons, wt_cons] at this
    omega
/-! ### what is linear in the weights -/
def lin (ts : List Tm) (L : Str → Int) : Int := (ts.map fun p => p.2 * L p.1).sum
theorem lin_nil {L : Str → Int} : lin [] L = 0 := rfl
theorem lin_cons {p : Tm} {ts : List Tm} {L : Str → Int} : lin (p :: ts) L = p.2 * L p.1 + lin ts L := by simp [lin]
theorem lin_append {L : Str → Int} : ∀ {ts us : List Tm}, lin (ts ++ us) L = lin ts L + lin us L
  | [], us => by simp [lin]
  | p :: ts, us => by rw [List.cons_append, lin_cons, lin_cons, lin_append, Int.add_assoc]
theorem lin_scl {k : Int} {L : Str → Int} : ∀ {ts : List Tm}, lin (scl k ts) L = k * lin ts L
  | [] => by simp [scl, lin]
  | p :: ts => by
    show lin ((p.1, k * p.2) :: scl k ts) L = _
    rw [lin_cons, lin_cons, lin_scl, Int.mul_add, Int.mul_assoc]
theorem lin_drop {x : Str} {L : Str → Int} : ∀ {ts : List Tm}, lin ts L = wt ts x * L x + lin (dropN x ts) L
  | [] => by simp [dropN, lin, wt]
  | p :: ts => by
    unfold dropN
    rw [lin_cons, wt_cons, lin_drop (x := x) (ts := ts)]
    by_cases h : p.1 = x
    · rw [List.filter_cons_of_neg (by simpa using h), if_pos h, Int.add_mul, h, Int.add_assoc]; rfl
    · rw [List.filter_cons_of_pos (by simpa using h), if_neg h, lin_cons, Int.zero_add]
      show _ = _ + (_ + lin (dropN x ts) L)
      omega
theorem lin_zero {L : Str → Int} : ∀ (n : Nat) {ts : List Tm}, ts.length ≤ n → (∀ x, wt ts x = 0) → lin ts L = 0
  | _, [], _, _ => rfl
  | 0, _ :: _, h, _ => by simp at h
  | n + 1, p :: ts, h, hz => by
    have l : (dropN p.1 (p :: ts)).length ≤ n := by
      unfold dropN
      rw [List.filter_cons_of_neg (by simp)]
      have := List.length_filter_le (fun q : Tm => decide (q.1 ≠ p.1)) ts
      simp at h; omega
    rw [lin_drop (x := p.1), hz, Int.zero_mul, Int.zero_add]
    refine lin_zero n l fun x => ?_
    rw [wt_drop, hz]; split <;> rfl
theorem lin_of_wt {ts us : List Tm} {L : Str → Int} (h : ∀ x, wt ts x = wt us x) : lin ts L = lin us L := by
  have := lin_zero (L := L) _ (ts := ts ++ scl (-1) us) (Nat.le_refl _) fun x => by rw [wt_append, wt_scl, h]; omega
  rw [lin_append, lin_scl] at this
  omega
/-! ### values in a world: a top and a bottom -/
abbrev Wd := Str → Int × Int
def accV (W : Wd) : List Tm → Int × Int → Int × Int
  | [], s => s
  | p :: ts, s => accV W ts (s.1 * (W p.1).2 + p.2 * (W p.1).1 * s.2, s.2 * (W p.1).2)
theorem acc_lin {W : Wd} {L : Str → Int} {M : Int} : ∀ {ts : List Tm} {s : Int × Int} {S : Int}, (∀ p ∈ ts, (W p.1).1 * M = L p.1 * (W p.1).2) → s.1 * M = s.2 * S → (accV W ts s).1 * M = (accV W ts s).2 * (S + lin ts L)
  | [], s, S, _, h => by rw [lin_nil, Int.add_zero]; exact h
  | p :: ts, s, S, hL, h => by
    have := acc_lin (ts := ts) (s := (s.1 * (W p.1).2 + p.2 * (W p.1).1 * s.2, s.2 * (W p.1).2)) (S := S + p.2 * L p.1) (fun q hq => hL q (by simp [hq])) (by
      have e := hL p (by simp)
      show (s.1 * (W p.1).2 + p.2 * (W p.1).1 * s.2) * M = s.2 * (W p.1).2 * (S + p.2 * L p.1)
      have e1 : s.1 * (W p.1).2 * M = s.2 * (W p.1).2 * S := by
        rw [Int.mul_right_comm, h, Int.mul_right_comm]
      have e2 : p.2 * (W p.1).1 * s.2 * M = s.2 * (W p.1).2 * (p.2 * L p.1) := by
        calc p.2 * (W p.1).1 * s.2 * M = p.2 * s.2 * ((W p.1).1 * M) := by ac_rfl
          _ = p.2 * s.2 * (L p.1 * (W p.1).2) := by rw [e]
          _ = s.2 * (W p.1).2 * (p.2 * L p.1) := by ac_rfl
      rw [Int.add_mul, Int.mul_add, e1, e2])
    rw [lin_cons, ← Int.add_assoc]
    exact this
theorem acc_pos {W : Wd} : ∀ {ts : List Tm} {s : Int × Int}, (∀ p ∈ ts, 0 < (W p.1).2) → 0 < s.2 → 0 < (accV W ts s).2
  | [], _, _, h => h
  | p :: ts, s, hw, h => acc_pos (s := (s.1 * (W p.1).2 + p.2 * (W p.1).1 * s.2, s.2 * (W p.1).2)) (fun q hq => hw q (by simp [hq])) (Int.mul_pos h (hw p (by simp)))
/-- a common bottom -/
theorem common (W : Wd) : ∀ xs : List Str, (∀ x ∈ xs, 0 < (W x).2) → ∃ (M : Int) (L : Str → Int), 0 < M ∧ ∀ x ∈ xs, (W x).1 * M = L x * (W x).2
  | [], _ => ⟨1, fun _ => 0, by decide, by simp⟩
  | x :: xs, h => by
    obtain ⟨M, L, hM, hL⟩ := common W xs fun y hy => h y (by simp [hy])
    refine ⟨M * (W x).2, fun y => if y = x then (W x).1 * M else L y * (W x).2, Int.mul_pos hM (h x (by simp)), fun y hy => ?_⟩
    by_cases e : y = x
    · subst e; simp only [if_true]; ac_rfl
    · have hy' : y ∈ xs := (List.mem_cons.mp hy).resolve_left e
      simp only [if_neg e]
      rw [← Int.mul_assoc, hL y hy']; ac_rfl
/-- the world in which x has another level -/
def moved (W : Wd) (x : Str) (v : Int × Int) : Wd := fun y => if y = x then v else W y
/-- a form put in the place of a quantity has the value that the form has where the quantity has its value -/
theorem put_value {W : Wd} {x : Str} {ts gs us : List Tm} {c cg : Int} {v : Int × Int}
    (hts : ∀ p ∈ ts, p.1 ≠ x → 0 < (W p.1).2) (hgs : ∀ p ∈ gs, 0 < (W p.1).2) (hus : ∀ p ∈ us, 0 < (W p.1).2)
    (hw : ∀ y, wt us y = wt (dropN x ts ++ scl (wt ts x) gs) y) (hv : v.1 * (accV W gs (cg, 1)).2 = (accV W gs (cg, 1)).1 * v.2) (hv0 : 0 < v.2) :
    (accV W us (c + wt ts x * cg, 1)).1 * (accV (moved W x v) ts (c, 1)).2 = (accV (moved W x v) ts (c, 1)).1 * (accV W us (c + wt ts x * cg, 1)).2 := by
  obtain ⟨M, L, hM, hL⟩ := common W ((ts.filter fun p => decide (p.1 ≠ x)).map (·.1) ++ gs.map (·.1) ++ us.map (·.1)) (by
    intro y hy
    simp only [List.mem_append, List.mem_map, List.mem_filter, decide_eq_true_eq] at hy
    rcases hy with (⟨p, ⟨h1, h2⟩, rfl⟩ | ⟨p, h1, rfl⟩) | ⟨p, h1, rfl⟩
    · exact hts p h1 h2
    · exact hgs p h1
    · exact hus p h1)
  have hLg : ∀ p ∈ gs, (W p.1).1 * M = L p.1 * (W p.1).2 := fun p hp => hL _ (by simp only [List.mem_append]; exact .inl (.inr (List.mem_map_of_mem hp)))
  have hLu : ∀ p ∈ us, (W p.1).1 * M = L p.1 * (W p.1).2 := fun p hp => hL _ (by simp only [List.mem_append]; exact .inr (List.mem_map_of_mem hp))
  have hg := acc_lin (s := (cg, 1)) (S := cg * M) hLg (by simp)
  have hu := acc_lin (s := (c + wt ts x * cg, 1)) (S := (c + wt ts x * cg) * M) hLu (by simp)
  have hgp := acc_pos (s := (cg, 1)) hgs Int.one_pos
  have hup := acc_pos (s := (c + wt ts x * cg, 1)) hus Int.one_pos
  -- the value of g over M
  have hvM : v.1 * M = v.2 * (cg * M + lin gs L) := by
    have e : v.1 * M * (accV W gs (cg, 1)).2 = v.2 * (cg * M + lin gs L) * (accV W gs (cg, 1)).2 := by
      rw [Int.mul_right_comm, hv, Int.mul_right_comm, hg]; ac_rfl
    exact Int.eq_of_mul_eq_mul_right (by omega) e
  -- the moved world over M * v.2
  have hm := acc_lin (W := moved W x v) (L := fun y => if y = x then v.1 * M else L y * v.2) (M := M * v.2) (ts := ts) (s := (c, 1)) (S := c * (M * v.2)) (by
    intro p hp
    unfold moved
    by_cases e : p.1 = x
    · simp only [if_pos e]; ac_rfl
    · simp only [if_neg e]
      have := hL p.1 (by simp only [List.mem_append]; exact .inl (.inl (List.mem_map_of_mem (List.mem_filter.mpr ⟨hp, by simpa using e⟩))))
      rw [← Int.mul_assoc, this]; ac_rfl) (by simp)
  have hmp : 0 < (accV (moved W x v) ts (c, 1)).2 := acc_pos (fun p hp => by
    unfold moved
    by_cases e : p.1 = x
    · rw [if_pos e]; exact hv0
    · rw [if_neg e]; exact hts p hp e) Int.one_pos
  have key : c * (M * v.2) + lin ts (fun y => if y = x then v.1 * M else L y * v.2) = v.2 * ((c + wt ts x * cg) * M + lin us L) := by
    rw [lin_drop (x := x), lin_of_wt hw, lin_append, lin_scl]
    have e1 : lin (dropN x ts) (fun y => if y = x then v.1 * M else L y * v.2) = v.2 * lin (dropN x ts) L := by
      have : ∀ l : List Tm, (∀ p ∈ l, p.1 ≠ x) → lin l (fun y => if y = x then v.1 * M else L y * v.2) = v.2 * lin l L := by
        intro l
        induction l with
        | nil => intro _; simp [lin]
        | cons p l ih =>
          intro h
          rw [lin_cons, lin_cons, ih fun q hq => h q (by simp [hq])]
          simp only [if_neg (h p (by simp))]
          rw [Int.mul_add]
          congr 1
          ac_rfl
      exact this _ fun p hp => by simpa [dropN] using (List.mem_filter.mp hp).2
    rw [e1]
    simp only [if_true]
    rw [hvM]
    simp only [Int.mul_add, Int.add_mul]
    have a1 : c * (M * v.2) = v.2 * (c * M) := by ac_rfl
    have a2 : wt ts x * (v.2 * (cg * M)) = v.2 * (wt ts x * cg * M) := by ac_rfl
    have a3 : wt ts x * (v.2 * lin gs L) = v.2 * (wt ts x * lin gs L) := by ac_rfl
    omega
  rw [key] at hm
  generalize accV W us (c + wt ts x * cg, 1) = U at *
  generalize accV (moved W x v) ts (c, 1) = T at *
  generalize (c + wt ts x * cg) * M + lin us L = S at *
  have : U.1 * T.2 * (M * v.2) = T.1 * U.2 * (M * v.2) := by
    calc U.1 * T.2 * (M * v.2) = (U.1 * M) * (T.2 * v.2) := by ac_rfl
      _ = (U.2 * S) * (T.2 * v.2) := by rw [hu]
      _ = (T.2 * (v.2 * S)) * U.2 := by ac_rfl
      _ = (T.1 * (M * v.2)) * U.2 := by rw [hm]
      _ = T.1 * U.2 * (M * v.2) := by ac_rfl
  exact Int.eq_of_mul_eq_mul_right (by have := Int.mul_pos hM hv0; omega) this
/-! ### the terms of a form, by its pairs -/
instance : DecidableRel Lt := fun x y => inferInstanceAs (Decidable (ltCps x.cps.toList y.cps.toList = true))
def ins (x : Str) (w : Int) : List Tm → List Tm
  | [] => if w = 0 then [] else [(x, w)]
  | p :: us => if x = p.1 then (if w + p.2 = 0 then us else (x, w + p.2) :: us) else if Lt x p.1 then (if w = 0 then p :: us else (x, w) :: p :: us) else p :: ins x w us
theorem ins_mem {x : Str} {w : Int} : ∀ {us : List Tm} {q : Tm}, q ∈ ins x w us → q.1 = x ∨ q ∈ us
  | [], q, h => by
    unfold ins at h; split at h
    · cases h
    · rw [List.mem_singleton.mp h]; exact .inl rfl
  | p :: us, q, h => by
    unfold ins at h
    split at h
    · split at h
      · exact .inr (by simp [h])
      · rcases List.mem_cons.mp h with rfl | h
        · exact .inl rfl
        · exact .inr (by simp [h])
    · split at h
      · split at h
        · exact .inr h
        · rcases List.mem_cons.mp h with rfl | h
          · exact .inl rfl
          · exact .inr h
      · rcases List.mem_cons.mp h with rfl | h
        · exact .inr (by simp)
        · exact (ins_mem h).imp id fun z => by simp [z]
theorem Canon.cons {p : Tm} {us : List Tm} (h : ∀ q ∈ us, Lt p.1 q.1) (n : p.2 ≠ 0) (c : Canon us) : Canon (p :: us) :=
  ⟨List.pairwise_cons.mpr ⟨fun y hy => by obtain ⟨q, hq, rfl⟩ := List.mem_map.mp hy; exact h q hq, c.asc⟩, fun q hq => by
    rcases List.mem_cons.mp hq with rfl | hq
    · exact n
    · exact c.nz q hq⟩
theorem ins_canon {x : Str} {w : Int} : ∀ {us : List Tm}, Canon us → Canon (ins x w us)
  | [], _ => by
    unfold ins; split
    · exact .nil
    · next h => exact .cons (by simp) h .nil
  | p :: us, c => by
    unfold ins
    split
    · next e =>
      split
      · exact c.tail
      · next h => exact .cons (fun q hq => e ▸ c.lt hq) h c.tail
    · next e =>
      split
      · next l =>
        split
        · exact c
        · next h => exact .cons (fun q hq => by
            rcases List.mem_cons.mp hq with rfl | hq
            · exact l
            · exact l.tr (c.lt hq)) h c
      · next l =>
        have l' : Lt p.1 x := by
          rcases Lt.tri x p.1 with z | z | z
          · exact absurd z e
          · exact absurd z l
          · exact z
        refine .cons (fun q hq => ?_) (c.nz p (by simp)) (ins_canon c.tail)
        rcases ins_mem hq with z | z
        · rw [z]; exact l'
        · exact c.lt z
theorem ins_wt {x y : Str} {w : Int} : ∀ {us : List Tm}, wt (ins x w us) y = (if x = y then w else 0) + wt us y
  | [] => by
    unfold ins; split
    · next h => subst h; simp [wt]
    · rw [wt_cons]
  | p :: us => by
    unfold ins
    split
    · next e =>
      split
      · next h =>
        rw [wt_cons, ← e]
        split <;> omega
      · rw [wt_cons, wt_cons, ← e]
        dsimp only
        split <;> omega
    · split
      · split
        · next h => subst h; simp
        · rw [wt_cons]
      · rw [wt_cons, ins_wt, wt_cons]; omega
def can : List Tm → List Tm
  | [] => []
  | p :: ts => ins p.1 p.2 (can ts)
theorem can_canon : ∀ ts : List Tm, Canon (can ts)
  | [] => .nil
  | _ :: ts => ins_canon (can_canon ts)
theorem can_wt : ∀ (ts : List Tm) (x : Str), wt (can ts) x = wt ts x
  | [], _ => rfl
  | p :: ts, x => by
    show wt (ins p.1 p.2 (can ts)) x = _
    rw [ins_wt, can_wt, wt_cons]
theorem can_eq {us ts : List Tm} (c : Canon us) (h : ∀ x, wt us x = wt ts x) : us = can ts := canon_eq c (can_canon ts) fun x => by rw [h, can_wt]
theorem can_can {ts us : List Tm} (h : ∀ x, wt ts x = wt us x) : can ts = can us := can_eq (can_canon ts) fun x => by rw [can_wt, h]
theorem can_self {ts : List Tm} (c : Canon ts) : can ts = ts := (can_eq c fun _ => rfl).symm
theorem Canon.wt_mem {ts : List Tm} (c : Canon ts) {p : Tm} (h : p ∈ ts) : wt ts p.1 = p.2 := by
  induction ts with
  | nil => cases h
  | cons q ts ih =>
    rcases List.mem_cons.mp h with rfl | h
    · exact c.head
    · rw [wt_cons, if_neg (fun e => (e ▸ c.lt h).irr), Int.zero_add]; exact ih c.tail h
theorem mem_of_wt {ts : List Tm} {x : Str} (h : wt ts x ≠ 0) : ∃ p ∈ ts, p.1 = x := Decidable.byContradiction fun n => h (wt_none fun p hp e => n ⟨p, hp, e⟩)
theorem can_mem {ts : List Tm} {u : Tm} (h : u ∈ can ts) : (∃ p ∈ ts, p.1 = u.1) ∧ u.2 = wt ts u.1 := by
  have c := can_canon ts
  have e := c.wt_mem h
  rw [can_wt] at e
  exact ⟨mem_of_wt (by rw [e]; exact c.nz u h), e.symm⟩
theorem ins_len {x : Str} {w : Int} : ∀ {us : List Tm}, (ins x w us).length ≤ us.length + 1
  | [] => by unfold ins; split <;> simp
  | p :: us => by
    unfold ins
    have := ins_len (x := x) (w := w) (us := us)
    repeat' split
    all_goals simp
    all_goals omega
theorem can_len : ∀ ts : List Tm, (can ts).length ≤ ts.length
  | [] => Nat.le_refl _
  | p :: ts => by
    have := can_len ts
    have := ins_len (x := p.1) (w := p.2) (us := can ts)
    show (ins p.1 p.2 (can ts)).length ≤ ts.length + 1
    omega
theorem wt_bound {B : Nat} {x : Str} : ∀ {ts : List Tm}, (∀ p ∈ ts, p.2.natAbs ≤ B) → (wt ts x).natAbs ≤ ts.length * B
  | [], _ => by simp [wt]
  | p :: ts, h => by
    have a := h p (by simp)
    have b := wt_bound (x := x) (ts := ts) fun q hq => h q (by simp [hq])
    rw [wt_cons, List.length_cons, Nat.succ_mul]
    split <;> omega
/-- a form within bounds: weights and constant below 2 ^ k, at most n terms, names that keep N -/
structure FOk (N : Str → Prop) (n k : Nat) (ts : List Tm) (c : Int) : Prop where
  can : Canon ts
  len : ts.length ≤ n
  nm : ∀ p ∈ ts, N p.1
  wb : ∀ p ∈ ts, p.2.natAbs < 2 ^ k
  cb : c.natAbs < 2 ^ k
theorem pow6 {m n k : Nat} (h : n ≤ 64) (hm : m ≤ n * 2 ^ k) : m ≤ 2 ^ (k + 6) := by
  refine Nat.le_trans hm ?_
  rw [Nat.pow_add, Nat.mul_comm]
  exact Nat.mul_le_mul_left _ h
/-- what is made of pairs is a form -/
theorem can_ok {N : Str → Prop} {k : Nat} {ts : List Tm} {c : Int} (hl : ts.length ≤ 60) (hn : ∀ p ∈ ts, N p.1) (hb : ∀ p ∈ ts, p.2.natAbs < 2 ^ k) (hc : c.natAbs < 2 ^ (k + 6)) : FOk N ts.length (k + 6) (can ts) c := by
  refine ⟨can_canon ts, can_len ts, fun u hu => ?_, fun u hu => ?_, hc⟩
  · obtain ⟨⟨p, hp, e⟩, _⟩ := can_mem hu
    rw [← e]; exact hn p hp
  · obtain ⟨_, e⟩ := can_mem hu
    rw [e]
    have h1 := wt_bound (x := u.1) (B := 2 ^ k) (ts := ts) fun p hp => Nat.le_of_lt (hb p hp)
    have h2 : ts.length * 2 ^ k < 64 * 2 ^ k := Nat.mul_lt_mul_of_pos_right (by omega) (Nat.pow_pos (by decide))
    have h3 : 64 * 2 ^ k = 2 ^ (k + 6) := by rw [Nat.pow_add, Nat.mul_comm]
    omega
/-! ### a row made by names -/
def rowOf (ys : List Str) (f : Str → Int) : List Tm := (ys.map fun x => (x, f x)).filter fun p => decide (p.2 ≠ 0)
theorem wt_rowOf {f : Str → Int} {x : Str} : ∀ {ys : List Str}, ys.Nodup → wt (rowOf ys f) x = if x ∈ ys then f x else 0
  | [], _ => by simp [rowOf, wt]
  | y :: ys, n => by
    have ih := wt_rowOf (f := f) (x := x) (List.nodup_cons.mp n).2
    unfold rowOf at ih ⊢
    rw [List.map_cons]
    by_cases h : f y = 0
    · rw [List.filter_cons_of_neg (by simpa using h), ih]
      by_cases e : x = y
      · subst e; rw [if_neg (List.nodup_cons.mp n).1, if_pos (by simp), h]
      · simp [e]
    · rw [List.filter_cons_of_pos (by simpa using h), wt_cons, ih]
      by_cases e : y = x
      · subst e; rw [if_pos rfl, if_neg (List.nodup_cons.mp n).1, if_pos (by simp), Int.add_zero]
      · have e' : ¬ x = y := fun z => e z.symm
        simp [e, e']
theorem canon_rowOf {f : Str → Int} {ys : List Str} (h : ys.Pairwise Lt) : Canon (rowOf ys f) := by
  refine ⟨?_, fun p hp => by simpa using (List.mem_filter.mp hp).2⟩
  unfold rowOf
  have : ((ys.map fun x => (x, f x)).map (·.1)).Pairwise Lt := by simpa [List.map_map, Function.comp_def] using h
  exact this.sublist ((List.filter_sublist).map _)
theorem rowOf_can {ts : List Tm} {ys : List Str} (h : ys.Pairwise Lt) (n : ys.Nodup) (hm : ∀ p ∈ ts, p.1 ∈ ys) : rowOf ys (wt ts) = can ts := can_eq (canon_rowOf h) fun x => by
  rw [wt_rowOf n]
  split
  · rfl
  · next e => exact (wt_none fun p hp z => e (by have := hm p hp; rw [z] at this; exact this)).symm
theorem rowOf_snoc {f : Str → Int} {ys : List Str} {y : Str} : rowOf (ys ++ [y]) f = if f y ≠ 0 then rowOf ys f ++ [(y, f y)] else rowOf ys f := by
  unfold rowOf
  rw [List.map_append, List.filter_append]
  by_cases h : f y = 0 <;> simp [h]
/-! ### sums by names in a dict -/
def putT (ks : List Tm) (x : Str) (v : Int) : List Tm := if (ks.any fun p => decide (p.1 = x)) = true then ks.map (fun p => if p.1 = x then (p.1, v) else p) else ks ++ [(x, v)]
def kOf (ks : List Tm) : List (Key × V) := ks.map fun p => (Sum.inr p.1, V.int p.2)
theorem val_kOf {x : Str} : ∀ {ks : List Tm}, valV (kOf ks) (Sum.inr x) = (ks.find? fun p => decide (p.1 = x)).map fun p => V.int p.2
  | [] => rfl
  | p :: ks => by
    by_cases h : p.1 = x
    · have : valV (kOf (p :: ks)) (Sum.inr x) = some (V.int p.2) := valV_pos (by show Sum.inr p.1 = Sum.inr x; rw [h])
      rw [this, List.find?_cons_of_pos (by simpa using h)]; rfl
    · have : valV (kOf (p :: ks)) (Sum.inr x) = valV (kOf ks) (Sum.inr x) := valV_neg (fun e => h (Sum.inr.inj e))
      rw [this, List.find?_cons_of_neg (by simpa using h)]; exact val_kOf
theorem put_kOf {ks : List Tm} {x : Str} {v : Int} : putK (kOf ks) (Sum.inr x) (V.int v) = kOf (putT ks x v) := by
  unfold putK putT
  have e : ((kOf ks).any fun kv => decide (kv.1 = Sum.inr x)) = ks.any fun p => decide (p.1 = x) := by
    unfold kOf; rw [List.any_map]; congr 1; funext p; simp
  rw [e]
  split
  · unfold kOf; rw [List.map_map, List.map_map]; congr 1; funext p
    simp only [Function.comp, Sum.inr.injEq]
    split <;> rfl
  · unfold kOf; rw [List.map_append]; rfl
/-- the sums so far -/
structure Sums (ks ts : List Tm) : Prop where
  nd : (ks.map (·.1)).Nodup
  iff : ∀ x, (x ∈ ks.map (·.1)) ↔ x ∈ ts.map (·.1)
  val : ∀ p ∈ ks, p.2 = wt ts p.1
  len : ks.length ≤ ts.length
theorem Sums.nil : Sums [] [] := ⟨by simp, by simp, by simp, Nat.le_refl _⟩
theorem Sums.find {ks ts : List Tm} (h : Sums ks ts) (x : Str) : ((ks.find? fun p => decide (p.1 = x)).map fun p => V.int p.2) = if x ∈ ts.map (·.1) then some (V.int (wt ts x)) else none := by
  cases e : ks.find? fun p => decide (p.1 = x) with
  | none =>
    have n : x ∉ ks.map (·.1) := fun z => by
      obtain ⟨p, hp, rfl⟩ := List.mem_map.mp z
      have := List.find?_eq_none.mp e p hp
      simp at this
    rw [if_neg (fun z => n ((h.iff x).mpr z))]; rfl
  | some p =>
    have hp := List.mem_of_find?_eq_some e
    have hx : p.1 = x := by simpa using List.find?_some e
    have : x ∈ ts.map (·.1) := (h.iff x).mp (hx ▸ List.mem_map_of_mem hp)
    rw [if_pos this]
    show some (V.int p.2) = _
    rw [h.val p hp, hx]
theorem Sums.put {ks ts : List Tm} (h : Sums ks ts) (p : Tm) : Sums (putT ks p.1 (wt ts p.1 + p.2)) (ts ++ [p]) := by
  have hw : ∀ x, wt (ts ++ [p]) x = wt ts x + if p.1 = x then p.2 else 0 := fun x => by rw [wt_append, wt_cons, wt_nil, Int.add_zero]
  unfold putT
  by_cases c : (ks.any fun q => decide (q.1 = p.1)) = true
  · rw [if_pos c]
    obtain ⟨q, hq, eq⟩ := List.any_eq_true.mp c
    have eq' : q.1 = p.1 := by simpa using eq
    have e : ((ks.map fun q => if q.1 = p.1 then (q.1, wt ts p.1 + p.2) else q).map (·.1)) = ks.map (·.1) := by
      rw [List.map_map]; congr 1; funext r; simp only [Function.comp]; split <;> rfl
    refine ⟨by rw [e]; exact h.nd, fun x => ?_, fun r hr => ?_, by rw [List.length_map, List.length_append]; have := h.len; simp; omega⟩
    · rw [e, h.iff, List.map_append]
      constructor
      · intro z; simp only [List.mem_append]; exact .inl z
      · intro z
        rcases List.mem_append.mp z with z | z
        · exact z
        · have : x = p.1 := by simpa using z
          rw [this, ← eq']; exact (h.iff _).mp (List.mem_map_of_mem hq)
    · obtain ⟨s, hs, rfl⟩ := List.mem_map.mp hr
      rw [hw]
      by_cases z : s.1 = p.1
      · simp only [if_pos z]; rw [if_pos z.symm, z]
      · simp only [if_neg z]; rw [if_neg (fun e => z e.symm), Int.add_zero]; exact h.val s hs
  · rw [if_neg c]
    have n : p.1 ∉ ks.map (·.1) := fun z => by
      obtain ⟨q, hq, e⟩ := List.mem_map.mp z
      exact c (List.any_eq_true.mpr ⟨q, hq, by simpa using e⟩)
    have n' : p.1 ∉ ts.map (·.1) := fun z => n ((h.iff _).mpr z)
    have w0 : wt ts p.1 = 0 := wt_none fun q hq e => n' (e ▸ List.mem_map_of_mem hq)
    refine ⟨?_, fun x => ?_, fun r hr => ?_, by have := h.len; simp; omega⟩
    · rw [List.map_append]
      refine List.nodup_append.mpr ⟨h.nd, by simp, fun x hx y hy e => n ?_⟩
      have hy' : y = p.1 := by simpa using hy
      rw [← hy', ← e]
      exact hx
    · simp only [List.map_append, List.mem_append, h.iff]; simp
    · rw [hw]
      rcases List.mem_append.mp hr with hr | hr
      · have : ¬ p.1 = r.1 := fun e => n (e ▸ List.mem_map_of_mem hr)
        rw [if_neg this, Int.add_zero]; exact h.val r hr
      · rw [List.mem_singleton.mp hr]; simp
/-! ### sizes -/
theorem natAbs_mul_lt {x y : Int} {a b : Nat} (hx : x.natAbs < 2 ^ a) (hy : y.natAbs < 2 ^ b) : (x * y).natAbs < 2 ^ (a + b) := wide_lt hx hy
theorem natAbs_add_lt {x y : Int} {a : Nat} (hx : x.natAbs < 2 ^ a) (hy : y.natAbs < 2 ^ a) : (x + y).natAbs < 2 ^ (a + 1) := by
  have := Int.natAbs_add_le x y
  rw [Nat.pow_succ]; omega
theorem pow_le {x : Int} {a b : Nat} (h : x.natAbs < 2 ^ a) (hab : a ≤ b) : x.natAbs < 2 ^ b := Nat.lt_of_lt_of_le h (Nat.pow_le_pow_right (by decide) hab)
/-- the sizes of a value under way: weights and constant below 2 ^ a, tops below 2 ^ b, bottoms below 2 ^ g -/
theorem acc_boundG {W : Wd} (a b g : Nat) : ∀ {ts : List Tm} {s : Int × Int} {i : Nat}, (∀ p ∈ ts, p.2.natAbs < 2 ^ a ∧ (W p.1).1.natAbs < 2 ^ b ∧ (W p.1).2.natAbs < 2 ^ g) → s.1.natAbs < 2 ^ (a + 1 + (b + g + 1) * i) → s.2.natAbs < 2 ^ (1 + g * i) →
    (accV W ts s).1.natAbs < 2 ^ (a + 1 + (b + g + 1) * (i + ts.length)) ∧ (accV W ts s).2.natAbs < 2 ^ (1 + g * (i + ts.length))
  | [], _, _, _, h1, h2 => ⟨h1, h2⟩
  | p :: ts, s, i, h, h1, h2 => by
    obtain ⟨ha, hb, hc⟩ := h p (by simp)
    have m1 : (b + g + 1) * (i + 1) = (b + g + 1) * i + (b + g + 1) := Nat.mul_succ _ _
    have m2 : g * (i + 1) = g * i + g := Nat.mul_succ _ _
    have m3 : g * i ≤ (b + g + 1) * i := Nat.mul_le_mul_right i (by omega)
    have e1 : (s.1 * (W p.1).2).natAbs < 2 ^ (a + 1 + (b + g + 1) * i + (b + g)) := pow_le (natAbs_mul_lt h1 hc) (by omega)
    have e2 : (p.2 * (W p.1).1 * s.2).natAbs < 2 ^ (a + 1 + (b + g + 1) * i + (b + g)) := pow_le (natAbs_mul_lt (natAbs_mul_lt ha hb) h2) (by omega)
    have e3 := natAbs_add_lt e1 e2
    have := acc_boundG (W := W) a b g (ts := ts) (s := (s.1 * (W p.1).2 + p.2 * (W p.1).1 * s.2, s.2 * (W p.1).2)) (i := i + 1) (fun q hq => h q (by simp [hq])) (pow_le e3 (by omega)) (pow_le (natAbs_mul_lt h2 hc) (by omega))
    rw [List.length_cons, show i + (ts.length + 1) = i + 1 + ts.length by omega]
    exact this
theorem acc_bound {W : Wd} {ts : List Tm} {c : Int} (h : ∀ p ∈ ts, p.2.natAbs < 2 ^ 400 ∧ (W p.1).1.natAbs < 2 ^ 1000 ∧ (W p.1).2.natAbs < 2 ^ 401) (hc : c.natAbs < 2 ^ 400) :
    (accV W ts (c, 1)).1.natAbs < 2 ^ (401 + 1402 * ts.length) ∧ (accV W ts (c, 1)).2.natAbs < 2 ^ (1 + 401 * ts.length) := by
  have := acc_boundG (W := W) 400 1000 401 (ts := ts) (s := (c, 1)) (i := 0) h (pow_le hc (by omega)) (show (1 : Int).natAbs < 2 ^ (1 + 401 * 0) by decide)
  rw [Nat.zero_add] at this
  exact this
theorem accV_append {W : Wd} : ∀ {ts us : List Tm} {s : Int × Int}, accV W (ts ++ us) s = accV W us (accV W ts s)
  | [], _, _ => rfl
  | p :: ts, us, s => accV_append (ts := ts)
theorem nodup_len : ∀ {l xs : List Str}, l.Nodup → (∀ x ∈ l, x ∈ xs) → l.length ≤ xs.length
  | [], _, _, _ => Nat.zero_le _
  | x :: l, xs, n, h => by
    have hx := h x (by simp)
    have := nodup_len (l := l) (xs := xs.erase x) (List.nodup_cons.mp n).2 fun y hy => (List.mem_erase_of_ne (fun e => (List.nodup_cons.mp n).1 (by rw [← e]; exact hy))).mpr (h y (by simp [hy]))
    rw [List.length_erase_of_mem hx] at this
    have := List.length_pos_of_mem hx
    rw [List.length_cons]; omega
theorem Canon.nodup {ts : List Tm} (c : Canon ts) : (ts.map (·.1)).Nodup := c.asc.imp fun {a b} h (e : a = b) => by subst e; exact h.irr
theorem Canon.short {ts : List Tm} {xs : List Str} (c : Canon ts) (h : ∀ p ∈ ts, p.1 ∈ xs) : ts.length ≤ xs.length := by
  have := nodup_len c.nodup fun x hx => by
    obtain ⟨p, hp, rfl⟩ := List.mem_map.mp hx
    exact h p hp
  rwa [List.length_map] at this
end Fm
/-! ### the pot of a law, pairs in lowest terms -/
def Pot (P : List V) : Prop := ∃ (pos car cnt mix : Int) (sc : List Int), P = V.int pos :: V.int car :: V.int cnt :: V.int mix :: sc.map V.int ∧ 4 ≤ pos ∧ 0 ≤ car ∧ 0 ≤ mix ∧ mix < 2147483647 ∧ sc.length ≤ 63
def PotAt (a : Addr) (H : Hp) : Prop := ∃ P, H a = some (.lst P) ∧ Pot P
theorem pot_at {x0 x1 x2 x3 : V} {sc : List Int} {i : Int} (h : 4 ≤ i) (h2 : i < sc.length + 4) : atI (x0 :: x1 :: x2 :: x3 :: sc.map V.int) i = some (.int (sc.getD (i.toNat - 4) 0)) := by
  obtain ⟨n, rfl⟩ : ∃ n : Nat, i = ((n + 4 : Nat) : Int) := ⟨i.toNat - 4, by omega⟩
  refine atI_nat ?_
  have h3 : n < sc.length := by omega
  have e : ((n + 4 : Nat) : Int).toNat - 4 = n := by omega
  rw [e, List.getElem?_cons_succ, List.getElem?_cons_succ, List.getElem?_cons_succ, List.getElem?_cons_succ, List.getElem?_map, List.getElem?_eq_getElem h3, List.getD_eq_getElem?_getD, List.getElem?_eq_getElem h3]
  rfl
def spTake : Sp := fun vs H Q _ => ∃ (a : Addr) (n : Int), vs = [.ref a, .int n] ∧ PotAt a H ∧ 0 < n ∧ n < 2 ^ 200 ∧ ∀ (r : Int) (H' : Hp), 0 ≤ r → r < n → Keep [a] H H' → PotAt a H' → Q (.int r) H'
theorem PotAt.new {a p : Addr} {o : HO} {H : Hp} (h : PotAt a H) (n : H p = none) : PotAt a (upd H p o) := by
  obtain ⟨P, hP, hp⟩ := h
  exact ⟨P, by rw [upd_ne (ne_of_none hP n)]; exact hP, hp⟩
theorem PotAt.put {a p : Addr} {o : HO} {H : Hp} (h : PotAt a H) (n : p ≠ a) : PotAt a (upd H p o) := by
  obtain ⟨P, hP, hp⟩ := h
  exact ⟨P, by rw [upd_ne n.symm]; exact hP, hp⟩
theorem PotAt.ne' {a p : Addr} {xs : List V} {H : Hp} (h : PotAt a H) (h2 : H p = some (.lst xs)) (n : ¬ Pot xs) : p ≠ a := by
  obtain ⟨P, hP, hp⟩ := h
  rintro rfl
  rw [hP] at h2; cases h2; exact n hp
theorem PotAt.ne {a p : Addr} {H : Hp} (h : PotAt a H) (n : H p = none) : p ≠ a := by
  obtain ⟨P, hP, _⟩ := h
  exact ne_free hP n
section
variable {Q : VK} {E : XK} {H : Hp}
theorem r_take {a : Addr} {n : Int} (hp : PotAt a H) (h0 : 0 < n) (h1 : n < 2 ^ 200) (k : ∀ (r : Int) (H' : Hp), 0 ≤ r → r < n → Keep [a] H H' → PotAt a H' → Q (.int r) H') : spTake [.ref a, .int n] H Q E := ⟨a, n, rfl, hp, h0, h1, k⟩
/-- a def of the pot that gives an int below m in size -/
def spPotInt (m : Nat) : Sp := fun vs H Q _ => ∃ a : Addr, vs = [.ref a] ∧ PotAt a H ∧ ∀ (r : Int) (H' : Hp), r.natAbs < m → Keep [a] H H' → PotAt a H' → Q (.int r) H'
theorem r_potInt {m : Nat} {a : Addr} (hp : PotAt a H) (k : ∀ (r : Int) (H' : Hp), r.natAbs < m → Keep [a] H H' → PotAt a H' → Q (.int r) H') : spPotInt m [.ref a] H Q E := ⟨a, rfl, hp, k⟩
def spPot (K : PySem.W.Frag) : Sp := fun vs H Q _ => ∃ (a : Addr) (ns : List Int), vs = [.ref a] ∧ SqL K H a (ns.map V.int) ∧ ns.length ≤ 63 ∧ ∀ (p : Addr) (H' : Hp), Keep [] H H' → H p = none → PotAt p H' → Q (.ref p) H'
/-- the divisor with the bottom's sign, and the pair in lowest terms -/
def dv (t b : Int) : Int := if b < 0 then -((Nat.gcd t.natAbs b.natAbs : Nat) : Int) else ((Nat.gcd t.natAbs b.natAbs : Nat) : Int)
def lowT (t b : Int) : Int := t.fdiv (dv t b)
def lowB (t b : Int) : Int := b.fdiv (dv t b)
def spLow : Sp := fun vs H Q _ => ∃ t b : Int, vs = [.int t, .int b] ∧ b ≠ 0 ∧ b.natAbs < 2 ^ 8000 ∧ ∀ (p : Addr) (H' : Hp), Keep [] H H' → H p = none → H' p = some (.tup [.int (lowT t b), .int (lowB t b)]) → Q (.ref p) H'
theorem r_low {t b : Int} (hb : b ≠ 0) (hz : b.natAbs < 2 ^ 8000) (k : ∀ (p : Addr) (H' : Hp), Keep [] H H' → H p = none → H' p = some (.tup [.int (lowT t b), .int (lowB t b)]) → Q (.ref p) H') : spLow [.int t, .int b] H Q E := ⟨t, b, rfl, hb, hz, k⟩
end
theorem gcd_pos {t b : Int} (h : b ≠ 0) : 0 < Nat.gcd t.natAbs b.natAbs := Nat.gcd_pos_of_pos_right _ (by omega)
theorem gcd_le {t b : Int} (h : b ≠ 0) : Nat.gcd t.natAbs b.natAbs ≤ b.natAbs := Nat.gcd_le_right _ (by omega)
theorem dv_ne {t b : Int} (h : b ≠ 0) : dv t b ≠ 0 := by
  have := gcd_pos (t := t) h
  unfold dv; split <;> omega
theorem dv_abs {t b : Int} : (dv t b).natAbs = Nat.gcd t.natAbs b.natAbs := by
  unfold dv; split <;> omega
theorem pow_mono {n : Nat} (a b : Nat) (h : n < 2 ^ a) (hab : a ≤ b := by decide) : n < 2 ^ b := Nat.lt_of_lt_of_le h (Nat.pow_le_pow_right (by decide) hab)
theorem lowT_one {x : Int} : lowT x 1 = x := by
  unfold lowT dv
  rw [if_neg (by decide), show (1 : Int).natAbs = 1 from rfl, Nat.gcd_one_right]
  exact Int.fdiv_one x
theorem lowB_one {x : Int} : lowB x 1 = 1 := by
  unfold lowB dv
  rw [if_neg (by decide), show (1 : Int).natAbs = 1 from rfl, Nat.gcd_one_right]
  rfl
theorem natAbs_fdiv_le {x g : Int} (hg : g ≠ 0) (hd : g ∣ x) : (x.fdiv g).natAbs ≤ x.natAbs := by
  obtain ⟨k, rfl⟩ := hd
  rw [Int.mul_fdiv_cancel_left _ hg, Int.natAbs_mul]
  exact Nat.le_mul_of_pos_left _ (by omega)
theorem dv_dvd_t {t b : Int} : dv t b ∣ t := by
  have h : ((Nat.gcd t.natAbs b.natAbs : Nat) : Int) ∣ t := Int.ofNat_dvd_left.mpr (Nat.gcd_dvd_left _ _)
  unfold dv; split
  · exact (Int.neg_dvd).mpr h
  · exact h
theorem dv_dvd_b {t b : Int} : dv t b ∣ b := by
  have h : ((Nat.gcd t.natAbs b.natAbs : Nat) : Int) ∣ b := Int.ofNat_dvd_left.mpr (Nat.gcd_dvd_right _ _)
  unfold dv; split
  · exact (Int.neg_dvd).mpr h
  · exact h
theorem lowT_le {t b : Int} (h : b ≠ 0) : (lowT t b).natAbs ≤ t.natAbs := natAbs_fdiv_le (dv_ne h) dv_dvd_t
theorem lowB_le {t b : Int} (h : b ≠ 0) : (lowB t b).natAbs ≤ b.natAbs := natAbs_fdiv_le (dv_ne h) dv_dvd_b
theorem lowB_ne {t b : Int} (h : b ≠ 0) : lowB t b ≠ 0 := by
  intro e
  have hd := dv_ne (t := t) h
  have h2 : b = dv t b * lowB t b := by
    unfold lowB
    rw [Int.mul_comm]; exact (Int.fdiv_mul_cancel dv_dvd_b).symm
  rw [e, Int.mul_zero] at h2
  exact h h2
theorem sgn_abs {s x : Int} (h0 : 0 ≤ s) (h1 : s < 2) : ((1 - 2 * s) * x).natAbs = x.natAbs := by
  have h : s = 0 ∨ s = 1 := by omega
  rcases h with rfl | rfl <;> omega
section
variable {Q : VK} {E : XK} {H : Hp}
/-- two pairs, made one in lowest terms -/
def spTwo (f : Int → Int → Int → Int → Int × Int) : Sp := fun vs H Q _ => ∃ (p q : Addr) (a b c d : Int), vs = [.ref p, .ref q] ∧ H p = some (.tup [.int a, .int b]) ∧ H q = some (.tup [.int c, .int d]) ∧ b ≠ 0 ∧ d ≠ 0 ∧ a.natAbs < 2 ^ 9000 ∧ b.natAbs < 2 ^ 3000 ∧ c.natAbs < 2 ^ 9000 ∧ d.natAbs < 2 ^ 3000 ∧
  ∀ (r : Addr) (H' : Hp), Keep [] H H' → H r = none → H' r = some (.tup [.int (lowT (f a b c d).1 (f a b c d).2), .int (lowB (f a b c d).1 (f a b c d).2)]) → Q (.ref r) H'
def fPlus (a b c d : Int) : Int × Int := (a * d + c * b, b * d)
def fTimes (a b c d : Int) : Int × Int := (a * c, b * d)
theorem r_two {f : Int → Int → Int → Int → Int × Int} {p q : Addr} {a b c d : Int} (hp : H p = some (.tup [.int a, .int b])) (hq : H q = some (.tup [.int c, .int d])) (hb : b ≠ 0) (hd : d ≠ 0) (za : a.natAbs < 2 ^ 9000) (zb : b.natAbs < 2 ^ 3000) (zc : c.natAbs < 2 ^ 9000) (zd : d.natAbs < 2 ^ 3000)
  (k : ∀ (r : Addr) (H' : Hp), Keep [] H H' → H r = none → H' r = some (.tup [.int (lowT (f a b c d).1 (f a b c d).2), .int (lowB (f a b c d).1 (f a b c d).2)]) → Q (.ref r) H') : spTwo f [.ref p, .ref q] H Q E := ⟨p, q, a, b, c, d, rfl, hp, hq, hb, hd, za, zb, zc, zd, k⟩
def spWhole : Sp := fun vs H Q _ => ∃ i : Int, vs = [.int i] ∧ Q (.bl true) H
theorem r_whole {i : Int} (k : Q (.bl true) H) : spWhole [.int i] H Q E := ⟨i, rfl, k⟩
def spPairIs : Sp := fun vs H Q _ => ∃ (p q : Addr) (a b : Int), vs = [.ref p, .ref q] ∧ H p = some (.tup [.int a, .int b]) ∧ H q = some (.tup [.int a, .int b]) ∧ Q (.bl true) H
theorem r_pairIs {p q : Addr} {a b : Int} (hp : H p = some (.tup [.int a, .int b])) (hq : H q = some (.tup [.int a, .int b])) (k : Q (.bl true) H) : spPairIs [.ref p, .ref q] H Q E := ⟨p, q, a, b, rfl, hp, hq, k⟩
/-- the law's pair in lowest terms: a bottom above 0 -/
def spLow0 : Sp := fun vs H Q _ => ∃ t b : Int, vs = [.int t, .int b] ∧ 0 < b ∧ b.natAbs < 2 ^ 8000 ∧ ∀ (p : Addr) (H' : Hp), Keep [] H H' → H p = none → H' p = some (.tup [.int (lowT t b), .int (lowB t b)]) → Q (.ref p) H'
theorem r_low0 {t b : Int} (hb : 0 < b) (hz : b.natAbs < 2 ^ 8000) (k : ∀ (p : Addr) (H' : Hp), Keep [] H H' → H p = none → H' p = some (.tup [.int (lowT t b), .int (lowB t b)]) → Q (.ref p) H') : spLow0 [.int t, .int b] H Q E := ⟨t, b, rfl, hb, hz, k⟩
end
theorem low_mul {t b : Int} : lowT t b * dv t b = t ∧ lowB t b * dv t b = b := ⟨Int.fdiv_mul_cancel dv_dvd_t, Int.fdiv_mul_cancel dv_dvd_b⟩
theorem lowB_pos {t b : Int} (h : 0 < b) : 0 < lowB t b := by
  have e := (low_mul (t := t) (b := b)).2
  have g : 0 < dv t b := by
    have := gcd_pos (t := t) (show b ≠ 0 by omega)
    unfold dv; rw [if_neg (by omega)]; omega
  have : 0 < lowB t b * dv t b := by rw [e]; exact h
  exact Int.pos_of_mul_pos_left this g
theorem low_cross {t b : Int} : lowT t b * b = t * lowB t b := by
  have e := low_mul (t := t) (b := b)
  calc lowT t b * b = lowT t b * (lowB t b * dv t b) := by rw [e.2]
    _ = (lowT t b * dv t b) * lowB t b := by ac_rfl
    _ = t * lowB t b := by rw [e.1]
/-- equal ratios have one pair in lowest terms -/
theorem low_eq {t b t' b' : Int} (hb : 0 < b) (hb' : 0 < b') (h : t * b' = t' * b) : lowT t b = lowT t' b' ∧ lowB t b = lowB t' b' := by
  have cop : ∀ {t b : Int}, 0 < b → Nat.gcd (lowT t b).natAbs (lowB t b).natAbs = 1 := by
    intro t b hb
    have g := gcd_pos (t := t) (show b ≠ 0 by omega)
    have e := low_mul (t := t) (b := b)
    have z : Nat.gcd t.natAbs b.natAbs = Nat.gcd (lowT t b).natAbs (lowB t b).natAbs * Nat.gcd t.natAbs b.natAbs := by
      have a := dv_abs (t := t) (b := b)
      have et : t.natAbs = (lowT t b).natAbs * Nat.gcd t.natAbs b.natAbs := by rw [← a, ← Int.natAbs_mul, e.1]
      have eb : b.natAbs = (lowB t b).natAbs * Nat.gcd t.natAbs b.natAbs := by rw [← a, ← Int.natAbs_mul, e.2]
      calc Nat.gcd t.natAbs b.natAbs = Nat.gcd ((lowT t b).natAbs * Nat.gcd t.natAbs b.natAbs) ((lowB t b).natAbs * Nat.gcd t.natAbs b.natAbs) := by rw [← et, ← eb]
        _ = _ := Nat.gcd_mul_right _ _ _
    have : 1 * Nat.gcd t.natAbs b.natAbs = Nat.gcd (lowT t b).natAbs (lowB t b).natAbs * Nat.gcd t.natAbs b.natAbs := by rw [Nat.one_mul]; exact z
    exact (Nat.eq_of_mul_eq_mul_right g this).symm
  have p := lowB_pos (t := t) hb
  have p' := lowB_pos (t := t') hb'
  have x : lowT t b * lowB t' b' = lowT t' b' * lowB t b := by
    have c := low_cross (t := t) (b := b)
    have c' := low_cross (t := t') (b := b')
    have : lowT t b * lowB t' b' * (b * b') = lowT t' b' * lowB t b * (b * b') := by
      calc lowT t b * lowB t' b' * (b * b') = (lowT t b * b) * (lowB t' b' * b') := by ac_rfl
        _ = (t * lowB t b) * (lowB t' b' * b') := by rw [c]
        _ = (t * b') * (lowB t b * lowB t' b') := by ac_rfl
        _ = (t' * b) * (lowB t b * lowB t' b') := by rw [h]
        _ = (t' * lowB t' b') * (lowB t b * b) := by ac_rfl
        _ = (lowT t' b' * b') * (lowB t b * b) := by rw [c']
        _ = lowT t' b' * lowB t b * (b * b') := by ac_rfl
    exact Int.eq_of_mul_eq_mul_right (by have := Int.mul_pos hb hb'; omega) this
  have d1 : (lowB t b).natAbs ∣ (lowB t' b').natAbs := by
    refine Nat.Coprime.dvd_of_dvd_mul_left (k := (lowB t b).natAbs) (m := (lowT t b).natAbs) (Nat.Coprime.symm (cop hb)) ?_
    rw [← Int.natAbs_mul, x, Int.natAbs_mul]; exact Nat.dvd_mul_left _ _
  have d2 : (lowB t' b').natAbs ∣ (lowB t b).natAbs := by
    refine Nat.Coprime.dvd_of_dvd_mul_left (k := (lowB t' b').natAbs) (m := (lowT t' b').natAbs) (Nat.Coprime.symm (cop hb')) ?_
    rw [← Int.natAbs_mul, ← x, Int.natAbs_mul]; exact Nat.dvd_mul_left _ _
  have e := Nat.dvd_antisymm d1 d2
  have e' : lowB t b = lowB t' b' := by omega
  refine ⟨?_, e'⟩
  rw [e'] at x
  exact Int.eq_of_mul_eq_mul_right (by omega) x
theorem low_step {N D w p q : Int} (hD : 0 < D) (hq : 0 < q) :
    let f := fPlus (lowT N D) (lowB N D) (lowT (fTimes w 1 p q).1 (fTimes w 1 p q).2) (lowB (fTimes w 1 p q).1 (fTimes w 1 p q).2)
    lowT f.1 f.2 = lowT (N * q + w * p * D) (D * q) ∧ lowB f.1 f.2 = lowB (N * q + w * p * D) (D * q) ∧ 0 < f.2 := by
  intro f
  have hq' : 0 < (fTimes w 1 p q).2 := by show 0 < 1 * q; omega
  have p1 := lowB_pos (t := N) hD
  have p2 := lowB_pos (t := (fTimes w 1 p q).1) hq'
  have c1 := low_cross (t := N) (b := D)
  have c2 := low_cross (t := (fTimes w 1 p q).1) (b := (fTimes w 1 p q).2)
  have hf : 0 < f.2 := Int.mul_pos p1 p2
  have e : f.1 * (D * q) = (N * q + w * p * D) * f.2 := by
    show (lowT N D * lowB (w * p) (1 * q) + lowT (w * p) (1 * q) * lowB N D) * (D * q) = (N * q + w * p * D) * (lowB N D * lowB (w * p) (1 * q))
    have c2' : lowT (w * p) (1 * q) * q = w * p * lowB (w * p) (1 * q) := by
      have := c2
      show lowT (w * p) (1 * q) * q = _
      have h : (fTimes w 1 p q).2 = q := by show 1 * q = q; omega
      rw [h] at this
      have h2 : (1 : Int) * q = q := by omega
      rw [h2]; exact this
    generalize lowB (w * p) (1 * q) = b2 at *
    generalize lowT (w * p) (1 * q) = t2 at *
    calc (lowT N D * b2 + t2 * lowB N D) * (D * q) = (lowT N D * D) * (b2 * q) + (t2 * q) * (lowB N D * D) := by rw [Int.add_mul]; congr 1 <;> ac_rfl
      _ = (N * lowB N D) * (b2 * q) + (w * p * b2) * (lowB N D * D) := by rw [c1, c2']
      _ = (N * q + w * p * D) * (lowB N D * b2) := by rw [Int.add_mul]; congr 1 <;> ac_rfl
  obtain ⟨a, b⟩ := low_eq hf (Int.mul_pos hD hq) e
  exact ⟨a, b, hf⟩
/-! ### readings of texts, dicts, tuples as targets -/
def rInSg : R2 := fun x y H Q => ∃ (c : Nat) (z : Str), x = .str ⟨#[c]⟩ ∧ y = .str z ∧ Q (.bl (decide (c ∈ z.cps.toList))) H
def rNinSg : R2 := fun x y H Q => ∃ (c : Nat) (z : Str), x = .str ⟨#[c]⟩ ∧ y = .str z ∧ Q (.bl (!decide (c ∈ z.cps.toList))) H
def rAddS : R2 := fun x y H Q => ∃ i j, x = .str i ∧ y = .str j ∧ i.length + j.length ≤ sizeLine ∧ Q (.str (i ++ j)) H
theorem op_inSg {X : Cx} : OpR X (compareOp .In) rInSg := op_in_sign
theorem op_ninSg {X : Cx} : OpR X (compareOp .NotIn) rNinSg := op_notIn_sign
theorem op_addS {X : Cx} : OpR X (binaryOp .Add) rAddS := op_add_str
section
variable {K : PySem.W.Frag} {σ : L2.St} {H : Hp} {Q : VK} {QB : Bool → Hp → Prop} {D : Ends} {ta tb td ty tv te : TE} {v x y : V} {i j z : Str} {n : Int} {c : Nat} {p : Addr}
theorem r_inSg (k : Q (.bl (decide (c ∈ z.cps.toList))) H) : rInSg (.str ⟨#[c]⟩) (.str z) H Q := ⟨c, z, rfl, rfl, k⟩
theorem r_ninSg (k : Q (.bl (!decide (c ∈ z.cps.toList))) H) : rNinSg (.str ⟨#[c]⟩) (.str z) H Q := ⟨c, z, rfl, rfl, k⟩
theorem r_addS (h : i.length + j.length ≤ sizeLine) (k : Q (.str (i ++ j)) H) : rAddS (.str i) (.str j) H Q := ⟨i, j, rfl, rfl, h, k⟩
theorem r_ixS (h : z.length ≤ sizeLine) (h2 : atI z.cps.toList n = some c) (k : Q (.str ⟨#[c]⟩) H) : rIxS (.str z) (.int n) H Q := ⟨z, n, c, rfl, rfl, h, h2, k⟩
theorem r_slS {lo hi : Option Int} (h : z.length ≤ sizeLine) (k : Q (.str (cutS z lo hi)) H) : rSlS (.str z) lo hi H Q := ⟨z, rfl, h, k⟩
theorem r_sum {ns : List Int} (h : SqL K H p (ns.map V.int)) (k : Q (.int ns.sum) H) : rSum K [.ref p] H Q := ⟨p, ns, rfl, h, k⟩
theorem r_all {bs : List Bool} (h : SqL K H p (bs.map V.bl)) (k : Q (.bl (bs.all id)) H) : rAll K [.ref p] H Q := ⟨p, bs, rfl, h, k⟩
theorem r_sortS {xs : List Str} (h : SqL K H p (xs.map V.str)) (h2 : xs.length < 64) (k : ∀ (ys : List Str) (q : Addr), ys.Perm xs → sortedS ys = true → H q = none → Q (.ref q) (upd H q (.lst (ys.map V.str)))) : rSortedS K [.ref p] H Q := ⟨p, xs, rfl, h, h2, k⟩
theorem r_listD {kvs : List (Key × V)} (h : H p = some (.dK kvs)) (k : ∀ q, H q = none → Q (.ref q) (upd H q (.lst (kvs.map fun kv => kV kv.1)))) : rListD [.ref p] H Q := ⟨p, kvs, rfl, h, k⟩
/-- dicts with texts as keys -/
def rDGet : V → V → Hp → VK → Prop := fun x y H Q => ∃ a v, x = .ref a ∧ DGet H a y (some v) ∧ Q v H
def rDGet2 : V → V → V → Hp → VK → Prop := fun x y z H Q => ∃ a o, x = .ref a ∧ DGet H a y o ∧ Q (o.getD z) H
def rDPut : V → V → V → Hp → (Hp → Prop) → Prop := fun x y v H Q => ∃ a H4, x = .ref a ∧ DPut H a y v H4 ∧ Q H4
def rDInB (f : Bool → Bool) : V → V → Hp → VK → Prop := fun y x H Q => ∃ a o, x = .ref a ∧ DGet H a y o ∧ Q (.bl (f o.isSome)) H
theorem r_dget (k : td σ H fun x H1 => ty σ H1 fun y H2 => rDGet x y H2 Q) : tDGet td ty σ H Q := k
theorem r_dgetS {kvs : List (Key × V)} (h : H p = some (.dK kvs)) (h2 : valV kvs (Sum.inr z) = some v) (k : Q v H) : rDGet (.ref p) (.str z) H Q := ⟨p, v, rfl, .inl ⟨kvs, Sum.inr z, .inl h, rfl, h2.symm⟩, k⟩
theorem r_dput (k : tv σ H fun v H1 => td σ H1 fun x H2 => ty σ H2 fun y H3 => rDPut x y v H3 fun H4 => D.nx σ H4) : sDPut td ty tv D σ H := k
theorem r_dputS {kvs : List (Key × V)} {Q : Hp → Prop} (h : H p = some (.dK kvs)) (hl : kvs.length < sizeLine) (k : Q (upd H p (.dK (putK kvs (Sum.inr z) v)))) : rDPut (.ref p) (.str z) v H Q := ⟨p, _, rfl, DPut.k (k := Sum.inr z) h hl, k⟩
theorem r_dget2 {tx : TE} (h : td σ H fun x H1 => ∃ a, x = .ref a ∧ IsD H1 a ∧ ty σ H1 fun y H2 => tx σ H2 fun z H3 => ∃ o, DGet H3 a y o ∧ Q (o.getD z) H3) : tDGet2 td ty tx σ H Q := h
theorem r_dgetO {kvs : List (Key × V)} {R : Option V → Prop} (h : H p = some (.dK kvs)) (k : R (valV kvs (Sum.inr z))) : ∃ o, DGet H p (.str z) o ∧ R o := ⟨_, DGet.k (k := Sum.inr z) h, k⟩
theorem r_isD {kvs : List (Key × V)} {R : Addr → Prop} (h : H p = some (.dK kvs)) (k : R p) : ∃ a, V.ref p = .ref a ∧ IsD H a ∧ R a := ⟨p, rfl, .inl ⟨kvs, .inl h⟩, k⟩
theorem r_din (k : ty σ H fun y H1 => td σ H1 fun x H2 => rDInB id y x H2 Q) : tDIn ty td σ H Q := k
theorem r_dnin (k : ty σ H fun y H1 => td σ H1 fun x H2 => rDInB (fun b => !b) y x H2 Q) : tDNotIn ty td σ H Q := k
theorem r_dinS {kvs : List (Key × V)} {f : Bool → Bool} (h : H p = some (.dK kvs)) (k : Q (.bl (f (valV kvs (Sum.inr z)).isSome)) H) : rDInB f (.str z) (.ref p) H Q := ⟨p, _, rfl, DGet.k (k := Sum.inr z) h, k⟩
theorem r_dnew (k : ∀ p, H p = none → Q (.ref p) (upd H p (.dK []))) : tDNewK σ H Q := k
theorem r_gTup2 {i j : Nat} {Q : L2.St → Hp → Prop} (h : SqT K H p [x, y]) (k : Q ((σ.set i (some x)).set j (some y)) H) : gTup K 2 (gCons (gName i) (gCons (gName j) gNil)) (.ref p) σ H Q := ⟨p, [x, y], rfl, h, rfl, x, [y], rfl, y, [], rfl, rfl, k⟩
theorem r_strI {i : Int} {F : Int → Prop} (h : i.natAbs.log2 < 1920) (k : F i) : ∃ j, [V.int i] = [.int j] ∧ j.natAbs.log2 < 1920 ∧ F j := ⟨i, rfl, h, k⟩
theorem r_strS {i : Str} {F : Str → Prop} (k : F i) : ∃ j, [V.str i] = [.str j] ∧ F j := ⟨i, rfl, k⟩
theorem r_tupL {xs : List V} {F : Addr → Prop} {G : List V → Addr → Prop} (h : SqL K H p xs) (k : ∀ l, H l = none → G xs l) : ∃ q ys, [V.ref p] = [.ref q] ∧ ((SqL K H q ys ∧ ∀ l, H l = none → G ys l) ∨ (SqT K H q ys ∧ F q)) := ⟨p, xs, rfl, .inl ⟨h, k⟩⟩
theorem r_js {t : TE} {ts : List TE} {acc : Str} {Q : Str → Hp → Prop} (k : t σ H fun x H1 => ∃ y : Str, x = .str y ∧ (acc ++ y).length ≤ sizeLine ∧ tJs ts (acc ++ y) σ H1 Q) : tJs (t :: ts) acc σ H Q := k
theorem r_js0 {acc : Str} {Q : Str → Hp → Prop} (k : Q acc H) : tJs [] acc σ H Q := k
theorem r_jsS {y : Str} {A B : Str → Prop} (h : A y) (k : B y) : ∃ z, V.str y = .str z ∧ A z ∧ B z := ⟨y, rfl, h, k⟩
theorem r_fmt (k : te σ H fun x H1 => (∃ y : Str, x = .str y ∧ y.length ≤ sizeLine ∧ Q (.str y) H1) ∨ ∃ i : Int, x = .int i ∧ i.natAbs.log2 < 1920 ∧ Q (.str (toString i)) H1) : tFmt te σ H Q := k
end
/-! ### comprehensions over a text -/
section
variable {K : PySem.W.Frag} {σ : L2.St} {H : Hp} {Q : VK} {te tl : TE} {tt : TT} {G : TG} {vs : List Nat}
def CompS (G : TG) (tt : TT) (te : TE) (vs : List Nat) (σ : L2.St) (Q : VK) (x : V) (H1 : Hp) : Prop := ∃ z, x = .str z ∧ CompW (Its z) G tt te vs σ Q H1
theorem r_lcS (k : tl σ H fun x H1 => CompS G tt te vs σ Q x H1) : tLc (iStr tl) G tt te vs σ H Q := k
theorem lcS_go {z : Str} (Pv : Addr → Nat → List V → Hp → Prop) (h0 : ∀ D, H D = none → Pv D 0 [] (upd H D (.lst [])))
    (hs : ∀ D (i : Nat) c acc H', z.cps[i]? = some c → H' D = some (.lst acc) → Pv D i acc H' → G (.str ⟨#[c]⟩) (wipe σ vs) H' fun σ2 H2 => wipe σ2 vs = wipe σ vs ∧ tt σ2 H2 fun b H3 =>
      if b = true then te σ2 H3 fun y H4 => ∃ acc, H4 D = some (.lst acc) ∧ acc.length < sizeLine ∧ (∃ ac, (upd H4 D (.lst (acc ++ [y]))) D = some (.lst ac) ∧ Pv D (i + 1) ac (upd H4 D (.lst (acc ++ [y])))) else ∃ ac, H3 D = some (.lst ac) ∧ Pv D (i + 1) ac H3)
    (hd : ∀ D acc H', H D = none → H' D = some (.lst acc) → Pv D z.cps.size acc H' → Q (.ref D) H') : CompS G tt te vs σ Q (.str z) H :=
  ⟨z, rfl, fun D hD => lc_it (walk_str (z := z)) (fun i H' => ∃ acc, H' D = some (.lst acc) ∧ Pv D i acc H') ⟨[], upd_same, h0 D hD⟩ (fun _ _ _ _ => True.intro) (fun i x H' H2 hi ⟨acc, ha, p⟩ ⟨e, c, hc, hx⟩ => by subst e; subst hx; exact hs D i c acc _ hc ha p) fun H' ⟨acc, ha, p⟩ => hd D acc H' hD ha p⟩
end
namespace Wr
open PySem PySem.Spec PyProof.Rows L2
/-! ### forms written -/
theorem app_assoc (x y z : Str) : x ++ y ++ z = x ++ (y ++ z) := by
  show (⟨x.cps ++ y.cps ++ z.cps⟩ : Str) = ⟨x.cps ++ (y.cps ++ z.cps)⟩
  rw [Array.append_assoc]
theorem emp_app (x : Str) : Str.empty ++ x = x := by
  show (⟨#[] ++ x.cps⟩ : Str) = x
  rw [Array.empty_append]
theorem len_app (x y : Str) : (x ++ y).length = x.length + y.length := Array.size_append
theorem ne_emp {x : Str} (h : 0 < x.length) : x ≠ Str.empty := by rintro rfl; cases h
def num (i : Int) : Str := Str.ofString (toString i)
theorem of_app (s t : String) : Str.ofString (s ++ t) = Str.ofString s ++ Str.ofString t := by
  rw [Str.ofString_eq_toList, Str.ofString_eq_toList, Str.ofString_eq_toList]
  show _ = (⟨(s.toList.map Char.toNat).toArray ++ (t.toList.map Char.toNat).toArray⟩ : Str)
  rw [String.toList_append, List.map_append, List.append_toArray]
theorem num_neg {i : Int} (h : i < 0) : num i = Str.ofString "-" ++ num (i.natAbs : Int) := by
  unfold num
  rw [PyProof.Rows.toString_neg h, of_app, show (0 - i) = ((i.natAbs : Nat) : Int) by omega]
theorem num_len {i : Int} {k : Nat} (hk : 0 < k) (h : i.natAbs.log2 < k) : (num i).length ≤ k + 5 := by
  have e := int_text_length_le (k := k) hk h
  unfold num
  rw [PySem.ofString_length]; omega
def sp : Str := Str.ofString " "
def sg (w : Int) : Str := if w < 0 then Str.ofString "-" else Str.ofString "+"
/-- one term -/
def part (w : Int) (x : Str) : Str := if (w.natAbs : Int) = 1 then x else num (w.natAbs : Int) ++ sp ++ x
abbrev Pt := Int × Str
/-- the parts of a form -/
def pts (ts : List Fm.Tm) (c : Int) : List Pt := (ts.map fun p => (p.2, part p.2 p.1)) ++ (if c ≠ 0 ∨ ts = [] then [(c, num (c.natAbs : Int))] else [])
def tailW (ps : List Pt) : List Str := ps.flatMap fun p => [sg p.1, p.2]
def first (p : Pt) : Str := if p.1 < 0 then Str.ofString "-" ++ p.2 else p.2
def words : List Pt → List Str
  | [] => []
  | p :: r => first p :: tailW r
/-- as the program writes it -/
def prog (ts : List Fm.Tm) (c : Int) : Str := Str.join sp (words (pts ts c))
/-- as the law writes it -/
def step (line : Str) (p : Fm.Tm) : Str := (if line ≠ Str.empty then line ++ sp ++ sg p.2 ++ sp else if p.2 < 0 then Str.ofString "-" else line) ++ part p.2 p.1
def due (ts : List Fm.Tm) (c : Int) : Str := if ts = [] then num c else
  if 0 < c then ts.foldl step Str.empty ++ Str.ofString " + " ++ num c else if c < 0 then ts.foldl step Str.empty ++ Str.ofString " - " ++ num (-c) else ts.foldl step Str.empty
theorem join_snoc (s : Str) (t : Str) : ∀ (y : Str) (ws : List Str), Str.join s (y :: (ws ++ [t])) = Str.join s (y :: ws) ++ s ++ t
  | y, [] => rfl
  | y, z :: ws => by
    show y ++ s ++ Str.join s (z :: (ws ++ [t])) = (y ++ s ++ Str.join s (z :: ws)) ++ s ++ t
    rw [join_snoc s t z ws, ← app_assoc, ← app_assoc]
theorem part_pos {w : Int} {x : Str} (h : 0 < x.length) : 0 < (part w x).length := by
  unfold part; split
  · exact h
  · rw [len_app]; omega
theorem fold_step : ∀ (r : List Fm.Tm) (y : Str) (ws : List Str), 0 < (Str.join sp (y :: ws)).length → (∀ p ∈ r, 0 < p.1.length) →
    r.foldl step (Str.join sp (y :: ws)) = Str.join sp (y :: (ws ++ tailW (r.map fun p => (p.2, part p.2 p.1)))) ∧ 0 < (r.foldl step (Str.join sp (y :: ws))).length
  | [], y, ws, h, _ => ⟨by simp [tailW], h⟩
  | p :: r, y, ws, h, hn => by
    have e : step (Str.join sp (y :: ws)) p = Str.join sp (y :: (ws ++ [sg p.2, part p.2 p.1])) := by
      unfold step
      rw [if_pos (ne_emp h), show ws ++ [sg p.2, part p.2 p.1] = (ws ++ [sg p.2]) ++ [part p.2 p.1] by simp, join_snoc, join_snoc]
    have h2 : 0 < (Str.join sp (y :: (ws ++ [sg p.2, part p.2 p.1]))).length := by
      rw [← e]; unfold step; rw [len_app]; have := part_pos (w := p.2) (hn p (by simp)); omega
    have ih := fold_step r y (ws ++ [sg p.2, part p.2 p.1]) h2 fun q hq => hn q (by simp [hq])
    rw [List.foldl_cons, e]
    refine ⟨?_, ih.2⟩
    rw [ih.1]
    congr 2
    simp [tailW]
/-- both write the same -/
theorem same {ts : List Fm.Tm} {c : Int} (hn : ∀ p ∈ ts, 0 < p.1.length) : prog ts c = due ts c := by
  unfold prog due pts
  cases ts with
  | nil =>
    rw [if_pos rfl]
    simp only [List.map_nil, List.nil_append, or_true, if_true, words, tailW, List.flatMap_nil]
    show first (c, num (c.natAbs : Int)) = _
    unfold first
    split
    · next h => exact (num_neg h).symm
    · next h => show num (c.natAbs : Int) = _; rw [show ((c.natAbs : Nat) : Int) = c by have h' : ¬ c < 0 := h; omega]
  | cons p r =>
    rw [if_neg (show ¬ (p :: r = []) by simp)]
    have s0 : step Str.empty p = first (p.2, part p.2 p.1) := by
      unfold step first
      rw [if_neg (by simp)]
      split
      · rfl
      · exact emp_app _
    have h1 : 0 < (Str.join sp [first (p.2, part p.2 p.1)]).length := by
      show 0 < (first (p.2, part p.2 p.1)).length
      have := part_pos (w := p.2) (hn p (by simp))
      unfold first; split
      · rw [len_app]; dsimp only; omega
      · exact this
    have f := fold_step r (first (p.2, part p.2 p.1)) [] h1 fun q hq => hn q (by simp [hq])
    have f1 : (p :: r).foldl step Str.empty = Str.join sp (first (p.2, part p.2 p.1) :: tailW (r.map fun p => (p.2, part p.2 p.1))) := by
      rw [List.foldl_cons, s0]; exact f.1
    rw [f1]
    have wc : ∀ t : Pt, words (((p :: r).map fun p => (p.2, part p.2 p.1)) ++ [t]) = first (p.2, part p.2 p.1) :: (tailW (r.map fun p => (p.2, part p.2 p.1)) ++ [sg t.1] ++ [t.2]) := fun t => by
      simp [words, tailW]
    by_cases h : c = 0
    · subst h
      rw [if_neg (by simp), if_neg (by decide), if_neg (by decide), List.append_nil]; rfl
    · rw [if_pos (.inl h), wc, join_snoc, join_snoc]
      dsimp only
      by_cases h0 : 0 < c
      · rw [if_pos h0]
        unfold sg
        rw [if_neg (by omega), show ((c.natAbs : Nat) : Int) = c by omega, show Str.ofString " + " = sp ++ (Str.ofString "+" ++ sp) by decide +kernel]
        simp only [app_assoc]
      · rw [if_neg h0, if_pos (by omega)]
        unfold sg
        rw [if_pos (by omega), show ((c.natAbs : Nat) : Int) = -c by omega, show Str.ofString " - " = sp ++ (Str.ofString "-" ++ sp) by decide +kernel]
        simp only [app_assoc]
theorem tailW_len : ∀ ps : List Pt, (tailW ps).length = 2 * ps.length
  | [] => rfl
  | p :: ps => by
    have := tailW_len ps
    show (sg p.1 :: p.2 :: tailW ps).length = _
    simp only [List.length_cons, this]; omega
theorem tailW_snoc (ps : List Pt) (p : Pt) : tailW (ps ++ [p]) = tailW ps ++ [sg p.1, p.2] := by simp [tailW]
theorem tailW_mem {ps : List Pt} {y : Str} (h : y ∈ tailW ps) : (∃ w, y = sg w) ∨ ∃ p ∈ ps, y = p.2 := by
  obtain ⟨p, hp, hy⟩ := List.mem_flatMap.mp h
  rcases List.mem_cons.mp hy with e | e
  · exact .inl ⟨p.1, e⟩
  · exact .inr ⟨p, hp, List.mem_singleton.mp e⟩
theorem sum_len {B : Nat} : ∀ {ys : List Str}, (∀ y ∈ ys, y.length ≤ B) → (ys.map (·.length)).sum ≤ ys.length * B
  | [], _ => by simp
  | y :: ys, h => by
    have a := h y (by simp)
    have b := sum_len (B := B) (ys := ys) fun z hz => h z (by simp [hz])
    rw [List.map_cons, List.sum_cons, List.length_cons, Nat.succ_mul]; omega
end Wr
/-! ### a row of objects, each told by its item -/
section
variable {α : Type} {f : α → HO} {H H' : Hp}
def AllAt (f : α → HO) (H : Hp) : List Addr → List α → Prop
  | [], [] => True
  | a :: as, x :: xs => H a = some (f x) ∧ AllAt f H as xs
  | _, _ => False
theorem AllAt.len : ∀ {as : List Addr} {xs : List α}, AllAt f H as xs → as.length = xs.length
  | [], [], _ => rfl
  | _ :: _, _ :: _, h => congrArg Nat.succ (AllAt.len h.2)
  | [], _ :: _, h => h.elim
  | _ :: _, [], h => h.elim
theorem AllAt.get : ∀ {as : List Addr} {xs : List α} {i : Nat} {a : Addr}, AllAt f H as xs → as[i]? = some a → ∃ x, xs[i]? = some x ∧ H a = some (f x)
  | [], _, _, _, _, e => by simp at e
  | _ :: _, [], _, _, h, _ => h.elim
  | b :: as, p :: ts, 0, a, h, e => by
    have : b = a := by simpa using e
    subst this; exact ⟨p, rfl, h.1⟩
  | b :: as, p :: ts, i + 1, a, h, e => by
    obtain ⟨q, h1, h2⟩ := AllAt.get (i := i) h.2 (by simpa using e)
    exact ⟨q, by simpa using h1, h2⟩
theorem AllAt.mono : ∀ {as : List Addr} {xs : List α}, AllAt f H as xs → (∀ a x, a ∈ as → x ∈ xs → H a = some (f x) → H' a = some (f x)) → AllAt f H' as xs
  | [], [], _, _ => trivial
  | a :: as, p :: ts, h, k => ⟨k a p (by simp) (by simp) h.1, h.2.mono fun b q hb hq => k b q (by simp [hb]) (by simp [hq])⟩
  | [], _ :: _, h, _ => h.elim
  | _ :: _, [], h, _ => h.elim
theorem AllAt.app : ∀ {as bs : List Addr} {xs ys : List α}, AllAt f H as xs → AllAt f H bs ys → AllAt f H (as ++ bs) (xs ++ ys)
  | [], _, [], _, _, k => k
  | _ :: _, _, _ :: _, _, h, k => ⟨h.1, h.2.app k⟩
  | [], _, _ :: _, _, h, _ => h.elim
  | _ :: _, _, [], _, h, _ => h.elim
theorem AllAt.keep0 {as : List Addr} {xs : List α} (h : AllAt f H as xs) (k : Keep [] H H') : AllAt f H' as xs := h.mono fun a p _ _ e => k a _ (by simp) e
/-- kept where the changed addresses hold other things -/
theorem AllAt.keep {M : List Addr} {as : List Addr} {xs : List α} (h : AllAt f H as xs) (k : Keep M H H') (n : ∀ m ∈ M, ∀ x, H m ≠ some (f x)) : AllAt f H' as xs := h.mono fun a p _ _ e => k a _ (fun hm => n a hm p e) e
end
abbrev PG : Program := PySem.Challenge.pw_metehouse_k02_forms_written_and_put
def topS (i : Nat) : Stmt := PySem.Challenge.pw_metehouse_k02_forms_written_and_put.main.body.getD i (.Pass ⟨0, 0, 0, 0⟩)
abbrev s_ratio : Stmt := topS 7
theorem sc_ratio : FnScope ["top", "bottom", "divisor"] ["top", "bottom"] (defScope s_ratio) := ⟨rfl, rfl, rfl, by decide +kernel, rfl, by decide +kernel, by decide +kernel⟩
abbrev s_plus : Stmt := topS 8
theorem sc_plus : FnScope ["first", "second"] ["first", "second"] (defScope s_plus) := ⟨rfl, rfl, rfl, by decide +kernel, rfl, by decide +kernel, by decide +kernel⟩
abbrev s_times : Stmt := topS 9
theorem sc_times : FnScope ["first", "second"] ["first", "second"] (defScope s_times) := ⟨rfl, rfl, rfl, by decide +kernel, rfl, by decide +kernel, by decide +kernel⟩
abbrev s_is_quantity : Stmt := topS 14
theorem sc_is_quantity : FnScope ["text", "sign"] ["text"] (defScope s_is_quantity) := ⟨rfl, rfl, rfl, by decide +kernel, rfl, by decide +kernel, by decide +kernel⟩
abbrev s_need_levels : Stmt := topS 15
theorem sc_need_levels : FnScope ["names", "world", "name"] ["names", "world"] (defScope s_need_levels) := ⟨rfl, rfl, rfl, by decide +kernel, rfl, by decide +kernel, by decide +kernel⟩
abbrev s_added_terms : Stmt := topS 16
theorem sc_added_terms : FnScope ["terms", "sums", "name", "weight"] ["terms"] (defScope s_added_terms) := ⟨rfl, rfl, rfl, by decide +kernel, rfl, by decide +kernel, by decide +kernel⟩
abbrev s_weight_of : Stmt := topS 17
theorem sc_weight_of : FnScope ["terms", "name", "found", "weight"] ["terms", "name"] (defScope s_weight_of) := ⟨rfl, rfl, rfl, by decide +kernel, rfl, by decide +kernel, by decide +kernel⟩
abbrev s_write_term : Stmt := topS 18
theorem sc_write_term : FnScope ["size", "name"] ["size", "name"] (defScope s_write_term) := ⟨rfl, rfl, rfl, by decide +kernel, rfl, by decide +kernel, by decide +kernel⟩
abbrev s_write_form : Stmt := topS 19
theorem sc_write_form : FnScope ["terms", "constant", "parts", "name", "weight", "text", "words"] ["terms", "constant"] (defScope s_write_form) := ⟨rfl, rfl, rfl, by decide +kernel, rfl, by decide +kernel, by decide +kernel⟩
abbrev s_Form___init : Stmt := inClass (topS 20) 0
theorem sc_Form___init : FnScope ["self", "terms", "constant"] ["self", "terms", "constant"] (defScope s_Form___init) := ⟨rfl, rfl, rfl, by decide +kernel, rfl, by decide +kernel, by decide +kernel⟩
abbrev s_Form_names : Stmt := inClass (topS 20) 3
theorem sc_Form_names : FnScope ["self", "name", "_"] ["self"] (defScope s_Form_names) := ⟨rfl, rfl, rfl, by decide +kernel, rfl, by decide +kernel, by decide +kernel⟩
abbrev s_Form_put : Stmt := inClass (topS 20) 4
theorem sc_Form_put : FnScope ["self", "name", "form", "rest", "found", "weight"] ["self", "name", "form"] (defScope s_Form_put) := ⟨rfl, rfl, rfl, by decide +kernel, rfl, by decide +kernel, by decide +kernel⟩
abbrev s_Form___call : Stmt := inClass (topS 20) 5
theorem sc_Form___call : FnScope ["self", "world", "total", "name", "weight"] ["self", "world"] (defScope s_Form___call) := ⟨rfl, rfl, rfl, by decide +kernel, rfl, by decide +kernel, by decide +kernel⟩
abbrev s_Form___add : Stmt := inClass (topS 20) 6
theorem sc_Form___add : FnScope ["self", "other"] ["self", "other"] (defScope s_Form___add) := ⟨rfl, rfl, rfl, by decide +kernel, rfl, by decide +kernel, by decide +kernel⟩
abbrev s_Form___sub : Stmt := inClass (topS 20) 8
theorem sc_Form___sub : FnScope ["self", "other"] ["self", "other"] (defScope s_Form___sub) := ⟨rfl, rfl, rfl, by decide +kernel, rfl, by decide +kernel, by decide +kernel⟩
abbrev s_Form___neg : Stmt := inClass (topS 20) 10
theorem sc_Form___neg : FnScope ["self"] ["self"] (defScope s_Form___neg) := ⟨rfl, rfl, rfl, by decide +kernel, rfl, by decide +kernel, by decide +kernel⟩
abbrev s_Form___mul : Stmt := inClass (topS 20) 11
theorem sc_Form___mul : FnScope ["self", "other", "name", "weight"] ["self", "other"] (defScope s_Form___mul) := ⟨rfl, rfl, rfl, by decide +kernel, rfl, by decide +kernel, by decide +kernel⟩
abbrev s_Form___rmul : Stmt := inClass (topS 20) 12
theorem sc_Form___rmul : FnScope ["self", "other"] ["self", "other"] (defScope s_Form___rmul) := ⟨rfl, rfl, rfl, by decide +kernel, rfl, by decide +kernel, by decide +kernel⟩
abbrev s_Form___eq : Stmt := inClass (topS 20) 13
theorem sc_Form___eq : FnScope ["self", "other"] ["self", "other"] (defScope s_Form___eq) := ⟨rfl, rfl, rfl, by decide +kernel, rfl, by decide +kernel, by decide +kernel⟩
abbrev s_Form___str : Stmt := inClass (topS 20) 18
theorem sc_Form___str : FnScope ["self"] ["self"] (defScope s_Form___str) := ⟨rfl, rfl, rfl, by decide +kernel, rfl, by decide +kernel, by decide +kernel⟩
abbrev s_w_pot : Stmt := topS 22
theorem sc_w_pot : FnScope ["_law_script"] ["_law_script"] (defScope s_w_pot) := ⟨rfl, rfl, rfl, by decide +kernel, rfl, by decide +kernel, by decide +kernel⟩
abbrev s_w_take : Stmt := topS 23
theorem sc_w_take : FnScope ["_law_pot_here", "_law_size", "_law_cell", "_law_mixed"] ["_law_pot_here", "_law_size"] (defScope s_w_take) := ⟨rfl, rfl, rfl, by decide +kernel, rfl, by decide +kernel, by decide +kernel⟩
abbrev s_w_whole : Stmt := topS 24
theorem sc_w_whole : FnScope ["_law_found"] ["_law_found"] (defScope s_w_whole) := ⟨rfl, rfl, rfl, by decide +kernel, rfl, by decide +kernel, by decide +kernel⟩
abbrev s_w_quantity : Stmt := topS 25
theorem sc_w_quantity : FnScope ["_law_pot_here", "_law_shift", "_law_letters", "_law_signs", "_law_text", "_law_way", "_law_long", "_law_k"] ["_law_pot_here", "_law_shift"] (defScope s_w_quantity) := ⟨rfl, rfl, rfl, by decide +kernel, rfl, by decide +kernel, by decide +kernel⟩
abbrev s_w_pool : Stmt := topS 26
theorem sc_w_pool : FnScope ["_law_pot_here", "_law_most", "_law_pool_here", "_law_k", "_law_text"] ["_law_pot_here", "_law_most"] (defScope s_w_pool) := ⟨rfl, rfl, rfl, by decide +kernel, rfl, by decide +kernel, by decide +kernel⟩
abbrev s_w_weight : Stmt := topS 27
theorem sc_w_weight : FnScope ["_law_pot_here", "_law_way", "_law_sign", "_law_edge", "_law_large"] ["_law_pot_here"] (defScope s_w_weight) := ⟨rfl, rfl, rfl, by decide +kernel, rfl, by decide +kernel, by decide +kernel⟩
abbrev s_w_pairs : Stmt := topS 28
theorem sc_w_pairs : FnScope ["_law_pot_here", "_law_pool_here", "_law_pairs_here", "_law_k"] ["_law_pot_here", "_law_pool_here"] (defScope s_w_pairs) := ⟨rfl, rfl, rfl, by decide +kernel, rfl, by decide +kernel, by decide +kernel⟩
abbrev s_w_tidy : Stmt := topS 29
theorem sc_w_tidy : FnScope ["_law_pairs_here", "_law_constant", "_law_seen", "_law_pair", "_law_terms", "_law_text", "_law_weight_here"] ["_law_pairs_here", "_law_constant"] (defScope s_w_tidy) := ⟨rfl, rfl, rfl, by decide +kernel, rfl, by decide +kernel, by decide +kernel⟩
abbrev s_w_added : Stmt := topS 30
theorem sc_w_added : FnScope ["_law_one", "_law_two", "_law_factor", "_law_pairs_here", "_law_pair"] ["_law_one", "_law_two", "_law_factor"] (defScope s_w_added) := ⟨rfl, rfl, rfl, by decide +kernel, rfl, by decide +kernel, by decide +kernel⟩
abbrev s_w_form_is : Stmt := topS 31
theorem sc_w_form_is : FnScope ["_law_found", "_law_due", "_law_k", "_law_pair"] ["_law_found", "_law_due"] (defScope s_w_form_is) := ⟨rfl, rfl, rfl, by decide +kernel, rfl, by decide +kernel, by decide +kernel⟩
abbrev s_w_lowest : Stmt := topS 32
theorem sc_w_lowest : FnScope ["_law_top", "_law_bottom", "_law_first", "_law_second", "_law_rest"] ["_law_top", "_law_bottom"] (defScope s_w_lowest) := ⟨rfl, rfl, rfl, by decide +kernel, rfl, by decide +kernel, by decide +kernel⟩
abbrev s_w_pair_is : Stmt := topS 33
theorem sc_w_pair_is : FnScope ["_law_found", "_law_pair"] ["_law_found", "_law_pair"] (defScope s_w_pair_is) := ⟨rfl, rfl, rfl, by decide +kernel, rfl, by decide +kernel, by decide +kernel⟩
abbrev s_w_value : Stmt := topS 34
theorem sc_w_value : FnScope ["_law_due", "_law_world", "_law_top", "_law_bottom", "_law_pair", "_law_level_here"] ["_law_due", "_law_world"] (defScope s_w_value) := ⟨rfl, rfl, rfl, by decide +kernel, rfl, by decide +kernel, by decide +kernel⟩
abbrev s_w_part : Stmt := topS 35
theorem sc_w_part : FnScope ["_law_weight_here", "_law_text"] ["_law_weight_here", "_law_text"] (defScope s_w_part) := ⟨rfl, rfl, rfl, by decide +kernel, rfl, by decide +kernel, by decide +kernel⟩
abbrev s_w_written : Stmt := topS 36
theorem sc_w_written : FnScope ["_law_due", "_law_line", "_law_pair", "_law_sign"] ["_law_due"] (defScope s_w_written) := ⟨rfl, rfl, rfl, by decide +kernel, rfl, by decide +kernel, by decide +kernel⟩
abbrev s_w_right : Stmt := topS 37
theorem sc_w_right : FnScope ["_law_found", "_law_due", "_law_line"] ["_law_found", "_law_due"] (defScope s_w_right) := ⟨rfl, rfl, rfl, by decide +kernel, rfl, by decide +kernel, by decide +kernel⟩
abbrev s_w_put : Stmt := topS 38
theorem sc_w_put : FnScope ["_law_one", "_law_text", "_law_other", "_law_weight_here", "_law_pair", "_law_rest"] ["_law_one", "_law_text", "_law_other"] (defScope s_w_put) := ⟨rfl, rfl, rfl, by decide +kernel, rfl, by decide +kernel, by decide +kernel⟩
abbrev s_w_level : Stmt := topS 39
theorem sc_w_level : FnScope ["_law_pot_here", "_law_top", "_law_bottom"] ["_law_pot_here"] (defScope s_w_level) := ⟨rfl, rfl, rfl, by decide +kernel, rfl, by decide +kernel, by decide +kernel⟩
abbrev s_w_put_right : Stmt := topS 40
theorem sc_w_put_right : FnScope ["_law_first", "_law_one", "_law_text", "_law_other", "_law_due_other", "_law_world", "_law_due", "_law_found", "_law_moved", "_law_held", "_law_pair"] ["_law_first", "_law_one", "_law_text", "_law_other", "_law_due_other", "_law_world"] (defScope s_w_put_right) := ⟨rfl, rfl, rfl, by decide +kernel, rfl, by decide +kernel, by decide +kernel⟩
abbrev s_law : Stmt := topS 41
theorem sc_law : FnScope ["_law_script", "_law_pot_here", "_law_pool_here", "_law_dues", "_law_forms", "_law_k", "_law_pairs_here", "_law_constant", "_law_none", "_law_number", "_law_world", "_law_text", "_law_again", "_law_once"] ["_law_script"] (defScope s_law) := ⟨rfl, rfl, rfl, by decide +kernel, rfl, by decide +kernel, by decide +kernel⟩
/-- what the top has written -/
structure Tx (K : PySem.W.Frag) (mg : Str → Option Value) : Type where
  f_ratio : Addr
  fd_ratio : FuncData
  F_ratio : FunD K "ratio" "ratio" (defArgs s_ratio) (defBody s_ratio) (defScope s_ratio) [V.int (1)] [] f_ratio fd_ratio
  g_ratio : mg "ratio" = some (.ref f_ratio)
  b1_ratio : ∃ ds, Vals (List.drop 0 [V.int (1)]) ds ∧ Binds K fd_ratio ["top", "bottom"] ds
  b2_ratio : ∃ ds, Vals (List.drop 1 [V.int (1)]) ds ∧ Binds K fd_ratio ["top", "bottom"] ds
  f_plus : Addr
  fd_plus : FuncData
  F_plus : Fun K "plus" "plus" s_plus f_plus fd_plus
  g_plus : mg "plus" = some (.ref f_plus)
  b_plus : Binds K fd_plus ["first", "second"] []
  f_times : Addr
  fd_times : FuncData
  F_times : Fun K "times" "times" s_times f_times fd_times
  g_times : mg "times" = some (.ref f_times)
  b_times : Binds K fd_times ["first", "second"] []
  f_is_quantity : Addr
  fd_is_quantity : FuncData
  F_is_quantity : Fun K "is_quantity" "is_quantity" s_is_quantity f_is_quantity fd_is_quantity
  g_is_quantity : mg "is_quantity" = some (.ref f_is_quantity)
  b_is_quantity : Binds K fd_is_quantity ["text"] []
  f_need_levels : Addr
  fd_need_levels : FuncData
  F_need_levels : Fun K "need_levels" "need_levels" s_need_levels f_need_levels fd_need_levels
  g_need_levels : mg "need_levels" = some (.ref f_need_levels)
  b_need_levels : Binds K fd_need_levels ["names", "world"] []
  f_added_terms : Addr
  fd_added_terms : FuncData
  F_added_terms : Fun K "added_terms" "added_terms" s_added_terms f_added_terms fd_added_terms
  g_added_terms : mg "added_terms" = some (.ref f_added_terms)
  b_added_terms : Binds K fd_added_terms ["terms"] []
  f_weight_of : Addr
  fd_weight_of : FuncData
  F_weight_of : Fun K "weight_of" "weight_of" s_weight_of f_weight_of fd_weight_of
  g_weight_of : mg "weight_of" = some (.ref f_weight_of)
  b_weight_of : Binds K fd_weight_of ["terms", "name"] []
  f_write_term : Addr
  fd_write_term : FuncData
  F_write_term : Fun K "write_term" "write_term" s_write_term f_write_term fd_write_term
  g_write_term : mg "write_term" = some (.ref f_write_term)
  b_write_term : Binds K fd_write_term ["size", "name"] []
  f_write_form : Addr
  fd_write_form : FuncData
  F_write_form : Fun K "write_form" "write_form" s_write_form f_write_form fd_write_form
  g_write_form : mg "write_form" = some (.ref f_write_form)
  b_write_form : Binds K fd_write_form ["terms", "constant"] []
  f_Form___init : Addr
  fd_Form___init : FuncData
  e_Form___init : Addr
  F_Form___init : FunD K "__init__" "Form.__init__" (defArgs s_Form___init) (defBody s_Form___init) (defScope s_Form___init) [V.ref e_Form___init, V.int (0)] [] f_Form___init fd_Form___init
  b1_Form___init : ∃ ds, Vals (List.drop 0 [V.ref e_Form___init, V.int (0)]) ds ∧ Binds K fd_Form___init ["self", "terms", "constant"] ds
  b2_Form___init : ∃ ds, Vals (List.drop 1 [V.ref e_Form___init, V.int (0)]) ds ∧ Binds K fd_Form___init ["self", "terms", "constant"] ds
  b3_Form___init : ∃ ds, Vals (List.drop 2 [V.ref e_Form___init, V.int (0)]) ds ∧ Binds K fd_Form___init ["self", "terms", "constant"] ds
  f_Form_names : Addr
  fd_Form_names : FuncData
  F_Form_names : Fun K "names" "Form.names" s_Form_names f_Form_names fd_Form_names
  b_Form_names : Binds K fd_Form_names ["self"] []
  f_Form_put : Addr
  fd_Form_put : FuncData
  F_Form_put : Fun K "put" "Form.put" s_Form_put f_Form_put fd_Form_put
  b_Form_put : Binds K fd_Form_put ["self", "name", "form"] []
  f_Form___call : Addr
  fd_Form___call : FuncData
  F_Form___call : Fun K "__call__" "Form.__call__" s_Form___call f_Form___call fd_Form___call
  b_Form___call : Binds K fd_Form___call ["self", "world"] []
  f_Form___add : Addr
  fd_Form___add : FuncData
  F_Form___add : Fun K "__add__" "Form.__add__" s_Form___add f_Form___add fd_Form___add
  b_Form___add : Binds K fd_Form___add ["self", "other"] []
  f_Form___sub : Addr
  fd_Form___sub : FuncData
  F_Form___sub : Fun K "__sub__" "Form.__sub__" s_Form___sub f_Form___sub fd_Form___sub
  b_Form___sub : Binds K fd_Form___sub ["self", "other"] []
  f_Form___neg : Addr
  fd_Form___neg : FuncData
  F_Form___neg : Fun K "__neg__" "Form.__neg__" s_Form___neg f_Form___neg fd_Form___neg
  b_Form___neg : Binds K fd_Form___neg ["self"] []
  f_Form___mul : Addr
  fd_Form___mul : FuncData
  F_Form___mul : Fun K "__mul__" "Form.__mul__" s_Form___mul f_Form___mul fd_Form___mul
  b_Form___mul : Binds K fd_Form___mul ["self", "other"] []
  f_Form___rmul : Addr
  fd_Form___rmul : FuncData
  F_Form___rmul : Fun K "__rmul__" "Form.__rmul__" s_Form___rmul f_Form___rmul fd_Form___rmul
  b_Form___rmul : Binds K fd_Form___rmul ["self", "other"] []
  f_Form___eq : Addr
  fd_Form___eq : FuncData
  F_Form___eq : Fun K "__eq__" "Form.__eq__" s_Form___eq f_Form___eq fd_Form___eq
  b_Form___eq : Binds K fd_Form___eq ["self", "other"] []
  f_Form___str : Addr
  fd_Form___str : FuncData
  F_Form___str : Fun K "__str__" "Form.__str__" s_Form___str f_Form___str fd_Form___str
  b_Form___str : Binds K fd_Form___str ["self"] []
  f_w_pot : Addr
  fd_w_pot : FuncData
  F_w_pot : Fun K "_law_pot" "_law_pot" s_w_pot f_w_pot fd_w_pot
  g_w_pot : mg "_law_pot" = some (.ref f_w_pot)
  b_w_pot : Binds K fd_w_pot ["_law_script"] []
  f_w_take : Addr
  fd_w_take : FuncData
  F_w_take : Fun K "_law_take" "_law_take" s_w_take f_w_take fd_w_take
  g_w_take : mg "_law_take" = some (.ref f_w_take)
  b_w_take : Binds K fd_w_take ["_law_pot_here", "_law_size"] []
  f_w_whole : Addr
  fd_w_whole : FuncData
  F_w_whole : Fun K "_law_whole" "_law_whole" s_w_whole f_w_whole fd_w_whole
  g_w_whole : mg "_law_whole" = some (.ref f_w_whole)
  b_w_whole : Binds K fd_w_whole ["_law_found"] []
  f_w_quantity : Addr
  fd_w_quantity : FuncData
  F_w_quantity : Fun K "_law_quantity" "_law_quantity" s_w_quantity f_w_quantity fd_w_quantity
  g_w_quantity : mg "_law_quantity" = some (.ref f_w_quantity)
  b_w_quantity : Binds K fd_w_quantity ["_law_pot_here", "_law_shift"] []
  f_w_pool : Addr
  fd_w_pool : FuncData
  F_w_pool : Fun K "_law_pool" "_law_pool" s_w_pool f_w_pool fd_w_pool
  g_w_pool : mg "_law_pool" = some (.ref f_w_pool)
  b_w_pool : Binds K fd_w_pool ["_law_pot_here", "_law_most"] []
  f_w_weight : Addr
  fd_w_weight : FuncData
  F_w_weight : Fun K "_law_weight" "_law_weight" s_w_weight f_w_weight fd_w_weight
  g_w_weight : mg "_law_weight" = some (.ref f_w_weight)
  b_w_weight : Binds K fd_w_weight ["_law_pot_here"] []
  f_w_pairs : Addr
  fd_w_pairs : FuncData
  F_w_pairs : Fun K "_law_pairs" "_law_pairs" s_w_pairs f_w_pairs fd_w_pairs
  g_w_pairs : mg "_law_pairs" = some (.ref f_w_pairs)
  b_w_pairs : Binds K fd_w_pairs ["_law_pot_here", "_law_pool_here"] []
  f_w_tidy : Addr
  fd_w_tidy : FuncData
  F_w_tidy : Fun K "_law_tidy" "_law_tidy" s_w_tidy f_w_tidy fd_w_tidy
  g_w_tidy : mg "_law_tidy" = some (.ref f_w_tidy)
  b_w_tidy : Binds K fd_w_tidy ["_law_pairs_here", "_law_constant"] []
  f_w_added : Addr
  fd_w_added : FuncData
  F_w_added : Fun K "_law_added" "_law_added" s_w_added f_w_added fd_w_added
  g_w_added : mg "_law_added" = some (.ref f_w_added)
  b_w_added : Binds K fd_w_added ["_law_one", "_law_two", "_law_factor"] []
  f_w_form_is : Addr
  fd_w_form_is : FuncData
  F_w_form_is : Fun K "_law_form_is" "_law_form_is" s_w_form_is f_w_form_is fd_w_form_is
  g_w_form_is : mg "_law_form_is" = some (.ref f_w_form_is)
  b_w_form_is : Binds K fd_w_form_is ["_law_found", "_law_due"] []
  f_w_lowest : Addr
  fd_w_lowest : FuncData
  F_w_lowest : Fun K "_law_lowest" "_law_lowest" s_w_lowest f_w_lowest fd_w_lowest
  g_w_lowest : mg "_law_lowest" = some (.ref f_w_lowest)
  b_w_lowest : Binds K fd_w_lowest ["_law_top", "_law_bottom"] []
  f_w_pair_is : Addr
  fd_w_pair_is : FuncData
  F_w_pair_is : Fun K "_law_pair_is" "_law_pair_is" s_w_pair_is f_w_pair_is fd_w_pair_is
  g_w_pair_is : mg "_law_pair_is" = some (.ref f_w_pair_is)
  b_w_pair_is : Binds K fd_w_pair_is ["_law_found", "_law_pair"] []
  f_w_value : Addr
  fd_w_value : FuncData
  F_w_value : Fun K "_law_value" "_law_value" s_w_value f_w_value fd_w_value
  g_w_value : mg "_law_value" = some (.ref f_w_value)
  b_w_value : Binds K fd_w_value ["_law_due", "_law_world"] []
  f_w_part : Addr
  fd_w_part : FuncData
  F_w_part : Fun K "_law_part" "_law_part" s_w_part f_w_part fd_w_part
  g_w_part : mg "_law_part" = some (.ref f_w_part)
  b_w_part : Binds K fd_w_part ["_law_weight_here", "_law_text"] []
  f_w_written : Addr
  fd_w_written : FuncData
  F_w_written : Fun K "_law_written" "_law_written" s_w_written f_w_written fd_w_written
  g_w_written : mg "_law_written" = some (.ref f_w_written)
  b_w_written : Binds K fd_w_written ["_law_due"] []
  f_w_right : Addr
  fd_w_right : FuncData
  F_w_right : Fun K "_law_right" "_law_right" s_w_right f_w_right fd_w_right
  g_w_right : mg "_law_right" = some (.ref f_w_right)
  b_w_right : Binds K fd_w_right ["_law_found", "_law_due"] []
  f_w_put : Addr
  fd_w_put : FuncData
  F_w_put : Fun K "_law_put" "_law_put" s_w_put f_w_put fd_w_put
  g_w_put : mg "_law_put" = some (.ref f_w_put)
  b_w_put : Binds K fd_w_put ["_law_one", "_law_text", "_law_other"] []
  f_w_level : Addr
  fd_w_level : FuncData
  F_w_level : Fun K "_law_level" "_law_level" s_w_level f_w_level fd_w_level
  g_w_level : mg "_law_level" = some (.ref f_w_level)
  b_w_level : Binds K fd_w_level ["_law_pot_here"] []
  f_w_put_right : Addr
  fd_w_put_right : FuncData
  F_w_put_right : Fun K "_law_put_right" "_law_put_right" s_w_put_right f_w_put_right fd_w_put_right
  g_w_put_right : mg "_law_put_right" = some (.ref f_w_put_right)
  b_w_put_right : Binds K fd_w_put_right ["_law_first", "_law_one", "_law_text", "_law_other", "_law_due_other", "_law_world"] []
  f_law : Addr
  fd_law : FuncData
  F_law : Fun K "law" "law" s_law f_law fd_law
  g_law : mg "law" = some (.ref f_law)
  b_law : Binds K fd_law ["_law_script"] []
  C_Form : Addr
  gC_Form : mg "Form" = some (.ref C_Form)
  oc_Form : Ow.OC K C_Form
  na_Form_terms : NoAttr K C_Form "terms"
  na_Form_constant : NoAttr K C_Form "constant"
  mk_Form : Mk K C_Form f_Form___init
  me_Form_names : Meth K C_Form "names" f_Form_names
  me_Form_put : Meth K C_Form "put" f_Form_put
  me_Form___add : Meth K C_Form "__add__" f_Form___add
  me_Form___sub : Meth K C_Form "__sub__" f_Form___sub
  me_Form___neg : Meth K C_Form "__neg__" f_Form___neg
  me_Form___mul : Meth K C_Form "__mul__" f_Form___mul
  me_Form___rmul : Meth K C_Form "__rmul__" f_Form___rmul
  me_Form___eq : Meth K C_Form "__eq__" f_Form___eq
  me_Form___str : Meth K C_Form "__str__" f_Form___str
  co_Form : StX.CallO K C_Form f_Form___call
  si_Form : PySem.W.subIn K (.ref C_Form) (.type "int") = some false
  is_Form : PySem.W.subIn K (.type "int") (.ref C_Form) = some false
  rr_Form_mul : ∃ g : Addr, PySem.W.findIn K (.ref C_Form) "__rmul__" = some (some (.ref g))
  if_mul : PySem.W.findIn K (.type "int") "__mul__" = some (some (.builtin "int.__mul__"))
  ir_mul : PySem.W.findIn K (.type "int") "__rmul__" = some (some (.builtin "int.__rmul__"))
  rr_Form_add : ∃ g : Addr, PySem.W.findIn K (.ref C_Form) "__radd__" = some (some (.ref g))
  if_add : PySem.W.findIn K (.type "int") "__add__" = some (some (.builtin "int.__add__"))
  ir_add : PySem.W.findIn K (.type "int") "__radd__" = some (some (.builtin "int.__radd__"))
  m_len : mg "len" = none
  m_range : mg "range" = none
  m_isinstance : mg "isinstance" = none
  m_int : mg "int" = none
  m_bool : mg "bool" = none
  m_str : mg "str" = none
  m_list : mg "list" = none
  m_tuple : mg "tuple" = none
  m_dict : mg "dict" = none
  m_abs : mg "abs" = none
  m_max : mg "max" = none
  m_sum : mg "sum" = none
  m_sorted : mg "sorted" = none
  m_all : mg "all" = none
  m_NotImplemented : mg "NotImplemented" = none
  m_ZeroDivisionError : mg "ZeroDivisionError" = none
  m_gcd : mg "gcd" = some (.builtin "math.gcd")
  c_LETTERS : ∃ t, mg "LETTERS" = some (.str "abcdefghijklmnopqrstuvwxyz" t)
  c_QUANTITY_SIGNS : ∃ t, mg "QUANTITY_SIGNS" = some (.str "abcdefghijklmnopqrstuvwxyz.0123456789" t)
  c_LONGEST_QUANTITY : ∃ t, mg "LONGEST_QUANTITY" = some (.int (12) t)
local macro_rules | `(tactic| walk_at "st") => `(tactic| first
  | (with_reducible refine r_seq ?_)
  | (with_reducible refine r_asg ?_)
  | (with_reducible refine r_ifS ?_)
  | (with_reducible refine r_ret ?_)
  | (with_reducible refine r_next ?_)
  | (with_reducible refine r_drop ?_)
  | (with_reducible refine r_retN ?_)
  | (with_reducible refine r_cont ?_)
  | (with_reducible refine r_break ?_)
  | (with_reducible refine r_op ?_)
  | (with_reducible refine r_un ?_)
  | ((with_reducible refine' r_var ?h1 ?_); (case h1 => exact rfl))
  | (with_reducible refine r_c ?_)
  | (with_reducible refine r_I0 ?_)
  | (with_reducible refine r_eqI ?_)
  | (with_reducible refine r_neI ?_)
  | (with_reducible refine r_eqS ?_)
  | (with_reducible refine r_neS ?_)
  | (with_reducible refine r_eqB ?_)
  | (with_reducible refine r_neB ?_)
  | (with_reducible refine r_U ?_)
  | (with_reducible refine r_test ?_)
  | (with_reducible refine r_tB ?_)
  | (with_reducible refine r_bl ?_)
  | (with_reducible refine r_and ?_)
  | (with_reducible refine r_or ?_)
  | (with_reducible refine r_not ?_)
  | (with_reducible refine r_andV ?_)
  | (with_reducible refine r_orV ?_)
  | (with_reducible refine r_notV ?_)
  | (with_reducible refine r_if ?_)
  | (with_reducible refine r_chain ?_)
  | (with_reducible refine r_gName0 ?_)
  | (with_reducible refine r_gName1 ?_)
  | (with_reducible refine r_gName2 ?_)
  | (with_reducible refine r_gName3 ?_)
  | (with_reducible refine r_gName4 ?_)
  | (with_reducible refine r_gName5 ?_)
  | (with_reducible refine r_gName6 ?_)
  | (with_reducible refine r_gName7 ?_)
  | (with_reducible refine r_gName8 ?_)
  | (with_reducible refine r_gName9 ?_)
  | (with_reducible refine r_gName10 ?_)
  | (with_reducible refine r_gName11 ?_)
  | (with_reducible refine r_gName12 ?_)
  | (with_reducible refine r_gName13 ?_)
  | (with_reducible refine r_gName14 ?_)
  | (with_reducible refine r_gName15 ?_)
  | (with_reducible refine r_gName16 ?_)
  | (with_reducible refine r_gName17 ?_)
  | (with_reducible refine r_gName18 ?_)
  | (with_reducible refine r_gName19 ?_)
  | (with_reducible refine r_cb ?_)
  | (with_reducible refine r_cons ?_)
  | (with_reducible refine r_nil ?_)
  | ((with_reducible refine r_call ?_); try simp only [List.cons_append, List.nil_append])
  | ((with_reducible refine r_callSD ?_); try simp only [List.cons_append, List.nil_append])
  | (with_reducible refine r_gSub ?_)
  | (with_reducible refine r_sl ?_)
  | (with_reducible refine r_lst ?_)
  | (with_reducible refine r_tup ?_)
  | (with_reducible refine r_int1 ?_)
  | (with_reducible refine r_intB ?_)
  | ((with_reducible refine r_in1 ?_); try simp only [abs_if])
  | ((with_reducible refine r_in2 ?_); try simp only [max_if])
  | (with_reducible refine r_forR1 ?_)
  | (with_reducible refine r_forR2 ?_)
  | (with_reducible refine r_forL ?_)
  | (with_reducible refine r_forT ?_)
  | (with_reducible refine r_lcR1 ?_)
  | (with_reducible refine r_lcL ?_)
  | (with_reducible refine r_lcT ?_)
  | (with_reducible refine r_yes ?_)
  | (with_reducible refine r_tPart ?_)
  | (with_reducible refine r_noPart ?_)
  | (with_reducible refine r_exI ?_)
  | (with_reducible refine r_par ?_)
  | (with_reducible refine Er.r_raise1 ?_)
  | (with_reducible refine r_isN ?_)
  | (with_reducible refine r_isI ?_)
  | (with_reducible refine r_isR ?_)
  | (with_reducible refine r_isS ?_)
  | (with_reducible refine r_noN ?_)
  | (with_reducible refine r_noI ?_)
  | (with_reducible refine r_noR ?_)
  | (with_reducible refine r_noS ?_)
  | (with_reducible refine r_isB ?_)
  | (with_reducible refine r_noB ?_)
  | (with_reducible refine r_iteTT ?_)
  | (with_reducible refine r_iteFF ?_)
  | (with_reducible refine Er.r_xf ?_)
  | (with_reducible refine r_bm ?_)
  | ((with_reducible refine' r_tyL ?h1 ?_); (case h1 => walk_at "sq"))
  | ((with_reducible refine' r_app ?h1 ?h2 ?_); (case h1 => walk_at "hp"); (case h2 => exact lt_size (by simp only [List.length_map, List.length_append, List.length_cons, List.length_nil]; omega)))
  | (with_reducible refine r_exP ?_)
  | (with_reducible refine r_iteT rfl ?_)
  | (with_reducible refine r_iteNF rfl ?_)
  | ((with_reducible refine' r_ixL ?h1 ?h2 ?_); (case h1 => walk_at "sq"); (case h2 => walk_at "at"))
  | ((with_reducible refine' r_ixT ?h1 ?h2 ?_); (case h1 => walk_at "sq"); (case h2 => walk_at "at"))
  | (with_reducible refine r_lenL (sqL_of (by assumption)) ?_)
  | (with_reducible refine r_lenT (sqT_of (by assumption)) ?_)
  | ((with_reducible refine' r_lenL ?h1 ?_); (case h1 => walk_at "sq"))
  | ((with_reducible refine' r_lenT ?h1 ?_); (case h1 => walk_at "sq"))
  | ((with_reducible refine' r_setP0 ?h1 ?_); (case h1 => walk_at "hp"); try simp only [upd_upd])
  | ((with_reducible refine' r_setP1 ?h1 ?_); (case h1 => walk_at "hp"); try simp only [upd_upd])
  | ((with_reducible refine' r_setP2 ?h1 ?_); (case h1 => walk_at "hp"); try simp only [upd_upd])
  | ((with_reducible refine' r_setP3 ?h1 ?_); (case h1 => walk_at "hp"); try simp only [upd_upd])
  | ((with_reducible refine' r_setL ?h1 ?h2 ?_); (case h1 => walk_at "hp"); (case h2 => walk_at "ix"))
  | ((with_reducible refine r_I ?h1 ?_); (case h1 => walk_at "side"); try simp only [Int.reduceToNat, Int.reducePow])
  | ((with_reducible refine r_iteT ?h1 ?_); (case h1 => walk_at "dec"))
  | ((with_reducible refine r_iteF ?h1 ?_); (case h1 => walk_at "dec"))
  | ((with_reducible refine r_iteNT ?h1 ?_); (case h1 => walk_at "dec"))
  | ((with_reducible refine r_iteNF ?h1 ?_); (case h1 => walk_at "dec"))
  | ((with_reducible refine' r_gNameW ?h1 ?_); (case h1 => (simp only [L2.wipe, List.map_cons, List.map_nil, List.set_cons_zero, List.set_cons_succ]; try exact rfl)))
  | ((with_reducible refine r_wipe ?h1 ?_); (case h1 => rfl))
  | (with_reducible refine iteT ?_)
  | (with_reducible refine r_iteNT1 ?_)
  | (with_reducible refine r_iteNF1 ?_)
  | (with_reducible refine r_gcd ?_)
  | ((with_reducible refine' r_isi ?h1 ?h2 ?_); (case h1 => first | exact .base (.int _) | exact .base (.bl _) | exact .base (.str _) | exact .base .non | exact .base (.tup (by walk_at "hp")) | exact .base (.lst (by walk_at "hp")) | exact .base (.dK (by walk_at "hp"))); (case h2 => first | (with_reducible exact kit_ii) | (with_reducible exact kit_ib) | (with_reducible exact kit_tt) | (with_reducible exact kit_ss) | (with_reducible exact kit_ll) | (with_reducible exact kit_bb) | (with_reducible exact kit_bi) | (with_reducible exact kit_dd) | (with_reducible exact kit_nt) | (with_reducible exact kit_ni) | (with_reducible exact kit_is) | (with_reducible exact kit_si) | (with_reducible exact kit_it)))
  | (with_reducible refine iteF ?_)
  | ((with_reducible refine And.intro ?h1 ?_); (case h1 => exact le_size (by simp only [List.length_cons, List.length_nil]; omega)))
  | (with_reducible refine r_nxE ?_)
  | (with_reducible refine r_bkE ?_)
  | (with_reducible refine r_ctE ?_)
  | (with_reducible refine r_rtE ?_))
local macro_rules | `(tactic| walk_at "sts") => `(tactic| repeat walk_at "st")
local macro_rules | `(tactic| walk_at "hp") => `(tactic| first | assumption | exact upd_same | (rw [upd_ne (by walk_at "ne")]; walk_at "hp") | exact Keep.out (by assumption) (by walk_at "nin") (by walk_at "hp"))
local macro_rules | `(tactic| walk_at "nin") => `(tactic| (simp only [List.mem_cons, List.not_mem_nil, or_false, not_false_eq_true]; first | done | walk_at "ne"))
local macro_rules | `(tactic| walk_at "ne") => `(tactic| first | assumption | (apply Ne.symm; assumption) | exact ne_free (by assumption) (by assumption) | exact (ne_free (by assumption) (by assumption)).symm)
local macro_rules | `(tactic| walk_at "sq") => `(tactic| first | assumption | exact sqL_of (by walk_at "hp") | exact sqT_of (by walk_at "hp") | exact Keep.l (by assumption) (by walk_at "nin") (by walk_at "sq") | exact Keep.t (by assumption) (by walk_at "nin") (by walk_at "sq"))
local macro_rules | `(tactic| walk_at "at") => `(tactic| first
  | exact atI_nat (j := 0) rfl | exact atI_nat (j := 1) rfl | exact atI_nat (j := 2) rfl | exact atI_nat (j := 3) rfl | exact atI_nat (j := 4) rfl | exact atI_nat (j := 5) rfl
  | (refine atI_map ?_ ?_ <;> omega) | assumption)
local macro_rules | `(tactic| walk_at "ix") => `(tactic| first | exact ixN_of (by decide) (by simp; omega) | exact ixN_of (by omega) (by simp; omega))
local macro_rules | `(tactic| walk_at "side") => `(tactic| first | omega | decide | exact .inl (by omega) | exact .inr (by omega) | exact ⟨by omega, by omega⟩ | exact .inl (.inl (by omega)) | exact .inl (.inr (by omega)) | (exact ⟨by decide, by decide, by decide⟩) | (exact ⟨by omega, by decide⟩))
local macro_rules | `(tactic| walk_at "start") => `(tactic| simp only [start_cc, start_cn, start_nn, cxOf_K])
local macro_rules | `(tactic| walk_at "dec") => `(tactic| first | omega | (simp only [List.length_cons, List.length_nil, List.length_map, List.length_append]; omega))
local macro_rules | `(tactic| walk_at "st") => `(tactic| first
  | (with_reducible refine Ow.r_fld ?_)
  | ((with_reducible refine' Ow.r_fldAt ?h1 ?h2 ?h3 ?h4 ?_); (case h1 => walk_at "hp"); (case h2 => exact Ow.OC.cl (by assumption)); (case h3 => assumption); (case h4 => rfl))
  | (with_reducible refine Ow.r_len_str ?_))
local macro_rules | `(tactic| walk_at "st") => `(tactic| first
  | (with_reducible refine r_inSg ?_)
  | (with_reducible refine r_ninSg ?_)
  | (with_reducible refine r_dnew ?_)
  | (with_reducible refine r_dget ?_)
  | (with_reducible refine r_dget2 ?_)
  | (with_reducible refine r_dput ?_)
  | (with_reducible refine r_din ?_)
  | (with_reducible refine r_dnin ?_)
  | (with_reducible refine r_strS ?_)
  | (with_reducible refine r_lcS ?_)
  | ((with_reducible refine' r_isD ?h1 ?_); (case h1 => walk_at "hp"))
  | ((with_reducible refine' r_dgetO ?h1 ?_); (case h1 => walk_at "hp"))
  | ((with_reducible refine' r_gTup2 ?h1 ?_); (case h1 => walk_at "sq"); try simp only [List.set_cons_zero, List.set_cons_succ]))
local macro_rules | `(tactic| walk_at "st") => `(tactic| first
  | (with_reducible refine r_js ?_)
  | (with_reducible refine r_js0 ?_)
  | (with_reducible refine r_fmt ?_))
local macro_rules | `(tactic| walk_at "st") => `(tactic| first
  | (with_reducible refine Ow.r_sfld ?_)
  | ((with_reducible refine' Ow.r_sfldAt ?h1 ?h2 ?h3 ?h4 ?_); (case h1 => walk_at "hp"); (case h2 => exact Ow.OC.cl (by assumption)); (case h3 => assumption); (case h4 => (simp only [List.length_cons, List.length_nil]; omega)))
  | ((with_reducible refine Ow.r_make ?_); try simp only [List.cons_append, List.nil_append])
  | ((with_reducible refine Ow.r_meth ?_); skip)
  | ((with_reducible refine' Ow.r_methAt ?h1 ?h2 ?_); (case h1 => walk_at "hp"); (case h2 => rfl); try simp only [List.cons_append, List.nil_append]))
section
variable {P : Program} {w : World} {K : PySem.W.Frag} {mg : Str → Option Value} {base : Heap}
theorem ok_take (T : Tx K mg) : FnOk P w K mg base CX0 1 T.f_w_take T.fd_w_take ["_law_pot_here", "_law_size"] spTake := by
  refine T.F_w_take.ok sc_w_take (fun vs H Q E h => ?_) (fun cdv A outer s H vs Q E hr h => ?_)
  · obtain ⟨a, n, rfl, _⟩ := h; rfl
  · obtain ⟨a, n, rfl, ⟨P0, hP, pos, car, cnt, mix, sc, rfl, h4, hcar, hm0, hm1, hsc⟩, hn0, hn1, q⟩ := h
    refine ⟨_, (pss_cons (ps_asg (pe_op op_add (pe_ix ix_list (pv 0) pe_int (fun _ _ => rfl)) pe_int) (pg_sub (pv 0) pe_int set_list))
    (Evl.pss_cut (ps_if (PW.pt (pw_and (pt_cmpR op_eq (pe_ix ix_list (pv 0) pe_int (fun _ _ => rfl)) pe_int (nomark _)) (pw_and1 (pt_cmpR op_lt (pe_ix ix_list (pv 0) pe_int (fun _ _ => rfl)) (pe_callB call_len_seq (by rfl) T.m_len PySem.boot_len (pa_cons (pv 0) pa_nil)) (nomark _)))))
    (pss_cons (ps_set (i := 2) sc_w_take.nd rfl (Or.inl rfl) (pe_callTy call_int1 (by rfl) T.m_int (by decide +kernel) (pa_cons (pe_ix ix_list (pv 0) (pe_ix ix_list (pv 0) pe_int (fun _ _ => rfl)) (fun _ _ => rfl)) pa_nil)))
    (pss_cons (ps_asg (pe_op op_add (pe_ix ix_list (pv 0) pe_int (fun _ _ => rfl)) pe_int) (pg_sub (pv 0) pe_int set_list))
    (pss_one (ps_if (pt_cmpR op_ge (pv 2) (pe_op op_pow pe_int pe_int) (nomark _))
    (pss_one (ps_asg (pe_op op_sub (pv 2) (pe_op op_pow pe_int pe_int)) (pg_sub (pv 0) pe_int set_list)))
    (pss_one (ps_asg (pe_op op_mod (pe_callTy call_int1 (by rfl) T.m_int (by decide +kernel) (pa_cons (pe_op op_add (pe_op op_add (pe_op op_mul (pe_ix ix_list (pv 0) pe_int (fun _ _ => rfl)) pe_int) (pe_op op_mul (pv 2) pe_int)) pe_int) pa_nil)) pe_int) (pg_sub (pv 0) pe_int set_list)))))))
    pss_nil)
    (pss_cons (ps_if (pt_cmpR op_gt (pe_ix ix_list (pv 0) pe_int (fun _ _ => rfl)) pe_int (nomark _))
    (pss_cons (ps_set (i := 2) sc_w_take.nd rfl (Or.inl rfl) (pe_callTy call_int1 (by rfl) T.m_int (by decide +kernel) (pa_cons (pe_ix ix_list (pv 0) pe_int (fun _ _ => rfl)) pa_nil)))
    (pss_cons (ps_asg (pe_op op_fdivWN (pv 2) (pv 1)) (pg_sub (pv 0) pe_int set_list))
    (pss_one (ps_ret (pe_op op_mod (pe_callTy call_int1 (by rfl) T.m_int (by decide +kernel) (pa_cons (pv 2) pa_nil)) (pv 1))))))
    pss_nil)
    (pss_cons (ps_set (i := 3) sc_w_take.nd rfl (Or.inl rfl) (pe_op op_mod (pe_callTy call_int1 (by rfl) T.m_int (by decide +kernel) (pa_cons (pe_op op_mulG (pe_ix ix_list (pv 0) pe_int (fun _ _ => rfl)) (pe_op op_add (pe_op op_mul (pe_ix ix_list (pv 0) pe_int (fun _ _ => rfl)) pe_int) pe_int)) pa_nil)) pe_int))
    (pss_cons (ps_set (i := 3) sc_w_take.nd rfl (Or.inl rfl) (pe_op op_mod (pe_callTy call_int1 (by rfl) T.m_int (by decide +kernel) (pa_cons (pe_op op_mulG (pv 3) (pe_op op_add (pe_op op_add (pv 3) (pe_op op_mul (pe_ix ix_list (pv 0) pe_int (fun _ _ => rfl)) pe_int)) pe_int)) pa_nil)) pe_int))
    (pss_one (ps_ret (pe_op op_mod (pe_callTy call_int1 (by rfl) T.m_int (by decide +kernel) (pa_cons (pe_op op_add (pe_op op_fdiv (pv 3) pe_int) (pe_ix ix_list (pv 0) pe_int (fun _ _ => rfl))) pa_nil)) (pv 1))))))))), ?_⟩
    walk_at "start"
    walk_at "sts"
    refine r_cut (fun σ' H' => ∃ (pos car cnt mix : Int) (x : Option V), σ' = [some (.ref a), some (.int n), x, none] ∧ H' = upd H a (.lst (V.int pos :: V.int car :: V.int cnt :: V.int mix :: sc.map V.int)) ∧ 4 ≤ pos ∧ 0 ≤ car ∧ 0 ≤ mix ∧ mix < 2147483647) ?_ ?_
    · walk_at "sts"
      refine r_ite (fun c1 => ?_) (fun c1 => ?_)
      · walk_at "sts"
        refine r_ite (fun c2 => ?_) (fun c2 => ?_)
        · walk_at "sts"
          simp only [List.length_cons, List.length_map] at c2
          refine r_ixL (sqL_of upd_same) (pot_at h4 (by omega)) ?_
          walk_at "sts"
          refine r_ite (fun c3 => ?_) (fun c3 => ?_)
          · walk_at "sts"
            exact ⟨_, _, _, _, _, rfl, rfl, by omega, by omega, hm0, hm1⟩
          · walk_at "sts"
            exact ⟨_, _, _, _, _, rfl, rfl, by omega, by omega, Int.emod_nonneg _ (by decide), Int.emod_lt_of_pos _ (by decide)⟩
        · walk_at "sts"
          exact ⟨_, _, _, _, _, rfl, rfl, h4, hcar, hm0, hm1⟩
      · walk_at "sts"
        exact ⟨_, _, _, _, _, rfl, rfl, h4, hcar, hm0, hm1⟩
    · rintro σ' H' ⟨pos, car, cnt, mix, x, rfl, rfl, h4, hcar, hm0, hm1⟩
      walk_at "sts"
      refine r_ite (fun c1 => ?_) (fun c1 => ?_)
      · walk_at "sts"
        refine r_I ⟨by omega, log_ok 200 (by omega)⟩ ?_
        walk_at "sts"
        exact q _ _ (Int.emod_nonneg _ (by omega)) (Int.emod_lt_of_pos _ hn0) (Keep.at (by simp)) ⟨_, upd_same, pos, _, cnt, mix, sc, rfl, h4, Int.fdiv_nonneg (by omega) (by omega), hm0, hm1, hsc⟩
      · walk_at "sts"
        exact q _ _ (Int.emod_nonneg _ (by omega)) (Int.emod_lt_of_pos _ hn0) (Keep.at (by simp)) ⟨_, upd_same, pos, car, cnt, mix, sc, rfl, h4, hcar, hm0, hm1, hsc⟩
theorem ok_pot (T : Tx K mg) : FnOk P w K mg base CX0 1 T.f_w_pot T.fd_w_pot ["_law_script"] (spPot K) := by
  refine T.F_w_pot.ok sc_w_pot (fun vs H Q E h => ?_) (fun cdv A outer s H vs Q E hr h => ?_)
  · obtain ⟨a, ns, rfl, _⟩ := h; rfl
  · obtain ⟨a, ns, rfl, hs, hl, q⟩ := h
    refine ⟨_, (pss_one (ps_ret (pe_op op_cat (pe_lst (pa_cons pe_int (pa_cons pe_int (pa_cons pe_int (pa_cons pe_int pa_nil))))) (pe_callTy call_list_of (by rfl) T.m_list (by decide +kernel) (pa_cons (pe_slice sl_list (pv 0) po_none (po_some pe_int)) pa_nil))))), ?_⟩
    walk_at "start"
    walk_at "sts"
    intro p hp
    walk_at "sts"
    refine r_slL (Keep.l (Keep.new (M := []) hp) (by simp) hs) (fun p2 hp2 => ?_)
    walk_at "sts"
    intro p3 hp3
    have n2 : p ≠ p2 := ne_of_none (o := .lst [.int 4, .int 0, .int 0, .int 0]) upd_same hp2
    have n3 : p ≠ p3 := by
      refine ne_of_none (o := .lst [.int 4, .int 0, .int 0, .int 0]) ?_ hp3
      rw [upd_ne n2]; exact upd_same
    have e : cutV (ns.map V.int) none (some 63) = ns.map V.int := by
      unfold cutV
      rw [show HT.sIx (ns.map V.int).length (ns.map V.int).length (some 63) = min 63 (ns.map V.int).length from HT.sIx_nat _ _ 63, HT.sIx_none, List.length_map, Nat.min_eq_right hl, Nat.sub_zero, List.drop_zero]
      exact List.take_of_length_le (by rw [List.length_map]; exact Nat.le_refl _)
    refine r_cat (by rw [upd_ne n3, upd_ne n2]; exact upd_same) upd_same (le_size (by rw [e, List.length_map]; simp only [List.length_cons, List.length_nil]; omega)) (fun p4 hp4 => ?_)
    have k3 : Keep [] H (upd (upd (upd H p (.lst [.int 4, .int 0, .int 0, .int 0])) p2 (.lst (cutV (ns.map V.int) none (some 63)))) p3 (.lst (cutV (ns.map V.int) none (some 63)))) := ((Keep.new hp).trans (Keep.new hp2)).trans (Keep.new hp3)
    refine q p4 _ (k3.trans (Keep.new hp4)) (k3.free (by simp) hp4) ⟨_, upd_same, 4, 0, 0, 0, ns, ?_, by decide, by decide, by decide, by decide, hl⟩
    rw [e]; rfl
theorem ok_ratio (T : Tx K mg) : FnOk P w K mg base CX0 1 T.f_ratio T.fd_ratio ["top", "bottom"] spLow := by
  refine T.F_ratio.ok sc_ratio (fun vs H Q E h => ?_) (fun cdv A outer s H vs Q E hr h => ?_)
  · obtain ⟨a, b, rfl, _⟩ := h; rfl
  · obtain ⟨t, b, rfl, hb, hz, q⟩ := h
    refine ⟨_, PSs.nox (pss_cons (ps_if (pt_cmpR op_eq (pv 1) pe_int (nomark _))
    (pss_one ps_never)
    pss_nil)
    (pss_cons (ps_set (i := 2) sc_ratio.nd rfl (Or.inl rfl) (pe_callBfun cr_gcd rfl T.m_gcd (pa_cons (pv 0) (pa_cons (pv 1) pa_nil))))
    (pss_cons (ps_if (pt_cmpR op_lt (pv 1) pe_int (nomark _))
    (pss_one (ps_set (i := 2) sc_ratio.nd rfl (Or.inl rfl) (pe_un un_neg (pv 2))))
    pss_nil)
    (pss_one (ps_ret (pe_tup (pa_cons (pe_op op_fdivWN (pv 0) (pv 2)) (pa_cons (pe_op op_fdivWN (pv 1) (pv 2)) pa_nil)))))))), ?_⟩
    walk_at "start"
    walk_at "sts"
    have hl : (dv t b).natAbs.log2 < 9000 := log_ok 8000 (by rw [dv_abs]; exact Nat.lt_of_le_of_lt (gcd_le hb) hz)
    have hn := dv_ne (t := t) hb
    refine r_ite (fun c => ?_) (fun c => ?_)
    · have e : dv t b = -((Nat.gcd t.natAbs b.natAbs : Nat) : Int) := by unfold dv; rw [if_pos c]
      rw [e] at hl hn
      walk_at "sts"
      intro p hp
      refine q p _ (Keep.new hp) hp ?_
      rw [upd_same]; unfold lowT lowB; rw [e]
    · have e : dv t b = ((Nat.gcd t.natAbs b.natAbs : Nat) : Int) := by unfold dv; rw [if_neg c]
      rw [e] at hl hn
      walk_at "sts"
      intro p hp
      refine q p _ (Keep.new hp) hp ?_
      rw [upd_same]; unfold lowT lowB; rw [e]
theorem ok_plus (T : Tx K mg) (G_ratio : FnOk P w K mg base CX0 1 T.f_ratio T.fd_ratio ["top", "bottom"] spLow) : FnOk P w K mg base CX0 2 T.f_plus T.fd_plus ["first", "second"] (spTwo fPlus) := by
  refine T.F_plus.ok sc_plus (fun vs H Q E h => ?_) (fun cdv A outer s H vs Q E hr h => ?_)
  · obtain ⟨p, q, a, b, c, d, rfl, _⟩ := h; rfl
  · obtain ⟨p, q, a, b, c, d, rfl, hp, hq, hb, hd, za, zb, zc, zd, k⟩ := h
    refine ⟨_, (pss_one (ps_ret (pe_call G_ratio (hr.mono (by decide)) rfl T.g_ratio T.F_ratio.kp T.b2_ratio.choose_spec.2 T.b2_ratio.choose_spec.1 pass0 (pa_cons (pe_op op_add (pe_op op_mulG (pe_ix ix_tup (pv 0) pe_int (fun _ _ => rfl)) (pe_ix ix_tup (pv 1) pe_int (fun _ _ => rfl))) (pe_op op_mulG (pe_ix ix_tup (pv 1) pe_int (fun _ _ => rfl)) (pe_ix ix_tup (pv 0) pe_int (fun _ _ => rfl)))) (pa_cons (pe_op op_mulG (pe_ix ix_tup (pv 0) pe_int (fun _ _ => rfl)) (pe_ix ix_tup (pv 1) pe_int (fun _ _ => rfl))) pa_nil))))), ?_⟩
    walk_at "start"
    walk_at "sts"
    refine r_I (mulw 9000 3000 za zd) ?_
    walk_at "sts"
    refine r_I (mulw 9000 3000 zc zb) ?_
    walk_at "sts"
    refine r_I (mulw 3000 3000 zb zd) ?_
    walk_at "sts"
    exact r_low (Int.mul_ne_zero hb hd) (pow_mono 6000 8000 (wide_lt zb zd)) k
theorem ok_times (T : Tx K mg) (G_ratio : FnOk P w K mg base CX0 1 T.f_ratio T.fd_ratio ["top", "bottom"] spLow) : FnOk P w K mg base CX0 2 T.f_times T.fd_times ["first", "second"] (spTwo fTimes) := by
  refine T.F_times.ok sc_times (fun vs H Q E h => ?_) (fun cdv A outer s H vs Q E hr h => ?_)
  · obtain ⟨p, q, a, b, c, d, rfl, _⟩ := h; rfl
  · obtain ⟨p, q, a, b, c, d, rfl, hp, hq, hb, hd, za, zb, zc, zd, k⟩ := h
    refine ⟨_, (pss_one (ps_ret (pe_call G_ratio (hr.mono (by decide)) rfl T.g_ratio T.F_ratio.kp T.b2_ratio.choose_spec.2 T.b2_ratio.choose_spec.1 pass0 (pa_cons (pe_op op_mulG (pe_ix ix_tup (pv 0) pe_int (fun _ _ => rfl)) (pe_ix ix_tup (pv 1) pe_int (fun _ _ => rfl))) (pa_cons (pe_op op_mulG (pe_ix ix_tup (pv 0) pe_int (fun _ _ => rfl)) (pe_ix ix_tup (pv 1) pe_int (fun _ _ => rfl))) pa_nil))))), ?_⟩
    walk_at "start"
    walk_at "sts"
    refine r_I (mulw 9000 9000 za zc) ?_
    walk_at "sts"
    refine r_I (mulw 3000 3000 zb zd) ?_
    walk_at "sts"
    exact r_low (Int.mul_ne_zero hb hd) (pow_mono 6000 8000 (wide_lt zb zd)) k
theorem ok_whole (T : Tx K mg) : FnOk P w K mg base CX0 1 T.f_w_whole T.fd_w_whole ["_law_found"] spWhole := by
  refine T.F_w_whole.ok sc_w_whole (fun vs H Q E h => ?_) (fun cdv A outer s H vs Q E hr h => ?_)
  · obtain ⟨i, rfl, _⟩ := h; rfl
  · obtain ⟨i, rfl, k⟩ := h
    refine ⟨_, (pss_one (ps_ret (pe_and (pe_callB call_isi (by rfl) T.m_isinstance (by decide +kernel) (pa_cons (pv 0) (pa_cons (pe_bltn (v := .ty "int") (by rfl) T.m_int (by decide +kernel) rfl) pa_nil))) (pe_one (pe_not (pe_callB call_isi (by rfl) T.m_isinstance (by decide +kernel) (pa_cons (pv 0) (pa_cons (pe_bltn (v := .ty "bool") (by rfl) T.m_bool (by decide +kernel) rfl) pa_nil)))))))), ?_⟩
    walk_at "start"
    walk_at "sts"
    exact k
theorem ok_pairIs (T : Tx K mg) (G_w_whole : FnOk P w K mg base CX0 1 T.f_w_whole T.fd_w_whole ["_law_found"] spWhole) : FnOk P w K mg base CX0 2 T.f_w_pair_is T.fd_w_pair_is ["_law_found", "_law_pair"] spPairIs := by
  refine T.F_w_pair_is.ok sc_w_pair_is (fun vs H Q E h => ?_) (fun cdv A outer s H vs Q E hr h => ?_)
  · obtain ⟨p, q, a, b, rfl, _⟩ := h; rfl
  · obtain ⟨p, q, a, b, rfl, hp, hq, k⟩ := h
    refine ⟨_, (pss_cons (ps_if (PW.pt (pw_or (pt_not (pt_val (pe_callB call_isi (by rfl) T.m_isinstance (by decide +kernel) (pa_cons (pv 0) (pa_cons (pe_bltn (v := .ty "tuple") (by rfl) T.m_tuple (by decide +kernel) rfl) pa_nil))))) (pw_or1 (pt_cmpR op_ne (pe_callB call_len_seq (by rfl) T.m_len PySem.boot_len (pa_cons (pv 0) pa_nil)) pe_int (nomark _)))))
    (pss_one (ps_ret pe_bl))
    pss_nil)
    (pss_cons (ps_if (PW.pt (pw_or (pt_not (pt_val (pe_call G_w_whole (hr.mono (by decide)) rfl T.g_w_whole T.F_w_whole.kp T.b_w_whole .nil pass0 (pa_cons (pe_ix ix_tup (pv 0) pe_int (fun _ _ => rfl)) pa_nil)))) (pw_or1 (pt_not (pt_val (pe_call G_w_whole (hr.mono (by decide)) rfl T.g_w_whole T.F_w_whole.kp T.b_w_whole .nil pass0 (pa_cons (pe_ix ix_tup (pv 0) pe_int (fun _ _ => rfl)) pa_nil)))))))
    (pss_one (ps_ret pe_bl))
    pss_nil)
    (pss_one (ps_ret (pe_and (pe_cmpR op_eq (pe_ix ix_tup (pv 0) pe_int (fun _ _ => rfl)) (pe_ix ix_tup (pv 1) pe_int (fun _ _ => rfl)) (nomark _)) (pe_one (pe_cmpR op_eq (pe_ix ix_tup (pv 0) pe_int (fun _ _ => rfl)) (pe_ix ix_tup (pv 1) pe_int (fun _ _ => rfl)) (nomark _)))))))), ?_⟩
    walk_at "start"
    walk_at "sts"
    refine r_whole ?_
    walk_at "sts"
    refine r_whole ?_
    walk_at "sts"
    rw [decide_eq_true rfl]
    exact k
theorem ok_lowest (T : Tx K mg) : FnOk P w K mg base CX0 1 T.f_w_lowest T.fd_w_lowest ["_law_top", "_law_bottom"] spLow0 := by
  refine T.F_w_lowest.ok sc_w_lowest (fun vs H Q E h => ?_) (fun cdv A outer s H vs Q E hr h => ?_)
  · obtain ⟨a, b, rfl, _⟩ := h; rfl
  · obtain ⟨t, b, rfl, hb, hz, q⟩ := h
    refine ⟨_, (pss_cons (ps_set (i := 2) sc_w_lowest.nd rfl (Or.inl rfl) (pe_callB call_abs (by rfl) T.m_abs (by decide +kernel) (pa_cons (pv 0) pa_nil)))
    (pss_cons (ps_set (i := 3) sc_w_lowest.nd rfl (Or.inl rfl) (pv 1))
    (pss_cons (ps_while PassesOwn.never (pt_cmpR op_gt (pv 3) pe_int (nomark _))
    (pss_cons (ps_set (i := 4) sc_w_lowest.nd rfl (Or.inl rfl) (pe_op op_mod (pe_callTy call_int1 (by rfl) T.m_int (by decide +kernel) (pa_cons (pv 2) pa_nil)) (pv 3)))
    (pss_cons (ps_set (i := 2) sc_w_lowest.nd rfl (Or.inl rfl) (pv 3))
    (pss_one (ps_set (i := 3) sc_w_lowest.nd rfl (Or.inl rfl) (pv 4))))))
    (pss_one (ps_ret (pe_tup (pa_cons (pe_op op_fdivWN (pv 0) (pv 2)) (pa_cons (pe_op op_fdivWN (pv 1) (pv 2)) pa_nil)))))))), ?_⟩
    walk_at "start"
    walk_at "sts"
    refine r_while (fun m σ' H' => ∃ (x y : Int) (z : Option V), σ' = [some (.int t), some (.int b), some (.int x), some (.int y), z] ∧ H' = H ∧ 0 ≤ x ∧ 0 ≤ y ∧ m = y.toNat ∧ Nat.gcd x.natAbs y.natAbs = Nat.gcd t.natAbs b.natAbs) (m0 := b.toNat) ⟨_, _, _, rfl, rfl, by omega, by omega, rfl, by rw [Int.natAbs_natCast]⟩ ?_
    rintro m σ' H' ⟨x, y, z, rfl, rfl, hx, hy, rfl, hg⟩
    walk_at "sts"
    refine r_ite (fun c => ?_) (fun c => ?_)
    · refine r_turn ?_
      walk_at "sts"
      have h1 := Int.emod_nonneg x (show y ≠ 0 by omega)
      have h2 := Int.emod_lt_of_pos x c
      refine ⟨(x % y).toNat, by omega, y, x % y, _, rfl, rfl, by omega, h1, rfl, ?_⟩
      rw [← hg, Nat.gcd_comm y.natAbs, Int.natAbs_emod_of_nonneg hx, ← Nat.gcd_rec, Nat.gcd_comm]
    · have hy0 : y = 0 := by omega
      subst hy0
      rw [Int.natAbs_zero, Nat.gcd_zero_right] at hg
      have e : dv t b = x := by unfold dv; rw [if_neg (by omega), ← hg]; omega
      have hn : x ≠ 0 := by rw [← e]; exact dv_ne (by omega)
      have hl : x.natAbs.log2 < 9000 := log_ok 8000 (by rw [hg]; exact Nat.lt_of_le_of_lt (gcd_le (by omega)) hz)
      walk_at "sts"
      intro p hp
      refine q p _ (Keep.new hp) hp ?_
      rw [upd_same]; unfold lowT lowB; rw [e]
end
/-! ### names -/
def lettersL : List Nat := ("abcdefghijklmnopqrstuvwxyz" : Str).cps.toList
def signsL : List Nat := ("abcdefghijklmnopqrstuvwxyz.0123456789" : Str).cps.toList
/-- a quantity -/
structure IsQ (s : Str) : Prop where
  len : s.length ≤ 12
  hd : ∃ c, s.cps.toList[0]? = some c ∧ c ∈ lettersL
  la : ∃ c, s.cps.toList.getLast? = some c ∧ c ≠ 46
  al : ∀ c ∈ s.cps.toList, c ∈ signsL
theorem atI_m1 {α : Type} {xs : List α} {c : α} (h : xs.getLast? = some c) : atI xs (-1) = some c := by
  have hne : xs ≠ [] := by rintro rfl; simp at h
  have hl : 0 < xs.length := List.length_pos_iff.mpr hne
  unfold atI ixN
  rw [if_neg (by decide), if_pos (by omega)]
  show xs[(-1 + (xs.length : Int)).toNat]? = some c
  rw [show (-1 + (xs.length : Int)).toNat = xs.length - 1 by omega, ← List.getLast?_eq_getElem?]
  exact h
theorem IsQ.pos {s : Str} (h : IsQ s) : 1 ≤ s.length := by
  obtain ⟨c, hc, _⟩ := h.hd
  have := (List.getElem?_eq_some_iff.mp hc).1
  rw [Array.length_toList] at this
  exact this
theorem one_ne {c d : Nat} (h : c ≠ d) : (⟨#[c]⟩ : Str) ≠ ⟨#[d]⟩ := fun e => h (by simpa using congrArg Str.cps e)
def spIsQ : Sp := fun vs H Q _ => ∃ s : Str, vs = [.str s] ∧ IsQ s ∧ ∀ H', Keep [] H H' → Q (.bl true) H'
theorem r_isQ {Q : VK} {E : XK} {H : Hp} {s : Str} (h : IsQ s) (k : ∀ H', Keep [] H H' → Q (.bl true) H') : spIsQ [.str s] H Q E := ⟨s, rfl, h, k⟩
section
variable {P : Program} {w : World} {K : PySem.W.Frag} {mg : Str → Option Value} {base : Heap}
theorem ok_isQ (T : Tx K mg) : FnOk P w K mg base CX0 1 T.f_is_quantity T.fd_is_quantity ["text"] spIsQ := by
  refine T.F_is_quantity.ok sc_is_quantity (fun vs H Q E h => ?_) (fun cdv A outer s H vs Q E hr h => ?_)
  · obtain ⟨a, rfl, _⟩ := h; rfl
  · obtain ⟨t, rfl, hq, q⟩ := h
    have hp := hq.pos
    have hl := hq.len
    have hz : t.length ≤ sizeLine := le_size (by omega)
    obtain ⟨c0, hc0, hm0⟩ := hq.hd
    obtain ⟨c1, hc1, hm1⟩ := hq.la
    refine ⟨_, (pss_cons (ps_if (PW.pt (pw_or (pt_not (pt_val (pe_callB call_isi (by rfl) T.m_isinstance (by decide +kernel) (pa_cons (pv 0) (pa_cons (pe_bltn (v := .ty "str") (by rfl) T.m_str (by decide +kernel) rfl) pa_nil))))) (pw_or1 (pt_not (pt_chain op_le op_le pe_int (pe_callB call_len_str (by rfl) T.m_len PySem.boot_len (pa_cons (pv 0) pa_nil)) (pe_glob (v := .int (12)) rfl T.c_LONGEST_QUANTITY.choose_spec ⟨_, rfl⟩))))))
    (pss_one (ps_ret pe_bl))
    pss_nil)
    (pss_cons (ps_if (PW.pt (pw_or (pt_cmpR op_ninSg (pe_ix ix_str (pv 0) pe_int (fun _ _ => rfl)) (pe_glob (v := .str "abcdefghijklmnopqrstuvwxyz") rfl T.c_LETTERS.choose_spec ⟨_, rfl⟩) (by rfl)) (pw_or1 (pt_cmpR op_eq (pe_ix ix_str (pv 0) (pe_un un_neg pe_int) (fun _ _ => rfl)) pe_str (nomark _)))))
    (pss_one (ps_ret pe_bl))
    pss_nil)
    (pss_one (ps_ret (pe_callB (cr_all rfl) (by rfl) T.m_all (by decide +kernel) (pa_cons (pe_lc (own := [("sign", 1)]) (g := gName 1) (tt := tYes) rfl sc_is_quantity.nd (pi_str (pv 0)) (blkOk_by (own := [("sign", 1)]) (N := ["text", "sign"]) (sc := defScope s_is_quantity) (by decide +kernel)) (fun _ _ _ _ _ => pg_name (i := 1) sc_is_quantity.nd rfl (Or.inl rfl)) (fun _ _ _ _ _ => pts_nil) (fun _ _ _ _ _ => (pe_cmpR op_inSg (pv 1) (pe_glob (v := .str "abcdefghijklmnopqrstuvwxyz.0123456789") rfl T.c_QUANTITY_SIGNS.choose_spec ⟨_, rfl⟩) (by rfl)))) pa_nil)))))), ?_⟩
    walk_at "start"
    walk_at "sts"
    refine ⟨hz, ?_⟩
    walk_at "sts"
    refine r_ixS hz (atI_nat (j := 0) hc0) ?_
    walk_at "sts"
    refine r_iteNF (by exact hm0) ?_
    walk_at "sts"
    refine r_ixS hz (atI_m1 hc1) ?_
    walk_at "sts"
    refine r_iteF (one_ne hm1) ?_
    walk_at "sts"
    refine lcS_go (fun D i acc H' => acc = List.replicate i (V.bl true) ∧ Keep [] H H' ∧ H D = none) (fun D hD => ⟨rfl, Keep.new hD, hD⟩) ?_ ?_
    · rintro D i c acc H' hc hD ⟨rfl, hk, hn⟩
      have hc' : c ∈ signsL := hq.al c (Array.mem_toList_iff.mpr (Array.mem_of_getElem? hc))
      walk_at "sts"
      rw [show decide (c ∈ (Str.ofString "abcdefghijklmnopqrstuvwxyz.0123456789").cps.toList) = true from decide_eq_true hc']
      have h1 := (Array.getElem?_eq_some_iff.mp hc).1
      have h2 : t.cps.size = t.length := rfl
      exact lc_put hD (by rw [List.length_replicate]; exact lt_size (by omega)) ⟨by rw [← List.replicate_succ'], hk.mut hn, hn⟩
    · rintro D acc H' hD hD' ⟨rfl, hk, hn⟩
      walk_at "sts"
      refine r_all (bs := List.replicate t.cps.size true) (by rw [List.map_replicate]; exact sqL_of hD') ?_
      rw [show (List.replicate t.cps.size true).all id = true by simp]
      exact q _ hk
end
/-! ### the draws -/
/-- a name under way -/
structure PQ (n : Nat) (s : Str) : Prop where
  len : s.length = n
  hd : ∃ c, s.cps.toList[0]? = some c ∧ c ∈ lettersL
  al : ∀ c ∈ s.cps.toList, c ∈ signsL
def sgn1 (c : Nat) : Str := ⟨#[c]⟩
theorem letters_signs : ∀ c ∈ lettersL, c ∈ signsL := by decide +kernel
theorem PQ.one {c : Nat} (h : c ∈ lettersL) : PQ 1 (sgn1 c) := ⟨rfl, ⟨c, rfl, h⟩, fun d hd => by
  have : d = c := by simpa [sgn1] using hd
  rw [this]; exact letters_signs c h⟩
theorem tl_app (x y : Str) : (x ++ y).cps.toList = x.cps.toList ++ y.cps.toList := by show (x.cps ++ y.cps).toList = _; exact Array.toList_append
theorem len_tl (x : Str) : x.length = x.cps.toList.length := rfl
theorem len_app (x y : Str) : (x ++ y).length = x.length + y.length := by rw [len_tl, tl_app, List.length_append]; rfl
theorem PQ.snoc {n : Nat} {s : Str} {c : Nat} (h : PQ n s) (hc : c ∈ signsL) : PQ (n + 1) (s ++ sgn1 c) := by
  refine ⟨by rw [len_app, h.len]; rfl, ?_, fun d hd => ?_⟩
  · obtain ⟨d, hd, hm⟩ := h.hd
    refine ⟨d, ?_, hm⟩
    rw [tl_app, List.getElem?_append_left (List.getElem?_eq_some_iff.mp hd).1]; exact hd
  · rw [tl_app] at hd
    rcases List.mem_append.mp hd with hd | hd
    · exact h.al d hd
    · have : d = c := by simpa [sgn1] using hd
      rw [this]; exact hc
theorem PQ.pos {n : Nat} {s : Str} (h : PQ n s) : 1 ≤ n := by
  obtain ⟨c, hc, _⟩ := h.hd
  have := (List.getElem?_eq_some_iff.mp hc).1
  rw [← h.len, len_tl]; omega
theorem PQ.last {n : Nat} {s : Str} (h : PQ n s) : ∃ c, s.cps.toList.getLast? = some c := by
  have := h.pos
  have e : s.cps.toList ≠ [] := fun z => by have := h.len; rw [len_tl, z] at this; simp at this; omega
  exact ⟨_, List.getLast?_eq_some_getLast e⟩
theorem cut_m1 {s : Str} (h : 1 ≤ s.length) : (cutS s none (some (-1))).cps.toList = s.cps.toList.dropLast := by
  unfold cutS
  rw [HT.sIx_none, List.drop_zero, Nat.sub_zero]
  have : HT.sIx s.length s.length (some (-1)) = s.length - 1 := by
    unfold HT.sIx
    first
      | (simp; omega)
      | omega
  rw [this, List.dropLast_eq_take]; rfl
theorem cut_11 {s : Str} : (cutS s none (some 11)).cps.toList = s.cps.toList.take 11 := by
  unfold cutS
  rw [HT.sIx_none, List.drop_zero, Nat.sub_zero, show HT.sIx s.length s.length (some 11) = min 11 s.length from HT.sIx_nat _ _ 11]
  show s.cps.toList.take (min 11 s.length) = _
  rw [len_tl, List.take_eq_take_iff]; omega
/-- the last sign made another one -/
theorem PQ.fix {n : Nat} {s : Str} (h : PQ (n + 1) s) (hs : s.cps.toList.getLast? = some 46) : PQ (n + 1) (cutS s none (some (-1)) ++ sgn1 120) := by
  have e := cut_m1 (s := s) (by rw [h.len]; omega)
  obtain ⟨c, hc, hm⟩ := h.hd
  have hl : s.cps.toList.length = n + 1 := by rw [← len_tl]; exact h.len
  have hn : 0 < n := by
    rcases Nat.eq_zero_or_pos n with rfl | z
    · exfalso
      match hq : s.cps.toList, hl, hc, hs with
      | [d], _, hc, hs =>
        have h1 : d = c := by simpa using hc
        have h2 : d = 46 := by simpa using hs
        rw [← h1, h2] at hm
        exact absurd hm (by decide +kernel)
    · exact z
  refine ⟨by rw [len_app, len_tl, e, List.length_dropLast, hl]; rfl, ⟨c, ?_, hm⟩, fun d hd => ?_⟩
  · rw [tl_app, e, List.getElem?_append_left (by rw [List.length_dropLast, hl]; omega), List.getElem?_dropLast, if_pos (by rw [hl]; omega)]; exact hc
  · rw [tl_app, e] at hd
    rcases List.mem_append.mp hd with hd | hd
    · exact h.al d ((List.dropLast_sublist _).subset hd)
    · have : d = 120 := by simpa [sgn1] using hd
      rw [this]; decide +kernel
theorem PQ.isQ {n : Nat} {s : Str} {c : Nat} (h : PQ n s) (hn : n ≤ 12) (hc : s.cps.toList.getLast? = some c) (h46 : c ≠ 46) : IsQ s := ⟨by rw [h.len]; exact hn, h.hd, ⟨c, hc, h46⟩, h.al⟩
theorem last_snoc {s : Str} {c : Nat} : (s ++ sgn1 c).cps.toList.getLast? = some c := by rw [tl_app]; exact List.getLast?_concat
theorem IsQ.pq {s : Str} (h : IsQ s) : PQ s.length s := ⟨rfl, h.hd, h.al⟩
/-- cut to eleven signs, and one sign more -/
theorem IsQ.next {s : Str} {c : Nat} (h : IsQ s) (hc : c ∈ signsL) (h46 : c ≠ 46) : IsQ (cutS s none (some 11) ++ sgn1 c) := by
  have e := cut_11 (s := s)
  refine ⟨?_, ?_, ⟨c, last_snoc, h46⟩, fun d hd => ?_⟩
  · rw [len_app, len_tl, e, List.length_take]; have : (sgn1 c).length = 1 := rfl; omega
  · obtain ⟨d, hd, hm⟩ := h.hd
    have := (List.getElem?_eq_some_iff.mp hd).1
    refine ⟨d, ?_, hm⟩
    rw [tl_app, e, List.getElem?_append_left (by rw [List.length_take]; omega), List.getElem?_take, if_pos (by omega)]; exact hd
  · rw [tl_app, e] at hd
    rcases List.mem_append.mp hd with hd | hd
    · exact h.al d (List.mem_of_mem_take hd)
    · have : d = c := by simpa [sgn1] using hd
      rw [this]; exact hc
theorem inV_str {s : Str} : ∀ {xs : List Str}, inV (.str s) (xs.map V.str) = decide (s ∈ xs)
  | [] => rfl
  | x :: xs => by
    have ih := inV_str (s := s) (xs := xs)
    unfold inV at ih ⊢
    rw [List.map_cons, List.any_cons, ih]
    show (decide (x = s) || _) = _
    by_cases h : x = s
    · subst h; simp
    · have h' : ¬ s = x := fun e => h e.symm
      simp [h, h']
theorem flat_strs : ∀ xs : List Str, (xs.map V.str).all L2.flatV = true
  | [] => rfl
  | x :: xs => by rw [List.map_cons, List.all_cons, flat_strs xs]; rfl
theorem r_inT {K : PySem.W.Frag} {H : Hp} {Q : VK} {x : V} {p : Addr} {xs : List V} (h : SqT K H p xs) (fx : L2.flatV x = true) (fs : xs.all L2.flatV = true) (k : Q (.bl (inV x xs)) H) : rIn K false x (.ref p) H Q := ⟨p, xs, rfl, .inr h, fx, fs, by simpa using k⟩
theorem at_list {l : List Nat} {i : Int} (h0 : 0 ≤ i) (h1 : i < l.length) : ∃ c, atI l i = some c ∧ c ∈ l := by
  obtain ⟨n, rfl⟩ : ∃ n : Nat, i = n := ⟨i.toNat, by omega⟩
  have h2 : n < l.length := by omega
  exact ⟨l[n], atI_nat (List.getElem?_eq_getElem h2), List.getElem_mem h2⟩
def spName : Sp := fun vs H Q _ => ∃ (a : Addr) (sh : Int), vs = [.ref a, .int sh] ∧ PotAt a H ∧ 0 ≤ sh ∧ ∀ (s : Str) (H' : Hp), IsQ s → Keep [a] H H' → PotAt a H' → Q (.str s) H'
theorem r_name {Q : VK} {E : XK} {H : Hp} {a : Addr} {sh : Int} (hp : PotAt a H) (h0 : 0 ≤ sh) (k : ∀ (s : Str) (H' : Hp), IsQ s → Keep [a] H H' → PotAt a H' → Q (.str s) H') : spName [.ref a, .int sh] H Q E := ⟨a, sh, rfl, hp, h0, k⟩
section
variable {P : Program} {w : World} {K : PySem.W.Frag} {mg : Str → Option Value} {base : Heap}
abbrev GTake (P : Program) (w : World) (K : PySem.W.Frag) (mg : Str → Option Value) (base : Heap) (T : Tx K mg) := FnOk P w K mg base CX0 1 T.f_w_take T.fd_w_take ["_law_pot_here", "_law_size"] spTake
theorem ok_name (T : Tx K mg) (G_w_take : GTake P w K mg base T) : FnOk P w K mg base CX0 2 T.f_w_quantity T.fd_w_quantity ["_law_pot_here", "_law_shift"] spName := by
  refine T.F_w_quantity.ok sc_w_quantity (fun vs H Q E h => ?_) (fun cdv A outer s H vs Q E hr h => ?_)
  · obtain ⟨a, sh, rfl, _⟩ := h; rfl
  · obtain ⟨a, sh, rfl, hp, hsh, q⟩ := h
    refine ⟨_, (pss_cons (ps_set (i := 2) sc_w_quantity.nd rfl (Or.inl rfl) pe_str)
    (pss_cons (ps_set (i := 3) sc_w_quantity.nd rfl (Or.inl rfl) (pe_op op_addS (pv 2) pe_str))
    (pss_cons (ps_set (i := 4) sc_w_quantity.nd rfl (Or.inl rfl) (pe_ix ix_str (pv 2) (pe_op op_mod (pe_callTy call_int1 (by rfl) T.m_int (by decide +kernel) (pa_cons (pe_op op_add (pe_call G_w_take (hr.mono (by decide)) rfl T.g_w_take T.F_w_take.kp T.b_w_take .nil pass0 (pa_cons (pv 0) (pa_cons pe_int pa_nil))) (pv 1)) pa_nil)) pe_int) (fun _ _ => rfl)))
    (pss_cons (ps_set (i := 5) sc_w_quantity.nd rfl (Or.inl rfl) (pe_call G_w_take (hr.mono (by decide)) rfl T.g_w_take T.F_w_take.kp T.b_w_take .nil pass0 (pa_cons (pv 0) (pa_cons pe_int pa_nil))))
    (pss_cons (ps_set (i := 6) sc_w_quantity.nd rfl (Or.inl rfl) pe_int)
    (Evl.pss_cut (ps_if (pt_cmpR op_in_seq (pv 5) (pe_tup (pa_cons pe_int (pa_cons pe_int pa_nil))) (by rfl))
    (pss_one (ps_set (i := 6) sc_w_quantity.nd rfl (Or.inl rfl) (pv 5)))
    pss_nil)
    (Evl.pss_cut (ps_if (pt_cmpR op_gt (pv 5) pe_int (nomark _))
    (pss_one (ps_set (i := 6) sc_w_quantity.nd rfl (Or.inl rfl) (pe_call G_w_take (hr.mono (by decide)) rfl T.g_w_take T.F_w_take.kp T.b_w_take .nil pass0 (pa_cons (pv 0) (pa_cons pe_int pa_nil)))))
    pss_nil)
    (pss_cons (ps_for PassesOwn.never rfl (pi_range1 rfl T.m_range (pa_cons (pv 6) pa_nil)) (pg_name (i := 7) sc_w_quantity.nd rfl (Or.inl rfl))
    (pss_one (ps_set (i := 4) sc_w_quantity.nd rfl (Or.inl rfl) (pe_op op_addS (pv 4) (pe_ix ix_str (pv 3) (pe_call G_w_take (hr.mono (by decide)) rfl T.g_w_take T.F_w_take.kp T.b_w_take .nil pass0 (pa_cons (pv 0) (pa_cons pe_int pa_nil))) (fun _ _ => rfl))))))
    (pss_cons (ps_if (pt_cmpR op_eq (pe_ix ix_str (pv 4) (pe_un un_neg pe_int) (fun _ _ => rfl)) pe_str (nomark _))
    (pss_one (ps_set (i := 4) sc_w_quantity.nd rfl (Or.inl rfl) (pe_op op_addS (pe_slice sl_str (pv 4) po_none (po_some (pe_un un_neg pe_int))) pe_str)))
    pss_nil)
    (pss_one (ps_ret (pv 4)))))))))))), ?_⟩
    walk_at "start"
    walk_at "sts"
    refine r_addS (by decide +kernel) ?_
    walk_at "sts"
    refine r_take hp (by omega) (by omega) fun r1 H1 a1 b1 k1 p1 => ?_
    walk_at "sts"
    have := Int.emod_nonneg (r1 + sh) (show (26 : Int) ≠ 0 by decide)
    have := Int.emod_lt_of_pos (r1 + sh) (show (0 : Int) < 26 by decide)
    obtain ⟨c1, hc1, hm1⟩ := at_list (l := lettersL) (i := (r1 + sh) % 26) (by omega) (by show _ < ((26 : Nat) : Int); omega)
    refine r_ixS (by decide +kernel) hc1 ?_
    walk_at "sts"
    refine r_take p1 (by omega) (by omega) fun way H2 a2 b2 k2 p2 => ?_
    have k12 := k1.trans k2
    walk_at "sts"
    refine r_cut (fun σ' H' => ∃ (lg : Int), σ' = [some (.ref a), some (.int sh), some (.str (Str.ofString "abcdefghijklmnopqrstuvwxyz")), some (.str (Str.ofString "abcdefghijklmnopqrstuvwxyz" ++ Str.ofString "0123456789.")), some (.str (sgn1 c1)), some (.int way), some (.int lg), none] ∧ 0 ≤ lg ∧ lg < 12 ∧ Keep [a] H H' ∧ PotAt a H') ?_ ?_
    · walk_at "sts"
      intro t ht
      refine r_inT (sqT_of upd_same) rfl rfl ?_
      have p3 := p2.new (o := .tup [.int 1, .int 2]) ht
      have k3 := k12.trans (Keep.new (o := .tup [.int 1, .int 2]) ht)
      generalize upd H2 t (.tup [.int 1, .int 2]) = H3 at p3 k3 ⊢
      walk_at "sts"
      refine r_iteb (fun c => ?_) (fun c => ?_)
      · walk_at "sts"
        exact ⟨way, rfl, a2, by omega, k3, p3⟩
      · walk_at "sts"
        exact ⟨0, rfl, by decide, by decide, k3, p3⟩
    rintro σ0 H3 ⟨lg0, rfl, h00, h012, k3, p3⟩
    refine r_cut (fun σ' H' => ∃ (lg : Int), σ' = [some (.ref a), some (.int sh), some (.str (Str.ofString "abcdefghijklmnopqrstuvwxyz")), some (.str (Str.ofString "abcdefghijklmnopqrstuvwxyz" ++ Str.ofString "0123456789.")), some (.str (sgn1 c1)), some (.int way), some (.int lg), none] ∧ 0 ≤ lg ∧ lg < 12 ∧ Keep [a] H H' ∧ PotAt a H') ?_ ?_
    · walk_at "sts"
      refine r_ite (fun c2 => ?_) (fun c2 => ?_)
      · walk_at "sts"
        refine r_take p3 (by omega) (by omega) fun lg H4 a4 b4 k4 p4 => ?_
        walk_at "sts"
        exact ⟨lg, rfl, a4, b4, k3.trans k4, p4⟩
      · walk_at "sts"
        exact ⟨lg0, rfl, h00, h012, k3, p3⟩
    · clear k3 p3
      rintro σ' H3 ⟨lg, rfl, h0, h12, k3, p3⟩
      walk_at "sts"
      refine forR1_go (fun i σ' H' => ∃ (s : Str) (x : Option V), σ' = [some (.ref a), some (.int sh), some (.str (Str.ofString "abcdefghijklmnopqrstuvwxyz")), some (.str (Str.ofString "abcdefghijklmnopqrstuvwxyz" ++ Str.ofString "0123456789.")), some (.str s), some (.int way), some (.int lg), x] ∧ PQ (i + 1) s ∧ Keep [a] H H' ∧ PotAt a H') (by omega) ⟨_, _, rfl, PQ.one hm1, k3, p3⟩ ?_ ?_
      · rintro i σ' H4 hi ⟨s, x, rfl, hs, k4, p4⟩
        walk_at "sts"
        refine r_take p4 (by omega) (by omega) fun r H5 a5 b5 k5 p5 => ?_
        walk_at "sts"
        obtain ⟨c, hc, hm⟩ := at_list (l := (Str.ofString "abcdefghijklmnopqrstuvwxyz" ++ Str.ofString "0123456789.").cps.toList) (i := r) a5 (by show _ < ((37 : Nat) : Int); omega)
        refine r_ixS (by decide +kernel) hc ?_
        walk_at "sts"
        refine r_addS (le_size (by have := hs.len; have : (Str.mk #[c]).length = 1 := rfl; omega)) ?_
        walk_at "sts"
        exact ⟨_, _, rfl, hs.snoc ((by decide +kernel : ∀ c ∈ (Str.ofString "abcdefghijklmnopqrstuvwxyz" ++ Str.ofString "0123456789.").cps.toList, c ∈ signsL) c hm), k4.trans k5, p5⟩
      · rintro σ' H4 ⟨s, x, rfl, hs, k4, p4⟩
        obtain ⟨c, hc⟩ := hs.last
        have hz : s.length ≤ sizeLine := le_size (by have := hs.len; omega)
        walk_at "sts"
        refine r_ixS hz (atI_m1 hc) ?_
        walk_at "sts"
        refine r_ite (fun c2 => ?_) (fun c2 => ?_)
        · have e46 : c = 46 := by
            have := congrArg Str.cps c2
            exact (show #[c] = #[46] from this) |> fun z => by simpa using z
          subst e46
          walk_at "sts"
          refine r_slS hz ?_
          walk_at "sts"
          refine r_addS (le_size (by have h1 := (hs.fix hc).len; rw [len_app] at h1; have : (Str.ofString "x").length = (sgn1 120).length := rfl; omega)) ?_
          walk_at "sts"
          exact q _ _ ((hs.fix hc).isQ (by omega) last_snoc (by decide)) k4 p4
        · walk_at "sts"
          exact q _ _ (hs.isQ (by omega) hc (fun e => c2 (by rw [e]; rfl))) k4 p4
end
/-! ### pools, weights, pairs -/
/-- a row of names -/
def NamesAt (H : Hp) (p : Addr) (xs : List Str) : Prop := H p = some (.lst (xs.map V.str))
def spPool : Sp := fun vs H Q _ => ∃ (a : Addr) (m : Int), vs = [.ref a, .int m] ∧ PotAt a H ∧ 1 ≤ m ∧ m < 20 ∧ ∀ (p : Addr) (xs : List Str) (H' : Hp), 0 < xs.length → (xs.length : Int) ≤ m → (∀ x ∈ xs, IsQ x) → xs.Nodup → Keep [a] H H' → PotAt a H' → H p = none → NamesAt H' p xs → Q (.ref p) H'
theorem atI_nn {α : Type} {xs : List α} {i : Int} (h0 : 0 ≤ i) (h1 : i < xs.length) : ∃ c, atI xs i = some c ∧ c ∈ xs := by
  obtain ⟨n, rfl⟩ : ∃ n : Nat, i = n := ⟨i.toNat, by omega⟩
  have h2 : n < xs.length := by omega
  exact ⟨xs[n], atI_nat (List.getElem?_eq_getElem h2), List.getElem_mem h2⟩
theorem atI_strs {xs : List Str} {i : Int} (h0 : 0 ≤ i) (h1 : i < xs.length) : ∃ x, atI (xs.map V.str) i = some (.str x) ∧ x ∈ xs := by
  obtain ⟨c, hc, hm⟩ := atI_nn (xs := xs.map V.str) h0 (by rw [List.length_map]; exact h1)
  obtain ⟨x, hx, rfl⟩ := List.mem_map.mp hm
  exact ⟨x, hc, hx⟩
/-- what stands at addresses -/
def PairsAt (H : Hp) : List Addr → List Fm.Tm → Prop
  | [], [] => True
  | a :: as, p :: ts => H a = some (.tup [.str p.1, .int p.2]) ∧ PairsAt H as ts
  | _, _ => False
theorem PairsAt.len {H : Hp} : ∀ {as : List Addr} {ts : List Fm.Tm}, PairsAt H as ts → as.length = ts.length
  | [], [], _ => rfl
  | _ :: _, _ :: _, h => congrArg Nat.succ (PairsAt.len h.2)
  | [], _ :: _, h => h.elim
  | _ :: _, [], h => h.elim
theorem PairsAt.get {H : Hp} : ∀ {as : List Addr} {ts : List Fm.Tm} {i : Nat} {a : Addr}, PairsAt H as ts → as[i]? = some a → ∃ p, ts[i]? = some p ∧ H a = some (.tup [.str p.1, .int p.2])
  | [], _, _, _, _, e => by simp at e
  | _ :: _, [], _, _, h, _ => h.elim
  | b :: as, p :: ts, 0, a, h, e => by
    have : b = a := by simpa using e
    subst this; exact ⟨p, rfl, h.1⟩
  | b :: as, p :: ts, i + 1, a, h, e => by
    obtain ⟨q, h1, h2⟩ := PairsAt.get (i := i) h.2 (by simpa using e)
    exact ⟨q, by simpa using h1, h2⟩
theorem PairsAt.mono {H H' : Hp} : ∀ {as : List Addr} {ts : List Fm.Tm}, PairsAt H as ts → (∀ a p, a ∈ as → p ∈ ts → H a = some (.tup [.str p.1, .int p.2]) → H' a = some (.tup [.str p.1, .int p.2])) → PairsAt H' as ts
  | [], [], _, _ => trivial
  | a :: as, p :: ts, h, k => ⟨k a p (by simp) (by simp) h.1, h.2.mono fun b q hb hq => k b q (by simp [hb]) (by simp [hq])⟩
  | [], _ :: _, h, _ => h.elim
  | _ :: _, [], h, _ => h.elim
theorem PairsAt.app {H : Hp} : ∀ {as bs : List Addr} {ts us : List Fm.Tm}, PairsAt H as ts → PairsAt H bs us → PairsAt H (as ++ bs) (ts ++ us)
  | [], _, [], _, _, k => k
  | _ :: _, _, _ :: _, _, h, k => ⟨h.1, h.2.app k⟩
  | [], _, _ :: _, _, h, _ => h.elim
  | _ :: _, _, [], _, h, _ => h.elim
/-- kept where the changed addresses are no tuples -/
theorem PairsAt.keep {M : List Addr} {H H' : Hp} {as : List Addr} {ts : List Fm.Tm} (h : PairsAt H as ts) (k : Keep M H H') (n : ∀ m ∈ M, ∃ xs, H m = some (.lst xs)) : PairsAt H' as ts := by
  refine h.mono fun a p _ _ e => k a _ (fun hm => ?_) e
  obtain ⟨xs, hx⟩ := n a hm
  rw [hx] at e; cases e
theorem PairsAt.keep0 {H H' : Hp} {as : List Addr} {ts : List Fm.Tm} (h : PairsAt H as ts) (k : Keep [] H H') : PairsAt H' as ts := h.keep k (by simp)
/-- a row of pairs -/
def RowAt (H : Hp) (p : Addr) (ts : List Fm.Tm) : Prop := ∃ as : List Addr, H p = some (.lst (as.map V.ref)) ∧ PairsAt H as ts
/-- a tuple of pairs -/
def TupAt (H : Hp) (p : Addr) (ts : List Fm.Tm) : Prop := ∃ as : List Addr, H p = some (.tup (as.map V.ref)) ∧ PairsAt H as ts
theorem PotAt.lst {a : Addr} {H : Hp} (h : PotAt a H) : ∀ m ∈ [a], ∃ xs, H m = some (.lst xs) := fun m hm => by
  obtain ⟨P, hP, _⟩ := h
  rw [List.mem_singleton.mp hm]; exact ⟨P, hP⟩
theorem notpot_strs {xs : List Str} : ¬ Pot (xs.map V.str) := by
  rintro ⟨pos, car, cnt, mix, sc, e, _⟩
  cases xs with
  | nil => simp at e
  | cons x xs => simp at e
theorem notpot_refs {xs : List Addr} : ¬ Pot (xs.map V.ref) := by
  rintro ⟨pos, car, cnt, mix, sc, e, _⟩
  cases xs with
  | nil => simp at e
  | cons x xs => simp at e
def spPairs : Sp := fun vs H Q _ => ∃ (a p : Addr) (xs : List Str), vs = [.ref a, .ref p] ∧ PotAt a H ∧ NamesAt H p xs ∧ 0 < xs.length ∧ xs.length < 20 ∧ ∀ (q : Addr) (ts : List Fm.Tm) (H' : Hp), ts.length ≤ 5 → (∀ t ∈ ts, t.1 ∈ xs ∧ t.2.natAbs < 2 ^ 100) → Keep [a] H H' → PotAt a H' → H q = none → RowAt H' q ts → Q (.ref q) H'
/-- a level: a ratio -/
def spLevel : Sp := fun vs H Q _ => ∃ a : Addr, vs = [.ref a] ∧ PotAt a H ∧ ∀ (p : Addr) (t b : Int) (H' : Hp), 0 < b → t.natAbs < 2 ^ 100 → b.natAbs < 2 ^ 100 → Keep [a] H H' → PotAt a H' → H p = none → H' p = some (.tup [.int t, .int b]) → Q (.ref p) H'
section
variable {P : Program} {w : World} {K : PySem.W.Frag} {mg : Str → Option Value} {base : Heap}
theorem ok_pool (T : Tx K mg) (G_w_take : GTake P w K mg base T) (G_w_quantity : FnOk P w K mg base CX0 2 T.f_w_quantity T.fd_w_quantity ["_law_pot_here", "_law_shift"] spName) :
    FnOk P w K mg base CX0 3 T.f_w_pool T.fd_w_pool ["_law_pot_here", "_law_most"] spPool := by
  refine T.F_w_pool.ok sc_w_pool (fun vs H Q E h => ?_) (fun cdv A outer s H vs Q E hr h => ?_)
  · obtain ⟨a, m, rfl, _⟩ := h; rfl
  · obtain ⟨a, m, rfl, hp, h1, h20, q⟩ := h
    refine ⟨_, (pss_cons (ps_set (i := 2) sc_w_pool.nd rfl (Or.inl rfl) (pe_lst (pa_cons (pe_call G_w_quantity (hr.mono (by decide)) rfl T.g_w_quantity T.F_w_quantity.kp T.b_w_quantity .nil pass0 (pa_cons (pv 0) (pa_cons pe_int pa_nil))) pa_nil)))
    (pss_cons (ps_for PassesOwn.never rfl (pi_range2 rfl T.m_range (pa_cons pe_int (pa_cons (pv 1) pa_nil))) (pg_name (i := 3) sc_w_pool.nd rfl (Or.inl rfl))
    (pss_cons (ps_set (i := 4) sc_w_pool.nd rfl (Or.inl rfl) (pe_call G_w_quantity (hr.mono (by decide)) rfl T.g_w_quantity T.F_w_quantity.kp T.b_w_quantity .nil pass0 (pa_cons (pv 0) (pa_cons (pv 3) pa_nil))))
    (Evl.pss_cut (ps_if (pt_cmpR op_eq (pe_call G_w_take (hr.mono (by decide)) rfl T.g_w_take T.F_w_take.kp T.b_w_take .nil pass0 (pa_cons (pv 0) (pa_cons pe_int pa_nil))) pe_int (nomark _))
    (pss_one (ps_set (i := 4) sc_w_pool.nd rfl (Or.inl rfl) (pe_op op_addS (pe_slice sl_str (pe_ix ix_list (pv 2) (pe_un un_neg pe_int) (fun _ _ => rfl)) po_none (po_some pe_int)) (pe_ix ix_str pe_str (pe_call G_w_take (hr.mono (by decide)) rfl T.g_w_take T.F_w_take.kp T.b_w_take .nil pass0 (pa_cons (pv 0) (pa_cons pe_int pa_nil))) (fun _ _ => rfl)))))
    pss_nil)
    (pss_one (ps_if (pt_cmpR op_notIn_seq (pv 4) (pv 2) (by rfl))
    (pss_one (ps_expr (pe_bm PySem.F.plainAttrs_list PySem.F.slot_list_append PySem.F.type_list_append mt_append (pv 2) (pa_cons (pv 4) pa_nil))))
    pss_nil)))))
    (pss_one (ps_ret (pv 2))))), ?_⟩
    walk_at "start"
    walk_at "sts"
    refine r_name hp (by omega) fun s0 H1 i1 k1 p1 => ?_
    walk_at "sts"
    intro p hpn
    have np := p1.ne hpn
    have e2 : NamesAt (upd H1 p (.lst [.str s0])) p [s0] := upd_same
    have p2 := p1.new (o := .lst [.str s0]) hpn
    have k2 := k1.trans (Keep.new (o := .lst [.str s0]) hpn)
    have nH : H p = none := (k1).free (by simpa using np) hpn
    generalize upd H1 p (.lst [.str s0]) = H2 at e2 p2 k2 ⊢
    walk_at "sts"
    refine forR2_go (fun i σ' H' => ∃ (xs : List Str) (x1 x2 : Option V), σ' = [some (.ref a), some (.int m), some (.ref p), x1, x2] ∧ NamesAt H' p xs ∧ PotAt a H' ∧ Keep [a] H H' ∧ 0 < xs.length ∧ (xs.length : Int) ≤ 1 + i ∧ (∀ x ∈ xs, IsQ x) ∧ xs.Nodup) (by omega) ⟨_, _, _, rfl, e2, p2, k2, by simp, by simp, by simpa using i1, by simp⟩ ?_ ?_
    · rintro i σ' H3 hi ⟨xs, x1, x2, rfl, e3, p3, k3, l0, l1, hq, hd⟩
      walk_at "sts"
      refine r_name p3 (by omega) fun s1 H4 i4 k4 p4 => ?_
      have e4 : NamesAt H4 p xs := k4 _ _ (by simpa using np) e3
      refine r_cut (fun σ' H' => ∃ (s : Str), σ' = [some (.ref a), some (.int m), some (.ref p), some (.int (1 + i)), some (.str s)] ∧ NamesAt H' p xs ∧ PotAt a H' ∧ Keep [a] H H' ∧ IsQ s) ?_ ?_
      · walk_at "sts"
        refine r_take p4 (by omega) (by omega) fun r5 H5 a5 b5 k5 p5 => ?_
        have e5 : NamesAt H5 p xs := k5 _ _ (by simpa using np) e4
        have k35 := k3.trans (k4.trans k5)
        walk_at "sts"
        refine r_ite (fun c => ?_) (fun c => ?_)
        · walk_at "sts"
          obtain ⟨x, hx⟩ : ∃ x, xs.getLast? = some x := ⟨_, List.getLast?_eq_some_getLast (List.length_pos_iff.mp l0)⟩
          have qx := hq x (List.mem_of_getLast? hx)
          refine r_ixL (sqL_of e5) (atI_m1 (c := V.str x) (by rw [List.getLast?_map, hx]; rfl)) ?_
          walk_at "sts"
          refine r_slS (le_size (by have := qx.len; omega)) ?_
          walk_at "sts"
          refine r_take p5 (by omega) (by omega) fun r6 H6 a6 b6 k6 p6 => ?_
          walk_at "sts"
          obtain ⟨c1, hc1, hm1⟩ := at_list (l := (Str.ofString "0ax9").cps.toList) (i := r6) a6 (by show _ < ((4 : Nat) : Int); omega)
          refine r_ixS (by decide +kernel) hc1 ?_
          have nx := qx.next ((by decide +kernel : ∀ c ∈ (Str.ofString "0ax9").cps.toList, c ∈ signsL) c1 hm1) ((by decide +kernel : ∀ c ∈ (Str.ofString "0ax9").cps.toList, c ≠ 46) c1 hm1)
          refine r_addS (le_size (by have h := nx.len; rw [len_app] at h; have : (sgn1 c1).length = (Str.mk #[c1]).length := rfl; omega)) ?_
          walk_at "sts"
          exact ⟨_, rfl, k6 _ _ (by simpa using np) e5, p6, k35.trans k6, nx⟩
        · walk_at "sts"
          exact ⟨_, rfl, e5, p5, k35, i4⟩
      · rintro σ' H5 ⟨s, rfl, e5, p5, k5, qs⟩
        walk_at "sts"
        refine r_ninL (sqL_of e5) rfl (flat_strs xs) ?_
        rw [inV_str]
        walk_at "sts"
        refine r_iteN (fun c => ?_) (fun c => ?_)
        · walk_at "sts"
          have e6 : NamesAt (upd H5 p (.lst (xs.map V.str ++ [.str s]))) p (xs ++ [s]) := by unfold NamesAt; rw [upd_same, List.map_append]; rfl
          refine ⟨xs ++ [s], _, _, rfl, e6, p5.put np, k5.mut nH, by simp, by simp; omega, fun x hx => ?_, ?_⟩
          · rcases List.mem_append.mp hx with hx | hx
            · exact hq x hx
            · rw [List.mem_singleton.mp hx]; exact qs
          · exact List.nodup_append.mpr ⟨hd, by simp, fun x hx y hy e => c (by rw [← List.mem_singleton.mp hy, ← e]; exact hx)⟩
        · walk_at "sts"
          exact ⟨xs, _, _, rfl, e5, p5, k5, l0, by omega, hq, hd⟩
    · rintro σ' H3 ⟨xs, x1, x2, rfl, e3, p3, k3, l0, l1, hq, hd⟩
      walk_at "sts"
      exact q p xs H3 l0 (by omega) hq hd k3 p3 nH e3
end
theorem RowAt.snoc {H : Hp} {p q : Addr} {as : List Addr} {ts : List Fm.Tm} {t : Fm.Tm} (h : PairsAt H as ts) (hq : H q = some (.tup [.str t.1, .int t.2])) (e : H p = some (.lst ((as ++ [q]).map V.ref))) : RowAt H p (ts ++ [t]) := ⟨as ++ [q], e, h.app ⟨hq, trivial⟩⟩
theorem r_potIntW {Q : VK} {E : XK} {H : Hp} {m : Nat} {a : Addr} (hp : PotAt a H) (k : ∀ (r : Int) (H' : Hp), r.natAbs < m → Keep [a] H H' → PotAt a H' → Q (.int r) H') : spPotInt m [.ref a] H Q E := ⟨a, rfl, hp, k⟩
section
variable {P : Program} {w : World} {K : PySem.W.Frag} {mg : Str → Option Value} {base : Heap}
theorem ok_weight (T : Tx K mg) (G_w_take : GTake P w K mg base T) : FnOk P w K mg base CX0 2 T.f_w_weight T.fd_w_weight ["_law_pot_here"] (spPotInt (10 ^ 30)) := by
  refine T.F_w_weight.ok sc_w_weight (fun vs H Q E h => ?_) (fun cdv A outer s H vs Q E hr h => ?_)
  · obtain ⟨a, rfl, _⟩ := h; rfl
  · obtain ⟨a, rfl, hp, q⟩ := h
    refine ⟨_, (pss_cons (ps_set (i := 1) sc_w_weight.nd rfl (Or.inl rfl) (pe_call G_w_take (hr.mono (by decide)) rfl T.g_w_take T.F_w_take.kp T.b_w_take .nil pass0 (pa_cons (pv 0) (pa_cons pe_int pa_nil))))
    (pss_cons (ps_set (i := 2) sc_w_weight.nd rfl (Or.inl rfl) (pe_op op_sub pe_int (pe_op op_mul pe_int (pe_call G_w_take (hr.mono (by decide)) rfl T.g_w_take T.F_w_take.kp T.b_w_take .nil pass0 (pa_cons (pv 0) (pa_cons pe_int pa_nil))))))
    (pss_cons (ps_if (pt_cmpR op_lt (pv 1) pe_int (nomark _))
    (pss_one (ps_ret (pe_op op_mulG (pv 2) (pe_call G_w_take (hr.mono (by decide)) rfl T.g_w_take T.F_w_take.kp T.b_w_take .nil pass0 (pa_cons (pv 0) (pa_cons pe_int pa_nil))))))
    pss_nil)
    (pss_cons (ps_if (pt_cmpR op_eq (pv 1) pe_int (nomark _))
    (pss_one (ps_ret (pe_op op_mulG (pv 2) (pe_call G_w_take (hr.mono (by decide)) rfl T.g_w_take T.F_w_take.kp T.b_w_take .nil pass0 (pa_cons (pv 0) (pa_cons pe_int pa_nil))))))
    pss_nil)
    (pss_cons (ps_if (pt_cmpR op_eq (pv 1) pe_int (nomark _))
    (pss_cons (ps_set (i := 3) sc_w_weight.nd rfl (Or.inl rfl) (pe_ix ix_list (pe_lst (pa_cons (pe_op op_pow pe_int pe_int) (pa_cons (pe_op op_add (pe_op op_pow pe_int pe_int) pe_int) (pa_cons (pe_op op_pow pe_int pe_int) (pa_cons (pe_op op_pow pe_int pe_int) pa_nil))))) (pe_call G_w_take (hr.mono (by decide)) rfl T.g_w_take T.F_w_take.kp T.b_w_take .nil pass0 (pa_cons (pv 0) (pa_cons pe_int pa_nil))) (fun _ _ => rfl)))
    (pss_one (ps_ret (pe_op op_mulG (pv 2) (pe_op op_sub (pe_op op_sub (pv 3) pe_int) (pe_call G_w_take (hr.mono (by decide)) rfl T.g_w_take T.F_w_take.kp T.b_w_take .nil pass0 (pa_cons (pv 0) (pa_cons pe_int pa_nil))))))))
    pss_nil)
    (pss_cons (ps_set (i := 4) sc_w_weight.nd rfl (Or.inl rfl) (pe_op op_add (pe_op op_mulG (pe_call G_w_take (hr.mono (by decide)) rfl T.g_w_take T.F_w_take.kp T.b_w_take .nil pass0 (pa_cons (pv 0) (pa_cons (pe_op op_pow pe_int pe_int) pa_nil))) (pe_op op_pow pe_int pe_int)) (pe_op op_mul (pe_call G_w_take (hr.mono (by decide)) rfl T.g_w_take T.F_w_take.kp T.b_w_take .nil pass0 (pa_cons (pv 0) (pa_cons (pe_op op_pow pe_int pe_int) pa_nil))) (pe_op op_pow pe_int pe_int))))
    (pss_one (ps_ret (pe_op op_mulG (pv 2) (pe_op op_add (pv 4) (pe_call G_w_take (hr.mono (by decide)) rfl T.g_w_take T.F_w_take.kp T.b_w_take .nil pass0 (pa_cons (pv 0) (pa_cons (pe_op op_pow pe_int pe_int) pa_nil))))))))))))), ?_⟩
    walk_at "start"
    walk_at "sts"
    refine r_take hp (by omega) (by omega) fun r1 H1 a1 b1 k1 p1 => ?_
    walk_at "sts"
    refine r_take p1 (by omega) (by omega) fun r2 H2 a2 b2 k2 p2 => ?_
    walk_at "sts"
    refine r_ite (fun c1 => ?_) (fun c1 => ?_)
    · walk_at "sts"
      refine r_take p2 (by omega) (by omega) fun r3 H3 a3 b3 k3 p3 => ?_
      walk_at "sts"
      exact q _ _ (by rw [sgn_abs a2 b2]; omega) (k1.trans (k2.trans k3)) p3
    walk_at "sts"
    refine r_ite (fun c2 => ?_) (fun c2 => ?_)
    · walk_at "sts"
      refine r_take p2 (by omega) (by omega) fun r3 H3 a3 b3 k3 p3 => ?_
      walk_at "sts"
      exact q _ _ (by rw [sgn_abs a2 b2]; omega) (k1.trans (k2.trans k3)) p3
    walk_at "sts"
    refine r_ite (fun c3 => ?_) (fun c3 => ?_)
    · walk_at "sts"
      intro l hl
      walk_at "sts"
      refine r_take (p2.new hl) (by omega) (by omega) fun r3 H3 a3 b3 k3 p3 => ?_
      have el : H3 l = some (.lst ([10 ^ 9, 2 ^ 53 + 3, 10 ^ 29, 10 ^ 30].map V.int)) := k3 l _ (by simp; exact p2.ne hl) upd_same
      walk_at "sts"
      have hb := getD_all (p := fun x => 4 ≤ x ∧ x ≤ 10 ^ 30) (P := [10 ^ 9, 2 ^ 53 + 3, 10 ^ 29, 10 ^ 30]) (i := r3.toNat) (by decide) (by show r3.toNat < 4; omega)
      generalize List.getD [10 ^ 9, 2 ^ 53 + 3, 10 ^ 29, 10 ^ 30] r3.toNat (0 : Int) = ed at hb ⊢
      walk_at "sts"
      refine r_take p3 (by omega) (by omega) fun r4 H4 a4 b4 k4 p4 => ?_
      walk_at "sts"
      exact q _ _ (by rw [sgn_abs a2 b2]; omega) (k1.trans (k2.trans ((Keep.new hl).trans (k3.trans k4)))) p4
    walk_at "sts"
    refine r_take p2 (by omega) (by omega) fun r3 H3 a3 b3 k3 p3 => ?_
    walk_at "sts"
    refine r_take p3 (by omega) (by omega) fun r4 H4 a4 b4 k4 p4 => ?_
    walk_at "sts"
    refine r_take p4 (by omega) (by omega) fun r5 H5 a5 b5 k5 p5 => ?_
    walk_at "sts"
    exact q _ _ (by rw [sgn_abs a2 b2]; omega) (k1.trans (k2.trans (k3.trans (k4.trans k5)))) p5
theorem ok_pairs (T : Tx K mg) (G_w_take : GTake P w K mg base T) (G_w_weight : FnOk P w K mg base CX0 2 T.f_w_weight T.fd_w_weight ["_law_pot_here"] (spPotInt (10 ^ 30))) :
    FnOk P w K mg base CX0 3 T.f_w_pairs T.fd_w_pairs ["_law_pot_here", "_law_pool_here"] spPairs := by
  refine T.F_w_pairs.ok sc_w_pairs (fun vs H Q E h => ?_) (fun cdv A outer s H vs Q E hr h => ?_)
  · obtain ⟨a, p, xs, rfl, _⟩ := h; rfl
  · obtain ⟨a, p, xs, rfl, hp, hx, l0, l20, q⟩ := h
    have npa := hp.ne' hx notpot_strs
    refine ⟨_, (pss_cons (ps_set (i := 2) sc_w_pairs.nd rfl (Or.inl rfl) (pe_lst pa_nil))
    (pss_cons (ps_for PassesOwn.never rfl (pi_range1 rfl T.m_range (pa_cons (pe_call G_w_take (hr.mono (by decide)) rfl T.g_w_take T.F_w_take.kp T.b_w_take .nil pass0 (pa_cons (pv 0) (pa_cons pe_int pa_nil))) pa_nil)) (pg_name (i := 3) sc_w_pairs.nd rfl (Or.inl rfl))
    (pss_one (ps_expr (pe_bm PySem.F.plainAttrs_list PySem.F.slot_list_append PySem.F.type_list_append mt_append (pv 2) (pa_cons (pe_tup (pa_cons (pe_ix ix_list (pv 1) (pe_call G_w_take (hr.mono (by decide)) rfl T.g_w_take T.F_w_take.kp T.b_w_take .nil pass0 (pa_cons (pv 0) (pa_cons (pe_callB call_len_seq (by rfl) T.m_len PySem.boot_len (pa_cons (pv 1) pa_nil)) pa_nil))) (fun _ _ => rfl)) (pa_cons (pe_call G_w_weight (hr.mono (by decide)) rfl T.g_w_weight T.F_w_weight.kp T.b_w_weight .nil pass0 (pa_cons (pv 0) pa_nil)) pa_nil))) pa_nil)))))
    (pss_one (ps_ret (pv 2))))), ?_⟩
    walk_at "start"
    walk_at "sts"
    intro l hl
    have nla := hp.ne hl
    have p1 := hp.new (o := .lst []) hl
    have k1 : Keep [a] H (upd H l (.lst [])) := Keep.new hl
    have e1 : upd H l (.lst []) l = some (.lst (([] : List Addr).map V.ref)) := upd_same
    have x1 : NamesAt (upd H l (.lst [])) p xs := k1 _ _ (by simpa using npa) hx
    generalize upd H l (.lst []) = H1 at p1 k1 e1 x1 ⊢
    walk_at "sts"
    refine r_take p1 (by omega) (by omega) fun n H2 a2 b2 k2 p2 => ?_
    have e2 := k2 _ _ (by simpa using nla) e1
    have x2 : NamesAt H2 p xs := k2 _ _ (by simpa using npa) x1
    refine forR1_go (fun i σ' H' => ∃ (as : List Addr) (ts : List Fm.Tm) (x : Option V), σ' = [some (.ref a), some (.ref p), some (.ref l), x] ∧ H' l = some (.lst (as.map V.ref)) ∧ PairsAt H' as ts ∧ NamesAt H' p xs ∧ PotAt a H' ∧ Keep [a] H H' ∧ ts.length ≤ i ∧ ∀ t ∈ ts, t.1 ∈ xs ∧ t.2.natAbs < 2 ^ 100) (by omega) ⟨[], [], _, rfl, e2, trivial, x2, p2, k1.trans k2, by simp, by simp⟩ ?_ ?_
    · rintro i σ' H3 hi ⟨as, ts, x, rfl, e3, r3, x3, p3, k3, l3, h3⟩
      have x3' : H3 p = some (.lst (xs.map V.str)) := x3
      walk_at "sts"
      simp only [List.length_map]
      refine r_take p3 (by omega) (by omega) fun n4 H4 a4 b4 k4 p4 => ?_
      have x4 : NamesAt H4 p xs := k4 _ _ (by simpa using npa) x3
      obtain ⟨nm, hnm, mnm⟩ := atI_strs (xs := xs) a4 (by omega)
      refine r_ixL (sqL_of x4) hnm ?_
      walk_at "sts"
      refine r_potIntW p4 fun wg H5 h5 k5 p5 => ?_
      have k45 := k4.trans k5
      have e5 := k45 _ _ (by simpa using nla) e3
      have r5 := r3.keep k45 p3.lst
      have x5 : NamesAt H5 p xs := k45 _ _ (by simpa using npa) x3
      have k5' := k3.trans k45
      walk_at "sts"
      intro t ht
      have e6 : upd H5 t (.tup [.str nm, .int wg]) t = some (.tup [.str nm, .int wg]) := upd_same
      have kt : Keep [] H5 (upd H5 t (.tup [.str nm, .int wg])) := Keep.new ht
      have p6 := p5.new (o := .tup [.str nm, .int wg]) ht
      generalize upd H5 t (.tup [.str nm, .int wg]) = H6 at e6 kt p6 ⊢
      have el6 := kt _ _ (by simp) e5
      have hlen := r3.len
      walk_at "sts"
      have nlt : t ≠ l := by rintro rfl; rw [e6] at el6; cases el6
      have k7 : Keep [l] H6 (upd H6 l (.lst (as.map V.ref ++ [.ref t]))) := Keep.at (by simp)
      refine ⟨as ++ [t], ts ++ [(nm, wg)], _, rfl, by rw [upd_same, List.map_append]; rfl, ((r5.keep0 kt).app (bs := [t]) (us := [(nm, wg)]) ⟨e6, trivial⟩).keep k7 (fun m hm => by rw [List.mem_singleton.mp hm]; exact ⟨_, el6⟩), ?_, p6.put nla, (k5'.trans (kt.mono (by simp))).mut hl, by simp; omega, fun z hz => ?_⟩
      · exact k7 _ _ (by rintro z; rw [List.mem_singleton.mp z] at x5; have := ne_free (show H p = some _ from hx) hl; exact this (by rw [List.mem_singleton.mp z])) (kt _ _ (by simp) x5)
      · rcases List.mem_append.mp hz with hz | hz
        · exact h3 z hz
        · rw [List.mem_singleton.mp hz]; exact ⟨mnm, by show wg.natAbs < 2 ^ 100; omega⟩
    · rintro σ' H3 ⟨as, ts, x, rfl, e3, r3, x3, p3, k3, l3, h3⟩
      walk_at "sts"
      exact q l ts H3 (by omega) h3 k3 p3 hl ⟨as, e3, r3⟩
theorem ok_level (T : Tx K mg) (G_w_take : GTake P w K mg base T) (G_w_weight : FnOk P w K mg base CX0 2 T.f_w_weight T.fd_w_weight ["_law_pot_here"] (spPotInt (10 ^ 30)))
    (G_w_lowest : FnOk P w K mg base CX0 1 T.f_w_lowest T.fd_w_lowest ["_law_top", "_law_bottom"] spLow0) : FnOk P w K mg base CX0 3 T.f_w_level T.fd_w_level ["_law_pot_here"] spLevel := by
  refine T.F_w_level.ok sc_w_level (fun vs H Q E h => ?_) (fun cdv A outer s H vs Q E hr h => ?_)
  · obtain ⟨a, rfl, _⟩ := h; rfl
  · obtain ⟨a, rfl, hp, q⟩ := h
    refine ⟨_, (pss_cons (ps_set (i := 1) sc_w_level.nd rfl (Or.inl rfl) (pe_call G_w_weight (hr.mono (by decide)) rfl T.g_w_weight T.F_w_weight.kp T.b_w_weight .nil pass0 (pa_cons (pv 0) pa_nil)))
    (pss_cons (ps_set (i := 2) sc_w_level.nd rfl (Or.inl rfl) pe_int)
    (pss_cons (ps_if (pt_cmpR op_eq (pe_call G_w_take (hr.mono (by decide)) rfl T.g_w_take T.F_w_take.kp T.b_w_take .nil pass0 (pa_cons (pv 0) (pa_cons pe_int pa_nil))) pe_int (nomark _))
    (pss_one (ps_set (i := 2) sc_w_level.nd rfl (Or.inl rfl) (pe_callB (call_max2 rfl) (by rfl) T.m_max (by decide +kernel) (pa_cons pe_int (pa_cons (pe_callB call_abs (by rfl) T.m_abs (by decide +kernel) (pa_cons (pe_call G_w_weight (hr.mono (by decide)) rfl T.g_w_weight T.F_w_weight.kp T.b_w_weight .nil pass0 (pa_cons (pv 0) pa_nil)) pa_nil)) pa_nil)))))
    pss_nil)
    (pss_one (ps_ret (pe_call G_w_lowest (hr.mono (by decide)) rfl T.g_w_lowest T.F_w_lowest.kp T.b_w_lowest .nil pass0 (pa_cons (pv 1) (pa_cons (pv 2) pa_nil)))))))), ?_⟩
    walk_at "start"
    walk_at "sts"
    refine r_potIntW hp fun t H1 h1 k1 p1 => ?_
    walk_at "sts"
    refine r_take p1 (by omega) (by omega) fun r2 H2 a2 b2 k2 p2 => ?_
    have k12 := k1.trans k2
    have fin : ∀ (b : Int) (H3 : Hp), 0 < b → b.natAbs < 10 ^ 30 → Keep [a] H H3 → PotAt a H3 → spLow0 [.int t, .int b] H3 Q E0 := fun b H3 hb hz k3 p3 => by
      refine r_low0 hb (Nat.lt_trans (Nat.lt_trans hz (by decide : (10 : Nat) ^ 30 < 2 ^ 100)) (Nat.pow_lt_pow_right (by decide) (by decide))) fun p H' kk np ep => ?_
      have hb' : b ≠ 0 := by omega
      refine q p _ _ H' (lowB_pos (t := t) hb) (by have := lowT_le (t := t) hb'; omega) (by have := lowB_le (t := t) hb'; omega) (k3.trans (kk.mono (by simp))) ?_ (k3.free (by simpa using p3.ne np) np) ep
      obtain ⟨P0, e0, h0⟩ := p3
      exact ⟨P0, kk _ _ (by simp) e0, h0⟩
    walk_at "sts"
    refine r_ite (fun c => ?_) (fun c => ?_)
    · walk_at "sts"
      refine r_potIntW p2 fun b H3 h3 k3 p3 => ?_
      walk_at "sts"
      exact fin _ H3 (by omega) (by omega) (k12.trans k3) p3
    · walk_at "sts"
      exact fin 1 H2 (by decide) (by decide) k12 p2
end
/-! ### the terms of a form made -/
def spAdded (K : PySem.W.Frag) : Sp := fun vs H Q _ => ∃ (p : Addr) (ts : List Fm.Tm), vs = [.ref p] ∧ (RowAt H p ts ∨ TupAt H p ts) ∧ ts.length ≤ 60 ∧ (∀ t ∈ ts, IsQ t.1) ∧ ∀ (q : Addr) (H' : Hp), Keep [] H H' → H q = none → TupAt H' q (Fm.can ts) → Q (.ref q) H'
theorem keys_kOf {ks : List Fm.Tm} : ((Fm.kOf ks).map fun kv => kV kv.1) = (ks.map (·.1)).map V.str := by unfold Fm.kOf; rw [List.map_map, List.map_map]; rfl
theorem take_snoc {α : Type} {xs : List α} {i : Nat} {x : α} (h : xs[i]? = some x) : xs.take (i + 1) = xs.take i ++ [x] := by rw [List.take_add_one, h]; rfl
theorem getRef {as : List Addr} {i : Nat} {x : V} (h : (as.map V.ref)[i]? = some x) : ∃ a, as[i]? = some a ∧ x = .ref a := by
  rw [List.getElem?_map] at h
  obtain ⟨a, ha, rfl⟩ := Option.map_eq_some_iff.mp h
  exact ⟨a, ha, rfl⟩
theorem getStr {xs : List Str} {i : Nat} {x : V} (h : (xs.map V.str)[i]? = some x) : ∃ s, xs[i]? = some s ∧ x = .str s := by
  rw [List.getElem?_map] at h
  obtain ⟨a, ha, rfl⟩ := Option.map_eq_some_iff.mp h
  exact ⟨a, ha, rfl⟩
section
variable {P : Program} {w : World} {K : PySem.W.Frag} {mg : Str → Option Value} {base : Heap}
theorem ok_added (T : Tx K mg) (G_is_quantity : FnOk P w K mg base CX0 1 T.f_is_quantity T.fd_is_quantity ["text"] spIsQ) : FnOk P w K mg base CX0 2 T.f_added_terms T.fd_added_terms ["terms"] (spAdded K) := by
  refine T.F_added_terms.ok sc_added_terms (fun vs H Q E h => ?_) (fun cdv A outer s H vs Q E hr h => ?_)
  · obtain ⟨a, ts, rfl, _⟩ := h; rfl
  · obtain ⟨p, ts, rfl, hp, hl, hq, q⟩ := h
    have hval : ∀ {ks us : List Fm.Tm} (S : Fm.Sums ks us) (nm : Str), (valV (Fm.kOf ks) (Sum.inr nm)).getD (V.int 0) = V.int (Fm.wt us nm) := fun {ks us} S nm => by
      rw [Fm.val_kOf, S.find]
      split
      · rfl
      · next e => rw [Fm.wt_none (fun p hp z => e (by rw [← z]; exact List.mem_map_of_mem hp))]; rfl
    rcases hp with ⟨as, ep, hp⟩ | ⟨as, ep, hp⟩
    · refine ⟨_, (pss_cons (ps_set (i := 1) sc_added_terms.nd rfl (Or.inr rfl) pe_dnewK)
    (pss_cons (ps_for PassesOwn.never rfl (pi_list (pv 0)) (pg_tup (n := 2) rfl (pgs_cons (pg_name (i := 2) sc_added_terms.nd rfl (Or.inl rfl)) (pgs_cons (pg_name (i := 3) sc_added_terms.nd rfl (Or.inl rfl)) pgs_nil)))
    (pss_cons (ps_if (pt_not (pt_val (pe_call G_is_quantity (hr.mono (by decide)) rfl T.g_is_quantity T.F_is_quantity.kp T.b_is_quantity .nil pass0 (pa_cons (pv 2) pa_nil))))
    (pss_one ps_never)
    pss_nil)
    (pss_one (ps_dput (hu_of hr) (pv 1) (pv 2) (pe_op op_add (pe_dget2 (hu_of hr) (pv 1) (pv 2) pe_int ⟨rfl, rfl, rfl, rfl⟩) (pv 3)) rfl))))
    (pss_one (ps_ret (pe_callTy call_tuple_of (by rfl) T.m_tuple (by decide +kernel) (pa_cons (pe_lc (own := [("name", 2)]) (g := gName 2)  rfl sc_added_terms.nd (pi_list (pe_callB cr_sortedS (by rfl) T.m_sorted (by decide +kernel) (pa_cons (pe_callTy (call_list_dK rfl) (by rfl) T.m_list (by decide +kernel) (pa_cons (pv 1) pa_nil)) pa_nil))) (blkOk_by (own := [("name", 2)]) (N := ["terms", "sums", "name", "weight"]) (sc := defScope s_added_terms) (by decide +kernel)) (fun _ _ _ _ _ => pg_name (i := 2) sc_added_terms.nd rfl (Or.inl rfl)) (fun _ _ _ _ _ => pts_one (pt_cmpR op_ne (pe_dget (hu_of hr) (pv 1) (pv 2) (fun _ _ => rfl)) pe_int (nomark _))) (fun _ _ _ _ _ => (pe_tup (pa_cons (pv 2) (pa_cons (pe_dget (hu_of hr) (pv 1) (pv 2) (fun _ _ => rfl)) pa_nil))))) pa_nil)))))), ?_⟩
      walk_at "start"
      walk_at "sts"
      intro d hd
      have k1 : Keep [] H (upd H d (.dK [])) := Keep.new hd
      have e1 : upd H d (.dK []) d = some (.dK (Fm.kOf [])) := upd_same
      generalize upd H d (.dK []) = H1 at k1 e1 ⊢
      walk_at "sts"
      refine forL_go (fun i σ' H' => ∃ (ks : List Fm.Tm) (x1 x2 : Option V), σ' = [some (.ref p), some (.ref d), x1, x2] ∧ H' d = some (.dK (Fm.kOf ks)) ∧ Fm.Sums ks (ts.take i) ∧ Keep [] H H') (sqL_of (k1 _ _ (by simp) ep)) ⟨[], _, _, rfl, e1, by simpa using Fm.Sums.nil, k1⟩ (fun i σ' H' _ h => by obtain ⟨_, _, _, _, _, _, k⟩ := h; exact sqL_of (k _ _ (by simp) ep)) ?_ ?_
      · rintro i x σ' H2 hx ⟨ks, x1, x2, rfl, e2, S, k2⟩
        obtain ⟨a, ha, rfl⟩ := getRef hx
        obtain ⟨t, ht, et⟩ := hp.get ha
        have et2 := k2 _ _ (by simp) et
        walk_at "sts"
        refine r_isQ (hq t (List.mem_of_getElem? ht)) fun H3 k3 => ?_
        have e3 := k3 _ _ (by simp) e2
        have k13 := k2.trans k3
        walk_at "sts"
        rw [hval S]
        walk_at "sts"
        refine r_dputS e3 (lt_size (by unfold Fm.kOf; rw [List.length_map]; have := S.len; rw [List.length_take] at this; omega)) ?_
        rw [Fm.put_kOf]
        exact ⟨_, _, _, rfl, upd_same, by rw [take_snoc ht]; exact S.put t, k13.mut hd⟩
      · rintro σ' H2 ⟨ks, x1, x2, rfl, e2, S, k2⟩
        rw [List.length_map, hp.len, List.take_length] at S
        walk_at "sts"
        refine r_listD e2 fun l hl2 => ?_
        rw [keys_kOf]
        have k3 : Keep [] H2 (upd H2 l (.lst ((ks.map (·.1)).map V.str))) := Keep.new hl2
        have e3 : upd H2 l (.lst ((ks.map (·.1)).map V.str)) l = some (.lst ((ks.map (·.1)).map V.str)) := upd_same
        generalize upd H2 l (.lst ((ks.map (·.1)).map V.str)) = H3 at k3 e3 ⊢
        walk_at "sts"
        refine r_sortS (sqL_of e3) (by rw [List.length_map]; have := S.len; omega) fun ys l2 pm st hl3 => ?_
        have k4 : Keep [] H3 (upd H3 l2 (.lst (ys.map V.str))) := Keep.new hl3
        have e4 : upd H3 l2 (.lst (ys.map V.str)) l2 = some (.lst (ys.map V.str)) := upd_same
        generalize upd H3 l2 (.lst (ys.map V.str)) = H4 at k4 e4 ⊢
        have k24 := k3.trans k4
        have kH4 := k2.trans k24
        have ed := k24 _ _ (by simp) e2
        have nd : ys.Nodup := pm.nodup_iff.mpr S.nd
        have asc := Fm.asc_of_sorted st nd
        have mem : ∀ x, x ∈ ys ↔ x ∈ ts.map (·.1) := fun x => (pm.mem_iff).trans (S.iff x)
        have ly : ys.length ≤ 60 := by have := pm.length_eq; rw [List.length_map] at this; have := S.len; omega
        refine lcL_go (fun D i acc H' => ∃ bs : List Addr, acc = bs.map V.ref ∧ PairsAt H' bs (Fm.rowOf (ys.take i) (Fm.wt ts)) ∧ Keep [] H4 H' ∧ H4 D = none) (sqL_of e4) (fun D hD => ⟨[], rfl, by simp [Fm.rowOf, PairsAt], Keep.new hD, hD⟩) (fun D i acc H' _ h => by obtain ⟨_, _, _, k, _⟩ := h; exact sqL_of (k _ _ (by simp) e4)) ?_ ?_
        · rintro D i x acc H5 hx hD ⟨bs, rfl, hb, k5, nD⟩
          obtain ⟨nm, hnm, rfl⟩ := getStr hx
          have ed5 := k5 _ _ (by simp) ed
          have hv : valV (Fm.kOf ks) (Sum.inr nm) = some (V.int (Fm.wt ts nm)) := by
            rw [Fm.val_kOf, S.find, if_pos ((mem nm).mp (List.mem_of_getElem? hnm))]
          have hlen := hb.len
          have hb60 : bs.length < 100000 := by
            have := List.length_filter_le (fun p : Fm.Tm => decide (p.2 ≠ 0)) ((ys.take i).map fun x => (x, Fm.wt ts x))
            unfold Fm.rowOf at hlen
            rw [List.length_map, List.length_take] at this
            omega
          walk_at "sts"
          refine r_dgetS ed5 hv ?_
          walk_at "sts"
          refine r_iteN (fun c => ?_) (fun c => ?_)
          · walk_at "sts"
            refine r_dgetS ed5 hv ?_
            walk_at "sts"
            intro t ht
            have k6 : Keep [] H5 (upd H5 t (.tup [.str nm, .int (Fm.wt ts nm)])) := Keep.new ht
            have e6 : upd H5 t (.tup [.str nm, .int (Fm.wt ts nm)]) t = some (.tup [.str nm, .int (Fm.wt ts nm)]) := upd_same
            generalize upd H5 t (.tup [.str nm, .int (Fm.wt ts nm)]) = H6 at k6 e6 ⊢
            have hD6 := k6 _ _ (by simp) hD
            refine lc_put hD6 (by rw [List.length_map]; exact lt_size hb60) ⟨bs ++ [t], by rw [List.map_append]; rfl, ?_, (k5.trans k6).mut nD, nD⟩
            rw [take_snoc hnm, Fm.rowOf_snoc, if_pos c]
            exact ((hb.keep0 k6).app (bs := [t]) (us := [(nm, Fm.wt ts nm)]) ⟨e6, trivial⟩).keep (Keep.at (M := [D]) (by simp)) (fun m hm => by rw [List.mem_singleton.mp hm]; exact ⟨_, hD6⟩)
          · walk_at "sts"
            exact ⟨_, hD, bs, rfl, by rw [take_snoc hnm, Fm.rowOf_snoc, if_neg (by simpa using c)]; exact hb, k5, nD⟩
        · rintro D acc H5 nD hD ⟨bs, rfl, hb, k5, _⟩
          rw [List.length_map, List.take_length, Fm.rowOf_can asc nd fun t ht => (mem _).mpr (List.mem_map_of_mem ht)] at hb
          walk_at "sts"
          refine r_tupL (sqL_of hD) fun u hu => ?_
          have kH5 := kH4.trans k5
          exact q u _ (kH5.trans (Keep.new hu)) (kH5.free (by simp) hu) ⟨bs, upd_same, hb.keep0 (Keep.new hu)⟩
    · refine ⟨_, (pss_cons (ps_set (i := 1) sc_added_terms.nd rfl (Or.inr rfl) pe_dnewK)
    (pss_cons (ps_for PassesOwn.never rfl (pi_tup (pv 0)) (pg_tup (n := 2) rfl (pgs_cons (pg_name (i := 2) sc_added_terms.nd rfl (Or.inl rfl)) (pgs_cons (pg_name (i := 3) sc_added_terms.nd rfl (Or.inl rfl)) pgs_nil)))
    (pss_cons (ps_if (pt_not (pt_val (pe_call G_is_quantity (hr.mono (by decide)) rfl T.g_is_quantity T.F_is_quantity.kp T.b_is_quantity .nil pass0 (pa_cons (pv 2) pa_nil))))
    (pss_one ps_never)
    pss_nil)
    (pss_one (ps_dput (hu_of hr) (pv 1) (pv 2) (pe_op op_add (pe_dget2 (hu_of hr) (pv 1) (pv 2) pe_int ⟨rfl, rfl, rfl, rfl⟩) (pv 3)) rfl))))
    (pss_one (ps_ret (pe_callTy call_tuple_of (by rfl) T.m_tuple (by decide +kernel) (pa_cons (pe_lc (own := [("name", 2)]) (g := gName 2)  rfl sc_added_terms.nd (pi_list (pe_callB cr_sortedS (by rfl) T.m_sorted (by decide +kernel) (pa_cons (pe_callTy (call_list_dK rfl) (by rfl) T.m_list (by decide +kernel) (pa_cons (pv 1) pa_nil)) pa_nil))) (blkOk_by (own := [("name", 2)]) (N := ["terms", "sums", "name", "weight"]) (sc := defScope s_added_terms) (by decide +kernel)) (fun _ _ _ _ _ => pg_name (i := 2) sc_added_terms.nd rfl (Or.inl rfl)) (fun _ _ _ _ _ => pts_one (pt_cmpR op_ne (pe_dget (hu_of hr) (pv 1) (pv 2) (fun _ _ => rfl)) pe_int (nomark _))) (fun _ _ _ _ _ => (pe_tup (pa_cons (pv 2) (pa_cons (pe_dget (hu_of hr) (pv 1) (pv 2) (fun _ _ => rfl)) pa_nil))))) pa_nil)))))), ?_⟩
      walk_at "start"
      walk_at "sts"
      intro d hd
      have k1 : Keep [] H (upd H d (.dK [])) := Keep.new hd
      have e1 : upd H d (.dK []) d = some (.dK (Fm.kOf [])) := upd_same
      generalize upd H d (.dK []) = H1 at k1 e1 ⊢
      walk_at "sts"
      refine forT_go (fun i σ' H' => ∃ (ks : List Fm.Tm) (x1 x2 : Option V), σ' = [some (.ref p), some (.ref d), x1, x2] ∧ H' d = some (.dK (Fm.kOf ks)) ∧ Fm.Sums ks (ts.take i) ∧ Keep [] H H') (sqT_of (k1 _ _ (by simp) ep)) ⟨[], _, _, rfl, e1, by simpa using Fm.Sums.nil, k1⟩ (fun i σ' H' _ h => by obtain ⟨_, _, _, _, _, _, k⟩ := h; exact sqT_of (k _ _ (by simp) ep)) ?_ ?_
      · rintro i x σ' H2 hx ⟨ks, x1, x2, rfl, e2, S, k2⟩
        obtain ⟨a, ha, rfl⟩ := getRef hx
        obtain ⟨t, ht, et⟩ := hp.get ha
        have et2 := k2 _ _ (by simp) et
        walk_at "sts"
        refine r_isQ (hq t (List.mem_of_getElem? ht)) fun H3 k3 => ?_
        have e3 := k3 _ _ (by simp) e2
        have k13 := k2.trans k3
        walk_at "sts"
        rw [hval S]
        walk_at "sts"
        refine r_dputS e3 (lt_size (by unfold Fm.kOf; rw [List.length_map]; have := S.len; rw [List.length_take] at this; omega)) ?_
        rw [Fm.put_kOf]
        exact ⟨_, _, _, rfl, upd_same, by rw [take_snoc ht]; exact S.put t, k13.mut hd⟩
      · rintro σ' H2 ⟨ks, x1, x2, rfl, e2, S, k2⟩
        rw [List.length_map, hp.len, List.take_length] at S
        walk_at "sts"
        refine r_listD e2 fun l hl2 => ?_
        rw [keys_kOf]
        have k3 : Keep [] H2 (upd H2 l (.lst ((ks.map (·.1)).map V.str))) := Keep.new hl2
        have e3 : upd H2 l (.lst ((ks.map (·.1)).map V.str)) l = some (.lst ((ks.map (·.1)).map V.str)) := upd_same
        generalize upd H2 l (.lst ((ks.map (·.1)).map V.str)) = H3 at k3 e3 ⊢
        walk_at "sts"
        refine r_sortS (sqL_of e3) (by rw [List.length_map]; have := S.len; omega) fun ys l2 pm st hl3 => ?_
        have k4 : Keep [] H3 (upd H3 l2 (.lst (ys.map V.str))) := Keep.new hl3
        have e4 : upd H3 l2 (.lst (ys.map V.str)) l2 = some (.lst (ys.map V.str)) := upd_same
        generalize upd H3 l2 (.lst (ys.map V.str)) = H4 at k4 e4 ⊢
        have k24 := k3.trans k4
        have kH4 := k2.trans k24
        have ed := k24 _ _ (by simp) e2
        have nd : ys.Nodup := pm.nodup_iff.mpr S.nd
        have asc := Fm.asc_of_sorted st nd
        have mem : ∀ x, x ∈ ys ↔ x ∈ ts.map (·.1) := fun x => (pm.mem_iff).trans (S.iff x)
        have ly : ys.length ≤ 60 := by have := pm.length_eq; rw [List.length_map] at this; have := S.len; omega
        refine lcL_go (fun D i acc H' => ∃ bs : List Addr, acc = bs.map V.ref ∧ PairsAt H' bs (Fm.rowOf (ys.take i) (Fm.wt ts)) ∧ Keep [] H4 H' ∧ H4 D = none) (sqL_of e4) (fun D hD => ⟨[], rfl, by simp [Fm.rowOf, PairsAt], Keep.new hD, hD⟩) (fun D i acc H' _ h => by obtain ⟨_, _, _, k, _⟩ := h; exact sqL_of (k _ _ (by simp) e4)) ?_ ?_
        · rintro D i x acc H5 hx hD ⟨bs, rfl, hb, k5, nD⟩
          obtain ⟨nm, hnm, rfl⟩ := getStr hx
          have ed5 := k5 _ _ (by simp) ed
          have hv : valV (Fm.kOf ks) (Sum.inr nm) = some (V.int (Fm.wt ts nm)) := by
            rw [Fm.val_kOf, S.find, if_pos ((mem nm).mp (List.mem_of_getElem? hnm))]
          have hlen := hb.len
          have hb60 : bs.length < 100000 := by
            have := List.length_filter_le (fun p : Fm.Tm => decide (p.2 ≠ 0)) ((ys.take i).map fun x => (x, Fm.wt ts x))
            unfold Fm.rowOf at hlen
            rw [List.length_map, List.length_take] at this
            omega
          walk_at "sts"
          refine r_dgetS ed5 hv ?_
          walk_at "sts"
          refine r_iteN (fun c => ?_) (fun c => ?_)
          · walk_at "sts"
            refine r_dgetS ed5 hv ?_
            walk_at "sts"
            intro t ht
            have k6 : Keep [] H5 (upd H5 t (.tup [.str nm, .int (Fm.wt ts nm)])) := Keep.new ht
            have e6 : upd H5 t (.tup [.str nm, .int (Fm.wt ts nm)]) t = some (.tup [.str nm, .int (Fm.wt ts nm)]) := upd_same
            generalize upd H5 t (.tup [.str nm, .int (Fm.wt ts nm)]) = H6 at k6 e6 ⊢
            have hD6 := k6 _ _ (by simp) hD
            refine lc_put hD6 (by rw [List.length_map]; exact lt_size hb60) ⟨bs ++ [t], by rw [List.map_append]; rfl, ?_, (k5.trans k6).mut nD, nD⟩
            rw [take_snoc hnm, Fm.rowOf_snoc, if_pos c]
            exact ((hb.keep0 k6).app (bs := [t]) (us := [(nm, Fm.wt ts nm)]) ⟨e6, trivial⟩).keep (Keep.at (M := [D]) (by simp)) (fun m hm => by rw [List.mem_singleton.mp hm]; exact ⟨_, hD6⟩)
          · walk_at "sts"
            exact ⟨_, hD, bs, rfl, by rw [take_snoc hnm, Fm.rowOf_snoc, if_neg (by simpa using c)]; exact hb, k5, nD⟩
        · rintro D acc H5 nD hD ⟨bs, rfl, hb, k5, _⟩
          rw [List.length_map, List.take_length, Fm.rowOf_can asc nd fun t ht => (mem _).mpr (List.mem_map_of_mem ht)] at hb
          walk_at "sts"
          refine r_tupL (sqL_of hD) fun u hu => ?_
          have kH5 := kH4.trans k5
          exact q u _ (kH5.trans (Keep.new hu)) (kH5.free (by simp) hu) ⟨bs, upd_same, hb.keep0 (Keep.new hu)⟩
end
/-! ### read, written -/
def spWeightOf : Sp := fun vs H Q _ => ∃ (p : Addr) (ts : List Fm.Tm) (x : Str), vs = [.ref p, .str x] ∧ TupAt H p ts ∧ Fm.Canon ts ∧ Q (.int (Fm.wt ts x)) H
def spNeed : Sp := fun vs H Q _ => ∃ (p d : Addr) (xs : List Str) (kvs : List (Key × V)), vs = [.ref p, .ref d] ∧ H p = some (.tup (xs.map V.str)) ∧ H d = some (.dK kvs) ∧ (∀ x ∈ xs, (valV kvs (Sum.inr x)).isSome = true) ∧ Q .non H
def spTerm : Sp := fun vs H Q _ => ∃ (n : Int) (x : Str), vs = [.int n, .str x] ∧ n.natAbs < 2 ^ 1500 ∧ x.length ≤ 12 ∧ Q (.str (if n = 1 then x else Wr.num n ++ Wr.sp ++ x)) H
def spWForm : Sp := fun vs H Q _ => ∃ (p : Addr) (ts : List Fm.Tm) (c : Int), vs = [.ref p, .int c] ∧ TupAt H p ts ∧ ts.length ≤ 60 ∧ (∀ t ∈ ts, IsQ t.1) ∧ (∀ t ∈ ts, t.2.natAbs < 2 ^ 1500) ∧ c.natAbs < 2 ^ 1500 ∧ ∀ H', Keep [] H H' → Q (.str (Wr.prog ts c)) H'
theorem fmtS {x : Str} {F : Str → Prop} (h : x.length ≤ sizeLine) (k : F x) : (∃ y : Str, V.str x = .str y ∧ y.length ≤ sizeLine ∧ F y) ∨ ∃ i : Int, V.str x = .int i ∧ i.natAbs.log2 < 1920 ∧ F (toString i) := .inl ⟨x, rfl, h, k⟩
theorem fmtI {i : Int} {F : Str → Prop} (h : i.natAbs < 2 ^ 1500) (k : F (Wr.num i)) : (∃ y : Str, V.int i = .str y ∧ y.length ≤ sizeLine ∧ F y) ∨ ∃ j : Int, V.int i = .int j ∧ j.natAbs.log2 < 1920 ∧ F (toString j) := .inr ⟨i, rfl, Nat.lt_trans (log2_of h (by decide)) (by decide), k⟩
theorem num_le {i : Int} (h : i.natAbs < 2 ^ 1500) : (Wr.num i).length ≤ 1600 := by
  have := Wr.num_len (k := 1500) (by decide) (log2_of h (by decide))
  omega
section
variable {P : Program} {w : World} {K : PySem.W.Frag} {mg : Str → Option Value} {base : Heap}
theorem ok_weightOf (T : Tx K mg) : FnOk P w K mg base CX0 1 T.f_weight_of T.fd_weight_of ["terms", "name"] spWeightOf := by
  refine T.F_weight_of.ok sc_weight_of (fun vs H Q E h => ?_) (fun cdv A outer s H vs Q E hr h => ?_)
  · obtain ⟨a, ts, x, rfl, _⟩ := h; rfl
  · obtain ⟨p, ts, x, rfl, ⟨as, ep, hp⟩, hc, q⟩ := h
    refine ⟨_, (pss_cons (ps_for PassesOwn.never rfl (pi_tup (pv 0)) (pg_tup (n := 2) rfl (pgs_cons (pg_name (i := 2) sc_weight_of.nd rfl (Or.inl rfl)) (pgs_cons (pg_name (i := 3) sc_weight_of.nd rfl (Or.inl rfl)) pgs_nil)))
    (pss_one (ps_if (pt_cmpR op_eq (pv 2) (pv 1) (nomark _))
    (pss_one (ps_ret (pv 3)))
    pss_nil)))
    (pss_one (ps_ret pe_int))), ?_⟩
    walk_at "start"
    walk_at "sts"
    refine forT_go (fun i σ' H' => ∃ (x1 x2 : Option V), σ' = [some (.ref p), some (.str x), x1, x2] ∧ H' = H ∧ ∀ t ∈ ts.take i, t.1 ≠ x) (sqT_of ep) ⟨_, _, rfl, rfl, by simp⟩ (fun i σ' H' _ h => by obtain ⟨_, _, _, rfl, _⟩ := h; exact sqT_of ep) ?_ ?_
    · rintro i v σ' H' hx ⟨x1, x2, rfl, rfl, hn⟩
      obtain ⟨a, ha, rfl⟩ := getRef hx
      obtain ⟨t, ht, et⟩ := hp.get ha
      walk_at "sts"
      refine r_ite (fun c => ?_) (fun c => ?_)
      · walk_at "sts"
        rw [← c, hc.wt_mem (List.mem_of_getElem? ht)] at q
        exact q
      · walk_at "sts"
        refine ⟨_, _, rfl, rfl, fun z hz => ?_⟩
        rw [take_snoc ht] at hz
        rcases List.mem_append.mp hz with hz | hz
        · exact hn z hz
        · rw [List.mem_singleton.mp hz]; exact c
    · rintro σ' H' ⟨x1, x2, rfl, rfl, hn⟩
      rw [List.length_map, hp.len, List.take_length] at hn
      walk_at "sts"
      rw [Fm.wt_none hn] at q
      exact q
theorem ok_need (T : Tx K mg) : FnOk P w K mg base CX0 1 T.f_need_levels T.fd_need_levels ["names", "world"] spNeed := by
  refine T.F_need_levels.ok sc_need_levels (fun vs H Q E h => ?_) (fun cdv A outer s H vs Q E hr h => ?_)
  · obtain ⟨a, d, xs, kvs, rfl, _⟩ := h; rfl
  · obtain ⟨p, d, xs, kvs, rfl, hp, hd, hx, q⟩ := h
    refine ⟨_, (pss_one (ps_for PassesOwn.never rfl (pi_tup (pv 0)) (pg_name (i := 2) sc_need_levels.nd rfl (Or.inl rfl))
    (pss_one (ps_if (pt_cmp (pc_dnotin (hu_of hr) (pv 2) (pv 1)))
    (pss_one ps_never)
    pss_nil)))), ?_⟩
    walk_at "start"
    walk_at "sts"
    refine forT_go (fun i σ' H' => ∃ (x1 : Option V), σ' = [some (.ref p), some (.ref d), x1] ∧ H' = H) (sqT_of hp) ⟨_, rfl, rfl⟩ (fun i σ' H' _ h => by obtain ⟨_, _, rfl⟩ := h; exact sqT_of hp) ?_ ?_
    · rintro i v σ' H' hv ⟨x1, rfl, rfl⟩
      obtain ⟨nm, hnm, rfl⟩ := getStr hv
      walk_at "sts"
      refine r_dinS hd ?_
      rw [hx nm (List.mem_of_getElem? hnm)]
      walk_at "sts"
      exact ⟨_, rfl, rfl⟩
    · rintro σ' H' ⟨x1, rfl, rfl⟩
      walk_at "sts"
      exact q
theorem ok_term (T : Tx K mg) : FnOk P w K mg base CX0 1 T.f_write_term T.fd_write_term ["size", "name"] spTerm := by
  refine T.F_write_term.ok sc_write_term (fun vs H Q E h => ?_) (fun cdv A outer s H vs Q E hr h => ?_)
  · obtain ⟨a, ts, rfl, _⟩ := h; rfl
  · obtain ⟨n, x, rfl, hn, hx, q⟩ := h
    have hl := num_le hn
    refine ⟨_, (pss_one (ps_ret (pe_ifExp (pt_cmpR op_eq (pv 0) pe_int (nomark _)) (pv 1) (pe_joined (.cons (pe_fmt (pv 0)) (.cons pe_str (.cons (pe_fmt (pv 1)) .nil))))))), ?_⟩
    walk_at "start"
    walk_at "sts"
    refine r_ite (fun c => ?_) (fun c => ?_)
    · walk_at "sts"
      rw [if_pos c] at q; exact q
    · rw [if_neg c] at q
      walk_at "sts"
      refine fmtI hn ?_
      refine r_jsS (le_size (by rw [Wr.emp_app]; omega)) ?_
      rw [Wr.emp_app]
      walk_at "sts"
      have h1 : (Wr.sp).length = 1 := rfl
      refine r_jsS (le_size (by rw [Wr.len_app]; show _ + Wr.sp.length ≤ _; omega)) ?_
      walk_at "sts"
      refine fmtS (le_size (by omega)) ?_
      refine r_jsS (le_size (by rw [Wr.len_app, Wr.len_app]; show _ + Wr.sp.length + _ ≤ _; omega)) ?_
      walk_at "sts"
      exact q
end
/-! ### a form written -/
def fPt (p : Wr.Pt) : HO := .tup [.int p.1, .str p.2]
theorem not_fPt {H : Hp} {m : Addr} {xs : List V} (h : H m = some (.lst xs)) : ∀ z ∈ [m], ∀ x, H z ≠ some (fPt x) := fun z hz x e => by
  rw [List.mem_singleton.mp hz, h] at e; cases e
theorem part_len {t : Fm.Tm} (h1 : IsQ t.1) (h2 : t.2.natAbs < 2 ^ 1500) : (Wr.part t.2 t.1).length ≤ 1700 := by
  have := h1.len
  have e := num_le (i := (t.2.natAbs : Int)) (by rw [Int.natAbs_natCast]; exact h2)
  unfold Wr.part
  split
  · omega
  · rw [Wr.len_app, Wr.len_app]; have : Wr.sp.length = 1 := rfl; omega
theorem pts_len {ts : List Fm.Tm} {c : Int} (hq : ∀ t ∈ ts, IsQ t.1) (hw : ∀ t ∈ ts, t.2.natAbs < 2 ^ 1500) (hc : c.natAbs < 2 ^ 1500) : ∀ p ∈ Wr.pts ts c, p.2.length ≤ 1700 := fun p hp => by
  unfold Wr.pts at hp
  rcases List.mem_append.mp hp with hp | hp
  · obtain ⟨t, ht, rfl⟩ := List.mem_map.mp hp
    exact part_len (hq t ht) (hw t ht)
  · split at hp
    · rw [List.mem_singleton.mp hp]
      have := num_le (i := (c.natAbs : Int)) (by rw [Int.natAbs_natCast]; exact hc)
      show (Wr.num _).length ≤ _; omega
    · cases hp
theorem pts_count {ts : List Fm.Tm} {c : Int} : (Wr.pts ts c).length ≤ ts.length + 1 ∧ 0 < (Wr.pts ts c).length := by
  unfold Wr.pts
  rw [List.length_append, List.length_map]
  by_cases h : c ≠ 0 ∨ ts = []
  · rw [if_pos h]; simp
  · rw [if_neg h]
    have : ts ≠ [] := fun e => h (.inr e)
    have := List.length_pos_iff.mpr this
    simp; omega
theorem cut_1 {as : List Addr} : cutV (as.map V.ref) (some 1) none = (as.drop 1).map V.ref := by
  unfold cutV
  rw [HT.sIx_none, show HT.sIx (as.map V.ref).length 0 (some 1) = min 1 (as.map V.ref).length from HT.sIx_nat _ _ 1, List.length_map, ← List.map_drop]
  rw [List.take_of_length_le (by simp)]
  cases as with
  | nil => rfl
  | cons a as => simp
section
variable {P : Program} {w : World} {K : PySem.W.Frag} {mg : Str → Option Value} {base : Heap}
theorem ok_wform (T : Tx K mg) (G_write_term : FnOk P w K mg base CX0 1 T.f_write_term T.fd_write_term ["size", "name"] spTerm) : FnOk P w K mg base CX0 2 T.f_write_form T.fd_write_form ["terms", "constant"] spWForm := by
  refine T.F_write_form.ok sc_write_form (fun vs H Q E h => ?_) (fun cdv A outer s H vs Q E hr h => ?_)
  · obtain ⟨a, ts, c, rfl, _⟩ := h; rfl
  · obtain ⟨p, ts, c, rfl, ⟨as, ep, hp⟩, hl, hq, hw, hc, q⟩ := h
    have hlen := hp.len
    refine ⟨_, (pss_cons (ps_setLc (i := 2) (own := [("name", 3), ("weight", 4)]) (g := gTup K 2 (gCons (gName 3) (gCons (gName 4) gNil))) (tt := tYes) rfl sc_write_form.nd rfl rfl (sw_true rfl rfl rfl (by decide +kernel)) (pi_tup (pv 0)) (blkOk_by (own := [("name", 3), ("weight", 4)]) (N := ["terms", "constant", "parts", "name", "weight", "text", "words"]) (sc := defScope s_write_form) (by decide +kernel)) (fun _ _ _ _ _ => pg_tup (n := 2) rfl (pgs_cons (pg_name (i := 3) sc_write_form.nd rfl (Or.inl rfl)) (pgs_cons (pg_name (i := 4) sc_write_form.nd rfl (Or.inl rfl)) pgs_nil))) (fun _ _ _ _ _ => pts_nil) (fun _ _ _ _ _ => (pe_tup (pa_cons (pv 4) (pa_cons (pe_call G_write_term (hr.mono (by decide)) rfl T.g_write_term T.F_write_term.kp T.b_write_term .nil pass0 (pa_cons (pe_callB call_abs (by rfl) T.m_abs (by decide +kernel) (pa_cons (pv 4) pa_nil)) (pa_cons (pv 3) pa_nil))) pa_nil)))))
    (Evl.pss_cut (ps_if (PW.pt (pw_or (pt_cmpR op_ne (pv 1) pe_int (nomark _)) (pw_or1 (pt_cmpR op_eq (pe_callB call_len_seq (by rfl) T.m_len PySem.boot_len (pa_cons (pv 2) pa_nil)) pe_int (nomark _)))))
    (pss_one (ps_expr (pe_bm PySem.F.plainAttrs_list PySem.F.slot_list_append PySem.F.type_list_append mt_append (pv 2) (pa_cons (pe_tup (pa_cons (pv 1) (pa_cons (pe_callTy call_str_int (by rfl) T.m_str (by decide +kernel) (pa_cons (pe_callB call_abs (by rfl) T.m_abs (by decide +kernel) (pa_cons (pv 1) pa_nil)) pa_nil)) pa_nil))) pa_nil))))
    pss_nil)
    (pss_cons (ps_asg (pe_ix ix_list (pv 2) pe_int (fun _ _ => rfl)) (pg_tup (n := 2) rfl (pgs_cons (pg_name (i := 4) sc_write_form.nd rfl (Or.inl rfl)) (pgs_cons (pg_name (i := 5) sc_write_form.nd rfl (Or.inl rfl)) pgs_nil))))
    (Evl.pss_cut (ps_set (i := 6) sc_write_form.nd rfl (Or.inl rfl) (pe_lst (pa_cons (pe_ifExp (pt_cmpR op_lt (pv 4) pe_int (nomark _)) (pe_joined (.cons pe_str (.cons (pe_fmt (pv 5)) .nil))) (pv 5)) pa_nil)))
    (pss_cons (ps_for PassesOwn.never rfl (pi_list (pe_slice sl_list (pv 2) (po_some pe_int) po_none)) (pg_tup (n := 2) rfl (pgs_cons (pg_name (i := 4) sc_write_form.nd rfl (Or.inl rfl)) (pgs_cons (pg_name (i := 5) sc_write_form.nd rfl (Or.inl rfl)) pgs_nil)))
    (pss_cons (ps_expr (pe_bm PySem.F.plainAttrs_list PySem.F.slot_list_append PySem.F.type_list_append mt_append (pv 6) (pa_cons (pe_ifExp (pt_cmpR op_lt (pv 4) pe_int (nomark _)) pe_str pe_str) pa_nil)))
    (pss_one (ps_expr (pe_bm PySem.F.plainAttrs_list PySem.F.slot_list_append PySem.F.type_list_append mt_append (pv 6) (pa_cons (pv 5) pa_nil))))))
    (pss_one (ps_ret (pe_bm PySem.F.plainAttrs_str PySem.F.slot_str_join PySem.F.type_str_join mt_join pe_str (pa_cons (pv 6) pa_nil))))))))), ?_⟩
    walk_at "start"
    walk_at "sts"
    refine lcT_go (fun D i acc H' => ∃ bs : List Addr, acc = bs.map V.ref ∧ AllAt fPt H' bs ((ts.take i).map fun p => (p.2, Wr.part p.2 p.1)) ∧ Keep [] H H' ∧ H D = none) (sqT_of ep) (fun D hD => ⟨[], rfl, trivial, Keep.new hD, hD⟩) (fun D i acc H' _ h => by obtain ⟨_, _, _, k, _⟩ := h; exact sqT_of (k _ _ (by simp) ep)) ?_ ?_
    · rintro D i x acc H1 hx hD ⟨bs, rfl, hb, k1, nD⟩
      obtain ⟨a, ha, rfl⟩ := getRef hx
      obtain ⟨t, ht, et⟩ := hp.get ha
      have et1 := k1 _ _ (by simp) et
      have mt := List.mem_of_getElem? ht
      have hbl := hb.len
      rw [List.length_map, List.length_take] at hbl
      refine r_gTup2 (sqT_of et1) ?_
      refine ⟨rfl, ?_⟩
      simp only [L2.wipe, List.map_cons, List.map_nil, List.set_cons_zero, List.set_cons_succ]
      walk_at "sts"
      refine ⟨_, _, rfl, by rw [Int.natAbs_natCast]; exact hw t mt, (hq t mt).len, ?_⟩
      walk_at "sts"
      intro z hz
      have k2 : Keep [] H1 (upd H1 z (fPt (t.2, Wr.part t.2 t.1))) := Keep.new hz
      have e2 : upd H1 z (fPt (t.2, Wr.part t.2 t.1)) z = some (fPt (t.2, Wr.part t.2 t.1)) := upd_same
      have hD2 := k2 _ _ (by simp) hD
      refine lc_put (acc := bs.map V.ref) hD2 (by rw [List.length_map]; exact lt_size (by omega)) ⟨bs ++ [z], by rw [List.map_append]; rfl, ?_, (k1.trans k2).mut nD, nD⟩
      rw [take_snoc ht, List.map_append]
      exact ((hb.keep0 k2).app (bs := [z]) (ys := [(t.2, Wr.part t.2 t.1)]) ⟨e2, trivial⟩).keep (Keep.at (M := [D]) (by simp)) (not_fPt hD2)
    · rintro D acc H1 nD hD ⟨bs, rfl, hb, k1, _⟩
      rw [List.take_of_length_le (by rw [List.length_map, hlen]; exact Nat.le_refl _)] at hb
      have hbl := hb.len
      rw [List.length_map] at hbl
      have hnd := pts_count (ts := ts) (c := c)
      walk_at "sts"
      refine r_cut (fun σ' H' => ∃ (cs : List Addr), σ' = [some (.ref p), some (.int c), some (.ref D), none, none, none, none] ∧ H' D = some (.lst (cs.map V.ref)) ∧ AllAt fPt H' cs (Wr.pts ts c) ∧ Keep [] H H') ?_ ?_
      · walk_at "sts"
        refine r_iteN (fun c1 => ?_) (fun c1 => ?_)
        · walk_at "sts"
          refine ⟨Nat.lt_trans (log2_of (n := 1500) (by rw [Int.natAbs_natCast]; exact hc) (by decide)) (by decide), ?_⟩
          walk_at "sts"
          intro z hz
          have k2 : Keep [] H1 (upd H1 z (fPt (c, Wr.num (c.natAbs : Int)))) := Keep.new hz
          have e2 : upd H1 z (fPt (c, Wr.num (c.natAbs : Int))) z = some (fPt (c, Wr.num (c.natAbs : Int))) := upd_same
          have hD2 := k2 _ _ (by simp) hD
          walk_at "sts"
          refine ⟨bs ++ [z], by first | exact rfl | trivial, by rw [upd_same, List.map_append]; rfl, ?_, (k1.trans k2).mut nD⟩
          unfold Wr.pts
          rw [if_pos (.inl c1)]
          exact ((hb.keep0 k2).app (bs := [z]) (ys := [(c, Wr.num (c.natAbs : Int))]) ⟨e2, trivial⟩).keep (Keep.at (M := [D]) (by simp)) (not_fPt hD2)
        · walk_at "sts"
          simp only [List.length_map]
          refine r_ite (fun c2 => ?_) (fun c2 => ?_)
          · have h0 : ts = [] := List.length_eq_zero_iff.mp (by omega)
            walk_at "sts"
            refine ⟨Nat.lt_trans (log2_of (n := 1500) (by rw [Int.natAbs_natCast]; exact hc) (by decide)) (by decide), ?_⟩
            walk_at "sts"
            intro z hz
            have k2 : Keep [] H1 (upd H1 z (fPt (c, Wr.num (c.natAbs : Int)))) := Keep.new hz
            have e2 : upd H1 z (fPt (c, Wr.num (c.natAbs : Int))) z = some (fPt (c, Wr.num (c.natAbs : Int))) := upd_same
            have hD2 := k2 _ _ (by simp) hD
            walk_at "sts"
            refine ⟨bs ++ [z], by first | exact rfl | trivial, by rw [upd_same, List.map_append]; rfl, ?_, (k1.trans k2).mut nD⟩
            unfold Wr.pts
            rw [if_pos (.inr h0)]
            exact ((hb.keep0 k2).app (bs := [z]) (ys := [(c, Wr.num (c.natAbs : Int))]) ⟨e2, trivial⟩).keep (Keep.at (M := [D]) (by simp)) (not_fPt hD2)
          · walk_at "sts"
            refine ⟨bs, by first | exact rfl | trivial, hD, ?_, k1⟩
            unfold Wr.pts
            rw [if_neg (fun z => z.elim (fun z => z c1) (fun z => c2 (by rw [hbl, z]; rfl))), List.append_nil]
            exact hb
      · rintro σ' H2 ⟨cs, rfl, e2, r2, k2⟩
        have hcl := r2.len
        have hpl := pts_len hq hw hc
        obtain ⟨hd, hpts⟩ : ∃ hd, (Wr.pts ts c)[0]? = some hd := ⟨_, List.getElem?_eq_getElem hnd.2⟩
        obtain ⟨a0, ha0⟩ : ∃ a0, cs[0]? = some a0 := ⟨_, List.getElem?_eq_getElem (by omega)⟩
        obtain ⟨hd', hp', e0⟩ := r2.get ha0
        obtain rfl : hd' = hd := Option.some.inj (hp'.symm.trans hpts)
        have l0 := hpl _ (List.mem_of_getElem? hpts)
        have hsplit : Wr.pts ts c = hd' :: (Wr.pts ts c).drop 1 := by
          cases hz : Wr.pts ts c with
          | nil => rw [hz] at hnd; simp at hnd
          | cons x r => rw [hz] at hpts; simp at hpts; rw [hpts]; rfl
        have e0' : H2 a0 = some (.tup [.int hd'.1, .str hd'.2]) := e0
        walk_at "sts"
        refine r_ixL (sqL_of e2) (atI_nat (j := 0) (v := V.ref a0) (by rw [List.getElem?_map, ha0]; rfl)) ?_
        walk_at "sts"
        refine r_cut (fun σ' H' => ∃ (lw : Addr), σ' = [some (.ref p), some (.int c), some (.ref D), none, some (.int hd'.1), some (.str hd'.2), some (.ref lw)] ∧ H' lw = some (.lst (([Wr.first hd'] : List Str).map V.str)) ∧ Keep [] H2 H' ∧ H2 lw = none) ?_ ?_
        · walk_at "sts"
          refine r_ite (fun c1 => ?_) (fun c1 => ?_)
          · walk_at "sts"
            refine r_jsS (by rw [Wr.emp_app]; decide +kernel) ?_
            rw [Wr.emp_app]
            walk_at "sts"
            refine fmtS (le_size (by omega)) ?_
            refine r_jsS (le_size (by rw [Wr.len_app]; have : (Str.ofString "-").length = 1 := rfl; omega)) ?_
            walk_at "sts"
            intro lw hlw
            walk_at "sts"
            exact ⟨lw, by first | exact rfl | trivial, by rw [upd_same]; unfold Wr.first; rw [if_pos c1]; rfl, Keep.new hlw, hlw⟩
          · walk_at "sts"
            intro lw hlw
            walk_at "sts"
            exact ⟨lw, by first | exact rfl | trivial, by rw [upd_same]; unfold Wr.first; rw [if_neg c1]; rfl, Keep.new hlw, hlw⟩
        · rintro σ' H3 ⟨lw, rfl, e3, k3, n3⟩
          have r3 := r2.keep0 k3
          have eD := k3 _ _ (by simp) e2
          walk_at "sts"
          refine r_slL (sqL_of eD) (fun s hs => ?_)
          rw [cut_1]
          have k4 : Keep [] H3 (upd H3 s (.lst ((cs.drop 1).map V.ref))) := Keep.new hs
          have e4 : upd H3 s (.lst ((cs.drop 1).map V.ref)) s = some (.lst ((cs.drop 1).map V.ref)) := upd_same
          have elw := k4 _ _ (by simp) e3
          have nsl : lw ≠ s := ne_free e3 hs |>.symm
          generalize upd H3 s (.lst ((cs.drop 1).map V.ref)) = H4 at k4 e4 elw ⊢
          have r4 := r3.keep0 k4
          refine forL_go (fun i σ' H' => ∃ (x1 x2 : Option V), σ' = [some (.ref p), some (.int c), some (.ref D), none, x1, x2, some (.ref lw)] ∧ H' lw = some (.lst ((Wr.first hd' :: Wr.tailW (((Wr.pts ts c).drop 1).take i)).map V.str)) ∧ Keep [lw] H4 H') (sqL_of e4) ⟨_, _, rfl, elw, Keep.refl _ _⟩ (fun i σ' H' _ h => by obtain ⟨_, _, _, _, k⟩ := h; exact sqL_of (k _ _ (by simpa using nsl.symm) e4)) ?_ ?_
          · rintro i x σ' H5 hx ⟨x1, x2, rfl, e5, k5⟩
            obtain ⟨a, ha, rfl⟩ := getRef hx
            obtain ⟨y, hy, ey⟩ := r4.get (i := i + 1) (a := a) (by rw [List.getElem?_drop] at ha; rw [Nat.add_comm]; exact ha)
            have ey4 : H4 a = some (.tup [.int y.1, .str y.2]) := ey
            have ey5 : H5 a = some (.tup [.int y.1, .str y.2]) := k5 _ _ (by simp; rintro rfl; rw [elw] at ey4; cases ey4) ey4
            have hy' : ((Wr.pts ts c).drop 1)[i]? = some y := by rw [List.getElem?_drop, Nat.add_comm]; exact hy
            have hi := (List.getElem?_eq_some_iff.mp hy').1
            rw [List.length_drop] at hi
            have lt : (Wr.tailW (((Wr.pts ts c).drop 1).take i)).length ≤ 2 * 61 := by
              rw [Wr.tailW_len, List.length_take]; omega
            have tk : Wr.tailW (((Wr.pts ts c).drop 1).take (i + 1)) = Wr.tailW (((Wr.pts ts c).drop 1).take i) ++ [Wr.sg y.1, y.2] := by rw [take_snoc hy', Wr.tailW_snoc]
            have fin : ∀ z : Str, z = Wr.sg y.1 → ((Wr.first hd' :: Wr.tailW (((Wr.pts ts c).drop 1).take i)).map V.str ++ [V.str z]) ++ [V.str y.2] = (Wr.first hd' :: Wr.tailW (((Wr.pts ts c).drop 1).take (i + 1))).map V.str := fun z hz => by
              rw [tk, hz]; simp
            walk_at "sts"
            refine r_ite (fun c3 => ?_) (fun c3 => ?_)
            · walk_at "sts"
              exact ⟨_, _, by first | exact rfl | trivial, by rw [upd_same, fin _ (by unfold Wr.sg; rw [if_pos c3])], by rw [upd_upd]; exact k5.trans (Keep.at (by simp))⟩
            · walk_at "sts"
              exact ⟨_, _, by first | exact rfl | trivial, by rw [upd_same, fin _ (by unfold Wr.sg; rw [if_neg c3])], by rw [upd_upd]; exact k5.trans (Keep.at (by simp))⟩
          · rintro σ' H5 ⟨x1, x2, rfl, e5, k5⟩
            rw [List.length_map, List.length_drop, hcl, show (Wr.pts ts c).length - 1 = ((Wr.pts ts c).drop 1).length by rw [List.length_drop], List.take_length] at e5
            have ew : Wr.first hd' :: Wr.tailW ((Wr.pts ts c).drop 1) = Wr.words (Wr.pts ts c) := by
              have z := congrArg Wr.words hsplit
              exact z.symm
            have kA : Keep [] H H5 := fun b o _ hb => by
              have h4 := (k2.trans (k3.trans k4)) b o (by simp) hb
              exact k5 b o (by simp; rintro rfl; exact absurd (k2 b o (by simp) hb) (by rw [n3]; simp)) h4
            walk_at "sts"
            refine ⟨rfl, ?_⟩
            walk_at "sts"
            rw [ew] at e5
            have wl : (Wr.words (Wr.pts ts c)).length ≤ 200 := by
              rw [← ew, List.length_cons, Wr.tailW_len, List.length_drop]; omega
            have wy : ∀ y ∈ Wr.words (Wr.pts ts c), y.length ≤ 1800 := fun y hy => by
              rw [← ew] at hy
              rcases List.mem_cons.mp hy with rfl | hy
              · unfold Wr.first; split
                · rw [Wr.len_app]; have : (Str.ofString "-").length = 1 := rfl; omega
                · omega
              · rcases Wr.tailW_mem hy with ⟨w, rfl⟩ | ⟨z, hz, rfl⟩
                · unfold Wr.sg; split <;> decide +kernel
                · have := hpl z (List.mem_of_mem_drop hz); omega
            have ws := Wr.sum_len wy
            refine ⟨_, _, Wr.words (Wr.pts ts c), rfl, rfl, .inl (sqL_of e5), ?_, by rw [show Txt.join (Str.ofString " ") (Wr.words (Wr.pts ts c)) = Wr.prog ts c from PySem.StrLaws.glued_eq_join _ _]; exact q _ kA⟩
            have : (Str.ofString " ").length = 1 := rfl
            rw [this, Nat.mul_one]
            have := Nat.mul_le_mul_right 1800 wl
            omega
end
/-! ### forms as objects -/
theorem put2 {v w : V} : putF (Str.ofString "constant") v [((Str.ofString "terms"), w)] = [((Str.ofString "terms"), w), ((Str.ofString "constant"), v)] := by
  unfold putF
  rw [if_neg (show ¬ (Str.ofString "terms") = (Str.ofString "constant") by decide +kernel)]
  rfl
theorem r_catT {K : PySem.W.Frag} {t u : Addr} {ts us : List Fm.Tm} {H : Hp} {Q : VK} (ht : TupAt H t ts) (hu : TupAt H u us) (hl : ts.length + us.length ≤ 60) (k : ∀ p H', Keep [] H H' → TupAt H' p (ts ++ us) → Q (.ref p) H') : rCatA K (.ref t) (.ref u) H Q := by
  obtain ⟨as, et, pt⟩ := ht
  obtain ⟨bs, eu, pu⟩ := hu
  have l1 := pt.len
  have l2 := pu.len
  refine ⟨t, u, as.map V.ref, bs.map V.ref, rfl, rfl, sqT_of et, sqT_of eu, by rw [List.length_map, List.length_map]; exact le_size (by omega), fun e => ?_, fun _ e => ?_, fun _ _ p hp => ?_⟩
  · have e0 : as = [] := List.map_eq_nil_iff.mp e
    subst e0
    have : ts = [] := List.length_eq_zero_iff.mp l1.symm
    subst this
    exact k u H (Keep.refl _ _) ⟨bs, eu, pu⟩
  · have e0 : bs = [] := List.map_eq_nil_iff.mp e
    subst e0
    have : us = [] := List.length_eq_zero_iff.mp l2.symm
    subst this
    rw [List.append_nil] at k
    exact k t H (Keep.refl _ _) ⟨as, et, pt⟩
  · exact k p _ (Keep.new hp) ⟨as ++ bs, by rw [upd_same, List.map_append], (pt.app pu).keep0 (Keep.new hp)⟩
/-- the form of the terms ts and the constant c at x -/
def FormAt (C : Addr) (H : Hp) (x : Addr) (ts : List Fm.Tm) (c : Int) : Prop := ∃ dx t, H x = some (.ins C dx [("terms", .ref t), ("constant", .int c)]) ∧ TupAt H t ts
theorem TupAt.keep {M : List Addr} {H H' : Hp} {t : Addr} {ts : List Fm.Tm} (h : TupAt H t ts) (k : Keep M H H') (n : ∀ m ∈ M, ∃ xs, H m = some (.lst xs)) : TupAt H' t ts := by
  obtain ⟨as, e, p⟩ := h
  refine ⟨as, k _ _ (fun hm => ?_) e, p.keep k n⟩
  obtain ⟨xs, hx⟩ := n t hm
  rw [hx] at e; cases e
theorem RowAt.keep0 {H H' : Hp} {t : Addr} {ts : List Fm.Tm} (h : RowAt H t ts) (k : Keep [] H H') : RowAt H' t ts := by
  obtain ⟨as, e, p⟩ := h
  exact ⟨as, k _ _ (by simp) e, p.keep0 k⟩
theorem TupAt.keep0 {H H' : Hp} {t : Addr} {ts : List Fm.Tm} (h : TupAt H t ts) (k : Keep [] H H') : TupAt H' t ts := h.keep k (by simp)
theorem FormAt.keep {C : Addr} {M : List Addr} {H H' : Hp} {x : Addr} {ts : List Fm.Tm} {c : Int} (h : FormAt C H x ts c) (k : Keep M H H') (n : ∀ m ∈ M, ∃ xs, H m = some (.lst xs)) : FormAt C H' x ts c := by
  obtain ⟨dx, t, e, p⟩ := h
  refine ⟨dx, t, k _ _ (fun hm => ?_) e, p.keep k n⟩
  obtain ⟨xs, hx⟩ := n x hm
  rw [hx] at e; cases e
theorem FormAt.keep0 {C : Addr} {H H' : Hp} {x : Addr} {ts : List Fm.Tm} {c : Int} (h : FormAt C H x ts c) (k : Keep [] H H') : FormAt C H' x ts c := h.keep k (by simp)
/-- an instance changed alone keeps the rows -/
theorem PairsAt.keepI {C dx x : Addr} {fs : List (Str × V)} {H H' : Hp} {as : List Addr} {ts : List Fm.Tm} (h : PairsAt H as ts) (k : Keep [x] H H') (e : H x = some (.ins C dx fs)) : PairsAt H' as ts := h.mono fun a p _ _ ea => k a _ (by simp; rintro rfl; rw [e] at ea; cases ea) ea
def spInit (C : Addr) : Sp := fun vs H Q _ => ∃ (x dx p : Addr) (ts : List Fm.Tm) (c : Int), vs = [.ref x, .ref p, .int c] ∧ H x = some (.ins C dx []) ∧ (RowAt H p ts ∨ TupAt H p ts) ∧ ts.length ≤ 60 ∧ (∀ t ∈ ts, IsQ t.1) ∧ ∀ H', Keep [x] H H' → FormAt C H' x (Fm.can ts) c → Q .non H'
theorem r_newForm {C p : Addr} {ts : List Fm.Tm} {c : Int} {H : Hp} {R : Addr → Hp → Prop} {E : XK} (hp : RowAt H p ts ∨ TupAt H p ts) (hl : ts.length ≤ 60) (hq : ∀ t ∈ ts, IsQ t.1) (k : ∀ x H', Keep [] H H' → H x = none → FormAt C H' x (Fm.can ts) c → R x H') :
    ∀ x dx, H x = none → H dx = none → dx ≠ x → spInit C [.ref x, .ref p, .int c] (upd (upd H dx (.own x)) x (.ins C dx [])) (fun v H2 => v = .non ∧ R x H2) E := fun x dx nx ndx ne => by
  have k0 : Keep [] H (upd (upd H dx (.own x)) x (.ins C dx [])) := (Keep.new ndx).mut nx
  refine ⟨x, dx, p, ts, c, rfl, upd_same, hp.imp (fun h => h.keep0 k0) fun h => h.keep0 k0, hl, hq, fun H' k1 f => ⟨rfl, k x H' (fun b o _ hb => ?_) nx f⟩⟩
  exact k1 b o (by simp; rintro rfl; rw [nx] at hb; cases hb) (k0 b o (by simp) hb)
def spAdd (C : Addr) : Sp := fun vs H Q _ => ∃ (x y : Addr) (ts us : List Fm.Tm) (c d : Int), vs = [.ref x, .ref y] ∧ FormAt C H x ts c ∧ FormAt C H y us d ∧ ts.length + us.length ≤ 60 ∧ (∀ t ∈ ts, IsQ t.1) ∧ (∀ t ∈ us, IsQ t.1) ∧ ∀ z H', Keep [] H H' → H z = none → FormAt C H' z (Fm.can (ts ++ us)) (c + d) → Q (.ref z) H'
def spMul (C : Addr) : Sp := fun vs H Q _ => ∃ (x : Addr) (ts : List Fm.Tm) (c n : Int), vs = [.ref x, .int n] ∧ FormAt C H x ts c ∧ ts.length ≤ 60 ∧ (∀ t ∈ ts, IsQ t.1) ∧ (∀ t ∈ ts, t.2.natAbs < 2 ^ 1500) ∧ c.natAbs < 2 ^ 1500 ∧ n.natAbs < 2 ^ 1500 ∧ ∀ z H', Keep [] H H' → H z = none → FormAt C H' z (Fm.can (Fm.scl n ts)) (c * n) → Q (.ref z) H'
theorem r_add {C x y : Addr} {ts us : List Fm.Tm} {c d : Int} {H : Hp} {Q : VK} {E : XK} (hx : FormAt C H x ts c) (hy : FormAt C H y us d) (hl : ts.length + us.length ≤ 60) (q1 : ∀ t ∈ ts, IsQ t.1) (q2 : ∀ t ∈ us, IsQ t.1) (k : ∀ z H', Keep [] H H' → H z = none → FormAt C H' z (Fm.can (ts ++ us)) (c + d) → Q (.ref z) H') : Ow.rOwn2 C (fun vs H Q E => spAdd C (vs ++ []) H Q E) E (.ref x) (.ref y) H Q := by
  obtain ⟨dx, t, e, _⟩ := id hx
  obtain ⟨dy, u, e', _⟩ := id hy
  exact Ow.r_own2 e e' ⟨x, y, ts, us, c, d, rfl, hx, hy, hl, q1, q2, k⟩
theorem r_mul {C x : Addr} {ts : List Fm.Tm} {c n : Int} {H : Hp} {Q : VK} {E : XK} (hx : FormAt C H x ts c) (hl : ts.length ≤ 60) (q1 : ∀ t ∈ ts, IsQ t.1) (hw : ∀ t ∈ ts, t.2.natAbs < 2 ^ 1500) (hc : c.natAbs < 2 ^ 1500) (hn : n.natAbs < 2 ^ 1500) (k : ∀ z H', Keep [] H H' → H z = none → FormAt C H' z (Fm.can (Fm.scl n ts)) (c * n) → Q (.ref z) H') : Ow.rOwnI C (fun vs H Q E => spMul C (vs ++ []) H Q E) E (.ref x) (.int n) H Q := by
  obtain ⟨dx, t, e, _⟩ := id hx
  exact Ow.r_ownI e ⟨x, ts, c, n, rfl, hx, hl, q1, hw, hc, hn, k⟩
section
variable {P : Program} {w : World} {K : PySem.W.Frag} {mg : Str → Option Value} {base : Heap}
theorem ok_init (T : Tx K mg) (G_added_terms : FnOk P w K mg base CX0 2 T.f_added_terms T.fd_added_terms ["terms"] (spAdded K)) : FnOk P w K mg base CX0 3 T.f_Form___init T.fd_Form___init ["self", "terms", "constant"] (spInit T.C_Form) := by
  refine T.F_Form___init.ok sc_Form___init (fun vs H Q E h => ?_) (fun cdv A outer s H vs Q E hr h => ?_)
  · obtain ⟨x, dx, p, ts, c, rfl, _⟩ := h; rfl
  · obtain ⟨x, dx, p, ts, c, rfl, hx, hp, hl, hq, q⟩ := h
    have oc := T.oc_Form
    have na := T.na_Form_terms
    have nc := T.na_Form_constant
    refine ⟨_, PSs.nox (pss_cons (ps_fld (pv 0) (pe_call G_added_terms (hr.mono (by decide)) rfl T.g_added_terms T.F_added_terms.kp T.b_added_terms .nil pass0 (pa_cons (pv 1) pa_nil)) rfl)
    (pss_one (ps_fld (pv 0) (pv 2) rfl))), ?_⟩
    walk_at "start"
    walk_at "sts"
    refine ⟨p, ts, rfl, hp, hl, hq, fun t H1 k1 nt ht => ?_⟩
    have e1 := k1 _ _ (by simp) hx
    walk_at "sts"
    rw [show putF (Str.ofString "terms") (V.ref t) [] = [((Str.ofString "terms"), .ref t)] from rfl]
    walk_at "sts"
    rw [put2]
    have kx : Keep [x] H1 (upd H1 x (.ins T.C_Form dx [((Str.ofString "terms"), .ref t), ((Str.ofString "constant"), .int c)])) := Keep.at (by simp)
    rw [upd_upd]
    obtain ⟨as, et, pt⟩ := ht
    have nx : t ≠ x := by rintro rfl; rw [e1] at et; cases et
    exact q _ ((k1.mono (by simp)).trans kx) ⟨dx, t, upd_same, as, kx _ _ (by simpa using nx) et, pt.keepI kx e1⟩
abbrev GInit (P : Program) (w : World) (K : PySem.W.Frag) (mg : Str → Option Value) (base : Heap) (T : Tx K mg) := FnOk P w K mg base CX0 3 T.f_Form___init T.fd_Form___init ["self", "terms", "constant"] (spInit T.C_Form)
theorem ok_add (T : Tx K mg) (G_Form___init : GInit P w K mg base T) : FnOk P w K mg base CX0 5 T.f_Form___add T.fd_Form___add ["self", "other"] (spAdd T.C_Form) := by
  refine T.F_Form___add.ok sc_Form___add (fun vs H Q E h => ?_) (fun cdv A outer s H vs Q E hr h => ?_)
  · obtain ⟨x, y, ts, us, c, d, rfl, _⟩ := h; rfl
  · obtain ⟨x, y, ts, us, c, d, rfl, hx, hy, hl, q1, q2, q⟩ := h
    have oc := T.oc_Form
    have na := T.na_Form_terms
    have nc := T.na_Form_constant
    obtain ⟨dx, t, ex, as, et, pt⟩ := hx
    obtain ⟨dy, u, ey, bs, eu, pu⟩ := hy
    have hlt := pt.len
    have hlu := pu.len
    refine ⟨_, PSs.nox (pss_cons (ps_if (pt_val (pe_callB call_isi (by rfl) T.m_isinstance (by decide +kernel) (pa_cons (pv 1) (pa_cons (pe_bltn (v := .ty "int") (by rfl) T.m_int (by decide +kernel) rfl) pa_nil))))
    (pss_one ps_never)
    pss_nil)
    (pss_cons (ps_if (pt_not (pt_val (pe_callB call_isi (by rfl) T.m_isinstance (by decide +kernel) (pa_cons (pv 1) (pa_cons (pe_glob (v := .ref T.C_Form) rfl T.gC_Form rfl) pa_nil)))))
    (pss_one ps_never)
    pss_nil)
    (pss_one (ps_ret (pe_make T.mk_Form G_Form___init (hr.mono (by decide)) rfl T.gC_Form T.b3_Form___init.choose_spec.2 T.b3_Form___init.choose_spec.1 pass0 (pa_cons (pe_op op_catA (pe_fld (pv 0) rfl) (pe_fld (pv 1) rfl)) (pa_cons (pe_op op_add (pe_fld (pv 0) rfl) (pe_fld (pv 1) rfl)) pa_nil))))))), ?_⟩
    walk_at "start"
    walk_at "sts"
    refine Ow.r_isiNot oc ey (by decide +kernel) T.si_Form ?_
    walk_at "sts"
    refine Ow.r_isiOwn oc ey ?_
    walk_at "sts"
    refine r_catT ⟨as, et, pt⟩ ⟨bs, eu, pu⟩ hl fun p H1 k1 hp => ?_
    have ex1 := k1 _ _ (by simp) ex
    have ey1 := k1 _ _ (by simp) ey
    walk_at "sts"
    exact r_newForm (.inr hp) (by rw [List.length_append]; exact hl) (fun z hz => (List.mem_append.mp hz).elim (q1 z) (q2 z)) fun z H2 k2 nz f => q z H2 (k1.trans k2) (k1.free (by simp) nz) f
theorem ok_mul (T : Tx K mg) (G_Form___init : GInit P w K mg base T) : FnOk P w K mg base CX0 5 T.f_Form___mul T.fd_Form___mul ["self", "other"] (spMul T.C_Form) := by
  refine T.F_Form___mul.ok sc_Form___mul (fun vs H Q E h => ?_) (fun cdv A outer s H vs Q E hr h => ?_)
  · obtain ⟨x, ts, c, n, rfl, _⟩ := h; rfl
  · obtain ⟨x, ts, c, n, rfl, hx, hl, q1, hw, hc, hn, q⟩ := h
    have oc := T.oc_Form
    have na := T.na_Form_terms
    have nc := T.na_Form_constant
    obtain ⟨dx, t, ex, as, et, pt⟩ := hx
    have hlt := pt.len
    refine ⟨_, PSs.nox (pss_cons (ps_if (pt_not (pt_val (pe_callB call_isi (by rfl) T.m_isinstance (by decide +kernel) (pa_cons (pv 1) (pa_cons (pe_bltn (v := .ty "int") (by rfl) T.m_int (by decide +kernel) rfl) pa_nil)))))
    (pss_one ps_never)
    pss_nil)
    (pss_one (ps_ret (pe_make T.mk_Form G_Form___init (hr.mono (by decide)) rfl T.gC_Form T.b3_Form___init.choose_spec.2 T.b3_Form___init.choose_spec.1 pass0 (pa_cons (pe_lc (own := [("name", 2), ("weight", 3)]) (g := gTup K 2 (gCons (gName 2) (gCons (gName 3) gNil))) (tt := tYes) rfl sc_Form___mul.nd (pi_tup (pe_fld (pv 0) rfl)) (blkOk_by (own := [("name", 2), ("weight", 3)]) (N := ["self", "other", "name", "weight"]) (sc := defScope s_Form___mul) (by decide +kernel)) (fun _ _ _ _ _ => pg_tup (n := 2) rfl (pgs_cons (pg_name (i := 2) sc_Form___mul.nd rfl (Or.inl rfl)) (pgs_cons (pg_name (i := 3) sc_Form___mul.nd rfl (Or.inl rfl)) pgs_nil))) (fun _ _ _ _ _ => pts_nil) (fun _ _ _ _ _ => (pe_tup (pa_cons (pv 2) (pa_cons (pe_op op_mulG (pv 3) (pv 1)) pa_nil))))) (pa_cons (pe_op op_mulG (pe_fld (pv 0) rfl) (pv 1)) pa_nil)))))), ?_⟩
    walk_at "start"
    walk_at "sts"
    refine lcT_go (fun D i acc H' => ∃ bs : List Addr, acc = bs.map V.ref ∧ PairsAt H' bs (Fm.scl n (ts.take i)) ∧ Keep [] H H' ∧ H D = none) (sqT_of et) (fun D hD => ⟨[], rfl, trivial, Keep.new hD, hD⟩) (fun D i acc H' _ h => by obtain ⟨_, _, _, k, _⟩ := h; exact sqT_of (k _ _ (by simp) et)) ?_ ?_
    · rintro D i v acc H1 hv hD ⟨bs, rfl, hb, k1, nD⟩
      obtain ⟨a, ha, rfl⟩ := getRef hv
      obtain ⟨z, hz, ez⟩ := pt.get ha
      have ez1 := k1 _ _ (by simp) ez
      have mz := List.mem_of_getElem? hz
      have hbl := hb.len
      rw [Fm.scl, List.length_map, List.length_take] at hbl
      refine r_gTup2 (sqT_of ez1) ?_
      refine ⟨rfl, ?_⟩
      simp only [L2.wipe, List.map_cons, List.map_nil, List.set_cons_zero, List.set_cons_succ]
      walk_at "sts"
      refine r_I (mulw 1500 1500 (hw z mz) hn) ?_
      walk_at "sts"
      intro y hy
      rw [Int.mul_comm]
      have k2 : Keep [] H1 (upd H1 y (.tup [.str z.1, .int (n * z.2)])) := Keep.new hy
      have e2 : upd H1 y (.tup [.str z.1, .int (n * z.2)]) y = some (.tup [.str z.1, .int (n * z.2)]) := upd_same
      generalize upd H1 y (.tup [.str z.1, .int (n * z.2)]) = H2 at k2 e2 ⊢
      have hD2 := k2 _ _ (by simp) hD
      refine lc_put (acc := bs.map V.ref) hD2 (by rw [List.length_map]; exact lt_size (by omega)) ⟨bs ++ [y], by rw [List.map_append]; rfl, ?_, (k1.trans k2).mut nD, nD⟩
      rw [take_snoc hz, show Fm.scl n (ts.take i ++ [z]) = Fm.scl n (ts.take i) ++ [(z.1, n * z.2)] by simp [Fm.scl]]
      exact ((hb.keep0 k2).app (bs := [y]) (us := [(z.1, n * z.2)]) ⟨e2, trivial⟩).keep (Keep.at (M := [D]) (by simp)) (fun m hm => by rw [List.mem_singleton.mp hm]; exact ⟨_, hD2⟩)
    · rintro D acc H1 nD hD ⟨bs, rfl, hb, k1, _⟩
      rw [List.take_of_length_le (by rw [List.length_map, hlt]; exact Nat.le_refl _)] at hb
      have ex1 := k1 _ _ (by simp) ex
      walk_at "sts"
      refine r_I (mulw 1500 1500 hc hn) ?_
      walk_at "sts"
      exact r_newForm (.inl ⟨bs, hD, hb⟩) (by rw [Fm.scl, List.length_map]; exact hl) (fun z hz => by obtain ⟨y, hy, rfl⟩ := List.mem_map.mp hz; exact q1 y hy) fun z H2 k2 nz f => q z H2 (k1.trans k2) (k1.free (by simp) nz) f
end
/-! ### more of the form -/
def spSub (C : Addr) : Sp := fun vs H Q _ => ∃ (x y : Addr) (ts us : List Fm.Tm) (c d : Int), vs = [.ref x, .ref y] ∧ FormAt C H x ts c ∧ FormAt C H y us d ∧ ts.length + us.length ≤ 60 ∧ (∀ t ∈ ts, IsQ t.1) ∧ (∀ t ∈ us, IsQ t.1) ∧ (∀ t ∈ us, t.2.natAbs < 2 ^ 1500) ∧ d.natAbs < 2 ^ 1500 ∧ ∀ z H', Keep [] H H' → H z = none → FormAt C H' z (Fm.can (ts ++ Fm.scl (-1) us)) (c - d) → Q (.ref z) H'
def spNeg (C : Addr) : Sp := fun vs H Q _ => ∃ (x : Addr) (ts : List Fm.Tm) (c : Int), vs = [.ref x] ∧ FormAt C H x ts c ∧ ts.length ≤ 60 ∧ (∀ t ∈ ts, IsQ t.1) ∧ (∀ t ∈ ts, t.2.natAbs < 2 ^ 1500) ∧ c.natAbs < 2 ^ 1500 ∧ ∀ z H', Keep [] H H' → H z = none → FormAt C H' z (Fm.can (Fm.scl (-1) ts)) (-c) → Q (.ref z) H'
def spNames (C : Addr) : Sp := fun vs H Q _ => ∃ (x : Addr) (ts : List Fm.Tm) (c : Int), vs = [.ref x] ∧ FormAt C H x ts c ∧ ts.length ≤ 60 ∧ ∀ p H', Keep [] H H' → H' p = some (.tup ((ts.map (·.1)).map V.str)) → Q (.ref p) H'
def spPut (C : Addr) : Sp := fun vs H Q _ => ∃ (x y : Addr) (ts us : List Fm.Tm) (c d : Int) (nm : Str), vs = [.ref x, .str nm, .ref y] ∧ FormAt C H x ts c ∧ FormAt C H y us d ∧ Fm.Canon ts ∧ ts.length + us.length ≤ 60 ∧ (∀ t ∈ ts, IsQ t.1 ∧ t.2.natAbs < 2 ^ 1500) ∧ (∀ t ∈ us, IsQ t.1 ∧ t.2.natAbs < 2 ^ 1500) ∧ d.natAbs < 2 ^ 1500 ∧
  ∀ z H', Keep [] H H' → H z = none → FormAt C H' z (Fm.can (Fm.dropN nm ts ++ Fm.scl (Fm.wt ts nm) us)) (c + Fm.wt ts nm * d) → Q (.ref z) H'
def spEq1 (C : Addr) : Sp := fun vs H Q _ => ∃ (x y : Addr) (ts : List Fm.Tm) (c : Int), vs = [.ref x, .ref y] ∧ FormAt C H x ts c ∧ FormAt C H y ts c ∧ (∀ t ∈ ts, IsQ t.1) ∧ Q (.bl true) H
def spStr (C : Addr) : Sp := fun vs H Q _ => ∃ (x : Addr) (ts : List Fm.Tm) (c : Int), vs = [.ref x] ∧ FormAt C H x ts c ∧ ts.length ≤ 60 ∧ (∀ t ∈ ts, IsQ t.1 ∧ t.2.natAbs < 2 ^ 1500) ∧ c.natAbs < 2 ^ 1500 ∧ ∀ H', Keep [] H H' → Q (.str (Wr.due ts c)) H'
/-- the level of a name in the world at d -/
def LevAt (H : Hp) (kvs : List (Key × V)) (W : Fm.Wd) (x : Str) : Prop := ∃ a, valV kvs (Sum.inr x) = some (.ref a) ∧ H a = some (.tup [.int (W x).1, .int (W x).2])
theorem LevAt.keep {M : List Addr} {H H' : Hp} {kvs : List (Key × V)} {W : Fm.Wd} {x : Str} (h : LevAt H kvs W x) (k : Keep M H H') (n : ∀ m ∈ M, ∃ xs, H m = some (.lst xs)) : LevAt H' kvs W x := by
  obtain ⟨a, e1, e2⟩ := h
  refine ⟨a, e1, k _ _ (fun hm => ?_) e2⟩
  obtain ⟨xs, hx⟩ := n a hm
  rw [hx] at e2; cases e2
def spVal (C : Addr) : Sp := fun vs H Q _ => ∃ (x d : Addr) (ts : List Fm.Tm) (c : Int) (kvs : List (Key × V)) (W : Fm.Wd), vs = [.ref x, .ref d] ∧ FormAt C H x ts c ∧ H d = some (.dK kvs) ∧ (∀ t ∈ ts, LevAt H kvs W t.1 ∧ 0 < (W t.1).2) ∧ ts.length ≤ 5 ∧ (∀ t ∈ ts, t.2.natAbs < 2 ^ 400 ∧ (W t.1).1.natAbs < 2 ^ 1000 ∧ (W t.1).2.natAbs < 2 ^ 401) ∧ c.natAbs < 2 ^ 400 ∧
  ∀ p H', Keep [] H H' → H' p = some (.tup [.int (lowT (Fm.accV W ts (c, 1)).1 (Fm.accV W ts (c, 1)).2), .int (lowB (Fm.accV W ts (c, 1)).1 (Fm.accV W ts (c, 1)).2)]) → Q (.ref p) H'
theorem lev_some {H : Hp} {kvs : List (Key × V)} {W : Fm.Wd} {x : Str} (h : LevAt H kvs W x) : (valV kvs (Sum.inr x)).isSome = true := by obtain ⟨a, e, _⟩ := h; rw [e]; rfl
section
variable {P : Program} {w : World} {K : PySem.W.Frag} {mg : Str → Option Value} {base : Heap}
abbrev GAdd (P : Program) (w : World) (K : PySem.W.Frag) (mg : Str → Option Value) (base : Heap) (T : Tx K mg) := FnOk P w K mg base CX0 5 T.f_Form___add T.fd_Form___add ["self", "other"] (spAdd T.C_Form)
abbrev GMul (P : Program) (w : World) (K : PySem.W.Frag) (mg : Str → Option Value) (base : Heap) (T : Tx K mg) := FnOk P w K mg base CX0 5 T.f_Form___mul T.fd_Form___mul ["self", "other"] (spMul T.C_Form)
theorem can_snd {ts us : List Fm.Tm} : Fm.can (ts ++ Fm.can us) = Fm.can (ts ++ us) := Fm.can_can fun x => by rw [Fm.wt_append, Fm.wt_append, Fm.can_wt]
theorem can_both {ts us : List Fm.Tm} : Fm.can (Fm.can ts ++ Fm.can us) = Fm.can (ts ++ us) := Fm.can_can fun x => by rw [Fm.wt_append, Fm.wt_append, Fm.can_wt, Fm.can_wt]
theorem can_names {ts : List Fm.Tm} {p : Str → Prop} (h : ∀ t ∈ ts, p t.1) : ∀ t ∈ Fm.can ts, p t.1 := fun t ht => by
  obtain ⟨⟨q, hq, e⟩, _⟩ := Fm.can_mem ht
  rw [← e]; exact h q hq
theorem scl_names {ts : List Fm.Tm} {p : Str → Prop} {k : Int} (h : ∀ t ∈ ts, p t.1) : ∀ t ∈ Fm.scl k ts, p t.1 := fun t ht => by
  obtain ⟨q, hq, rfl⟩ := List.mem_map.mp ht
  exact h q hq
theorem scl_len {ts : List Fm.Tm} {k : Int} : (Fm.scl k ts).length = ts.length := by rw [Fm.scl, List.length_map]
theorem drop_len {ts : List Fm.Tm} {x : Str} : (Fm.dropN x ts).length ≤ ts.length := List.length_filter_le _ _
theorem drop_names {ts : List Fm.Tm} {p : Fm.Tm → Prop} {x : Str} (h : ∀ t ∈ ts, p t) : ∀ t ∈ Fm.dropN x ts, p t := fun t ht => h t (List.mem_filter.mp ht).1
theorem ok_sub (T : Tx K mg) (G_Form___add : GAdd P w K mg base T) (G_Form___mul : GMul P w K mg base T) : FnOk P w K mg base CX0 6 T.f_Form___sub T.fd_Form___sub ["self", "other"] (spSub T.C_Form) := by
  refine T.F_Form___sub.ok sc_Form___sub (fun vs H Q E h => ?_) (fun cdv A outer s H vs Q E hr h => ?_)
  · obtain ⟨x, y, ts, us, c, d, rfl, _⟩ := h; rfl
  · obtain ⟨x, y, ts, us, c, d, rfl, hx, hy, hl, q1, q2, hw, hd, q⟩ := h
    refine ⟨_, PSs.nox (pss_one (ps_ret (pe_op (Ow.op_own2 T.oc_Form.sf T.me_Form___add (G_Form___add.raw T.b_Form___add .nil) (hr.mono (by decide)) pass0) (pv 0) (pe_op (Ow.op_ownI T.oc_Form.sf T.me_Form___mul (G_Form___mul.raw T.b_Form___mul .nil) (hr.mono (by decide)) pass0 T.rr_Form_mul.choose_spec (Or.inr ⟨_, rfl⟩) T.if_mul T.ir_mul T.is_Form) (pv 1) (pe_un un_neg pe_int))))), ?_⟩
    walk_at "start"
    walk_at "sts"
    refine r_mul hy (by omega) q2 hw hd (by decide +kernel) fun z H1 k1 nz f1 => ?_
    refine r_add (hx.keep0 k1) f1 (by have := Fm.can_len (Fm.scl (-1) us); rw [scl_len] at this; omega) q1 (can_names (scl_names q2)) fun z2 H2 k2 nz2 f2 => ?_
    walk_at "sts"
    rw [can_snd, show c + d * -1 = c - d by omega] at f2
    exact q z2 H2 (k1.trans k2) (k1.free (by simp) nz2) f2
theorem ok_neg (T : Tx K mg) (G_Form___mul : GMul P w K mg base T) : FnOk P w K mg base CX0 6 T.f_Form___neg T.fd_Form___neg ["self"] (spNeg T.C_Form) := by
  refine T.F_Form___neg.ok sc_Form___neg (fun vs H Q E h => ?_) (fun cdv A outer s H vs Q E hr h => ?_)
  · obtain ⟨x, ts, c, rfl, _⟩ := h; rfl
  · obtain ⟨x, ts, c, rfl, hx, hl, q1, hw, hc, q⟩ := h
    refine ⟨_, PSs.nox (pss_one (ps_ret (pe_op (Ow.op_ownI T.oc_Form.sf T.me_Form___mul (G_Form___mul.raw T.b_Form___mul .nil) (hr.mono (by decide)) pass0 T.rr_Form_mul.choose_spec (Or.inr ⟨_, rfl⟩) T.if_mul T.ir_mul T.is_Form) (pv 0) (pe_un un_neg pe_int)))), ?_⟩
    walk_at "start"
    walk_at "sts"
    refine r_mul hx hl q1 hw hc (by decide +kernel) fun z H1 k1 nz f1 => ?_
    walk_at "sts"
    rw [show c * -1 = -c by omega] at f1
    exact q z H1 k1 nz f1
theorem ok_rmul (T : Tx K mg) (G_Form___mul : GMul P w K mg base T) : FnOk P w K mg base CX0 6 T.f_Form___rmul T.fd_Form___rmul ["self", "other"] (spMul T.C_Form) := by
  refine T.F_Form___rmul.ok sc_Form___rmul (fun vs H Q E h => ?_) (fun cdv A outer s H vs Q E hr h => ?_)
  · obtain ⟨x, ts, c, n, rfl, _⟩ := h; rfl
  · obtain ⟨x, ts, c, n, rfl, hx, hl, q1, hw, hc, hn, q⟩ := h
    refine ⟨_, PSs.nox (pss_one (ps_ret (pe_op (Ow.op_ownI T.oc_Form.sf T.me_Form___mul (G_Form___mul.raw T.b_Form___mul .nil) (hr.mono (by decide)) pass0 T.rr_Form_mul.choose_spec (Or.inr ⟨_, rfl⟩) T.if_mul T.ir_mul T.is_Form) (pv 0) (pv 1)))), ?_⟩
    walk_at "start"
    walk_at "sts"
    exact r_mul hx hl q1 hw hc hn q
theorem ok_str (T : Tx K mg) (G_write_form : FnOk P w K mg base CX0 2 T.f_write_form T.fd_write_form ["terms", "constant"] spWForm) : FnOk P w K mg base CX0 3 T.f_Form___str T.fd_Form___str ["self"] (spStr T.C_Form) := by
  refine T.F_Form___str.ok sc_Form___str (fun vs H Q E h => ?_) (fun cdv A outer s H vs Q E hr h => ?_)
  · obtain ⟨x, ts, c, rfl, _⟩ := h; rfl
  · obtain ⟨x, ts, c, rfl, ⟨dx, t, ex, ht⟩, hl, hw, hc, q⟩ := h
    have oc := T.oc_Form
    have na := T.na_Form_terms
    have nc := T.na_Form_constant
    refine ⟨_, PSs.nox (pss_one (ps_ret (pe_callTy SkE.call_str_str (by rfl) T.m_str (by decide +kernel) (pa_cons (pe_call G_write_form (hr.mono (by decide)) rfl T.g_write_form T.F_write_form.kp T.b_write_form .nil pass0 (pa_cons (pe_fld (pv 0) rfl) (pa_cons (pe_fld (pv 0) rfl) pa_nil))) pa_nil)))), ?_⟩
    walk_at "start"
    walk_at "sts"
    refine ⟨t, ts, c, rfl, ht, hl, fun z hz => (hw z hz).1, fun z hz => (hw z hz).2, hc, fun H1 k1 => ?_⟩
    walk_at "sts"
    rw [Wr.same fun z hz => (hw z hz).1.pos]
    exact q H1 k1
theorem ok_names (T : Tx K mg) : FnOk P w K mg base CX0 1 T.f_Form_names T.fd_Form_names ["self"] (spNames T.C_Form) := by
  refine T.F_Form_names.ok sc_Form_names (fun vs H Q E h => ?_) (fun cdv A outer s H vs Q E hr h => ?_)
  · obtain ⟨x, ts, c, rfl, _⟩ := h; rfl
  · obtain ⟨x, ts, c, rfl, ⟨dx, t, ex, as, et, pt⟩, hl, q⟩ := h
    have oc := T.oc_Form
    have na := T.na_Form_terms
    have hlt := pt.len
    refine ⟨_, PSs.nox (pss_one (ps_ret (pe_callTy call_tuple_of (by rfl) T.m_tuple (by decide +kernel) (pa_cons (pe_lc (own := [("name", 1), ("_", 2)]) (g := gTup K 2 (gCons (gName 1) (gCons (gName 2) gNil))) (tt := tYes) rfl sc_Form_names.nd (pi_tup (pe_fld (pv 0) rfl)) (blkOk_by (own := [("name", 1), ("_", 2)]) (N := ["self", "name", "_"]) (sc := defScope s_Form_names) (by decide +kernel)) (fun _ _ _ _ _ => pg_tup (n := 2) rfl (pgs_cons (pg_name (i := 1) sc_Form_names.nd rfl (Or.inl rfl)) (pgs_cons (pg_name (i := 2) sc_Form_names.nd rfl (Or.inl rfl)) pgs_nil))) (fun _ _ _ _ _ => pts_nil) (fun _ _ _ _ _ => (pv 1))) pa_nil)))), ?_⟩
    walk_at "start"
    walk_at "sts"
    refine lcT_go (fun D i acc H' => acc = ((ts.take i).map (·.1)).map V.str ∧ Keep [] H H' ∧ H D = none) (sqT_of et) (fun D hD => ⟨rfl, Keep.new hD, hD⟩) (fun D i acc H' _ h => by obtain ⟨_, k, _⟩ := h; exact sqT_of (k _ _ (by simp) et)) ?_ ?_
    · rintro D i v acc H1 hv hD ⟨rfl, k1, nD⟩
      obtain ⟨a, ha, rfl⟩ := getRef hv
      obtain ⟨z, hz, ez⟩ := pt.get ha
      refine r_gTup2 (sqT_of (k1 _ _ (by simp) ez)) ?_
      refine ⟨rfl, ?_⟩
      simp only [L2.wipe, List.map_cons, List.map_nil, List.set_cons_zero, List.set_cons_succ]
      walk_at "sts"
      exact lc_put hD (by simp only [List.length_map, List.length_take]; exact lt_size (by omega)) ⟨by rw [take_snoc hz]; simp, k1.mut nD, nD⟩
    · rintro D acc H1 nD hD ⟨rfl, k1, _⟩
      rw [List.take_of_length_le (by rw [List.length_map, hlt]; exact Nat.le_refl _)] at hD
      walk_at "sts"
      refine r_tupL (sqL_of hD) fun u hu => ?_
      exact q u _ (k1.trans (Keep.new hu)) upd_same
end
/-! ### put in, called, compared -/
theorem wd_put {nm : Str} {ts us : List Fm.Tm} : Fm.can (Fm.can (Fm.dropN nm ts) ++ Fm.can (Fm.scl (Fm.wt ts nm) us)) = Fm.can (Fm.dropN nm ts ++ Fm.scl (Fm.wt ts nm) us) := can_both
theorem dp_pairs {K : PySem.W.Frag} {H : Hp} : ∀ {as : List Addr} {ts : List Fm.Tm}, PairsAt H as ts → DpAll K H (as.map V.ref) (ts.map fun p => PyData.tuple [.str p.1, .int p.2])
  | [], [], _ => .nil
  | a :: as, p :: ts, h => .cons (.tup (sqT_of h.1) (.cons (.str _) (.cons (.int _) .nil))) (dp_pairs h.2)
  | [], _ :: _, h => h.elim
  | _ :: _, [], h => h.elim
theorem IsQ.ok {s : Str} (h : IsQ s) : PyData.strOk s = true := by
  unfold PyData.strOk
  rw [← Array.all_toList, List.all_eq_true]
  intro c hc
  have := (by decide +kernel : ∀ c ∈ signsL, c < 0x110000) c (h.al c hc)
  simpa using this
theorem lay_pairs : ∀ {ts : List Fm.Tm}, (∀ t ∈ ts, IsQ t.1) → PyData.canLayAll0 (ts.map fun p => PyData.tuple [.str p.1, .int p.2]) = true ∧ PyData.depthAll (ts.map fun p => PyData.tuple [.str p.1, .int p.2]) ≤ 1
  | [], _ => by simp [PyData.canLayAll0, PyData.depthAll]
  | t :: ts, h => by
    have ih := lay_pairs (ts := ts) fun z hz => h z (by simp [hz])
    have e := (h t (by simp)).ok
    refine ⟨by simp [PyData.canLayAll0, PyData.canLay0, ih.1, e], ?_⟩
    have := ih.2
    simp [PyData.depthAll, PyData.depth]
    omega
theorem shaped_pairs {ts : List Fm.Tm} (h : ∀ t ∈ ts, IsQ t.1) : SeqAt.shaped (.tuple (ts.map fun p => PyData.tuple [.str p.1, .int p.2])) = true := by
  have := lay_pairs h
  unfold SeqAt.shaped
  simp [PyData.canLay0, PyData.depth, this.1]
  omega
section
variable {P : Program} {w : World} {K : PySem.W.Frag} {mg : Str → Option Value} {base : Heap}
theorem ok_put (T : Tx K mg) (G_weight_of : FnOk P w K mg base CX0 1 T.f_weight_of T.fd_weight_of ["terms", "name"] spWeightOf) (G_Form___init : GInit P w K mg base T) (G_Form___add : GAdd P w K mg base T) (G_Form___mul : GMul P w K mg base T) : FnOk P w K mg base CX0 6 T.f_Form_put T.fd_Form_put ["self", "name", "form"] (spPut T.C_Form) := by
  refine T.F_Form_put.ok sc_Form_put (fun vs H Q E h => ?_) (fun cdv A outer s H vs Q E hr h => ?_)
  · obtain ⟨x, y, ts, us, c, d, nm, rfl, _⟩ := h; rfl
  · obtain ⟨x, y, ts, us, c, d, nm, rfl, hx, hy, hc, hl, q1, q2, hd, q⟩ := h
    have oc := T.oc_Form
    have na := T.na_Form_terms
    have nc := T.na_Form_constant
    obtain ⟨dx, t, ex, as, et, pt⟩ := id hx
    have hlt := pt.len
    refine ⟨_, PSs.nox (pss_cons (ps_setLc (i := 3) (own := [("found", 4), ("weight", 5)]) (g := gTup K 2 (gCons (gName 4) (gCons (gName 5) gNil)))  rfl sc_Form_put.nd rfl rfl (sw_true rfl rfl rfl (by decide +kernel)) (pi_tup (pe_fld (pv 0) rfl)) (blkOk_by (own := [("found", 4), ("weight", 5)]) (N := ["self", "name", "form", "rest", "found", "weight"]) (sc := defScope s_Form_put) (by decide +kernel)) (fun _ _ _ _ _ => pg_tup (n := 2) rfl (pgs_cons (pg_name (i := 4) sc_Form_put.nd rfl (Or.inl rfl)) (pgs_cons (pg_name (i := 5) sc_Form_put.nd rfl (Or.inl rfl)) pgs_nil))) (fun _ _ _ _ _ => pts_one (pt_cmpR op_ne (pv 4) (pv 1) (nomark _))) (fun _ _ _ _ _ => (pe_tup (pa_cons (pv 4) (pa_cons (pv 5) pa_nil)))))
    (pss_one (ps_ret (pe_op (Ow.op_own2 T.oc_Form.sf T.me_Form___add (G_Form___add.raw T.b_Form___add .nil) (hr.mono (by decide)) pass0) (pe_make T.mk_Form G_Form___init (hr.mono (by decide)) rfl T.gC_Form T.b3_Form___init.choose_spec.2 T.b3_Form___init.choose_spec.1 pass0 (pa_cons (pv 3) (pa_cons (pe_fld (pv 0) rfl) pa_nil))) (pe_op (Ow.op_ownI T.oc_Form.sf T.me_Form___mul (G_Form___mul.raw T.b_Form___mul .nil) (hr.mono (by decide)) pass0 T.rr_Form_mul.choose_spec (Or.inr ⟨_, rfl⟩) T.if_mul T.ir_mul T.is_Form) (pv 2) (pe_call G_weight_of (hr.mono (by decide)) rfl T.g_weight_of T.F_weight_of.kp T.b_weight_of .nil pass0 (pa_cons (pe_fld (pv 0) rfl) (pa_cons (pv 1) pa_nil)))))))), ?_⟩
    walk_at "start"
    walk_at "sts"
    refine lcT_go (fun D i acc H' => ∃ bs : List Addr, acc = bs.map V.ref ∧ PairsAt H' bs (Fm.dropN nm (ts.take i)) ∧ Keep [] H H' ∧ H D = none) (sqT_of et) (fun D hD => ⟨[], rfl, trivial, Keep.new hD, hD⟩) (fun D i acc H' _ h => by obtain ⟨_, _, _, k, _⟩ := h; exact sqT_of (k _ _ (by simp) et)) ?_ ?_
    · rintro D i v acc H1 hv hD ⟨bs, rfl, hb, k1, nD⟩
      obtain ⟨a, ha, rfl⟩ := getRef hv
      obtain ⟨z, hz, ez⟩ := pt.get ha
      have ez1 := k1 _ _ (by simp) ez
      have hbl := hb.len
      have hdl := drop_len (ts := ts.take i) (x := nm)
      rw [List.length_take] at hdl
      have snoc : Fm.dropN nm (ts.take (i + 1)) = if z.1 ≠ nm then Fm.dropN nm (ts.take i) ++ [z] else Fm.dropN nm (ts.take i) := by
        rw [take_snoc hz]
        unfold Fm.dropN
        rw [List.filter_append]
        by_cases h : z.1 = nm <;> simp [h]
      refine r_gTup2 (sqT_of ez1) ?_
      refine ⟨rfl, ?_⟩
      simp only [L2.wipe, List.map_cons, List.map_nil, List.set_cons_zero, List.set_cons_succ]
      walk_at "sts"
      refine r_iteN (fun c1 => ?_) (fun c1 => ?_)
      · walk_at "sts"
        intro y2 hy2
        have k2 : Keep [] H1 (upd H1 y2 (.tup [.str z.1, .int z.2])) := Keep.new hy2
        have e2 : upd H1 y2 (.tup [.str z.1, .int z.2]) y2 = some (.tup [.str z.1, .int z.2]) := upd_same
        generalize upd H1 y2 (.tup [.str z.1, .int z.2]) = H2 at k2 e2 ⊢
        have hD2 := k2 _ _ (by simp) hD
        refine lc_put (acc := bs.map V.ref) hD2 (by rw [List.length_map]; exact lt_size (by omega)) ⟨bs ++ [y2], by rw [List.map_append]; rfl, ?_, (k1.trans k2).mut nD, nD⟩
        rw [snoc, if_pos c1]
        exact ((hb.keep0 k2).app (bs := [y2]) (us := [z]) ⟨e2, trivial⟩).keep (Keep.at (M := [D]) (by simp)) (fun m hm => by rw [List.mem_singleton.mp hm]; exact ⟨_, hD2⟩)
      · walk_at "sts"
        exact ⟨_, hD, bs, rfl, by rw [snoc, if_neg (by simpa using c1)]; exact hb, k1, nD⟩
    · rintro D acc H1 nD hD ⟨bs, rfl, hb, k1, _⟩
      rw [List.take_of_length_le (by rw [List.length_map, hlt]; exact Nat.le_refl _)] at hb
      have ex1 := k1 _ _ (by simp) ex
      have hdl := drop_len (ts := ts) (x := nm)
      have wb := Fm.wt_bound (x := nm) (B := 2 ^ 1500) (ts := ts) fun p hp => Nat.le_of_lt (q1 p hp).2
      have wn : (Fm.wt ts nm).natAbs < 2 ^ 1500 := by
        by_cases e : Fm.wt ts nm = 0
        · rw [e]; decide +kernel
        · obtain ⟨p, hp, hpe⟩ := Fm.mem_of_wt e
          rw [← hpe, hc.wt_mem hp]; exact (q1 p hp).2
      walk_at "sts"
      refine r_newForm (.inl ⟨bs, hD, hb⟩) (by omega) (fun z hz => (drop_names q1 z hz).1) fun z H2 k2 nz f2 => ?_
      have k12 := k1.trans k2
      have ex2 := k12 _ _ (by simp) ex
      walk_at "sts"
      refine ⟨t, ts, nm, rfl, TupAt.keep0 ⟨as, et, pt⟩ k12, hc, ?_⟩
      refine r_mul (hy.keep0 k12) (by omega) (fun z hz => (q2 z hz).1) (fun z hz => (q2 z hz).2) hd wn fun z3 H3 k3 nz3 f3 => ?_
      refine r_add (f2.keep0 k3) f3 (by have := Fm.can_len (Fm.dropN nm ts); have := Fm.can_len (Fm.scl (Fm.wt ts nm) us); rw [scl_len] at this; omega) (can_names fun z hz => (drop_names q1 z hz).1) (can_names (scl_names fun z hz => (q2 z hz).1)) fun z4 H4 k4 nz4 f4 => ?_
      walk_at "sts"
      rw [wd_put, show d * Fm.wt ts nm = Fm.wt ts nm * d by rw [Int.mul_comm]] at f4
      have k14 := k12.trans (k3.trans k4)
      exact q z4 H4 k14 ((k12.trans k3).free (by simp) nz4) f4
theorem ok_eq1 (T : Tx K mg) : FnOk P w K mg base CX0 1 T.f_Form___eq T.fd_Form___eq ["self", "other"] (spEq1 T.C_Form) := by
  refine T.F_Form___eq.ok sc_Form___eq (fun vs H Q E h => ?_) (fun cdv A outer s H vs Q E hr h => ?_)
  · obtain ⟨x, y, ts, c, rfl, _⟩ := h; rfl
  · obtain ⟨x, y, ts, c, rfl, ⟨dx, t, ex, as, et, pt⟩, ⟨dy, u, ey, bs, eu, pu⟩, hq, q⟩ := h
    have oc := T.oc_Form
    have na := T.na_Form_terms
    have nc := T.na_Form_constant
    refine ⟨_, PSs.nox (pss_one (ps_ret (pe_and (pe_callB call_isi (by rfl) T.m_isinstance (by decide +kernel) (pa_cons (pv 1) (pa_cons (pe_glob (v := .ref T.C_Form) rfl T.gC_Form rfl) pa_nil))) (pe_and (pe_cmpR (op_eqD hr.units) (pe_fld (pv 0) rfl) (pe_fld (pv 1) rfl) (nomark _)) (pe_one (pe_cmpR op_eq (pe_fld (pv 0) rfl) (pe_fld (pv 1) rfl) (nomark _))))))), ?_⟩
    walk_at "start"
    walk_at "sts"
    refine Ow.r_isiOwn oc ey ?_
    walk_at "sts"
    have sh := shaped_pairs hq
    refine ⟨_, _, .tup (sqT_of et) (dp_pairs pt), .tup (sqT_of eu) (dp_pairs pu), sh, sh, ?_⟩
    rw [SeqAt.eqv_refl _ (SeqAt.canLay_of_shaped sh)]
    walk_at "sts"
    rw [decide_eq_true rfl]
    exact q
theorem ok_val (T : Tx K mg) (G_need_levels : FnOk P w K mg base CX0 1 T.f_need_levels T.fd_need_levels ["names", "world"] spNeed) (G_Form_names : FnOk P w K mg base CX0 1 T.f_Form_names T.fd_Form_names ["self"] (spNames T.C_Form)) (G_plus : FnOk P w K mg base CX0 2 T.f_plus T.fd_plus ["first", "second"] (spTwo fPlus)) (G_times : FnOk P w K mg base CX0 2 T.f_times T.fd_times ["first", "second"] (spTwo fTimes)) :
    FnOk P w K mg base CX0 3 T.f_Form___call T.fd_Form___call ["self", "world"] (spVal T.C_Form) := by
  refine T.F_Form___call.ok sc_Form___call (fun vs H Q E h => ?_) (fun cdv A outer s H vs Q E hr h => ?_)
  · obtain ⟨x, d, ts, c, kvs, W, rfl, _⟩ := h; rfl
  · obtain ⟨x, d, ts, c, kvs, W, rfl, hx, hd, hlev, hl, hb, hc, q⟩ := h
    have oc := T.oc_Form
    have na := T.na_Form_terms
    have nc := T.na_Form_constant
    obtain ⟨dx, t, ex, as, et, pt⟩ := id hx
    have hlt := pt.len
    refine ⟨_, PSs.nox (pss_cons (ps_expr (pe_call G_need_levels (hr.mono (by decide)) rfl T.g_need_levels T.F_need_levels.kp T.b_need_levels .nil pass0 (pa_cons (pe_meth0 (pv 0) T.oc_Form.cl T.me_Form_names G_Form_names (hr.mono (by decide)) T.b_Form_names .nil pass0) (pa_cons (pv 1) pa_nil))))
    (pss_cons (ps_set (i := 2) sc_Form___call.nd rfl (Or.inl rfl) (pe_tup (pa_cons (pe_fld (pv 0) rfl) (pa_cons pe_int pa_nil))))
    (pss_cons (ps_for PassesOwn.never rfl (pi_tup (pe_fld (pv 0) rfl)) (pg_tup (n := 2) rfl (pgs_cons (pg_name (i := 3) sc_Form___call.nd rfl (Or.inl rfl)) (pgs_cons (pg_name (i := 4) sc_Form___call.nd rfl (Or.inl rfl)) pgs_nil)))
    (pss_one (ps_set (i := 2) sc_Form___call.nd rfl (Or.inl rfl) (pe_call G_plus (hr.mono (by decide)) rfl T.g_plus T.F_plus.kp T.b_plus .nil pass0 (pa_cons (pv 2) (pa_cons (pe_call G_times (hr.mono (by decide)) rfl T.g_times T.F_times.kp T.b_times .nil pass0 (pa_cons (pe_tup (pa_cons (pv 4) (pa_cons pe_int pa_nil))) (pa_cons (pe_dget (hu_of hr) (pv 1) (pv 3) (fun _ _ => rfl)) pa_nil))) pa_nil))))))
    (pss_one (ps_ret (pv 2)))))), ?_⟩
    walk_at "start"
    walk_at "sts"
    refine ⟨x, ts, c, rfl, hx, by omega, fun p H1 k1 ep => ?_⟩
    have hd1 := k1 _ _ (by simp) hd
    have ex1 := k1 _ _ (by simp) ex
    walk_at "sts"
    refine ⟨p, d, ts.map (·.1), kvs, rfl, ep, hd1, fun z hz => by obtain ⟨y, hy, rfl⟩ := List.mem_map.mp hz; exact lev_some (hlev y hy).1, ?_⟩
    walk_at "sts"
    intro p2 hp2
    have k2 : Keep [] H1 (upd H1 p2 (.tup [.int c, .int 1])) := Keep.new hp2
    have e2 : upd H1 p2 (.tup [.int c, .int 1]) p2 = some (.tup [.int c, .int 1]) := upd_same
    generalize upd H1 p2 (.tup [.int c, .int 1]) = H2 at k2 e2 ⊢
    have k12 := k1.trans k2
    have ex2 := k12 _ _ (by simp) ex
    have et2 := k12 _ _ (by simp) et
    walk_at "sts"
    have st : ∀ i, Fm.accV W (ts.take i) (c, 1) = Fm.accV W (ts.take i) (c, 1) := fun _ => rfl
    refine forT_go (fun i σ' H' => ∃ (r : Addr) (x1 x2 : Option V), σ' = [some (.ref x), some (.ref d), some (.ref r), x1, x2] ∧ Keep [] H H' ∧ H' r = some (.tup [.int (lowT (Fm.accV W (ts.take i) (c, 1)).1 (Fm.accV W (ts.take i) (c, 1)).2), .int (lowB (Fm.accV W (ts.take i) (c, 1)).1 (Fm.accV W (ts.take i) (c, 1)).2)])) (sqT_of et2) ⟨p2, _, _, rfl, k12, by rw [e2]; simp [Fm.accV, lowT_one, lowB_one]⟩ (fun i σ' H' _ h => by obtain ⟨_, _, _, _, k, _⟩ := h; exact sqT_of (k _ _ (by simp) et)) ?_ ?_
    · rintro i v σ' H3 hv ⟨r, x1, x2, rfl, k3, e3⟩
      obtain ⟨a, ha, rfl⟩ := getRef hv
      obtain ⟨z, hz, ez⟩ := pt.get ha
      have mz := List.mem_of_getElem? hz
      have ez3 := k3 _ _ (by simp) ez
      obtain ⟨⟨lv, lv1, lv2⟩, wpos⟩ := hlev z mz
      obtain ⟨b1, b2, b3⟩ := hb z mz
      have hi := (List.getElem?_eq_some_iff.mp hz).1
      have il : (ts.take i).length = i := by rw [List.length_take]; omega
      have sub : ∀ p ∈ ts.take i, p ∈ ts := fun p hp => List.mem_of_mem_take hp
      have apos := Fm.acc_pos (W := W) (ts := ts.take i) (s := (c, 1)) (fun p hp => (hlev p (sub p hp)).2) Int.one_pos
      obtain ⟨ab1, ab2⟩ := Fm.acc_bound (W := W) (ts := ts.take i) (c := c) (fun p hp => hb p (sub p hp)) hc
      rw [il] at ab1 ab2
      have step := low_step (N := (Fm.accV W (ts.take i) (c, 1)).1) (D := (Fm.accV W (ts.take i) (c, 1)).2) (w := z.2) (p := (W z.1).1) (q := (W z.1).2) apos wpos
      have nxt : Fm.accV W (ts.take (i + 1)) (c, 1) = ((Fm.accV W (ts.take i) (c, 1)).1 * (W z.1).2 + z.2 * (W z.1).1 * (Fm.accV W (ts.take i) (c, 1)).2, (Fm.accV W (ts.take i) (c, 1)).2 * (W z.1).2) := by
        rw [take_snoc hz, Fm.accV_append]; rfl
      rw [nxt]
      generalize Fm.accV W (ts.take i) (c, 1) = S at *
      have hS : S.2 ≠ 0 := by omega
      walk_at "sts"
      intro u hu
      have k4 : Keep [] H3 (upd H3 u (.tup [.int z.2, .int 1])) := Keep.new hu
      have e4 : upd H3 u (.tup [.int z.2, .int 1]) u = some (.tup [.int z.2, .int 1]) := upd_same
      generalize upd H3 u (.tup [.int z.2, .int 1]) = H4 at k4 e4 ⊢
      have k34 := k3.trans k4
      walk_at "sts"
      refine r_dgetS (k34 _ _ (by simp) hd) lv1 ?_
      walk_at "sts"
      refine r_two (f := fTimes) e4 (k34 _ _ (by simp) lv2) (by decide) (by omega) (Fm.pow_le b1 (by decide)) (by decide +kernel) (Fm.pow_le b2 (by decide)) (Fm.pow_le b3 (by decide)) fun r2 H5 k5 n5 e5 => ?_
      have q1 : (0 : Int) < 1 * (W z.1).2 := by omega
      walk_at "sts"
      refine r_two (f := fPlus) (k5 _ _ (by simp) (k4 _ _ (by simp) e3)) e5 (by have := lowB_pos (t := S.1) apos; omega) (by have := lowB_pos (t := (fTimes z.2 1 (W z.1).1 (W z.1).2).1) q1; show lowB _ (1 * (W z.1).2) ≠ 0; omega) (Nat.lt_of_le_of_lt (lowT_le hS) (Fm.pow_le ab1 (by omega))) (Nat.lt_of_le_of_lt (lowB_le hS) (Fm.pow_le ab2 (by omega))) (Nat.lt_of_le_of_lt (lowT_le (by show 1 * (W z.1).2 ≠ 0; omega)) (Fm.pow_le (Fm.natAbs_mul_lt b1 b2) (by decide))) (Nat.lt_of_le_of_lt (lowB_le (by show 1 * (W z.1).2 ≠ 0; omega)) (by show (1 * (W z.1).2).natAbs < _; rw [Int.one_mul]; exact Fm.pow_le b3 (by decide))) fun r3 H6 k6 n6 e6 => ?_
      walk_at "sts"
      refine ⟨r3, _, _, rfl, k34.trans (k5.trans k6), ?_⟩
      rw [e6, step.1, step.2.1]
    · rintro σ' H3 ⟨r, x1, x2, rfl, k3, e3⟩
      rw [List.length_map, hlt, List.take_length] at e3
      walk_at "sts"
      exact q r H3 k3 e3
end
/-! ### the law's own forms -/
def DueAt (H : Hp) (p : Addr) (ts : List Fm.Tm) (c : Int) : Prop := ∃ t, H p = some (.tup [.ref t, .int c]) ∧ TupAt H t ts
theorem DueAt.keep {M : List Addr} {H H' : Hp} {p : Addr} {ts : List Fm.Tm} {c : Int} (h : DueAt H p ts c) (k : Keep M H H') (n : ∀ m ∈ M, ∃ xs, H m = some (.lst xs)) : DueAt H' p ts c := by
  obtain ⟨t, e, ht⟩ := h
  refine ⟨t, k _ _ (fun hm => ?_) e, ht.keep k n⟩
  obtain ⟨xs, hx⟩ := n p hm
  rw [hx] at e; cases e
theorem DueAt.keep0 {H H' : Hp} {p : Addr} {ts : List Fm.Tm} {c : Int} (h : DueAt H p ts c) (k : Keep [] H H') : DueAt H' p ts c := h.keep k (by simp)
def spTidy : Sp := fun vs H Q _ => ∃ (p : Addr) (ts : List Fm.Tm) (c : Int), vs = [.ref p, .int c] ∧ RowAt H p ts ∧ ts.length ≤ 60 ∧ ∀ q H', Keep [] H H' → H q = none → DueAt H' q (Fm.can ts) c → Q (.ref q) H'
def spDueAdd : Sp := fun vs H Q _ => ∃ (p q : Addr) (ts us : List Fm.Tm) (c d k : Int), vs = [.ref p, .ref q, .int k] ∧ DueAt H p ts c ∧ DueAt H q us d ∧ ts.length + us.length ≤ 60 ∧ (∀ t ∈ us, t.2.natAbs < 2 ^ 1500) ∧ d.natAbs < 2 ^ 1500 ∧ k.natAbs < 2 ^ 1500 ∧ ∀ r H', Keep [] H H' → H r = none → DueAt H' r (Fm.can (ts ++ Fm.scl k us)) (c + k * d) → Q (.ref r) H'
def spValL : Sp := fun vs H Q _ => ∃ (p d : Addr) (ts : List Fm.Tm) (c : Int) (kvs : List (Key × V)) (W : Fm.Wd), vs = [.ref p, .ref d] ∧ DueAt H p ts c ∧ H d = some (.dK kvs) ∧ (∀ t ∈ ts, LevAt H kvs W t.1 ∧ 0 < (W t.1).2) ∧ ts.length ≤ 5 ∧ (∀ t ∈ ts, t.2.natAbs < 2 ^ 400 ∧ (W t.1).1.natAbs < 2 ^ 1000 ∧ (W t.1).2.natAbs < 2 ^ 401) ∧ c.natAbs < 2 ^ 400 ∧
  ∀ r H', Keep [] H H' → H r = none → H' r = some (.tup [.int (lowT (Fm.accV W ts (c, 1)).1 (Fm.accV W ts (c, 1)).2), .int (lowB (Fm.accV W ts (c, 1)).1 (Fm.accV W ts (c, 1)).2)]) → Q (.ref r) H'
def spPart : Sp := fun vs H Q _ => ∃ (i : Int) (x : Str), vs = [.int i, .str x] ∧ i.natAbs < 2 ^ 1500 ∧ x.length ≤ 12 ∧ Q (.str (Wr.part i x)) H
section
variable {P : Program} {w : World} {K : PySem.W.Frag} {mg : Str → Option Value} {base : Heap}
theorem ok_tidy (T : Tx K mg) : FnOk P w K mg base CX0 1 T.f_w_tidy T.fd_w_tidy ["_law_pairs_here", "_law_constant"] spTidy := by
  refine T.F_w_tidy.ok sc_w_tidy (fun vs H Q E h => ?_) (fun cdv A outer s H vs Q E hr h => ?_)
  · obtain ⟨p, ts, c, rfl, _⟩ := h; rfl
  · obtain ⟨p, ts, c, rfl, ⟨as, ep, pp⟩, hl, q⟩ := h
    have hlen := pp.len
    refine ⟨_, (pss_cons (ps_set (i := 2) sc_w_tidy.nd rfl (Or.inl rfl) (pe_lst pa_nil))
    (pss_cons (ps_for PassesOwn.never rfl (pi_list (pv 0)) (pg_name (i := 3) sc_w_tidy.nd rfl (Or.inl rfl))
    (pss_one (ps_if (pt_cmpR op_notIn_seq (pe_ix ix_tup (pv 3) pe_int (fun _ _ => rfl)) (pv 2) (by rfl))
    (pss_one (ps_expr (pe_bm PySem.F.plainAttrs_list PySem.F.slot_list_append PySem.F.type_list_append mt_append (pv 2) (pa_cons (pe_ix ix_tup (pv 3) pe_int (fun _ _ => rfl)) pa_nil))))
    pss_nil)))
    (pss_cons (ps_set (i := 4) sc_w_tidy.nd rfl (Or.inl rfl) (pe_lst pa_nil))
    (pss_cons (ps_for PassesOwn.never rfl (pi_list (pe_callB cr_sortedS (by rfl) T.m_sorted (by decide +kernel) (pa_cons (pv 2) pa_nil))) (pg_name (i := 5) sc_w_tidy.nd rfl (Or.inr rfl))
    (pss_cons (ps_set (i := 6) sc_w_tidy.nd rfl (Or.inl rfl) (pe_callB (cr_sum rfl) (by rfl) T.m_sum (by decide +kernel) (pa_cons (pe_lc (own := [("_law_pair", 3)]) (g := gName 3)  rfl sc_w_tidy.nd (pi_list (pv 0)) (blkOk_by (own := [("_law_pair", 3)]) (N := ["_law_pairs_here", "_law_constant", "_law_seen", "_law_pair", "_law_terms", "_law_text", "_law_weight_here"]) (sc := defScope s_w_tidy) (by decide +kernel)) (fun _ _ _ _ _ => pg_name (i := 3) sc_w_tidy.nd rfl (Or.inl rfl)) (fun _ _ _ _ _ => pts_one (pt_cmpR op_eq (pe_ix (ix_tupK (K := K) rfl) (pv 3) pe_int (fun _ _ => rfl)) (pv 5) (nomark _))) (fun _ _ _ _ _ => (pe_ix (ix_tupK (K := K) rfl) (pv 3) pe_int (fun _ _ => rfl)))) pa_nil)))
    (pss_one (ps_if (pt_cmpR op_ne (pv 6) pe_int (nomark _))
    (pss_one (ps_expr (pe_bm PySem.F.plainAttrs_list PySem.F.slot_list_append PySem.F.type_list_append mt_append (pv 4) (pa_cons (pe_tup (pa_cons (pv 5) (pa_cons (pv 6) pa_nil))) pa_nil))))
    pss_nil))))
    (pss_one (ps_ret (pe_tup (pa_cons (pe_callTy call_tuple_of (by rfl) T.m_tuple (by decide +kernel) (pa_cons (pv 4) pa_nil)) (pa_cons (pv 1) pa_nil))))))))), ?_⟩
    walk_at "start"
    walk_at "sts"
    intro s1 hs1
    have k1 : Keep [] H (upd H s1 (.lst [])) := Keep.new hs1
    have e1 : upd H s1 (.lst []) s1 = some (.lst (([] : List Str).map V.str)) := upd_same
    generalize upd H s1 (.lst []) = H1 at k1 e1 ⊢
    walk_at "sts"
    refine forL_go (fun i σ' H' => ∃ (xs : List Str) (x1 : Option V), σ' = [some (.ref p), some (.int c), some (.ref s1), x1, none, none, none] ∧ H' s1 = some (.lst (xs.map V.str)) ∧ Keep [] H H' ∧ xs.Nodup ∧ (∀ x, x ∈ xs ↔ x ∈ (ts.take i).map (·.1)) ∧ xs.length ≤ i) (sqL_of (k1 _ _ (by simp) ep)) ⟨[], _, rfl, e1, k1, by simp, by simp, by simp⟩ (fun i σ' H' _ h => by obtain ⟨_, _, _, _, k, _⟩ := h; exact sqL_of (k _ _ (by simp) ep)) ?_ ?_
    · rintro i v σ' H2 hv ⟨xs, x1, rfl, e2, k2, nd, hm, hx⟩
      obtain ⟨a, ha, rfl⟩ := getRef hv
      obtain ⟨z, hz, ez⟩ := pp.get ha
      have ez2 := k2 _ _ (by simp) ez
      have hi := (List.getElem?_eq_some_iff.mp hz).1
      walk_at "sts"
      refine r_ninL (sqL_of e2) rfl (flat_strs xs) ?_
      rw [inV_str]
      walk_at "sts"
      refine r_iteN (fun c1 => ?_) (fun c1 => ?_)
      · walk_at "sts"
        refine ⟨xs ++ [z.1], _, by first | exact rfl | trivial, by rw [upd_same, List.map_append]; rfl, k2.mut hs1, List.nodup_append.mpr ⟨nd, by simp, fun x hx y hy e => c1 (by rw [← List.mem_singleton.mp hy, ← e]; exact hx)⟩, fun x => ?_, by simp; omega⟩
        rw [take_snoc hz, List.map_append, List.mem_append, List.mem_append, hm]; simp
      · walk_at "sts"
        refine ⟨xs, _, by first | exact rfl | trivial, e2, k2, nd, fun x => ?_, by omega⟩
        rw [take_snoc hz, List.map_append, List.mem_append, ← hm]
        constructor
        · exact .inl
        · rintro (h | h)
          · exact h
          · have : x = z.1 := by simpa using h
            rw [this]; exact c1
    · rintro σ' H2 ⟨xs, x1, rfl, e2, k2, nd, hm, hx⟩
      rw [List.length_map, hlen] at hx
      rw [List.length_map, hlen, List.take_length] at hm
      walk_at "sts"
      intro lt hlt
      have k3 : Keep [] H2 (upd H2 lt (.lst [])) := Keep.new hlt
      have e3 : upd H2 lt (.lst []) lt = some (.lst (([] : List Addr).map V.ref)) := upd_same
      have nlt : H lt = none := k2.free (by simp) hlt
      generalize upd H2 lt (.lst []) = H3 at k3 e3 ⊢
      have k23 := k2.trans k3
      have es3 := k3 _ _ (by simp) e2
      walk_at "sts"
      refine r_sortS (sqL_of es3) (by omega) fun ys l pm st hl3 => ?_
      have k4 : Keep [] H3 (upd H3 l (.lst (ys.map V.str))) := Keep.new hl3
      have e4 : upd H3 l (.lst (ys.map V.str)) l = some (.lst (ys.map V.str)) := upd_same
      have el4 := k4 _ _ (by simp) e3
      generalize upd H3 l (.lst (ys.map V.str)) = H4 at k4 e4 el4 ⊢
      have k24 := k23.trans k4
      have nd' : ys.Nodup := pm.nodup_iff.mpr nd
      have asc := Fm.asc_of_sorted st nd'
      have mem : ∀ x, x ∈ ys ↔ x ∈ ts.map (·.1) := fun x => (pm.mem_iff).trans (hm x)
      have ly : ys.length ≤ 60 := by have := pm.length_eq; omega
      have nll : l ≠ lt := by rintro rfl; rw [e3] at hl3; cases hl3
      refine forL_go (fun i σ' H' => ∃ (bs : List Addr) (x1 x2 x3 : Option V), σ' = [some (.ref p), some (.int c), some (.ref s1), x1, some (.ref lt), x2, x3] ∧ H' lt = some (.lst (bs.map V.ref)) ∧ PairsAt H' bs (Fm.rowOf (ys.take i) (Fm.wt ts)) ∧ Keep [lt] H4 H') (sqL_of e4) ⟨[], _, _, _, by first | exact rfl | trivial, el4, by simp [Fm.rowOf, PairsAt], Keep.refl _ _⟩ (fun i σ' H' _ h => by obtain ⟨_, _, _, _, _, _, _, k⟩ := h; exact sqL_of (k _ _ (by simpa using nll) e4)) ?_ ?_
      · rintro i v σ' H5 hv ⟨bs, x1, x2, x3, rfl, e5, r5, k5⟩
        obtain ⟨nm, hnm, rfl⟩ := getStr hv
        have kept : Keep [] H H5 := fun b o _ hb => k5 b o (by simp; rintro rfl; rw [nlt] at hb; cases hb) (k24 b o (by simp) hb)
        have hbl := r5.len
        have hb60 : bs.length ≤ 60 := by
          have := List.length_filter_le (fun p : Fm.Tm => decide (p.2 ≠ 0)) ((ys.take i).map fun x => (x, Fm.wt ts x))
          unfold Fm.rowOf at hbl
          rw [List.length_map, List.length_take] at this
          omega
        walk_at "sts"
        refine lcL_go (fun D j acc H' => acc = (((ts.take j).filter fun p => decide (p.1 = nm)).map (·.2)).map V.int ∧ Keep [] H5 H' ∧ H5 D = none) (sqL_of (kept _ _ (by simp) ep)) (fun D hD => ⟨by simp, Keep.new hD, hD⟩) (fun D j acc H' _ h => by obtain ⟨_, k, _⟩ := h; exact sqL_of (k _ _ (by simp) (kept _ _ (by simp) ep))) ?_ ?_
        · rintro D j v2 acc H6 hv2 hD ⟨rfl, k6, nD⟩
          obtain ⟨a, ha, rfl⟩ := getRef hv2
          obtain ⟨z, hz, ez⟩ := pp.get ha
          have ez6 := k6 _ _ (by simp) (kept _ _ (by simp) ez)
          have snoc : (((ts.take (j + 1)).filter fun p => decide (p.1 = nm)).map (·.2)).map V.int = if z.1 = nm then (((ts.take j).filter fun p => decide (p.1 = nm)).map (·.2)).map V.int ++ [V.int z.2] else (((ts.take j).filter fun p => decide (p.1 = nm)).map (·.2)).map V.int := by
            rw [take_snoc hz, List.filter_append]
            by_cases h : z.1 = nm <;> simp [h]
          have hfl := List.length_filter_le (fun p : Fm.Tm => decide (p.1 = nm)) (ts.take j)
          rw [List.length_take] at hfl
          walk_at "sts"
          refine r_ite (fun c2 => ?_) (fun c2 => ?_)
          · walk_at "sts"
            exact lc_put hD (by rw [List.length_map, List.length_map]; exact lt_size (by omega)) ⟨by rw [snoc, if_pos c2], k6.mut nD, nD⟩
          · walk_at "sts"
            exact ⟨_, hD, by rw [snoc, if_neg c2], k6, nD⟩
        · rintro D acc H6 nD hD ⟨rfl, k6, _⟩
          rw [List.take_of_length_le (by rw [List.length_map, hlen]; exact Nat.le_refl _)] at hD
          walk_at "sts"
          refine r_sum (sqL_of hD) ?_
          rw [show ((ts.filter fun p => decide (p.1 = nm)).map (·.2)).sum = Fm.wt ts nm from rfl]
          have e6 := k6 _ _ (by simp) e5
          have r6 := r5.keep0 k6
          have k56 : Keep [lt] H4 H6 := k5.trans (k6.mono (by simp))
          walk_at "sts"
          refine r_iteN (fun c2 => ?_) (fun c2 => ?_)
          · walk_at "sts"
            intro t ht
            have k7 : Keep [] H6 (upd H6 t (.tup [.str nm, .int (Fm.wt ts nm)])) := Keep.new ht
            have e7 : upd H6 t (.tup [.str nm, .int (Fm.wt ts nm)]) t = some (.tup [.str nm, .int (Fm.wt ts nm)]) := upd_same
            have el7 := k7 _ _ (by simp) e6
            walk_at "sts"
            refine ⟨bs ++ [t], _, _, _, by first | exact rfl | trivial, by rw [upd_same, List.map_append]; rfl, ?_, ?_⟩
            · rw [take_snoc hnm, Fm.rowOf_snoc, if_pos c2]
              exact ((r6.keep0 k7).app (bs := [t]) (us := [(nm, Fm.wt ts nm)]) ⟨e7, trivial⟩).keep (Keep.at (M := [lt]) (by simp)) (fun m hm => by rw [List.mem_singleton.mp hm]; exact ⟨_, el7⟩)
            · exact k56.trans ((k7.mono (by simp)).trans (Keep.at (by simp)))
          · walk_at "sts"
            exact ⟨bs, _, _, _, by first | exact rfl | trivial, e6, by rw [take_snoc hnm, Fm.rowOf_snoc, if_neg (fun z => z c2)]; exact r6, k56⟩
      · rintro σ' H5 ⟨bs, x1, x2, x3, rfl, e5, r5, k5⟩
        rw [List.length_map, List.take_length, Fm.rowOf_can asc nd' fun t ht => (mem _).mpr (List.mem_map_of_mem ht)] at r5
        have kept : Keep [] H H5 := fun b o _ hb => k5 b o (by simp; rintro rfl; rw [nlt] at hb; cases hb) (k24 b o (by simp) hb)
        walk_at "sts"
        refine r_tupL (sqL_of e5) fun u hu => ?_
        have k6 : Keep [] H5 (upd H5 u (.tup (bs.map V.ref))) := Keep.new hu
        have e6 : upd H5 u (.tup (bs.map V.ref)) u = some (.tup (bs.map V.ref)) := upd_same
        have r6 := r5.keep0 k6
        generalize upd H5 u (.tup (bs.map V.ref)) = H6 at k6 e6 r6 ⊢
        walk_at "sts"
        intro z hz
        have k7 : Keep [] H6 (upd H6 z (.tup [.ref u, .int c])) := Keep.new hz
        exact q z _ (kept.trans (k6.trans k7)) ((kept.trans k6).free (by simp) hz) ⟨u, upd_same, bs, k7 _ _ (by simp) e6, r6.keep0 k7⟩
theorem ok_dueAdd (T : Tx K mg) (G_w_tidy : FnOk P w K mg base CX0 1 T.f_w_tidy T.fd_w_tidy ["_law_pairs_here", "_law_constant"] spTidy) : FnOk P w K mg base CX0 2 T.f_w_added T.fd_w_added ["_law_one", "_law_two", "_law_factor"] spDueAdd := by
  refine T.F_w_added.ok sc_w_added (fun vs H Q E h => ?_) (fun cdv A outer s H vs Q E hr h => ?_)
  · obtain ⟨p, q, ts, us, c, d, k, rfl, _⟩ := h; rfl
  · obtain ⟨p, q, ts, us, c, d, k, rfl, ⟨t, ep, as, et, pt⟩, ⟨u, eq, bs, eu, pu⟩, hl, hw, hd, hk, qq⟩ := h
    have hlt := pt.len
    have hlu := pu.len
    refine ⟨_, (pss_cons (ps_set (i := 3) sc_w_added.nd rfl (Or.inl rfl) (pe_op op_cat (pe_callTy call_list_of (by rfl) T.m_list (by decide +kernel) (pa_cons (pe_ix ix_tup (pv 0) pe_int (fun _ _ => rfl)) pa_nil)) (pe_lc (own := [("_law_pair", 4)]) (g := gName 4) (tt := tYes) rfl sc_w_added.nd (pi_tup (pe_ix ix_tup (pv 1) pe_int (fun _ _ => rfl))) (blkOk_by (own := [("_law_pair", 4)]) (N := ["_law_one", "_law_two", "_law_factor", "_law_pairs_here", "_law_pair"]) (sc := defScope s_w_added) (by decide +kernel)) (fun _ _ _ _ _ => pg_name (i := 4) sc_w_added.nd rfl (Or.inl rfl)) (fun _ _ _ _ _ => pts_nil) (fun _ _ _ _ _ => (pe_tup (pa_cons (pe_ix (ix_tupK (K := K) rfl) (pv 4) pe_int (fun _ _ => rfl)) (pa_cons (pe_op op_mulG (pv 2) (pe_ix (ix_tupK (K := K) rfl) (pv 4) pe_int (fun _ _ => rfl))) pa_nil)))))))
    (pss_one (ps_ret (pe_call G_w_tidy (hr.mono (by decide)) rfl T.g_w_tidy T.F_w_tidy.kp T.b_w_tidy .nil pass0 (pa_cons (pv 3) (pa_cons (pe_op op_add (pe_ix ix_tup (pv 0) pe_int (fun _ _ => rfl)) (pe_op op_mulG (pv 2) (pe_ix ix_tup (pv 1) pe_int (fun _ _ => rfl)))) pa_nil)))))), ?_⟩
    walk_at "start"
    walk_at "sts"
    intro l hl1
    have k1 : Keep [] H (upd H l (.lst (as.map V.ref))) := Keep.new hl1
    have e1 : upd H l (.lst (as.map V.ref)) l = some (.lst (as.map V.ref)) := upd_same
    generalize upd H l (.lst (as.map V.ref)) = H1 at k1 e1 ⊢
    have eq1 := k1 _ _ (by simp) eq
    walk_at "sts"
    refine lcT_go (fun D i acc H' => ∃ cs : List Addr, acc = cs.map V.ref ∧ PairsAt H' cs (Fm.scl k (us.take i)) ∧ Keep [] H1 H' ∧ H1 D = none) (sqT_of (k1 _ _ (by simp) eu)) (fun D hD => ⟨[], rfl, trivial, Keep.new hD, hD⟩) (fun D i acc H' _ h => by obtain ⟨_, _, _, k, _⟩ := h; exact sqT_of (k _ _ (by simp) (k1 _ _ (by simp) eu))) ?_ ?_
    · rintro D i v acc H2 hv hD ⟨cs, rfl, hb, k2, nD⟩
      obtain ⟨a, ha, rfl⟩ := getRef hv
      obtain ⟨z, hz, ez⟩ := pu.get ha
      have ez2 := k2 _ _ (by simp) (k1 _ _ (by simp) ez)
      have mz := List.mem_of_getElem? hz
      have hbl := hb.len
      rw [Fm.scl, List.length_map, List.length_take] at hbl
      walk_at "sts"
      refine r_I (mulw 1500 1500 hk (hw z mz)) ?_
      walk_at "sts"
      intro y hy
      have k3 : Keep [] H2 (upd H2 y (.tup [.str z.1, .int (k * z.2)])) := Keep.new hy
      have e3 : upd H2 y (.tup [.str z.1, .int (k * z.2)]) y = some (.tup [.str z.1, .int (k * z.2)]) := upd_same
      generalize upd H2 y (.tup [.str z.1, .int (k * z.2)]) = H3 at k3 e3 ⊢
      have hD3 := k3 _ _ (by simp) hD
      refine lc_put (acc := cs.map V.ref) hD3 (by rw [List.length_map]; exact lt_size (by omega)) ⟨cs ++ [y], by rw [List.map_append]; rfl, ?_, (k2.trans k3).mut nD, nD⟩
      rw [take_snoc hz, show Fm.scl k (us.take i ++ [z]) = Fm.scl k (us.take i) ++ [(z.1, k * z.2)] by simp [Fm.scl]]
      exact ((hb.keep0 k3).app (bs := [y]) (us := [(z.1, k * z.2)]) ⟨e3, trivial⟩).keep (Keep.at (M := [D]) (by simp)) (fun m hm => by rw [List.mem_singleton.mp hm]; exact ⟨_, hD3⟩)
    · rintro D acc H2 nD hD ⟨cs, rfl, hb, k2, _⟩
      rw [List.take_of_length_le (by rw [List.length_map, hlu]; exact Nat.le_refl _)] at hb
      have hcl := hb.len
      rw [scl_len] at hcl
      have e2 := k2 _ _ (by simp) e1
      have k12 := k1.trans k2
      refine r_cat e2 hD (le_size (by rw [List.length_map, List.length_map]; omega)) fun l2 hl2 => ?_
      have k3 : Keep [] H2 (upd H2 l2 (.lst (as.map V.ref ++ cs.map V.ref))) := Keep.new hl2
      have e3 : upd H2 l2 (.lst (as.map V.ref ++ cs.map V.ref)) l2 = some (.lst ((as ++ cs).map V.ref)) := by rw [upd_same, List.map_append]
      generalize upd H2 l2 (.lst (as.map V.ref ++ cs.map V.ref)) = H3 at k3 e3 ⊢
      have k13 := k12.trans k3
      have ep3 := k13 _ _ (by simp) ep
      have eq3 := k13 _ _ (by simp) eq
      walk_at "sts"
      refine r_I (mulw 1500 1500 hk hd) ?_
      walk_at "sts"
      refine ⟨l2, ts ++ Fm.scl k us, c + k * d, rfl, ⟨as ++ cs, e3, (pt.keep0 k13).app (hb.keep0 k3)⟩, by rw [List.length_append, scl_len]; exact hl, fun r H4 k4 nr dr => ?_⟩
      exact qq r H4 (k13.trans k4) (k13.free (by simp) nr) dr
theorem ok_part (T : Tx K mg) : FnOk P w K mg base CX0 1 T.f_w_part T.fd_w_part ["_law_weight_here", "_law_text"] spPart := by
  refine T.F_w_part.ok sc_w_part (fun vs H Q E h => ?_) (fun cdv A outer s H vs Q E hr h => ?_)
  · obtain ⟨i, x, rfl, _⟩ := h; rfl
  · obtain ⟨i, x, rfl, hi, hx, q⟩ := h
    have hn := num_le (i := (i.natAbs : Int)) (by rw [Int.natAbs_natCast]; exact hi)
    unfold Wr.part at q
    refine ⟨_, (pss_cons (ps_if (pt_cmpR op_eq (pe_callB call_abs (by rfl) T.m_abs (by decide +kernel) (pa_cons (pv 0) pa_nil)) pe_int (nomark _))
    (pss_one (ps_ret (pv 1)))
    pss_nil)
    (pss_one (ps_ret (pe_op op_addS (pe_op op_addS (pe_callTy call_str_int (by rfl) T.m_str (by decide +kernel) (pa_cons (pe_callB call_abs (by rfl) T.m_abs (by decide +kernel) (pa_cons (pv 0) pa_nil)) pa_nil)) pe_str) (pv 1))))), ?_⟩
    walk_at "start"
    walk_at "sts"
    refine r_ite (fun c1 => ?_) (fun c1 => ?_)
    · walk_at "sts"
      rw [if_pos c1] at q; exact q
    · rw [if_neg c1] at q
      walk_at "sts"
      refine ⟨Nat.lt_trans (log2_of (n := 1500) (by rw [Int.natAbs_natCast]; exact hi) (by decide)) (by decide), ?_⟩
      have h1 : (Str.ofString " ").length = 1 := rfl
      have hn' : (Str.ofString (toString (i.natAbs : Int))).length ≤ 1600 := hn
      walk_at "sts"
      refine r_addS (le_size (by omega)) ?_
      walk_at "sts"
      refine r_addS (le_size (by rw [Wr.len_app]; omega)) ?_
      exact q
end
/-! ### the law's checks -/
def spFormIs (C : Addr) : Sp := fun vs H Q _ => ∃ (x p : Addr) (ts : List Fm.Tm) (c : Int), vs = [.ref x, .ref p] ∧ FormAt C H x ts c ∧ DueAt H p ts c ∧ ts.length ≤ 60 ∧ Q (.bl true) H
def spWrit : Sp := fun vs H Q _ => ∃ (p : Addr) (ts : List Fm.Tm) (c : Int), vs = [.ref p] ∧ DueAt H p ts c ∧ ts.length ≤ 60 ∧ (∀ t ∈ ts, IsQ t.1 ∧ t.2.natAbs < 2 ^ 1500) ∧ c.natAbs < 2 ^ 1500 ∧ ∀ H', Keep [] H H' → Q (.str (Wr.due ts c)) H'
def spRight (C : Addr) : Sp := fun vs H Q _ => ∃ (x p : Addr) (ts : List Fm.Tm) (c : Int), vs = [.ref x, .ref p] ∧ FormAt C H x ts c ∧ DueAt H p ts c ∧ ts.length ≤ 60 ∧ (∀ t ∈ ts, IsQ t.1 ∧ t.2.natAbs < 2 ^ 1500) ∧ c.natAbs < 2 ^ 1500 ∧ ∀ H', Keep [] H H' → Q (.bl true) H'
def spLPut : Sp := fun vs H Q _ => ∃ (p q : Addr) (ts us : List Fm.Tm) (c d : Int) (nm : Str), vs = [.ref p, .str nm, .ref q] ∧ DueAt H p ts c ∧ DueAt H q us d ∧ Fm.Canon ts ∧ ts.length + us.length ≤ 60 ∧ (∀ t ∈ ts, t.2.natAbs < 2 ^ 1500) ∧ (∀ t ∈ us, t.2.natAbs < 2 ^ 1500) ∧ d.natAbs < 2 ^ 1500 ∧
  ∀ r H', Keep [] H H' → H r = none → DueAt H' r (Fm.can (Fm.dropN nm ts ++ Fm.scl (Fm.wt ts nm) us)) (c + Fm.wt ts nm * d) → Q (.ref r) H'
theorem le_of_eq_size {n : Nat} (h : n ≤ 1000000) : n ≤ sizeLine := Nat.le_trans h (by decide)
theorem atRef {as : List Addr} {i : Nat} {a : Addr} (h : as[i]? = some a) : atI (as.map V.ref) (i : Int) = some (V.ref a) := atI_nat (by rw [List.getElem?_map, h]; rfl)
theorem line_len {ts : List Fm.Tm} : ∀ {i : Nat} {s : Str} {B : Nat}, (∀ t ∈ ts, (Wr.part t.2 t.1).length ≤ 1700) → s.length ≤ B → (ts.foldl Wr.step s).length ≤ B + ts.length * 1710 := by
  intro i s B h hs
  induction ts generalizing s B with
  | nil => simpa using hs
  | cons t ts ih =>
    have e : (Wr.step s t).length ≤ B + 1710 := by
      unfold Wr.step
      have := h t (by simp)
      have h1 : Wr.sp.length = 1 := rfl
      have h2 : (Wr.sg t.2).length = 1 := by unfold Wr.sg; split <;> rfl
      have h3 : (Str.ofString "-").length = 1 := rfl
      rw [Wr.len_app]
      split
      · rw [Wr.len_app, Wr.len_app, Wr.len_app]; omega
      · split <;> omega
    have := ih (s := Wr.step s t) (B := B + 1710) (fun z hz => h z (by simp [hz])) e
    rw [List.foldl_cons, List.length_cons]; omega
section
variable {P : Program} {w : World} {K : PySem.W.Frag} {mg : Str → Option Value} {base : Heap}
theorem ok_valL (T : Tx K mg) (G_w_lowest : FnOk P w K mg base CX0 1 T.f_w_lowest T.fd_w_lowest ["_law_top", "_law_bottom"] spLow0) : FnOk P w K mg base CX0 2 T.f_w_value T.fd_w_value ["_law_due", "_law_world"] spValL := by
  refine T.F_w_value.ok sc_w_value (fun vs H Q E h => ?_) (fun cdv A outer s H vs Q E hr h => ?_)
  · obtain ⟨p, d, ts, c, kvs, W, rfl, _⟩ := h; rfl
  · obtain ⟨p, d, ts, c, kvs, W, rfl, ⟨t, ep, as, et, pt⟩, hd, hlev, hl, hb, hc, q⟩ := h
    have hlt := pt.len
    refine ⟨_, (pss_cons (ps_set (i := 2) sc_w_value.nd rfl (Or.inl rfl) (pe_ix ix_tup (pv 0) pe_int (fun _ _ => rfl)))
    (pss_cons (ps_set (i := 3) sc_w_value.nd rfl (Or.inl rfl) pe_int)
    (pss_cons (ps_for PassesOwn.never rfl (pi_tup (pe_ix ix_tup (pv 0) pe_int (fun _ _ => rfl))) (pg_name (i := 4) sc_w_value.nd rfl (Or.inl rfl))
    (pss_cons (ps_set (i := 5) sc_w_value.nd rfl (Or.inl rfl) (pe_dget (hu_of hr) (pv 1) (pe_ix ix_tup (pv 4) pe_int (fun _ _ => rfl)) (fun _ _ => rfl)))
    (pss_cons (ps_set (i := 2) sc_w_value.nd rfl (Or.inl rfl) (pe_op op_add (pe_op op_mulG (pv 2) (pe_ix ix_tup (pv 5) pe_int (fun _ _ => rfl))) (pe_op op_mulG (pe_op op_mulG (pe_ix ix_tup (pv 4) pe_int (fun _ _ => rfl)) (pe_ix ix_tup (pv 5) pe_int (fun _ _ => rfl))) (pv 3))))
    (pss_one (ps_set (i := 3) sc_w_value.nd rfl (Or.inl rfl) (pe_op op_mulG (pv 3) (pe_ix ix_tup (pv 5) pe_int (fun _ _ => rfl))))))))
    (pss_one (ps_ret (pe_call G_w_lowest (hr.mono (by decide)) rfl T.g_w_lowest T.F_w_lowest.kp T.b_w_lowest .nil pass0 (pa_cons (pv 2) (pa_cons (pv 3) pa_nil)))))))), ?_⟩
    walk_at "start"
    walk_at "sts"
    refine forT_go (fun i σ' H' => ∃ (x1 x2 : Option V), σ' = [some (.ref p), some (.ref d), some (.int (Fm.accV W (ts.take i) (c, 1)).1), some (.int (Fm.accV W (ts.take i) (c, 1)).2), x1, x2] ∧ H' = H) (sqT_of et) ⟨_, _, rfl, rfl⟩ (fun i σ' H' _ h => by obtain ⟨_, _, _, rfl⟩ := h; exact sqT_of et) ?_ ?_
    · rintro i v σ' H3 hv ⟨x1, x2, rfl, rfl⟩
      obtain ⟨a, ha, rfl⟩ := getRef hv
      obtain ⟨z, hz, ez⟩ := pt.get ha
      have mz := List.mem_of_getElem? hz
      obtain ⟨⟨lv, lv1, lv2⟩, wpos⟩ := hlev z mz
      obtain ⟨b1, b2, b3⟩ := hb z mz
      have hi := (List.getElem?_eq_some_iff.mp hz).1
      have il : (ts.take i).length = i := by rw [List.length_take]; omega
      have sub : ∀ p ∈ ts.take i, p ∈ ts := fun p hp => List.mem_of_mem_take hp
      obtain ⟨ab1, ab2⟩ := Fm.acc_bound (W := W) (ts := ts.take i) (c := c) (fun p hp => hb p (sub p hp)) hc
      rw [il] at ab1 ab2
      have nxt : Fm.accV W (ts.take (i + 1)) (c, 1) = ((Fm.accV W (ts.take i) (c, 1)).1 * (W z.1).2 + z.2 * (W z.1).1 * (Fm.accV W (ts.take i) (c, 1)).2, (Fm.accV W (ts.take i) (c, 1)).2 * (W z.1).2) := by
        rw [take_snoc hz, Fm.accV_append]; rfl
      rw [nxt]
      generalize Fm.accV W (ts.take i) (c, 1) = S at *
      walk_at "sts"
      refine r_dgetS hd lv1 ?_
      walk_at "sts"
      refine r_I (.inr (cmulw 9000 401 (Fm.pow_le ab1 (by omega)) b3)) ?_
      walk_at "sts"
      refine r_I (.inr (cmulw 400 1000 b1 b2)) ?_
      walk_at "sts"
      refine r_I (.inr (cmulw 1400 3000 (Fm.natAbs_mul_lt b1 b2) (Fm.pow_le ab2 (by omega)))) ?_
      walk_at "sts"
      refine r_I (.inr (cmulw 3000 401 (Fm.pow_le ab2 (by omega)) b3)) ?_
      walk_at "sts"
      exact ⟨_, _, rfl, rfl⟩
    · rintro σ' H3 ⟨x1, x2, rfl, rfl⟩
      rw [List.length_map, hlt, List.take_length]
      have apos := Fm.acc_pos (W := W) (ts := ts) (s := (c, 1)) (fun p hp => (hlev p hp).2) Int.one_pos
      obtain ⟨ab1, ab2⟩ := Fm.acc_bound (W := W) (ts := ts) (c := c) hb hc
      walk_at "sts"
      exact r_low0 apos (Fm.pow_le ab2 (by omega)) fun r H' k nr er => q r H' k nr er
theorem ok_formIs (T : Tx K mg) (G_w_whole : FnOk P w K mg base CX0 1 T.f_w_whole T.fd_w_whole ["_law_found"] spWhole) : FnOk P w K mg base CX0 2 T.f_w_form_is T.fd_w_form_is ["_law_found", "_law_due"] (spFormIs T.C_Form) := by
  refine T.F_w_form_is.ok sc_w_form_is (fun vs H Q E h => ?_) (fun cdv A outer s H vs Q E hr h => ?_)
  · obtain ⟨x, p, ts, c, rfl, _⟩ := h; rfl
  · obtain ⟨x, p, ts, c, rfl, ⟨dx, t, ex, as, et, pt⟩, ⟨u, ep, bs, eu, pu⟩, hl, q⟩ := h
    have oc := T.oc_Form
    have na := T.na_Form_terms
    have nc := T.na_Form_constant
    have hlt := pt.len
    have hlu := pu.len
    refine ⟨_, (pss_cons (ps_if (PW.pt (pw_or (pt_not (pt_val (pe_callB call_isi (by rfl) T.m_isinstance (by decide +kernel) (pa_cons (pv 0) (pa_cons (pe_glob (v := .ref T.C_Form) rfl T.gC_Form rfl) pa_nil))))) (pw_or (pt_not (pt_val (pe_callB call_isi (by rfl) T.m_isinstance (by decide +kernel) (pa_cons (pe_fld (pv 0) rfl) (pa_cons (pe_bltn (v := .ty "tuple") (by rfl) T.m_tuple (by decide +kernel) rfl) pa_nil))))) (pw_or1 (pt_cmpR op_ne (pe_callB call_len_seq (by rfl) T.m_len PySem.boot_len (pa_cons (pe_fld (pv 0) rfl) pa_nil)) (pe_callB call_len_seq (by rfl) T.m_len PySem.boot_len (pa_cons (pe_ix ix_tup (pv 1) pe_int (fun _ _ => rfl)) pa_nil)) (nomark _))))))
    (pss_one (ps_ret pe_bl))
    pss_nil)
    (pss_cons (ps_for PassesOwn.never rfl (pi_range1 rfl T.m_range (pa_cons (pe_callB call_len_seq (by rfl) T.m_len PySem.boot_len (pa_cons (pe_ix ix_tup (pv 1) pe_int (fun _ _ => rfl)) pa_nil)) pa_nil)) (pg_name (i := 2) sc_w_form_is.nd rfl (Or.inl rfl))
    (pss_cons (ps_set (i := 3) sc_w_form_is.nd rfl (Or.inl rfl) (pe_ix ix_tup (pe_fld (pv 0) rfl) (pv 2) (fun _ _ => rfl)))
    (pss_cons (ps_if (PW.pt (pw_or (pt_not (pt_val (pe_callB call_isi (by rfl) T.m_isinstance (by decide +kernel) (pa_cons (pv 3) (pa_cons (pe_bltn (v := .ty "tuple") (by rfl) T.m_tuple (by decide +kernel) rfl) pa_nil))))) (pw_or1 (pt_cmpR op_ne (pe_callB call_len_seq (by rfl) T.m_len PySem.boot_len (pa_cons (pv 3) pa_nil)) pe_int (nomark _)))))
    (pss_one (ps_ret pe_bl))
    pss_nil)
    (pss_cons (ps_if (PW.pt (pw_or (pt_not (pt_val (pe_callB call_isi (by rfl) T.m_isinstance (by decide +kernel) (pa_cons (pe_ix ix_tup (pv 3) pe_int (fun _ _ => rfl)) (pa_cons (pe_bltn (v := .ty "str") (by rfl) T.m_str (by decide +kernel) rfl) pa_nil))))) (pw_or1 (pt_not (pt_val (pe_call G_w_whole (hr.mono (by decide)) rfl T.g_w_whole T.F_w_whole.kp T.b_w_whole .nil pass0 (pa_cons (pe_ix ix_tup (pv 3) pe_int (fun _ _ => rfl)) pa_nil)))))))
    (pss_one (ps_ret pe_bl))
    pss_nil)
    (pss_one (ps_if (PW.pt (pw_or (pt_cmpR op_ne (pe_ix ix_tup (pv 3) pe_int (fun _ _ => rfl)) (pe_ix ix_tup (pe_ix ix_tup (pe_ix ix_tup (pv 1) pe_int (fun _ _ => rfl)) (pv 2) (fun _ _ => rfl)) pe_int (fun _ _ => rfl)) (nomark _)) (pw_or1 (pt_cmpR op_ne (pe_ix ix_tup (pv 3) pe_int (fun _ _ => rfl)) (pe_ix ix_tup (pe_ix ix_tup (pe_ix ix_tup (pv 1) pe_int (fun _ _ => rfl)) (pv 2) (fun _ _ => rfl)) pe_int (fun _ _ => rfl)) (nomark _)))))
    (pss_one (ps_ret pe_bl))
    pss_nil))))))
    (pss_one (ps_ret (pe_and (pe_call G_w_whole (hr.mono (by decide)) rfl T.g_w_whole T.F_w_whole.kp T.b_w_whole .nil pass0 (pa_cons (pe_fld (pv 0) rfl) pa_nil)) (pe_one (pe_cmpR op_eq (pe_fld (pv 0) rfl) (pe_ix ix_tup (pv 1) pe_int (fun _ _ => rfl)) (nomark _)))))))), ?_⟩
    walk_at "start"
    walk_at "sts"
    refine Ow.r_isiOwn oc ex ?_
    walk_at "sts"
    simp only [List.length_map, hlt, hlu]
    walk_at "sts"
    refine forR1_go (fun i σ' H' => ∃ (x1 x2 : Option V), σ' = [some (.ref x), some (.ref p), x1, x2] ∧ H' = H) (by omega) ⟨_, _, rfl, rfl⟩ ?_ ?_
    · rintro i σ' H' hi ⟨x1, x2, rfl, rfl⟩
      obtain ⟨z, hz⟩ : ∃ z, ts[i]? = some z := ⟨_, List.getElem?_eq_getElem (by omega)⟩
      obtain ⟨a, ha⟩ : ∃ a, as[i]? = some a := ⟨_, List.getElem?_eq_getElem (by omega)⟩
      obtain ⟨b, hb⟩ : ∃ b, bs[i]? = some b := ⟨_, List.getElem?_eq_getElem (by omega)⟩
      obtain ⟨z1, hz1, ea⟩ := pt.get ha
      obtain ⟨z2, hz2, eb⟩ := pu.get hb
      obtain rfl : z1 = z := Option.some.inj (hz1.symm.trans hz)
      obtain rfl : z2 = z1 := Option.some.inj (hz2.symm.trans hz)
      walk_at "sts"
      refine r_ixT (sqT_of et) (atRef ha) ?_
      walk_at "sts"
      refine r_whole ?_
      walk_at "sts"
      refine r_ixT (sqT_of eu) (atRef hb) ?_
      walk_at "sts"
      try rw [decide_eq_true rfl]
      walk_at "sts"
      refine r_ixT (sqT_of eu) (atRef hb) ?_
      walk_at "sts"
      try rw [decide_eq_true rfl]
      walk_at "sts"
      exact ⟨_, _, rfl, rfl⟩
    · rintro σ' H' ⟨x1, x2, rfl, rfl⟩
      walk_at "sts"
      refine r_whole ?_
      walk_at "sts"
      try rw [decide_eq_true rfl]
      exact q
theorem ok_writ (T : Tx K mg) (G_w_part : FnOk P w K mg base CX0 1 T.f_w_part T.fd_w_part ["_law_weight_here", "_law_text"] spPart) : FnOk P w K mg base CX0 2 T.f_w_written T.fd_w_written ["_law_due"] spWrit := by
  refine T.F_w_written.ok sc_w_written (fun vs H Q E h => ?_) (fun cdv A outer s H vs Q E hr h => ?_)
  · obtain ⟨p, ts, c, rfl, _⟩ := h; rfl
  · obtain ⟨p, ts, c, rfl, ⟨u, ep, bs, eu, pu⟩, hl, hw, hc, q⟩ := h
    have hlu := pu.len
    have hpl : ∀ t ∈ ts, (Wr.part t.2 t.1).length ≤ 1700 := fun t ht => part_len (hw t ht).1 (hw t ht).2
    refine ⟨_, (pss_cons (ps_if (pt_cmpR (op_eqD hr.units) (pe_ix ix_tup (pv 0) pe_int (fun _ _ => rfl)) (pe_tup pa_nil) (nomark _))
    (pss_one (ps_ret (pe_callTy call_str_int (by rfl) T.m_str (by decide +kernel) (pa_cons (pe_ix ix_tup (pv 0) pe_int (fun _ _ => rfl)) pa_nil))))
    pss_nil)
    (pss_cons (ps_set (i := 1) sc_w_written.nd rfl (Or.inl rfl) pe_str)
    (pss_cons (ps_for PassesOwn.never rfl (pi_tup (pe_ix ix_tup (pv 0) pe_int (fun _ _ => rfl))) (pg_name (i := 2) sc_w_written.nd rfl (Or.inl rfl))
    (pss_cons (ps_set (i := 3) sc_w_written.nd rfl (Or.inl rfl) pe_str)
    (Evl.pss_cut (ps_if (pt_cmpR op_lt (pe_ix ix_tup (pv 2) pe_int (fun _ _ => rfl)) pe_int (nomark _))
    (pss_one (ps_set (i := 3) sc_w_written.nd rfl (Or.inl rfl) pe_str))
    pss_nil)
    (Evl.pss_cut (ps_if (pt_cmpR op_ne (pv 1) pe_str (nomark _))
    (pss_one (ps_set (i := 1) sc_w_written.nd rfl (Or.inl rfl) (pe_op op_addS (pe_op op_addS (pe_op op_addS (pv 1) pe_str) (pv 3)) pe_str)))
    (pss_one (ps_if (pt_cmpR op_eq (pv 3) pe_str (nomark _))
    (pss_one (ps_set (i := 1) sc_w_written.nd rfl (Or.inl rfl) pe_str))
    pss_nil)))
    (pss_one (ps_set (i := 1) sc_w_written.nd rfl (Or.inl rfl) (pe_op op_addS (pv 1) (pe_call G_w_part (hr.mono (by decide)) rfl T.g_w_part T.F_w_part.kp T.b_w_part .nil pass0 (pa_cons (pe_ix ix_tup (pv 2) pe_int (fun _ _ => rfl)) (pa_cons (pe_ix ix_tup (pv 2) pe_int (fun _ _ => rfl)) pa_nil))))))))))
    (pss_cons (ps_if (pt_cmpR op_gt (pe_ix ix_tup (pv 0) pe_int (fun _ _ => rfl)) pe_int (nomark _))
    (pss_one (ps_ret (pe_op op_addS (pe_op op_addS (pv 1) pe_str) (pe_callTy call_str_int (by rfl) T.m_str (by decide +kernel) (pa_cons (pe_ix ix_tup (pv 0) pe_int (fun _ _ => rfl)) pa_nil)))))
    pss_nil)
    (pss_cons (ps_if (pt_cmpR op_lt (pe_ix ix_tup (pv 0) pe_int (fun _ _ => rfl)) pe_int (nomark _))
    (pss_one (ps_ret (pe_op op_addS (pe_op op_addS (pv 1) pe_str) (pe_callTy call_str_int (by rfl) T.m_str (by decide +kernel) (pa_cons (pe_un un_neg (pe_ix ix_tup (pv 0) pe_int (fun _ _ => rfl))) pa_nil)))))
    pss_nil)
    (pss_one (ps_ret (pv 1)))))))), ?_⟩
    walk_at "start"
    walk_at "sts"
    intro e he
    have k1 : Keep [] H (upd H e (.tup [])) := Keep.new he
    have ee : upd H e (.tup []) e = some (.tup []) := upd_same
    generalize upd H e (.tup []) = H1 at k1 ee ⊢
    have eu1 := k1 _ _ (by simp) eu
    have ep1 := k1 _ _ (by simp) ep
    have pu1 := pu.keep0 k1
    have sh := shaped_pairs fun t ht => (hw t ht).1
    refine ⟨_, _, .tup (sqT_of eu1) (dp_pairs pu1), .tup (sqT_of ee) .nil, sh, (shaped_flat (xs := []) rfl).2, ?_⟩
    have ev : PyData.eqv (.tuple (ts.map fun p => PyData.tuple [.str p.1, .int p.2])) (.tuple []) = decide (ts = []) := by
      cases ts with
      | nil => simp [PyData.eqv, PyData.eqvAll]
      | cons t ts => simp [PyData.eqv, PyData.eqvAll]
    rw [ev]
    walk_at "sts"
    refine r_ite (fun c1 => ?_) (fun c1 => ?_)
    · walk_at "sts"
      refine ⟨Nat.lt_trans (log2_of (n := 1500) hc (by decide)) (by decide), ?_⟩
      have := q H1 k1
      unfold Wr.due at this
      rw [if_pos c1] at this
      exact this
    · walk_at "sts"
      refine forT_go (fun i σ' H' => ∃ (x1 x2 : Option V), σ' = [some (.ref p), some (.str ((ts.take i).foldl Wr.step Str.empty)), x1, x2] ∧ H' = H1) (sqT_of eu1) ⟨_, _, rfl, rfl⟩ (fun i σ' H' _ h => by obtain ⟨_, _, _, rfl⟩ := h; exact sqT_of eu1) ?_ ?_
      · rintro i v σ' H3 hv ⟨x1, x2, rfl, rfl⟩
        obtain ⟨a, ha, rfl⟩ := getRef hv
        obtain ⟨z, hz, ez⟩ := pu1.get ha
        have mz := List.mem_of_getElem? hz
        have ll := line_len (ts := ts.take i) (i := 0) (s := Str.empty) (B := 0) (fun t ht => hpl t (List.mem_of_mem_take ht)) (Nat.le_refl _)
        have il : (ts.take i).length ≤ 60 := by rw [List.length_take]; omega
        have lb : ((ts.take i).foldl Wr.step Str.empty).length ≤ 110000 := by
          have := Nat.mul_le_mul_right 1710 il
          omega
        have nxt : (ts.take (i + 1)).foldl Wr.step Str.empty = Wr.step ((ts.take i).foldl Wr.step Str.empty) z := by rw [take_snoc hz, List.foldl_append]; rfl
        rw [nxt]
        generalize (ts.take i).foldl Wr.step Str.empty = ln at *
        walk_at "sts"
        have e0 : Str.ofString "" = Str.empty := by decide +kernel
        have lsg : (Wr.sg z.2).length = 1 := by unfold Wr.sg; split <;> rfl
        have lsp : (Str.ofString " ").length = 1 := rfl
        have lmi : (Str.ofString "-").length = 1 := rfl
        refine r_cut (fun σ' H' => σ' = [some (.ref p), some (.str ln), some (.ref a), some (.str (Wr.sg z.2))] ∧ H' = H3) ?_ ?_
        · walk_at "sts"
          refine r_ite (fun c2 => ?_) (fun c2 => ?_)
          · walk_at "sts"
            exact ⟨by unfold Wr.sg; rw [if_pos c2], rfl⟩
          · walk_at "sts"
            exact ⟨by unfold Wr.sg; rw [if_neg c2], rfl⟩
        rintro σ' H4 ⟨rfl, rfl⟩
        refine r_cut (fun σ' H' => ∃ l2, σ' = [some (.ref p), some (.str l2), some (.ref a), some (.str (Wr.sg z.2))] ∧ H' = H4 ∧ l2 ++ Wr.part z.2 z.1 = Wr.step ln z ∧ l2.length ≤ 111000) ?_ ?_
        · walk_at "sts"
          rw [e0]
          refine r_iteN (fun c2 => ?_) (fun c2 => ?_)
          · walk_at "sts"
            refine r_addS (le_of_eq_size (by omega)) ?_
            walk_at "sts"
            refine r_addS (le_of_eq_size (by rw [Wr.len_app]; omega)) ?_
            walk_at "sts"
            refine r_addS (le_of_eq_size (by rw [Wr.len_app, Wr.len_app]; omega)) ?_
            walk_at "sts"
            refine ⟨_, rfl, rfl, by unfold Wr.step; rw [if_pos c2]; rfl, by rw [Wr.len_app, Wr.len_app, Wr.len_app]; omega⟩
          · subst c2
            walk_at "sts"
            refine r_ite (fun c3 => ?_) (fun c3 => ?_)
            · walk_at "sts"
              have hneg : z.2 < 0 := Decidable.byContradiction fun h => by
                unfold Wr.sg at c3
                rw [if_neg h] at c3
                exact absurd c3 (by decide +kernel)
              exact ⟨_, rfl, rfl, by unfold Wr.step; rw [if_neg (by simp), if_pos hneg], by omega⟩
            · walk_at "sts"
              have hneg : ¬ z.2 < 0 := fun h => by
                unfold Wr.sg at c3
                rw [if_pos h] at c3
                exact c3 rfl
              exact ⟨_, rfl, rfl, by unfold Wr.step; rw [if_neg (by simp), if_neg hneg], by omega⟩
        rintro σ' H5 ⟨l2, rfl, rfl, e2, len2⟩
        have hp := hpl z mz
        walk_at "sts"
        refine ⟨z.2, z.1, rfl, (hw z mz).2, (hw z mz).1.len, ?_⟩
        refine r_addS (le_of_eq_size (by omega)) ?_
        rw [e2]
        walk_at "sts"
        exact ⟨_, _, rfl, rfl⟩
      · rintro σ' H3 ⟨x1, x2, rfl, rfl⟩
        rw [List.length_map, hlu, List.take_length]
        have ll := line_len (ts := ts) (i := 0) (s := Str.empty) (B := 0) hpl (Nat.le_refl _)
        have lb : (ts.foldl Wr.step Str.empty).length ≤ 110000 := by
          have := Nat.mul_le_mul_right 1710 hl
          omega
        have l3 : (Str.ofString " + ").length = 3 := rfl
        have l3' : (Str.ofString " - ").length = 3 := rfl
        have q' := q H3 k1
        unfold Wr.due at q'
        rw [if_neg c1] at q'
        walk_at "sts"
        refine r_ite (fun c2 => ?_) (fun c2 => ?_)
        · rw [if_pos c2] at q'
          walk_at "sts"
          refine r_addS (le_of_eq_size (by omega)) ?_
          walk_at "sts"
          refine ⟨Nat.lt_trans (log2_of (n := 1500) hc (by decide)) (by decide), ?_⟩
          have := num_le hc
          have h' : (Str.ofString (toString c)).length ≤ 1600 := this
          walk_at "sts"
          refine r_addS (le_of_eq_size (by rw [Wr.len_app]; omega)) ?_
          exact q'
        · rw [if_neg c2] at q'
          walk_at "sts"
          refine r_ite (fun c3 => ?_) (fun c3 => ?_)
          · rw [if_pos c3] at q'
            walk_at "sts"
            refine r_addS (le_of_eq_size (by omega)) ?_
            walk_at "sts"
            have hc' : (-c).natAbs < 2 ^ 1500 := by rw [Int.natAbs_neg]; exact hc
            refine ⟨Nat.lt_trans (log2_of (n := 1500) hc' (by decide)) (by decide), ?_⟩
            have := num_le hc'
            have h' : (Str.ofString (toString (-c))).length ≤ 1600 := this
            walk_at "sts"
            refine r_addS (le_of_eq_size (by rw [Wr.len_app]; omega)) ?_
            exact q'
          · rw [if_neg c3] at q'
            walk_at "sts"
            exact q'
end
/-! ### right, put in -/
section
variable {P : Program} {w : World} {K : PySem.W.Frag} {mg : Str → Option Value} {base : Heap}
theorem ok_right (T : Tx K mg) (G_w_form_is : FnOk P w K mg base CX0 2 T.f_w_form_is T.fd_w_form_is ["_law_found", "_law_due"] (spFormIs T.C_Form)) (G_Form___str : FnOk P w K mg base CX0 3 T.f_Form___str T.fd_Form___str ["self"] (spStr T.C_Form))
    (G_w_written : FnOk P w K mg base CX0 2 T.f_w_written T.fd_w_written ["_law_due"] spWrit) : FnOk P w K mg base CX0 6 T.f_w_right T.fd_w_right ["_law_found", "_law_due"] (spRight T.C_Form) := by
  refine T.F_w_right.ok sc_w_right (fun vs H Q E h => ?_) (fun cdv A outer s H vs Q E hr h => ?_)
  · obtain ⟨x, p, ts, c, rfl, _⟩ := h; rfl
  · obtain ⟨x, p, ts, c, rfl, hx, hp, hl, hw, hc, q⟩ := h
    obtain ⟨dx, t, ex, _⟩ := id hx
    refine ⟨_, (pss_cons (ps_if (pt_not (pt_val (pe_call G_w_form_is (hr.mono (by decide)) rfl T.g_w_form_is T.F_w_form_is.kp T.b_w_form_is .nil pass0 (pa_cons (pv 0) (pa_cons (pv 1) pa_nil)))))
    (pss_one (ps_ret pe_bl))
    pss_nil)
    (pss_cons (ps_set (i := 2) sc_w_right.nd rfl (Or.inl rfl) (pe_callTy (Ow.call_strOwn T.me_Form___str (G_Form___str.raw T.b_Form___str .nil) (hr.mono (by decide)) pass0) (by rfl) T.m_str (by decide +kernel) (pa_cons (pv 0) pa_nil)))
    (pss_one (ps_ret (pe_and (pe_callB call_isi (by rfl) T.m_isinstance (by decide +kernel) (pa_cons (pv 2) (pa_cons (pe_bltn (v := .ty "str") (by rfl) T.m_str (by decide +kernel) rfl) pa_nil))) (pe_one (pe_cmpR op_eq (pv 2) (pe_call G_w_written (hr.mono (by decide)) rfl T.g_w_written T.F_w_written.kp T.b_w_written .nil pass0 (pa_cons (pv 1) pa_nil)) (nomark _)))))))), ?_⟩
    walk_at "start"
    walk_at "sts"
    refine ⟨x, p, ts, c, rfl, hx, hp, hl, ?_⟩
    walk_at "sts"
    refine Ow.r_strOwn ex ⟨x, ts, c, rfl, hx, hl, hw, hc, fun H1 k1 => ⟨_, rfl, ?_⟩⟩
    walk_at "sts"
    refine ⟨p, ts, c, rfl, hp.keep0 k1, hl, hw, hc, fun H2 k2 => ?_⟩
    walk_at "sts"
    try rw [decide_eq_true rfl]
    exact q H2 (k1.trans k2)
theorem ok_lput (T : Tx K mg) (G_w_tidy : FnOk P w K mg base CX0 1 T.f_w_tidy T.fd_w_tidy ["_law_pairs_here", "_law_constant"] spTidy) (G_w_added : FnOk P w K mg base CX0 2 T.f_w_added T.fd_w_added ["_law_one", "_law_two", "_law_factor"] spDueAdd) : FnOk P w K mg base CX0 3 T.f_w_put T.fd_w_put ["_law_one", "_law_text", "_law_other"] spLPut := by
  refine T.F_w_put.ok sc_w_put (fun vs H Q E h => ?_) (fun cdv A outer s H vs Q E hr h => ?_)
  · obtain ⟨p, q, ts, us, c, d, nm, rfl, _⟩ := h; rfl
  · obtain ⟨p, q, ts, us, c, d, nm, rfl, ⟨t, ep, as, et, pt⟩, hq, hc, hl, hw1, hw2, hd, qq⟩ := h
    have hlt := pt.len
    have wn : (Fm.wt ts nm).natAbs < 2 ^ 1500 := by
      by_cases e : Fm.wt ts nm = 0
      · rw [e]; decide +kernel
      · obtain ⟨p, hp, hpe⟩ := Fm.mem_of_wt e
        rw [← hpe, hc.wt_mem hp]; exact hw1 p hp
    have hdl := drop_len (ts := ts) (x := nm)
    refine ⟨_, (pss_cons (ps_set (i := 3) sc_w_put.nd rfl (Or.inl rfl) (pe_callB (cr_sum rfl) (by rfl) T.m_sum (by decide +kernel) (pa_cons (pe_lc (own := [("_law_pair", 4)]) (g := gName 4)  rfl sc_w_put.nd (pi_tup (pe_ix ix_tup (pv 0) pe_int (fun _ _ => rfl))) (blkOk_by (own := [("_law_pair", 4)]) (N := ["_law_one", "_law_text", "_law_other", "_law_weight_here", "_law_pair", "_law_rest"]) (sc := defScope s_w_put) (by decide +kernel)) (fun _ _ _ _ _ => pg_name (i := 4) sc_w_put.nd rfl (Or.inl rfl)) (fun _ _ _ _ _ => pts_one (pt_cmpR op_eq (pe_ix (ix_tupK (K := K) rfl) (pv 4) pe_int (fun _ _ => rfl)) (pv 1) (nomark _))) (fun _ _ _ _ _ => (pe_ix (ix_tupK (K := K) rfl) (pv 4) pe_int (fun _ _ => rfl)))) pa_nil)))
    (pss_cons (ps_set (i := 5) sc_w_put.nd rfl (Or.inl rfl) (pe_call G_w_tidy (hr.mono (by decide)) rfl T.g_w_tidy T.F_w_tidy.kp T.b_w_tidy .nil pass0 (pa_cons (pe_lc (own := [("_law_pair", 4)]) (g := gName 4)  rfl sc_w_put.nd (pi_tup (pe_ix ix_tup (pv 0) pe_int (fun _ _ => rfl))) (blkOk_by (own := [("_law_pair", 4)]) (N := ["_law_one", "_law_text", "_law_other", "_law_weight_here", "_law_pair", "_law_rest"]) (sc := defScope s_w_put) (by decide +kernel)) (fun _ _ _ _ _ => pg_name (i := 4) sc_w_put.nd rfl (Or.inl rfl)) (fun _ _ _ _ _ => pts_one (pt_cmpR op_ne (pe_ix (ix_tupK (K := K) rfl) (pv 4) pe_int (fun _ _ => rfl)) (pv 1) (nomark _))) (fun _ _ _ _ _ => (pv 4))) (pa_cons (pe_ix ix_tup (pv 0) pe_int (fun _ _ => rfl)) pa_nil))))
    (pss_one (ps_ret (pe_call G_w_added (hr.mono (by decide)) rfl T.g_w_added T.F_w_added.kp T.b_w_added .nil pass0 (pa_cons (pv 5) (pa_cons (pv 2) (pa_cons (pv 3) pa_nil)))))))), ?_⟩
    walk_at "start"
    walk_at "sts"
    refine lcT_go (fun D j acc H' => acc = (((ts.take j).filter fun p => decide (p.1 = nm)).map (·.2)).map V.int ∧ Keep [] H H' ∧ H D = none) (sqT_of et) (fun D hD => ⟨by simp, Keep.new hD, hD⟩) (fun D j acc H' _ h => by obtain ⟨_, k, _⟩ := h; exact sqT_of (k _ _ (by simp) et)) ?_ ?_
    · rintro D j v2 acc H1 hv2 hD ⟨rfl, k1, nD⟩
      obtain ⟨a, ha, rfl⟩ := getRef hv2
      obtain ⟨z, hz, ez⟩ := pt.get ha
      have ez1 := k1 _ _ (by simp) ez
      have snoc : (((ts.take (j + 1)).filter fun p => decide (p.1 = nm)).map (·.2)).map V.int = if z.1 = nm then (((ts.take j).filter fun p => decide (p.1 = nm)).map (·.2)).map V.int ++ [V.int z.2] else (((ts.take j).filter fun p => decide (p.1 = nm)).map (·.2)).map V.int := by
        rw [take_snoc hz, List.filter_append]
        by_cases h : z.1 = nm <;> simp [h]
      have hfl := List.length_filter_le (fun p : Fm.Tm => decide (p.1 = nm)) (ts.take j)
      rw [List.length_take] at hfl
      walk_at "sts"
      refine r_ite (fun c2 => ?_) (fun c2 => ?_)
      · walk_at "sts"
        exact lc_put hD (by rw [List.length_map, List.length_map]; exact lt_size (by omega)) ⟨by rw [snoc, if_pos c2], k1.mut nD, nD⟩
      · walk_at "sts"
        exact ⟨_, hD, by rw [snoc, if_neg c2], k1, nD⟩
    · rintro D acc H1 nD hD ⟨rfl, k1, _⟩
      rw [List.take_of_length_le (by rw [List.length_map, hlt]; exact Nat.le_refl _)] at hD
      walk_at "sts"
      refine r_sum (sqL_of hD) ?_
      rw [show ((ts.filter fun p => decide (p.1 = nm)).map (·.2)).sum = Fm.wt ts nm from rfl]
      have ep1 := k1 _ _ (by simp) ep
      have et1 := k1 _ _ (by simp) et
      have pt1 := pt.keep0 k1
      walk_at "sts"
      refine lcT_go (fun D i acc H' => ∃ cs : List Addr, acc = cs.map V.ref ∧ PairsAt H' cs (Fm.dropN nm (ts.take i)) ∧ Keep [] H1 H' ∧ H1 D = none) (sqT_of et1) (fun D hD => ⟨[], rfl, trivial, Keep.new hD, hD⟩) (fun D i acc H' _ h => by obtain ⟨_, _, _, k, _⟩ := h; exact sqT_of (k _ _ (by simp) et1)) ?_ ?_
      · rintro D2 i v acc H2 hv hD2 ⟨cs, rfl, hb, k2, nD2⟩
        obtain ⟨a, ha, rfl⟩ := getRef hv
        obtain ⟨z, hz, ez⟩ := pt1.get ha
        have ez2 := k2 _ _ (by simp) ez
        have hbl := hb.len
        have hdl2 := drop_len (ts := ts.take i) (x := nm)
        rw [List.length_take] at hdl2
        have snoc : Fm.dropN nm (ts.take (i + 1)) = if z.1 ≠ nm then Fm.dropN nm (ts.take i) ++ [z] else Fm.dropN nm (ts.take i) := by
          rw [take_snoc hz]
          unfold Fm.dropN
          rw [List.filter_append]
          by_cases h : z.1 = nm <;> simp [h]
        walk_at "sts"
        refine r_iteN (fun c1 => ?_) (fun c1 => ?_)
        · walk_at "sts"
          refine lc_put (acc := cs.map V.ref) hD2 (by rw [List.length_map]; exact lt_size (by omega)) ⟨cs ++ [a], by rw [List.map_append]; rfl, ?_, k2.mut nD2, nD2⟩
          rw [snoc, if_pos c1]
          exact (hb.app (bs := [a]) (us := [z]) ⟨ez2, trivial⟩).keep (Keep.at (M := [D2]) (by simp)) (fun m hm => by rw [List.mem_singleton.mp hm]; exact ⟨_, hD2⟩)
        · walk_at "sts"
          exact ⟨_, hD2, cs, rfl, by rw [snoc, if_neg (by simpa using c1)]; exact hb, k2, nD2⟩
      · rintro D2 acc H2 nD2 hD2 ⟨cs, rfl, hb, k2, _⟩
        rw [List.take_of_length_le (by rw [List.length_map, hlt]; exact Nat.le_refl _)] at hb
        have ep2 := k2 _ _ (by simp) ep1
        have k12 := k1.trans k2
        walk_at "sts"
        refine ⟨D2, Fm.dropN nm ts, c, rfl, ⟨cs, hD2, hb⟩, by omega, fun r H3 k3 nr dr => ?_⟩
        have k13 := k12.trans k3
        walk_at "sts"
        refine ⟨r, q, Fm.can (Fm.dropN nm ts), us, c, d, Fm.wt ts nm, rfl, dr, hq.keep0 k13, by have := Fm.can_len (Fm.dropN nm ts); omega, hw2, hd, wn, fun r2 H4 k4 nr2 dr2 => ?_⟩
        rw [Fm.can_can (ts := Fm.can (Fm.dropN nm ts) ++ Fm.scl (Fm.wt ts nm) us) (us := Fm.dropN nm ts ++ Fm.scl (Fm.wt ts nm) us) fun x => by rw [Fm.wt_append, Fm.wt_append, Fm.can_wt]] at dr2
        exact qq r2 H4 (k13.trans k4) (k13.free (by simp) nr2) dr2
end
/-! ### a form put in, checked -/
def spPutRight (C : Addr) : Sp := fun vs H Q _ => ∃ (x po y pd d : Addr) (ts us : List Fm.Tm) (c e : Int) (nm : Str) (xs : List Str) (kvs : List (Key × V)) (W : Fm.Wd), vs = [.ref x, .ref po, .str nm, .ref y, .ref pd, .ref d] ∧ FormAt C H x ts c ∧ DueAt H po ts c ∧ FormAt C H y us e ∧ DueAt H pd us e ∧
  Fm.FOk (fun z => z ∈ xs) 60 250 ts c ∧ Fm.FOk (fun z => z ∈ xs) 60 110 us e ∧ nm ∈ xs ∧ xs.length ≤ 4 ∧ (∀ z ∈ xs, IsQ z) ∧ H d = some (.dK kvs) ∧ kvs.length ≤ 100 ∧ (∀ z ∈ xs, LevAt H kvs W z ∧ 0 < (W z).2 ∧ (W z).1.natAbs < 2 ^ 100 ∧ (W z).2.natAbs < 2 ^ 100) ∧ ∀ H', Keep [] H H' → Q (.bl true) H'
/-- the form put in, within bounds -/
theorem put_ok {xs : List Str} {ts us : List Fm.Tm} {c e : Int} {nm : Str} {a b : Nat} (h : Fm.FOk (fun z => z ∈ xs) 60 a ts c) (g : Fm.FOk (fun z => z ∈ xs) 60 b us e) (hx : xs.length ≤ 4) :
    Fm.FOk (fun z => z ∈ xs) 60 (a + b + 6) (Fm.can (Fm.dropN nm ts ++ Fm.scl (Fm.wt ts nm) us)) (c + Fm.wt ts nm * e) := by
  have l1 := h.can.short h.nm
  have l2 := g.can.short g.nm
  have hdl := drop_len (ts := ts) (x := nm)
  have wn : (Fm.wt ts nm).natAbs < 2 ^ a := by
    by_cases z : Fm.wt ts nm = 0
    · rw [z]; exact Nat.pow_pos (by decide)
    · obtain ⟨p, hp, hpe⟩ := Fm.mem_of_wt z
      rw [← hpe, h.can.wt_mem hp]; exact h.wb p hp
  have := Fm.can_ok (N := fun z => z ∈ xs) (k := a + b) (ts := Fm.dropN nm ts ++ Fm.scl (Fm.wt ts nm) us) (c := c + Fm.wt ts nm * e) (by rw [List.length_append, scl_len]; omega) (fun p hp => (List.mem_append.mp hp).elim (fun hp => drop_names h.nm p hp) fun hp => scl_names g.nm p hp)
    (fun p hp => (List.mem_append.mp hp).elim (fun hp => Fm.pow_le (drop_names h.wb p hp) (by omega)) fun hp => by
      obtain ⟨q, hq, rfl⟩ := List.mem_map.mp hp
      exact Fm.natAbs_mul_lt wn (g.wb q hq))
    (Fm.pow_le (Fm.natAbs_add_lt (Fm.pow_le h.cb (by omega : a ≤ a + b)) (Fm.natAbs_mul_lt wn g.cb)) (by omega))
  exact ⟨this.can, Nat.le_trans this.len (by rw [List.length_append, scl_len]; omega), this.nm, this.wb, this.cb⟩
theorem FOkw {N : Str → Prop} {n k : Nat} {ts : List Fm.Tm} {c : Int} {xs : List Str} (h : Fm.FOk N n k ts c) (hk : k ≤ 1500) (hN : ∀ z, N z → z ∈ xs) (hq : ∀ z ∈ xs, IsQ z) : ∀ t ∈ ts, IsQ t.1 ∧ t.2.natAbs < 2 ^ 1500 := fun t ht => ⟨hq _ (hN _ (h.nm t ht)), Fm.pow_le (h.wb t ht) hk⟩
section
variable {P : Program} {w : World} {K : PySem.W.Frag} {mg : Str → Option Value} {base : Heap}
theorem ok_putRight (T : Tx K mg) (G_w_put : FnOk P w K mg base CX0 3 T.f_w_put T.fd_w_put ["_law_one", "_law_text", "_law_other"] spLPut) (G_Form_put : FnOk P w K mg base CX0 6 T.f_Form_put T.fd_Form_put ["self", "name", "form"] (spPut T.C_Form)) (G_w_right : FnOk P w K mg base CX0 6 T.f_w_right T.fd_w_right ["_law_found", "_law_due"] (spRight T.C_Form))
    (G_w_value : FnOk P w K mg base CX0 2 T.f_w_value T.fd_w_value ["_law_due", "_law_world"] spValL) (G_Form___call : FnOk P w K mg base CX0 3 T.f_Form___call T.fd_Form___call ["self", "world"] (spVal T.C_Form)) (G_w_pair_is : FnOk P w K mg base CX0 2 T.f_w_pair_is T.fd_w_pair_is ["_law_found", "_law_pair"] spPairIs)
    (G_Form___eq : FnOk P w K mg base CX0 1 T.f_Form___eq T.fd_Form___eq ["self", "other"] (spEq1 T.C_Form)) : FnOk P w K mg base CX0 7 T.f_w_put_right T.fd_w_put_right ["_law_first", "_law_one", "_law_text", "_law_other", "_law_due_other", "_law_world"] (spPutRight T.C_Form) := by
  refine T.F_w_put_right.ok sc_w_put_right (fun vs H Q E h => ?_) (fun cdv A outer s H vs Q E hr h => ?_)
  · obtain ⟨x, po, y, pd, d, ts, us, c, e, nm, xs, kvs, W, rfl, _⟩ := h; rfl
  · obtain ⟨x, po, y, pd, d, ts, us, c, e, nm, xs, kvs, W, rfl, fx, dx, fy, dy, ot, ou, hnm, hxl, hxq, hd, hkl, hW, q⟩ := h
    have l1 := ot.can.short ot.nm
    have l2 := ou.can.short ou.nm
    have ov := put_ok (nm := nm) ot ou hxl
    have wt1 := FOkw ot (by decide) (fun _ h => h) hxq
    have wu1 := FOkw ou (by decide) (fun _ h => h) hxq
    have wv1 := FOkw ov (by decide) (fun _ h => h) hxq
    have lv := ov.can.short ov.nm
    have vval := @Fm.put_value W nm ts us (Fm.can (Fm.dropN nm ts ++ Fm.scl (Fm.wt ts nm) us)) c e
    have hcan := Fm.can_wt (Fm.dropN nm ts ++ Fm.scl (Fm.wt ts nm) us)
    have held0 : nm ∉ ts.map (·.1) → Fm.can (Fm.dropN nm ts ++ Fm.scl (Fm.wt ts nm) us) = ts ∧ c + Fm.wt ts nm * e = c := fun hn => by
      have w0 : Fm.wt ts nm = 0 := Fm.wt_none fun p hp z => hn (z ▸ List.mem_map_of_mem hp)
      refine ⟨?_, by rw [w0, Int.zero_mul, Int.add_zero]⟩
      refine (Fm.can_eq ot.can fun z => ?_).symm
      rw [Fm.wt_append, Fm.wt_scl, w0, Int.zero_mul, Int.add_zero, Fm.wt_drop]
      split
      · next h => rw [h, w0]
      · rfl
    obtain ⟨vT, hvT⟩ : ∃ vT, vT = Fm.can (Fm.dropN nm ts ++ Fm.scl (Fm.wt ts nm) us) := ⟨_, rfl⟩
    obtain ⟨vc, hvc⟩ : ∃ vc, vc = c + Fm.wt ts nm * e := ⟨_, rfl⟩
    rw [← hvT, ← hvc] at vval ov held0
    rw [← hvT] at lv wv1 hcan
    have cb1 : c.natAbs < 2 ^ 1500 := Fm.pow_le ot.cb (by decide)
    have eb1 : e.natAbs < 2 ^ 1500 := Fm.pow_le ou.cb (by decide)
    have vb1 : vc.natAbs < 2 ^ 1500 := Fm.pow_le ov.cb (by decide)
    refine ⟨_, (pss_cons (ps_set (i := 6) sc_w_put_right.nd rfl (Or.inl rfl) (pe_call G_w_put (hr.mono (by decide)) rfl T.g_w_put T.F_w_put.kp T.b_w_put .nil pass0 (pa_cons (pv 1) (pa_cons (pv 2) (pa_cons (pv 4) pa_nil)))))
    (pss_cons (ps_set (i := 7) sc_w_put_right.nd rfl (Or.inl rfl) (pe_meth (pv 0) T.oc_Form.cl T.me_Form_put G_Form_put (hr.mono (by decide)) T.b_Form_put .nil pass0 (pa_cons (pv 2) (pa_cons (pv 3) pa_nil))))
    (pss_cons (ps_if (PW.pt (pw_or (pt_not (pt_val (pe_call G_w_right (hr.mono (by decide)) rfl T.g_w_right T.F_w_right.kp T.b_w_right .nil pass0 (pa_cons (pv 7) (pa_cons (pv 6) pa_nil))))) (pw_or (pt_not (pt_val (pe_call G_w_right (hr.mono (by decide)) rfl T.g_w_right T.F_w_right.kp T.b_w_right .nil pass0 (pa_cons (pv 0) (pa_cons (pv 1) pa_nil))))) (pw_or1 (pt_not (pt_val (pe_call G_w_right (hr.mono (by decide)) rfl T.g_w_right T.F_w_right.kp T.b_w_right .nil pass0 (pa_cons (pv 3) (pa_cons (pv 4) pa_nil)))))))))
    (pss_one (ps_ret pe_bl))
    pss_nil)
    (pss_cons (ps_set (i := 8) sc_w_put_right.nd rfl (Or.inl rfl) (pe_callTy call_dictD (by rfl) T.m_dict (by decide +kernel) (pa_cons (pv 5) pa_nil)))
    (pss_cons (ps_dput (hu_of hr) (pv 8) (pv 2) (pe_call G_w_value (hr.mono (by decide)) rfl T.g_w_value T.F_w_value.kp T.b_w_value .nil pass0 (pa_cons (pv 4) (pa_cons (pv 5) pa_nil))) rfl)
    (pss_cons (ps_if (pt_not (pt_val (pe_call G_w_pair_is (hr.mono (by decide)) rfl T.g_w_pair_is T.F_w_pair_is.kp T.b_w_pair_is .nil pass0 (pa_cons (StX.pe_callO (pv 7) T.co_Form (G_Form___call.raw T.b_Form___call .nil) (hr.mono (by decide)) pass0 (pa_cons (pv 5) pa_nil)) (pa_cons (pe_call G_w_value (hr.mono (by decide)) rfl T.g_w_value T.F_w_value.kp T.b_w_value .nil pass0 (pa_cons (pv 1) (pa_cons (pv 8) pa_nil))) pa_nil)))))
    (pss_one (ps_ret pe_bl))
    pss_nil)
    (pss_cons (ps_set (i := 9) sc_w_put_right.nd rfl (Or.inl rfl) (pe_cmpR op_in_seq (pv 2) (pe_lc (own := [("_law_pair", 10)]) (g := gName 10) (tt := tYes) rfl sc_w_put_right.nd (pi_tup (pe_ix ix_tup (pv 1) pe_int (fun _ _ => rfl))) (blkOk_by (own := [("_law_pair", 10)]) (N := ["_law_first", "_law_one", "_law_text", "_law_other", "_law_due_other", "_law_world", "_law_due", "_law_found", "_law_moved", "_law_held", "_law_pair"]) (sc := defScope s_w_put_right) (by decide +kernel)) (fun _ _ _ _ _ => pg_name (i := 10) sc_w_put_right.nd rfl (Or.inl rfl)) (fun _ _ _ _ _ => pts_nil) (fun _ _ _ _ _ => (pe_ix (ix_tupK (K := K) rfl) (pv 10) pe_int (fun _ _ => rfl)))) (by rfl)))
    (pss_one (ps_ret (pe_or (pv 9) (pe_one (pe_cmpR (Ow.op_ownEq T.me_Form___eq (G_Form___eq.raw T.b_Form___eq .nil) (hr.mono (by decide)) pass0 hr.units0) (pv 7) (pv 0) (nomark _))))))))))))), ?_⟩
    walk_at "start"
    walk_at "sts"
    refine ⟨po, pd, ts, us, c, e, nm, rfl, dx, dy, ot.can, by omega, fun t ht => (wt1 t ht).2, fun t ht => (wu1 t ht).2, eb1, fun r H1 k1 nr d1 => ?_⟩
    rw [← hvT, ← hvc] at d1
    have fx1 := fx.keep0 k1
    obtain ⟨dX, tX, eX, _⟩ := id fx1
    walk_at "sts"
    refine ⟨x, y, ts, us, c, e, nm, rfl, fx1, fy.keep0 k1, ot.can, by omega, wt1, wu1, eb1, fun z H2 k2 nz f2 => ?_⟩
    rw [← hvT, ← hvc] at f2
    have k12 := k1.trans k2
    walk_at "sts"
    refine ⟨z, r, vT, vc, rfl, f2, d1.keep0 k2, by omega, wv1, vb1, fun H3 k3 => ?_⟩
    have k13 := k12.trans k3
    walk_at "sts"
    refine ⟨x, po, ts, c, rfl, fx.keep0 k13, dx.keep0 k13, by omega, wt1, cb1, fun H4 k4 => ?_⟩
    have k14 := k13.trans k4
    walk_at "sts"
    refine ⟨y, pd, us, e, rfl, fy.keep0 k14, dy.keep0 k14, by omega, wu1, eb1, fun H5 k5 => ?_⟩
    have k15 := k14.trans k5
    walk_at "sts"
    refine ⟨d, kvs, rfl, .inl (k15 _ _ (by simp) hd), fun m hm => ?_⟩
    have k6 : Keep [] H5 (upd H5 m (.dK kvs)) := Keep.new hm
    have e6 : upd H5 m (.dK kvs) m = some (.dK kvs) := upd_same
    have nm6 : H m = none := k15.free (by simp) hm
    generalize upd H5 m (.dK kvs) = H6 at k6 e6 ⊢
    have k16 := k15.trans k6
    have levs : ∀ {H' : Hp}, Keep [] H H' → ∀ z ∈ xs, LevAt H' kvs W z := fun k z hz => (hW z hz).1.keep k (by simp)
    have bnd : ∀ z ∈ xs, (W z).1.natAbs < 2 ^ 1000 ∧ (W z).2.natAbs < 2 ^ 401 := fun z hz => ⟨Fm.pow_le (hW z hz).2.2.1 (by decide), Fm.pow_le (hW z hz).2.2.2 (by decide)⟩
    have posU : 0 < (Fm.accV W us (e, 1)).2 := Fm.acc_pos (fun p hp => (hW _ (ou.nm p hp)).2.1) Int.one_pos
    obtain ⟨vb, vg⟩ := Fm.acc_boundG (W := W) 110 100 100 (ts := us) (s := (e, 1)) (i := 0) (fun p hp => ⟨ou.wb p hp, (hW _ (ou.nm p hp)).2.2⟩) (Fm.pow_le ou.cb (by decide)) (show (1 : Int).natAbs < 2 ^ (1 + 100 * 0) by decide)
    rw [Nat.zero_add] at vb vg
    walk_at "sts"
    refine ⟨pd, d, us, e, kvs, W, rfl, dy.keep0 k16, k16 _ _ (by simp) hd, fun t ht => ⟨levs k16 _ (ou.nm t ht), (hW _ (ou.nm t ht)).2.1⟩, by omega, fun t ht => ⟨Fm.pow_le (ou.wb t ht) (by decide), bnd _ (ou.nm t ht)⟩, Fm.pow_le ou.cb (by decide), fun rv H7 k7 nrv erv => ?_⟩
    have k17 := k16.trans k7
    have vcross := low_cross (t := (Fm.accV W us (e, 1)).1) (b := (Fm.accV W us (e, 1)).2)
    have vpos := lowB_pos (t := (Fm.accV W us (e, 1)).1) posU
    have vT1 : (lowT (Fm.accV W us (e, 1)).1 (Fm.accV W us (e, 1)).2).natAbs < 2 ^ 1000 := Nat.lt_of_le_of_lt (lowT_le (by omega)) (Fm.pow_le vb (by omega))
    have vB1 : (lowB (Fm.accV W us (e, 1)).1 (Fm.accV W us (e, 1)).2).natAbs < 2 ^ 401 := Nat.lt_of_le_of_lt (lowB_le (by omega)) (Fm.pow_le vg (by omega))
    generalize lowT (Fm.accV W us (e, 1)).1 (Fm.accV W us (e, 1)).2 = vt at *
    generalize lowB (Fm.accV W us (e, 1)).1 (Fm.accV W us (e, 1)).2 = vbt at *
    have e7 := k7 _ _ (by simp) e6
    walk_at "sts"
    refine r_dputS e7 (lt_size (by omega)) ?_
    have k8 : Keep [m] H7 (upd H7 m (.dK (putK kvs (Sum.inr nm) (.ref rv)))) := Keep.at (by simp)
    have e8 : upd H7 m (.dK (putK kvs (Sum.inr nm) (.ref rv))) m = some (.dK (putK kvs (Sum.inr nm) (.ref rv))) := upd_same
    have nrm : rv ≠ m := by rintro rfl; rw [e7] at erv; cases erv
    have erv8 := k8 _ _ (by simpa using nrm) erv
    have k18 : Keep [] H (upd H7 m (.dK (putK kvs (Sum.inr nm) (.ref rv)))) := k17.mut nm6
    have f8 : FormAt T.C_Form (upd H7 m (.dK (putK kvs (Sum.inr nm) (.ref rv)))) z vT vc := by
      have f7 := f2.keep0 (k3.trans (k4.trans (k5.trans (k6.trans k7))))
      have n2 : H2 m = none := (k3.trans (k4.trans k5)).free (by simp) hm
      have kk : Keep [] H2 (upd H7 m (.dK (putK kvs (Sum.inr nm) (.ref rv)))) := (k3.trans (k4.trans (k5.trans (k6.trans k7)))).mut n2
      exact f2.keep0 kk
    generalize upd H7 m (.dK (putK kvs (Sum.inr nm) (.ref rv))) = H8 at *
    have hvm := vval (v := (vt, vbt)) (fun p hp _ => (hW _ (ot.nm p hp)).2.1) (fun p hp => (hW _ (ou.nm p hp)).2.1) (fun p hp => (hW _ (ov.nm p hp)).2.1) hcan vcross vpos
    walk_at "sts"
    refine ⟨_, rfl, _, rfl, ?_⟩
    walk_at "sts"
    obtain ⟨dz, tz, ez, _⟩ := id f8
    refine ⟨.inr ⟨_, _, ez⟩, ?_⟩
    have lev8 : ∀ z ∈ xs, LevAt H8 kvs W z := levs k18
    refine ⟨z, d, vT, vc, kvs, W, rfl, f8, k18 _ _ (by simp) hd, fun t ht => ⟨lev8 _ (ov.nm t ht), (hW _ (ov.nm t ht)).2.1⟩, by omega, fun t ht => ⟨Fm.pow_le (ov.wb t ht) (by decide), bnd _ (ov.nm t ht)⟩, Fm.pow_le ov.cb (by decide), fun p9 H9 k9 e9 => ?_⟩
    have k19 := k18.trans k9
    walk_at "sts"
    have mpos : ∀ t ∈ ts, 0 < (Fm.moved W nm (vt, vbt) t.1).2 := fun t ht => by
      unfold Fm.moved; split
      · exact vpos
      · exact (hW _ (ot.nm t ht)).2.1
    refine ⟨po, m, ts, c, putK kvs (Sum.inr nm) (.ref rv), Fm.moved W nm (vt, vbt), rfl, dx.keep0 k19, k9 _ _ (by simp) e8, fun t ht => ⟨?_, mpos t ht⟩, by omega, fun t ht => ⟨Fm.pow_le (ot.wb t ht) (by decide), ?_⟩, Fm.pow_le ot.cb (by decide), fun p10 H10 k10 n10 e10 => ?_⟩
    · unfold LevAt Fm.moved
      rw [valV_put]
      by_cases h : t.1 = nm
      · rw [if_pos (by rw [h]), if_pos h]
        exact ⟨rv, rfl, k9 _ _ (by simp) erv8⟩
      · rw [if_neg (fun e => h (Sum.inr.inj e)), if_neg h]
        exact (lev8 _ (ot.nm t ht)).keep k9 (by simp)
    · unfold Fm.moved; split
      · exact ⟨vT1, vB1⟩
      · exact bnd _ (ot.nm t ht)
    · have pv := Fm.acc_pos (W := W) (ts := vT) (s := (vc, 1)) (fun p hp => (hW _ (ov.nm p hp)).2.1) Int.one_pos
      have pm := Fm.acc_pos (W := Fm.moved W nm (vt, vbt)) (ts := ts) (s := (c, 1)) mpos Int.one_pos
      have same := low_eq pv pm hvm
      rw [← same.1, ← same.2] at e10
      have k110 := k19.trans k10
      walk_at "sts"
      refine r_pairIs (k10 _ _ (by simp) e9) e10 ?_
      obtain ⟨u2, ep2, as2, et2, pt2⟩ := dx.keep0 k110
      have hl2 := pt2.len
      walk_at "sts"
      refine lcT_go (fun D i acc H' => acc = ((ts.take i).map (·.1)).map V.str ∧ Keep [] H10 H' ∧ H10 D = none) (sqT_of et2) (fun D hD => ⟨rfl, Keep.new hD, hD⟩) (fun D i acc H' _ h => by obtain ⟨_, k, _⟩ := h; exact sqT_of (k _ _ (by simp) et2)) ?_ ?_
      · rintro D i v acc H11 hv hD ⟨rfl, k11, nD⟩
        obtain ⟨a, ha, rfl⟩ := getRef hv
        obtain ⟨w1, hw1, ew1⟩ := pt2.get ha
        have ew2 := k11 _ _ (by simp) ew1
        walk_at "sts"
        exact lc_put hD (by simp only [List.length_map, List.length_take]; exact lt_size (by omega)) ⟨by rw [take_snoc hw1]; simp, k11.mut nD, nD⟩
      · rintro D acc H11 nD hD ⟨rfl, k11, _⟩
        rw [List.take_of_length_le (by rw [List.length_map, hl2]; exact Nat.le_refl _)] at hD
        refine r_inL (sqL_of hD) rfl (flat_strs _) ?_
        rw [inV_str]
        have k111 := k110.trans k11
        walk_at "sts"
        refine r_ite (fun c9 => ?_) (fun c9 => ?_)
        · walk_at "sts"
          exact q _ k111
        · obtain ⟨h1, h2⟩ := held0 c9
          have f11 : FormAt T.C_Form H11 z ts c := by
            have := f8.keep0 (k9.trans (k10.trans k11))
            rwa [h1, h2] at this
          have fx11 := fx.keep0 k111
          obtain ⟨_, _, ea, _⟩ := id f11
          obtain ⟨_, _, eb, _⟩ := id fx11
          walk_at "sts"
          refine Ow.r_own2 ea eb ⟨z, x, ts, c, rfl, f11, fx11, fun t ht => (wt1 t ht).1, ?_⟩
          exact q _ k111
end
/-! ### the law -/
def spLaw (K : PySem.W.Frag) : Sp := fun vs H Q _ => ∃ (a : Addr) (ns : List Int), vs = [.ref a] ∧ SqL K H a (ns.map V.int) ∧ ns.length ≤ 63 ∧ ∀ H', Q (.bl true) H'
/-- forms and the law's own, side by side -/
def BothAt (C : Addr) (xs : List Str) (H : Hp) : List Addr → List Addr → List (List Fm.Tm × Int) → Prop
  | [], [], [] => True
  | x :: pf, p :: pd, v :: vs => FormAt C H x v.1 v.2 ∧ DueAt H p v.1 v.2 ∧ Fm.FOk (fun z => z ∈ xs) 60 106 v.1 v.2 ∧ BothAt C xs H pf pd vs
  | _, _, _ => False
theorem BothAt.len {C : Addr} {xs : List Str} {H : Hp} : ∀ {pf pd : List Addr} {vs : List (List Fm.Tm × Int)}, BothAt C xs H pf pd vs → pf.length = vs.length ∧ pd.length = vs.length
  | [], [], [], _ => ⟨rfl, rfl⟩
  | _ :: _, _ :: _, _ :: _, h => ⟨congrArg Nat.succ (BothAt.len h.2.2.2).1, congrArg Nat.succ (BothAt.len h.2.2.2).2⟩
  | [], [], _ :: _, h => h.elim
  | [], _ :: _, _, h => h.elim
  | _ :: _, [], _, h => h.elim
  | _ :: _, _ :: _, [], h => h.elim
theorem BothAt.keep {C : Addr} {xs : List Str} {M : List Addr} {H H' : Hp} (k : Keep M H H') (n : ∀ m ∈ M, ∃ ys, H m = some (.lst ys)) : ∀ {pf pd : List Addr} {vs : List (List Fm.Tm × Int)}, BothAt C xs H pf pd vs → BothAt C xs H' pf pd vs
  | [], [], [], _ => trivial
  | _ :: _, _ :: _, _ :: _, h => ⟨h.1.keep k n, h.2.1.keep k n, h.2.2.1, BothAt.keep k n h.2.2.2⟩
  | [], [], _ :: _, h => h.elim
  | [], _ :: _, _, h => h.elim
  | _ :: _, [], _, h => h.elim
  | _ :: _, _ :: _, [], h => h.elim
theorem BothAt.snoc {C : Addr} {xs : List Str} {H : Hp} {x p : Addr} {v : List Fm.Tm × Int} (h1 : FormAt C H x v.1 v.2) (h2 : DueAt H p v.1 v.2) (h3 : Fm.FOk (fun z => z ∈ xs) 60 106 v.1 v.2) : ∀ {pf pd : List Addr} {vs : List (List Fm.Tm × Int)}, BothAt C xs H pf pd vs → BothAt C xs H (pf ++ [x]) (pd ++ [p]) (vs ++ [v])
  | [], [], [], _ => ⟨h1, h2, h3, trivial⟩
  | _ :: _, _ :: _, _ :: _, h => ⟨h.1, h.2.1, h.2.2.1, BothAt.snoc h1 h2 h3 h.2.2.2⟩
  | [], [], _ :: _, h => h.elim
  | [], _ :: _, _, h => h.elim
  | _ :: _, [], _, h => h.elim
  | _ :: _, _ :: _, [], h => h.elim
theorem PotAt.ml {a : Addr} {H : Hp} (h : PotAt a H) : ∀ m ∈ [a], ∃ ys, H m = some (.lst ys) := fun m hm => by
  obtain ⟨P, e, _⟩ := h
  rw [List.mem_singleton.mp hm]; exact ⟨_, e⟩
theorem ml1 {a : Addr} {H : Hp} {ys : List V} (h : H a = some (.lst ys)) : ∀ m ∈ [a], ∃ ys, H m = some (.lst ys) := fun m hm => by
  rw [List.mem_singleton.mp hm]; exact ⟨_, h⟩
theorem RowAt.keep {M : List Addr} {H H' : Hp} {t : Addr} {ts : List Fm.Tm} (h : RowAt H t ts) (k : Keep M H H') (n : ∀ m ∈ M, ∃ xs, H m = some (.lst xs)) (ht : t ∉ M) : RowAt H' t ts := by
  obtain ⟨as, e, p⟩ := h
  exact ⟨as, k _ _ ht e, p.keep k n⟩
theorem three0 {a b c : Addr} : atI ([a, b, c].map V.ref) 0 = some (.ref a) := atI_nat (j := 0) rfl
theorem three1 {a b c : Addr} : atI ([a, b, c].map V.ref) 1 = some (.ref b) := atI_nat (j := 1) rfl
theorem three2 {a b c : Addr} : atI ([a, b, c].map V.ref) 2 = some (.ref c) := atI_nat (j := 2) rfl
theorem scl_one {ts : List Fm.Tm} : Fm.scl 1 ts = ts := by
  unfold Fm.scl
  induction ts with
  | nil => rfl
  | cons p ts ih => rw [List.map_cons, ih, Int.one_mul]
theorem can_nil : Fm.can [] = [] := List.eq_nil_of_length_eq_zero (Nat.le_zero.mp (Fm.can_len []))
/-- the levels of some names -/
def Levs (xs : List Str) (kvs : List (Key × V)) (W : Fm.Wd) (H : Hp) : Prop := ∀ z ∈ xs, LevAt H kvs W z ∧ 0 < (W z).2 ∧ (W z).1.natAbs < 2 ^ 100 ∧ (W z).2.natAbs < 2 ^ 100
theorem Levs.keep {xs : List Str} {kvs : List (Key × V)} {W : Fm.Wd} {M : List Addr} {H H' : Hp} (h : Levs xs kvs W H) (k : Keep M H H') (n : ∀ m ∈ M, ∃ ys, H m = some (.lst ys)) : Levs xs kvs W H' := fun z hz => ⟨(h z hz).1.keep k n, (h z hz).2⟩
theorem Levs.put {xs : List Str} {kvs : List (Key × V)} {W : Fm.Wd} {H : Hp} {m q : Addr} {nm : Str} {t b : Int} (h : Levs xs kvs W H) (hm : H m = some (.dK kvs)) (hq : H q = some (.tup [.int t, .int b])) (h0 : 0 < b) (h1 : t.natAbs < 2 ^ 100) (h2 : b.natAbs < 2 ^ 100) :
    Levs (xs ++ [nm]) (putK kvs (Sum.inr nm) (.ref q)) (Fm.moved W nm (t, b)) (upd H m (.dK (putK kvs (Sum.inr nm) (.ref q)))) := fun z hz => by
  have other : ∀ {x : Addr} {vs : List V}, H x = some (.tup vs) → upd H m (.dK (putK kvs (Sum.inr nm) (.ref q))) x = some (.tup vs) := fun {x vs} e => (Keep.at (M := [m]) (by simp)) _ _ (by simp; rintro rfl; rw [hm] at e; cases e) e
  unfold LevAt Fm.moved
  rw [valV_put]
  by_cases e : z = nm
  · rw [if_pos (by rw [e]), if_pos e]
    exact ⟨⟨q, rfl, other hq⟩, h0, h1, h2⟩
  · rw [if_neg (fun e' => e (Sum.inr.inj e')), if_neg e]
    obtain ⟨⟨a, ha, ea⟩, h3⟩ := h z ((List.mem_append.mp hz).resolve_right (by simpa using e))
    exact ⟨⟨a, ha, other ea⟩, h3⟩
theorem wkn {N : Str → Prop} {ts : List Fm.Tm} {c : Int} {n i j : Nat} (h : Fm.FOk N n i ts c) (hij : i ≤ j) : Fm.FOk N n j ts c := ⟨h.can, h.len, h.nm, fun p hp => Fm.pow_le (h.wb p hp) hij, Fm.pow_le h.cb hij⟩
structure One (C : Addr) (xs : List Str) (H : Hp) (x p : Addr) (ts : List Fm.Tm) (c : Int) : Prop where
  f : FormAt C H x ts c
  d : DueAt H p ts c
  o : Fm.FOk (fun z => z ∈ xs) 60 106 ts c
theorem One.keep {C : Addr} {xs : List Str} {H H' : Hp} {M : List Addr} {x p : Addr} {ts : List Fm.Tm} {c : Int} (h : One C xs H x p ts c) (k : Keep M H H') (n : ∀ m ∈ M, ∃ ys, H m = some (.lst ys)) : One C xs H' x p ts c := ⟨h.f.keep k n, h.d.keep k n, h.o⟩
theorem BothAt.three {C : Addr} {xs : List Str} {H : Hp} : ∀ {pf pd : List Addr} {vs : List (List Fm.Tm × Int)}, BothAt C xs H pf pd vs → vs.length = 3 → ∃ (x0 x1 x2 p0 p1 p2 : Addr) (t0 t1 t2 : List Fm.Tm) (c0 c1 c2 : Int), pf = [x0, x1, x2] ∧ pd = [p0, p1, p2] ∧ One C xs H x0 p0 t0 c0 ∧ One C xs H x1 p1 t1 c1 ∧ One C xs H x2 p2 t2 c2
  | [x0, x1, x2], [p0, p1, p2], [v0, v1, v2], h, _ => ⟨x0, x1, x2, p0, p1, p2, v0.1, v1.1, v2.1, v0.2, v1.2, v2.2, rfl, rfl, ⟨h.1, h.2.1, h.2.2.1⟩, ⟨h.2.2.2.1, h.2.2.2.2.1, h.2.2.2.2.2.1⟩, ⟨h.2.2.2.2.2.2.1, h.2.2.2.2.2.2.2.1, h.2.2.2.2.2.2.2.2.1⟩⟩
  | _, _, [], _, h => by cases h
  | _, _, [_], _, h => by cases h
  | _, _, [_, _], _, h => by cases h
  | _, _, _ :: _ :: _ :: _ :: _, _, h => by simp at h
  | [], _, [_, _, _], h, _ => by have := h.len.1; simp at this
  | [_], _, [_, _, _], h, _ => by have := h.len.1; simp at this
  | [_, _], _, [_, _, _], h, _ => by have := h.len.1; simp at this
  | _ :: _ :: _ :: _ :: _, _, [_, _, _], h, _ => by have := h.len.1; simp at this
  | _, [], [_, _, _], h, _ => by have := h.len.2; simp at this
  | _, [_], [_, _, _], h, _ => by have := h.len.2; simp at this
  | _, [_, _], [_, _, _], h, _ => by have := h.len.2; simp at this
  | _, _ :: _ :: _ :: _ :: _, [_, _, _], h, _ => by have := h.len.2; simp at this
/-- what stands after the loop -/
structure Ctx (C a pl ld lf x0 x1 x2 p0 p1 p2 : Addr) (xs : List Str) (t0 t1 t2 : List Fm.Tm) (c0 c1 c2 : Int) (na : pl ≠ a) (nb : ld ≠ a) (nc : lf ≠ a) (H : Hp) : Prop where
  p : PotAt a H
  ed : H ld = some (.lst ([p0, p1, p2].map V.ref))
  ef : H lf = some (.lst ([x0, x1, x2].map V.ref))
  en : NamesAt H pl xs
  o0 : One C xs H x0 p0 t0 c0
  o1 : One C xs H x1 p1 t1 c1
  o2 : One C xs H x2 p2 t2 c2
theorem Ctx.a {C a pl ld lf x0 x1 x2 p0 p1 p2 : Addr} {xs : List Str} {t0 t1 t2 : List Fm.Tm} {c0 c1 c2 : Int} {na : pl ≠ a} {nb : ld ≠ a} {nc : lf ≠ a} {H H' : Hp} (h : Ctx C a pl ld lf x0 x1 x2 p0 p1 p2 xs t0 t1 t2 c0 c1 c2 na nb nc H) (k : Keep [a] H H') (p : PotAt a H') : Ctx C a pl ld lf x0 x1 x2 p0 p1 p2 xs t0 t1 t2 c0 c1 c2 na nb nc H' :=
  ⟨p, k _ _ (by simpa using nb) h.ed, k _ _ (by simpa using nc) h.ef, k _ _ (by simpa using na) h.en, h.o0.keep k h.p.ml, h.o1.keep k h.p.ml, h.o2.keep k h.p.ml⟩
theorem Ctx.k {C a pl ld lf x0 x1 x2 p0 p1 p2 : Addr} {xs : List Str} {t0 t1 t2 : List Fm.Tm} {c0 c1 c2 : Int} {na : pl ≠ a} {nb : ld ≠ a} {nc : lf ≠ a} {H H' : Hp} (h : Ctx C a pl ld lf x0 x1 x2 p0 p1 p2 xs t0 t1 t2 c0 c1 c2 na nb nc H) (k : Keep [] H H') : Ctx C a pl ld lf x0 x1 x2 p0 p1 p2 xs t0 t1 t2 c0 c1 c2 na nb nc H' :=
  h.a (k.mono (by simp)) (by obtain ⟨P, e, hP⟩ := h.p; exact ⟨P, k _ _ (by simp) e, hP⟩)
theorem scl_ok {xs : List Str} {ts us : List Fm.Tm} {c d k : Int} (h : ∀ t ∈ ts, t.1 ∈ xs ∧ t.2.natAbs < 2 ^ 106) (hl : ts.length + us.length ≤ 60) (g : Fm.FOk (fun z => z ∈ xs) 60 106 us d) (hk : k.natAbs < 2 ^ 110) (hc : c.natAbs < 2 ^ 106) :
    Fm.FOk (fun z => z ∈ xs) 60 224 (Fm.can (ts ++ Fm.scl k us)) (c + k * d) := by
  have hm : ∀ x : Int, x.natAbs < 2 ^ 106 → (k * x).natAbs < 2 ^ 217 := fun x hx => by
    rw [Int.natAbs_mul]
    exact Nat.lt_of_lt_of_le (Nat.mul_lt_mul'' hk hx) (by rw [← Nat.pow_add]; exact Nat.pow_le_pow_right (by decide) (by decide))
  have hll : (ts ++ Fm.scl k us).length ≤ 60 := by simpa [Fm.scl] using hl
  have hn : ∀ p ∈ ts ++ Fm.scl k us, p.1 ∈ xs ∧ p.2.natAbs < 2 ^ 218 := fun p hp => by
    rcases List.mem_append.mp hp with hp | hp
    · exact ⟨(h p hp).1, Fm.pow_le (h p hp).2 (by decide)⟩
    · obtain ⟨q, hq, rfl⟩ := List.mem_map.mp hp
      exact ⟨g.nm q hq, Fm.pow_le (hm _ (g.wb q hq)) (by decide)⟩
  have hcd : (c + k * d).natAbs < 2 ^ 224 := by
    have h1 := hm d g.cb
    have h2 := Int.natAbs_add_le c (k * d)
    have h3 : (2:Nat) ^ 106 + 2 ^ 217 ≤ 2 ^ 224 := by decide
    omega
  have := Fm.can_ok (N := fun z => z ∈ xs) (k := 218) (c := c + k * d) hll (fun p hp => (hn p hp).1) (fun p hp => (hn p hp).2) hcd
  exact ⟨this.can, Nat.le_trans this.len hll, this.nm, this.wb, this.cb⟩
theorem tidy_ok {xs : List Str} {ts : List Fm.Tm} {c : Int} (hl : ts.length ≤ 5) (h : ∀ t ∈ ts, t.1 ∈ xs ∧ t.2.natAbs < 2 ^ 100) (hc : c.natAbs < 10 ^ 30) : Fm.FOk (fun z => z ∈ xs) 60 106 (Fm.can ts) c := by
  have := Fm.can_ok (N := fun z => z ∈ xs) (k := 100) (ts := ts) (c := c) (by omega) (fun p hp => (h p hp).1) (fun p hp => (h p hp).2) (by omega)
  exact ⟨this.can, by have := this.len; omega, this.nm, this.wb, this.cb⟩
theorem r_right {C x p : Addr} {ts : List Fm.Tm} {c : Int} {H : Hp} {Q : VK} {E : XK} (hx : FormAt C H x ts c) (hp : DueAt H p ts c) (hl : ts.length ≤ 60) (hw : ∀ t ∈ ts, IsQ t.1 ∧ t.2.natAbs < 2 ^ 1500) (hc : c.natAbs < 2 ^ 1500) (k : ∀ H', Keep [] H H' → Q (.bl true) H') : spRight C [.ref x, .ref p] H Q E := ⟨x, p, ts, c, rfl, hx, hp, hl, hw, hc, k⟩
theorem r_tidy {p : Addr} {ts : List Fm.Tm} {c : Int} {H : Hp} {Q : VK} {E : XK} (hp : RowAt H p ts) (hl : ts.length ≤ 60) (k : ∀ q H', Keep [] H H' → H q = none → DueAt H' q (Fm.can ts) c → Q (.ref q) H') : spTidy [.ref p, .int c] H Q E := ⟨p, ts, c, rfl, hp, hl, k⟩
theorem r_dueAdd {p q : Addr} {ts us : List Fm.Tm} {c d k : Int} {H : Hp} {Q : VK} {E : XK} (hp : DueAt H p ts c) (hq : DueAt H q us d) (hl : ts.length + us.length ≤ 60) (hw : ∀ t ∈ us, t.2.natAbs < 2 ^ 1500) (hd : d.natAbs < 2 ^ 1500) (hk : k.natAbs < 2 ^ 1500) (h : ∀ r H', Keep [] H H' → H r = none → DueAt H' r (Fm.can (ts ++ Fm.scl k us)) (c + k * d) → Q (.ref r) H') : spDueAdd [.ref p, .ref q, .int k] H Q E := ⟨p, q, ts, us, c, d, k, rfl, hp, hq, hl, hw, hd, hk, h⟩
section
variable {P : Program} {w : World} {K : PySem.W.Frag} {mg : Str → Option Value} {base : Heap}
theorem ok_law (T : Tx K mg) (G_w_pot : FnOk P w K mg base CX0 1 T.f_w_pot T.fd_w_pot ["_law_script"] (spPot K)) (G_w_take : GTake P w K mg base T) (G_w_pool : FnOk P w K mg base CX0 3 T.f_w_pool T.fd_w_pool ["_law_pot_here", "_law_most"] spPool) (G_w_pairs : FnOk P w K mg base CX0 3 T.f_w_pairs T.fd_w_pairs ["_law_pot_here", "_law_pool_here"] spPairs)
    (G_w_weight : FnOk P w K mg base CX0 2 T.f_w_weight T.fd_w_weight ["_law_pot_here"] (spPotInt (10 ^ 30))) (G_w_tidy : FnOk P w K mg base CX0 1 T.f_w_tidy T.fd_w_tidy ["_law_pairs_here", "_law_constant"] spTidy) (G_Form___init : GInit P w K mg base T) (G_w_right : FnOk P w K mg base CX0 6 T.f_w_right T.fd_w_right ["_law_found", "_law_due"] (spRight T.C_Form))
    (G_Form___sub : FnOk P w K mg base CX0 6 T.f_Form___sub T.fd_Form___sub ["self", "other"] (spSub T.C_Form)) (G_Form___add : GAdd P w K mg base T) (G_Form___neg : FnOk P w K mg base CX0 6 T.f_Form___neg T.fd_Form___neg ["self"] (spNeg T.C_Form)) (G_Form___rmul : FnOk P w K mg base CX0 6 T.f_Form___rmul T.fd_Form___rmul ["self", "other"] (spMul T.C_Form))
    (G_w_added : FnOk P w K mg base CX0 2 T.f_w_added T.fd_w_added ["_law_one", "_law_two", "_law_factor"] spDueAdd) (G_w_level : FnOk P w K mg base CX0 3 T.f_w_level T.fd_w_level ["_law_pot_here"] spLevel) (G_w_put_right : FnOk P w K mg base CX0 7 T.f_w_put_right T.fd_w_put_right ["_law_first", "_law_one", "_law_text", "_law_other", "_law_due_other", "_law_world"] (spPutRight T.C_Form))
    (G_Form_put : FnOk P w K mg base CX0 6 T.f_Form_put T.fd_Form_put ["self", "name", "form"] (spPut T.C_Form)) (G_w_put : FnOk P w K mg base CX0 3 T.f_w_put T.fd_w_put ["_law_one", "_law_text", "_law_other"] spLPut) : FnOk P w K mg base CX0 8 T.f_law T.fd_law ["_law_script"] (spLaw K) := by
  refine T.F_law.ok sc_law (fun vs H Q E h => ?_) (fun cdv A outer s H vs Q E hr h => ?_)
  · obtain ⟨a, ns, rfl, _⟩ := h; rfl
  · obtain ⟨sc, ns, rfl, hs, hn, q⟩ := h
    refine ⟨_, (pss_cons (ps_set (i := 1) sc_law.nd rfl (Or.inl rfl) (pe_call G_w_pot (hr.mono (by decide)) rfl T.g_w_pot T.F_w_pot.kp T.b_w_pot .nil pass0 (pa_cons (pv 0) pa_nil)))
    (pss_cons (ps_set (i := 2) sc_law.nd rfl (Or.inl rfl) (pe_call G_w_pool (hr.mono (by decide)) rfl T.g_w_pool T.F_w_pool.kp T.b_w_pool .nil pass0 (pa_cons (pv 1) (pa_cons pe_int pa_nil))))
    (pss_cons (ps_set (i := 3) sc_law.nd rfl (Or.inl rfl) (pe_lst pa_nil))
    (pss_cons (ps_set (i := 4) sc_law.nd rfl (Or.inl rfl) (pe_lst pa_nil))
    (pss_cons (ps_for PassesOwn.never rfl (pi_range1 rfl T.m_range (pa_cons pe_int pa_nil)) (pg_name (i := 5) sc_law.nd rfl (Or.inl rfl))
    (pss_cons (ps_set (i := 6) sc_law.nd rfl (Or.inl rfl) (pe_call G_w_pairs (hr.mono (by decide)) rfl T.g_w_pairs T.F_w_pairs.kp T.b_w_pairs .nil pass0 (pa_cons (pv 1) (pa_cons (pv 2) pa_nil))))
    (pss_cons (ps_set (i := 7) sc_law.nd rfl (Or.inl rfl) (pe_call G_w_weight (hr.mono (by decide)) rfl T.g_w_weight T.F_w_weight.kp T.b_w_weight .nil pass0 (pa_cons (pv 1) pa_nil)))
    (pss_cons (ps_expr (pe_bm PySem.F.plainAttrs_list PySem.F.slot_list_append PySem.F.type_list_append mt_append (pv 3) (pa_cons (pe_call G_w_tidy (hr.mono (by decide)) rfl T.g_w_tidy T.F_w_tidy.kp T.b_w_tidy .nil pass0 (pa_cons (pv 6) (pa_cons (pv 7) pa_nil))) pa_nil)))
    (pss_cons (ps_expr (pe_bm PySem.F.plainAttrs_list PySem.F.slot_list_append PySem.F.type_list_append mt_append (pv 4) (pa_cons (pe_make T.mk_Form G_Form___init (hr.mono (by decide)) rfl T.gC_Form T.b3_Form___init.choose_spec.2 T.b3_Form___init.choose_spec.1 pass0 (pa_cons (pv 6) (pa_cons (pv 7) pa_nil))) pa_nil)))
    (pss_one (ps_if (pt_not (pt_val (pe_call G_w_right (hr.mono (by decide)) rfl T.g_w_right T.F_w_right.kp T.b_w_right .nil pass0 (pa_cons (pe_ix ix_list (pv 4) (pv 5) (fun _ _ => rfl)) (pa_cons (pe_ix ix_list (pv 3) (pv 5) (fun _ _ => rfl)) pa_nil)))))
    (pss_one (ps_ret pe_bl))
    pss_nil)))))))
    (pss_cons (ps_set (i := 8) sc_law.nd rfl (Or.inl rfl) (pe_call G_w_tidy (hr.mono (by decide)) rfl T.g_w_tidy T.F_w_tidy.kp T.b_w_tidy .nil pass0 (pa_cons (pe_lst pa_nil) (pa_cons pe_int pa_nil))))
    (pss_cons (ps_set (i := 9) sc_law.nd rfl (Or.inl rfl) (pe_call G_w_weight (hr.mono (by decide)) rfl T.g_w_weight T.F_w_weight.kp T.b_w_weight .nil pass0 (pa_cons (pv 1) pa_nil)))
    (pss_cons (ps_if (pt_not (pt_val (pe_call G_w_right (hr.mono (by decide)) rfl T.g_w_right T.F_w_right.kp T.b_w_right .nil pass0 (pa_cons (pe_op (Ow.op_own2 T.oc_Form.sf T.me_Form___sub (G_Form___sub.raw T.b_Form___sub .nil) (hr.mono (by decide)) pass0) (pe_ix ix_list (pv 4) pe_int (fun _ _ => rfl)) (pe_ix ix_list (pv 4) pe_int (fun _ _ => rfl))) (pa_cons (pe_call G_w_added (hr.mono (by decide)) rfl T.g_w_added T.F_w_added.kp T.b_w_added .nil pass0 (pa_cons (pe_ix ix_list (pv 3) pe_int (fun _ _ => rfl)) (pa_cons (pe_ix ix_list (pv 3) pe_int (fun _ _ => rfl)) (pa_cons (pe_un un_neg pe_int) pa_nil)))) pa_nil)))))
    (pss_one (ps_ret pe_bl))
    pss_nil)
    (pss_cons (ps_if (pt_not (pt_val (pe_call G_w_right (hr.mono (by decide)) rfl T.g_w_right T.F_w_right.kp T.b_w_right .nil pass0 (pa_cons (pe_op (Ow.op_own2 T.oc_Form.sf T.me_Form___add (G_Form___add.raw T.b_Form___add .nil) (hr.mono (by decide)) pass0) (pe_ix ix_list (pv 4) pe_int (fun _ _ => rfl)) (pe_ix ix_list (pv 4) pe_int (fun _ _ => rfl))) (pa_cons (pe_call G_w_added (hr.mono (by decide)) rfl T.g_w_added T.F_w_added.kp T.b_w_added .nil pass0 (pa_cons (pe_ix ix_list (pv 3) pe_int (fun _ _ => rfl)) (pa_cons (pe_ix ix_list (pv 3) pe_int (fun _ _ => rfl)) (pa_cons pe_int pa_nil)))) pa_nil)))))
    (pss_one (ps_ret pe_bl))
    pss_nil)
    (pss_cons (ps_if (pt_not (pt_val (pe_call G_w_right (hr.mono (by decide)) rfl T.g_w_right T.F_w_right.kp T.b_w_right .nil pass0 (pa_cons (pe_un (Ow.un_ownNeg T.me_Form___neg (G_Form___neg.raw T.b_Form___neg .nil) (hr.mono (by decide)) pass0) (pe_ix ix_list (pv 4) pe_int (fun _ _ => rfl))) (pa_cons (pe_call G_w_added (hr.mono (by decide)) rfl T.g_w_added T.F_w_added.kp T.b_w_added .nil pass0 (pa_cons (pv 8) (pa_cons (pe_ix ix_list (pv 3) pe_int (fun _ _ => rfl)) (pa_cons (pe_un un_neg pe_int) pa_nil)))) pa_nil)))))
    (pss_one (ps_ret pe_bl))
    pss_nil)
    (pss_cons (ps_if (pt_not (pt_val (pe_call G_w_right (hr.mono (by decide)) rfl T.g_w_right T.F_w_right.kp T.b_w_right .nil pass0 (pa_cons (pe_op (Ow.op_intMul T.oc_Form.sf T.me_Form___mul T.me_Form___rmul T.si_Form (G_Form___rmul.raw T.b_Form___rmul .nil) (hr.mono (by decide)) pass0) (pv 9) (pe_ix ix_list (pv 4) pe_int (fun _ _ => rfl))) (pa_cons (pe_call G_w_added (hr.mono (by decide)) rfl T.g_w_added T.F_w_added.kp T.b_w_added .nil pass0 (pa_cons (pv 8) (pa_cons (pe_ix ix_list (pv 3) pe_int (fun _ _ => rfl)) (pa_cons (pv 9) pa_nil)))) pa_nil)))))
    (pss_one (ps_ret pe_bl))
    pss_nil)
    (pss_cons (ps_if (pt_not (pt_val (pe_call G_w_right (hr.mono (by decide)) rfl T.g_w_right T.F_w_right.kp T.b_w_right .nil pass0 (pa_cons (pe_make T.mk_Form G_Form___init (hr.mono (by decide)) rfl T.gC_Form T.b3_Form___init.choose_spec.2 T.b3_Form___init.choose_spec.1 pass0 (pa_cons (pe_lst pa_nil) (pa_cons (pv 9) pa_nil))) (pa_cons (pe_call G_w_tidy (hr.mono (by decide)) rfl T.g_w_tidy T.F_w_tidy.kp T.b_w_tidy .nil pass0 (pa_cons (pe_lst pa_nil) (pa_cons (pv 9) pa_nil))) pa_nil)))))
    (pss_one (ps_ret pe_bl))
    pss_nil)
    (pss_cons (ps_set (i := 10) sc_law.nd rfl (Or.inl rfl) pe_dnewK)
    (pss_cons (ps_for PassesOwn.never rfl (pi_list (pv 2)) (pg_name (i := 11) sc_law.nd rfl (Or.inl rfl))
    (pss_one (ps_dput (hu_of hr) (pv 10) (pv 11) (pe_call G_w_level (hr.mono (by decide)) rfl T.g_w_level T.F_w_level.kp T.b_w_level .nil pass0 (pa_cons (pv 1) pa_nil)) rfl)))
    (pss_cons (ps_set (i := 11) sc_law.nd rfl (Or.inl rfl) (pe_ix ix_list (pv 2) (pe_call G_w_take (hr.mono (by decide)) rfl T.g_w_take T.F_w_take.kp T.b_w_take .nil pass0 (pa_cons (pv 1) (pa_cons (pe_callB call_len_seq (by rfl) T.m_len PySem.boot_len (pa_cons (pv 2) pa_nil)) pa_nil))) (fun _ _ => rfl)))
    (pss_cons (ps_set (i := 12) sc_law.nd rfl (Or.inl rfl) (pe_ix ix_list (pv 2) (pe_call G_w_take (hr.mono (by decide)) rfl T.g_w_take T.F_w_take.kp T.b_w_take .nil pass0 (pa_cons (pv 1) (pa_cons (pe_callB call_len_seq (by rfl) T.m_len PySem.boot_len (pa_cons (pv 2) pa_nil)) pa_nil))) (fun _ _ => rfl)))
    (pss_cons (ps_if (pt_not (pt_val (pe_call G_w_put_right (hr.mono (by decide)) rfl T.g_w_put_right T.F_w_put_right.kp T.b_w_put_right .nil pass0 (pa_cons (pe_ix ix_list (pv 4) pe_int (fun _ _ => rfl)) (pa_cons (pe_ix ix_list (pv 3) pe_int (fun _ _ => rfl)) (pa_cons (pv 11) (pa_cons (pe_ix ix_list (pv 4) pe_int (fun _ _ => rfl)) (pa_cons (pe_ix ix_list (pv 3) pe_int (fun _ _ => rfl)) (pa_cons (pv 10) pa_nil)))))))))
    (pss_one (ps_ret pe_bl))
    pss_nil)
    (pss_cons (ps_if (pt_not (pt_val (pe_call G_w_put_right (hr.mono (by decide)) rfl T.g_w_put_right T.F_w_put_right.kp T.b_w_put_right .nil pass0 (pa_cons (pe_ix ix_list (pv 4) pe_int (fun _ _ => rfl)) (pa_cons (pe_ix ix_list (pv 3) pe_int (fun _ _ => rfl)) (pa_cons (pv 11) (pa_cons (pe_ix ix_list (pv 4) pe_int (fun _ _ => rfl)) (pa_cons (pe_ix ix_list (pv 3) pe_int (fun _ _ => rfl)) (pa_cons (pv 10) pa_nil)))))))))
    (pss_one (ps_ret pe_bl))
    pss_nil)
    (pss_cons (ps_set (i := 13) sc_law.nd rfl (Or.inl rfl) (pe_meth (pe_ix ix_list (pv 4) pe_int (fun _ _ => rfl)) T.oc_Form.cl T.me_Form_put G_Form_put (hr.mono (by decide)) T.b_Form_put .nil pass0 (pa_cons (pv 11) (pa_cons (pe_ix ix_list (pv 4) pe_int (fun _ _ => rfl)) pa_nil))))
    (pss_one (ps_ret (pe_call G_w_put_right (hr.mono (by decide)) rfl T.g_w_put_right T.F_w_put_right.kp T.b_w_put_right .nil pass0 (pa_cons (pv 13) (pa_cons (pe_call G_w_put (hr.mono (by decide)) rfl T.g_w_put T.F_w_put.kp T.b_w_put .nil pass0 (pa_cons (pe_ix ix_list (pv 3) pe_int (fun _ _ => rfl)) (pa_cons (pv 11) (pa_cons (pe_ix ix_list (pv 3) pe_int (fun _ _ => rfl)) pa_nil)))) (pa_cons (pv 12) (pa_cons (pe_ix ix_list (pv 4) pe_int (fun _ _ => rfl)) (pa_cons (pe_ix ix_list (pv 3) pe_int (fun _ _ => rfl)) (pa_cons (pv 10) pa_nil)))))))))))))))))))))))))))), ?_⟩
    walk_at "start"
    walk_at "sts"
    refine ⟨sc, ns, rfl, hs, hn, fun a H1 k1 na p1 => ?_⟩
    walk_at "sts"
    refine ⟨a, 4, rfl, p1, by decide, by decide, fun pl xs H2 l0 l4 hq nd k2 p2 npl e2 => ?_⟩
    have l4' : xs.length ≤ 4 := by omega
    have nla : pl ≠ a := p2.ne' e2 notpot_strs
    walk_at "sts"
    intro ld hld
    have p3 := p2.new (o := .lst []) hld
    have nda := p2.ne hld
    have ndl : ld ≠ pl := by rintro rfl; unfold NamesAt at e2; rw [e2] at hld; cases hld
    have k3 : Keep [] H2 (upd H2 ld (.lst [])) := Keep.new hld
    have ed3 : upd H2 ld (.lst []) ld = some (.lst (([] : List Addr).map V.ref)) := upd_same
    have e3 : NamesAt (upd H2 ld (.lst [])) pl xs := k3 _ _ (by simp) e2
    generalize upd H2 ld (.lst []) = H3 at p3 k3 ed3 e3 ⊢
    walk_at "sts"
    intro lf hlf
    have p4 := p3.new (o := .lst []) hlf
    have nfa := p3.ne hlf
    have nfl : lf ≠ pl := by rintro rfl; unfold NamesAt at e3; rw [e3] at hlf; cases hlf
    have nfd : lf ≠ ld := by rintro rfl; rw [ed3] at hlf; cases hlf
    have k4 : Keep [] H3 (upd H3 lf (.lst [])) := Keep.new hlf
    have ef4 : upd H3 lf (.lst []) lf = some (.lst (([] : List Addr).map V.ref)) := upd_same
    have ed4 := k4 _ _ (by simp) ed3
    have e4 : NamesAt (upd H3 lf (.lst [])) pl xs := k4 _ _ (by simp) e3
    generalize upd H3 lf (.lst []) = H4 at p4 k4 ed4 ef4 e4 ⊢
    walk_at "sts"
    refine forR1_go (fun i σ' H' => ∃ (pf pd : List Addr) (vs : List (List Fm.Tm × Int)) (x1 x2 x3 : Option V), σ' = [some (.ref sc), some (.ref a), some (.ref pl), some (.ref ld), some (.ref lf), x1, x2, x3, none, none, none, none, none, none] ∧ H' ld = some (.lst (pd.map V.ref)) ∧ H' lf = some (.lst (pf.map V.ref)) ∧ NamesAt H' pl xs ∧ PotAt a H' ∧ BothAt T.C_Form xs H' pf pd vs ∧ vs.length = i) (by decide) ⟨[], [], [], _, _, _, by first | exact rfl | trivial, ed4, ef4, e4, p4, trivial, rfl⟩ ?_ ?_
    · rintro i σ' H5 hi ⟨pf, pd, vs, x1, x2, x3, rfl, ed5, ef5, e5, p5, b5, lv⟩
      walk_at "sts"
      refine ⟨a, pl, xs, rfl, p5, e5, l0, by omega, fun q1 ts H6 hl5 ht k6 p6 nq1 row6 => ?_⟩
      have ed6 := k6 _ _ (by simpa using nda) ed5
      have ef6 := k6 _ _ (by simpa using nfa) ef5
      have e6 : NamesAt H6 pl xs := k6 _ _ (by simpa using nla) e5
      have b6 := b5.keep k6 p5.ml
      have nqa := p5.ne nq1
      have nqd : q1 ≠ ld := by rintro rfl; rw [ed5] at nq1; cases nq1
      have nqf : q1 ≠ lf := by rintro rfl; rw [ef5] at nq1; cases nq1
      walk_at "sts"
      refine r_potIntW p6 fun c H7 hc k7 p7 => ?_
      have ed7 := k7 _ _ (by simpa using nda) ed6
      have ef7 := k7 _ _ (by simpa using nfa) ef6
      have e7 : NamesAt H7 pl xs := k7 _ _ (by simpa using nla) e6
      have b7 := b6.keep k7 p6.ml
      have row7 := row6.keep k7 p6.ml (by simpa using nqa)
      walk_at "sts"
      refine r_tidy row7 (by omega) fun p H8 k8 np due8 => ?_
      have ed8 := k8 _ _ (by simp) ed7
      have ef8 := k8 _ _ (by simp) ef7
      have e8 : NamesAt H8 pl xs := k8 _ _ (by simp) e7
      have b8 := b7.keep k8 (by simp)
      have row8 := row7.keep0 k8
      have p8 : PotAt a H8 := by obtain ⟨P, h, hP⟩ := id p7; exact ⟨P, k8 _ _ (by simp) h, hP⟩
      walk_at "sts"
      have hln := b8.len
      have i3 : i < 3 := by first | exact hi | simpa using hi | (have := hi; omega)
      have npd : p ≠ ld := by rintro rfl; rw [ed7] at np; cases np
      refine r_app ed8 (by rw [List.length_map]; exact lt_size (by omega)) ?_
      have k9 : Keep [ld] H8 (upd H8 ld (.lst (pd.map V.ref ++ [.ref p]))) := Keep.at (by simp)
      have ed9 : upd H8 ld (.lst (pd.map V.ref ++ [.ref p])) ld = some (.lst ((pd ++ [p]).map V.ref)) := by rw [upd_same, List.map_append]; rfl
      have p9 : PotAt a (upd H8 ld (.lst (pd.map V.ref ++ [.ref p]))) := p8.put nda
      generalize upd H8 ld (.lst (pd.map V.ref ++ [.ref p])) = H9 at k9 ed9 p9 ⊢
      have ef9 := k9 _ _ (by simpa using nfd) ef8
      have e9 : NamesAt H9 pl xs := k9 _ _ (by simpa using Ne.symm ndl) e8
      have b9 := b8.keep k9 (ml1 ed8)
      have row9 := row8.keep k9 (ml1 ed8) (by simpa using nqd)
      have due9 := due8.keep k9 (ml1 ed8)
      walk_at "sts"
      refine r_newForm (.inl row9) (by omega) (fun t h => hq _ (ht t h).1) fun x H10 k10 nx f10 => ?_
      have ed10 := k10 _ _ (by simp) ed9
      have ef10 := k10 _ _ (by simp) ef9
      have e10 : NamesAt H10 pl xs := k10 _ _ (by simp) e9
      have b10 := b9.keep k10 (by simp)
      have due10 := due9.keep0 k10
      have p10 : PotAt a H10 := by obtain ⟨P, h, hP⟩ := id p9; exact ⟨P, k10 _ _ (by simp) h, hP⟩
      walk_at "sts"
      have k11 : Keep [lf] H10 (upd H10 lf (.lst (pf.map V.ref ++ [.ref x]))) := Keep.at (by simp)
      have ef11 : upd H10 lf (.lst (pf.map V.ref ++ [.ref x])) lf = some (.lst ((pf ++ [x]).map V.ref)) := by rw [upd_same, List.map_append]; rfl
      have p11 : PotAt a (upd H10 lf (.lst (pf.map V.ref ++ [.ref x]))) := p10.put nfa
      generalize upd H10 lf (.lst (pf.map V.ref ++ [.ref x])) = H11 at k11 ef11 p11 ⊢
      have ed11 := k11 _ _ (by simpa using Ne.symm nfd) ed10
      have e11 : NamesAt H11 pl xs := k11 _ _ (by simpa using Ne.symm nfl) e10
      have b11 := b10.keep k11 (ml1 ef10)
      have f11 := f10.keep k11 (ml1 ef10)
      have due11 := due10.keep k11 (ml1 ef10)
      have ok := tidy_ok hl5 ht hc
      have bb := BothAt.snoc (v := (Fm.can ts, c)) f11 due11 ok b11
      walk_at "sts"
      refine r_ixL (sqL_of ef11) (atI_nat (v := .ref x) (by rw [List.map_append, List.getElem?_append_right (by rw [List.length_map]; omega), List.length_map, hln.1, lv, Nat.sub_self]; rfl)) ?_
      walk_at "sts"
      refine r_ixL (sqL_of ed11) (atI_nat (v := .ref p) (by rw [List.map_append, List.getElem?_append_right (by rw [List.length_map]; omega), List.length_map, hln.2, lv, Nat.sub_self]; rfl)) ?_
      walk_at "sts"
      refine r_right f11 due11 (by have := ok.len; omega) (FOkw ok (by decide) (fun z hz => hz) hq) (Fm.pow_le ok.cb (by decide)) fun H12 k12 => ?_
      have p12 : PotAt a H12 := by obtain ⟨P, h, hP⟩ := id p11; exact ⟨P, k12 _ _ (by simp) h, hP⟩
      walk_at "sts"
      exact ⟨_, _, _, _, _, _, by first | exact rfl | trivial, k12 _ _ (by simp) ed11, k12 _ _ (by simp) ef11, k12 _ _ (by simp) e11, p12, bb.keep k12 (by simp), by rw [List.length_append, lv]; rfl⟩
    · rintro σ' H5 ⟨pf, pd, vs, x1', x2', x3, rfl, ed5, ef5, e5, p5, b5, lv⟩
      obtain ⟨x0, x1, x2, p0, p1, p2, t0, t1, t2, c0, c1, c2, rfl, rfl, o0, o1, o2⟩ := b5.three lv
      have cx : Ctx T.C_Form a pl ld lf x0 x1 x2 p0 p1 p2 xs t0 t1 t2 c0 c1 c2 nla nda nfa H5 := ⟨p5, ed5, ef5, e5, o0, o1, o2⟩
      walk_at "sts"
      intro pn hpn
      have kn : Keep [] H5 (upd H5 pn (.lst [])) := Keep.new hpn
      have en0 : RowAt (upd H5 pn (.lst [])) pn [] := ⟨[], upd_same, trivial⟩
      have cx6 := cx.k kn
      generalize upd H5 pn (.lst []) = H6 at kn en0 cx6 ⊢
      walk_at "sts"
      refine r_tidy en0 (by decide) fun pz H7 k7 nz dz => ?_
      rw [can_nil] at dz
      have cx7 := cx6.k k7
      walk_at "sts"
      refine r_potIntW cx7.p fun n H8 hn8 k8 p8 => ?_
      have cx8 := cx7.a k8 p8
      have dz8 := dz.keep k8 cx7.p.ml
      obtain ⟨_, _, ex0, _⟩ := id cx8.o0.f
      obtain ⟨_, _, ex1, _⟩ := id cx8.o1.f
      obtain ⟨_, _, ex2, _⟩ := id cx8.o2.f
      have w0 := FOkw cx.o0.o (by decide) (fun z hz => hz) hq
      have w1 := FOkw cx.o1.o (by decide) (fun z hz => hz) hq
      have w2 := FOkw cx.o2.o (by decide) (fun z hz => hz) hq
      have l0' := cx.o0.o.can.short cx.o0.o.nm
      have l1' := cx.o1.o.can.short cx.o1.o.nm
      have l2' := cx.o2.o.can.short cx.o2.o.nm
      have b0 : c0.natAbs < 2 ^ 1500 := Fm.pow_le cx.o0.o.cb (by decide)
      have b1 : c1.natAbs < 2 ^ 1500 := Fm.pow_le cx.o1.o.cb (by decide)
      have b2 : c2.natAbs < 2 ^ 1500 := Fm.pow_le cx.o2.o.cb (by decide)
      have hn106 : n.natAbs < 2 ^ 106 := Nat.lt_trans hn8 (by decide)
      have bn : n.natAbs < 2 ^ 1500 := Fm.pow_le hn106 (by decide)
      have n0 : ∀ t ∈ t0, t.1 ∈ xs ∧ t.2.natAbs < 2 ^ 106 := fun t h => ⟨cx.o0.o.nm t h, cx.o0.o.wb t h⟩
      have nn : ∀ t ∈ ([] : List Fm.Tm), t.1 ∈ xs ∧ t.2.natAbs < 2 ^ 106 := fun t h => by cases h
      have r1 := scl_ok (k := -1) n0 (by omega) cx.o1.o (by decide) cx.o0.o.cb
      have r2 := scl_ok (k := 1) n0 (by omega) cx.o2.o (by decide) cx.o0.o.cb
      have r3 := scl_ok (k := -1) (c := 0) nn (by simp; omega) cx.o1.o (by decide) (by decide)
      have r4 := scl_ok (k := n) (c := 0) nn (by simp; omega) cx.o2.o (Fm.pow_le hn106 (by decide)) (by decide)
      walk_at "sts"
      refine Ow.r_own2 ex0 ex1 ⟨x0, x1, t0, t1, c0, c1, rfl, cx8.o0.f, cx8.o1.f, by omega, fun t h => (w0 t h).1, fun t h => (w1 t h).1, fun t h => (w1 t h).2, b1, fun z H9 k9 nz9 fz => ?_⟩
      have cx9 := cx8.k k9
      walk_at "sts"
      refine r_dueAdd (k := -1) cx9.o0.d cx9.o1.d (by omega) (fun t h => (w1 t h).2) b1 (by decide) fun r H10 k10 nr10 dr => ?_
      have cx10 := cx9.k k10
      have fz10 := fz.keep0 k10
      rw [show c0 - c1 = c0 + -1 * c1 by omega] at fz10
      walk_at "sts"
      refine r_right fz10 dr r1.len (FOkw r1 (by decide) (fun z hz => hz) hq) (Fm.pow_le r1.cb (by decide)) fun H11 k11 => ?_
      have cx11 := cx10.k k11
      have dz11 := ((dz8.keep0 k9).keep0 k10).keep0 k11
      obtain ⟨_, _, ey0, _⟩ := id cx11.o0.f
      obtain ⟨_, _, ey2, _⟩ := id cx11.o2.f
      walk_at "sts"
      refine Ow.r_own2 ey0 ey2 ⟨x0, x2, t0, t2, c0, c2, rfl, cx11.o0.f, cx11.o2.f, by omega, fun t h => (w0 t h).1, fun t h => (w2 t h).1, fun z H12 k12 nz12 fz => ?_⟩
      have cx12 := cx11.k k12
      walk_at "sts"
      refine r_dueAdd (k := 1) cx12.o0.d cx12.o2.d (by omega) (fun t h => (w2 t h).2) b2 (by decide) fun r H13 k13 nr13 dr => ?_
      have cx13 := cx12.k k13
      have fz13 := fz.keep0 k13
      rw [show c0 + c2 = c0 + 1 * c2 by omega, ← scl_one (ts := t2)] at fz13
      walk_at "sts"
      refine r_right fz13 dr r2.len (FOkw r2 (by decide) (fun z hz => hz) hq) (Fm.pow_le r2.cb (by decide)) fun H14 k14 => ?_
      have cx14 := cx13.k k14
      have dz14 := ((dz11.keep0 k12).keep0 k13).keep0 k14
      obtain ⟨_, _, eu1, _⟩ := id cx14.o1.f
      walk_at "sts"
      refine Ow.r_own1 eu1 ⟨x1, t1, c1, rfl, cx14.o1.f, by omega, fun t h => (w1 t h).1, fun t h => (w1 t h).2, b1, fun z H15 k15 nz15 fz => ?_⟩
      have cx15 := cx14.k k15
      walk_at "sts"
      refine r_dueAdd (k := -1) (dz14.keep0 k15) cx15.o1.d (by simp; omega) (fun t h => (w1 t h).2) b1 (by decide) fun r H16 k16 nr16 dr => ?_
      have cx16 := cx15.k k16
      have fz16 := fz.keep0 k16
      rw [show -c1 = 0 + -1 * c1 by omega] at fz16
      walk_at "sts"
      refine r_right fz16 dr r3.len (FOkw r3 (by decide) (fun z hz => hz) hq) (Fm.pow_le r3.cb (by decide)) fun H17 k17 => ?_
      have cx17 := cx16.k k17
      have dz17 := ((dz14.keep0 k15).keep0 k16).keep0 k17
      obtain ⟨_, _, ev2, _⟩ := id cx17.o2.f
      walk_at "sts"
      refine Ow.r_intOwn ev2 ⟨x2, t2, c2, n, rfl, cx17.o2.f, by omega, fun t h => (w2 t h).1, fun t h => (w2 t h).2, b2, bn, fun z H18 k18 nz18 fz => ?_⟩
      have cx18 := cx17.k k18
      walk_at "sts"
      refine r_dueAdd (k := n) (dz17.keep0 k18) cx18.o2.d (by simp; omega) (fun t h => (w2 t h).2) b2 bn fun r H19 k19 nr19 dr => ?_
      have cx19 := cx18.k k19
      have fz19 := fz.keep0 k19
      rw [show c2 * n = 0 + n * c2 by rw [Int.zero_add, Int.mul_comm]] at fz19
      walk_at "sts"
      refine r_right fz19 dr r4.len (FOkw r4 (by decide) (fun z hz => hz) hq) (Fm.pow_le r4.cb (by decide)) fun H20 k20 => ?_
      have cx20 := cx19.k k20
      walk_at "sts"
      intro pe hpe
      have ke : Keep [] H20 (upd H20 pe (.lst [])) := Keep.new hpe
      have re : RowAt (upd H20 pe (.lst [])) pe [] := ⟨[], upd_same, trivial⟩
      have cx21 := cx20.k ke
      generalize upd H20 pe (.lst []) = H21 at ke re cx21 ⊢
      walk_at "sts"
      refine r_newForm (.inl re) (by decide) (fun t h => by cases h) fun x H22 k22 nx f22 => ?_
      rw [can_nil] at f22
      have cx22 := cx21.k k22
      walk_at "sts"
      intro pe2 hpe2
      have ke2 : Keep [] H22 (upd H22 pe2 (.lst [])) := Keep.new hpe2
      have re2 : RowAt (upd H22 pe2 (.lst [])) pe2 [] := ⟨[], upd_same, trivial⟩
      have cx23 := cx22.k ke2
      have f23 := f22.keep0 ke2
      generalize upd H22 pe2 (.lst []) = H23 at ke2 re2 cx23 f23 ⊢
      walk_at "sts"
      refine r_tidy re2 (by decide) fun p H24 k24 np d24 => ?_
      rw [can_nil] at d24
      have cx24 := cx23.k k24
      walk_at "sts"
      refine r_right (f23.keep0 k24) d24 (by decide) (fun t h => by cases h) bn fun H25 k25 => ?_
      have cx25 := cx24.k k25
      walk_at "sts"
      intro m hm
      have nma := cx25.p.ne hm
      have em26 : upd H25 m (.dK []) m = some (.dK []) := upd_same
      have km : Keep [a] H25 (upd H25 m (.dK [])) := Keep.new hm
      have pm := cx25.p.new (o := .dK []) hm
      generalize upd H25 m (.dK []) = H26 at em26 km pm ⊢
      walk_at "sts"
      refine forL_go (fun i σ' H' => ∃ (kvs : List (Key × V)) (W : Fm.Wd) (x3' : Option V), σ' = [some (.ref sc), some (.ref a), some (.ref pl), some (.ref ld), some (.ref lf), x1', x2', x3, some (.ref pz), some (.int n), some (.ref m), x3', none, none] ∧ H' m = some (.dK kvs) ∧ kvs.length ≤ i ∧ Levs (xs.take i) kvs W H' ∧ Keep [a] H25 H' ∧ PotAt a H') (sqL_of (cx25.a km pm).en) ⟨[], fun _ => (0, 1), _, rfl, em26, Nat.le_refl _, (fun z hz => by simp at hz), km, pm⟩ (fun i σ' H' _ h => by obtain ⟨_, _, _, _, _, _, _, k, p⟩ := h; exact sqL_of (cx25.a k p).en) ?_ ?_
      · rintro i x σ' H27 hx ⟨kvs, W, x3', rfl, em27, hkl, lev27, k27, p27⟩
        obtain ⟨z, hz, rfl⟩ : ∃ z, xs[i]? = some z ∧ V.str z = x := by simpa [List.getElem?_map] using hx
        have hi4 : i < xs.length := (List.getElem?_eq_some_iff.mp hz).1
        walk_at "sts"
        refine ⟨a, rfl, p27, fun q t b H28 b0 tb bb k28 p28 nq e28 => ?_⟩
        have em28 := k28 _ _ (by simpa using nma) em27
        walk_at "sts"
        refine r_dputS em28 (lt_size (by omega)) ?_
        have lev := (lev27.keep k28 p27.ml).put (nm := z) em28 e28 b0 tb bb
        rw [← take_snoc hz] at lev
        walk_at "sts"
        exact ⟨_, _, _, by first | exact rfl | trivial, upd_same, Nat.le_trans (length_putK _ _ _) (by omega), lev, (k27.trans k28).mut hm, p28.put nma⟩
      · rintro σ' H27 ⟨kvs, W, x3', rfl, em27, hkl, lev27, k27, p27⟩
        rw [List.take_of_length_le (by rw [List.length_map]; exact Nat.le_refl _)] at lev27
        rw [List.length_map] at hkl
        have cx27 := cx25.a k27 p27
        walk_at "sts"
        refine r_take cx27.p (by rw [List.length_map]; omega) (by rw [List.length_map]; omega) fun r H28 r0 r1' k28 p28 => ?_
        rw [List.length_map] at r1'
        have cx28 := cx27.a k28 p28
        have em28 := k28 _ _ (by simpa using nma) em27
        have lev28 := lev27.keep k28 cx27.p.ml
        obtain ⟨nm, hnm, mnm⟩ := atI_strs (xs := xs) r0 r1'
        walk_at "sts"
        refine r_take cx28.p (by rw [List.length_map]; omega) (by rw [List.length_map]; omega) fun r' H29 r0' r1'' k29 p29 => ?_
        rw [List.length_map] at r1''
        have cx29 := cx28.a k29 p29
        have em29 := k29 _ _ (by simpa using nma) em28
        have lev29 := lev28.keep k29 cx28.p.ml
        obtain ⟨nm2, hnm2, mnm2⟩ := atI_strs (xs := xs) r0' r1''
        walk_at "sts"
        refine ⟨x0, p0, x1, p1, m, t0, t1, c0, c1, nm, xs, kvs, W, rfl, cx29.o0.f, cx29.o0.d, cx29.o1.f, cx29.o1.d, wkn cx29.o0.o (by decide), wkn cx29.o1.o (by decide), mnm, l4', hq, em29, by omega, lev29, fun H30 k30 => ?_⟩
        have cx30 := cx29.k k30
        have em30 := k30 _ _ (by simp) em29
        have lev30 := lev29.keep k30 (by simp)
        walk_at "sts"
        refine ⟨x0, p0, x0, p0, m, t0, t0, c0, c0, nm, xs, kvs, W, rfl, cx30.o0.f, cx30.o0.d, cx30.o0.f, cx30.o0.d, wkn cx30.o0.o (by decide), wkn cx30.o0.o (by decide), mnm, l4', hq, em30, by omega, lev30, fun H31 k31 => ?_⟩
        have cx31 := cx30.k k31
        have em31 := k31 _ _ (by simp) em30
        have lev31 := lev30.keep k31 (by simp)
        obtain ⟨_, _, eg0, _⟩ := id cx31.o0.f
        walk_at "sts"
        refine ⟨x0, x1, t0, t1, c0, c1, nm, rfl, cx31.o0.f, cx31.o1.f, cx.o0.o.can, by omega, w0, w1, b1, fun z H32 k32 nz32 fz => ?_⟩
        have cx32 := cx31.k k32
        have em32 := k32 _ _ (by simp) em31
        have lev32 := lev31.keep k32 (by simp)
        have okz := wkn (put_ok (nm := nm) cx.o0.o cx.o1.o l4') (show 106 + 106 + 6 ≤ 250 by decide)
        walk_at "sts"
        refine ⟨p0, p1, t0, t1, c0, c1, nm, rfl, cx32.o0.d, cx32.o1.d, cx.o0.o.can, by omega, fun t h => (w0 t h).2, fun t h => (w1 t h).2, b1, fun r H33 k33 nr33 dr => ?_⟩
        have cx33 := cx32.k k33
        have em33 := k33 _ _ (by simp) em32
        have lev33 := lev32.keep k33 (by simp)
        walk_at "sts"
        refine ⟨z, r, x2, p2, m, _, t2, _, c2, nm2, xs, kvs, W, rfl, fz.keep0 k33, dr, cx33.o2.f, cx33.o2.d, okz, wkn cx33.o2.o (by decide), mnm2, l4', hq, em33, by omega, lev33, fun H34 k34 => ?_⟩
        walk_at "sts"
        exact q _
end
theorem law_of {w : World} {K : PySem.W.Frag} {mg : Str → Option Value} {base : Heap} (T : Tx K mg) : FnOk PG w K mg base CX0 8 T.f_law T.fd_law ["_law_script"] (spLaw K) := by
  have gt := ok_take (w := w) (base := base) (P := PG) T
  have gn := ok_name T gt
  have gw := ok_weight T gt
  have glo := ok_lowest (w := w) (base := base) (P := PG) T
  have gl := ok_level T gt gw glo
  have gi := ok_init T (ok_added T (ok_isQ (w := w) (base := base) (P := PG) T))
  have ga := ok_add T gi
  have gm := ok_mul T gi
  have gp := ok_put T (ok_weightOf (w := w) (base := base) (P := PG) T) gi ga gm
  have gf := ok_str T (ok_wform T (ok_term (w := w) (base := base) (P := PG) T))
  have gr := ok_ratio (w := w) (base := base) (P := PG) T
  have gv := ok_val T (ok_need (w := w) (base := base) (P := PG) T) (ok_names (w := w) (base := base) (P := PG) T) (ok_plus T gr) (ok_times T gr)
  have gti := ok_tidy (w := w) (base := base) (P := PG) T
  have gda := ok_dueAdd T gti
  have glp := ok_lput T gti gda
  have gwh := ok_whole (w := w) (base := base) (P := PG) T
  have gri := ok_right T (ok_formIs T gwh) gf (ok_writ T (ok_part (w := w) (base := base) (P := PG) T))
  have gpr := ok_putRight T glp gp gri (ok_valL T glo) gv (ok_pairIs T gwh) (ok_eq1 (w := w) (base := base) (P := PG) T)
  exact ok_law T (ok_pot (w := w) (base := base) (P := PG) T) gt (ok_pool T gt gn) (ok_pairs T gt gw) gw gti gi gri (ok_sub T ga gm) ga (ok_neg T gm) (ok_rmul T gm) gda gl gpr gp glp
theorem all_mk {w : World} {K : PySem.W.Frag} {h : Heap} {mg : Str → Option Value} {fa : Addr} (X : K.In h) (G : h.Ns mainGlobals mg) (hfa : mg "law" = some (.ref fa))
    {C_Form : Addr} {f0 : Addr} {od0 an0 : Option Addr} {sl0 : Array (Option Value)} {oc0 kV0 dc0 pm0 cd0 ct0 : Value} {T0 : Addr} {ocT0 : Value} {odT0 : Option Addr} {nT0 : Nat} {slT0 : Array (Option Value)} {tT0_0 : Tok} {f1 : Addr} {od1 an1 : Option Addr} {sl1 : Array (Option Value)} {oc1 kV1 dc1 pm1 cd1 ct1 : Value} {f2 : Addr} {od2 an2 : Option Addr} {sl2 : Array (Option Value)} {oc2 kV2 dc2 pm2 cd2 ct2 : Value} {f3 : Addr} {od3 an3 : Option Addr} {sl3 : Array (Option Value)} {oc3 kV3 dc3 pm3 cd3 ct3 : Value} {f4 : Addr} {od4 an4 : Option Addr} {sl4 : Array (Option Value)} {oc4 kV4 dc4 pm4 cd4 ct4 : Value} {f5 : Addr} {od5 an5 : Option Addr} {sl5 : Array (Option Value)} {oc5 kV5 dc5 pm5 cd5 ct5 : Value} {f6 : Addr} {od6 an6 : Option Addr} {sl6 : Array (Option Value)} {oc6 kV6 dc6 pm6 cd6 ct6 : Value} {f7 : Addr} {od7 an7 : Option Addr} {sl7 : Array (Option Value)} {oc7 kV7 dc7 pm7 cd7 ct7 : Value} {f8 : Addr} {od8 an8 : Option Addr} {sl8 : Array (Option Value)} {oc8 kV8 dc8 pm8 cd8 ct8 : Value} {eT9 : Addr} {f9 : Addr} {od9 an9 : Option Addr} {sl9 : Array (Option Value)} {oc9 kV9 dc9 pm9 cd9 ct9 : Value} {T9 : Addr} {ocT9 : Value} {odT9 : Option Addr} {nT9 : Nat} {slT9 : Array (Option Value)} {tT9_1 : Tok} {f10 : Addr} {od10 an10 : Option Addr} {sl10 : Array (Option Value)} {oc10 kV10 dc10 pm10 cd10 ct10 : Value} {f11 : Addr} {od11 an11 : Option Addr} {sl11 : Array (Option Value)} {oc11 kV11 dc11 pm11 cd11 ct11 : Value} {f12 : Addr} {od12 an12 : Option Addr} {sl12 : Array (Option Value)} {oc12 kV12 dc12 pm12 cd12 ct12 : Value} {f13 : Addr} {od13 an13 : Option Addr} {sl13 : Array (Option Value)} {oc13 kV13 dc13 pm13 cd13 ct13 : Value} {f14 : Addr} {od14 an14 : Option Addr} {sl14 : Array (Option Value)} {oc14 kV14 dc14 pm14 cd14 ct14 : Value} {f15 : Addr} {od15 an15 : Option Addr} {sl15 : Array (Option Value)} {oc15 kV15 dc15 pm15 cd15 ct15 : Value} {f16 : Addr} {od16 an16 : Option Addr} {sl16 : Array (Option Value)} {oc16 kV16 dc16 pm16 cd16 ct16 : Value} {f17 : Addr} {od17 an17 : Option Addr} {sl17 : Array (Option Value)} {oc17 kV17 dc17 pm17 cd17 ct17 : Value} {f18 : Addr} {od18 an18 : Option Addr} {sl18 : Array (Option Value)} {oc18 kV18 dc18 pm18 cd18 ct18 : Value} {f19 : Addr} {od19 an19 : Option Addr} {sl19 : Array (Option Value)} {oc19 kV19 dc19 pm19 cd19 ct19 : Value} {f20 : Addr} {od20 an20 : Option Addr} {sl20 : Array (Option Value)} {oc20 kV20 dc20 pm20 cd20 ct20 : Value} {f21 : Addr} {od21 an21 : Option Addr} {sl21 : Array (Option Value)} {oc21 kV21 dc21 pm21 cd21 ct21 : Value} {f22 : Addr} {od22 an22 : Option Addr} {sl22 : Array (Option Value)} {oc22 kV22 dc22 pm22 cd22 ct22 : Value} {f23 : Addr} {od23 an23 : Option Addr} {sl23 : Array (Option Value)} {oc23 kV23 dc23 pm23 cd23 ct23 : Value} {f24 : Addr} {od24 an24 : Option Addr} {sl24 : Array (Option Value)} {oc24 kV24 dc24 pm24 cd24 ct24 : Value} {f25 : Addr} {od25 an25 : Option Addr} {sl25 : Array (Option Value)} {oc25 kV25 dc25 pm25 cd25 ct25 : Value} {f26 : Addr} {od26 an26 : Option Addr} {sl26 : Array (Option Value)} {oc26 kV26 dc26 pm26 cd26 ct26 : Value} {f27 : Addr} {od27 an27 : Option Addr} {sl27 : Array (Option Value)} {oc27 kV27 dc27 pm27 cd27 ct27 : Value} {f28 : Addr} {od28 an28 : Option Addr} {sl28 : Array (Option Value)} {oc28 kV28 dc28 pm28 cd28 ct28 : Value} {f29 : Addr} {od29 an29 : Option Addr} {sl29 : Array (Option Value)} {oc29 kV29 dc29 pm29 cd29 ct29 : Value} {f30 : Addr} {od30 an30 : Option Addr} {sl30 : Array (Option Value)} {oc30 kV30 dc30 pm30 cd30 ct30 : Value} {f31 : Addr} {od31 an31 : Option Addr} {sl31 : Array (Option Value)} {oc31 kV31 dc31 pm31 cd31 ct31 : Value} {f32 : Addr} {od32 an32 : Option Addr} {sl32 : Array (Option Value)} {oc32 kV32 dc32 pm32 cd32 ct32 : Value} {f33 : Addr} {od33 an33 : Option Addr} {sl33 : Array (Option Value)} {oc33 kV33 dc33 pm33 cd33 ct33 : Value} {f34 : Addr} {od34 an34 : Option Addr} {sl34 : Array (Option Value)} {oc34 kV34 dc34 pm34 cd34 ct34 : Value} {f35 : Addr} {od35 an35 : Option Addr} {sl35 : Array (Option Value)} {oc35 kV35 dc35 pm35 cd35 ct35 : Value} {f36 : Addr} {od36 an36 : Option Addr} {sl36 : Array (Option Value)} {oc36 kV36 dc36 pm36 cd36 ct36 : Value} {f37 : Addr} {od37 an37 : Option Addr} {sl37 : Array (Option Value)} {oc37 kV37 dc37 pm37 cd37 ct37 : Value} {f38 : Addr} {od38 an38 : Option Addr} {sl38 : Array (Option Value)} {oc38 kV38 dc38 pm38 cd38 ct38 : Value} {f39 : Addr} {od39 an39 : Option Addr} {sl39 : Array (Option Value)} {oc39 kV39 dc39 pm39 cd39 ct39 : Value} {gr0_mul : Addr} {gr0_add : Addr} {tc17 : Tok} {tc18 : Tok} {tc19 : Tok}
    (o0g : PySem.W.nsIn K mainGlobals "Form" = some (some (.ref C_Form)))
    (a0 : PySem.W.nsIn K mainGlobals "ratio" = some (some (.ref f0)))
    (l0 : K.lookup f0 = some ⟨oc0, od0, .func (PySem.W.fnOf "ratio" "ratio" (defArgs s_ratio) (defBody s_ratio) (defScope s_ratio) (.ref T0) kV0 dc0 pm0 an0 cd0 ct0), sl0⟩)
    (c0 : PySem.W.codeIn K cd0 "ratio" = true)
    (k0 : PySem.W.keepIn K (.ref f0) = true)
    (d0 : K.lookup T0 = some ⟨ocT0, odT0, .seq #[.int (1) tT0_0] nT0, slT0⟩)
    (a1 : PySem.W.nsIn K mainGlobals "plus" = some (some (.ref f1)))
    (l1 : K.lookup f1 = some ⟨oc1, od1, .func (PySem.W.fnOf "plus" "plus" (defArgs s_plus) (defBody s_plus) (defScope s_plus) .none kV1 dc1 pm1 an1 cd1 ct1), sl1⟩)
    (c1 : PySem.W.codeIn K cd1 "plus" = true)
    (k1 : PySem.W.keepIn K (.ref f1) = true)
    (a2 : PySem.W.nsIn K mainGlobals "times" = some (some (.ref f2)))
    (l2 : K.lookup f2 = some ⟨oc2, od2, .func (PySem.W.fnOf "times" "times" (defArgs s_times) (defBody s_times) (defScope s_times) .none kV2 dc2 pm2 an2 cd2 ct2), sl2⟩)
    (c2 : PySem.W.codeIn K cd2 "times" = true)
    (k2 : PySem.W.keepIn K (.ref f2) = true)
    (a3 : PySem.W.nsIn K mainGlobals "is_quantity" = some (some (.ref f3)))
    (l3 : K.lookup f3 = some ⟨oc3, od3, .func (PySem.W.fnOf "is_quantity" "is_quantity" (defArgs s_is_quantity) (defBody s_is_quantity) (defScope s_is_quantity) .none kV3 dc3 pm3 an3 cd3 ct3), sl3⟩)
    (c3 : PySem.W.codeIn K cd3 "is_quantity" = true)
    (k3 : PySem.W.keepIn K (.ref f3) = true)
    (a4 : PySem.W.nsIn K mainGlobals "need_levels" = some (some (.ref f4)))
    (l4 : K.lookup f4 = some ⟨oc4, od4, .func (PySem.W.fnOf "need_levels" "need_levels" (defArgs s_need_levels) (defBody s_need_levels) (defScope s_need_levels) .none kV4 dc4 pm4 an4 cd4 ct4), sl4⟩)
    (c4 : PySem.W.codeIn K cd4 "need_levels" = true)
    (k4 : PySem.W.keepIn K (.ref f4) = true)
    (a5 : PySem.W.nsIn K mainGlobals "added_terms" = some (some (.ref f5)))
    (l5 : K.lookup f5 = some ⟨oc5, od5, .func (PySem.W.fnOf "added_terms" "added_terms" (defArgs s_added_terms) (defBody s_added_terms) (defScope s_added_terms) .none kV5 dc5 pm5 an5 cd5 ct5), sl5⟩)
    (c5 : PySem.W.codeIn K cd5 "added_terms" = true)
    (k5 : PySem.W.keepIn K (.ref f5) = true)
    (a6 : PySem.W.nsIn K mainGlobals "weight_of" = some (some (.ref f6)))
    (l6 : K.lookup f6 = some ⟨oc6, od6, .func (PySem.W.fnOf "weight_of" "weight_of" (defArgs s_weight_of) (defBody s_weight_of) (defScope s_weight_of) .none kV6 dc6 pm6 an6 cd6 ct6), sl6⟩)
    (c6 : PySem.W.codeIn K cd6 "weight_of" = true)
    (k6 : PySem.W.keepIn K (.ref f6) = true)
    (a7 : PySem.W.nsIn K mainGlobals "write_term" = some (some (.ref f7)))
    (l7 : K.lookup f7 = some ⟨oc7, od7, .func (PySem.W.fnOf "write_term" "write_term" (defArgs s_write_term) (defBody s_write_term) (defScope s_write_term) .none kV7 dc7 pm7 an7 cd7 ct7), sl7⟩)
    (c7 : PySem.W.codeIn K cd7 "write_term" = true)
    (k7 : PySem.W.keepIn K (.ref f7) = true)
    (a8 : PySem.W.nsIn K mainGlobals "write_form" = some (some (.ref f8)))
    (l8 : K.lookup f8 = some ⟨oc8, od8, .func (PySem.W.fnOf "write_form" "write_form" (defArgs s_write_form) (defBody s_write_form) (defScope s_write_form) .none kV8 dc8 pm8 an8 cd8 ct8), sl8⟩)
    (c8 : PySem.W.codeIn K cd8 "write_form" = true)
    (k8 : PySem.W.keepIn K (.ref f8) = true)
    (a9 : PySem.W.findIn K (.ref C_Form) "__init__" = some (some (.ref f9)))
    (l9 : K.lookup f9 = some ⟨oc9, od9, .func (PySem.W.fnOf "__init__" "Form.__init__" (defArgs s_Form___init) (defBody s_Form___init) (defScope s_Form___init) (.ref T9) kV9 dc9 pm9 an9 cd9 ct9), sl9⟩)
    (c9 : PySem.W.codeIn K cd9 "Form.__init__" = true)
    (k9 : PySem.W.keepIn K (.ref f9) = true)
    (d9 : K.lookup T9 = some ⟨ocT9, odT9, .seq #[.ref eT9, .int (0) tT9_1] nT9, slT9⟩)
    (a10 : PySem.W.findIn K (.ref C_Form) "names" = some (some (.ref f10)))
    (l10 : K.lookup f10 = some ⟨oc10, od10, .func (PySem.W.fnOf "names" "Form.names" (defArgs s_Form_names) (defBody s_Form_names) (defScope s_Form_names) .none kV10 dc10 pm10 an10 cd10 ct10), sl10⟩)
    (c10 : PySem.W.codeIn K cd10 "Form.names" = true)
    (k10 : PySem.W.keepIn K (.ref f10) = true)
    (a11 : PySem.W.findIn K (.ref C_Form) "put" = some (some (.ref f11)))
    (l11 : K.lookup f11 = some ⟨oc11, od11, .func (PySem.W.fnOf "put" "Form.put" (defArgs s_Form_put) (defBody s_Form_put) (defScope s_Form_put) .none kV11 dc11 pm11 an11 cd11 ct11), sl11⟩)
    (c11 : PySem.W.codeIn K cd11 "Form.put" = true)
    (k11 : PySem.W.keepIn K (.ref f11) = true)
    (a12 : PySem.W.findIn K (.ref C_Form) "__call__" = some (some (.ref f12)))
    (l12 : K.lookup f12 = some ⟨oc12, od12, .func (PySem.W.fnOf "__call__" "Form.__call__" (defArgs s_Form___call) (defBody s_Form___call) (defScope s_Form___call) .none kV12 dc12 pm12 an12 cd12 ct12), sl12⟩)
    (c12 : PySem.W.codeIn K cd12 "Form.__call__" = true)
    (k12 : PySem.W.keepIn K (.ref f12) = true)
    (a13 : PySem.W.findIn K (.ref C_Form) "__add__" = some (some (.ref f13)))
    (l13 : K.lookup f13 = some ⟨oc13, od13, .func (PySem.W.fnOf "__add__" "Form.__add__" (defArgs s_Form___add) (defBody s_Form___add) (defScope s_Form___add) .none kV13 dc13 pm13 an13 cd13 ct13), sl13⟩)
    (c13 : PySem.W.codeIn K cd13 "Form.__add__" = true)
    (k13 : PySem.W.keepIn K (.ref f13) = true)
    (a14 : PySem.W.findIn K (.ref C_Form) "__sub__" = some (some (.ref f14)))
    (l14 : K.lookup f14 = some ⟨oc14, od14, .func (PySem.W.fnOf "__sub__" "Form.__sub__" (defArgs s_Form___sub) (defBody s_Form___sub) (defScope s_Form___sub) .none kV14 dc14 pm14 an14 cd14 ct14), sl14⟩)
    (c14 : PySem.W.codeIn K cd14 "Form.__sub__" = true)
    (k14 : PySem.W.keepIn K (.ref f14) = true)
    (a15 : PySem.W.findIn K (.ref C_Form) "__neg__" = some (some (.ref f15)))
    (l15 : K.lookup f15 = some ⟨oc15, od15, .func (PySem.W.fnOf "__neg__" "Form.__neg__" (defArgs s_Form___neg) (defBody s_Form___neg) (defScope s_Form___neg) .none kV15 dc15 pm15 an15 cd15 ct15), sl15⟩)
    (c15 : PySem.W.codeIn K cd15 "Form.__neg__" = true)
    (k15 : PySem.W.keepIn K (.ref f15) = true)
    (a16 : PySem.W.findIn K (.ref C_Form) "__mul__" = some (some (.ref f16)))
    (l16 : K.lookup f16 = some ⟨oc16, od16, .func (PySem.W.fnOf "__mul__" "Form.__mul__" (defArgs s_Form___mul) (defBody s_Form___mul) (defScope s_Form___mul) .none kV16 dc16 pm16 an16 cd16 ct16), sl16⟩)
    (c16 : PySem.W.codeIn K cd16 "Form.__mul__" = true)
    (k16 : PySem.W.keepIn K (.ref f16) = true)
    (a17 : PySem.W.findIn K (.ref C_Form) "__rmul__" = some (some (.ref f17)))
    (l17 : K.lookup f17 = some ⟨oc17, od17, .func (PySem.W.fnOf "__rmul__" "Form.__rmul__" (defArgs s_Form___rmul) (defBody s_Form___rmul) (defScope s_Form___rmul) .none kV17 dc17 pm17 an17 cd17 ct17), sl17⟩)
    (c17 : PySem.W.codeIn K cd17 "Form.__rmul__" = true)
    (k17 : PySem.W.keepIn K (.ref f17) = true)
    (a18 : PySem.W.findIn K (.ref C_Form) "__eq__" = some (some (.ref f18)))
    (l18 : K.lookup f18 = some ⟨oc18, od18, .func (PySem.W.fnOf "__eq__" "Form.__eq__" (defArgs s_Form___eq) (defBody s_Form___eq) (defScope s_Form___eq) .none kV18 dc18 pm18 an18 cd18 ct18), sl18⟩)
    (c18 : PySem.W.codeIn K cd18 "Form.__eq__" = true)
    (k18 : PySem.W.keepIn K (.ref f18) = true)
    (a19 : PySem.W.findIn K (.ref C_Form) "__str__" = some (some (.ref f19)))
    (l19 : K.lookup f19 = some ⟨oc19, od19, .func (PySem.W.fnOf "__str__" "Form.__str__" (defArgs s_Form___str) (defBody s_Form___str) (defScope s_Form___str) .none kV19 dc19 pm19 an19 cd19 ct19), sl19⟩)
    (c19 : PySem.W.codeIn K cd19 "Form.__str__" = true)
    (k19 : PySem.W.keepIn K (.ref f19) = true)
    (a20 : PySem.W.nsIn K mainGlobals "_law_pot" = some (some (.ref f20)))
    (l20 : K.lookup f20 = some ⟨oc20, od20, .func (PySem.W.fnOf "_law_pot" "_law_pot" (defArgs s_w_pot) (defBody s_w_pot) (defScope s_w_pot) .none kV20 dc20 pm20 an20 cd20 ct20), sl20⟩)
    (c20 : PySem.W.codeIn K cd20 "_law_pot" = true)
    (k20 : PySem.W.keepIn K (.ref f20) = true)
    (a21 : PySem.W.nsIn K mainGlobals "_law_take" = some (some (.ref f21)))
    (l21 : K.lookup f21 = some ⟨oc21, od21, .func (PySem.W.fnOf "_law_take" "_law_take" (defArgs s_w_take) (defBody s_w_take) (defScope s_w_take) .none kV21 dc21 pm21 an21 cd21 ct21), sl21⟩)
    (c21 : PySem.W.codeIn K cd21 "_law_take" = true)
    (k21 : PySem.W.keepIn K (.ref f21) = true)
    (a22 : PySem.W.nsIn K mainGlobals "_law_whole" = some (some (.ref f22)))
    (l22 : K.lookup f22 = some ⟨oc22, od22, .func (PySem.W.fnOf "_law_whole" "_law_whole" (defArgs s_w_whole) (defBody s_w_whole) (defScope s_w_whole) .none kV22 dc22 pm22 an22 cd22 ct22), sl22⟩)
    (c22 : PySem.W.codeIn K cd22 "_law_whole" = true)
    (k22 : PySem.W.keepIn K (.ref f22) = true)
    (a23 : PySem.W.nsIn K mainGlobals "_law_quantity" = some (some (.ref f23)))
    (l23 : K.lookup f23 = some ⟨oc23, od23, .func (PySem.W.fnOf "_law_quantity" "_law_quantity" (defArgs s_w_quantity) (defBody s_w_quantity) (defScope s_w_quantity) .none kV23 dc23 pm23 an23 cd23 ct23), sl23⟩)
    (c23 : PySem.W.codeIn K cd23 "_law_quantity" = true)
    (k23 : PySem.W.keepIn K (.ref f23) = true)
    (a24 : PySem.W.nsIn K mainGlobals "_law_pool" = some (some (.ref f24)))
    (l24 : K.lookup f24 = some ⟨oc24, od24, .func (PySem.W.fnOf "_law_pool" "_law_pool" (defArgs s_w_pool) (defBody s_w_pool) (defScope s_w_pool) .none kV24 dc24 pm24 an24 cd24 ct24), sl24⟩)
    (c24 : PySem.W.codeIn K cd24 "_law_pool" = true)
    (k24 : PySem.W.keepIn K (.ref f24) = true)
    (a25 : PySem.W.nsIn K mainGlobals "_law_weight" = some (some (.ref f25)))
    (l25 : K.lookup f25 = some ⟨oc25, od25, .func (PySem.W.fnOf "_law_weight" "_law_weight" (defArgs s_w_weight) (defBody s_w_weight) (defScope s_w_weight) .none kV25 dc25 pm25 an25 cd25 ct25), sl25⟩)
    (c25 : PySem.W.codeIn K cd25 "_law_weight" = true)
    (k25 : PySem.W.keepIn K (.ref f25) = true)
    (a26 : PySem.W.nsIn K mainGlobals "_law_pairs" = some (some (.ref f26)))
    (l26 : K.lookup f26 = some ⟨oc26, od26, .func (PySem.W.fnOf "_law_pairs" "_law_pairs" (defArgs s_w_pairs) (defBody s_w_pairs) (defScope s_w_pairs) .none kV26 dc26 pm26 an26 cd26 ct26), sl26⟩)
    (c26 : PySem.W.codeIn K cd26 "_law_pairs" = true)
    (k26 : PySem.W.keepIn K (.ref f26) = true)
    (a27 : PySem.W.nsIn K mainGlobals "_law_tidy" = some (some (.ref f27)))
    (l27 : K.lookup f27 = some ⟨oc27, od27, .func (PySem.W.fnOf "_law_tidy" "_law_tidy" (defArgs s_w_tidy) (defBody s_w_tidy) (defScope s_w_tidy) .none kV27 dc27 pm27 an27 cd27 ct27), sl27⟩)
    (c27 : PySem.W.codeIn K cd27 "_law_tidy" = true)
    (k27 : PySem.W.keepIn K (.ref f27) = true)
    (a28 : PySem.W.nsIn K mainGlobals "_law_added" = some (some (.ref f28)))
    (l28 : K.lookup f28 = some ⟨oc28, od28, .func (PySem.W.fnOf "_law_added" "_law_added" (defArgs s_w_added) (defBody s_w_added) (defScope s_w_added) .none kV28 dc28 pm28 an28 cd28 ct28), sl28⟩)
    (c28 : PySem.W.codeIn K cd28 "_law_added" = true)
    (k28 : PySem.W.keepIn K (.ref f28) = true)
    (a29 : PySem.W.nsIn K mainGlobals "_law_form_is" = some (some (.ref f29)))
    (l29 : K.lookup f29 = some ⟨oc29, od29, .func (PySem.W.fnOf "_law_form_is" "_law_form_is" (defArgs s_w_form_is) (defBody s_w_form_is) (defScope s_w_form_is) .none kV29 dc29 pm29 an29 cd29 ct29), sl29⟩)
    (c29 : PySem.W.codeIn K cd29 "_law_form_is" = true)
    (k29 : PySem.W.keepIn K (.ref f29) = true)
    (a30 : PySem.W.nsIn K mainGlobals "_law_lowest" = some (some (.ref f30)))
    (l30 : K.lookup f30 = some ⟨oc30, od30, .func (PySem.W.fnOf "_law_lowest" "_law_lowest" (defArgs s_w_lowest) (defBody s_w_lowest) (defScope s_w_lowest) .none kV30 dc30 pm30 an30 cd30 ct30), sl30⟩)
    (c30 : PySem.W.codeIn K cd30 "_law_lowest" = true)
    (k30 : PySem.W.keepIn K (.ref f30) = true)
    (a31 : PySem.W.nsIn K mainGlobals "_law_pair_is" = some (some (.ref f31)))
    (l31 : K.lookup f31 = some ⟨oc31, od31, .func (PySem.W.fnOf "_law_pair_is" "_law_pair_is" (defArgs s_w_pair_is) (defBody s_w_pair_is) (defScope s_w_pair_is) .none kV31 dc31 pm31 an31 cd31 ct31), sl31⟩)
    (c31 : PySem.W.codeIn K cd31 "_law_pair_is" = true)
    (k31 : PySem.W.keepIn K (.ref f31) = true)
    (a32 : PySem.W.nsIn K mainGlobals "_law_value" = some (some (.ref f32)))
    (l32 : K.lookup f32 = some ⟨oc32, od32, .func (PySem.W.fnOf "_law_value" "_law_value" (defArgs s_w_value) (defBody s_w_value) (defScope s_w_value) .none kV32 dc32 pm32 an32 cd32 ct32), sl32⟩)
    (c32 : PySem.W.codeIn K cd32 "_law_value" = true)
    (k32 : PySem.W.keepIn K (.ref f32) = true)
    (a33 : PySem.W.nsIn K mainGlobals "_law_part" = some (some (.ref f33)))
    (l33 : K.lookup f33 = some ⟨oc33, od33, .func (PySem.W.fnOf "_law_part" "_law_part" (defArgs s_w_part) (defBody s_w_part) (defScope s_w_part) .none kV33 dc33 pm33 an33 cd33 ct33), sl33⟩)
    (c33 : PySem.W.codeIn K cd33 "_law_part" = true)
    (k33 : PySem.W.keepIn K (.ref f33) = true)
    (a34 : PySem.W.nsIn K mainGlobals "_law_written" = some (some (.ref f34)))
    (l34 : K.lookup f34 = some ⟨oc34, od34, .func (PySem.W.fnOf "_law_written" "_law_written" (defArgs s_w_written) (defBody s_w_written) (defScope s_w_written) .none kV34 dc34 pm34 an34 cd34 ct34), sl34⟩)
    (c34 : PySem.W.codeIn K cd34 "_law_written" = true)
    (k34 : PySem.W.keepIn K (.ref f34) = true)
    (a35 : PySem.W.nsIn K mainGlobals "_law_right" = some (some (.ref f35)))
    (l35 : K.lookup f35 = some ⟨oc35, od35, .func (PySem.W.fnOf "_law_right" "_law_right" (defArgs s_w_right) (defBody s_w_right) (defScope s_w_right) .none kV35 dc35 pm35 an35 cd35 ct35), sl35⟩)
    (c35 : PySem.W.codeIn K cd35 "_law_right" = true)
    (k35 : PySem.W.keepIn K (.ref f35) = true)
    (a36 : PySem.W.nsIn K mainGlobals "_law_put" = some (some (.ref f36)))
    (l36 : K.lookup f36 = some ⟨oc36, od36, .func (PySem.W.fnOf "_law_put" "_law_put" (defArgs s_w_put) (defBody s_w_put) (defScope s_w_put) .none kV36 dc36 pm36 an36 cd36 ct36), sl36⟩)
    (c36 : PySem.W.codeIn K cd36 "_law_put" = true)
    (k36 : PySem.W.keepIn K (.ref f36) = true)
    (a37 : PySem.W.nsIn K mainGlobals "_law_level" = some (some (.ref f37)))
    (l37 : K.lookup f37 = some ⟨oc37, od37, .func (PySem.W.fnOf "_law_level" "_law_level" (defArgs s_w_level) (defBody s_w_level) (defScope s_w_level) .none kV37 dc37 pm37 an37 cd37 ct37), sl37⟩)
    (c37 : PySem.W.codeIn K cd37 "_law_level" = true)
    (k37 : PySem.W.keepIn K (.ref f37) = true)
    (a38 : PySem.W.nsIn K mainGlobals "_law_put_right" = some (some (.ref f38)))
    (l38 : K.lookup f38 = some ⟨oc38, od38, .func (PySem.W.fnOf "_law_put_right" "_law_put_right" (defArgs s_w_put_right) (defBody s_w_put_right) (defScope s_w_put_right) .none kV38 dc38 pm38 an38 cd38 ct38), sl38⟩)
    (c38 : PySem.W.codeIn K cd38 "_law_put_right" = true)
    (k38 : PySem.W.keepIn K (.ref f38) = true)
    (a39 : PySem.W.nsIn K mainGlobals "law" = some (some (.ref f39)))
    (l39 : K.lookup f39 = some ⟨oc39, od39, .func (PySem.W.fnOf "law" "law" (defArgs s_law) (defBody s_law) (defScope s_law) .none kV39 dc39 pm39 an39 cd39 ct39), sl39⟩)
    (c39 : PySem.W.codeIn K cd39 "law" = true)
    (k39 : PySem.W.keepIn K (.ref f39) = true)
    (z0 : PySem.W.nsIn K mainGlobals "len" = some none)
    (z1 : PySem.W.nsIn K mainGlobals "range" = some none)
    (z2 : PySem.W.nsIn K mainGlobals "isinstance" = some none)
    (z3 : PySem.W.nsIn K mainGlobals "int" = some none)
    (z4 : PySem.W.nsIn K mainGlobals "bool" = some none)
    (z5 : PySem.W.nsIn K mainGlobals "str" = some none)
    (z6 : PySem.W.nsIn K mainGlobals "list" = some none)
    (z7 : PySem.W.nsIn K mainGlobals "tuple" = some none)
    (z8 : PySem.W.nsIn K mainGlobals "dict" = some none)
    (z9 : PySem.W.nsIn K mainGlobals "abs" = some none)
    (z10 : PySem.W.nsIn K mainGlobals "max" = some none)
    (z11 : PySem.W.nsIn K mainGlobals "sum" = some none)
    (z12 : PySem.W.nsIn K mainGlobals "sorted" = some none)
    (z13 : PySem.W.nsIn K mainGlobals "all" = some none)
    (z14 : PySem.W.nsIn K mainGlobals "NotImplemented" = some none)
    (z15 : PySem.W.nsIn K mainGlobals "ZeroDivisionError" = some none)
    (z16 : PySem.W.nsIn K mainGlobals "gcd" = some (some (.builtin "math.gcd")))
    (o0a : PySem.W.plainGet K C_Form Str.empty = true)
    (o0b : PySem.W.hasDictIn K C_Form = true)
    (o0c : PySem.W.plainOver K C_Form = true)
    (o0d : PySem.W.findIn K (.ref C_Form) "__setattr__" = some (some (.builtin "object.__setattr__")))
    (o0e : PySem.W.selfFirst K C_Form = true)
    (o0f : PySem.W.findIn K (.ref C_Form) "__class__" = some (some (.builtin "object.__class__")))
    (o0h : PySem.W.specialIn K (.builtin "object.__class__") "__get__" = some (some (.builtin "getset_descriptor.__get__")))
    (o0i : PySem.W.takesIn K (.builtin "object.__class__") = some true)
    (o0j : PySem.W.mroIn K C_Form (.type "object") = some true)
    (o0n0 : PySem.W.findIn K (.ref C_Form) "terms" = some none)
    (o0n1 : PySem.W.findIn K (.ref C_Form) "constant" = some none)
    (o0k : PySem.W.makesIn K C_Form = true)
    (o0l : PySem.W.keepIn K (.ref C_Form) = true)
    (fn9 : PySem.W.isFn K (.ref f9) = true)
    (fn10 : PySem.W.isFn K (.ref f10) = true)
    (fn11 : PySem.W.isFn K (.ref f11) = true)
    (fn12 : PySem.W.isFn K (.ref f12) = true)
    (fi12 : PySem.W.fnIn K f12 = true)
    (fn13 : PySem.W.isFn K (.ref f13) = true)
    (fn14 : PySem.W.isFn K (.ref f14) = true)
    (fn15 : PySem.W.isFn K (.ref f15) = true)
    (fn16 : PySem.W.isFn K (.ref f16) = true)
    (fn17 : PySem.W.isFn K (.ref f17) = true)
    (fn18 : PySem.W.isFn K (.ref f18) = true)
    (fn19 : PySem.W.isFn K (.ref f19) = true)
    (o0s : PySem.W.subIn K (.ref C_Form) (.type "int") = some false)
    (o0t : PySem.W.subIn K (.type "int") (.ref C_Form) = some false)
    (o0r_mul : PySem.W.findIn K (.ref C_Form) "__rmul__" = some (some (.ref gr0_mul)))
    (o0u_mul : PySem.W.findIn K (.type "int") "__mul__" = some (some (.builtin "int.__mul__")))
    (o0v_mul : PySem.W.findIn K (.type "int") "__rmul__" = some (some (.builtin "int.__rmul__")))
    (o0r_add : PySem.W.findIn K (.ref C_Form) "__radd__" = some (some (.ref gr0_add)))
    (o0u_add : PySem.W.findIn K (.type "int") "__add__" = some (some (.builtin "int.__add__")))
    (o0v_add : PySem.W.findIn K (.type "int") "__radd__" = some (some (.builtin "int.__radd__")))
    (z17 : PySem.W.nsIn K mainGlobals "LETTERS" = some (some (.str "abcdefghijklmnopqrstuvwxyz" tc17)))
    (z18 : PySem.W.nsIn K mainGlobals "QUANTITY_SIGNS" = some (some (.str "abcdefghijklmnopqrstuvwxyz.0123456789" tc18)))
    (z19 : PySem.W.nsIn K mainGlobals "LONGEST_QUANTITY" = some (some (.int (12) tc19))) :
    ∃ fd : FuncData, (∀ (s : Shared) (v : Value), BindsTo s fd ⟨[v], []⟩ [("_law_script", v)]) ∧ ∀ base : Heap, K.In base → base.Ns mainGlobals mg → FnOk PG w K mg base CX0 8 fa fd ["_law_script"] (spLaw K) := by
  have FD0 : FunD K "ratio" "ratio" (defArgs s_ratio) (defBody s_ratio) (defScope s_ratio) [V.int (1)] [] f0 _ := ⟨⟨_, _, _, _, _, _, _, _, _, _, rfl, l0, c0, Or.inr ⟨by simp, T0, _, _, _, rfl, d0, rfl, (.cons ⟨_, rfl⟩ .nil)⟩, Or.inl rfl⟩, k0⟩
  have F1 := fun_mk (st := s_plus) l1 c1 k1
  have F2 := fun_mk (st := s_times) l2 c2 k2
  have F3 := fun_mk (st := s_is_quantity) l3 c3 k3
  have F4 := fun_mk (st := s_need_levels) l4 c4 k4
  have F5 := fun_mk (st := s_added_terms) l5 c5 k5
  have F6 := fun_mk (st := s_weight_of) l6 c6 k6
  have F7 := fun_mk (st := s_write_term) l7 c7 k7
  have F8 := fun_mk (st := s_write_form) l8 c8 k8
  have FD9 : FunD K "__init__" "Form.__init__" (defArgs s_Form___init) (defBody s_Form___init) (defScope s_Form___init) [V.ref eT9, V.int (0)] [] f9 _ := ⟨⟨_, _, _, _, _, _, _, _, _, _, rfl, l9, c9, Or.inr ⟨by simp, T9, _, _, _, rfl, d9, rfl, (.cons rfl (.cons ⟨_, rfl⟩ .nil))⟩, Or.inl rfl⟩, k9⟩
  have F10 := fun_mk (st := s_Form_names) l10 c10 k10
  have F11 := fun_mk (st := s_Form_put) l11 c11 k11
  have F12 := fun_mk (st := s_Form___call) l12 c12 k12
  have F13 := fun_mk (st := s_Form___add) l13 c13 k13
  have F14 := fun_mk (st := s_Form___sub) l14 c14 k14
  have F15 := fun_mk (st := s_Form___neg) l15 c15 k15
  have F16 := fun_mk (st := s_Form___mul) l16 c16 k16
  have F17 := fun_mk (st := s_Form___rmul) l17 c17 k17
  have F18 := fun_mk (st := s_Form___eq) l18 c18 k18
  have F19 := fun_mk (st := s_Form___str) l19 c19 k19
  have F20 := fun_mk (st := s_w_pot) l20 c20 k20
  have F21 := fun_mk (st := s_w_take) l21 c21 k21
  have F22 := fun_mk (st := s_w_whole) l22 c22 k22
  have F23 := fun_mk (st := s_w_quantity) l23 c23 k23
  have F24 := fun_mk (st := s_w_pool) l24 c24 k24
  have F25 := fun_mk (st := s_w_weight) l25 c25 k25
  have F26 := fun_mk (st := s_w_pairs) l26 c26 k26
  have F27 := fun_mk (st := s_w_tidy) l27 c27 k27
  have F28 := fun_mk (st := s_w_added) l28 c28 k28
  have F29 := fun_mk (st := s_w_form_is) l29 c29 k29
  have F30 := fun_mk (st := s_w_lowest) l30 c30 k30
  have F31 := fun_mk (st := s_w_pair_is) l31 c31 k31
  have F32 := fun_mk (st := s_w_value) l32 c32 k32
  have F33 := fun_mk (st := s_w_part) l33 c33 k33
  have F34 := fun_mk (st := s_w_written) l34 c34 k34
  have F35 := fun_mk (st := s_w_right) l35 c35 k35
  have F36 := fun_mk (st := s_w_put) l36 c36 k36
  have F37 := fun_mk (st := s_w_level) l37 c37 k37
  have F38 := fun_mk (st := s_w_put_right) l38 c38 k38
  have F39 := fun_mk (st := s_law) l39 c39 k39
  have e := hfa.symm.trans (PySem.W.mg_of X G a39)
  cases e
  let T : Tx K mg := {
    f_ratio := f0, fd_ratio := _, F_ratio := FD0,
    g_ratio := PySem.W.mg_of X G a0,
    b1_ratio := FD0.binds1 (ps := ["top", "bottom"]) 1 0 (by simp) rfl fun _ _ _ _ _ _ _ us its h1 h2 => match us, its, h1, h2 with | [_], [_], _, _ => ⟨_, rfl, rfl⟩,
    b2_ratio := FD0.binds1 (ps := ["top", "bottom"]) 2 1 (by simp) rfl fun _ _ _ _ _ _ _ us its h1 h2 => match us, its, h1, h2 with | [_, _], [_], _, _ => ⟨_, rfl, rfl⟩,
    f_plus := f1, fd_plus := _, F_plus := F1,
    g_plus := PySem.W.mg_of X G a1,
    b_plus := F1.binds (ps := ["first", "second"]) fun _ _ _ _ _ _ us hl => match us, hl with | [_, _], _ => rfl,
    f_times := f2, fd_times := _, F_times := F2,
    g_times := PySem.W.mg_of X G a2,
    b_times := F2.binds (ps := ["first", "second"]) fun _ _ _ _ _ _ us hl => match us, hl with | [_, _], _ => rfl,
    f_is_quantity := f3, fd_is_quantity := _, F_is_quantity := F3,
    g_is_quantity := PySem.W.mg_of X G a3,
    b_is_quantity := F3.binds (ps := ["text"]) fun _ _ _ _ _ _ us hl => match us, hl with | [_], _ => rfl,
    f_need_levels := f4, fd_need_levels := _, F_need_levels := F4,
    g_need_levels := PySem.W.mg_of X G a4,
    b_need_levels := F4.binds (ps := ["names", "world"]) fun _ _ _ _ _ _ us hl => match us, hl with | [_, _], _ => rfl,
    f_added_terms := f5, fd_added_terms := _, F_added_terms := F5,
    g_added_terms := PySem.W.mg_of X G a5,
    b_added_terms := F5.binds (ps := ["terms"]) fun _ _ _ _ _ _ us hl => match us, hl with | [_], _ => rfl,
    f_weight_of := f6, fd_weight_of := _, F_weight_of := F6,
    g_weight_of := PySem.W.mg_of X G a6,
    b_weight_of := F6.binds (ps := ["terms", "name"]) fun _ _ _ _ _ _ us hl => match us, hl with | [_, _], _ => rfl,
    f_write_term := f7, fd_write_term := _, F_write_term := F7,
    g_write_term := PySem.W.mg_of X G a7,
    b_write_term := F7.binds (ps := ["size", "name"]) fun _ _ _ _ _ _ us hl => match us, hl with | [_, _], _ => rfl,
    f_write_form := f8, fd_write_form := _, F_write_form := F8,
    g_write_form := PySem.W.mg_of X G a8,
    b_write_form := F8.binds (ps := ["terms", "constant"]) fun _ _ _ _ _ _ us hl => match us, hl with | [_, _], _ => rfl,
    e_Form___init := eT9,
    f_Form___init := f9, fd_Form___init := _, F_Form___init := FD9,
    b1_Form___init := FD9.binds1 (ps := ["self", "terms", "constant"]) 1 0 (by simp) rfl fun _ _ _ _ _ _ _ us its h1 h2 => match us, its, h1, h2 with | [_], [_, _], _, _ => ⟨_, rfl, rfl⟩,
    b2_Form___init := FD9.binds1 (ps := ["self", "terms", "constant"]) 2 1 (by simp) rfl fun _ _ _ _ _ _ _ us its h1 h2 => match us, its, h1, h2 with | [_, _], [_, _], _, _ => ⟨_, rfl, rfl⟩,
    b3_Form___init := FD9.binds1 (ps := ["self", "terms", "constant"]) 3 2 (by simp) rfl fun _ _ _ _ _ _ _ us its h1 h2 => match us, its, h1, h2 with | [_, _, _], [_, _], _, _ => ⟨_, rfl, rfl⟩,
    f_Form_names := f10, fd_Form_names := _, F_Form_names := F10,
    b_Form_names := F10.binds (ps := ["self"]) fun _ _ _ _ _ _ us hl => match us, hl with | [_], _ => rfl,
    f_Form_put := f11, fd_Form_put := _, F_Form_put := F11,
    b_Form_put := F11.binds (ps := ["self", "name", "form"]) fun _ _ _ _ _ _ us hl => match us, hl with | [_, _, _], _ => rfl,
    f_Form___call := f12, fd_Form___call := _, F_Form___call := F12,
    b_Form___call := F12.binds (ps := ["self", "world"]) fun _ _ _ _ _ _ us hl => match us, hl with | [_, _], _ => rfl,
    f_Form___add := f13, fd_Form___add := _, F_Form___add := F13,
    b_Form___add := F13.binds (ps := ["self", "other"]) fun _ _ _ _ _ _ us hl => match us, hl with | [_, _], _ => rfl,
    f_Form___sub := f14, fd_Form___sub := _, F_Form___sub := F14,
    b_Form___sub := F14.binds (ps := ["self", "other"]) fun _ _ _ _ _ _ us hl => match us, hl with | [_, _], _ => rfl,
    f_Form___neg := f15, fd_Form___neg := _, F_Form___neg := F15,
    b_Form___neg := F15.binds (ps := ["self"]) fun _ _ _ _ _ _ us hl => match us, hl with | [_], _ => rfl,
    f_Form___mul := f16, fd_Form___mul := _, F_Form___mul := F16,
    b_Form___mul := F16.binds (ps := ["self", "other"]) fun _ _ _ _ _ _ us hl => match us, hl with | [_, _], _ => rfl,
    f_Form___rmul := f17, fd_Form___rmul := _, F_Form___rmul := F17,
    b_Form___rmul := F17.binds (ps := ["self", "other"]) fun _ _ _ _ _ _ us hl => match us, hl with | [_, _], _ => rfl,
    f_Form___eq := f18, fd_Form___eq := _, F_Form___eq := F18,
    b_Form___eq := F18.binds (ps := ["self", "other"]) fun _ _ _ _ _ _ us hl => match us, hl with | [_, _], _ => rfl,
    f_Form___str := f19, fd_Form___str := _, F_Form___str := F19,
    b_Form___str := F19.binds (ps := ["self"]) fun _ _ _ _ _ _ us hl => match us, hl with | [_], _ => rfl,
    f_w_pot := f20, fd_w_pot := _, F_w_pot := F20,
    g_w_pot := PySem.W.mg_of X G a20,
    b_w_pot := F20.binds (ps := ["_law_script"]) fun _ _ _ _ _ _ us hl => match us, hl with | [_], _ => rfl,
    f_w_take := f21, fd_w_take := _, F_w_take := F21,
    g_w_take := PySem.W.mg_of X G a21,
    b_w_take := F21.binds (ps := ["_law_pot_here", "_law_size"]) fun _ _ _ _ _ _ us hl => match us, hl with | [_, _], _ => rfl,
    f_w_whole := f22, fd_w_whole := _, F_w_whole := F22,
    g_w_whole := PySem.W.mg_of X G a22,
    b_w_whole := F22.binds (ps := ["_law_found"]) fun _ _ _ _ _ _ us hl => match us, hl with | [_], _ => rfl,
    f_w_quantity := f23, fd_w_quantity := _, F_w_quantity := F23,
    g_w_quantity := PySem.W.mg_of X G a23,
    b_w_quantity := F23.binds (ps := ["_law_pot_here", "_law_shift"]) fun _ _ _ _ _ _ us hl => match us, hl with | [_, _], _ => rfl,
    f_w_pool := f24, fd_w_pool := _, F_w_pool := F24,
    g_w_pool := PySem.W.mg_of X G a24,
    b_w_pool := F24.binds (ps := ["_law_pot_here", "_law_most"]) fun _ _ _ _ _ _ us hl => match us, hl with | [_, _], _ => rfl,
    f_w_weight := f25, fd_w_weight := _, F_w_weight := F25,
    g_w_weight := PySem.W.mg_of X G a25,
    b_w_weight := F25.binds (ps := ["_law_pot_here"]) fun _ _ _ _ _ _ us hl => match us, hl with | [_], _ => rfl,
    f_w_pairs := f26, fd_w_pairs := _, F_w_pairs := F26,
    g_w_pairs := PySem.W.mg_of X G a26,
    b_w_pairs := F26.binds (ps := ["_law_pot_here", "_law_pool_here"]) fun _ _ _ _ _ _ us hl => match us, hl with | [_, _], _ => rfl,
    f_w_tidy := f27, fd_w_tidy := _, F_w_tidy := F27,
    g_w_tidy := PySem.W.mg_of X G a27,
    b_w_tidy := F27.binds (ps := ["_law_pairs_here", "_law_constant"]) fun _ _ _ _ _ _ us hl => match us, hl with | [_, _], _ => rfl,
    f_w_added := f28, fd_w_added := _, F_w_added := F28,
    g_w_added := PySem.W.mg_of X G a28,
    b_w_added := F28.binds (ps := ["_law_one", "_law_two", "_law_factor"]) fun _ _ _ _ _ _ us hl => match us, hl with | [_, _, _], _ => rfl,
    f_w_form_is := f29, fd_w_form_is := _, F_w_form_is := F29,
    g_w_form_is := PySem.W.mg_of X G a29,
    b_w_form_is := F29.binds (ps := ["_law_found", "_law_due"]) fun _ _ _ _ _ _ us hl => match us, hl with | [_, _], _ => rfl,
    f_w_lowest := f30, fd_w_lowest := _, F_w_lowest := F30,
    g_w_lowest := PySem.W.mg_of X G a30,
    b_w_lowest := F30.binds (ps := ["_law_top", "_law_bottom"]) fun _ _ _ _ _ _ us hl => match us, hl with | [_, _], _ => rfl,
    f_w_pair_is := f31, fd_w_pair_is := _, F_w_pair_is := F31,
    g_w_pair_is := PySem.W.mg_of X G a31,
    b_w_pair_is := F31.binds (ps := ["_law_found", "_law_pair"]) fun _ _ _ _ _ _ us hl => match us, hl with | [_, _], _ => rfl,
    f_w_value := f32, fd_w_value := _, F_w_value := F32,
    g_w_value := PySem.W.mg_of X G a32,
    b_w_value := F32.binds (ps := ["_law_due", "_law_world"]) fun _ _ _ _ _ _ us hl => match us, hl with | [_, _], _ => rfl,
    f_w_part := f33, fd_w_part := _, F_w_part := F33,
    g_w_part := PySem.W.mg_of X G a33,
    b_w_part := F33.binds (ps := ["_law_weight_here", "_law_text"]) fun _ _ _ _ _ _ us hl => match us, hl with | [_, _], _ => rfl,
    f_w_written := f34, fd_w_written := _, F_w_written := F34,
    g_w_written := PySem.W.mg_of X G a34,
    b_w_written := F34.binds (ps := ["_law_due"]) fun _ _ _ _ _ _ us hl => match us, hl with | [_], _ => rfl,
    f_w_right := f35, fd_w_right := _, F_w_right := F35,
    g_w_right := PySem.W.mg_of X G a35,
    b_w_right := F35.binds (ps := ["_law_found", "_law_due"]) fun _ _ _ _ _ _ us hl => match us, hl with | [_, _], _ => rfl,
    f_w_put := f36, fd_w_put := _, F_w_put := F36,
    g_w_put := PySem.W.mg_of X G a36,
    b_w_put := F36.binds (ps := ["_law_one", "_law_text", "_law_other"]) fun _ _ _ _ _ _ us hl => match us, hl with | [_, _, _], _ => rfl,
    f_w_level := f37, fd_w_level := _, F_w_level := F37,
    g_w_level := PySem.W.mg_of X G a37,
    b_w_level := F37.binds (ps := ["_law_pot_here"]) fun _ _ _ _ _ _ us hl => match us, hl with | [_], _ => rfl,
    f_w_put_right := f38, fd_w_put_right := _, F_w_put_right := F38,
    g_w_put_right := PySem.W.mg_of X G a38,
    b_w_put_right := F38.binds (ps := ["_law_first", "_law_one", "_law_text", "_law_other", "_law_due_other", "_law_world"]) fun _ _ _ _ _ _ us hl => match us, hl with | [_, _, _, _, _, _], _ => rfl,
    f_law := fa, fd_law := _, F_law := F39,
    g_law := PySem.W.mg_of X G a39,
    b_law := F39.binds (ps := ["_law_script"]) fun _ _ _ _ _ _ us hl => match us, hl with | [_], _ => rfl,
    m_len := PySem.W.mg_none_of X G z0,
    m_range := PySem.W.mg_none_of X G z1,
    m_isinstance := PySem.W.mg_none_of X G z2,
    m_int := PySem.W.mg_none_of X G z3,
    m_bool := PySem.W.mg_none_of X G z4,
    m_str := PySem.W.mg_none_of X G z5,
    m_list := PySem.W.mg_none_of X G z6,
    m_tuple := PySem.W.mg_none_of X G z7,
    m_dict := PySem.W.mg_none_of X G z8,
    m_abs := PySem.W.mg_none_of X G z9,
    m_max := PySem.W.mg_none_of X G z10,
    m_sum := PySem.W.mg_none_of X G z11,
    m_sorted := PySem.W.mg_none_of X G z12,
    m_all := PySem.W.mg_none_of X G z13,
    m_NotImplemented := PySem.W.mg_none_of X G z14,
    m_ZeroDivisionError := PySem.W.mg_none_of X G z15,
    m_gcd := PySem.W.mg_of X G z16,
    C_Form := C_Form, gC_Form := PySem.W.mg_of X G o0g, oc_Form := ⟨⟨o0a, o0b, o0c, o0d⟩, o0e, o0f, o0h, o0i, o0j⟩,
    na_Form_terms := o0n0,
    na_Form_constant := o0n1,
    mk_Form := ⟨o0k, a9, fn9, o0l⟩,
    me_Form_names := ⟨a10, fn10, k10⟩,
    me_Form_put := ⟨a11, fn11, k11⟩,
    co_Form := ⟨a12, fn12, fi12⟩,
    me_Form___add := ⟨a13, fn13, k13⟩,
    me_Form___sub := ⟨a14, fn14, k14⟩,
    me_Form___neg := ⟨a15, fn15, k15⟩,
    me_Form___mul := ⟨a16, fn16, k16⟩,
    me_Form___rmul := ⟨a17, fn17, k17⟩,
    me_Form___eq := ⟨a18, fn18, k18⟩,
    me_Form___str := ⟨a19, fn19, k19⟩,
    si_Form := o0s, is_Form := o0t,
    rr_Form_mul := ⟨_, o0r_mul⟩, if_mul := o0u_mul, ir_mul := o0v_mul,
    rr_Form_add := ⟨_, o0r_add⟩, if_add := o0u_add, ir_add := o0v_add,
    c_LETTERS := ⟨_, PySem.W.mg_of X G z17⟩,
    c_QUANTITY_SIGNS := ⟨_, PySem.W.mg_of X G z18⟩,
    c_LONGEST_QUANTITY := ⟨_, PySem.W.mg_of X G z19⟩ }
  refine ⟨T.fd_law, fun s v => .of_eq rfl, fun base _ _ => ?_⟩
  exact law_of T
end My
open PySem PySem.W PyProof.Rows
set_option maxHeartbeats 0 in
theorem PySem.Challenge.cw_metehouse_k02_forms_written_and_put_holds : PySem.Challenge.rw_metehouse_k02_forms_written_and_put.Holds := by
  w_on; o_law; k_head; (case hw => w_witness2)
  k_fill
  refine L2.walk_of (l := PySem.Challenge.rw_metehouse_k02_forms_written_and_put) (n := 63) (k := 8) (x := "_law_script") (CX := fun _ => L2.CX0) (sp := fun w => My.spLaw _) rfl (by decide) rfl ⟨rfl, by decide, by decide⟩ (fun w h Y => PySem.W.kIn_of Y) ?F (fun _ _ a ns hl _ hS => ⟨a, ns, rfl, hS, hl, fun _ => rfl⟩) (fun _ _ _ _ _ h => h)
  case F =>
    intro w mg fa h KX G hmg
    refine' My.all_mk KX G hmg ?o0g ?a0 ?l0 ?c0 ?k0 ?d0 ?a1 ?l1 ?c1 ?k1 ?a2 ?l2 ?c2 ?k2 ?a3 ?l3 ?c3 ?k3 ?a4 ?l4 ?c4 ?k4 ?a5 ?l5 ?c5 ?k5 ?a6 ?l6 ?c6 ?k6 ?a7 ?l7 ?c7 ?k7 ?a8 ?l8 ?c8 ?k8 ?a9 ?l9 ?c9 ?k9 ?d9 ?a10 ?l10 ?c10 ?k10 ?a11 ?l11 ?c11 ?k11 ?a12 ?l12 ?c12 ?k12 ?a13 ?l13 ?c13 ?k13 ?a14 ?l14 ?c14 ?k14 ?a15 ?l15 ?c15 ?k15 ?a16 ?l16 ?c16 ?k16 ?a17 ?l17 ?c17 ?k17 ?a18 ?l18 ?c18 ?k18 ?a19 ?l19 ?c19 ?k19 ?a20 ?l20 ?c20 ?k20 ?a21 ?l21 ?c21 ?k21 ?a22 ?l22 ?c22 ?k22 ?a23 ?l23 ?c23 ?k23 ?a24 ?l24 ?c24 ?k24 ?a25 ?l25 ?c25 ?k25 ?a26 ?l26 ?c26 ?k26 ?a27 ?l27 ?c27 ?k27 ?a28 ?l28 ?c28 ?k28 ?a29 ?l29 ?c29 ?k29 ?a30 ?l30 ?c30 ?k30 ?a31 ?l31 ?c31 ?k31 ?a32 ?l32 ?c32 ?k32 ?a33 ?l33 ?c33 ?k33 ?a34 ?l34 ?c34 ?k34 ?a35 ?l35 ?c35 ?k35 ?a36 ?l36 ?c36 ?k36 ?a37 ?l37 ?c37 ?k37 ?a38 ?l38 ?c38 ?k38 ?a39 ?l39 ?c39 ?k39 ?z0 ?z1 ?z2 ?z3 ?z4 ?z5 ?z6 ?z7 ?z8 ?z9 ?z10 ?z11 ?z12 ?z13 ?z14 ?z15 ?z16 ?o0a ?o0b ?o0c ?o0d ?o0e ?o0f ?o0h ?o0i ?o0j ?o0n0 ?o0n1 ?o0k ?o0l ?fn9 ?fn10 ?fn11 ?fn12 ?fi12 ?fn13 ?fn14 ?fn15 ?fn16 ?fn17 ?fn18 ?fn19 ?o0s ?o0t ?o0r_mul ?o0u_mul ?o0v_mul ?o0r_add ?o0u_add ?o0v_add ?z17 ?z18 ?z19
    (case o0g => k_is)
    (case a0 => k_is)
    (case l0 => k_is)
    (case c0 => k_is)
    (case k0 => k_is)
    (case d0 => k_is)
    (case a1 => k_is)
    (case l1 => k_is)
    (case c1 => k_is)
    (case k1 => k_is)
    (case a2 => k_is)
    (case l2 => k_is)
    (case c2 => k_is)
    (case k2 => k_is)
    (case a3 => k_is)
    (case l3 => k_is)
    (case c3 => k_is)
    (case k3 => k_is)
    (case a4 => k_is)
    (case l4 => k_is)
    (case c4 => k_is)
    (case k4 => k_is)
    (case a5 => k_is)
    (case l5 => k_is)
    (case c5 => k_is)
    (case k5 => k_is)
    (case a6 => k_is)
    (case l6 => k_is)
    (case c6 => k_is)
    (case k6 => k_is)
    (case a7 => k_is)
    (case l7 => k_is)
    (case c7 => k_is)
    (case k7 => k_is)
    (case a8 => k_is)
    (case l8 => k_is)
    (case c8 => k_is)
    (case k8 => k_is)
    (case a9 => k_is)
    (case l9 => k_is)
    (case c9 => k_is)
    (case k9 => k_is)
    (case d9 => k_is)
    (case a10 => k_is)
    (case l10 => k_is)
    (case c10 => k_is)
    (case k10 => k_is)
    (case a11 => k_is)
    (case l11 => k_is)
    (case c11 => k_is)
    (case k11 => k_is)
    (case a12 => k_is)
    (case l12 => k_is)
    (case c12 => k_is)
    (case k12 => k_is)
    (case a13 => k_is)
    (case l13 => k_is)
    (case c13 => k_is)
    (case k13 => k_is)
    (case a14 => k_is)
    (case l14 => k_is)
    (case c14 => k_is)
    (case k14 => k_is)
    (case a15 => k_is)
    (case l15 => k_is)
    (case c15 => k_is)
    (case k15 => k_is)
    (case a16 => k_is)
    (case l16 => k_is)
    (case c16 => k_is)
    (case k16 => k_is)
    (case a17 => k_is)
    (case l17 => k_is)
    (case c17 => k_is)
    (case k17 => k_is)
    (case a18 => k_is)
    (case l18 => k_is)
    (case c18 => k_is)
    (case k18 => k_is)
    (case a19 => k_is)
    (case l19 => k_is)
    (case c19 => k_is)
    (case k19 => k_is)
    (case a20 => k_is)
    (case l20 => k_is)
    (case c20 => k_is)
    (case k20 => k_is)
    (case a21 => k_is)
    (case l21 => k_is)
    (case c21 => k_is)
    (case k21 => k_is)
    (case a22 => k_is)
    (case l22 => k_is)
    (case c22 => k_is)
    (case k22 => k_is)
    (case a23 => k_is)
    (case l23 => k_is)
    (case c23 => k_is)
    (case k23 => k_is)
    (case a24 => k_is)
    (case l24 => k_is)
    (case c24 => k_is)
    (case k24 => k_is)
    (case a25 => k_is)
    (case l25 => k_is)
    (case c25 => k_is)
    (case k25 => k_is)
    (case a26 => k_is)
    (case l26 => k_is)
    (case c26 => k_is)
    (case k26 => k_is)
    (case a27 => k_is)
    (case l27 => k_is)
    (case c27 => k_is)
    (case k27 => k_is)
    (case a28 => k_is)
    (case l28 => k_is)
    (case c28 => k_is)
    (case k28 => k_is)
    (case a29 => k_is)
    (case l29 => k_is)
    (case c29 => k_is)
    (case k29 => k_is)
    (case a30 => k_is)
    (case l30 => k_is)
    (case c30 => k_is)
    (case k30 => k_is)
    (case a31 => k_is)
    (case l31 => k_is)
    (case c31 => k_is)
    (case k31 => k_is)
    (case a32 => k_is)
    (case l32 => k_is)
    (case c32 => k_is)
    (case k32 => k_is)
    (case a33 => k_is)
    (case l33 => k_is)
    (case c33 => k_is)
    (case k33 => k_is)
    (case a34 => k_is)
    (case l34 => k_is)
    (case c34 => k_is)
    (case k34 => k_is)
    (case a35 => k_is)
    (case l35 => k_is)
    (case c35 => k_is)
    (case k35 => k_is)
    (case a36 => k_is)
    (case l36 => k_is)
    (case c36 => k_is)
    (case k36 => k_is)
    (case a37 => k_is)
    (case l37 => k_is)
    (case c37 => k_is)
    (case k37 => k_is)
    (case a38 => k_is)
    (case l38 => k_is)
    (case c38 => k_is)
    (case k38 => k_is)
    (case a39 => k_is)
    (case l39 => k_is)
    (case c39 => k_is)
    (case k39 => k_is)
    (case z0 => k_is)
    (case z1 => k_is)
    (case z2 => k_is)
    (case z3 => k_is)
    (case z4 => k_is)
    (case z5 => k_is)
    (case z6 => k_is)
    (case z7 => k_is)
    (case z8 => k_is)
    (case z9 => k_is)
    (case z10 => k_is)
    (case z11 => k_is)
    (case z12 => k_is)
    (case z13 => k_is)
    (case z14 => k_is)
    (case z15 => k_is)
    (case z16 => k_is)
    (case o0a => k_is)
    (case o0b => k_is)
    (case o0c => k_is)
    (case o0d => k_is)
    (case o0e => k_is)
    (case o0f => k_is)
    (case o0h => k_is)
    (case o0i => k_is)
    (case o0j => k_is)
    (case o0n0 => k_is)
    (case o0n1 => k_is)
    (case o0k => k_is)
    (case o0l => k_is)
    (case fn9 => k_is)
    (case fn10 => k_is)
    (case fn11 => k_is)
    (case fn12 => k_is)
    (case fi12 => k_is)
    (case fn13 => k_is)
    (case fn14 => k_is)
    (case fn15 => k_is)
    (case fn16 => k_is)
    (case fn17 => k_is)
    (case fn18 => k_is)
    (case fn19 => k_is)
    (case o0s => k_is)
    (case o0t => k_is)
    (case o0r_mul => k_is)
    (case o0u_mul => k_is)
    (case o0v_mul => k_is)
    (case o0r_add => k_is)
    (case o0u_add => k_is)
    (case o0v_add => k_is)
    (case z17 => k_is)
    (case z18 => k_is)
    (case z19 => k_is)
