import PyProof.Rows.All
import Wide.All
import OpenK.AllK
import Wide.FinOn
import HandS.ForMost
import HandS.Exc
import HandS.TryOnly
import HandS.ExcOwn
import HandS.ExcBuiltin
import HandS.WordsExc
import HandS.IsInst
import HandS.Defaults
import HandS.Star
import HandS.Flow
import HandS.Wide
import HandS.Gcd
import HandS.Evl
import HandS.CallSlots
import KE.KExcSuper
import HandS.ExcInit
import HandS.FStr
import HandS.ExcIs
import HandS.ExcField
import KE.KExcIs
import KE.KOpsOwn
import KE.KCallOwn
import HandS.OwnEq
import PyProof.ListMulRight
import HandS.Codes
import HandS.SlotsOwn
import PyProof.Rows.TmSorted
import PyProof.Rows.StrMeet
import HandS.Walk
import HandS.RaiseMore
import HandS.TupAny
import HandS.Conv
import PyProof.Rows.StrDigitsNeg
import HandS.Zip
import HandS.DictComp
import PySem.Challenge.RW_metehouse_k05_rows_held_and_closed
set_option Elab.async false
set_option linter.all false
set_option maxRecDepth 100000
set_option maxHeartbeats 4000000
namespace My
open PySem PySem.Spec PyProof.Rows L2 StX
/-! ### rules of my own -/
section
variable {X : Cx}
/-- floor division by any divisor that is not 0, below 2 ^ 9000 in size -/
theorem op_fdivWN : OpR X (binaryOp .FloorDiv) (rI (fun _ j => j ≠ 0 ∧ j.natAbs.log2 < 9000) fun i j => .int (i.fdiv j)) :=
  opI fun _ _ _ _ _ _ _ hc q => floordiv_int hc.1 q (.inl (PyProof.noPylong_of_log2 hc.2))
theorem op_mulG : OpR X (binaryOp .Mult) (rI (fun i j => CMul i j ∨ CMulW i j) fun i j => .int (i * j)) := opI fun _ _ _ _ _ _ _ hc q => mul_int q (hc.elim CMul.ok CMulW.ok)
variable {CX : CXT} {k : Nat} {f : Addr} {sp : Sp} {E : XK} {x : Str} {p pos : Pos} {e : Expr} {es : List Expr} {t : TA}
/-- a call of a def whose promise is told raw -/
theorem pe_callR (F : FnR X.prog X.w X.K X.mg X.base CX k f sp) (hr : Room k X.A) (hg : Gl X x) (hm : X.mg x = some (.ref f)) (hk : PySem.W.keepIn X.K (.ref f) = true) (hx : Passes CX X E)
    (ha : PA X (e :: es) t) (hdb : (x == ("__debug__" : Str)) = false := by decide) (he : starEach (e :: es) X.env = (false, eval e X.env) :: starEach es X.env := by rfl) (hpl : (backTo pos (starEach es X.env)).any (·.1) = false := by rfl) :
    PE X (.Call (.Name x p) (e :: es) [] pos) (fun σ H Q => t σ H fun vs H1 => sp vs H1 Q E) := by
  refine ⟨fun pins s σ H Q I h => ?_⟩
  refine wpAny_Call_Name_kw (ld_glob I hg hm ?_ hdb)
  refine PySem.W.callWith_K (h₀ := X.base) I.ok.mod.kin hk (thn (ha.run pos pins s σ H _ I h) fun us s1 ⟨vs, H1, I1, r, q⟩ => ⟨I1.kIn, ?_⟩) he hpl
  exact wpAny_call (run_fnR F hr hx I1 r q)
theorem pe_callR0 (F : FnR X.prog X.w X.K X.mg X.base CX k f sp) (hr : Room k X.A) (hg : Gl X x) (hm : X.mg x = some (.ref f)) (hk : PySem.W.keepIn X.K (.ref f) = true) (hx : Passes CX X E)
    (hdb : (x == ("__debug__" : Str)) = false := by decide) : PE X (.Call (.Name x p) [] [] pos) (fun σ H Q => sp [] H Q E) := by
  refine ⟨fun pins s σ H Q I h => ?_⟩
  refine wpAny_Call_Name_kw (ld_glob I hg hm ?_ hdb)
  exact PySem.W.callWith_K0 I.kIn hk (wpAny_call (run_fnR (us := []) F hr hx I .nil h))
end
section
variable {P : Program} {w : World} {K : PySem.W.Frag} {mg : Str → Option Value} {base : Heap}
/-- def f(a, .., *v) that lets nothing out -/
theorem Fun.okStar {x qual : Str} {st : Stmt} {f : Addr} {fd : FuncData} {N ps : List Str} {pv : Str} {k : Nat} {sp : Sp} (F : Fun K x qual st f fd) (S : FnScope N (ps ++ [pv]) (defScope st))
    (hb : ∀ (kV doc pm : Value) (an : Option Addr) (cdv ct : Value) (us rest : List Value), us.length = ps.length → bindArgs (PySem.W.fnOf x qual (defArgs st) (defBody st) (defScope st) .none kV doc pm an cdv ct) ⟨us ++ rest, []⟩ = (newTuple rest >>= fun t => pure (ps.zip us ++ [(pv, t)])))
    (hbody : ∀ (cdv : Value) (A : Around) (outer : List Env) (s : Shared) (H : Hp) (vs : List V) (Q : VK) (E : XK), Room k (A.deeper (envOfC qual (defScope st) s.heap.objs.size f cdv)) → sp vs H Q E →
      ∃ t, PSs (cxOf CX0 P w K mg base N qual (defScope st) f cdv A outer s H E).nox (defBody st) t ∧ t { nx := fun _ H' => Q .non H', rt := Q } (start N vs) H) :
    FnR P w K mg base CX0 (k + 1) f (fun vs H Q E => ∃ ws rest, vs = ws ++ rest ∧ ws.length = ps.length ∧ rest.length ≤ sizeLine ∧ ∀ p, H p = Option.none → sp (ws ++ [V.ref p]) (upd H p (.tup rest)) Q E) := by
  obtain ⟨oc, od, kV, doc, pm, an, cdv, ct, osl, rfl, lk, hcd⟩ := F.ex
  refine fn_star lk hcd S cxUp_none (hb kV doc pm an cdv ct) fun A outer s H vs Q E hr hsp => ?_
  obtain ⟨t, h, q⟩ := hbody cdv A outer s H vs Q E hr hsp
  exact ⟨t, h.nox, q⟩
end
/-! ### heaps: what is kept but at some addresses -/
def Keep (M : List Addr) (H H' : Hp) : Prop := ∀ b o, b ∉ M → H b = some o → H' b = some o
theorem Keep.refl (M : List Addr) (H : Hp) : Keep M H H := fun _ _ _ h => h
theorem Keep.trans {M : List Addr} {H H1 H2 : Hp} (a : Keep M H H1) (b : Keep M H1 H2) : Keep M H H2 := fun c o n h => b c o n (a c o n h)
theorem Keep.new {M : List Addr} {H : Hp} {p : Addr} {o : HO} (h : H p = none) : Keep M H (upd H p o) := fun b u _ e => by
  rw [upd_ne (ne_of_none e h)]; exact e
theorem Keep.at {M : List Addr} {H : Hp} {p : Addr} {o : HO} (h : p ∈ M) : Keep M H (upd H p o) := fun b u n e => by
  rw [upd_ne (fun z => n (by rw [z]; exact h))]; exact e
/-- an object that H does not know may change -/
theorem Keep.mut {M : List Addr} {H H' : Hp} {p : Addr} {o : HO} (e : Keep M H H') (h : H p = none) : Keep M H (upd H' p o) := fun b u n hb => by
  rw [upd_ne (ne_of_none hb h)]; exact e b u n hb
theorem Keep.mono {M N : List Addr} {H H' : Hp} (e : Keep M H H') (h : ∀ a ∈ M, a ∈ N) : Keep N H H' := fun b o n hb => e b o (fun z => n (h b z)) hb
theorem Keep.rd {M : List Addr} {H H' : Hp} {a : Addr} {u : HO} (e : Keep M H H') (n : a ∉ M) (h : Rd H a u) : Rd H' a u := by
  rcases h with h | ⟨o, h⟩
  · exact Or.inl (e a _ n h)
  · exact Or.inr ⟨o, e a _ n h⟩
theorem Keep.l {M : List Addr} {K : PySem.W.Frag} {H H' : Hp} {a : Addr} {xs : List V} (e : Keep M H H') (n : a ∉ M) (h : SqL K H a xs) : SqL K H' a xs := by
  rcases h with h | h
  · exact Or.inl (e.rd n h)
  · exact Or.inr h
theorem Keep.t {M : List Addr} {K : PySem.W.Frag} {H H' : Hp} {a : Addr} {xs : List V} (e : Keep M H H') (n : a ∉ M) (h : SqT K H a xs) : SqT K H' a xs := by
  rcases h with h | h
  · exact Or.inl (e.rd n h)
  · exact Or.inr h
theorem Keep.free {M : List Addr} {H H' : Hp} (e : Keep M H H') {l : Addr} (n : l ∉ M) (h : H' l = Option.none) : H l = Option.none := by
  cases q : H l with
  | none => rfl
  | some o => rw [e l o n q] at h; cases h
/-- an address that is untracked later, though tracked addresses stay (M's own, too) -/
theorem ne_free {H : Hp} {a p : Addr} {o : HO} (h : H a = some o) (n : H p = none) : p ≠ a := fun e => by rw [e, h] at n; cases n
theorem sqL_of {K : PySem.W.Frag} {H : Hp} {a : Addr} {xs : List V} (h : H a = some (.lst xs)) : SqL K H a xs := Or.inl (Or.inl h)
theorem sqT_of {K : PySem.W.Frag} {H : Hp} {a : Addr} {xs : List V} (h : H a = some (.tup xs)) : SqT K H a xs := Or.inl (Or.inl h)
theorem le_size {n : Nat} (h : n ≤ 100000) : n ≤ sizeLine := Nat.le_trans h (by decide)
theorem lt_size {n : Nat} (h : n < 100000) : n < sizeLine := Nat.lt_of_lt_of_le h (by decide)
theorem ixN_nn {n j : Nat} (h : j < n) : ixN n (j : Int) = some j := by
  unfold ixN; rw [if_pos (by omega), if_pos (by omega), Int.toNat_natCast]
theorem cxOf_K {CX : CXT} {P : Program} {w : World} {K : PySem.W.Frag} {mg : Str → Option Value} {base : Heap} {N : List Str} {qual : Str} {scope : Scope} {f : Addr} {cd : Value} {A : Around} {outer : List Env} {s : Shared} {H : Hp} {E : XK} :
    (cxOf CX P w K mg base N qual scope f cd A outer s H E).K = K := rfl
/-! ### readings, by the head of their terms -/
section
variable {K : PySem.W.Frag} {σ : L2.St} {H : Hp} {Q : VK} {QA : List V → Hp → Prop} {QB : Bool → Hp → Prop} {QO : Option Int → Hp → Prop} {D : Ends} {ta tb te tc : TE} {t u : TT} {ts tr : TS} {r : R2} {v x y : V} {G : TG} {tas : TA}
theorem r_nxE {a b d : L2.St → Hp → Prop} {c : VK} (k : a σ H) : Ends.nx ⟨a, c, b, d⟩ σ H := k
theorem r_bkE {a b d : L2.St → Hp → Prop} {c : VK} (k : b σ H) : Ends.bk ⟨a, c, b, d⟩ σ H := k
theorem r_ctE {a b d : L2.St → Hp → Prop} {c : VK} (k : d σ H) : Ends.ct ⟨a, c, b, d⟩ σ H := k
theorem r_rtE {a b d : L2.St → Hp → Prop} {c : VK} (k : c v H) : Ends.rt ⟨a, c, b, d⟩ v H := k
theorem r_var {i : Nat} (h : σ[i]? = some (some v)) (k : Q v H) : tVar i σ H Q := ⟨v, h, k⟩
theorem r_c (k : Q v H) : tC v σ H Q := k
theorem r_op (k : ta σ H fun x H1 => tb σ H1 fun y H2 => r x y H2 Q) : tOp r ta tb σ H Q := k
theorem r_un {r : V → Hp → VK → Prop} (k : ta σ H fun x H1 => r x H1 Q) : tUn r ta σ H Q := k
theorem r_I0 {g : Int → Int → V} {i j : Int} (k : Q (g i j) H) : rI0 g (.int i) (.int j) H Q := ⟨i, j, rfl, rfl, k⟩
theorem r_I {C : Int → Int → Prop} {g : Int → Int → V} {i j : Int} (c : C i j) (k : Q (g i j) H) : rI C g (.int i) (.int j) H Q := ⟨i, j, rfl, rfl, c, k⟩
theorem r_U {g : Int → V} {i : Int} (k : Q (g i) H) : rU g (.int i) H Q := ⟨i, rfl, k⟩
theorem dec_int {i j : Int} : decide (V.int i = V.int j) = decide (i = j) := by
  by_cases h : i = j
  · subst h; simp
  · rw [decide_eq_false h, decide_eq_false (fun e => h (V.int.inj e))]
theorem dec_str {i j : Str} : decide (V.str i = V.str j) = decide (i = j) := by
  by_cases h : i = j
  · subst h; simp
  · rw [decide_eq_false h, decide_eq_false (fun e => h (V.str.inj e))]
theorem dec_bl {i j : Bool} : decide (V.bl i = V.bl j) = decide (i = j) := by
  by_cases h : i = j
  · subst h; simp
  · rw [decide_eq_false h, decide_eq_false (fun e => h (V.bl.inj e))]
theorem r_eqI {i j : Int} (k : Q (.bl (decide (i = j))) H) : rEq (.int i) (.int j) H Q := ⟨rfl, by rw [dec_int]; exact k⟩
theorem r_neI {i j : Int} (k : Q (.bl (!decide (i = j))) H) : rNe (.int i) (.int j) H Q := ⟨rfl, by rw [dec_int]; exact k⟩
theorem r_eqS {i j : Str} (k : Q (.bl (decide (i = j))) H) : rEq (.str i) (.str j) H Q := ⟨rfl, by rw [dec_str]; exact k⟩
theorem r_neS {i j : Str} (k : Q (.bl (!decide (i = j))) H) : rNe (.str i) (.str j) H Q := ⟨rfl, by rw [dec_str]; exact k⟩
theorem r_eqB {i j : Bool} (k : Q (.bl (decide (i = j))) H) : rEq (.bl i) (.bl j) H Q := ⟨rfl, by rw [dec_bl]; exact k⟩
theorem r_neB {i j : Bool} (k : Q (.bl (!decide (i = j))) H) : rNe (.bl i) (.bl j) H Q := ⟨rfl, by rw [dec_bl]; exact k⟩
theorem r_test (k : te σ H fun x H' => ∃ k, x = .bl k ∧ QB k H') : tTest te σ H QB := k
theorem r_tB (k : te σ H fun x H' => ∃ k, x = .bl k ∧ QB k H') : tB te σ H QB := k
theorem r_bl {b : Bool} {P : Bool → Prop} (k : P b) : ∃ c, V.bl b = .bl c ∧ P c := ⟨b, rfl, k⟩
theorem r_and (k : t σ H fun c H1 => if c = true then u σ H1 QB else QB false H1) : tAnd t u σ H QB := k
theorem r_or (k : t σ H fun c H1 => if c = true then QB true H1 else u σ H1 QB) : tOr t u σ H QB := k
theorem r_not (k : t σ H fun c H1 => QB (!c) H1) : tNot t σ H QB := k
theorem r_andV (k : ta σ H fun x H1 => ∃ c, x = .bl c ∧ if c = true then tb σ H1 Q else Q (.bl false) H1) : tAndV ta tb σ H Q := k
theorem r_orV (k : ta σ H fun x H1 => ∃ c, x = .bl c ∧ if c = true then Q (.bl true) H1 else tb σ H1 Q) : tOrV ta tb σ H Q := k
theorem r_notV (k : ta σ H fun x H1 => ∃ c, x = .bl c ∧ Q (.bl (!c)) H1) : tNotV ta σ H Q := k
theorem r_if (k : t σ H fun c H1 => if c = true then ta σ H1 Q else tb σ H1 Q) : tIf t ta tb σ H Q := k
theorem r_chain {r' : R2} (k : ta σ H fun x H1 => tb σ H1 fun y H2 => r x y H2 fun z H3 => ∃ k, z = .bl k ∧ (if k = true then tc σ H3 fun w' H4 => r' y w' H4 Q else Q (.bl false) H3)) : tChain r r' ta tb tc σ H Q := k
theorem r_seq (k : ts { D with nx := tr D } σ H) : tSeq ts tr D σ H := k
theorem r_asg (k : te σ H fun x H1 => G x σ H1 D.nx) : tAsg te G D σ H := k
theorem r_gName {i : Nat} {Q : L2.St → Hp → Prop} (k : Q (σ.set i (some v)) H) : gName i v σ H Q := k
theorem r_gName0 {x0 : Option V} {Q : L2.St → Hp → Prop} (k : Q (some v :: σ) H) : gName 0 v (x0 :: σ) H Q := k
theorem r_gName1 {x0 x1 : Option V} {Q : L2.St → Hp → Prop} (k : Q (x0 :: some v :: σ) H) : gName 1 v (x0 :: x1 :: σ) H Q := k
theorem r_gName2 {x0 x1 x2 : Option V} {Q : L2.St → Hp → Prop} (k : Q (x0 :: x1 :: some v :: σ) H) : gName 2 v (x0 :: x1 :: x2 :: σ) H Q := k
theorem r_gName3 {x0 x1 x2 x3 : Option V} {Q : L2.St → Hp → Prop} (k : Q (x0 :: x1 :: x2 :: some v :: σ) H) : gName 3 v (x0 :: x1 :: x2 :: x3 :: σ) H Q := k
theorem r_gName4 {x0 x1 x2 x3 x4 : Option V} {Q : L2.St → Hp → Prop} (k : Q (x0 :: x1 :: x2 :: x3 :: some v :: σ) H) : gName 4 v (x0 :: x1 :: x2 :: x3 :: x4 :: σ) H Q := k
theorem r_gName5 {x0 x1 x2 x3 x4 x5 : Option V} {Q : L2.St → Hp → Prop} (k : Q (x0 :: x1 :: x2 :: x3 :: x4 :: some v :: σ) H) : gName 5 v (x0 :: x1 :: x2 :: x3 :: x4 :: x5 :: σ) H Q := k
theorem r_gName6 {x0 x1 x2 x3 x4 x5 x6 : Option V} {Q : L2.St → Hp → Prop} (k : Q (x0 :: x1 :: x2 :: x3 :: x4 :: x5 :: some v :: σ) H) : gName 6 v (x0 :: x1 :: x2 :: x3 :: x4 :: x5 :: x6 :: σ) H Q := k
theorem r_gName7 {x0 x1 x2 x3 x4 x5 x6 x7 : Option V} {Q : L2.St → Hp → Prop} (k : Q (x0 :: x1 :: x2 :: x3 :: x4 :: x5 :: x6 :: some v :: σ) H) : gName 7 v (x0 :: x1 :: x2 :: x3 :: x4 :: x5 :: x6 :: x7 :: σ) H Q := k
theorem r_gName8 {x0 x1 x2 x3 x4 x5 x6 x7 x8 : Option V} {Q : L2.St → Hp → Prop} (k : Q (x0 :: x1 :: x2 :: x3 :: x4 :: x5 :: x6 :: x7 :: some v :: σ) H) : gName 8 v (x0 :: x1 :: x2 :: x3 :: x4 :: x5 :: x6 :: x7 :: x8 :: σ) H Q := k
theorem r_gName9 {x0 x1 x2 x3 x4 x5 x6 x7 x8 x9 : Option V} {Q : L2.St → Hp → Prop} (k : Q (x0 :: x1 :: x2 :: x3 :: x4 :: x5 :: x6 :: x7 :: x8 :: some v :: σ) H) : gName 9 v (x0 :: x1 :: x2 :: x3 :: x4 :: x5 :: x6 :: x7 :: x8 :: x9 :: σ) H Q := k
theorem r_gName10 {x0 x1 x2 x3 x4 x5 x6 x7 x8 x9 x10 : Option V} {Q : L2.St → Hp → Prop} (k : Q (x0 :: x1 :: x2 :: x3 :: x4 :: x5 :: x6 :: x7 :: x8 :: x9 :: some v :: σ) H) : gName 10 v (x0 :: x1 :: x2 :: x3 :: x4 :: x5 :: x6 :: x7 :: x8 :: x9 :: x10 :: σ) H Q := k
theorem r_gName11 {x0 x1 x2 x3 x4 x5 x6 x7 x8 x9 x10 x11 : Option V} {Q : L2.St → Hp → Prop} (k : Q (x0 :: x1 :: x2 :: x3 :: x4 :: x5 :: x6 :: x7 :: x8 :: x9 :: x10 :: some v :: σ) H) : gName 11 v (x0 :: x1 :: x2 :: x3 :: x4 :: x5 :: x6 :: x7 :: x8 :: x9 :: x10 :: x11 :: σ) H Q := k
theorem r_gName12 {x0 x1 x2 x3 x4 x5 x6 x7 x8 x9 x10 x11 x12 : Option V} {Q : L2.St → Hp → Prop} (k : Q (x0 :: x1 :: x2 :: x3 :: x4 :: x5 :: x6 :: x7 :: x8 :: x9 :: x10 :: x11 :: some v :: σ) H) : gName 12 v (x0 :: x1 :: x2 :: x3 :: x4 :: x5 :: x6 :: x7 :: x8 :: x9 :: x10 :: x11 :: x12 :: σ) H Q := k
theorem r_gName13 {x0 x1 x2 x3 x4 x5 x6 x7 x8 x9 x10 x11 x12 x13 : Option V} {Q : L2.St → Hp → Prop} (k : Q (x0 :: x1 :: x2 :: x3 :: x4 :: x5 :: x6 :: x7 :: x8 :: x9 :: x10 :: x11 :: x12 :: some v :: σ) H) : gName 13 v (x0 :: x1 :: x2 :: x3 :: x4 :: x5 :: x6 :: x7 :: x8 :: x9 :: x10 :: x11 :: x12 :: x13 :: σ) H Q := k
theorem r_gName14 {x0 x1 x2 x3 x4 x5 x6 x7 x8 x9 x10 x11 x12 x13 x14 : Option V} {Q : L2.St → Hp → Prop} (k : Q (x0 :: x1 :: x2 :: x3 :: x4 :: x5 :: x6 :: x7 :: x8 :: x9 :: x10 :: x11 :: x12 :: x13 :: some v :: σ) H) : gName 14 v (x0 :: x1 :: x2 :: x3 :: x4 :: x5 :: x6 :: x7 :: x8 :: x9 :: x10 :: x11 :: x12 :: x13 :: x14 :: σ) H Q := k
theorem r_gName15 {x0 x1 x2 x3 x4 x5 x6 x7 x8 x9 x10 x11 x12 x13 x14 x15 : Option V} {Q : L2.St → Hp → Prop} (k : Q (x0 :: x1 :: x2 :: x3 :: x4 :: x5 :: x6 :: x7 :: x8 :: x9 :: x10 :: x11 :: x12 :: x13 :: x14 :: some v :: σ) H) : gName 15 v (x0 :: x1 :: x2 :: x3 :: x4 :: x5 :: x6 :: x7 :: x8 :: x9 :: x10 :: x11 :: x12 :: x13 :: x14 :: x15 :: σ) H Q := k
theorem r_gName16 {x0 x1 x2 x3 x4 x5 x6 x7 x8 x9 x10 x11 x12 x13 x14 x15 x16 : Option V} {Q : L2.St → Hp → Prop} (k : Q (x0 :: x1 :: x2 :: x3 :: x4 :: x5 :: x6 :: x7 :: x8 :: x9 :: x10 :: x11 :: x12 :: x13 :: x14 :: x15 :: some v :: σ) H) : gName 16 v (x0 :: x1 :: x2 :: x3 :: x4 :: x5 :: x6 :: x7 :: x8 :: x9 :: x10 :: x11 :: x12 :: x13 :: x14 :: x15 :: x16 :: σ) H Q := k
theorem r_gName17 {x0 x1 x2 x3 x4 x5 x6 x7 x8 x9 x10 x11 x12 x13 x14 x15 x16 x17 : Option V} {Q : L2.St → Hp → Prop} (k : Q (x0 :: x1 :: x2 :: x3 :: x4 :: x5 :: x6 :: x7 :: x8 :: x9 :: x10 :: x11 :: x12 :: x13 :: x14 :: x15 :: x16 :: some v :: σ) H) : gName 17 v (x0 :: x1 :: x2 :: x3 :: x4 :: x5 :: x6 :: x7 :: x8 :: x9 :: x10 :: x11 :: x12 :: x13 :: x14 :: x15 :: x16 :: x17 :: σ) H Q := k
theorem r_gName18 {x0 x1 x2 x3 x4 x5 x6 x7 x8 x9 x10 x11 x12 x13 x14 x15 x16 x17 x18 : Option V} {Q : L2.St → Hp → Prop} (k : Q (x0 :: x1 :: x2 :: x3 :: x4 :: x5 :: x6 :: x7 :: x8 :: x9 :: x10 :: x11 :: x12 :: x13 :: x14 :: x15 :: x16 :: x17 :: some v :: σ) H) : gName 18 v (x0 :: x1 :: x2 :: x3 :: x4 :: x5 :: x6 :: x7 :: x8 :: x9 :: x10 :: x11 :: x12 :: x13 :: x14 :: x15 :: x16 :: x17 :: x18 :: σ) H Q := k
theorem r_gName19 {x0 x1 x2 x3 x4 x5 x6 x7 x8 x9 x10 x11 x12 x13 x14 x15 x16 x17 x18 x19 : Option V} {Q : L2.St → Hp → Prop} (k : Q (x0 :: x1 :: x2 :: x3 :: x4 :: x5 :: x6 :: x7 :: x8 :: x9 :: x10 :: x11 :: x12 :: x13 :: x14 :: x15 :: x16 :: x17 :: x18 :: some v :: σ) H) : gName 19 v (x0 :: x1 :: x2 :: x3 :: x4 :: x5 :: x6 :: x7 :: x8 :: x9 :: x10 :: x11 :: x12 :: x13 :: x14 :: x15 :: x16 :: x17 :: x18 :: x19 :: σ) H Q := k
theorem r_ret (k : te σ H D.rt) : tRet te D σ H := k
theorem r_retN (k : D.rt .non H) : tRetN D σ H := k
theorem r_drop (k : te σ H fun _ H1 => D.nx σ H1) : tDrop te D σ H := k
theorem r_ifS (k : t σ H fun b H1 => if b = true then ts D σ H1 else tr D σ H1) : tIfS t ts tr D σ H := k
theorem r_next (k : D.nx σ H) : tNext D σ H := k
theorem r_cont (k : D.ct σ H) : tCont D σ H := k
theorem r_break (k : D.bk σ H) : tBreak D σ H := k
theorem r_cb {r : List V → Hp → VK → Prop} (k : tas σ H fun vs H1 => r vs H1 Q) : tCB r tas σ H Q := k
theorem r_cons (k : ta σ H fun x H1 => tas σ H1 fun xs H2 => QA (x :: xs) H2) : tCons ta tas σ H QA := k
theorem r_nil (k : QA [] H) : tNil σ H QA := k
theorem r_call {sp : Sp} {dvs : List V} {E : XK} (k : tas σ H fun vs H1 => sp (vs ++ dvs) H1 Q E) : tCall sp dvs E tas σ H Q := k
theorem r_lst (k : tas σ H fun xs H1 => xs.length ≤ sizeLine ∧ ∀ p, H1 p = none → Q (.ref p) (upd H1 p (.lst xs))) : tLst tas σ H Q := k
theorem r_tup (k : tas σ H fun xs H1 => xs.length ≤ sizeLine ∧ ∀ p, H1 p = none → Q (.ref p) (upd H1 p (.tup xs))) : tTup tas σ H Q := k
theorem r_ixL {p : Addr} {xs : List V} {i : Int} (h : SqL K H p xs) (h2 : atI xs i = some v) (k : Q v H) : rIxL K (.ref p) (.int i) H Q := ⟨p, xs, i, v, rfl, rfl, h, h2, k⟩
theorem r_ixT {p : Addr} {xs : List V} {i : Int} (h : SqT K H p xs) (h2 : atI xs i = some v) (k : Q v H) : rIxT K (.ref p) (.int i) H Q := ⟨p, xs, i, v, rfl, rfl, h, h2, k⟩
theorem r_gSub {to ti : TE} {s : TSet} {Q : L2.St → Hp → Prop} (k : to σ H fun o H1 => ti σ H1 fun i H2 => s o i v H2 fun H3 => Q σ H3) : gSub to ti s v σ H Q := k
theorem r_setL {p : Addr} {xs : List V} {i : Int} {j : Nat} {Q : Hp → Prop} (h : H p = some (.lst xs)) (h2 : ixN xs.length i = some j) (k : Q (upd H p (.lst (xs.set j v)))) : rSetL (.ref p) (.int i) v H Q := ⟨p, xs, i, j, rfl, rfl, h, h2, k⟩
theorem r_setP0 {p : Addr} {x0 : V} {xs : List V} {Q : Hp → Prop} (h : H p = some (.lst (x0 :: xs))) (k : Q (upd H p (.lst (v :: xs)))) : rSetL (.ref p) (.int 0) v H Q := ⟨p, _, 0, 0, rfl, rfl, h, ixN_nn (j := 0) (by simp), k⟩
theorem r_setP1 {p : Addr} {x0 x1 : V} {xs : List V} {Q : Hp → Prop} (h : H p = some (.lst (x0 :: x1 :: xs))) (k : Q (upd H p (.lst (x0 :: v :: xs)))) : rSetL (.ref p) (.int 1) v H Q := ⟨p, _, 1, 1, rfl, rfl, h, ixN_nn (j := 1) (by simp), k⟩
theorem r_setP2 {p : Addr} {x0 x1 x2 : V} {xs : List V} {Q : Hp → Prop} (h : H p = some (.lst (x0 :: x1 :: x2 :: xs))) (k : Q (upd H p (.lst (x0 :: x1 :: v :: xs)))) : rSetL (.ref p) (.int 2) v H Q := ⟨p, _, 2, 2, rfl, rfl, h, ixN_nn (j := 2) (by simp), k⟩
theorem r_setP3 {p : Addr} {x0 x1 x2 x3 : V} {xs : List V} {Q : Hp → Prop} (h : H p = some (.lst (x0 :: x1 :: x2 :: x3 :: xs))) (k : Q (upd H p (.lst (x0 :: x1 :: x2 :: v :: xs)))) : rSetL (.ref p) (.int 3) v H Q := ⟨p, _, 3, 3, rfl, rfl, h, ixN_nn (j := 3) (by simp), k⟩
theorem r_cut (M : L2.St → Hp → Prop) (h : ts { D with nx := M } σ H) (k : ∀ σ' H', M σ' H' → tr D σ' H') : Evl.tCut ts tr D σ H := ⟨M, h, k⟩
theorem r_sl {r : V → Option Int → Option Int → Hp → VK → Prop} {tl th : TO} (k : te σ H fun x H1 => tl σ H1 fun l H2 => th σ H2 fun u H3 => r x l u H3 Q) : tSl r te tl th σ H Q := k
theorem r_ite {p : Prop} {_i : Decidable p} {A B : Prop} (h1 : p → A) (h2 : ¬ p → B) : if decide p = true then A else B := by
  by_cases h : p
  · rw [if_pos (decide_eq_true h)]; exact h1 h
  · rw [if_neg (by rw [decide_eq_false h]; decide)]; exact h2 h
theorem r_iteN {p : Prop} {_i : Decidable p} {A B : Prop} (h1 : ¬ p → A) (h2 : p → B) : if (!decide p) = true then A else B := by
  by_cases h : p
  · rw [if_neg (by rw [decide_eq_true h]; decide)]; exact h2 h
  · rw [if_pos (by rw [decide_eq_false h]; rfl)]; exact h1 h
theorem r_iteT {p : Prop} [Decidable p] {A B : Prop} (h : p) (k : A) : if decide p = true then A else B := by
  rw [if_pos (decide_eq_true h)]; exact k
theorem r_iteF {p : Prop} [Decidable p] {A B : Prop} (h : ¬ p) (k : B) : if decide p = true then A else B := by
  rw [if_neg (by rw [decide_eq_false h]; decide)]; exact k
theorem r_iteNT {p : Prop} [Decidable p] {A B : Prop} (h : ¬ p) (k : A) : if (!decide p) = true then A else B := by
  rw [if_pos (by rw [decide_eq_false h]; rfl)]; exact k
theorem r_iteNF {p : Prop} [Decidable p] {A B : Prop} (h : p) (k : B) : if (!decide p) = true then A else B := by
  rw [if_neg (by rw [decide_eq_true h]; decide)]; exact k
theorem r_iteb {b : Bool} {A B : Prop} (h1 : b = true → A) (h2 : b = false → B) : if b = true then A else B := by
  cases b with
  | true => rw [if_pos rfl]; exact h1 rfl
  | false => rw [if_neg (by decide)]; exact h2 rfl
theorem r_itebN {b : Bool} {A B : Prop} (h1 : b = false → A) (h2 : b = true → B) : if (!b) = true then A else B := by
  cases b with
  | true => exact (if_neg (by decide : ¬ (!true) = true)).mpr (h2 rfl)
  | false => exact (if_pos (by decide : (!false) = true)).mpr (h1 rfl)
theorem r_int1 {i : Int} {F : Int → Prop} {G : Bool → Prop} (k : F i) : (∃ j, [V.int i] = [.int j] ∧ F j) ∨ ∃ b, [V.int i] = [.bl b] ∧ G b := .inl ⟨i, rfl, k⟩
theorem r_intB {b : Bool} {F : Int → Prop} {G : Bool → Prop} (k : G b) : (∃ j, [V.bl b] = [.int j] ∧ F j) ∨ ∃ c, [V.bl b] = [.bl c] ∧ G c := .inr ⟨b, rfl, k⟩
theorem r_lenL {p : Addr} {xs : List V} {F : List V → Prop} (h : SqL K H p xs) (k : F xs) : ∃ q ys, [V.ref p] = [.ref q] ∧ (SqL K H q ys ∨ SqT K H q ys) ∧ F ys := ⟨p, xs, rfl, .inl h, k⟩
theorem r_lenT {p : Addr} {xs : List V} {F : List V → Prop} (h : SqT K H p xs) (k : F xs) : ∃ q ys, [V.ref p] = [.ref q] ∧ (SqL K H q ys ∨ SqT K H q ys) ∧ F ys := ⟨p, xs, rfl, .inr h, k⟩
theorem abs_if {i : Int} : (if i < 0 then -i else i) = (i.natAbs : Int) := by split <;> omega
theorem max_if {i j : Int} : (if j > i then j else i) = max i j := by split <;> omega
theorem r_in1 {i : Int} {F : Int → Prop} (k : F i) : ∃ j, [V.int i] = [.int j] ∧ F j := ⟨i, rfl, k⟩
theorem r_in2 {i j : Int} {F : Int → Int → Prop} (k : F i j) : ∃ a b, [V.int i, V.int j] = [.int a, .int b] ∧ F a b := ⟨i, j, rfl, k⟩
theorem r_isi {x : V} {T : String} {b : Bool} {ty : String} (ty1 : TyX K H x (.type ty)) (h : kitB ty T = some b) (k : Q (.bl b) H) : rIsi K [x, .ty T] H Q :=
  ⟨x, .ty T, .type ty, .type T, b, rfl, .ty T, ty1, kit_ty h, k⟩
end
/-! ### loops -/
def ForR1 (G : TG) (ts : TS) (D : Ends) (σ : L2.St) (vs : List V) (H : Hp) : Prop := ∃ j : Int, vs = [.int j] ∧ -(2 ^ 62) ≤ j ∧ j < 2 ^ 62 ∧ ∃ W : Nat → Nat → L2.St → Hp → Prop, (∃ m, W 0 m σ H) ∧ ∀ i m σ H, W i m σ H →
  ((Itr 0 j.toNat).stop i H ∧ D.nx σ H) ∨ ((Itr 0 j.toNat).go i H ∧ ∃ N : L2.St → Hp → Prop, (∀ σ' H', N σ' H' → ∃ m', m' < m ∧ W (i + 1) m' σ' H') ∧ ∀ x H', (Itr 0 j.toNat).yld i H x H' → G x σ H' fun σ2 H2 => ts { D with nx := N, ct := N, bk := D.nx } σ2 H2)
def ForR2 (G : TG) (ts : TS) (D : Ends) (σ : L2.St) (vs : List V) (H : Hp) : Prop := ∃ i j : Int, vs = [.int i, .int j] ∧ (-(2 ^ 62) ≤ i ∧ i < 2 ^ 62 ∧ -(2 ^ 62) ≤ j ∧ j < 2 ^ 62) ∧ ∃ W : Nat → Nat → L2.St → Hp → Prop, (∃ m, W 0 m σ H) ∧ ∀ k m σ H, W k m σ H →
  ((Itr i (j - i).toNat).stop k H ∧ D.nx σ H) ∨ ((Itr i (j - i).toNat).go k H ∧ ∃ N : L2.St → Hp → Prop, (∀ σ' H', N σ' H' → ∃ m', m' < m ∧ W (k + 1) m' σ' H') ∧ ∀ x H', (Itr i (j - i).toNat).yld k H x H' → G x σ H' fun σ2 H2 => ts { D with nx := N, ct := N, bk := D.nx } σ2 H2)
def ForL (K : PySem.W.Frag) (G : TG) (ts : TS) (D : Ends) (σ : L2.St) (v : V) (H : Hp) : Prop := ∃ a, v = .ref a ∧ (∃ xs, SqL K H a xs) ∧ ∃ W : Nat → Nat → L2.St → Hp → Prop, (∃ m, W 0 m σ H) ∧ ∀ i m σ H, W i m σ H →
  ((Itl K a).stop i H ∧ D.nx σ H) ∨ ((Itl K a).go i H ∧ ∃ N : L2.St → Hp → Prop, (∀ σ' H', N σ' H' → ∃ m', m' < m ∧ W (i + 1) m' σ' H') ∧ ∀ x H', (Itl K a).yld i H x H' → G x σ H' fun σ2 H2 => ts { D with nx := N, ct := N, bk := D.nx } σ2 H2)
def ForT (K : PySem.W.Frag) (G : TG) (ts : TS) (D : Ends) (σ : L2.St) (v : V) (H : Hp) : Prop := ∃ a, v = .ref a ∧ (∃ xs, SqT K H a xs) ∧ ∃ W : Nat → Nat → L2.St → Hp → Prop, (∃ m, W 0 m σ H) ∧ ∀ i m σ H, W i m σ H →
  ((Itt K a).stop i H ∧ D.nx σ H) ∨ ((Itt K a).go i H ∧ ∃ N : L2.St → Hp → Prop, (∀ σ' H', N σ' H' → ∃ m', m' < m ∧ W (i + 1) m' σ' H') ∧ ∀ x H', (Itt K a).yld i H x H' → G x σ H' fun σ2 H2 => ts { D with nx := N, ct := N, bk := D.nx } σ2 H2)
section
variable {K : PySem.W.Frag} {σ : L2.St} {H : Hp} {Q : VK} {D : Ends} {te tl : TE} {tt c : TT} {ts : TS} {G : TG} {tas : TA} {v : V} {vs : List Nat}
theorem r_forR1 (k : tas σ H fun vs H1 => ForR1 G ts D σ vs H1) : tFor (iRng1 tas) G ts D σ H := k
theorem r_forR2 (k : tas σ H fun vs H1 => ForR2 G ts D σ vs H1) : tFor (iRng2 tas) G ts D σ H := k
theorem r_forL (k : tl σ H fun x H1 => ForL K G ts D σ x H1) : tFor (iList K tl) G ts D σ H := k
theorem r_forT (k : tl σ H fun x H1 => ForT K G ts D σ x H1) : tFor (iTup K tl) G ts D σ H := k
theorem forR1_go {j : Int} (Pv : Nat → L2.St → Hp → Prop) (hb : -(2 ^ 62) ≤ j ∧ j < 2 ^ 62) (h0 : Pv 0 σ H)
    (hs : ∀ (i : Nat) σ' H', (i : Int) < j → Pv i σ' H' → G (.int i) σ' H' fun σ2 H2 => ts { D with nx := Pv (i + 1), ct := Pv (i + 1), bk := D.nx } σ2 H2) (hd : ∀ σ' H', Pv j.toNat σ' H' → D.nx σ' H') : ForR1 G ts D σ [.int j] H :=
  ⟨j, rfl, hb.1, hb.2, for_range (lo := 0) Pv h0 (fun i σ' H' hi p => by rw [Int.zero_add]; exact hs i σ' H' (by omega) p) hd⟩
theorem forR2_go {i j : Int} (Pv : Nat → L2.St → Hp → Prop) (hb : -(2 ^ 62) ≤ i ∧ i < 2 ^ 62 ∧ -(2 ^ 62) ≤ j ∧ j < 2 ^ 62) (h0 : Pv 0 σ H)
    (hs : ∀ (k : Nat) σ' H', i + (k : Int) < j → Pv k σ' H' → G (.int (i + k)) σ' H' fun σ2 H2 => ts { D with nx := Pv (k + 1), ct := Pv (k + 1), bk := D.nx } σ2 H2) (hd : ∀ σ' H', Pv (j - i).toNat σ' H' → D.nx σ' H') : ForR2 G ts D σ [.int i, .int j] H :=
  ⟨i, j, rfl, hb, for_range (lo := i) Pv h0 (fun k σ' H' hi p => hs k σ' H' (by omega) p) hd⟩
theorem forL_go {a : Addr} {xs : List V} (Pv : Nat → L2.St → Hp → Prop) (hx : SqL K H a xs) (h0 : Pv 0 σ H) (hl : ∀ i σ' H', i ≤ xs.length → Pv i σ' H' → SqL K H' a xs)
    (hs : ∀ i x σ' H', xs[i]? = some x → Pv i σ' H' → G x σ' H' fun σ2 H2 => ts { D with nx := Pv (i + 1), ct := Pv (i + 1), bk := D.nx } σ2 H2) (hd : ∀ σ' H', Pv xs.length σ' H' → D.nx σ' H') : ForL K G ts D σ (.ref a) H :=
  ⟨a, rfl, ⟨xs, hx⟩, for_list Pv h0 hl hs hd⟩
theorem forT_go {a : Addr} {xs : List V} (Pv : Nat → L2.St → Hp → Prop) (hx : SqT K H a xs) (h0 : Pv 0 σ H) (hl : ∀ i σ' H', i ≤ xs.length → Pv i σ' H' → SqT K H' a xs)
    (hs : ∀ i x σ' H', xs[i]? = some x → Pv i σ' H' → G x σ' H' fun σ2 H2 => ts { D with nx := Pv (i + 1), ct := Pv (i + 1), bk := D.nx } σ2 H2) (hd : ∀ σ' H', Pv xs.length σ' H' → D.nx σ' H') : ForT K G ts D σ (.ref a) H :=
  ⟨a, rfl, ⟨xs, hx⟩, for_tup Pv h0 hl hs hd⟩
theorem r_while (W : Nat → L2.St → Hp → Prop) {m0 : Nat} (h0 : W m0 σ H)
    (hs : ∀ m σ' H', W m σ' H' → c σ' H' fun b H1 => if b = true then ∃ N : L2.St → Hp → Prop, (∀ σ2 H2, N σ2 H2 → ∃ m', m' < m ∧ W m' σ2 H2) ∧ ts { D with nx := N, ct := N, bk := D.nx } σ' H1 else D.nx σ' H1) : tWhile c ts D σ H := ⟨W, ⟨m0, h0⟩, hs⟩
theorem r_turn {B : L2.St → Hp → Prop} {R : VK} {Bk : L2.St → Hp → Prop} (k : ts { nx := B, rt := R, bk := Bk, ct := B } σ H) :
    ∃ N : L2.St → Hp → Prop, (∀ σ2 H2, N σ2 H2 → B σ2 H2) ∧ ts { nx := N, rt := R, bk := Bk, ct := N } σ H := ⟨_, fun _ _ h => h, k⟩
end
/-! ### comprehensions -/
section
variable {K : PySem.W.Frag} {σ : L2.St} {H : Hp} {Q : VK} {te tl : TE} {tt : TT} {G : TG} {tas : TA} {v : V} {vs : List Nat} {QB : Bool → Hp → Prop}
def CompW (J : It) (G : TG) (tt : TT) (te : TE) (vs : List Nat) (σ : L2.St) (Q : VK) (H1 : Hp) : Prop := ∀ D, H1 D = none → ∃ W : Nat → Nat → Hp → Prop, (∃ m, W 0 m (upd H1 D (.lst []))) ∧ ∀ i m H, W i m H → (J.stop i H ∧ Q (.ref D) H) ∨ (J.go i H ∧ ∃ Nx : Hp → Prop, (∀ H', Nx H' → ∃ m', m' < m ∧ W (i + 1) m' H') ∧
  ∀ x H', J.yld i H x H' → G x (wipe σ vs) H' fun σ2 H2 => wipe σ2 vs = wipe σ vs ∧ tt σ2 H2 fun b H3 => if b = true then te σ2 H3 fun y H4 => ∃ acc, H4 D = some (.lst acc) ∧ acc.length < sizeLine ∧ Nx (upd H4 D (.lst (acc ++ [y]))) else Nx H3)
def CompR1 (G : TG) (tt : TT) (te : TE) (vs : List Nat) (σ : L2.St) (Q : VK) (us : List V) (H1 : Hp) : Prop := ∃ j : Int, us = [.int j] ∧ -(2 ^ 62) ≤ j ∧ j < 2 ^ 62 ∧ CompW (Itr 0 j.toNat) G tt te vs σ Q H1
def CompL (K : PySem.W.Frag) (G : TG) (tt : TT) (te : TE) (vs : List Nat) (σ : L2.St) (Q : VK) (x : V) (H1 : Hp) : Prop := ∃ a, x = .ref a ∧ (∃ xs, SqL K H1 a xs) ∧ CompW (Itl K a) G tt te vs σ Q H1
def CompT (K : PySem.W.Frag) (G : TG) (tt : TT) (te : TE) (vs : List Nat) (σ : L2.St) (Q : VK) (x : V) (H1 : Hp) : Prop := ∃ a, x = .ref a ∧ (∃ xs, SqT K H1 a xs) ∧ CompW (Itt K a) G tt te vs σ Q H1
theorem r_lcR1 (k : tas σ H fun us H1 => CompR1 G tt te vs σ Q us H1) : tLc (iRng1 tas) G tt te vs σ H Q := k
theorem r_lcL (k : tl σ H fun x H1 => CompL K G tt te vs σ Q x H1) : tLc (iList K tl) G tt te vs σ H Q := k
theorem r_lcT (k : tl σ H fun x H1 => CompT K G tt te vs σ Q x H1) : tLc (iTup K tl) G tt te vs σ H Q := k
theorem r_wipe {σ2 : L2.St} {R : Prop} (h : wipe σ2 vs = wipe σ vs) (k : R) : wipe σ2 vs = wipe σ vs ∧ R := ⟨h, k⟩
theorem r_gNameW {i : Nat} {σ' : L2.St} {Q : L2.St → Hp → Prop} (h : wipe σ vs = σ') (k : gName i v σ' H Q) : gName i v (wipe σ vs) H Q := by rw [h]; exact k
theorem r_yes (k : QB true H) : tYes σ H QB := k
/-- the reading of one item, told with the list so far: P of the turn's number, the items made, the heap -/
def CompTurn (G : TG) (tt : TT) (te : TE) (vs : List Nat) (σ : L2.St) (D : Addr) (Nx : List V → Hp → Prop) (acc : List V) (x : V) (H : Hp) : Prop :=
  G x (wipe σ vs) H fun σ2 H2 => wipe σ2 vs = wipe σ vs ∧ tt σ2 H2 fun b H3 => if b = true then te σ2 H3 fun y H4 => H4 D = some (.lst acc) ∧ acc.length < sizeLine ∧ Nx (acc ++ [y]) (upd H4 D (.lst (acc ++ [y]))) else Nx acc H3
theorem lcR1_go {j : Int} (Pv : Addr → Nat → List V → Hp → Prop) (hb : -(2 ^ 62) ≤ j ∧ j < 2 ^ 62) (h0 : ∀ D, H D = none → Pv D 0 [] (upd H D (.lst [])))
    (hs : ∀ D (i : Nat) acc H', (i : Int) < j → H' D = some (.lst acc) → Pv D i acc H' → G (.int i) (wipe σ vs) H' fun σ2 H2 => wipe σ2 vs = wipe σ vs ∧ tt σ2 H2 fun b H3 =>
      if b = true then te σ2 H3 fun y H4 => ∃ acc, H4 D = some (.lst acc) ∧ acc.length < sizeLine ∧ (∃ ac, (upd H4 D (.lst (acc ++ [y]))) D = some (.lst ac) ∧ Pv D (i + 1) ac (upd H4 D (.lst (acc ++ [y])))) else ∃ ac, H3 D = some (.lst ac) ∧ Pv D (i + 1) ac H3)
    (hd : ∀ D acc H', H D = none → H' D = some (.lst acc) → Pv D j.toNat acc H' → Q (.ref D) H') : CompR1 G tt te vs σ Q [.int j] H :=
  ⟨j, rfl, hb.1, hb.2, fun D hD => lc_range (lo := 0) (fun i H' => ∃ acc, H' D = some (.lst acc) ∧ Pv D i acc H') ⟨[], upd_same, h0 D hD⟩ (fun i H' hi ⟨acc, ha, p⟩ => by rw [Int.zero_add]; exact hs D i acc H' (by omega) ha p) fun H' ⟨acc, ha, p⟩ => hd D acc H' hD ha p⟩
theorem lcL_go {a : Addr} {xs : List V} (Pv : Addr → Nat → List V → Hp → Prop) (hx : SqL K H a xs) (h0 : ∀ D, H D = none → Pv D 0 [] (upd H D (.lst []))) (hl : ∀ D i acc H', i ≤ xs.length → Pv D i acc H' → SqL K H' a xs)
    (hs : ∀ D (i : Nat) x acc H', xs[i]? = some x → H' D = some (.lst acc) → Pv D i acc H' → G x (wipe σ vs) H' fun σ2 H2 => wipe σ2 vs = wipe σ vs ∧ tt σ2 H2 fun b H3 =>
      if b = true then te σ2 H3 fun y H4 => ∃ acc, H4 D = some (.lst acc) ∧ acc.length < sizeLine ∧ (∃ ac, (upd H4 D (.lst (acc ++ [y]))) D = some (.lst ac) ∧ Pv D (i + 1) ac (upd H4 D (.lst (acc ++ [y])))) else ∃ ac, H3 D = some (.lst ac) ∧ Pv D (i + 1) ac H3)
    (hd : ∀ D acc H', H D = none → H' D = some (.lst acc) → Pv D xs.length acc H' → Q (.ref D) H') : CompL K G tt te vs σ Q (.ref a) H :=
  ⟨a, rfl, ⟨xs, hx⟩, fun D hD => lc_list (xs := xs) (fun i H' => ∃ acc, H' D = some (.lst acc) ∧ Pv D i acc H') ⟨[], upd_same, h0 D hD⟩ (fun i H' hi ⟨acc, ha, p⟩ => hl D i acc H' hi p) (fun i x H' hi ⟨acc, ha, p⟩ => hs D i x acc H' hi ha p) fun H' ⟨acc, ha, p⟩ => hd D acc H' hD ha p⟩
theorem lcT_go {a : Addr} {xs : List V} (Pv : Addr → Nat → List V → Hp → Prop) (hx : SqT K H a xs) (h0 : ∀ D, H D = none → Pv D 0 [] (upd H D (.lst []))) (hl : ∀ D i acc H', i ≤ xs.length → Pv D i acc H' → SqT K H' a xs)
    (hs : ∀ D (i : Nat) x acc H', xs[i]? = some x → H' D = some (.lst acc) → Pv D i acc H' → G x (wipe σ vs) H' fun σ2 H2 => wipe σ2 vs = wipe σ vs ∧ tt σ2 H2 fun b H3 =>
      if b = true then te σ2 H3 fun y H4 => ∃ acc, H4 D = some (.lst acc) ∧ acc.length < sizeLine ∧ (∃ ac, (upd H4 D (.lst (acc ++ [y]))) D = some (.lst ac) ∧ Pv D (i + 1) ac (upd H4 D (.lst (acc ++ [y])))) else ∃ ac, H3 D = some (.lst ac) ∧ Pv D (i + 1) ac H3)
    (hd : ∀ D acc H', H D = none → H' D = some (.lst acc) → Pv D xs.length acc H' → Q (.ref D) H') : CompT K G tt te vs σ Q (.ref a) H :=
  ⟨a, rfl, ⟨xs, hx⟩, fun D hD => lc_tup (xs := xs) (fun i H' => ∃ acc, H' D = some (.lst acc) ∧ Pv D i acc H') ⟨[], upd_same, h0 D hD⟩ (fun i H' hi ⟨acc, ha, p⟩ => hl D i acc H' hi p) (fun i x H' hi ⟨acc, ha, p⟩ => hs D i x acc H' hi ha p) fun H' ⟨acc, ha, p⟩ => hd D acc H' hD ha p⟩
/-- an item is kept: behind te, the list is known -/
theorem lc_put {D : Addr} {acc : List V} {y : V} {P : List V → List V → Prop} {H4 : Hp} (h : H4 D = some (.lst acc)) (hz : acc.length < sizeLine) (k : P acc (acc ++ [y])) :
    ∃ acc, H4 D = some (.lst acc) ∧ acc.length < sizeLine ∧ (∃ ac, (upd H4 D (.lst (acc ++ [y]))) D = some (.lst ac) ∧ P acc ac) := ⟨acc, h, hz, _, upd_same, k⟩
end
/-! ### lists, displays -/
section
variable {K : PySem.W.Frag} {H : Hp} {Q : VK}
theorem Keep.out {M : List Addr} {H H' : Hp} {a : Addr} {o : HO} (h : Keep M H H') (n : a ∉ M) (e : H a = some o) : H' a = some o := h a o n e
theorem getD_all {p : Int → Prop} {P : List Int} {i : Nat} (h : ∀ x ∈ P, p x) (hi : i < P.length) : p (P.getD i 0) := by
  rw [List.getD_eq_getElem?_getD, List.getElem?_eq_getElem hi]; exact h _ (List.getElem_mem hi)
theorem r_slL {a : Addr} {xs : List V} {lo hi : Option Int} (h : SqL K H a xs) (k : ∀ p, H p = none → Q (.ref p) (upd H p (.lst (cutV xs lo hi)))) : rSlL K (.ref a) lo hi H Q := ⟨a, xs, rfl, h, k⟩
theorem r_cat {l b : Addr} {xs zs : List V} (h : H l = some (.lst xs)) (h2 : H b = some (.lst zs)) (hz : xs.length + zs.length ≤ sizeLine) (k : ∀ p, H p = none → Q (.ref p) (upd H p (.lst (xs ++ zs)))) : rCat (.ref l) (.ref b) H Q :=
  ⟨l, b, xs, zs, rfl, rfl, h, h2, hz, k⟩
theorem r_listL {p : Addr} {xs : List V} {F : List V → Prop} (h : SqL K H p xs) (k : F xs) : ∃ q ys, [V.ref p] = [.ref q] ∧ (SqL K H q ys ∨ SqT K H q ys) ∧ F ys := ⟨p, xs, rfl, .inl h, k⟩
theorem r_tPart {te : TE} {σ : L2.St} {QO : Option Int → Hp → Prop} (k : te σ H fun v H1 => ∃ i, v = .int i ∧ QO (some i) H1) : tPart te σ H QO := k
theorem r_noPart {σ : L2.St} {QO : Option Int → Hp → Prop} (k : QO none H) : tNoPart σ H QO := k
theorem r_gcd {a b : Int} (k : Q (.int ((Nat.gcd a.natAbs b.natAbs : Nat) : Int)) H) : rGcd [.int a, .int b] H Q := ⟨a, b, rfl, k⟩
theorem r_iteNT1 {A B : Prop} (k : B) : if (!true) = true then A else B := by rw [if_neg (by decide)]; exact k
theorem r_iteNF1 {A B : Prop} (k : A) : if (!false) = true then A else B := by rw [if_pos (by decide)]; exact k
theorem kit_ii : kitB "int" "int" = some true := by decide +kernel
theorem kit_ib : kitB "int" "bool" = some false := by decide +kernel
theorem kit_bi : kitB "bool" "int" = some true := by decide +kernel
theorem kit_bb : kitB "bool" "bool" = some true := by decide +kernel
theorem kit_tt : kitB "tuple" "tuple" = some true := by decide +kernel
theorem kit_ss : kitB "str" "str" = some true := by decide +kernel
theorem kit_ll : kitB "list" "list" = some true := by decide +kernel
theorem kit_dd : kitB "dict" "dict" = some true := by decide +kernel
theorem kit_nt : kitB "NoneType" "tuple" = some false := by decide +kernel
theorem kit_ni : kitB "NoneType" "int" = some false := by decide +kernel
theorem kit_is : kitB "int" "str" = some false := by decide +kernel
theorem kit_si : kitB "str" "int" = some false := by decide +kernel
theorem kit_it : kitB "int" "tuple" = some false := by decide +kernel
theorem mulw {i j : Int} (a b : Nat) (ha : i.natAbs < 2 ^ a) (hb : j.natAbs < 2 ^ b) (h0 : 0 < a := by decide) (h1 : 0 < b := by decide) (h : a + b ≤ 1000000 := by decide) : CMul i j ∨ CMulW i j := .inr (wide_mul ha hb h0 h1 h)
theorem r_callSD {sp : Sp} {dvs : List V} {E : L2.St → XK} {tas : TA} {σ : L2.St} (k : tas σ H fun vs H1 => sp (vs ++ dvs) H1 Q (E σ)) : tCallSD sp dvs E tas σ H Q := k
theorem exm_ZD {K : PySem.W.Frag} : PySem.W.exmOne K (.type "ZeroDivisionError") (.type "ZeroDivisionError") = some true := by kernel_rfl
theorem r_par {i j : Nat} {ta : TA} {D : Ends} {σ : L2.St} (k : ta σ H fun vs H1 => ∃ v w, vs = [v, w] ∧ gName i v σ H1 fun σ1 H2 => gName j w σ1 H2 D.nx) : tPar i j ta D σ H := k
theorem r_exP {x y : V} {F : V → V → Prop} (k : F x y) : ∃ v w, [x, y] = [v, w] ∧ F v w := ⟨x, y, rfl, k⟩
theorem r_bm {T : String} {r : V → List V → Hp → VK → Prop} {to : TE} {ta : TA} {σ : L2.St} (k : to σ H fun x H1 => tyV K T x H1 ∧ ta σ H1 fun xs H2 => r x xs H2 Q) : tBM K T r to ta σ H Q := k
theorem r_tyL {p : Addr} {xs : List V} {R : Prop} (h : SqL K H p xs) (k : R) : tyV K "list" (.ref p) H ∧ R := ⟨.inl ⟨rfl, xs, h⟩, k⟩
theorem r_app {l : Addr} {xs : List V} {y : V} (h : H l = some (.lst xs)) (hz : xs.length < sizeLine) (k : Q .non (upd H l (.lst (xs ++ [y])))) : rAppend (.ref l) [y] H Q := ⟨l, xs, y, rfl, rfl, h, hz, k⟩
theorem r_exI {i : Int} {F : Int → Prop} (k : F i) : ∃ j, V.int i = .int j ∧ F j := ⟨i, rfl, k⟩
end
theorem start_cc {n : Str} {N : List Str} {v : V} {vs : List V} : L2.start (n :: N) (v :: vs) = some v :: L2.start N vs := by
  unfold L2.start
  rw [List.map_cons, List.length_cons, List.length_cons, Nat.add_sub_add_right, List.cons_append]
theorem start_cn {n : Str} {N : List Str} : L2.start (n :: N) [] = none :: L2.start N [] := rfl
theorem start_nn : L2.start [] [] = [] := rfl
theorem atI_map {P : List Int} {i : Int} (h0 : 0 ≤ i) (h1 : i < P.length) : atI (P.map V.int) i = some (.int (P.getD i.toNat 0)) := by
  obtain ⟨n, rfl⟩ : ∃ n : Nat, i = n := ⟨i.toNat, by omega⟩
  refine atI_nat ?_
  have h2 : n < P.length := by omega
  rw [List.getElem?_map, List.getElem?_eq_getElem h2, Int.toNat_natCast, List.getD_eq_getElem?_getD, List.getElem?_eq_getElem h2]; rfl
theorem ixN_of {n : Nat} {i : Int} (h0 : 0 ≤ i) (h1 : i < n) : ixN n i = some i.toNat := by
  unfold ixN; rw [if_pos h0, if_pos h1]
/-- sizes of ints -/
theorem log2_of {i : Int} {n : Nat} (h : i.natAbs < 2 ^ n) (h0 : 0 < n) : i.natAbs.log2 < n := PySem.Flt.log2_lt_of h0 h
theorem log_ok {j : Int} (n : Nat) (h : j.natAbs < 2 ^ n) (h0 : 0 < n := by decide) (h9 : n ≤ 9000 := by decide) : j.natAbs.log2 < 9000 := Nat.lt_of_lt_of_le (log2_of h h0) h9
theorem cmulw {i j : Int} (a b : Nat) (ha : i.natAbs < 2 ^ a) (hb : j.natAbs < 2 ^ b) (h0 : 0 < a := by decide) (h1 : 0 < b := by decide) (h : a + b ≤ 1000000 := by decide) : CMulW i j := wide_mul ha hb h0 h1 h
/-! ### == of flat rows -/
def fdV : V → PyData
  | .bl b => .bool b
  | .int i => .int i
  | .str x => .str x
  | _ => .none
def flatV : V → Bool
  | .non => true
  | .bl _ => true
  | .int _ => true
  | .str x => PyData.canLay0 (.str x)
  | _ => false
theorem dp_flat {K : PySem.W.Frag} {H : Hp} : ∀ {v : V}, flatV v = true → Dp K H v (fdV v)
  | .non, _ => .non
  | .bl b, _ => .bl b
  | .int i, _ => .int i
  | .str x, _ => .str x
theorem dp_flats {K : PySem.W.Frag} {H : Hp} : ∀ {xs : List V}, xs.all flatV = true → DpAll K H xs (xs.map fdV)
  | [], _ => .nil
  | v :: xs, h => by
    rw [List.all_cons, Bool.and_eq_true] at h
    exact .cons (dp_flat h.1) (dp_flats h.2)
theorem flat_lay : ∀ {v : V}, flatV v = true → (fdV v).canLay0 = true ∧ (fdV v).depth = 0
  | .non, _ => by simp [fdV, PyData.canLay0, PyData.depth]
  | .bl b, _ => by simp [fdV, PyData.canLay0, PyData.depth]
  | .int i, _ => by simp [fdV, PyData.canLay0, PyData.depth]
  | .str x, h => ⟨h, by simp [fdV, PyData.depth]⟩
theorem flats_lay : ∀ {xs : List V}, xs.all flatV = true → PyData.canLayAll0 (xs.map fdV) = true ∧ PyData.depthAll (xs.map fdV) = 0
  | [], _ => by simp [PyData.canLayAll0, PyData.depthAll]
  | v :: xs, h => by
    rw [List.all_cons, Bool.and_eq_true] at h
    have a := flat_lay h.1
    have b := flats_lay h.2
    simp [PyData.canLayAll0, PyData.depthAll, a.1, a.2, b.1, b.2]
theorem shaped_flat {xs : List V} (h : xs.all flatV = true) : SeqAt.shaped (.list (xs.map fdV)) = true ∧ SeqAt.shaped (.tuple (xs.map fdV)) = true := by
  have b := flats_lay h
  constructor <;> simp [SeqAt.shaped, PyData.canLay0, PyData.depth, b.1, b.2]
theorem eqv_flat : ∀ {v : V}, flatV v = true → PyData.eqv (fdV v) (fdV v) = true
  | .non, _ => by simp [fdV, PyData.eqv]
  | .bl b, _ => by simp [fdV, PyData.eqv]
  | .int i, _ => by simp [fdV, PyData.eqv]
  | .str x, _ => by simp [fdV, PyData.eqv]
theorem eqv_flats : ∀ {xs : List V}, xs.all flatV = true → PyData.eqvAll (xs.map fdV) (xs.map fdV) = true
  | [], _ => by simp [PyData.eqvAll]
  | v :: xs, h => by
    rw [List.all_cons, Bool.and_eq_true] at h
    simp [PyData.eqvAll, eqv_flat h.1, eqv_flats h.2]
section
variable {K : PySem.W.Frag} {H : Hp} {Q : VK} {p q : Addr} {xs ys : List V} {b : Bool}
theorem eqvL {xs ys : List PyData} : PyData.eqv (.list xs) (.list ys) = PyData.eqvAll xs ys := by simp [PyData.eqv]
theorem eqvT {xs ys : List PyData} : PyData.eqv (.tuple xs) (.tuple ys) = PyData.eqvAll xs ys := by simp [PyData.eqv]
theorem r_eqL (hp : SqL K H p xs) (hq : SqL K H q ys) (fx : xs.all flatV = true) (fy : ys.all flatV = true) (hb : PyData.eqvAll (xs.map fdV) (ys.map fdV) = b) (k : Q (.bl b) H) : rEqD K (.ref p) (.ref q) H Q :=
  ⟨_, _, .lst hp (dp_flats fx), .lst hq (dp_flats fy), (shaped_flat fx).1, (shaped_flat fy).1, by rw [eqvL, hb]; exact k⟩
theorem r_eqT (hp : SqT K H p xs) (hq : SqT K H q ys) (fx : xs.all flatV = true) (fy : ys.all flatV = true) (hb : PyData.eqvAll (xs.map fdV) (ys.map fdV) = b) (k : Q (.bl b) H) : rEqD K (.ref p) (.ref q) H Q :=
  ⟨_, _, .tup hp (dp_flats fx), .tup hq (dp_flats fy), (shaped_flat fx).2, (shaped_flat fy).2, by rw [eqvT, hb]; exact k⟩
theorem r_neL (hp : SqL K H p xs) (hq : SqL K H q ys) (fx : xs.all flatV = true) (fy : ys.all flatV = true) (hb : PyData.eqvAll (xs.map fdV) (ys.map fdV) = b) (k : Q (.bl (!b)) H) : rNeD K (.ref p) (.ref q) H Q :=
  ⟨_, _, .lst hp (dp_flats fx), .lst hq (dp_flats fy), (shaped_flat fx).1, (shaped_flat fy).1, by rw [eqvL, hb]; exact k⟩
theorem r_neT (hp : SqT K H p xs) (hq : SqT K H q ys) (fx : xs.all flatV = true) (fy : ys.all flatV = true) (hb : PyData.eqvAll (xs.map fdV) (ys.map fdV) = b) (k : Q (.bl (!b)) H) : rNeD K (.ref p) (.ref q) H Q :=
  ⟨_, _, .tup hp (dp_flats fx), .tup hq (dp_flats fy), (shaped_flat fx).2, (shaped_flat fy).2, by rw [eqvT, hb]; exact k⟩
end
/-! ### rules whose reading names K, told for a context that hides it (a comprehension, an except suite) -/
section
variable {X : Cx} {K : PySem.W.Frag}
theorem ix_listK (hK : X.K = K) : IxR X (rIxL K) := by subst hK; exact ix_list
theorem ix_tupK (hK : X.K = K) : IxR X (rIxT K) := by subst hK; exact ix_tup
theorem op_in_seqK (hK : X.K = K) : OpR X (compareOp .In) (rIn K false) := by subst hK; exact op_in_seq
theorem op_notIn_seqK (hK : X.K = K) : OpR X (compareOp .NotIn) (rIn K true) := by subst hK; exact op_notIn_seq
theorem call_len_seqK (hK : X.K = K) : CallR X (.builtin "len") (fun xs H Q => ∃ p ys, xs = [.ref p] ∧ (SqL K H p ys ∨ SqT K H p ys) ∧ Q (.int ys.length) H) := by subst hK; exact call_len_seq
theorem call_isiK (hK : X.K = K) : CallR X (.builtin "isinstance") (rIsi K) := by subst hK; exact call_isi
end
section
variable {H : Hp}
def rIsN : R2 := fun x y H Q => y = .non ∧ Q (.bl (decide (x = .non))) H
def rNoN : R2 := fun x y H Q => y = .non ∧ Q (.bl (!decide (x = .non))) H
theorem op_isNc {X : Cx} : OpR X (compareOp .Is) rIsN := op_isN
theorem op_notNc {X : Cx} : OpR X (compareOp .IsNot) rNoN := op_notN
theorem r_isN {Q : VK} (k : Q (.bl true) H) : rIsN (V.non) .non H Q := ⟨rfl, by rw [decide_eq_true rfl]; exact k⟩
theorem r_noN {Q : VK} (k : Q (.bl false) H) : rNoN (V.non) .non H Q := ⟨rfl, by rw [decide_eq_true rfl]; exact k⟩
theorem r_isI {i : Int} {Q : VK} (k : Q (.bl false) H) : rIsN (.int i) .non H Q := ⟨rfl, by rw [decide_eq_false (fun e => by cases e)]; exact k⟩
theorem r_noI {i : Int} {Q : VK} (k : Q (.bl true) H) : rNoN (.int i) .non H Q := ⟨rfl, by rw [decide_eq_false (fun e => by cases e)]; exact k⟩
theorem r_isR {p : Addr} {Q : VK} (k : Q (.bl false) H) : rIsN (.ref p) .non H Q := ⟨rfl, by rw [decide_eq_false (fun e => by cases e)]; exact k⟩
theorem r_noR {p : Addr} {Q : VK} (k : Q (.bl true) H) : rNoN (.ref p) .non H Q := ⟨rfl, by rw [decide_eq_false (fun e => by cases e)]; exact k⟩
theorem r_isS {x : Str} {Q : VK} (k : Q (.bl false) H) : rIsN (.str x) .non H Q := ⟨rfl, by rw [decide_eq_false (fun e => by cases e)]; exact k⟩
theorem r_noS {x : Str} {Q : VK} (k : Q (.bl true) H) : rNoN (.str x) .non H Q := ⟨rfl, by rw [decide_eq_false (fun e => by cases e)]; exact k⟩
theorem r_isB {b : Bool} {Q : VK} (k : Q (.bl false) H) : rIsN (.bl b) .non H Q := ⟨rfl, by rw [decide_eq_false (fun e => by cases e)]; exact k⟩
theorem r_noB {b : Bool} {Q : VK} (k : Q (.bl true) H) : rNoN (.bl b) .non H Q := ⟨rfl, by rw [decide_eq_false (fun e => by cases e)]; exact k⟩
theorem r_inL {K : PySem.W.Frag} {x : V} {p : Addr} {xs : List V} {Q : VK} (h : SqL K H p xs) (fx : L2.flatV x = true) (fs : xs.all L2.flatV = true) (k : Q (.bl (inV x xs)) H) : rIn K false x (.ref p) H Q := ⟨p, xs, rfl, .inl h, fx, fs, by simpa using k⟩
theorem r_ninL {K : PySem.W.Frag} {x : V} {p : Addr} {xs : List V} {Q : VK} (h : SqL K H p xs) (fx : L2.flatV x = true) (fs : xs.all L2.flatV = true) (k : Q (.bl (!inV x xs)) H) : rIn K true x (.ref p) H Q := ⟨p, xs, rfl, .inl h, fx, fs, by simpa using k⟩
theorem r_iteTT {A B : Prop} (k : A) : if true = true then A else B := by rw [if_pos rfl]; exact k
theorem r_iteFF {A B : Prop} (k : B) : if false = true then A else B := by rw [if_neg (by decide)]; exact k
end
/-! ### an own error over ValueError (through own classes) whose __init__ says super().__init__(a text), then stores its arguments -/
namespace Er
open PySem.W PySem.Calls PySem.HandSPX
section
variable {prog : Program} {w : World} {A : Around} {E : Value → Shared → Prop} {s : Shared} {K : Frag} {mg : Str → Option Value} {base : Heap} {m : Str → Option Value}
/-- what the written part says of the class at C: its __init__ at fI, the cell of __class__ at cc, the code at cda -/
structure Txt (P : Program) (K : Frag) (mg : Str → Option Value) (C fI cc cda : Addr) : Prop where
  cls : ∃ nm q N bs bm sn sub ab col dd k0 k1 k2 k3 k5, K.lookup C = some (excClassObj nm q C N bs bm true sn sub ab col dd k0 k1 k2 k3 k5 "ValueError.__new__") ∧ refsVE bm = true
  sa : findIn K (.ref C) "__setattr__" = some (some (.builtin "object.__setattr__"))
  iC : findIn K (.ref C) "__init__" = some (some (.ref fI))
  tI : typeIn K (.ref fI) = some (.type "function")
  cell : ∃ cl cld csl, K.lookup cc = some ⟨cl, cld, .cell (some (.ref C)), csl⟩
  code : ∃ ccl cdd vs ccs tf, K.lookup cda = some ⟨ccl, cdd, .fields vs, ccs⟩ ∧ vs[2]? = some (.str P.main.file tf)
  sup : ks_superIn K C C "__init__" = some (some (.builtin "ValueError.__init__"))
  supB : subIn K (.ref C) (.type "ValueError") = some true
  self : mroIn K C (.ref C) = some true
  opq : nsIn K cStatics "thirdparty.any" = some none
  mS : mg "super" = none
  top : (P.main.scope.names.lookup ("super" : Str)).isSome = false
theorem clsIn_of {C N : Addr} {nm q : Str} {bs bm : List Value} {hd : Bool} {sn : List Str} {sub : List Value} {ab : Bool} {col : Option Bool} {dd : Option Addr} {k0 k1 k2 k3 k5 : Option Value} {nw : String}
    (hC : K.lookup C = some (excClassObj nm q C N bs bm hd sn sub ab col dd k0 k1 k2 k3 k5 nw)) :
    clsIn K C = some { name := nm, bases := bs, mro := .ref C :: bm, ns := N, qualname := q, hasDict := hd, slotNames := sn, subclasses := sub, abstract := ab, collection := col, hasDel := false } := by
  unfold clsIn; rw [hC] <;> rfl
theorem call_mw {u e t0 C N : Addr} {nm q : Str} {bs bm : List Value} {hdct : Bool} {sn : List Str} {sub : List Value} {ab : Bool} {col : Option Bool} {dd : Option Addr} {k0 k1 k2 k3 k5 : Option Value} {h : Heap} {g : Array GenState} {d : Drawn} {t : Nat} {os : OsState} {rest : List Value} {Q : Value → Shared → Prop}
    (hC : h.get? C = some (excClassObj nm q C N bs bm hdct sn sub ab col dd k0 k1 k2 k3 k5 "ValueError.__new__")) (he : h.get? e = some (excObj C t0 none .none)) (hu : h.get? u = some (kxs_mw "ValueError.__init__" e)) (hrest : rest.length ≤ sizeLine)
    (hq : ∀ h' t1, (∀ b o, b ≠ e → h.get? b = some o → h'.get? b = some o) → h'.get? e = some (excObj C t1 none .none) → Q .none ⟨h', g, d, t, os⟩) :
    wpAny (model prog w) A (call (.ref u) rest) Q E ⟨h, g, d, t, os⟩ := by
  refine wpAny_call (codeAny_of_tree ?_)
  show wpAny _ A.in1 (callAny (.ref u) ⟨rest, []⟩) _ _ _
  simp only [callAny]
  refine wpAny_bind (wpAny_load hu ?_)
  simp only [kxs_mw, show (Value.type "method-wrapper" == Value.type "method" || Value.type "method-wrapper" == Value.type "builtin_function_or_method" || Value.type "method-wrapper" == Value.type "method-wrapper") = true by decide, if_true]
  refine KFB.if_so (by decide) ?_
  refine wpAny_bind (check_bound_init F.excBase_ValueError.toExcCallFacts hC he rfl ?_)
  refine wpAny_bind (wpAny_pure (wpAny_pure ?_))
  refine ⟨plainId_quiet F.excBase_ValueError.init.plain _, codeAny_builtin F.excBase_ValueError.initEntry ?_⟩
  exact exc_init_tree (cls := .ref C) (t0 := t0) (dv := none) (c2 := .none) (c3 := .none) (b4 := .bool false) he hrest fun h' k e' _ => hq h' _ k e'
theorem super_stmt {pl : Sem Bool} {C fI cc cda L x t0 : Addr} {fd : FuncData} {oc : Value} {od : Option Addr} {osl : Array (Option Value)} {ar : Arg} {q : Str} {scope : Scope} {body : List Stmt} {msg : Expr} {p0 p1 p2 p3 p4 : Pos} {Q : Flow → Shared → Prop}
    (T : Txt prog K mg C fI cc cda) (Mo : Mod K mg base) (kb : ∀ b o, base.get? b = some o → s.heap.get? b = some o)
    (hf : K.lookup fI = some ⟨oc, od, .func fd, osl⟩) (hp : (fd.params.posonlyargs ++ fd.params.args).head? = some ar) (har : ar.arg = "self")
    (hks : scope.names.lookup ("super" : Str) = some .globalImplicit) (hkc : scope.names.lookup ("__class__" : Str) = some .free) (hka : scope.names.lookup ("self" : Str) = some .local) (hk : scope.kind = .function)
    (hns : s.heap.Ns L m) (hv : m "self" = some (.ref x)) (hx : s.heap.get? x = some (excO C t0))
    (hmsg : ∀ (s' : Shared) (Q' : Value → Shared → Prop), s'.heap.Ns L m → (∀ (z : Str) tk n, Q' (.str z tk) { s' with toks := n }) → wpAny (model prog w) A (eval msg (ksEnv q scope L fI (.ref cda) cc)) Q' E s')
    (hq : ∀ h' tk t1, (∀ b o, b ≠ x → s.heap.get? b = some o → h'.get? b = some o) → h'.get? x = some (excO C t1) → Q .next { s with heap := h', toks := tk })
    (hin : interactive (ksEnv q scope L fI (.ref cda) cc) = false := by rfl)
    (he : starEach [msg] (ksEnv q scope L fI (.ref cda) cc) = (false, eval msg (ksEnv q scope L fI (.ref cda) cc)) :: starEach [] (ksEnv q scope L fI (.ref cda) cc) := by rfl)
    (hsw : swapsWith (.Call (.Attribute (.Call (.Name "super" p0) [] [] p1) "__init__" p2) [msg] [] p3) none p4.line (ksEnv q scope L fI (.ref cda) cc) = pure false := by rfl)
    (hmc : eval (.Call (.Attribute (.Call (.Name "super" p0) [] [] p1) "__init__" p2) [msg] [] p3) (ksEnv q scope L fI (.ref cda) cc) = (do
      let ov ← attributeBase (.Call (.Name "super" p0) [] [] p1) "__init__" (ksEnv q scope L fI (.ref cda) cc) (eval (.Call (.Name "super" p0) [] [] p1) (ksEnv q scope L fI (.ref cda) cc))
      standAt p2.atName
      let (f, first) ← holding [ov] (getMethod ov "__init__" pl)
      callWith p3 f first (backTo p3 (starEach [msg] (ksEnv q scope L fI (.ref cda) cc))) []) := by rfl) :
    PySem.wpAt (model prog w) A (.func body (ksEnv q scope L fI (.ref cda) cc)) (exec (.Expr (.Call (.Attribute (.Call (.Name "super" p0) [] [] p1) "__init__" p2) [msg] [] p3) p4) (ksEnv q scope L fI (.ref cda) cc)) Q E s := by
  obtain ⟨nm, q0, N, bs, bm, sn, sub, ab, col, dd, k0, k1, k2, k3, k5, hC, hbm⟩ := T.cls
  obtain ⟨cl, cld, csl, hcell⟩ := T.cell
  obtain ⟨ccl, cdd, vs, ccs, tf, hcode, hvs⟩ := T.code
  obtain ⟨mb, hb1, hb2⟩ := Mo.blt
  have X : K.In s.heap := Mo.kin.keeps kb
  have hcl := clsIn_of hC
  have hss : alongIn K "__init__" (((Value.ref C :: bm).dropWhile (· != .ref C)).drop 1) = some (some (.builtin "ValueError.__init__")) := by
    have z := T.sup
    unfold ks_superIn at z
    rw [hcl] at z
    exact z
  have Ix : InstAt s.heap x (excO C t0) C none := ⟨hx, rfl, rfl, trivial⟩
  have hxC : x ≠ C := ks_ne X Ix hcl
  obtain ⟨hh, g, d, t, os⟩ := s
  refine ks_wpAt_Expr_any (ks_wpAt_MethodCall (pl := pl) ?_ hmc) hin hsw
  refine ks_wpAt_super_base (env := ksEnv q scope L fI (.ref cda) cc) hks hkc rfl rfl (X _ _ hf) rfl hp rfl (X _ _ hcode) rfl hvs (beq_self_eq_true _) T.top ?_
  refine ks_loadName_global hk hks (loadGlobal_builtin (env := ksEnv q scope L fI (.ref cda) cc) (Mo.glob.keeps kb) T.mS (hb1.keeps kb) ((hb2 _ (by decide)).trans (by decide +kernel : bootBuiltins "super" = some (.type "super"))) ⟨rfl, ?_⟩)
  refine wpAny_loadName_free hk hkc rfl ⟨_, X _ _ hcell, rfl⟩ ?_
  rw [har]
  refine wpAny_loadName_local hk hka hns hv ?_
  refine ks_wpAny_isType_cls (X _ _ hC) rfl ⟨rfl, ?_⟩
  refine ks_wpAny_call_super (X _ _ hC) rfl hx rfl (fun c e => by cases e) (looks_mroIn X T.self) (fun h1 e1 kk1 => ?_)
  have X1 : K.In h1 := X.keeps kk1
  have hx1 := kk1 _ _ hx
  have I1 : InstAt h1 x (excO C t0) C none := ⟨hx1, rfl, rfl, trivial⟩
  refine kxs_getMethod kxs_ValueError e1 (looks_opaque X1 T.opq) (l₀ := .ref C :: bm) (fun A Q E s k q => wpAny_bind ((looks_clsIn X1 hcl) A _ E s k (wpAny_pure q))) rfl X1 hss (I1.type.andThen (looks_subIn X1 T.supB)) hxC rfl ?_
  have hns1 : (h1.push (kxs_mw "ValueError.__init__" x)).Ns L m := hns.keeps fun b o e => Heap.get?_push_of_some _ (kk1 b o e)
  rw [he]
  refine kxs_callWith (i := "ValueError.__init__") (x := x) rfl (evalArgs_plain (Calls.spliced_cons (hmsg _ _ hns1 fun z tk n => Calls.spliced_nil ⟨?_, ?_⟩)))
  · exact Heap.get?_push_size _ rfl
  · refine call_mw (Heap.get?_push_of_some _ (X1 _ _ hC)) (Heap.get?_push_of_some _ hx1) (Heap.get?_push_size _ rfl) (show 1 ≤ sizeLine by decide) fun h' t1 k e => ?_
    exact hq h' _ t1 (fun b o hb ho => k b o hb (Heap.get?_push_of_some _ (kk1 b o ho))) e
end
/-! ### the text -/
def TxE (prog : Program) (w : World) (env : Env) (m : Str → Option Value) (e : Expr) : Prop := ∀ (A : Around) (E : Value → Shared → Prop) (s : Shared) (Q : Value → Shared → Prop), s.heap.Ns env.locals m →
  (∀ (z : Str) tk n, z.length ≤ 100000 → Q (.str z tk) { s with toks := n }) → wpAny (model prog w) A (eval e env) Q E s
/-- what {x!r} is written of -/
def MsgV (v : Value) : Prop := (∃ i t, v = .int i t ∧ i.natAbs.log2 < 1920) ∨ ∃ y t, v = .str y t ∧ (reprText y).length ≤ 100000
section
variable {prog : Program} {w : World} {env : Env} {m : Str → Option Value}
theorem small_size {n : Nat} (h : n ≤ 100000) : n ≤ sizeLine := Nat.le_trans h (by decide)
theorem tx_const {z : Str} {k : Nat} {pos : Pos} (h : z.length ≤ 100000) : TxE prog w env m (.Constant (.str z) k pos) := fun A E s Q _ q => by
  rw [eval_Constant]
  exact wpAny_mkText (q z _ _ h)
theorem ld_name {A : Around} {E : Value → Shared → Prop} {s : Shared} {Q : Value → Shared → Prop} {x : Str} {p : Pos} {v : Value} (hn : s.heap.Ns env.locals m) (hv : m x = some v) (hk : env.scope.kind = .function) (hl : env.kindOf x = some .local) (h : Q v s) (hd : (x == ("__debug__" : Str)) = false := by decide) :
    wpAny (model prog w) A (eval (.Name x p) env) Q E s := wpAny_Name (wpAny_loadName_local hk hl hn hv h) hd
theorem tx_repr {x : Str} {p pos : Pos} {v : Value} (hv : m x = some v) (ok : MsgV v) (hk : env.scope.kind = .function) (hl : env.kindOf x = some .local) (hd : (x == ("__debug__" : Str)) = false := by decide) : TxE prog w env m (.FormattedValue (.Name x p) 114 none pos) := fun A E s Q hn q => by
  refine wpAny_FormattedValue_repr (ld_name hn hv hk hl ?_ hd)
  rcases ok with ⟨i, t, rfl, hz⟩ | ⟨y, t, rfl, hz⟩
  · have hl : (Str.ofString (toString i)).length ≤ 100000 := by
      have e := int_text_length_le (k := 1920) (by decide) hz
      rw [PySem.ofString_length]; omega
    exact pyReprObj_int hz (wpAny_formatField_str (q _ _ _ hl) (q _ _ _ hl) (small_size hl))
  · exact pyReprObj_str (wpAny_formatField_str (q _ _ _ hz) (q _ _ _ hz) (small_size hz)) (small_size hz)
inductive TxP (prog : Program) (w : World) (env : Env) (m : Str → Option Value) : List Expr → Prop where
  | nil : TxP prog w env m []
  | cons {e : Expr} {es : List Expr} (h : TxE prog w env m e) (r : TxP prog w env m es) : TxP prog w env m (e :: es)
theorem txp_run {es : List Expr} (h : TxP prog w env m es) : ∀ (A : Around) (E : Value → Shared → Prop) (acc : Str) (s : Shared) (R : Str → Shared → Prop), acc.length + 100000 * es.length ≤ sizeLine → s.heap.Ns env.locals m →
    (∀ out n, out.length ≤ sizeLine → R out { s with toks := n }) → Joins (model prog w) A E (evalEach es env) acc R s := by
  induction h with
  | nil =>
    intro A E acc s R hz hn k
    have e0 : evalEach [] env = [] := by first | rfl | simp [evalEach]
    rw [e0]
    exact k acc s.toks (by simpa using hz)
  | @cons e es he r ih =>
    intro A E acc s R hz hn k
    have e0 : evalEach (e :: es) env = eval e env :: evalEach es env := by first | rfl | simp [evalEach]
    rw [e0]
    rw [List.length_cons] at hz
    refine he A E s _ hn fun z tk n hl => ⟨z, tk, rfl, ?_, ?_⟩
    · rw [Str.length_append]; omega
    · refine ih A E (acc ++ z) { s with toks := n } R (by rw [Str.length_append]; omega) hn fun out n' ho => ?_
      exact k out n' ho
theorem tx_joined {v1 v2 : Expr} {rest : List Expr} {pos : Pos} {A : Around} {E : Value → Shared → Prop} {s : Shared} {Q : Value → Shared → Prop} (h : TxP prog w env m (v1 :: v2 :: rest)) (hz : 100000 * (v1 :: v2 :: rest).length ≤ sizeLine) (hn : s.heap.Ns env.locals m)
    (q : ∀ (z : Str) tk n, Q (.str z tk) { s with toks := n }) : wpAny (model prog w) A (eval (.JoinedStr (v1 :: v2 :: rest) pos) env) Q E s :=
  wpAny_JoinedStr (txp_run h A E Str.empty s _ (by rw [show Str.empty.length = 0 from rfl, Nat.zero_add]; exact hz) hn fun out n ho => ⟨ho, q out _ _⟩)
end
/-! ### __init__ of one argument -/
/-- the text of def __init__(self, f): super().__init__(msg); self.f = f -/
structure Sh1 (prog : Program) (w : World) (st : Stmt) (f : Str) : Prop where
  body : ∃ (msg : Expr) (p0 p1 p2 p3 p4 q1 q2 q3 q4 : Pos) (pl : Sem Bool), defBody st = [.Expr (.Call (.Attribute (.Call (.Name "super" p0) [] [] p1) "__init__" p2) [msg] [] p3) p4, .Assign [.Attribute (.Name "self" q1) f q2] (.Name f q3) q4] ∧
    (∀ (q : Str) (L fI cda cc : Addr) (m : Str → Option Value) (v : Value) (A : Around) (E : Value → Shared → Prop) (s : Shared) (Q : Value → Shared → Prop), m f = some v → MsgV v → s.heap.Ns L m → (∀ (z : Str) tk n, Q (.str z tk) { s with toks := n }) →
      wpAny (model prog w) A (eval msg (ksEnv q (defScope st) L fI (.ref cda) cc)) Q E s) ∧
    (∀ (q : Str) (L fI cda cc : Addr), interactive (ksEnv q (defScope st) L fI (.ref cda) cc) = false ∧ starEach [msg] (ksEnv q (defScope st) L fI (.ref cda) cc) = (false, eval msg (ksEnv q (defScope st) L fI (.ref cda) cc)) :: starEach [] (ksEnv q (defScope st) L fI (.ref cda) cc) ∧
      swapsWith (.Call (.Attribute (.Call (.Name "super" p0) [] [] p1) "__init__" p2) [msg] [] p3) none p4.line (ksEnv q (defScope st) L fI (.ref cda) cc) = pure false ∧
      eval (.Call (.Attribute (.Call (.Name "super" p0) [] [] p1) "__init__" p2) [msg] [] p3) (ksEnv q (defScope st) L fI (.ref cda) cc) = (do
        let ov ← attributeBase (.Call (.Name "super" p0) [] [] p1) "__init__" (ksEnv q (defScope st) L fI (.ref cda) cc) (eval (.Call (.Name "super" p0) [] [] p1) (ksEnv q (defScope st) L fI (.ref cda) cc))
        standAt p2.atName
        let (f, first) ← holding [ov] (getMethod ov "__init__" pl)
        callWith p3 f first (backTo p3 (starEach [msg] (ksEnv q (defScope st) L fI (.ref cda) cc))) []) ∧
      swapsWith (.Name f q3) (some (.Attribute (.Name "self" q1) f q2)) q4.line (ksEnv q (defScope st) L fI (.ref cda) cc) = pure false)
  head : ∃ ar, ((defArgs st).posonlyargs ++ (defArgs st).args).head? = some ar ∧ ar.arg = "self"
  ks : (defScope st).names.lookup ("super" : Str) = some .globalImplicit
  kc : (defScope st).names.lookup ("__class__" : Str) = some .free
  ka : (defScope st).names.lookup ("self" : Str) = some .local
  kf : (defScope st).names.lookup f = some .local
  fd : (f == ("__debug__" : Str)) = false
  fs : (("self" : Str) == f) = false
  k : (defScope st).kind = .function
  co : (defScope st).isCoroutine = false
  gen : (defScope st).isGenerator = false
  nocell : ∀ x ∈ (defScope st).names, x.2 ≠ .cell
  binds : ∀ (s : Shared) (x : Addr) (v : Value) (qual : Str) (doc pm : Value) (an : Option Addr) (cda cc : Addr) (ct : Value), BindsTo s (ksFn "__init__" qual (defArgs st) (defBody st) (defScope st) .none .none doc pm an (.ref cda) ct cc) ⟨[.ref x, v], []⟩ [("self", .ref x), (f, v)]
/-- what __init__ leaves of a fresh exception at x -/
structure IEnd (h h' : Heap) (x C dx t1 : Addr) (mA : Str → Option Value) : Prop where
  keep : ∀ b o, b ≠ x → h.get? b = some o → h'.get? b = some o
  obj : h'.get? x = some { cls := .ref C, dict := some dx, data := .fields #[.ref t1, .none, .none, .none, .bool false, .none] }
  dbig : h.objs.size ≤ dx
  dne : dx ≠ x
  ns : h'.Ns1 dx mA
section
variable {prog : Program} {w : World} {A : Around} {E : Value → Shared → Prop} {R : Result → Shared → Prop} {s : Shared} {K : Frag} {mg : Str → Option Value} {base : Heap}
theorem init1 {C fI cc cda x t0 : Addr} {st : Stmt} {f qual : Str} {oc doc pm ct : Value} {od an : Option Addr} {osl : Array (Option Value)} {v : Value} (S : Sh1 prog w st f) (T : Txt prog K mg C fI cc cda) (Mo : Mod K mg base) (kb : ∀ b o, base.get? b = some o → s.heap.get? b = some o)
    (hf : K.lookup fI = some ⟨oc, od, .func (ksFn "__init__" qual (defArgs st) (defBody st) (defScope st) .none .none doc pm an (.ref cda) ct cc), osl⟩) (hcd : codeIn K (.ref cda) qual = true) (noN : findIn K (.ref C) f = some none)
    (hx : s.heap.get? x = some (excO C t0)) (hnx : K.lookup x = none) (hroom : A.depth < recursionLimit) (ok : MsgV v)
    (hq : ∀ h' tk dx t1, IEnd s.heap h' x C dx t1 (fun y => if y = f then some v else none) → R (.ok (.ret .none)) { s with heap := h', toks := tk }) :
    codeAny (model prog w) A (.call (.ref fI) ⟨[.ref x, v], []⟩) R s := by
  obtain ⟨msg, p0, p1, p2, p3, p4, q1, q2, q3, q4, pl, hb, hmsg, hev⟩ := S.body
  obtain ⟨ar, har, hself⟩ := S.head
  obtain ⟨nm, q0, N, bs, bm, sn, sub, ab, col, dd, k0, k1, k2, k3, k5, hC, hbm⟩ := T.cls
  have hcl := clsIn_of hC
  have X : K.In s.heap := Mo.kin.keeps kb
  refine ks_codeAny_call_defAt (fd := ksFn "__init__" qual (defArgs st) (defBody st) (defScope st) .none .none doc pm an (.ref cda) ct cc) (body := defBody st) (binds := [("self", .ref x), (f, v)]) hroom (X _ _ hf) rfl (Mo.nolimit.keeps kb) (codeRec_of X hcd) rfl (S.binds s x v qual doc pm an cda cc ct) S.nocell (fun y hy => ?_) (fun h1 hns k1 => ?_) S.co S.gen S.k
  · rcases List.mem_cons.mp hy with rfl | hy
    · exact S.ka
    · rw [List.mem_singleton.mp hy]; exact S.kf
  · have hx1 := k1 _ _ hx
    have kb1 : ∀ b o, base.get? b = some o → h1.get? b = some o := fun b o e => k1 b o (kb b o e)
    obtain ⟨e0, e1, e2, e3, e4⟩ := hev qual s.heap.objs.size fI cda cc
    have hv1 : (fun y => List.lookup y [(("self" : Str), Value.ref x), (f, v)].reverse) "self" = some (.ref x) := by
      show List.lookup ("self" : Str) ([(f, v), (("self" : Str), Value.ref x)] : List (Str × Value)) = _
      simp [List.lookup, S.fs]
    have hv2 : (fun y => List.lookup y [(("self" : Str), Value.ref x), (f, v)].reverse) f = some v := by
      show List.lookup f ([(f, v), (("self" : Str), Value.ref x)] : List (Str × Value)) = _
      simp [List.lookup]
    show PySem.wpAt (model prog w) (A.deeper (ksEnv qual (defScope st) s.heap.objs.size fI (.ref cda) cc)) (.func (defBody st) (ksEnv qual (defScope st) s.heap.objs.size fI (.ref cda) cc)) (execs (defBody st) (ksEnv qual (defScope st) s.heap.objs.size fI (.ref cda) cc)) _ _ _
    generalize hbb : defBody st = bb at hb ⊢
    rw [hb]
    refine ks_wpAt_execs_cons (super_stmt (pl := pl) T Mo kb1 hf har hself S.ks S.kc S.ka S.k hns hv1 hx1 (fun s' Q' hn q => hmsg _ _ _ _ _ _ v _ _ _ _ hv2 ok hn q) (fun h2 tk2 t1 k2 hx2 => ?_) e0 e1 e2 e3)
    refine wpAt_of_wpAny ?_
    have hL : s.heap.objs.size ≠ x := Nat.ne_of_gt (Heap.lt_size hx)
    obtain ⟨oL, es, ep, hoL, hr⟩ := hns
    have hns2 : h2.Ns s.heap.objs.size (fun y => List.lookup y [(("self" : Str), Value.ref x), (f, v)].reverse) := ⟨oL, es, ep, k2 _ _ hL hoL, hr⟩
    have X2 : K.In h2 := fun b o e => k2 b o (fun z => by rw [z, hnx] at e; cases e) (k1 b o (X _ _ e))
    refine wpAny_execs_cons (plainObj_wpAny_Assign_Attribute ?_ e4)
    refine ld_name (v := v) hns2 hv2 S.k S.kf (ld_name (v := .ref x) hns2 hv1 S.k S.ka ?_) S.fd
    refine set_plain X2 (ox := excO C t1) (od := none) ⟨hx2, rfl, rfl, trivial⟩ T.sa ?_
    refine PySem.HandSPX.exc_osa X2 hx2 hcl (show refsVE (.ref C :: bm) = true from hbm) rfl noN (fun h3 tk3 dx k3 dn dne hx3 hn3 => ?_)
    have z : s.heap.objs.size ≤ h2.objs.size := Nat.le_of_lt (Heap.lt_size (k2 _ _ hL hoL))
    exact wpAny_execs_nil (hq h3 _ dx t1 ⟨fun b o hb e => k3 b o hb (k2 b o hb (k1 b o e)), hx3, Nat.le_trans z dn, dne, hn3⟩)
/-- a made error: its own dict d holds the field -/
structure Made (h h' : Heap) (e C d : Addr) (mA : Str → Option Value) : Prop where
  keep : ∀ b o, h.get? b = some o → h'.get? b = some o
  new : h.objs.size ≤ e
  obj : ∃ oe vs, h'.get? e = some oe ∧ oe.cls = .ref C ∧ oe.dict = some d ∧ oe.data = .fields vs ∧ vs[1]? = some .none
  dbig : h.objs.size ≤ d
  dne : d ≠ e
  ns : h'.Ns1 d mA
/-- all that is told of an own error class of one argument -/
structure Cls1 (prog : Program) (w : World) (K : Frag) (mg : Str → Option Value) (cn f : Str) (C : Addr) : Prop where
  ex : ∃ (fI cc cda : Addr) (st : Stmt) (qual : Str) (oc doc pm ct : Value) (od an : Option Addr) (osl : Array (Option Value)), Sh1 prog w st f ∧ Txt prog K mg C fI cc cda ∧
    K.lookup fI = some ⟨oc, od, .func (ksFn "__init__" qual (defArgs st) (defBody st) (defScope st) .none .none doc pm an (.ref cda) ct cc), osl⟩ ∧ codeIn K (.ref cda) qual = true
  gC : mg cn = some (.ref C)
  kC : keepIn K (.ref C) = true
  noN : findIn K (.ref C) f = some none
  exC : subIn K (.ref C) (.type "BaseException") = some true
  tyC : typeIn K (.ref C) = some (.type "type")
theorem one_size (v : Value) : [v].length ≤ sizeLine := by
  rw [sizeLine_eq]
  exact (by decide : 1 ≤ 16777216)
theorem made1 {cn f : Str} {C : Addr} {v : Value} (Z : Cls1 prog w K mg cn f C) (Mo : Mod K mg base) (kb : ∀ b o, base.get? b = some o → s.heap.get? b = some o) (hroom : A.depth + 1 < recursionLimit) (ok : MsgV v)
    (hq : ∀ h' tk e d, Made s.heap h' e C d (fun y => if y = f then some v else none) → R (.ok (.ret (.ref e))) { s with heap := h', toks := tk }) :
    codeAny (model prog w) A (.call (.ref C) ⟨[v], []⟩) R s := by
  obtain ⟨fI, cc, cda, st, qual, oc, doc, pm, ct, od, an, osl, S, T, hf, hcd⟩ := Z.ex
  obtain ⟨nm, q, N, bs, bm, sn, sub, ab, col, dd, k0, k1, k2, k3, k5, hC, hbm⟩ := T.cls
  have X : K.In s.heap := Mo.kin.keeps kb
  obtain ⟨hp, g, dr, tk, os⟩ := s
  have k : ∀ b o, hp.get? b = some o → ((hp.push (kdv_tup [v])).push (excO C hp.objs.size)).get? b = some o := fun b o e => Heap.get?_push_of_some _ (Heap.get?_push_of_some _ e)
  have hget : ((hp.push (kdv_tup [v])).push (excO C hp.objs.size)).get? (hp.objs.size + 1) = some (excO C hp.objs.size) := by heap_get
  have hnx : K.lookup (hp.objs.size + 1) = none := by
    cases e : K.lookup (hp.objs.size + 1) with
    | none => rfl
    | some o =>
      have z : hp.get? (hp.objs.size + 1) = some o := X _ _ e
      exact absurd (Nat.lt_of_succ_lt (Heap.lt_size z)) (Nat.lt_irrefl _)
  refine PySem.HandSPX.call_own F.excBase_ValueError (fun X => PySem.HandSPX.refsVE_contains X bm hbm) (X _ _ hC) (looks_findIn X T.iC) (fun self => bind_fn X self T.tI) (one_size v) ?_
  refine init1 (s := ⟨(hp.push (kdv_tup [v])).push (excO C hp.objs.size), g, dr, tk, os⟩) S T Mo (fun b o e => k b o (kb b o e)) hf hcd Z.noN hget hnx ?_ ok fun h' tk' dx t1 ⟨k', hx, dn, dne, hns⟩ => ?_
  · show A.depth + 1 < recursionLimit
    exact hroom
  · have old : ∀ b o, hp.get? b = some o → h'.get? b = some o := fun b o e => k' b o (Nat.ne_of_lt (Nat.lt_succ_of_lt (Heap.lt_size e))) (k b o e)
    have z : hp.objs.size + 1 + 1 ≤ dx := by
      first
        | (simpa only [Heap.size_push] using dn)
        | exact dn
        | (have q := dn; rw [Heap.size_push, Heap.size_push] at q; exact q)
    exact ⟨rfl, hq h' tk' (hp.objs.size + 1) dx ⟨old, Nat.le_succ _, ⟨_, _, hx, rfl, rfl, rfl, rfl⟩, Nat.le_trans (Nat.le_trans (Nat.le_succ _) (Nat.le_succ _)) z, dne, hns⟩⟩
end
theorem relO_one {f : Str} {v : V} {v' : Value} (r : RelV v v') (g : Str) : RelO (List.lookup g [(f, v)]) (if g = f then some v' else none) := by
  by_cases hw : g = f
  · subst hw
    rw [if_pos rfl]
    have q : List.lookup g [(g, v)] = some v := by simp [List.lookup]
    rw [q]
    exact r
  · rw [if_neg hw]
    have qw : (g == f) = false := by simpa using hw
    have q2 : List.lookup g [(f, v)] = none := by simp [List.lookup, qw]
    rw [q2]
    trivial
/-- what may be written in the message: ints below 2 ^ 1920, short texts -/
def MsgA (v : V) : Prop := (∃ i, v = .int i ∧ i.natAbs.log2 < 1920) ∨ ∃ y, v = .str y ∧ (reprText y).length ≤ 100000
theorem MsgA.v {v : V} {u : Value} (h : MsgA v) (r : RelV v u) : MsgV u := by
  rcases h with ⟨i, rfl, h⟩ | ⟨y, rfl, h⟩
  · obtain ⟨t, rfl⟩ := r; exact .inl ⟨i, t, rfl, h⟩
  · obtain ⟨t, rfl⟩ := r; exact .inr ⟨y, t, rfl, h⟩
section
variable {X : Cx} {C : Addr}
/-- the error of one argument, made -/
def tMk1 (C : Addr) (f : Str) (ta : TA) : L2.St → Hp → XK → Prop := fun σ H Q => ta σ H fun vs H1 => ∃ v, vs = [v] ∧ MsgA v ∧ ∀ d, H1 d = none → Q (.ref C) (some d) (upd H1 d (.xd [(f, v)]))
theorem pmk1 {cn f : Str} {a : Expr} {ta : TA} {p pos : Pos} {k : Nat} (Z : Cls1 X.prog X.w X.K X.mg cn f C) (hr : Room k X.A) (ha : PA X [a] ta) (hg : Gl X cn := by rfl) (hdb : (cn == ("__debug__" : Str)) = false := by decide)
    (he : starEach (a :: []) X.env = (false, eval a X.env) :: starEach [] X.env := by rfl) (hpl : (backTo pos (starEach [] X.env)).any (·.1) = false := by rfl) :
    PMk X (.Call (.Name cn p) [a] [] pos) (tMk1 C f ta) := by
  intro pins s σ H Q I h
  refine wpAny_Call_Name_kw (ld_glob I hg Z.gC ?_ hdb)
  refine PySem.W.callWith_K (h₀ := X.base) I.ok.mod.kin Z.kC (thn (ha.run pos pins s σ H _ I h) fun us s1 hh => ?_) he hpl
  obtain ⟨vs, H1, I1, r1, v, ev, hok, q1⟩ := hh
  subst ev
  refine ⟨I1.kIn, ?_⟩
  cases r1 with
  | cons rv rn =>
    rename_i v' us'
    cases rn
    show wpAny _ _ (call (.ref C) [v']) _ _ _
    have hbk := I1.bk
    obtain ⟨hp, g, dr, tk, os⟩ := s1
    refine wpAny_call (made1 Z I1.mod hbk (by have := hr.dp; omega) (hok.v rv) fun h' tk' e d M => ?_)
    show MkP X pins σ Q (.ref e) ⟨h', g, dr, tk', os⟩
    obtain ⟨oe, fv, hoe, hc, hd, hdat, h1⟩ := M.obj
    have hns := M.ns
    obtain ⟨G', g1, g2⟩ := restrict h' fun b => decide (b ≠ e)
    have gk : ∀ b, b ≠ e → G'.get? b = h'.get? b := fun b hb => g1 b (decide_eq_true hb)
    have ge : G'.get? e = none := g2 e (by simp)
    have old : ∀ b o, hp.get? b = some o → G'.get? b = some o := fun b o q => (gk b (Nat.ne_of_lt (Nat.lt_of_lt_of_le (Heap.lt_size q) M.new))).trans (M.keep b o q)
    have ob : ObjOk X.prog X.w (upd H1 d (.xd [(f, v)])) G' d (.xd [(f, v)]) :=
      ⟨_, hns.at (fun o q => (gk d M.dne).trans q), fun g => relO_one rv g⟩
    have J : Inv X pins σ (upd H1 d (.xd [(f, v)])) ⟨G', g, dr, tk', os⟩ := I1.laid (t' := tk') old M.dbig ob
    refine ⟨e, oe, fv, ⟨G', g, dr, tk', os⟩, _, .ref C, some d, rfl, J, fun b o q => ?_, ge, hoe, ⟨hc, hd⟩, hdat, h1, ?_, rfl, I1.bare, raises_own Z.exC Z.tyC, q1 d (I1.hok.fresh M.dbig)⟩
    · by_cases hb : b = e
      · have q' : G'.get? b = some o := q
        rw [hb, ge] at q'; cases q'
      · exact (gk b hb).symm.trans q
    · rw [upd_ne (Ne.symm M.dne)]
      exact I1.hok.fresh M.new
/-- raise C(e) -/
def tRaise1 (C : Addr) (f : Str) (W : WX) (ta : TA) : TS := fun _ σ H => tMk1 C f ta σ H fun cls d H' => W cls d σ H'
theorem ps_raise1 {cn f : Str} {a : Expr} {ta : TA} {W : WX} {p pos pos2 : Pos} {k : Nat} (hc : X.calm = true) (Z : Cls1 X.prog X.w X.K X.mg cn f C) (hr : Room k X.A) (tk : Takes X W) (ha : PA X [a] ta) (hg : Gl X cn := by rfl) (hdb : (cn == ("__debug__" : Str)) = false := by decide)
    (he : starEach (a :: []) X.env = (false, eval a X.env) :: starEach [] X.env := by rfl) (hpl : (backTo pos (starEach [] X.env)).any (·.1) = false := by rfl) :
    PS X (.Raise (some (.Call (.Name cn p) [a] [] pos)) none pos2) (tRaise1 C f W ta) := ps_raise hc tk (pmk1 Z hr ha hg hdb he hpl)
end
theorem r_raise1 {C : Addr} {f : Str} {W : WX} {ta : TA} {D : Ends} {σ : L2.St} {H : Hp} (k : ta σ H fun vs H1 => ∃ v, vs = [v] ∧ MsgA v ∧ ∀ d, H1 d = none → W (.ref C) (some d) σ (upd H1 d (.xd [(f, v)]))) : tRaise1 C f W ta D σ H := k
theorem r_msgI {i : Int} {F : V → Prop} (h : i.natAbs < 2 ^ 1000) (k : F (.int i)) : ∃ v, [V.int i] = [v] ∧ MsgA v ∧ F v := ⟨_, rfl, .inl ⟨i, rfl, Nat.lt_trans (log2_of h (by decide)) (by decide)⟩, k⟩
theorem r_xf {a C : Addr} {cls : Value} {d : Option Addr} {f : Str} {te : TE} {σ : L2.St} {H : Hp} {Q : VK}
    (k : te σ H fun x H1 => x = .ref a ∧ cls = .ref C ∧ ∃ (dd : Addr) (fs : List (Str × V)) (v : V), d = some dd ∧ H1 dd = some (.xd fs) ∧ fs.lookup f = some v ∧ Q v H1) : tXf a cls d C f te σ H Q := k
theorem r_xfE {a C dd : Addr} {f : Str} {H : Hp} {fs : List (Str × V)} {v : V} {Q : V → Prop} (hd : H dd = some (.xd fs)) (hv : fs.lookup f = some v) (k : Q v) :
    V.ref a = .ref a ∧ Value.ref C = .ref C ∧ ∃ (dd' : Addr) (fs : List (Str × V)) (v : V), some dd = some dd' ∧ H dd' = some (.xd fs) ∧ fs.lookup f = some v ∧ Q v := ⟨rfl, rfl, dd, fs, v, rfl, hd, hv, k⟩
theorem kit_self {K : PySem.W.Frag} {C : Addr} : PySem.W.kitOne K (.ref C) (.ref C) = some true := by
  unfold PySem.W.kitOne
  rw [if_pos (beq_self_eq_true _)]
theorem kit_refs {K : PySem.W.Frag} {C D : Addr} {b : Bool} (hdct : PySem.W.hasDictIn K D = true) (ht : PySem.W.typeIn K (.ref D) = some (.type "type")) (h4 : PySem.W.subIn K (.ref C) (.ref D) = some b) (hq : (Value.ref C == Value.ref D) = false) : PySem.W.kitOne K (.ref C) (.ref D) = some b := by
  obtain ⟨cd, hc, _⟩ := PySem.W.any_some hdct
  have e2 : ((PySem.W.clsIn K D).isSome && PySem.W.typeIn K (.ref D) == some (.type "type")) = true := by rw [hc, ht] <;> rfl
  unfold PySem.W.kitOne
  rw [if_neg (by rw [hq]; decide)]
  show (if ((PySem.W.clsIn K D).isSome && PySem.W.typeIn K (.ref D) == some (.type "type")) = true then PySem.W.subIn K (.ref C) (.ref D) else none) = some b
  rw [if_pos e2]
  exact h4
theorem kit_typ {K : PySem.W.Frag} {C : Addr} {T : String} {b : Bool} (hm : PySem.W.kitMeta T = true) (h4 : PySem.W.subIn K (.ref C) (.type T) = some b) : PySem.W.kitOne K (.ref C) (.type T) = some b := by
  unfold PySem.W.kitOne
  rw [if_neg (by show ¬ (Value.ref C == Value.type T) = true; intro z; cases (beq_iff_eq.mp z))]
  show (if PySem.W.kitMeta T = true then PySem.W.subIn K (.ref C) (.type T) else none) = some b
  rw [if_pos hm]
  exact h4
/-- the comparison within an except suite -/
theorem op_eqDK {X : Cx} {K : PySem.W.Frag} (hK : X.K = K) (hu : X.A.units + 64 < cLine) : OpR X (compareOp .Eq) (rEqD K) := by subst hK; exact op_eqD hu
theorem op_neDK {X : Cx} {K : PySem.W.Frag} (hK : X.K = K) (hu : X.A.units + 64 < cLine) : OpR X (compareOp .NotEq) (rNeD K) := by subst hK; exact op_neD hu
/-! ### isinstance(e, c), e a caught error of an own class with its dict -/
def rIsD (K : PySem.W.Frag) (a : Addr) (cls : Value) (d : Option Addr) : List V → Hp → VK → Prop := fun xs H Q => ∃ (D dd : Addr) (fs : List (Str × V)) (c : V) (cv : Value) (b : Bool), cls = .ref D ∧ d = some dd ∧ ExcC K D ∧ xs = [.ref a, c] ∧ H dd = some (.xd fs) ∧ (∀ u, RelV c u → u = cv) ∧ PySem.W.kitOne K (.ref D) cv = some b ∧ Q (.bl b) H
theorem call_isD {X : Cx} {a : Addr} {cls : Value} {d : Option Addr} {oe : Obj} {pn : List (Addr × Obj)} (hz : Zc cls d oe) (hf : ∃ vs, oe.data = .fields vs) : CallR (X.suite a ((a, oe) :: pn)) (.builtin "isinstance") (rIsD X.K a cls d) := by
  intro pins s σ H xs us Q I r h
  obtain ⟨D, dd, fs, c, cv, b, rfl, rfl, C, rfl, hdd, hcv, e, q⟩ := h
  cases r with
  | cons rx rr =>
    cases rr with
    | cons rt rr =>
      cases rr
      cases rx
      have ec := hcv _ rt
      subst ec
      obtain ⟨hget, _⟩ := I.pin (a, oe) (List.mem_append.mpr (.inl List.mem_cons_self))
      obtain ⟨vs, hv⟩ := hf
      have hx : ObjOk X.prog X.w H s.heap dd (.xd fs) := I.hok dd _ hdd
      obtain ⟨mA, ⟨od, es, ep, ho, hr⟩, hl⟩ := hx
      have J : PySem.W.InstAt s.heap a oe D (some od) := by
        refine ⟨hget, hz.1, by unfold PySem.W.notCls; rw [hv] <;> rfl, ?_⟩
        rw [hz.2]; exact ho
      obtain ⟨cd, hcd, _⟩ := PySem.W.any_some C.hd
      exact PySem.W.kia_one (PySem.W.kitx_exc (by rw [hcd]; rfl) C.hg C.hk C.hs C.ha C.hn C.ht C.hm) I.kIn J e (fun z => nomatch z) fun tk => ⟨.bl b, H, I.kept (t' := tk) fun _ _ z => z, rfl, q⟩
theorem r_isD {K : PySem.W.Frag} {a D dd : Addr} {fs : List (Str × V)} {c : V} {cv : Value} {b : Bool} {H : Hp} {Q : VK} (C : ExcC K D) (hd : H dd = some (.xd fs)) (hc : ∀ u, RelV c u → u = cv) (hk : PySem.W.kitOne K (.ref D) cv = some b) (k : Q (.bl b) H) :
    rIsD K a (.ref D) (some dd) [.ref a, c] H Q := ⟨D, dd, fs, c, cv, b, rfl, rfl, C, rfl, hd, hc, hk, k⟩
end Er
/-! ### operators of own classes, over the layer -/
namespace Ow
open PySem.W PySem.Calls
theorem inst_of {X : Cx} {pins : List (Addr × Obj)} {σ : L2.St} {H : Hp} {s : Shared} {a C dx : Addr} {fs : List (Str × V)} (I : Inv X pins σ H s) (h : H a = some (.ins C dx fs)) : ∃ ox od, InstAt s.heap a ox C od ∧ ox.data = .plain := by
  obtain ⟨mA, O, _⟩ := ins_get I.hok h
  obtain ⟨od, J, _⟩ := O.look
  exact ⟨_, _, J, rfl⟩
theorem not_ni {v : V} {u : Value} (r : RelV v u) : u ≠ .notImplemented := by
  rintro rfl
  cases v <;> first | (cases r; done) | (obtain ⟨t, e⟩ := r; cases e)
theorem cmpBack {X : Cx} {pins : List (Addr × Obj)} {σ : L2.St} {Q : VK} {u : Value} {s : Shared} (h : EP X pins σ Q u s) : PySem.W.CmpBack (EP X pins σ Q) u s := by
  obtain ⟨v, H', I, r, q⟩ := id h
  have n := not_ni r
  cases u <;> first | exact h | exact absurd rfl n
section
variable {X : Cx} {CX : CXT} {k : Nat} {C f : Addr} {sp : Sp} {E : XK}
/-- the callee, with values -/
theorem run_own {pins : List (Addr × Obj)} {σ : L2.St} {H : Hp} {s : Shared} {Q : VK} {us : List Value} {vs : List V} (F : FnR X.prog X.w X.K X.mg X.base CX k f sp) (hr : Room k X.A) (hx : Passes CX X E) (I : Inv X pins σ H s) (r : Vals vs us) (h : sp vs H Q E) :
    wpAny (model X.prog X.w) X.A (call (.ref f) us) (EP X pins σ Q) X.xe s := wpAny_call (run_fnR F hr hx I r h)
/-- x op y, both of the class C -/
def rOwn2 (C : Addr) (sp : Sp) (E : XK) : R2 := fun x y H Q => ∃ a dx fs b dy gs, x = .ref a ∧ y = .ref b ∧ H a = some (.ins C dx fs) ∧ H b = some (.ins C dy gs) ∧ sp [x, y] H Q E
theorem op_own2 {op : Operator} {m : Str} (sf : selfFirst X.K C = true) (M : Meth X.K C m f) (F : FnR X.prog X.w X.K X.mg X.base CX k f sp) (hr : Room k X.A) (hx : Passes CX X E) (hm : PySem.dunder op.info.2 = m := by rfl) : OpR X (binaryOp op) (rOwn2 C sp E) := by
  intro pins s σ H x y v u Q I rx ry h
  obtain ⟨a, dx, fs, b, dy, gs, rfl, rfl, ha, hb, q⟩ := h
  obtain rfl : v = Value.ref a := rx
  obtain rfl : u = Value.ref b := ry
  obtain ⟨ox, od, J, _⟩ := inst_of I ha
  obtain ⟨oy, od', J', _⟩ := inst_of I hb
  obtain ⟨mm, Fm⟩ := I.fr
  refine binop_K Fm I.ok.mod.kin J J'.type sf (by rw [hm]; exact M.at_) M.fn ?_
  exact wpAny_mono (run_own (vs := [.ref a, .ref b]) F hr hx I (.cons rfl (.cons rfl .nil)) q) (fun _ _ z => cmpBack z) fun _ _ e => e
/-- x op n, x of the class C, n an int -/
def rOwnI (C : Addr) (sp : Sp) (E : XK) : R2 := fun x y H Q => ∃ a dx fs n, x = .ref a ∧ y = .int n ∧ H a = some (.ins C dx fs) ∧ sp [x, y] H Q E
theorem op_ownI {op : Operator} {m mr : Str} {fo ro rc : Option Value} (sf : selfFirst X.K C = true) (M : Meth X.K C m f) (F : FnR X.prog X.w X.K X.mg X.base CX k f sp) (hr : Room k X.A) (hx : Passes CX X E)
    (hrc : findIn X.K (.ref C) mr = some rc) (hp : rc = none ∨ ∃ g : Addr, rc = some (.ref g)) (h1 : findIn X.K (.type "int") m = some fo) (h2 : findIn X.K (.type "int") mr = some ro) (hs : subIn X.K (.type "int") (.ref C) = some false)
    (hm : PySem.dunder op.info.2 = m := by rfl) (hmr : dunderR op.info.2 = mr := by rfl) : OpR X (binaryOp op) (rOwnI C sp E) := by
  intro pins s σ H x y v u Q I rx ry h
  obtain ⟨a, dx, fs, n, rfl, rfl, ha, q⟩ := h
  obtain rfl : v = Value.ref a := rx
  obtain ⟨t, rfl⟩ := ry
  obtain ⟨ox, od, J, _⟩ := inst_of I ha
  obtain ⟨mm, Fm⟩ := I.fr
  subst hm hmr
  refine ksp_binT Fm I.ok.mod.kin J (T := "int") rfl sf M.at_ M.fn hrc hp h1 h2 hs ?_
  exact wpAny_mono (run_own (vs := [.ref a, .int n]) F hr hx I (.cons rfl (.cons ⟨t, rfl⟩ .nil)) q) (fun _ _ z => cmpBack z) fun _ _ e => e
/-- -x -/
def rOwn1 (C : Addr) (sp : Sp) (E : XK) : V → Hp → VK → Prop := fun x H Q => ∃ a dx fs, x = .ref a ∧ H a = some (.ins C dx fs) ∧ sp [x] H Q E
theorem un_ownNeg (M : Meth X.K C "__neg__" f) (F : FnR X.prog X.w X.K X.mg X.base CX k f sp) (hr : Room k X.A) (hx : Passes CX X E) : UnR X (unaryOp .USub) (rOwn1 C sp E) := by
  intro pins s σ H x v Q I rx h
  obtain ⟨a, dx, fs, rfl, ha, q⟩ := h
  obtain rfl : v = Value.ref a := rx
  obtain ⟨ox, od, J, _⟩ := inst_of I ha
  obtain ⟨mm, Fm⟩ := I.fr
  exact ksp_neg Fm I.ok.mod.kin J M.at_ M.fn (run_own (vs := [.ref a]) F hr hx I (.cons rfl .nil) q)
/-- x == y, both of the class C -/
theorem op_ownEq {op : CmpOp} {m : Str} (M : Meth X.K C m f) (F : FnR X.prog X.w X.K X.mg X.base CX k f sp) (hr : Room k X.A) (hx : Passes CX X E) (hu : X.A.units < cLine) (hm : (cmpInfo op).2.1 = m := by rfl)
    (ho : ∀ a b, compareOp op a b = richCompare op a b := by intro _ _; rfl) : OpR X (compareOp op) (rOwn2 C sp E) := by
  intro pins s σ H x y v u Q I rx ry h
  obtain ⟨a, dx, fs, b, dy, gs, rfl, rfl, ha, hb, q⟩ := h
  obtain rfl : v = Value.ref a := rx
  obtain rfl : u = Value.ref b := ry
  obtain ⟨ox, od, J, _⟩ := inst_of I ha
  obtain ⟨oy, od', J', _⟩ := inst_of I hb
  obtain ⟨mm, Fm⟩ := I.fr
  rw [ho]
  refine cmp_K hu Fm I.ok.mod.kin J J'.type (by unfold notFirst; rw [beq_self_eq_true]; rfl) (by rw [hm]; exact M.at_) M.fn ?_
  exact wpAny_mono (run_own (vs := [.ref a, .ref b]) F hr hx I (.cons rfl (.cons rfl .nil)) q) (fun _ _ z => cmpBack z) fun _ _ e => e
end
section
open PySem.Builtin
theorem int_mul_own (a : Int) (t : Tok) (x C dx : Addr) :
    Meets (Builtin.«int.__mul__» ⟨[.int a t, .ref x], []⟩) (fun _ R s => s.heap.get? x = some (PySem.W.instObj C dx) ∧ R (.ok (.ret Value.notImplemented)) s) :=
  .of_wp fun prog w A R s ⟨hl, h⟩ => by
    obtain ⟨hp, g, d, tk, os⟩ := s
    wp_walk
    exact ⟨_, rfl, h⟩
theorem decl_gen {prog : Program} {w : World} {A : Around} {E : Value → Shared → Prop} {s : Shared} {self other : Value} {T id : String} {name : Str} {B : Builtin} {Q : Option Value → Shared → Prop} (hT : s.TypeIs self T) (h : Slot T name id) (entry : entryFor table id = some B)
    (args : argsOk id ⟨[self, other], []⟩) (hm : wpAny (model prog w) A.in1 (B ⟨[self, other], []⟩) (GQ.FinOf prog w A (wants (fun v s' => v = Value.notImplemented ∧ Q none s') E)) (fun e s' => wants (fun v s' => v = Value.notImplemented ∧ Q none s') E (.error e) s') s) :
    wpAny (model prog w) A (tryMethod self name other) Q E s := by
  refine wpAny_tryMethod_declines hT h ?_
  exact GQ.call_here h hT entry args hm
theorem int_declines {prog : Program} {w : World} {A : Around} {E : Value → Shared → Prop} {s : Shared} {x C dx : Addr} {i : Int} {t : Tok} {Q : Option Value → Shared → Prop} (hx : s.heap.get? x = some (instObj C dx)) (q : Q none s) :
    wpAny (model prog w) A (tryMethod (.int i t) (PySem.dunder "mul") (.ref x)) Q E s := by
  have h1 := @decl_gen prog w A E s (.int i t) (.ref x) "int" "int.__mul__" (PySem.dunder "mul") Builtin.«int.__mul__» Q
  have h2 := h1 (typeIs_int _ _ _) 
  have h3 := h2 PySem.F.slot_int_mul
  have h4 := h3 PySem.F.entry_int_mul 
  have h5 := h4 (PySem.F.args_int_mul_2 _ _)
  refine h5 ?_
  exact (int_mul_own i t x C dx prog w A (wants (fun v s' => v = Value.notImplemented ∧ Q none s') E) s ⟨hx, rfl, q⟩)
section
variable {prog : Program} {w : World} {A : Around} {E : Value → Shared → Prop} {s : Shared} {K : Frag} {x C dx f : Addr} {od : Obj}
theorem int_own {i : Int} {t : Tok} {g : Addr} {Q : Value → Shared → Prop} (X : K.In s.heap) (I : InstAt s.heap x (instObj C dx) C (some od)) (hc : selfFirst K C = true) (hm : findIn K (.ref C) "__mul__" = some (some (.ref g)))
    (hs : findIn K (.ref C) "__rmul__" = some (some (.ref f))) (hf : isFn K (.ref f) = true) (hsub : subIn K (.ref C) (.type "int") = some false) (h : wpAny (model prog w) A (call (.ref f) [.ref x, .int i t]) (PySem.W.CmpBack Q) E s) :
    wpAny (model prog w) A (binaryOp .Mult (.int i t) (.ref x)) Q E s := by
  obtain ⟨cd, rest, hcd, hmro⟩ := ksp_first hc
  have one := ksp_try (name := "__rmul__") X I hs hf h
  have L1 : Looks (model prog w) s.heap (typeOf (.int i t)) (.type "int") := Looks.of_pure rfl
  have L2 : Looks (model prog w) s.heap (typeOf (.ref x)) (.ref C) := I.type
  obtain ⟨hh, g', d, tt, os⟩ := s
  have L3 : Looks (model prog w) hh (fillsNumberSlot (.type "int") "mul") true := Looks.of_pure PySem.F.fills_int_mul
  have L4 : Looks (model prog w) hh (fillsNumberSlot (.ref C) "mul") true := fills_K X hcd hmro hm
  have L5 : Looks (model prog w) hh (isSubtype (.ref C) (.type "int")) false := looks_subIn X hsub
  have L7 : Looks (model prog w) hh (numberSlotInPython (.type "int") "mul") false := Looks.of_pure rfl
  have hne : (Value.type "int" == Value.ref C) = false := Bool.eq_false_iff.mpr fun q => by cases beq_iff_eq.mp q
  unfold binaryOp binaryOp1
  refine wpAny_holding (wpAny_bind ?_)
  refine wpAny_bind (L1.at (wpAny_bind (L2.at (wpAny_bind (L3.at ?_)))))
  simp only [hne, Bool.false_eq_true, if_false]
  ksp_lk
  refine int_declines I.at_ ?_
  ksp_lk
  refine wpAny_mono one (fun r s' hr' => ?_) fun _ _ e => e
  obtain ⟨v, rfl, hq⟩ := hr'
  ksp_lk
  exact hq
end
end
section
variable {X : Cx} {CX : CXT} {k : Nat} {C f : Addr} {sp : Sp} {E : XK}
/-- n * x, n an int, x of the class C: the reflected method -/
def rIntOwn (C : Addr) (sp : Sp) (E : XK) : R2 := fun x y H Q => ∃ b dx fs n, x = .int n ∧ y = .ref b ∧ H b = some (.ins C dx fs) ∧ sp [y, x] H Q E
theorem op_intMul {g : Addr} (sf : selfFirst X.K C = true) (M0 : Meth X.K C "__mul__" g) (M : Meth X.K C "__rmul__" f) (hs : subIn X.K (.ref C) (.type "int") = some false) (F : FnR X.prog X.w X.K X.mg X.base CX k f sp) (hr : Room k X.A) (hx : Passes CX X E) : OpR X (binaryOp .Mult) (rIntOwn C sp E) := by
  intro pins s σ H x y v u Q I rx ry h
  obtain ⟨b, dx, fs, n, rfl, rfl, hb, q⟩ := h
  obtain ⟨t, rfl⟩ := rx
  obtain rfl : u = Value.ref b := ry
  obtain ⟨mA, O, _⟩ := ins_get I.hok hb
  obtain ⟨od, J, _⟩ := O.look
  exact int_own I.kIn J sf M0.at_ M.at_ M.fn hs (wpAny_mono (run_own (vs := [.ref b, .int n]) F hr hx I (.cons rfl (.cons ⟨t, rfl⟩ .nil)) q) (fun _ _ z => cmpBack z) fun _ _ e => e)
/-- str(x), x of the class C -/
def rStrOwn (C : Addr) (sp : Sp) (E : XK) : List V → Hp → VK → Prop := fun xs H Q => ∃ a dx fs, xs = [.ref a] ∧ H a = some (.ins C dx fs) ∧ sp [.ref a] H (fun v H' => ∃ z, v = .str z ∧ Q v H') E
theorem call_strOwn (M : Meth X.K C "__str__" f) (F : FnR X.prog X.w X.K X.mg X.base CX k f sp) (hr : Room (k + 2) X.A) (hx : Passes CX X E) : CallR X (.type "str") (rStrOwn C sp E) := by
  intro pins s σ H xs us Q I r h
  obtain ⟨a, dx, fs, rfl, ha, q⟩ := h
  obtain ⟨u, rfl, ru⟩ := r.one
  obtain rfl : u = Value.ref a := ru
  obtain ⟨ox, od, J, _⟩ := inst_of I ha
  have hr2 : Room k X.A.in1.in1 := (show Room (k + 1) X.A.in1 from Room.in1 hr).in1
  refine kso_call hr2.units0 I.kIn J M.at_ M.fn (wpAny_mono (wpAny_call (SlX.run_at (us := [.ref a]) (ws := [.ref a]) F hr2 I.env0.in1.in1 hx I (.cons rfl .nil) q)) (fun u' s' z => ?_) fun _ _ x => x)
  obtain ⟨z', H', I', rz, y, ey, qz⟩ := z
  subst ey
  obtain ⟨t, e⟩ := (show ∃ t, u' = Value.str y t from rz)
  subst e
  exact ⟨.str y, H', I', ⟨t, rfl⟩, qz⟩
/-- x.f, read -/
def rFld (K : Frag) (f : Str) : V → Hp → VK → Prop := fun x H Q => ∃ a C dx fs v, x = .ref a ∧ H a = some (.ins C dx fs) ∧ Cls K C ∧ NoAttr K C f ∧ fs.lookup f = some v ∧ Q v H
theorem r_fld {K : Frag} {ta : TE} {f : Str} {σ : L2.St} {H : Hp} {Q : VK} (k : ta σ H fun x H1 => rFld K f x H1 Q) : tFld K ta f σ H Q := k
theorem r_fldAt {K : Frag} {f : Str} {H : Hp} {Q : VK} {a C dx : Addr} {fs : List (Str × V)} {v : V} (h : H a = some (.ins C dx fs)) (c : Cls K C) (n : NoAttr K C f) (l : fs.lookup f = some v) (k : Q v H) : rFld K f (.ref a) H Q := ⟨a, C, dx, fs, v, rfl, h, c, n, l, k⟩
/-- x.f = v -/
def rSFld (K : Frag) (f : Str) : V → V → Hp → (Hp → Prop) → Prop := fun x y H Q => ∃ a C dx fs, x = .ref a ∧ H a = some (.ins C dx fs) ∧ Cls K C ∧ NoAttr K C f ∧ fs.length < 1000 ∧ Q (upd H a (.ins C dx (putF f y fs)))
theorem r_sfld {K : Frag} {ta tv : TE} {f : Str} {D : Ends} {σ : L2.St} {H : Hp} (k : tv σ H fun y H1 => ta σ H1 fun x H2 => rSFld K f x y H2 fun H3 => D.nx σ H3) : sFld K ta tv f D σ H := k
theorem r_sfldAt {K : Frag} {f : Str} {H : Hp} {y : V} {Q : Hp → Prop} {a C dx : Addr} {fs : List (Str × V)} (h : H a = some (.ins C dx fs)) (c : Cls K C) (n : NoAttr K C f) (l : fs.length < 1000) (k : Q (upd H a (.ins C dx (putF f y fs)))) : rSFld K f (.ref a) y H Q := ⟨a, C, dx, fs, rfl, h, c, n, l, k⟩
/-- C(..) -/
theorem r_make {C : Addr} {sp : Sp} {dvs : List V} {E : XK} {t : TA} {σ : L2.St} {H : Hp} {Q : VK} (k : t σ H fun vs H1 => ∀ x dx, H1 x = none → H1 dx = none → dx ≠ x → sp (.ref x :: (vs ++ dvs)) (upd (upd H1 dx (.own x)) x (.ins C dx [])) (fun v H2 => v = .non ∧ Q (.ref x) H2) E) : tMake C sp dvs E t σ H Q := k
/-- x.m(..) -/
def rMeth (C : Addr) (m : Str) (R : V → Hp → Prop) : V → Hp → Prop := fun x H => ∃ a dx fs, x = .ref a ∧ H a = some (.ins C dx fs) ∧ fs.lookup m = none ∧ R x H
theorem r_meth {C : Addr} {m : Str} {sp : Sp} {dvs : List V} {E : XK} {ta : TE} {t : TA} {σ : L2.St} {H : Hp} {Q : VK} (k : ta σ H fun x H1 => rMeth C m (fun x H1 => t σ H1 fun vs H2 => sp (x :: (vs ++ dvs)) H2 Q E) x H1) : tMeth C m sp dvs E ta t σ H Q := k
theorem r_methAt {C a dx : Addr} {m : Str} {fs : List (Str × V)} {R : V → Hp → Prop} {H : Hp} (h : H a = some (.ins C dx fs)) (l : fs.lookup m = none) (k : R (.ref a) H) : rMeth C m R (.ref a) H := ⟨a, dx, fs, rfl, h, l, k⟩
/-- the operators -/
theorem r_own2 {C a b dx dy : Addr} {fs gs : List (Str × V)} {sp : Sp} {E : XK} {H : Hp} {Q : VK} (ha : H a = some (.ins C dx fs)) (hb : H b = some (.ins C dy gs)) (k : sp [.ref a, .ref b] H Q E) : rOwn2 C sp E (.ref a) (.ref b) H Q := ⟨a, dx, fs, b, dy, gs, rfl, rfl, ha, hb, k⟩
theorem r_ownI {C a dx : Addr} {n : Int} {fs : List (Str × V)} {sp : Sp} {E : XK} {H : Hp} {Q : VK} (ha : H a = some (.ins C dx fs)) (k : sp [.ref a, .int n] H Q E) : rOwnI C sp E (.ref a) (.int n) H Q := ⟨a, dx, fs, n, rfl, rfl, ha, k⟩
theorem r_own1 {C a dx : Addr} {fs : List (Str × V)} {sp : Sp} {E : XK} {H : Hp} {Q : VK} (ha : H a = some (.ins C dx fs)) (k : sp [.ref a] H Q E) : rOwn1 C sp E (.ref a) H Q := ⟨a, dx, fs, rfl, ha, k⟩
theorem r_len_str {x : Str} {F : Str → Prop} (k : x.length ≤ sizeLine ∧ F x) : ∃ y, [V.str x] = [.str y] ∧ y.length ≤ sizeLine ∧ F y := ⟨x, rfl, k.1, k.2⟩
/-- what is told of an own class -/
structure OC (K : Frag) (C : Addr) : Prop where
  cl : Cls K C
  sf : selfFirst K C = true
  ca : findIn K (.ref C) "__class__" = some (some (.builtin "object.__class__"))
  cn : specialIn K (.builtin "object.__class__") "__get__" = some (some (.builtin "getset_descriptor.__get__"))
  ct : takesIn K (.builtin "object.__class__") = some true
  cm : mroIn K C (.type "object") = some true
theorem OC.ty {K : Frag} {C a dx : Addr} {H : Hp} {fs : List (Str × V)} (o : OC K C) (h : H a = some (.ins C dx fs)) : TyX K H (.ref a) (.ref C) := .base (.ins h o.cl o.ca o.cn o.ct o.cm)
theorem r_isiOwn {K : Frag} {C a dx : Addr} {H : Hp} {fs : List (Str × V)} {Q : VK} (o : OC K C) (h : H a = some (.ins C dx fs)) (k : Q (.bl true) H) : rIsi K [.ref a, .ref C] H Q := ⟨_, _, _, _, true, rfl, .own C, o.ty h, Er.kit_self, k⟩
theorem r_isiNot {K : Frag} {C a dx : Addr} {T : String} {H : Hp} {fs : List (Str × V)} {Q : VK} (o : OC K C) (h : H a = some (.ins C dx fs)) (hm : kitMeta T = true) (hs : subIn K (.ref C) (.type T) = some false) (k : Q (.bl false) H) : rIsi K [.ref a, .ty T] H Q :=
  ⟨_, _, _, _, false, rfl, .ty T, o.ty h, Er.kit_typ hm hs, k⟩
end
theorem r_intOwn {C b dx : Addr} {n : Int} {fs : List (Str × V)} {sp : Sp} {E : XK} {H : Hp} {Q : VK} (hb : H b = some (.ins C dx fs)) (k : sp [.ref b, .int n] H Q E) : rIntOwn C sp E (.int n) (.ref b) H Q := ⟨b, dx, fs, n, rfl, rfl, hb, k⟩
theorem r_strOwn {C a dx : Addr} {fs : List (Str × V)} {sp : Sp} {E : XK} {H : Hp} {Q : VK} (ha : H a = some (.ins C dx fs)) (k : sp [.ref a] H (fun v H' => ∃ z, v = .str z ∧ Q v H') E) : rStrOwn C sp E [.ref a] H Q := ⟨a, dx, fs, rfl, ha, k⟩
end Ow
namespace Fm
open PySem PySem.Spec PyProof.Rows L2
/-! ### the order of texts -/
theorem lt_irr : ∀ a : List Nat, ltCps a a = false
  | [] => rfl
  | a :: r => by simp [ltCps, lt_irr r]
theorem lt_tr : ∀ {a b c : List Nat}, ltCps a b = true → ltCps b c = true → ltCps a c = true
  | [], [], _, h, _ => by simp [ltCps] at h
  | [], _ :: _, [], _, h => by simp [ltCps] at h
  | [], _ :: _, _ :: _, _, _ => by simp [ltCps]
  | _ :: _, [], _, h, _ => by simp [ltCps] at h
  | _ :: _, _ :: _, [], _, h => by simp [ltCps] at h
  | x :: a, y :: b, z :: c, h, k => by
    simp only [ltCps, Bool.or_eq_true, decide_eq_true_eq, Bool.and_eq_true, beq_iff_eq] at h k ⊢
    rcases h with h | ⟨rfl, h⟩ <;> rcases k with k | ⟨rfl, k⟩
    · exact .inl (Nat.lt_trans h k)
    · exact .inl h
    · exact .inl k
    · exact .inr ⟨rfl, lt_tr h k⟩
theorem lt_tri : ∀ a b : List Nat, a = b ∨ ltCps a b = true ∨ ltCps b a = true
  | [], [] => .inl rfl
  | [], _ :: _ => .inr (.inl rfl)
  | _ :: _, [] => .inr (.inr rfl)
  | x :: a, y :: b => by
    simp only [ltCps, Bool.or_eq_true, decide_eq_true_eq, Bool.and_eq_true, beq_iff_eq]
    rcases Nat.lt_trichotomy x y with h | rfl | h
    · exact .inr (.inl (.inl h))
    · rcases lt_tri a b with rfl | h | h
      · exact .inl rfl
      · exact .inr (.inl (.inr ⟨rfl, h⟩))
      · exact .inr (.inr (.inr ⟨rfl, h⟩))
    · exact .inr (.inr (.inl h))
def Lt (x y : Str) : Prop := ltCps x.cps.toList y.cps.toList = true
theorem Lt.irr {x : Str} (h : Lt x x) : False := by unfold Lt at h; rw [lt_irr] at h; cases h
theorem Lt.tr {x y z : Str} (h : Lt x y) (k : Lt y z) : Lt x z := lt_tr h k
theorem str_ext {x y : Str} (h : x.cps.toList = y.cps.toList) : x = y := by
  cases x; cases y; simp only [Str.mk.injEq]; exact Array.ext' h
theorem Lt.tri (x y : Str) : x = y ∨ Lt x y ∨ Lt y x := (lt_tri x.cps.toList y.cps.toList).imp str_ext id
/-- a sorted row without repetition ascends -/
theorem asc_of_rising : ∀ {l : List Str} {p : Str}, risingS p l = true → (p :: l).Nodup → (p :: l).Pairwise Lt
  | [], _, _, _ => by simp
  | x :: r, p, h, n => by
    have h' : ltCps x.cps.toList p.cps.toList = false ∧ risingS x r = true := by simpa [risingS] using h
    have n' : p ≠ x ∧ (x :: r).Nodup := ⟨fun e => by rw [e] at n; simp at n, (List.nodup_cons.mp n).2⟩
    have ih := asc_of_rising h'.2 n'.2
    have hp : Lt p x := by
      rcases Lt.tri p x with e | e | e
      · exact absurd e n'.1
      · exact e
      · unfold Lt at e; rw [h'.1] at e; cases e
    refine List.pairwise_cons.mpr ⟨fun y hy => ?_, ih⟩
    rcases List.mem_cons.mp hy with rfl | hy
    · exact hp
    · exact hp.tr (List.rel_of_pairwise_cons ih hy)
theorem asc_of_sorted : ∀ {l : List Str}, sortedS l = true → l.Nodup → l.Pairwise Lt
  | [], _, _ => .nil
  | _ :: _, h, n => asc_of_rising h n
/-! ### weights of names -/
abbrev Tm := Str × Int
/-- the weight of a name -/
def wt (ts : List Tm) (x : Str) : Int := ((ts.filter fun p => decide (p.1 = x)).map (·.2)).sum
theorem wt_nil {x : Str} : wt [] x = 0 := rfl
theorem wt_cons {p : Tm} {ts : List Tm} {x : Str} : wt (p :: ts) x = (if p.1 = x then p.2 else 0) + wt ts x := by
  unfold wt
  by_cases h : p.1 = x
  · rw [List.filter_cons_of_pos (by simpa using h), if_pos h]; simp
  · rw [List.filter_cons_of_neg (by simpa using h), if_neg h]; simp
theorem wt_append {x : Str} : ∀ {ts us : List Tm}, wt (ts ++ us) x = wt ts x + wt us x
  | [], us => by rw [List.nil_append, wt_nil, Int.zero_add]
  | p :: ts, us => by rw [List.cons_append, wt_cons, wt_cons, wt_append, Int.add_assoc]
theorem wt_none {x : Str} : ∀ {ts : List Tm}, (∀ p ∈ ts, p.1 ≠ x) → wt ts x = 0
  | [], _ => rfl
  | p :: ts, h => by rw [wt_cons, if_neg (h p (by simp)), wt_none fun q hq => h q (by simp [hq])]; rfl
/-- all weights times k -/
def scl (k : Int) (ts : List Tm) : List Tm := ts.map fun p => (p.1, k * p.2)
theorem wt_scl {k : Int} {x : Str} : ∀ {ts : List Tm}, wt (scl k ts) x = k * wt ts x
  | [] => by simp [scl, wt]
  | p :: ts => by
    show wt ((p.1, k * p.2) :: scl k ts) x = _
    rw [wt_cons, wt_cons, wt_scl, Int.mul_add]
    by_cases h : p.1 = x
    · rw [if_pos h, if_pos h]
    · rw [if_neg h, if_neg h, Int.mul_zero]
def dropN (x : Str) (ts : List Tm) : List Tm := ts.filter fun p => decide (p.1 ≠ x)
theorem wt_drop {x z : Str} : ∀ {ts : List Tm}, wt (dropN x ts) z = if z = x then 0 else wt ts z
  | [] => by simp [dropN, wt]
  | p :: ts => by
    unfold dropN
    by_cases h : p.1 = x
    · rw [List.filter_cons_of_neg (by simpa using h)]
      show wt (dropN x ts) z = _
      rw [wt_drop, wt_cons]
      by_cases hz : z = x
      · rw [if_pos hz, if_pos hz]
      · rw [if_neg hz, if_neg hz, if_neg (fun e => hz (e.symm.trans h)), Int.zero_add]
    · rw [List.filter_cons_of_pos (by simpa using h), wt_cons]
      show _ + wt (dropN x ts) z = _
      rw [wt_drop, wt_cons]
      by_cases hz : z = x
      · rw [if_pos hz, if_pos hz, if_neg (fun e => h (e.trans hz))]; rfl
      · rw [if_neg hz, if_neg hz]
/-- terms as a form has them -/
structure Canon (ts : List Tm) : Prop where
  asc : (ts.map (·.1)).Pairwise Lt
  nz : ∀ p ∈ ts, p.2 ≠ 0
theorem Canon.nil : Canon [] := ⟨by simp, by simp⟩
theorem Canon.tail {p : Tm} {ts : List Tm} (c : Canon (p :: ts)) : Canon ts := ⟨(List.pairwise_cons.mp c.asc).2, fun q hq => c.nz q (by simp [hq])⟩
theorem Canon.lt {p : Tm} {ts : List Tm} (c : Canon (p :: ts)) {q : Tm} (h : q ∈ ts) : Lt p.1 q.1 := (List.pairwise_cons.mp c.asc).1 q.1 (List.mem_map_of_mem h)
theorem Canon.head {p : Tm} {ts : List Tm} (c : Canon (p :: ts)) : wt (p :: ts) p.1 = p.2 := by
  rw [wt_cons, if_pos rfl, wt_none fun q hq e => ?_, Int.add_zero]
  exact (e ▸ c.lt hq).irr
theorem canon_eq : ∀ {ts us : List Tm}, Canon ts → Canon us → (∀ x, wt ts x = wt us x) → ts = us
  | [], [], _, _, _ => rfl
  | [], q :: us, _, d, h => by
    have := h q.1; rw [d.head, wt_nil] at this
    exact absurd this.symm (d.nz q (by simp))
  | p :: ts, [], c, _, h => by
    have := h p.1; rw [c.head, wt_nil] at this
    exact absurd this (c.nz p (by simp))
  | p :: ts, q :: us, c, d, h => by
    have e : p.1 = q.1 := by
      rcases Lt.tri p.1 q.1 with e | e | e
      · exact e
      · have := h p.1
        rw [c.head, wt_none (ts := q :: us) fun r hr z => ?_] at this
        · exact absurd this (c.nz p (by simp))
        · rcases List.mem_cons.mp hr with rfl | hr
          · exact (z ▸ e).irr
          · exact (z ▸ e.tr (d.lt hr)).irr
      · have := h q.1
        rw [d.head, wt_none (ts := p :: ts) fun r hr z => ?_] at this
        · exact absurd this.symm (d.nz q (by simp))
        · rcases List.mem_cons.mp hr with rfl | hr
          · exact (z ▸ e).irr
          · exact (z ▸ e.tr (c.lt hr)).irr
    have e2 : p.2 = q.2 := by rw [← c.head, ← d.head, h, e]
    have ep : p = q := Prod.ext e e2
    subst ep
    rw [canon_eq c.tail d.tail fun x => ?_]
    have := h x
    rw [wt_cons, wt_cons] at this
    omega
/-! ### what is linear in the weights -/
def lin (ts : List Tm) (L : Str → Int) : Int := (ts.map fun p => p.2 * L p.1).sum
theorem lin_nil {L : Str → Int} : lin [] L = 0 := rfl
theorem lin_cons {p : Tm} {ts : List Tm} {L : Str → Int} : lin (p :: ts) L = p.2 * L p.1 + lin ts L := by simp [lin]
theorem lin_append {L : Str → Int} : ∀ {ts us : List Tm}, lin (ts ++ us) L = lin ts L + lin us L
  | [], us => by simp [lin]
  | p :: ts, us => by rw [List.cons_append, lin_cons, lin_cons, lin_append, Int.add_assoc]
theorem lin_scl {k : Int} {L : Str → Int} : ∀ {ts : List Tm}, lin (scl k ts) L = k * lin ts L
  | [] => by simp [scl, lin]
  | p :: ts => by
    show lin ((p.1, k * p.2) :: scl k ts) L = _
    rw [lin_cons, lin_cons, lin_scl, Int.mul_add, Int.mul_assoc]
theorem lin_drop {x : Str} {L : Str → Int} : ∀ {ts : List Tm}, lin ts L = wt ts x * L x + lin (dropN x ts) L
  | [] => by simp [dropN, lin, wt]
  | p :: ts => by
    unfold dropN
    rw [lin_cons, wt_cons, lin_drop (x := x) (ts := ts)]
    by_cases h : p.1 = x
    · rw [List.filter_cons_of_neg (by simpa using h), if_pos h, Int.add_mul, h, Int.add_assoc]; rfl
    · rw [List.filter_cons_of_pos (by simpa using h), if_neg h, lin_cons, Int.zero_add]
      show _ = _ + (_ + lin (dropN x ts) L)
      omega
theorem lin_zero {L : Str → Int} : ∀ (n : Nat) {ts : List Tm}, ts.length ≤ n → (∀ x, wt ts x = 0) → lin ts L = 0
  | _, [], _, _ => rfl
  | 0, _ :: _, h, _ => by simp at h
  | n + 1, p :: ts, h, hz => by
    have l : (dropN p.1 (p :: ts)).length ≤ n := by
      unfold dropN
      rw [List.filter_cons_of_neg (by simp)]
      have := List.length_filter_le (fun q : Tm => decide (q.1 ≠ p.1)) ts
      simp at h; omega
    rw [lin_drop (x := p.1), hz, Int.zero_mul, Int.zero_add]
    refine lin_zero n l fun x => ?_
    rw [wt_drop, hz]; split <;> rfl
theorem lin_of_wt {ts us : List Tm} {L : Str → Int} (h : ∀ x, wt ts x = wt us x) : lin ts L = lin us L := by
  have := lin_zero (L := L) _ (ts := ts ++ scl (-1) us) (Nat.le_refl _) fun x => by rw [wt_append, wt_scl, h]; omega
  rw [lin_append, lin_scl] at this
  omega
/-! ### values in a world: a top and a bottom -/
abbrev Wd := Str → Int × Int
def accV (W : Wd) : List Tm → Int × Int → Int × Int
  | [], s => s
  | p :: ts, s => accV W ts (s.1 * (W p.1).2 + p.2 * (W p.1).1 * s.2, s.2 * (W p.1).2)
theorem acc_lin {W : Wd} {L : Str → Int} {M : Int} : ∀ {ts : List Tm} {s : Int × Int} {S : Int}, (∀ p ∈ ts, (W p.1).1 * M = L p.1 * (W p.1).2) → s.1 * M = s.2 * S → (accV W ts s).1 * M = (accV W ts s).2 * (S + lin ts L)
  | [], s, S, _, h => by rw [lin_nil, Int.add_zero]; exact h
  | p :: ts, s, S, hL, h => by
    have := acc_lin (ts := ts) (s := (s.1 * (W p.1).2 + p.2 * (W p.1).1 * s.2, s.2 * (W p.1).2)) (S := S + p.2 * L p.1) (fun q hq => hL q (by simp [hq])) (by
      have e := hL p (by simp)
      show (s.1 * (W p.1).2 + p.2 * (W p.1).1 * s.2) * M = s.2 * (W p.1).2 * (S + p.2 * L p.1)
      have e1 : s.1 * (W p.1).2 * M = s.2 * (W p.1).2 * S := by
        rw [Int.mul_right_comm, h, Int.mul_right_comm]
      have e2 : p.2 * (W p.1).1 * s.2 * M = s.2 * (W p.1).2 * (p.2 * L p.1) := by
        calc p.2 * (W p.1).1 * s.2 * M = p.2 * s.2 * ((W p.1).1 * M) := by ac_rfl
          _ = p.2 * s.2 * (L p.1 * (W p.1).2) := by rw [e]
          _ = s.2 * (W p.1).2 * (p.2 * L p.1) := by ac_rfl
      rw [Int.add_mul, Int.mul_add, e1, e2])
    rw [lin_cons, ← Int.add_assoc]
    exact this
theorem acc_pos {W : Wd} : ∀ {ts : List Tm} {s : Int × Int}, (∀ p ∈ ts, 0 < (W p.1).2) → 0 < s.2 → 0 < (accV W ts s).2
  | [], _, _, h => h
  | p :: ts, s, hw, h => acc_pos (s := (s.1 * (W p.1).2 + p.2 * (W p.1).1 * s.2, s.2 * (W p.1).2)) (fun q hq => hw q (by simp [hq])) (Int.mul_pos h (hw p (by simp)))
/-- a common bottom -/
theorem common (W : Wd) : ∀ xs : List Str, (∀ x ∈ xs, 0 < (W x).2) → ∃ (M : Int) (L : Str → Int), 0 < M ∧ ∀ x ∈ xs, (W x).1 * M = L x * (W x).2
  | [], _ => ⟨1, fun _ => 0, by decide, by simp⟩
  | x :: xs, h => by
    obtain ⟨M, L, hM, hL⟩ := common W xs fun y hy => h y (by simp [hy])
    refine ⟨M * (W x).2, fun y => if y = x then (W x).1 * M else L y * (W x).2, Int.mul_pos hM (h x (by simp)), fun y hy => ?_⟩
    by_cases e : y = x
    · subst e; simp only [if_true]; ac_rfl
    · have hy' : y ∈ xs := (List.mem_cons.mp hy).resolve_left e
      simp only [if_neg e]
      rw [← Int.mul_assoc, hL y hy']; ac_rfl
/-- the world in which x has another level -/
def moved (W : Wd) (x : Str) (v : Int × Int) : Wd := fun y => if y = x then v else W y
/-- a form put in the place of a quantity has the value that the form has where the quantity has its value -/
theorem put_value {W : Wd} {x : Str} {ts gs us : List Tm} {c cg : Int} {v : Int × Int}
    (hts : ∀ p ∈ ts, p.1 ≠ x → 0 < (W p.1).2) (hgs : ∀ p ∈ gs, 0 < (W p.1).2) (hus : ∀ p ∈ us, 0 < (W p.1).2)
    (hw : ∀ y, wt us y = wt (dropN x ts ++ scl (wt ts x) gs) y) (hv : v.1 * (accV W gs (cg, 1)).2 = (accV W gs (cg, 1)).1 * v.2) (hv0 : 0 < v.2) :
    (accV W us (c + wt ts x * cg, 1)).1 * (accV (moved W x v) ts (c, 1)).2 = (accV (moved W x v) ts (c, 1)).1 * (accV W us (c + wt ts x * cg, 1)).2 := by
  obtain ⟨M, L, hM, hL⟩ := common W ((ts.filter fun p => decide (p.1 ≠ x)).map (·.1) ++ gs.map (·.1) ++ us.map (·.1)) (by
    intro y hy
    simp only [List.mem_append, List.mem_map, List.mem_filter, decide_eq_true_eq] at hy
    rcases hy with (⟨p, ⟨h1, h2⟩, rfl⟩ | ⟨p, h1, rfl⟩) | ⟨p, h1, rfl⟩
    · exact hts p h1 h2
    · exact hgs p h1
    · exact hus p h1)
  have hLg : ∀ p ∈ gs, (W p.1).1 * M = L p.1 * (W p.1).2 := fun p hp => hL _ (by simp only [List.mem_append]; exact .inl (.inr (List.mem_map_of_mem hp)))
  have hLu : ∀ p ∈ us, (W p.1).1 * M = L p.1 * (W p.1).2 := fun p hp => hL _ (by simp only [List.mem_append]; exact .inr (List.mem_map_of_mem hp))
  have hg := acc_lin (s := (cg, 1)) (S := cg * M) hLg (by simp)
  have hu := acc_lin (s := (c + wt ts x * cg, 1)) (S := (c + wt ts x * cg) * M) hLu (by simp)
  have hgp := acc_pos (s := (cg, 1)) hgs Int.one_pos
  have hup := acc_pos (s := (c + wt ts x * cg, 1)) hus Int.one_pos
  -- the value of g over M
  have hvM : v.1 * M = v.2 * (cg * M + lin gs L) := by
    have e : v.1 * M * (accV W gs (cg, 1)).2 = v.2 * (cg * M + lin gs L) * (accV W gs (cg, 1)).2 := by
      rw [Int.mul_right_comm, hv, Int.mul_right_comm, hg]; ac_rfl
    exact Int.eq_of_mul_eq_mul_right (by omega) e
  -- the moved world over M * v.2
  have hm := acc_lin (W := moved W x v) (L := fun y => if y = x then v.1 * M else L y * v.2) (M := M * v.2) (ts := ts) (s := (c, 1)) (S := c * (M * v.2)) (by
    intro p hp
    unfold moved
    by_cases e : p.1 = x
    · simp only [if_pos e]; ac_rfl
    · simp only [if_neg e]
      have := hL p.1 (by simp only [List.mem_append]; exact .inl (.inl (List.mem_map_of_mem (List.mem_filter.mpr ⟨hp, by simpa using e⟩))))
      rw [← Int.mul_assoc, this]; ac_rfl) (by simp)
  have hmp : 0 < (accV (moved W x v) ts (c, 1)).2 := acc_pos (fun p hp => by
    unfold moved
    by_cases e : p.1 = x
    · rw [if_pos e]; exact hv0
    · rw [if_neg e]; exact hts p hp e) Int.one_pos
  have key : c * (M * v.2) + lin ts (fun y => if y = x then v.1 * M else L y * v.2) = v.2 * ((c + wt ts x * cg) * M + lin us L) := by
    rw [lin_drop (x := x), lin_of_wt hw, lin_append, lin_scl]
    have e1 : lin (dropN x ts) (fun y => if y = x then v.1 * M else L y * v.2) = v.2 * lin (dropN x ts) L := by
      have : ∀ l : List Tm, (∀ p ∈ l, p.1 ≠ x) → lin l (fun y => if y = x then v.1 * M else L y * v.2) = v.2 * lin l L := by
        intro l
        induction l with
        | nil => intro _; simp [lin]
        | cons p l ih =>
          intro h
          rw [lin_cons, lin_cons, ih fun q hq => h q (by simp [hq])]
          simp only [if_neg (h p (by simp))]
          rw [Int.mul_add]
          congr 1
          ac_rfl
      exact this _ fun p hp => by simpa [dropN] using (List.mem_filter.mp hp).2
    rw [e1]
    simp only [if_true]
    rw [hvM]
    simp only [Int.mul_add, Int.add_mul]
    have a1 : c * (M * v.2) = v.2 * (c * M) := by ac_rfl
    have a2 : wt ts x * (v.2 * (cg * M)) = v.2 * (wt ts x * cg * M) := by ac_rfl
    have a3 : wt ts x * (v.2 * lin gs L) = v.2 * (wt ts x * lin gs L) := by ac_rfl
    omega
  rw [key] at hm
  generalize accV W us (c + wt ts x * cg, 1) = U at *
  generalize accV (moved W x v) ts (c, 1) = T at *
  generalize (c + wt ts x * cg) * M + lin us L = S at *
  have : U.1 * T.2 * (M * v.2) = T.1 * U.2 * (M * v.2) := by
    calc U.1 * T.2 * (M * v.2) = (U.1 * M) * (T.2 * v.2) := by ac_rfl
      _ = (U.2 * S) * (T.2 * v.2) := by rw [hu]
      _ = (T.2 * (v.2 * S)) * U.2 := by ac_rfl
      _ = (T.1 * (M * v.2)) * U.2 := by rw [hm]
      _ = T.1 * U.2 * (M * v.2) := by ac_rfl
  exact Int.eq_of_mul_eq_mul_right (by have := Int.mul_pos hM hv0; omega) this
/-! ### the terms of a form, by its pairs -/
instance : DecidableRel Lt := fun x y => inferInstanceAs (Decidable (ltCps x.cps.toList y.cps.toList = true))
def ins (x : Str) (w : Int) : List Tm → List Tm
  | [] => if w = 0 then [] else [(x, w)]
  | p :: us => if x = p.1 then (if w + p.2 = 0 then us else (x, w + p.2) :: us) else if Lt x p.1 then (if w = 0 then p :: us else (x, w) :: p :: us) else p :: ins x w us
theorem ins_mem {x : Str} {w : Int} : ∀ {us : List Tm} {q : Tm}, q ∈ ins x w us → q.1 = x ∨ q ∈ us
  | [], q, h => by
    unfold ins at h; split at h
    · cases h
    · rw [List.mem_singleton.mp h]; exact .inl rfl
  | p :: us, q, h => by
    unfold ins at h
    split at h
    · split at h
      · exact .inr (by simp [h])
      · rcases List.mem_cons.mp h with rfl | h
        · exact .inl rfl
        · exact .inr (by simp [h])
    · split at h
      · split at h
        · exact .inr h
        · rcases List.mem_cons.mp h with rfl | h
          · exact .inl rfl
          · exact .inr h
      · rcases List.mem_cons.mp h with rfl | h
        · exact .inr (by simp)
        · exact (ins_mem h).imp id fun z => by simp [z]
theorem Canon.cons {p : Tm} {us : List Tm} (h : ∀ q ∈ us, Lt p.1 q.1) (n : p.2 ≠ 0) (c : Canon us) : Canon (p :: us) :=
  ⟨List.pairwise_cons.mpr ⟨fun y hy => by obtain ⟨q, hq, rfl⟩ := List.mem_map.mp hy; exact h q hq, c.asc⟩, fun q hq => by
    rcases List.mem_cons.mp hq with rfl | hq
    · exact n
    · exact c.nz q hq⟩
theorem ins_canon {x : Str} {w : Int} : ∀ {us : List Tm}, Canon us → Canon (ins x w us)
  | [], _ => by
    unfold ins; split
    · exact .nil
    · next h => exact .cons (by simp) h .nil
  | p :: us, c => by
    unfold ins
    split
    · next e =>
      split
      · exact c.tail
      · next h => exact .cons (fun q hq => e ▸ c.lt hq) h c.tail
    · next e =>
      split
      · next l =>
        split
        · exact c
        · next h => exact .cons (fun q hq => by
            rcases List.mem_cons.mp hq with rfl | hq
            · exact l
            · exact l.tr (c.lt hq)) h c
      · next l =>
        have l' : Lt p.1 x := by
          rcases Lt.tri x p.1 with z | z | z
          · exact absurd z e
          · exact absurd z l
          · exact z
        refine .cons (fun q hq => ?_) (c.nz p (by simp)) (ins_canon c.tail)
        rcases ins_mem hq with z | z
        · rw [z]; exact l'
        · exact c.lt z
theorem ins_wt {x y : Str} {w : Int} : ∀ {us : List Tm}, wt (ins x w us) y = (if x = y then w else 0) + wt us y
  | [] => by
    unfold ins; split
    · next h => subst h; simp [wt]
    · rw [wt_cons]
  | p :: us => by
    unfold ins
    split
    · next e =>
      split
      · next h =>
        rw [wt_cons, ← e]
        split <;> omega
      · rw [wt_cons, wt_cons, ← e]
        dsimp only
        split <;> omega
    · split
      · split
        · next h => subst h; simp
        · rw [wt_cons]
      · rw [wt_cons, ins_wt, wt_cons]; omega
def can : List Tm → List Tm
  | [] => []
  | p :: ts => ins p.1 p.2 (can ts)
theorem can_canon : ∀ ts : List Tm, Canon (can ts)
  | [] => .nil
  | _ :: ts => ins_canon (can_canon ts)
theorem can_wt : ∀ (ts : List Tm) (x : Str), wt (can ts) x = wt ts x
  | [], _ => rfl
  | p :: ts, x => by
    show wt (ins p.1 p.2 (can ts)) x = _
    rw [ins_wt, can_wt, wt_cons]
theorem can_eq {us ts : List Tm} (c : Canon us) (h : ∀ x, wt us x = wt ts x) : us = can ts := canon_eq c (can_canon ts) fun x => by rw [h, can_wt]
theorem can_can {ts us : List Tm} (h : ∀ x, wt ts x = wt us x) : can ts = can us := can_eq (can_canon ts) fun x => by rw [can_wt, h]
theorem can_self {ts : List Tm} (c : Canon ts) : can ts = ts := (can_eq c fun _ => rfl).symm
theorem Canon.wt_mem {ts : List Tm} (c : Canon ts) {p : Tm} (h : p ∈ ts) : wt ts p.1 = p.2 := by
  induction ts with
  | nil => cases h
  | cons q ts ih =>
    rcases List.mem_cons.mp h with rfl | h
    · exact c.head
    · rw [wt_cons, if_neg (fun e => (e ▸ c.lt h).irr), Int.zero_add]; exact ih c.tail h
theorem mem_of_wt {ts : List Tm} {x : Str} (h : wt ts x ≠ 0) : ∃ p ∈ ts, p.1 = x := Decidable.byContradiction fun n => h (wt_none fun p hp e => n ⟨p, hp, e⟩)
theorem can_mem {ts : List Tm} {u : Tm} (h : u ∈ can ts) : (∃ p ∈ ts, p.1 = u.1) ∧ u.2 = wt ts u.1 := by
  have c := can_canon ts
  have e := c.wt_mem h
  rw [can_wt] at e
  exact ⟨mem_of_wt (by rw [e]; exact c.nz u h), e.symm⟩
theorem ins_len {x : Str} {w : Int} : ∀ {us : List Tm}, (ins x w us).length ≤ us.length + 1
  | [] => by unfold ins; split <;> simp
  | p :: us => by
    unfold ins
    have := ins_len (x := x) (w := w) (us := us)
    repeat' split
    all_goals simp
    all_goals omega
theorem can_len : ∀ ts : List Tm, (can ts).length ≤ ts.length
  | [] => Nat.le_refl _
  | p :: ts => by
    have := can_len ts
    have := ins_len (x := p.1) (w := p.2) (us := can ts)
    show (ins p.1 p.2 (can ts)).length ≤ ts.length + 1
    omega
theorem wt_bound {B : Nat} {x : Str} : ∀ {ts : List Tm}, (∀ p ∈ ts, p.2.natAbs ≤ B) → (wt ts x).natAbs ≤ ts.length * B
  | [], _ => by simp [wt]
  | p :: ts, h => by
    have a := h p (by simp)
    have b := wt_bound (x := x) (ts := ts) fun q hq => h q (by simp [hq])
    rw [wt_cons, List.length_cons, Nat.succ_mul]
    split <;> omega
/-- a form within bounds: weights and constant below 2 ^ k, at most n terms, names that keep N -/
structure FOk (N : Str → Prop) (n k : Nat) (ts : List Tm) (c : Int) : Prop where
  can : Canon ts
  len : ts.length ≤ n
  nm : ∀ p ∈ ts, N p.1
  wb : ∀ p ∈ ts, p.2.natAbs < 2 ^ k
  cb : c.natAbs < 2 ^ k
theorem pow6 {m n k : Nat} (h : n ≤ 64) (hm : m ≤ n * 2 ^ k) : m ≤ 2 ^ (k + 6) := by
  refine Nat.le_trans hm ?_
  rw [Nat.pow_add, Nat.mul_comm]
  exact Nat.mul_le_mul_left _ h
/-- what is made of pairs is a form -/
theorem can_ok {N : Str → Prop} {k : Nat} {ts : List Tm} {c : Int} (hl : ts.length ≤ 60) (hn : ∀ p ∈ ts, N p.1) (hb : ∀ p ∈ ts, p.2.natAbs < 2 ^ k) (hc : c.natAbs < 2 ^ (k + 6)) : FOk N ts.length (k + 6) (can ts) c := by
  refine ⟨can_canon ts, can_len ts, fun u hu => ?_, fun u hu => ?_, hc⟩
  · obtain ⟨⟨p, hp, e⟩, _⟩ := can_mem hu
    rw [← e]; exact hn p hp
  · obtain ⟨_, e⟩ := can_mem hu
    rw [e]
    have h1 := wt_bound (x := u.1) (B := 2 ^ k) (ts := ts) fun p hp => Nat.le_of_lt (hb p hp)
    have h2 : ts.length * 2 ^ k < 64 * 2 ^ k := Nat.mul_lt_mul_of_pos_right (by omega) (Nat.pow_pos (by decide))
    have h3 : 64 * 2 ^ k = 2 ^ (k + 6) := by rw [Nat.pow_add, Nat.mul_comm]
    omega
/-! ### a row made by names -/
def rowOf (ys : List Str) (f : Str → Int) : List Tm := (ys.map fun x => (x, f x)).filter fun p => decide (p.2 ≠ 0)
theorem wt_rowOf {f : Str → Int} {x : Str} : ∀ {ys : List Str}, ys.Nodup → wt (rowOf ys f) x = if x ∈ ys then f x else 0
  | [], _ => by simp [rowOf, wt]
  | y :: ys, n => by
    have ih := wt_rowOf (f := f) (x := x) (List.nodup_cons.mp n).2
    unfold rowOf at ih ⊢
    rw [List.map_cons]
    by_cases h : f y = 0
    · rw [List.filter_cons_of_neg (by simpa using h), ih]
      by_cases e : x = y
      · subst e; rw [if_neg (List.nodup_cons.mp n).1, if_pos (by simp), h]
      · simp [e]
    · rw [List.filter_cons_of_pos (by simpa using h), wt_cons, ih]
      by_cases e : y = x
      · subst e; rw [if_pos rfl, if_neg (List.nodup_cons.mp n).1, if_pos (by simp), Int.add_zero]
      · have e' : ¬ x = y := fun z => e z.symm
        simp [e, e']
theorem canon_rowOf {f : Str → Int} {ys : List Str} (h : ys.Pairwise Lt) : Canon (rowOf ys f) := by
  refine ⟨?_, fun p hp => by simpa using (List.mem_filter.mp hp).2⟩
  unfold rowOf
  have : ((ys.map fun x => (x, f x)).map (·.1)).Pairwise Lt := by simpa [List.map_map, Function.comp_def] using h
  exact this.sublist ((List.filter_sublist).map _)
theorem rowOf_can {ts : List Tm} {ys : List Str} (h : ys.Pairwise Lt) (n : ys.Nodup) (hm : ∀ p ∈ ts, p.1 ∈ ys) : rowOf ys (wt ts) = can ts := can_eq (canon_rowOf h) fun x => by
  rw [wt_rowOf n]
  split
  · rfl
  · next e => exact (wt_none fun p hp z => e (by have := hm p hp; rw [z] at this; exact this)).symm
theorem rowOf_snoc {f : Str → Int} {ys : List Str} {y : Str} : rowOf (ys ++ [y]) f = if f y ≠ 0 then rowOf ys f ++ [(y, f y)] else rowOf ys f := by
  unfold rowOf
  rw [List.map_append, List.filter_append]
  by_cases h : f y = 0 <;> simp [h]
/-! ### sums by names in a dict -/
def putT (ks : List Tm) (x : Str) (v : Int) : List Tm := if (ks.any fun p => decide (p.1 = x)) = true then ks.map (fun p => if p.1 = x then (p.1, v) else p) else ks ++ [(x, v)]
def kOf (ks : List Tm) : List (Key × V) := ks.map fun p => (Sum.inr p.1, V.int p.2)
theorem val_kOf {x : Str} : ∀ {ks : List Tm}, valV (kOf ks) (Sum.inr x) = (ks.find? fun p => decide (p.1 = x)).map fun p => V.int p.2
  | [] => rfl
  | p :: ks => by
    by_cases h : p.1 = x
    · have : valV (kOf (p :: ks)) (Sum.inr x) = some (V.int p.2) := valV_pos (by show Sum.inr p.1 = Sum.inr x; rw [h])
      rw [this, List.find?_cons_of_pos (by simpa using h)]; rfl
    · have : valV (kOf (p :: ks)) (Sum.inr x) = valV (kOf ks) (Sum.inr x) := valV_neg (fun e => h (Sum.inr.inj e))
      rw [this, List.find?_cons_of_neg (by simpa using h)]; exact val_kOf
theorem put_kOf {ks : List Tm} {x : Str} {v : Int} : putK (kOf ks) (Sum.inr x) (V.int v) = kOf (putT ks x v) := by
  unfold putK putT
  have e : ((kOf ks).any fun kv => decide (kv.1 = Sum.inr x)) = ks.any fun p => decide (p.1 = x) := by
    unfold kOf; rw [List.any_map]; congr 1; funext p; simp
  rw [e]
  split
  · unfold kOf; rw [List.map_map, List.map_map]; congr 1; funext p
    simp only [Function.comp, Sum.inr.injEq]
    split <;> rfl
  · unfold kOf; rw [List.map_append]; rfl
/-- the sums so far -/
structure Sums (ks ts : List Tm) : Prop where
  nd : (ks.map (·.1)).Nodup
  iff : ∀ x, (x ∈ ks.map (·.1)) ↔ x ∈ ts.map (·.1)
  val : ∀ p ∈ ks, p.2 = wt ts p.1
  len : ks.length ≤ ts.length
theorem Sums.nil : Sums [] [] := ⟨by simp, by simp, by simp, Nat.le_refl _⟩
theorem Sums.find {ks ts : List Tm} (h : Sums ks ts) (x : Str) : ((ks.find? fun p => decide (p.1 = x)).map fun p => V.int p.2) = if x ∈ ts.map (·.1) then some (V.int (wt ts x)) else none := by
  cases e : ks.find? fun p => decide (p.1 = x) with
  | none =>
    have n : x ∉ ks.map (·.1) := fun z => by
      obtain ⟨p, hp, rfl⟩ := List.mem_map.mp z
      have := List.find?_eq_none.mp e p hp
      simp at this
    rw [if_neg (fun z => n ((h.iff x).mpr z))]; rfl
  | some p =>
    have hp := List.mem_of_find?_eq_some e
    have hx : p.1 = x := by simpa using List.find?_some e
    have : x ∈ ts.map (·.1) := (h.iff x).mp (hx ▸ List.mem_map_of_mem hp)
    rw [if_pos this]
    show some (V.int p.2) = _
    rw [h.val p hp, hx]
theorem Sums.put {ks ts : List Tm} (h : Sums ks ts) (p : Tm) : Sums (putT ks p.1 (wt ts p.1 + p.2)) (ts ++ [p]) := by
  have hw : ∀ x, wt (ts ++ [p]) x = wt ts x + if p.1 = x then p.2 else 0 := fun x => by rw [wt_append, wt_cons, wt_nil, Int.add_zero]
  unfold putT
  by_cases c : (ks.any fun q => decide (q.1 = p.1)) = true
  · rw [if_pos c]
    obtain ⟨q, hq, eq⟩ := List.any_eq_true.mp c
    have eq' : q.1 = p.1 := by simpa using eq
    have e : ((ks.map fun q => if q.1 = p.1 then (q.1, wt ts p.1 + p.2) else q).map (·.1)) = ks.map (·.1) := by
      rw [List.map_map]; congr 1; funext r; simp only [Function.comp]; split <;> rfl
    refine ⟨by rw [e]; exact h.nd, fun x => ?_, fun r hr => ?_, by rw [List.length_map, List.length_append]; have := h.len; simp; omega⟩
    · rw [e, h.iff, List.map_append]
      constructor
      · intro z; simp only [List.mem_append]; exact .inl z
      · intro z
        rcases List.mem_append.mp z with z | z
        · exact z
        · have : x = p.1 := by simpa using z
          rw [this, ← eq']; exact (h.iff _).mp (List.mem_map_of_mem hq)
    · obtain ⟨s, hs, rfl⟩ := List.mem_map.mp hr
      rw [hw]
      by_cases z : s.1 = p.1
      · simp only [if_pos z]; rw [if_pos z.symm, z]
      · simp only [if_neg z]; rw [if_neg (fun e => z e.symm), Int.add_zero]; exact h.val s hs
  · rw [if_neg c]
    have n : p.1 ∉ ks.map (·.1) := fun z => by
      obtain ⟨q, hq, e⟩ := List.mem_map.mp z
      exact c (List.any_eq_true.mpr ⟨q, hq, by simpa using e⟩)
    have n' : p.1 ∉ ts.map (·.1) := fun z => n ((h.iff _).mpr z)
    have w0 : wt ts p.1 = 0 := wt_none fun q hq e => n' (e ▸ List.mem_map_of_mem hq)
    refine ⟨?_, fun x => ?_, fun r hr => ?_, by have := h.len; simp; omega⟩
    · rw [List.map_append]
      refine List.nodup_append.mpr ⟨h.nd, by simp, fun x hx y hy e => n ?_⟩
      have hy' : y = p.1 := by simpa using hy
      rw [← hy', ← e]
      exact hx
    · simp only [List.map_append, List.mem_append, h.iff]; simp
    · rw [hw]
      rcases List.mem_append.mp hr with hr | hr
      · have : ¬ p.1 = r.1 := fun e => n (e ▸ List.mem_map_of_mem hr)
        rw [if_neg this, Int.add_zero]; exact h.val r hr
      · rw [List.mem_singleton.mp hr]; simp
/-! ### sizes -/
theorem natAbs_mul_lt {x y : Int} {a b : Nat} (hx : x.natAbs < 2 ^ a) (hy : y.natAbs < 2 ^ b) : (x * y).natAbs < 2 ^ (a + b) := wide_lt hx hy
theorem natAbs_add_lt {x y : Int} {a : Nat} (hx : x.natAbs < 2 ^ a) (hy : y.natAbs < 2 ^ a) : (x + y).natAbs < 2 ^ (a + 1) := by
  have := Int.natAbs_add_le x y
  rw [Nat.pow_succ]; omega
theorem pow_le {x : Int} {a b : Nat} (h : x.natAbs < 2 ^ a) (hab : a ≤ b) : x.natAbs < 2 ^ b := Nat.lt_of_lt_of_le h (Nat.pow_le_pow_right (by decide) hab)
/-- the sizes of a value under way: weights and constant below 2 ^ a, tops below 2 ^ b, bottoms below 2 ^ g -/
theorem acc_boundG {W : Wd} (a b g : Nat) : ∀ {ts : List Tm} {s : Int × Int} {i : Nat}, (∀ p ∈ ts, p.2.natAbs < 2 ^ a ∧ (W p.1).1.natAbs < 2 ^ b ∧ (W p.1).2.natAbs < 2 ^ g) → s.1.natAbs < 2 ^ (a + 1 + (b + g + 1) * i) → s.2.natAbs < 2 ^ (1 + g * i) →
    (accV W ts s).1.natAbs < 2 ^ (a + 1 + (b + g + 1) * (i + ts.length)) ∧ (accV W ts s).2.natAbs < 2 ^ (1 + g * (i + ts.length))
  | [], _, _, _, h1, h2 => ⟨h1, h2⟩
  | p :: ts, s, i, h, h1, h2 => by
    obtain ⟨ha, hb, hc⟩ := h p (by simp)
    have m1 : (b + g + 1) * (i + 1) = (b + g + 1) * i + (b + g + 1) := Nat.mul_succ _ _
    have m2 : g * (i + 1) = g * i + g := Nat.mul_succ _ _
    have m3 : g * i ≤ (b + g + 1) * i := Nat.mul_le_mul_right i (by omega)
    have e1 : (s.1 * (W p.1).2).natAbs < 2 ^ (a + 1 + (b + g + 1) * i + (b + g)) := pow_le (natAbs_mul_lt h1 hc) (by omega)
    have e2 : (p.2 * (W p.1).1 * s.2).natAbs < 2 ^ (a + 1 + (b + g + 1) * i + (b + g)) := pow_le (natAbs_mul_lt (natAbs_mul_lt ha hb) h2) (by omega)
    have e3 := natAbs_add_lt e1 e2
    have := acc_boundG (W := W) a b g (ts := ts) (s := (s.1 * (W p.1).2 + p.2 * (W p.1).1 * s.2, s.2 * (W p.1).2)) (i := i + 1) (fun q hq => h q (by simp [hq])) (pow_le e3 (by omega)) (pow_le (natAbs_mul_lt h2 hc) (by omega))
    rw [List.length_cons, show i + (ts.length + 1) = i + 1 + ts.length by omega]
    exact this
theorem acc_bound {W : Wd} {ts : List Tm} {c : Int} (h : ∀ p ∈ ts, p.2.natAbs < 2 ^ 400 ∧ (W p.1).1.natAbs < 2 ^ 1000 ∧ (W p.1).2.natAbs < 2 ^ 401) (hc : c.natAbs < 2 ^ 400) :
    (accV W ts (c, 1)).1.natAbs < 2 ^ (401 + 1402 * ts.length) ∧ (accV W ts (c, 1)).2.natAbs < 2 ^ (1 + 401 * ts.length) := by
  have := acc_boundG (W := W) 400 1000 401 (ts := ts) (s := (c, 1)) (i := 0) h (pow_le hc (by omega)) (show (1 : Int).natAbs < 2 ^ (1 + 401 * 0) by decide)
  rw [Nat.zero_add] at this
  exact this
theorem accV_append {W : Wd} : ∀ {ts us : List Tm} {s : Int × Int}, accV W (ts ++ us) s = accV W us (accV W ts s)
  | [], _, _ => rfl
  | p :: ts, us, s => accV_append (ts := ts)
theorem nodup_len : ∀ {l xs : List Str}, l.Nodup → (∀ x ∈ l, x ∈ xs) → l.length ≤ xs.length
  | [], _, _, _ => Nat.zero_le _
  | x :: l, xs, n, h => by
    have hx := h x (by simp)
    have := nodup_len (l := l) (xs := xs.erase x) (List.nodup_cons.mp n).2 fun y hy => (List.mem_erase_of_ne (fun e => (List.nodup_cons.mp n).1 (by rw [← e]; exact hy))).mpr (h y (by simp [hy]))
    rw [List.length_erase_of_mem hx] at this
    have := List.length_pos_of_mem hx
    rw [List.length_cons]; omega
theorem Canon.nodup {ts : List Tm} (c : Canon ts) : (ts.map (·.1)).Nodup := c.asc.imp fun {a b} h (e : a = b) => by subst e; exact h.irr
theorem Canon.short {ts : List Tm} {xs : List Str} (c : Canon ts) (h : ∀ p ∈ ts, p.1 ∈ xs) : ts.length ≤ xs.length := by
  have := nodup_len c.nodup fun x hx => by
    obtain ⟨p, hp, rfl⟩ := List.mem_map.mp hx
    exact h p hp
  rwa [List.length_map] at this
end Fm
/-! ### the pot of a law, pairs in lowest terms -/
def Pot (P : List V) : Prop := ∃ (pos car cnt mix : Int) (sc : List Int), P = V.int pos :: V.int car :: V.int cnt :: V.int mix :: sc.map V.int ∧ 4 ≤ pos ∧ 0 ≤ car ∧ 0 ≤ mix ∧ mix < 2147483647 ∧ sc.length ≤ 63
def PotAt (a : Addr) (H : Hp) : Prop := ∃ P, H a = some (.lst P) ∧ Pot P
theorem pot_at {x0 x1 x2 x3 : V} {sc : List Int} {i : Int} (h : 4 ≤ i) (h2 : i < sc.length + 4) : atI (x0 :: x1 :: x2 :: x3 :: sc.map V.int) i = some (.int (sc.getD (i.toNat - 4) 0)) := by
  obtain ⟨n, rfl⟩ : ∃ n : Nat, i = ((n + 4 : Nat) : Int) := ⟨i.toNat - 4, by omega⟩
  refine atI_nat ?_
  have h3 : n < sc.length := by omega
  have e : ((n + 4 : Nat) : Int).toNat - 4 = n := by omega
  rw [e, List.getElem?_cons_succ, List.getElem?_cons_succ, List.getElem?_cons_succ, List.getElem?_cons_succ, List.getElem?_map, List.getElem?_eq_getElem h3, List.getD_eq_getElem?_getD, List.getElem?_eq_getElem h3]
  rfl
def spTake : Sp := fun vs H Q _ => ∃ (a : Addr) (n : Int), vs = [.ref a, .int n] ∧ PotAt a H ∧ 0 < n ∧ n < 2 ^ 200 ∧ ∀ (r : Int) (H' : Hp), 0 ≤ r → r < n → Keep [a] H H' → PotAt a H' → Q (.int r) H'
theorem PotAt.new {a p : Addr} {o : HO} {H : Hp} (h : PotAt a H) (n : H p = none) : PotAt a (upd H p o) := by
  obtain ⟨P, hP, hp⟩ := h
  exact ⟨P, by rw [upd_ne (ne_of_none hP n)]; exact hP, hp⟩
theorem PotAt.put {a p : Addr} {o : HO} {H : Hp} (h : PotAt a H) (n : p ≠ a) : PotAt a (upd H p o) := by
  obtain ⟨P, hP, hp⟩ := h
  exact ⟨P, by rw [upd_ne n.symm]; exact hP, hp⟩
theorem PotAt.ne' {a p : Addr} {xs : List V} {H : Hp} (h : PotAt a H) (h2 : H p = some (.lst xs)) (n : ¬ Pot xs) : p ≠ a := by
  obtain ⟨P, hP, hp⟩ := h
  rintro rfl
  rw [hP] at h2; cases h2; exact n hp
theorem PotAt.ne {a p : Addr} {H : Hp} (h : PotAt a H) (n : H p = none) : p ≠ a := by
  obtain ⟨P, hP, _⟩ := h
  exact ne_free hP n
section
variable {Q : VK} {E : XK} {H : Hp}
theorem r_take {a : Addr} {n : Int} (hp : PotAt a H) (h0 : 0 < n) (h1 : n < 2 ^ 200) (k : ∀ (r : Int) (H' : Hp), 0 ≤ r → r < n → Keep [a] H H' → PotAt a H' → Q (.int r) H') : spTake [.ref a, .int n] H Q E := ⟨a, n, rfl, hp, h0, h1, k⟩
/-- a def of the pot that gives an int below m in size -/
def spPotInt (m : Nat) : Sp := fun vs H Q _ => ∃ a : Addr, vs = [.ref a] ∧ PotAt a H ∧ ∀ (r : Int) (H' : Hp), r.natAbs < m → Keep [a] H H' → PotAt a H' → Q (.int r) H'
theorem r_potInt {m : Nat} {a : Addr} (hp : PotAt a H) (k : ∀ (r : Int) (H' : Hp), r.natAbs < m → Keep [a] H H' → PotAt a H' → Q (.int r) H') : spPotInt m [.ref a] H Q E := ⟨a, rfl, hp, k⟩
def spPot (K : PySem.W.Frag) : Sp := fun vs H Q _ => ∃ (a : Addr) (ns : List Int), vs = [.ref a] ∧ SqL K H a (ns.map V.int) ∧ ns.length ≤ 63 ∧ ∀ (p : Addr) (H' : Hp), Keep [] H H' → H p = none → PotAt p H' → Q (.ref p) H'
/-- the divisor with the bottom's sign, and the pair in lowest terms -/
def dv (t b : Int) : Int := if b < 0 then -((Nat.gcd t.natAbs b.natAbs : Nat) : Int) else ((Nat.gcd t.natAbs b.natAbs : Nat) : Int)
def lowT (t b : Int) : Int := t.fdiv (dv t b)
def lowB (t b : Int) : Int := b.fdiv (dv t b)
def spLow : Sp := fun vs H Q _ => ∃ t b : Int, vs = [.int t, .int b] ∧ b ≠ 0 ∧ b.natAbs < 2 ^ 8000 ∧ ∀ (p : Addr) (H' : Hp), Keep [] H H' → H p = none → H' p = some (.tup [.int (lowT t b), .int (lowB t b)]) → Q (.ref p) H'
theorem r_low {t b : Int} (hb : b ≠ 0) (hz : b.natAbs < 2 ^ 8000) (k : ∀ (p : Addr) (H' : Hp), Keep [] H H' → H p = none → H' p = some (.tup [.int (lowT t b), .int (lowB t b)]) → Q (.ref p) H') : spLow [.int t, .int b] H Q E := ⟨t, b, rfl, hb, hz, k⟩
end
theorem gcd_pos {t b : Int} (h : b ≠ 0) : 0 < Nat.gcd t.natAbs b.natAbs := Nat.gcd_pos_of_pos_right _ (by omega)
theorem gcd_le {t b : Int} (h : b ≠ 0) : Nat.gcd t.natAbs b.natAbs ≤ b.natAbs := Nat.gcd_le_right _ (by omega)
theorem dv_ne {t b : Int} (h : b ≠ 0) : dv t b ≠ 0 := by
  have := gcd_pos (t := t) h
  unfold dv; split <;> omega
theorem dv_abs {t b : Int} : (dv t b).natAbs = Nat.gcd t.natAbs b.natAbs := by
  unfold dv; split <;> omega
theorem pow_mono {n : Nat} (a b : Nat) (h : n < 2 ^ a) (hab : a ≤ b := by decide) : n < 2 ^ b := Nat.lt_of_lt_of_le h (Nat.pow_le_pow_right (by decide) hab)
theorem lowT_one {x : Int} : lowT x 1 = x := by
  unfold lowT dv
  rw [if_neg (by decide), show (1 : Int).natAbs = 1 from rfl, Nat.gcd_one_right]
  exact Int.fdiv_one x
theorem lowB_one {x : Int} : lowB x 1 = 1 := by
  unfold lowB dv
  rw [if_neg (by decide), show (1 : Int).natAbs = 1 from rfl, Nat.gcd_one_right]
  rfl
theorem natAbs_fdiv_le {x g : Int} (hg : g ≠ 0) (hd : g ∣ x) : (x.fdiv g).natAbs ≤ x.natAbs := by
  obtain ⟨k, rfl⟩ := hd
  rw [Int.mul_fdiv_cancel_left _ hg, Int.natAbs_mul]
  exact Nat.le_mul_of_pos_left _ (by omega)
theorem dv_dvd_t {t b : Int} : dv t b ∣ t := by
  have h : ((Nat.gcd t.natAbs b.natAbs : Nat) : Int) ∣ t := Int.ofNat_dvd_left.mpr (Nat.gcd_dvd_left _ _)
  unfold dv; split
  · exact (Int.neg_dvd).mpr h
  · exact h
theorem dv_dvd_b {t b : Int} : dv t b ∣ b := by
  have h : ((Nat.gcd t.natAbs b.natAbs : Nat) : Int) ∣ b := Int.ofNat_dvd_left.mpr (Nat.gcd_dvd_right _ _)
  unfold dv; split
  · exact (Int.neg_dvd).mpr h
  · exact h
theorem lowT_le {t b : Int} (h : b ≠ 0) : (lowT t b).natAbs ≤ t.natAbs := natAbs_fdiv_le (dv_ne h) dv_dvd_t
theorem lowB_le {t b : Int} (h : b ≠ 0) : (lowB t b).natAbs ≤ b.natAbs := natAbs_fdiv_le (dv_ne h) dv_dvd_b
theorem lowB_ne {t b : Int} (h : b ≠ 0) : lowB t b ≠ 0 := by
  intro e
  have hd := dv_ne (t := t) h
  have h2 : b = dv t b * lowB t b := by
    unfold lowB
    rw [Int.mul_comm]; exact (Int.fdiv_mul_cancel dv_dvd_b).symm
  rw [e, Int.mul_zero] at h2
  exact h h2
theorem sgn_abs {s x : Int} (h0 : 0 ≤ s) (h1 : s < 2) : ((1 - 2 * s) * x).natAbs = x.natAbs := by
  have h : s = 0 ∨ s = 1 := by omega
  rcases h with rfl | rfl <;> omega
section
variable {Q : VK} {E : XK} {H : Hp}
/-- two pairs, made one in lowest terms -/
def spTwo (f : Int → Int → Int → Int → Int × Int) : Sp := fun vs H Q _ => ∃ (p q : Addr) (a b c d : Int), vs = [.ref p, .ref q] ∧ H p = some (.tup [.int a, .int b]) ∧ H q = some (.tup [.int c, .int d]) ∧ b ≠ 0 ∧ d ≠ 0 ∧ a.natAbs < 2 ^ 9000 ∧ b.natAbs < 2 ^ 3000 ∧ c.natAbs < 2 ^ 9000 ∧ d.natAbs < 2 ^ 3000 ∧
  ∀ (r : Addr) (H' : Hp), Keep [] H H' → H r = none → H' r = some (.tup [.int (lowT (f a b c d).1 (f a b c d).2), .int (lowB (f a b c d).1 (f a b c d).2)]) → Q (.ref r) H'
def fPlus (a b c d : Int) : Int × Int := (a * d + c * b, b * d)
def fTimes (a b c d : Int) : Int × Int := (a * c, b * d)
theorem r_two {f : Int → Int → Int → Int → Int × Int} {p q : Addr} {a b c d : Int} (hp : H p = some (.tup [.int a, .int b])) (hq : H q = some (.tup [.int c, .int d])) (hb : b ≠ 0) (hd : d ≠ 0) (za : a.natAbs < 2 ^ 9000) (zb : b.natAbs < 2 ^ 3000) (zc : c.natAbs < 2 ^ 9000) (zd : d.natAbs < 2 ^ 3000)
  (k : ∀ (r : Addr) (H' : Hp), Keep [] H H' → H r = none → H' r = some (.tup [.int (lowT (f a b c d).1 (f a b c d).2), .int (lowB (f a b c d).1 (f a b c d).2)]) → Q (.ref r) H') : spTwo f [.ref p, .ref q] H Q E := ⟨p, q, a, b, c, d, rfl, hp, hq, hb, hd, za, zb, zc, zd, k⟩
def spWhole : Sp := fun vs H Q _ => ∃ i : Int, vs = [.int i] ∧ Q (.bl true) H
theorem r_whole {i : Int} (k : Q (.bl true) H) : spWhole [.int i] H Q E := ⟨i, rfl, k⟩
def spPairIs : Sp := fun vs H Q _ => ∃ (p q : Addr) (a b : Int), vs = [.ref p, .ref q] ∧ H p = some (.tup [.int a, .int b]) ∧ H q = some (.tup [.int a, .int b]) ∧ Q (.bl true) H
theorem r_pairIs {p q : Addr} {a b : Int} (hp : H p = some (.tup [.int a, .int b])) (hq : H q = some (.tup [.int a, .int b])) (k : Q (.bl true) H) : spPairIs [.ref p, .ref q] H Q E := ⟨p, q, a, b, rfl, hp, hq, k⟩
/-- the law's pair in lowest terms: a bottom above 0 -/
def spLow0 : Sp := fun vs H Q _ => ∃ t b : Int, vs = [.int t, .int b] ∧ 0 < b ∧ b.natAbs < 2 ^ 8000 ∧ ∀ (p : Addr) (H' : Hp), Keep [] H H' → H p = none → H' p = some (.tup [.int (lowT t b), .int (lowB t b)]) → Q (.ref p) H'
theorem r_low0 {t b : Int} (hb : 0 < b) (hz : b.natAbs < 2 ^ 8000) (k : ∀ (p : Addr) (H' : Hp), Keep [] H H' → H p = none → H' p = some (.tup [.int (lowT t b), .int (lowB t b)]) → Q (.ref p) H') : spLow0 [.int t, .int b] H Q E := ⟨t, b, rfl, hb, hz, k⟩
end
theorem low_mul {t b : Int} : lowT t b * dv t b = t ∧ lowB t b * dv t b = b := ⟨Int.fdiv_mul_cancel dv_dvd_t, Int.fdiv_mul_cancel dv_dvd_b⟩
theorem lowB_pos {t b : Int} (h : 0 < b) : 0 < lowB t b := by
  have e := (low_mul (t := t) (b := b)).2
  have g : 0 < dv t b := by
    have := gcd_pos (t := t) (show b ≠ 0 by omega)
    unfold dv; rw [if_neg (by omega)]; omega
  have : 0 < lowB t b * dv t b := by rw [e]; exact h
  exact Int.pos_of_mul_pos_left this g
theorem low_cross {t b : Int} : lowT t b * b = t * lowB t b := by
  have e := low_mul (t := t) (b := b)
  calc lowT t b * b = lowT t b * (lowB t b * dv t b) := by rw [e.2]
    _ = (lowT t b * dv t b) * lowB t b := by ac_rfl
    _ = t * lowB t b := by rw [e.1]
/-- equal ratios have one pair in lowest terms -/
theorem low_eq {t b t' b' : Int} (hb : 0 < b) (hb' : 0 < b') (h : t * b' = t' * b) : lowT t b = lowT t' b' ∧ lowB t b = lowB t' b' := by
  have cop : ∀ {t b : Int}, 0 < b → Nat.gcd (lowT t b).natAbs (lowB t b).natAbs = 1 := by
    intro t b hb
    have g := gcd_pos (t := t) (show b ≠ 0 by omega)
    have e := low_mul (t := t) (b := b)
    have z : Nat.gcd t.natAbs b.natAbs = Nat.gcd (lowT t b).natAbs (lowB t b).natAbs * Nat.gcd t.natAbs b.natAbs := by
      have a := dv_abs (t := t) (b := b)
      have et : t.natAbs = (lowT t b).natAbs * Nat.gcd t.natAbs b.natAbs := by rw [← a, ← Int.natAbs_mul, e.1]
      have eb : b.natAbs = (lowB t b).natAbs * Nat.gcd t.natAbs b.natAbs := by rw [← a, ← Int.natAbs_mul, e.2]
      calc Nat.gcd t.natAbs b.natAbs = Nat.gcd ((lowT t b).natAbs * Nat.gcd t.natAbs b.natAbs) ((lowB t b).natAbs * Nat.gcd t.natAbs b.natAbs) := by rw [← et, ← eb]
        _ = _ := Nat.gcd_mul_right _ _ _
    have : 1 * Nat.gcd t.natAbs b.natAbs = Nat.gcd (lowT t b).natAbs (lowB t b).natAbs * Nat.gcd t.natAbs b.natAbs := by rw [Nat.one_mul]; exact z
    exact (Nat.eq_of_mul_eq_mul_right g this).symm
  have p := lowB_pos (t := t) hb
  have p' := lowB_pos (t := t') hb'
  have x : lowT t b * lowB t' b' = lowT t' b' * lowB t b := by
    have c := low_cross (t := t) (b := b)
    have c' := low_cross (t := t') (b := b')
    have : lowT t b * lowB t' b' * (b * b') = lowT t' b' * lowB t b * (b * b') := by
      calc lowT t b * lowB t' b' * (b * b') = (lowT t b * b) * (lowB t' b' * b') := by ac_rfl
        _ = (t * lowB t b) * (lowB t' b' * b') := by rw [c]
        _ = (t * b') * (lowB t b * lowB t' b') := by ac_rfl
        _ = (t' * b) * (lowB t b * lowB t' b') := by rw [h]
        _ = (t' * lowB t' b') * (lowB t b * b) := by ac_rfl
        _ = (lowT t' b' * b') * (lowB t b * b) := by rw [c']
        _ = lowT t' b' * lowB t b * (b * b') := by ac_rfl
    exact Int.eq_of_mul_eq_mul_right (by have := Int.mul_pos hb hb'; omega) this
  have d1 : (lowB t b).natAbs ∣ (lowB t' b').natAbs := by
    refine Nat.Coprime.dvd_of_dvd_mul_left (k := (lowB t b).natAbs) (m := (lowT t b).natAbs) (Nat.Coprime.symm (cop hb)) ?_
    rw [← Int.natAbs_mul, x, Int.natAbs_mul]; exact Nat.dvd_mul_left _ _
  have d2 : (lowB t' b').natAbs ∣ (lowB t b).natAbs := by
    refine Nat.Coprime.dvd_of_dvd_mul_left (k := (lowB t' b').natAbs) (m := (lowT t' b').natAbs) (Nat.Coprime.symm (cop hb')) ?_
    rw [← Int.natAbs_mul, ← x, Int.natAbs_mul]; exact Nat.dvd_mul_left _ _
  have e := Nat.dvd_antisymm d1 d2
  have e' : lowB t b = lowB t' b' := by omega
  refine ⟨?_, e'⟩
  rw [e'] at x
  exact Int.eq_of_mul_eq_mul_right (by omega) x
theorem low_step {N D w p q : Int} (hD : 0 < D) (hq : 0 < q) :
    let f := fPlus (lowT N D) (lowB N D) (lowT (fTimes w 1 p q).1 (fTimes w 1 p q).2) (lowB (fTimes w 1 p q).1 (fTimes w 1 p q).2)
    lowT f.1 f.2 = lowT (N * q + w * p * D) (D * q) ∧ lowB f.1 f.2 = lowB (N * q + w * p * D) (D * q) ∧ 0 < f.2 := by
  intro f
  have hq' : 0 < (fTimes w 1 p q).2 := by show 0 < 1 * q; omega
  have p1 := lowB_pos (t := N) hD
  have p2 := lowB_pos (t := (fTimes w 1 p q).1) hq'
  have c1 := low_cross (t := N) (b := D)
  have c2 := low_cross (t := (fTimes w 1 p q).1) (b := (fTimes w 1 p q).2)
  have hf : 0 < f.2 := Int.mul_pos p1 p2
  have e : f.1 * (D * q) = (N * q + w * p * D) * f.2 := by
    show (lowT N D * lowB (w * p) (1 * q) + lowT (w * p) (1 * q) * lowB N D) * (D * q) = (N * q + w * p * D) * (lowB N D * lowB (w * p) (1 * q))
    have c2' : lowT (w * p) (1 * q) * q = w * p * lowB (w * p) (1 * q) := by
      have := c2
      show lowT (w * p) (1 * q) * q = _
      have h : (fTimes w 1 p q).2 = q := by show 1 * q = q; omega
      rw [h] at this
      have h2 : (1 : Int) * q = q := by omega
      rw [h2]; exact this
    generalize lowB (w * p) (1 * q) = b2 at *
    generalize lowT (w * p) (1 * q) = t2 at *
    calc (lowT N D * b2 + t2 * lowB N D) * (D * q) = (lowT N D * D) * (b2 * q) + (t2 * q) * (lowB N D * D) := by rw [Int.add_mul]; congr 1 <;> ac_rfl
      _ = (N * lowB N D) * (b2 * q) + (w * p * b2) * (lowB N D * D) := by rw [c1, c2']
      _ = (N * q + w * p * D) * (lowB N D * b2) := by rw [Int.add_mul]; congr 1 <;> ac_rfl
  obtain ⟨a, b⟩ := low_eq hf (Int.mul_pos hD hq) e
  exact ⟨a, b, hf⟩
/-! ### readings of texts, dicts, tuples as targets -/
def rInSg : R2 := fun x y H Q => ∃ (c : Nat) (z : Str), x = .str ⟨#[c]⟩ ∧ y = .str z ∧ Q (.bl (decide (c ∈ z.cps.toList))) H
def rNinSg : R2 := fun x y H Q => ∃ (c : Nat) (z : Str), x = .str ⟨#[c]⟩ ∧ y = .str z ∧ Q (.bl (!decide (c ∈ z.cps.toList))) H
def rAddS : R2 := fun x y H Q => ∃ i j, x = .str i ∧ y = .str j ∧ i.length + j.length ≤ sizeLine ∧ Q (.str (i ++ j)) H
theorem op_inSg {X : Cx} : OpR X (compareOp .In) rInSg := op_in_sign
theorem op_ninSg {X : Cx} : OpR X (compareOp .NotIn) rNinSg := op_notIn_sign
theorem op_addS {X : Cx} : OpR X (binaryOp .Add) rAddS := op_add_str
section
variable {K : PySem.W.Frag} {σ : L2.St} {H : Hp} {Q : VK} {QB : Bool → Hp → Prop} {D : Ends} {ta tb td ty tv te : TE} {v x y : V} {i j z : Str} {n : Int} {c : Nat} {p : Addr}
theorem r_inSg (k : Q (.bl (decide (c ∈ z.cps.toList))) H) : rInSg (.str ⟨#[c]⟩) (.str z) H Q := ⟨c, z, rfl, rfl, k⟩
theorem r_ninSg (k : Q (.bl (!decide (c ∈ z.cps.toList))) H) : rNinSg (.str ⟨#[c]⟩) (.str z) H Q := ⟨c, z, rfl, rfl, k⟩
theorem r_addS (h : i.length + j.length ≤ sizeLine) (k : Q (.str (i ++ j)) H) : rAddS (.str i) (.str j) H Q := ⟨i, j, rfl, rfl, h, k⟩
theorem r_ixS (h : z.length ≤ sizeLine) (h2 : atI z.cps.toList n = some c) (k : Q (.str ⟨#[c]⟩) H) : rIxS (.str z) (.int n) H Q := ⟨z, n, c, rfl, rfl, h, h2, k⟩
theorem r_slS {lo hi : Option Int} (h : z.length ≤ sizeLine) (k : Q (.str (cutS z lo hi)) H) : rSlS (.str z) lo hi H Q := ⟨z, rfl, h, k⟩
theorem r_sum {ns : List Int} (h : SqL K H p (ns.map V.int)) (k : Q (.int ns.sum) H) : rSum K [.ref p] H Q := ⟨p, ns, rfl, h, k⟩
theorem r_all {bs : List Bool} (h : SqL K H p (bs.map V.bl)) (k : Q (.bl (bs.all id)) H) : rAll K [.ref p] H Q := ⟨p, bs, rfl, h, k⟩
theorem r_sortS {xs : List Str} (h : SqL K H p (xs.map V.str)) (h2 : xs.length < 64) (k : ∀ (ys : List Str) (q : Addr), ys.Perm xs → sortedS ys = true → H q = none → Q (.ref q) (upd H q (.lst (ys.map V.str)))) : rSortedS K [.ref p] H Q := ⟨p, xs, rfl, h, h2, k⟩
theorem r_listD {kvs : List (Key × V)} (h : H p = some (.dK kvs)) (k : ∀ q, H q = none → Q (.ref q) (upd H q (.lst (kvs.map fun kv => kV kv.1)))) : rListD [.ref p] H Q := ⟨p, kvs, rfl, h, k⟩
/-- dicts with texts as keys -/
def rDGet : V → V → Hp → VK → Prop := fun x y H Q => ∃ a v, x = .ref a ∧ DGet H a y (some v) ∧ Q v H
def rDGet2 : V → V → V → Hp → VK → Prop := fun x y z H Q => ∃ a o, x = .ref a ∧ DGet H a y o ∧ Q (o.getD z) H
def rDPut : V → V → V → Hp → (Hp → Prop) → Prop := fun x y v H Q => ∃ a H4, x = .ref a ∧ DPut H a y v H4 ∧ Q H4
def rDInB (f : Bool → Bool) : V → V → Hp → VK → Prop := fun y x H Q => ∃ a o, x = .ref a ∧ DGet H a y o ∧ Q (.bl (f o.isSome)) H
theorem r_dget (k : td σ H fun x H1 => ty σ H1 fun y H2 => rDGet x y H2 Q) : tDGet td ty σ H Q := k
theorem r_dgetS {kvs : List (Key × V)} (h : H p = some (.dK kvs)) (h2 : valV kvs (Sum.inr z) = some v) (k : Q v H) : rDGet (.ref p) (.str z) H Q := ⟨p, v, rfl, .inl ⟨kvs, Sum.inr z, .inl h, rfl, h2.symm⟩, k⟩
theorem r_dput (k : tv σ H fun v H1 => td σ H1 fun x H2 => ty σ H2 fun y H3 => rDPut x y v H3 fun H4 => D.nx σ H4) : sDPut td ty tv D σ H := k
theorem r_dputS {kvs : List (Key × V)} {Q : Hp → Prop} (h : H p = some (.dK kvs)) (hl : kvs.length < sizeLine) (k : Q (upd H p (.dK (putK kvs (Sum.inr z) v)))) : rDPut (.ref p) (.str z) v H Q := ⟨p, _, rfl, DPut.k (k := Sum.inr z) h hl, k⟩
theorem r_dget2 {tx : TE} (h : td σ H fun x H1 => ∃ a, x = .ref a ∧ IsD H1 a ∧ ty σ H1 fun y H2 => tx σ H2 fun z H3 => ∃ o, DGet H3 a y o ∧ Q (o.getD z) H3) : tDGet2 td ty tx σ H Q := h
theorem r_dgetO {kvs : List (Key × V)} {R : Option V → Prop} (h : H p = some (.dK kvs)) (k : R (valV kvs (Sum.inr z))) : ∃ o, DGet H p (.str z) o ∧ R o := ⟨_, DGet.k (k := Sum.inr z) h, k⟩
theorem r_isD {kvs : List (Key × V)} {R : Addr → Prop} (h : H p = some (.dK kvs)) (k : R p) : ∃ a, V.ref p = .ref a ∧ IsD H a ∧ R a := ⟨p, rfl, .inl ⟨kvs, .inl h⟩, k⟩
theorem r_din (k : ty σ H fun y H1 => td σ H1 fun x H2 => rDInB id y x H2 Q) : tDIn ty td σ H Q := k
theorem r_dnin (k : ty σ H fun y H1 => td σ H1 fun x H2 => rDInB (fun b => !b) y x H2 Q) : tDNotIn ty td σ H Q := k
theorem r_dinS {kvs : List (Key × V)} {f : Bool → Bool} (h : H p = some (.dK kvs)) (k : Q (.bl (f (valV kvs (Sum.inr z)).isSome)) H) : rDInB f (.str z) (.ref p) H Q := ⟨p, _, rfl, DGet.k (k := Sum.inr z) h, k⟩
theorem r_dnew (k : ∀ p, H p = none → Q (.ref p) (upd H p (.dK []))) : tDNewK σ H Q := k
theorem r_gTup2 {i j : Nat} {Q : L2.St → Hp → Prop} (h : SqT K H p [x, y]) (k : Q ((σ.set i (some x)).set j (some y)) H) : gTup K 2 (gCons (gName i) (gCons (gName j) gNil)) (.ref p) σ H Q := ⟨p, [x, y], rfl, h, rfl, x, [y], rfl, y, [], rfl, rfl, k⟩
theorem r_strI {i : Int} {F : Int → Prop} (h : i.natAbs.log2 < 1920) (k : F i) : ∃ j, [V.int i] = [.int j] ∧ j.natAbs.log2 < 1920 ∧ F j := ⟨i, rfl, h, k⟩
theorem r_strS {i : Str} {F : Str → Prop} (k : F i) : ∃ j, [V.str i] = [.str j] ∧ F j := ⟨i, rfl, k⟩
theorem r_tupL {xs : List V} {F : Addr → Prop} {G : List V → Addr → Prop} (h : SqL K H p xs) (k : ∀ l, H l = none → G xs l) : ∃ q ys, [V.ref p] = [.ref q] ∧ ((SqL K H q ys ∧ ∀ l, H l = none → G ys l) ∨ (SqT K H q ys ∧ F q)) := ⟨p, xs, rfl, .inl ⟨h, k⟩⟩
theorem r_js {t : TE} {ts : List TE} {acc : Str} {Q : Str → Hp → Prop} (k : t σ H fun x H1 => ∃ y : Str, x = .str y ∧ (acc ++ y).length ≤ sizeLine ∧ tJs ts (acc ++ y) σ H1 Q) : tJs (t :: ts) acc σ H Q := k
theorem r_js0 {acc : Str} {Q : Str → Hp → Prop} (k : Q acc H) : tJs [] acc σ H Q := k
theorem r_jsS {y : Str} {A B : Str → Prop} (h : A y) (k : B y) : ∃ z, V.str y = .str z ∧ A z ∧ B z := ⟨y, rfl, h, k⟩
theorem r_fmt (k : te σ H fun x H1 => (∃ y : Str, x = .str y ∧ y.length ≤ sizeLine ∧ Q (.str y) H1) ∨ ∃ i : Int, x = .int i ∧ i.natAbs.log2 < 1920 ∧ Q (.str (toString i)) H1) : tFmt te σ H Q := k
end
/-! ### comprehensions over a text -/
section
variable {K : PySem.W.Frag} {σ : L2.St} {H : Hp} {Q : VK} {te tl : TE} {tt : TT} {G : TG} {vs : List Nat}
def CompS (G : TG) (tt : TT) (te : TE) (vs : List Nat) (σ : L2.St) (Q : VK) (x : V) (H1 : Hp) : Prop := ∃ z, x = .str z ∧ CompW (Its z) G tt te vs σ Q H1
theorem r_lcS (k : tl σ H fun x H1 => CompS G tt te vs σ Q x H1) : tLc (iStr tl) G tt te vs σ H Q := k
theorem lcS_go {z : Str} (Pv : Addr → Nat → List V → Hp → Prop) (h0 : ∀ D, H D = none → Pv D 0 [] (upd H D (.lst [])))
    (hs : ∀ D (i : Nat) c acc H', z.cps[i]? = some c → H' D = some (.lst acc) → Pv D i acc H' → G (.str ⟨#[c]⟩) (wipe σ vs) H' fun σ2 H2 => wipe σ2 vs = wipe σ vs ∧ tt σ2 H2 fun b H3 =>
      if b = true then te σ2 H3 fun y H4 => ∃ acc, H4 D = some (.lst acc) ∧ acc.length < sizeLine ∧ (∃ ac, (upd H4 D (.lst (acc ++ [y]))) D = some (.lst ac) ∧ Pv D (i + 1) ac (upd H4 D (.lst (acc ++ [y])))) else ∃ ac, H3 D = some (.lst ac) ∧ Pv D (i + 1) ac H3)
    (hd : ∀ D acc H', H D = none → H' D = some (.lst acc) → Pv D z.cps.size acc H' → Q (.ref D) H') : CompS G tt te vs σ Q (.str z) H :=
  ⟨z, rfl, fun D hD => lc_it (walk_str (z := z)) (fun i H' => ∃ acc, H' D = some (.lst acc) ∧ Pv D i acc H') ⟨[], upd_same, h0 D hD⟩ (fun _ _ _ _ => True.intro) (fun i x H' H2 hi ⟨acc, ha, p⟩ ⟨e, c, hc, hx⟩ => by subst e; subst hx; exact hs D i c acc _ hc ha p) fun H' ⟨acc, ha, p⟩ => hd D acc H' hD ha p⟩
end
namespace Wr
open PySem PySem.Spec PyProof.Rows L2
/-! ### forms written -/
theorem app_assoc (x y z : Str) : x ++ y ++ z = x ++ (y ++ z) := by
  show (⟨x.cps ++ y.cps ++ z.cps⟩ : Str) = ⟨x.cps ++ (y.cps ++ z.cps)⟩
  rw [Array.append_assoc]
theorem emp_app (x : Str) : Str.empty ++ x = x := by
  show (⟨#[] ++ x.cps⟩ : Str) = x
  rw [Array.empty_append]
theorem len_app (x y : Str) : (x ++ y).length = x.length + y.length := Array.size_append
theorem ne_emp {x : Str} (h : 0 < x.length) : x ≠ Str.empty := by rintro rfl; cases h
def num (i : Int) : Str := Str.ofString (toString i)
theorem of_app (s t : String) : Str.ofString (s ++ t) = Str.ofString s ++ Str.ofString t := by
  rw [Str.ofString_eq_toList, Str.ofString_eq_toList, Str.ofString_eq_toList]
  show _ = (⟨(s.toList.map Char.toNat).toArray ++ (t.toList.map Char.toNat).toArray⟩ : Str)
  rw [String.toList_append, List.map_append, List.append_toArray]
theorem num_neg {i : Int} (h : i < 0) : num i = Str.ofString "-" ++ num (i.natAbs : Int) := by
  unfold num
  rw [PyProof.Rows.toString_neg h, of_app, show (0 - i) = ((i.natAbs : Nat) : Int) by omega]
theorem num_len {i : Int} {k : Nat} (hk : 0 < k) (h : i.natAbs.log2 < k) : (num i).length ≤ k + 5 := by
  have e := int_text_length_le (k := k) hk h
  unfold num
  rw [PySem.ofString_length]; omega
def sp : Str := Str.ofString " "
def sg (w : Int) : Str := if w < 0 then Str.ofString "-" else Str.ofString "+"
/-- one term -/
def part (w : Int) (x : Str) : Str := if (w.natAbs : Int) = 1 then x else num (w.natAbs : Int) ++ sp ++ x
abbrev Pt := Int × Str
/-- the parts of a form -/
def pts (ts : List Fm.Tm) (c : Int) : List Pt := (ts.map fun p => (p.2, part p.2 p.1)) ++ (if c ≠ 0 ∨ ts = [] then [(c, num (c.natAbs : Int))] else [])
def tailW (ps : List Pt) : List Str := ps.flatMap fun p => [sg p.1, p.2]
def first (p : Pt) : Str := if p.1 < 0 then Str.ofString "-" ++ p.2 else p.2
def words : List Pt → List Str
  | [] => []
  | p :: r => first p :: tailW r
/-- as the program writes it -/
def prog (ts : List Fm.Tm) (c : Int) : Str := Str.join sp (words (pts ts c))
/-- as the law writes it -/
def step (line : Str) (p : Fm.Tm) : Str := (if line ≠ Str.empty then line ++ sp ++ sg p.2 ++ sp else if p.2 < 0 then Str.ofString "-" else line) ++ part p.2 p.1
def due (ts : List Fm.Tm) (c : Int) : Str := if ts = [] then num c else
  if 0 < c then ts.foldl step Str.empty ++ Str.ofString " + " ++ num c else if c < 0 then ts.foldl step Str.empty ++ Str.ofString " - " ++ num (-c) else ts.foldl step Str.empty
theorem join_snoc (s : Str) (t : Str) : ∀ (y : Str) (ws : List Str), Str.join s (y :: (ws ++ [t])) = Str.join s (y :: ws) ++ s ++ t
  | y, [] => rfl
  | y, z :: ws => by
    show y ++ s ++ Str.join s (z :: (ws ++ [t])) = (y ++ s ++ Str.join s (z :: ws)) ++ s ++ t
    rw [join_snoc s t z ws, ← app_assoc, ← app_assoc]
theorem part_pos {w : Int} {x : Str} (h : 0 < x.length) : 0 < (part w x).length := by
  unfold part; split
  · exact h
  · rw [len_app]; omega
theorem fold_step : ∀ (r : List Fm.Tm) (y : Str) (ws : List Str), 0 < (Str.join sp (y :: ws)).length → (∀ p ∈ r, 0 < p.1.length) →
    r.foldl step (Str.join sp (y :: ws)) = Str.join sp (y :: (ws ++ tailW (r.map fun p => (p.2, part p.2 p.1)))) ∧ 0 < (r.foldl step (Str.join sp (y :: ws))).length
  | [], y, ws, h, _ => ⟨by simp [tailW], h⟩
  | p :: r, y, ws, h, hn => by
    have e : step (Str.join sp (y :: ws)) p = Str.join sp (y :: (ws ++ [sg p.2, part p.2 p.1])) := by
      unfold step
      rw [if_pos (ne_emp h), show ws ++ [sg p.2, part p.2 p.1] = (ws ++ [sg p.2]) ++ [part p.2 p.1] by simp, join_snoc, join_snoc]
    have h2 : 0 < (Str.join sp (y :: (ws ++ [sg p.2, part p.2 p.1]))).length := by
      rw [← e]; unfold step; rw [len_app]; have := part_pos (w := p.2) (hn p (by simp)); omega
    have ih := fold_step r y (ws ++ [sg p.2, part p.2 p.1]) h2 fun q hq => hn q (by simp [hq])
    rw [List.foldl_cons, e]
    refine ⟨?_, ih.2⟩
    rw [ih.1]
    congr 2
    simp [tailW]
/-- both write the same -/
theorem same {ts : List Fm.Tm} {c : Int} (hn : ∀ p ∈ ts, 0 < p.1.length) : prog ts c = due ts c := by
  unfold prog due pts
  cases ts with
  | nil =>
    rw [if_pos rfl]
    simp only [List.map_nil, List.nil_append, or_true, if_true, words, tailW, List.flatMap_nil]
    show first (c, num (c.natAbs : Int)) = _
    unfold first
    split
    · next h => exact (num_neg h).symm
    · next h => show num (c.natAbs : Int) = _; rw [show ((c.natAbs : Nat) : Int) = c by have h' : ¬ c < 0 := h; omega]
  | cons p r =>
    rw [if_neg (show ¬ (p :: r = []) by simp)]
    have s0 : step Str.empty p = first (p.2, part p.2 p.1) := by
      unfold step first
      rw [if_neg (by simp)]
      split
      · rfl
      · exact emp_app _
    have h1 : 0 < (Str.join sp [first (p.2, part p.2 p.1)]).length := by
      show 0 < (first (p.2, part p.2 p.1)).length
      have := part_pos (w := p.2) (hn p (by simp))
      unfold first; split
      · rw [len_app]; dsimp only; omega
      · exact this
    have f := fold_step r (first (p.2, part p.2 p.1)) [] h1 fun q hq => hn q (by simp [hq])
    have f1 : (p :: r).foldl step Str.empty = Str.join sp (first (p.2, part p.2 p.1) :: tailW (r.map fun p => (p.2, part p.2 p.1))) := by
      rw [List.foldl_cons, s0]; exact f.1
    rw [f1]
    have wc : ∀ t : Pt, words (((p :: r).map fun p => (p.2, part p.2 p.1)) ++ [t]) = first (p.2, part p.2 p.1) :: (tailW (r.map fun p => (p.2, part p.2 p.1)) ++ [sg t.1] ++ [t.2]) := fun t => by
      simp [words, tailW]
    by_cases h : c = 0
    · subst h
      rw [if_neg (by simp), if_neg (by decide), if_neg (by decide), List.append_nil]; rfl
    · rw [if_pos (.inl h), wc, join_snoc, join_snoc]
      dsimp only
      by_cases h0 : 0 < c
      · rw [if_pos h0]
        unfold sg
        rw [if_neg (by omega), show ((c.natAbs : Nat) : Int) = c by omega, show Str.ofString " + " = sp ++ (Str.ofString "+" ++ sp) by decide +kernel]
        simp only [app_assoc]
      · rw [if_neg h0, if_pos (by omega)]
        unfold sg
        rw [if_pos (by omega), show ((c.natAbs : Nat) : Int) = -c by omega, show Str.ofString " - " = sp ++ (Str.ofString "-" ++ sp) by decide +kernel]
        simp only [app_assoc]
theorem tailW_len : ∀ ps : List Pt, (tailW ps).length = 2 * ps.length
  | [] => rfl
  | p :: ps => by
    have := tailW_len ps
    show (sg p.1 :: p.2 :: tailW ps).length = _
    simp only [List.length_cons, this]; omega
theorem tailW_snoc (ps : List Pt) (p : Pt) : tailW (ps ++ [p]) = tailW ps ++ [sg p.1, p.2] := by simp [tailW]
theorem tailW_mem {ps : List Pt} {y : Str} (h : y ∈ tailW ps) : (∃ w, y = sg w) ∨ ∃ p ∈ ps, y = p.2 := by
  obtain ⟨p, hp, hy⟩ := List.mem_flatMap.mp h
  rcases List.mem_cons.mp hy with e | e
  · exact .inl ⟨p.1, e⟩
  · exact .inr ⟨p, hp, List.mem_singleton.mp e⟩
theorem sum_len {B : Nat} : ∀ {ys : List Str}, (∀ y ∈ ys, y.length ≤ B) → (ys.map (·.length)).sum ≤ ys.length * B
  | [], _ => by simp
  | y :: ys, h => by
    have a := h y (by simp)
    have b := sum_len (B := B) (ys := ys) fun z hz => h z (by simp [hz])
    rw [List.map_cons, List.sum_cons, List.length_cons, Nat.succ_mul]; omega
end Wr
/-! ### a row of objects, each told by its item -/
section
variable {α : Type} {f : α → HO} {H H' : Hp}
def AllAt (f : α → HO) (H : Hp) : List Addr → List α → Prop
  | [], [] => True
  | a :: as, x :: xs => H a = some (f x) ∧ AllAt f H as xs
  | _, _ => False
theorem AllAt.len : ∀ {as : List Addr} {xs : List α}, AllAt f H as xs → as.length = xs.length
  | [], [], _ => rfl
  | _ :: _, _ :: _, h => congrArg Nat.succ (AllAt.len h.2)
  | [], _ :: _, h => h.elim
  | _ :: _, [], h => h.elim
theorem AllAt.get : ∀ {as : List Addr} {xs : List α} {i : Nat} {a : Addr}, AllAt f H as xs → as[i]? = some a → ∃ x, xs[i]? = some x ∧ H a = some (f x)
  | [], _, _, _, _, e => by simp at e
  | _ :: _, [], _, _, h, _ => h.elim
  | b :: as, p :: ts, 0, a, h, e => by
    have : b = a := by simpa using e
    subst this; exact ⟨p, rfl, h.1⟩
  | b :: as, p :: ts, i + 1, a, h, e => by
    obtain ⟨q, h1, h2⟩ := AllAt.get (i := i) h.2 (by simpa using e)
    exact ⟨q, by simpa using h1, h2⟩
theorem AllAt.mono : ∀ {as : List Addr} {xs : List α}, AllAt f H as xs → (∀ a x, a ∈ as → x ∈ xs → H a = some (f x) → H' a = some (f x)) → AllAt f H' as xs
  | [], [], _, _ => trivial
  | a :: as, p :: ts, h, k => ⟨k a p (by simp) (by simp) h.1, h.2.mono fun b q hb hq => k b q (by simp [hb]) (by simp [hq])⟩
  | [], _ :: _, h, _ => h.elim
  | _ :: _, [], h, _ => h.elim
theorem AllAt.app : ∀ {as bs : List Addr} {xs ys : List α}, AllAt f H as xs → AllAt f H bs ys → AllAt f H (as ++ bs) (xs ++ ys)
  | [], _, [], _, _, k => k
  | _ :: _, _, _ :: _, _, h, k => ⟨h.1, h.2.app k⟩
  | [], _, _ :: _, _, h, _ => h.elim
  | _ :: _, _, [], _, h, _ => h.elim
theorem AllAt.keep0 {as : List Addr} {xs : List α} (h : AllAt f H as xs) (k : Keep [] H H') : AllAt f H' as xs := h.mono fun a p _ _ e => k a _ (by simp) e
/-- kept where the changed addresses hold other things -/
theorem AllAt.keep {M : List Addr} {as : List Addr} {xs : List α} (h : AllAt f H as xs) (k : Keep M H H') (n : ∀ m ∈ M, ∀ x, H m ≠ some (f x)) : AllAt f H' as xs := h.mono fun a p _ _ e => k a _ (fun hm => n a hm p e) e
end
/-! ### loops and comprehensions over zip of two lists, dict comprehensions over the items of a dict -/
section
variable {K : PySem.W.Frag} {σ : L2.St} {H : Hp} {Q : VK} {te tk tv : TE} {tt : TT} {G : TG} {tas : TA} {vs : List Nat} {ts : TS} {D : Ends}
def ForW (J : It) (G : TG) (ts : TS) (D : Ends) (σ : L2.St) (H : Hp) : Prop := ∃ W : Nat → Nat → L2.St → Hp → Prop, (∃ m, W 0 m σ H) ∧ ∀ i m σ H, W i m σ H →
  (J.stop i H ∧ D.nx σ H) ∨ (J.go i H ∧ ∃ N : L2.St → Hp → Prop, (∀ σ' H', N σ' H' → ∃ m', m' < m ∧ W (i + 1) m' σ' H') ∧ ∀ x H', J.yld i H x H' → G x σ H' fun σ2 H2 => ts { D with nx := N, ct := N, bk := D.nx } σ2 H2)
def ForZ (K : PySem.W.Frag) (G : TG) (ts : TS) (D : Ends) (σ : L2.St) (us : List V) (H : Hp) : Prop := ∃ a b xs ys, us = [.ref a, .ref b] ∧ SqL K H a xs ∧ SqL K H b ys ∧ ForW (Itz K a b) G ts D σ H
theorem r_forZ (k : tas σ H fun us H1 => ForZ K G ts D σ us H1) : tFor (iZip K tas) G ts D σ H := k
theorem forZ_go {a b : Addr} {xs ys : List V} (hl : xs.length = ys.length) (Pv : Nat → L2.St → Hp → Prop) (hx : SqL K H a xs) (hy : SqL K H b ys) (h0 : Pv 0 σ H) (hq : ∀ i σ' H', Pv i σ' H' → SqL K H' a xs ∧ SqL K H' b ys)
    (hs : ∀ (i : Nat) (x y : V) (T : Addr) σ' H', xs[i]? = some x → ys[i]? = some y → Pv i σ' H' → H' T = none → G (.ref T) σ' (upd H' T (.tup [x, y])) fun σ2 H2 => ts { D with nx := Pv (i + 1), ct := Pv (i + 1), bk := D.nx } σ2 H2)
    (hd : ∀ σ' H', Pv xs.length σ' H' → D.nx σ' H') : ForZ K G ts D σ [.ref a, .ref b] H := ⟨a, b, xs, ys, rfl, hx, hy, RZ.for_zipL hl Pv h0 hq hs hd⟩
def CompZ (K : PySem.W.Frag) (G : TG) (tt : TT) (te : TE) (vs : List Nat) (σ : L2.St) (Q : VK) (us : List V) (H1 : Hp) : Prop := ∃ a b xs ys, us = [.ref a, .ref b] ∧ SqL K H1 a xs ∧ SqL K H1 b ys ∧ CompW (Itz K a b) G tt te vs σ Q H1
theorem r_lcZ (k : tas σ H fun us H1 => CompZ K G tt te vs σ Q us H1) : tLc (iZip K tas) G tt te vs σ H Q := k
theorem lcZ_go {a b : Addr} {xs ys : List V} (hl : xs.length = ys.length) (Pv : Addr → Nat → List V → Hp → Prop) (hx : SqL K H a xs) (hy : SqL K H b ys) (h0 : ∀ D, H D = none → Pv D 0 [] (upd H D (.lst []))) (hq : ∀ D i acc H', H D = none → Pv D i acc H' → SqL K H' a xs ∧ SqL K H' b ys)
    (hs : ∀ D (i : Nat) x y T acc H', xs[i]? = some x → ys[i]? = some y → H D = none → H' D = some (.lst acc) → Pv D i acc H' → H' T = none → G (.ref T) (wipe σ vs) (upd H' T (.tup [x, y])) fun σ2 H2 => wipe σ2 vs = wipe σ vs ∧ tt σ2 H2 fun b H3 =>
      if b = true then te σ2 H3 fun y H4 => ∃ acc, H4 D = some (.lst acc) ∧ acc.length < sizeLine ∧ (∃ ac, (upd H4 D (.lst (acc ++ [y]))) D = some (.lst ac) ∧ Pv D (i + 1) ac (upd H4 D (.lst (acc ++ [y])))) else ∃ ac, H3 D = some (.lst ac) ∧ Pv D (i + 1) ac H3)
    (hd : ∀ D acc H', H D = none → H' D = some (.lst acc) → Pv D xs.length acc H' → Q (.ref D) H') : CompZ K G tt te vs σ Q [.ref a, .ref b] H :=
  ⟨a, b, xs, ys, rfl, hx, hy, fun D hD => lc_it (walk_zip (n := xs.length) (by omega)) (fun i H' => ∃ acc, H' D = some (.lst acc) ∧ Pv D i acc H') ⟨[], upd_same, h0 D hD⟩ (fun i H' _ ⟨acc, _, p⟩ => hq D i acc H' hD p)
    (fun i v H1 H' hi ⟨acc, ha, p⟩ ⟨T, x, y, ev, hT, eH, ex, ey⟩ => by subst ev eH; exact hs D i x y T acc H1 ex ey hD ha p hT) fun H' ⟨acc, ha, p⟩ => hd D acc H' hD ha p⟩
/-- a target (x, y), z -/
theorem r_gTup21 {p T : Addr} {x y z : V} {i j k : Nat} {Q : L2.St → Hp → Prop} (h : SqT K H T [.ref p, z]) (h2 : SqT K H p [x, y]) (q : Q (((σ.set i (some x)).set j (some y)).set k (some z)) H) :
    gTup K 2 (gCons (gTup K 2 (gCons (gName i) (gCons (gName j) gNil))) (gCons (gName k) gNil)) (.ref T) σ H Q :=
  ⟨T, [.ref p, z], rfl, h, rfl, .ref p, [z], rfl, ⟨p, [x, y], rfl, h2, rfl, x, [y], rfl, y, [], rfl, rfl, z, [], rfl, rfl, q⟩⟩
/-- a dict comprehension over a walk -/
theorem dc_it {J : It} {n : Nat} {Go : Hp → Prop} {Y : Nat → Hp → V → Hp → Prop} (w : Walk J n Go Y) {H1 : Hp} {D : Addr} {Qd : Hp → Prop} (Pv : Nat → Hp → Prop) (h0 : Pv 0 (upd H1 D (.dK []))) (hG : ∀ i H, i ≤ n → Pv i H → Go H)
    (hs : ∀ i x H H', i < n → Pv i H → Y i H x H' → G x (wipe σ vs) H' fun σ2 H2 => wipe σ2 vs = wipe σ vs ∧ tt σ2 H2 fun b H3 =>
      if b = true then tk σ2 H3 fun y H4 => tv σ2 H4 fun z H5 => ∃ kvs k, y = kV k ∧ H5 D = some (.dK kvs) ∧ kvs.length < sizeLine ∧ Pv (i + 1) (upd H5 D (.dK (putK kvs k z))) else Pv (i + 1) H3) (hd : ∀ H, Pv n H → Qd H) :
    ∃ W : Nat → Nat → Hp → Prop, (∃ m, W 0 m (upd H1 D (.dK []))) ∧ ∀ i m H, W i m H →
      (J.stop i H ∧ Qd H) ∨ (J.go i H ∧ ∃ Nx : Hp → Prop, (∀ H', Nx H' → ∃ m', m' < m ∧ W (i + 1) m' H') ∧ ∀ x H', J.yld i H x H' → G x (wipe σ vs) H' fun σ2 H2 => wipe σ2 vs = wipe σ vs ∧ tt σ2 H2 fun b H3 =>
        if b = true then tk σ2 H3 fun y H4 => tv σ2 H4 fun z H5 => ∃ kvs k, y = kV k ∧ H5 D = some (.dK kvs) ∧ kvs.length < sizeLine ∧ Nx (upd H5 D (.dK (putK kvs k z))) else Nx H3) := by
  let Turn : Nat → Nat → Hp → Prop := fun i left H => left + i = n ∧ Pv i H
  refine ⟨Turn, ⟨n, rfl, h0⟩, fun i left H ⟨sum, p⟩ => ?_⟩
  have stands := hG i H (by omega) p
  rcases Nat.eq_or_lt_of_le (show i ≤ n by omega) with full | more
  · cases full
    exact .inl ⟨w.stops H stands, hd H p⟩
  · exact .inr ⟨w.goes i H more stands, Pv (i + 1), fun H' p' => ⟨left - 1, by omega, by omega, p'⟩, fun v H' y => hs i v H H' more p (w.yields i H v H' more stands y)⟩
/-- {k: v for k, v in d.items() if ..} where d is looked up by a reading, locked for the time -/
theorem dcI_go {td : TE} {d : Addr} {kvs : List (Key × V)} (hd : H d = some (.dK kvs)) (up : ∀ od (Q' : VK), (∀ v H1, v = .ref d ∧ H1 = upd H d (.frz od (.dK kvs)) → Q' v H1) → td σ (upd H d (.frz od (.dK kvs))) Q')
    (Pv : Obj → Addr → Nat → List (Key × V) → Hp → Prop) (h0 : ∀ od D, upd H d (.frz od (.dK kvs)) D = none → Pv od D 0 [] (upd (upd H d (.frz od (.dK kvs))) D (.dK []))) (hG : ∀ od D i acc H', Pv od D i acc H' → H' d = some (.frz od (.dK kvs)))
    (hs : ∀ od D (i : Nat) k v T acc H', kvs[i]? = some (k, v) → upd H d (.frz od (.dK kvs)) D = none → H' D = some (.dK acc) → Pv od D i acc H' → H' T = none → G (.ref T) (wipe σ vs) (upd H' T (.tup [kV k, v])) fun σ2 H2 => wipe σ2 vs = wipe σ vs ∧ tt σ2 H2 fun b H3 =>
      if b = true then tk σ2 H3 fun y H4 => tv σ2 H4 fun z H5 => ∃ acc k, y = kV k ∧ H5 D = some (.dK acc) ∧ acc.length < sizeLine ∧ (∃ ac, (upd H5 D (.dK (putK acc k z))) D = some (.dK ac) ∧ Pv od D (i + 1) ac (upd H5 D (.dK (putK acc k z)))) else ∃ ac, H3 D = some (.dK ac) ∧ Pv od D (i + 1) ac H3)
    (he : ∀ od D acc H', upd H d (.frz od (.dK kvs)) D = none → H' D = some (.dK acc) → Pv od D kvs.length acc H' → Q (.ref D) (upd H' d (.dK kvs))) : tLockE (tDc (iItems td) G tt tk tv vs) σ H Q := by
  refine ⟨d, .dK kvs, hd, trivial, fun od => up od _ ?_⟩
  rintro v H1 ⟨rfl, rfl⟩
  refine ⟨d, od, kvs, rfl, upd_same, fun D hD => dc_it walk_items (fun i H' => ∃ acc, H' D = some (.dK acc) ∧ Pv od D i acc H') ⟨[], upd_same, h0 od D hD⟩ (fun i H' _ ⟨acc, _, p⟩ => hG od D i acc H' p) ?_ fun H' ⟨acc, ha, p⟩ => ⟨hG _ _ _ _ _ p, he od D acc H' hD ha p⟩⟩
  rintro i v H1 H' hi ⟨acc, ha, p⟩ ⟨T, x, y, ev, hT, eH, ex, ey⟩
  subst ev eH
  replace ex : kvs[i]?.map (fun kv => kV kv.1) = some x := ex
  replace ey : kvs[i]?.map Prod.snd = some y := ey
  cases hk : kvs[i]? with
  | none => rw [hk] at ex; cases ex
  | some kv =>
    rw [hk] at ex ey
    cases ex; cases ey
    exact hs od D i kv.1 kv.2 T acc H1 hk hD ha p hT
theorem Keep.unlock {M : List Addr} {H' : Hp} {d : Addr} {o f : HO} (h : H d = some o) (k : Keep M (upd H d f) H') : Keep M H (upd H' d o) := fun b u n e => by
  by_cases c : b = d
  · subst c; rw [h] at e; cases e; exact upd_same
  · rw [upd_ne c]; exact k b u n (by rw [upd_ne c]; exact e)
theorem r_any {a : Addr} {bs : List Bool} (h : SqL K H a (bs.map V.bl)) (k : Q (.bl (bs.any id)) H) : rAny K [V.ref a] H Q := ⟨a, bs, rfl, h, k⟩
theorem r_truD {p : Addr} {kvs : List (Key × V)} {QB : Bool → Hp → Prop} (h : H p = some (.dK kvs)) (k : QB (!kvs.isEmpty) H) : ∃ b, TruV K (.ref p) H b ∧ QB b H := ⟨_, .inr (.inr ⟨kvs, h, rfl⟩), k⟩
end
/-! ### == and != of two dicts whose values are the same things -/
def SameV (v : V) : Prop := flatB v = true ∨ ∃ a, v = .ref a
theorem eqAt_sameV {A : Around} {s : Shared} {v : V} {u u' : Value} (r : RelV v u) (r' : RelV v u') (f : SameV v) : SeqAt.EqAt A s u u' true := by
  rcases f with f | ⟨a, rfl⟩
  · exact eqAt_same r r' f
  · cases (show u = Value.ref a from r)
    cases (show u' = Value.ref a from r')
    exact SeqAt.EqAt.same _
theorem hits_same {A : Around} {s : Shared} {ls : List (Key × V)} {lv : List (Key × Value)} (rl : KV ls lv) {us : List (Key × V)} {uv : List (Key × Value)} (ru : KV us uv) :
    (∀ e ∈ us, valV ls e.1 = some e.2 ∧ SameV e.2) → PySem.W.KeqHits A s lv uv true := by
  unfold KV at ru
  induction ru with
  | nil => exact fun _ => .nil
  | @cons e f es fs both more ih =>
    intro all
    have first := all e List.mem_cons_self
    have look : RelO (some e.2) (valueAt lv e.1) := first.1 ▸ rl.val e.1
    obtain ⟨there, found, rel⟩ := look.some_of
    obtain ⟨key, worth⟩ := f
    rw [show e.1 = key from both.1] at found
    show PySem.W.KeqHits A s lv ((key, worth) :: fs) (true && true)
    exact .hit found (eqAt_sameV both.2 rel first.2) (ih fun g hg => all g (List.mem_cons_of_mem _ hg))
def SameD (x y : V) (H : Hp) : Prop := ∃ a b ks ls, x = .ref a ∧ y = .ref b ∧ H a = some (.dK ks) ∧ H b = some (.dK ls) ∧ ks.length = ls.length ∧ (∀ p ∈ ks, valV ls p.1 = some p.2 ∧ SameV p.2)
def rEqSame : R2 := fun x y H Q => SameD x y H ∧ Q (.bl true) H
def rNeSame : R2 := fun x y H Q => SameD x y H ∧ Q (.bl false) H
theorem same_run {X : Cx} {pins : List (Addr × Obj)} {σ : L2.St} {H : Hp} {s : Shared} {x y : V} {v u : Value} (I : Inv X pins σ H s) (rx : RelV x v) (ry : RelV y u) (d : SameD x y H) : ∃ (a b : Addr) (fa fb : List (Key × Value)), v = .ref a ∧ u = .ref b ∧
    (a == sysModules) = false ∧ (b == sysModules) = false ∧ s.heap.DictOf (mixKind X.prog X.w) a fa ∧ s.heap.DictOf (mixKind X.prog X.w) b fb ∧ fa.length = fb.length ∧ PySem.W.KeqHits X.A.in1 s fb fa true := by
  obtain ⟨a, b, ks, ls, rfl, rfl, ha, hb, len, same⟩ := d
  have oa : ObjOk X.prog X.w H s.heap a (.dK ks) := I.hok a _ ha
  have ob : ObjOk X.prog X.w H s.heap b (.dK ls) := I.hok b _ hb
  obtain ⟨_, na, fa, ra, da⟩ := oa
  obtain ⟨_, nb, fb, rb, db⟩ := ob
  exact ⟨a, b, fa, fb, rx, ry, na, nb, da, db, by have h1 := ra.length; have h2 := rb.length; omega, hits_same rb ra same⟩
theorem op_eqSame {X : Cx} (small : X.A.units < cLine) : OpR X (compareOp .Eq) rEqSame := by
  rintro pins s σ H x y v u Q I rx ry ⟨d, q⟩
  obtain ⟨a, b, fa, fb, rfl, rfl, na, nb, da, db, len, hits⟩ := same_run I rx ry d
  exact PySem.W.keq_eq (r := true) na nb da db small (fun _ => hits) ⟨.bl true, H, I, by simp [len]; rfl, q⟩
theorem op_neSame {X : Cx} (small : X.A.units < cLine) : OpR X (compareOp .NotEq) rNeSame := by
  rintro pins s σ H x y v u Q I rx ry ⟨d, q⟩
  obtain ⟨a, b, fa, fb, rfl, rfl, na, nb, da, db, len, hits⟩ := same_run I rx ry d
  exact PySem.W.keq_ne (r := true) na nb da db small (fun _ => hits) ⟨.bl false, H, I, by simp [len]; rfl, q⟩
theorem val_self : ∀ {ks : List (Key × V)}, (ks.map (·.1)).Nodup → ∀ p ∈ ks, valV ks p.1 = some p.2
  | [], _, p, h => by simp at h
  | kv :: ks, n, p, h => by
    rw [List.map_cons, List.nodup_cons] at n
    rcases List.mem_cons.mp h with e | h
    · subst e; unfold valV; simp
    · have ne : kv.1 ≠ p.1 := fun e => n.1 (by rw [e]; exact List.mem_map_of_mem h)
      have ih := val_self n.2 p h
      unfold valV at ih ⊢
      rw [List.find?_cons_of_neg (by simpa using ne)]
      exact ih
theorem same_self {H : Hp} {a b : Addr} {ks : List (Key × V)} (ha : H a = some (.dK ks)) (hb : H b = some (.dK ks)) (n : (ks.map (·.1)).Nodup) (h : ∀ p ∈ ks, SameV p.2) : SameD (.ref a) (.ref b) H :=
  ⟨a, b, ks, ks, rfl, rfl, ha, hb, rfl, fun p hp => ⟨val_self n p hp, h p hp⟩⟩
abbrev PG : Program := PySem.Challenge.pw_metehouse_k05_rows_held_and_closed
def topS (i : Nat) : Stmt := PySem.Challenge.pw_metehouse_k05_rows_held_and_closed.main.body.getD i (.Pass ⟨0, 0, 0, 0⟩)
abbrev s_ratio : Stmt := topS 3
theorem sc_ratio : FnScope ["top", "bottom", "divisor"] ["top", "bottom"] (defScope s_ratio) := ⟨rfl, rfl, rfl, by decide +kernel, rfl, by decide +kernel, by decide +kernel⟩
abbrev s_plus : Stmt := topS 4
theorem sc_plus : FnScope ["first", "second"] ["first", "second"] (defScope s_plus) := ⟨rfl, rfl, rfl, by decide +kernel, rfl, by decide +kernel, by decide +kernel⟩
abbrev s_times : Stmt := topS 5
theorem sc_times : FnScope ["first", "second"] ["first", "second"] (defScope s_times) := ⟨rfl, rfl, rfl, by decide +kernel, rfl, by decide +kernel, by decide +kernel⟩
abbrev s_is_quantity : Stmt := topS 14
theorem sc_is_quantity : FnScope ["text", "sign"] ["text"] (defScope s_is_quantity) := ⟨rfl, rfl, rfl, by decide +kernel, rfl, by decide +kernel, by decide +kernel⟩
abbrev s_all_names : Stmt := topS 15
theorem sc_all_names : FnScope ["forms", "found", "form", "name", "_"] ["forms"] (defScope s_all_names) := ⟨rfl, rfl, rfl, by decide +kernel, rfl, by decide +kernel, by decide +kernel⟩
abbrev s_need_levels : Stmt := topS 16
theorem sc_need_levels : FnScope ["names", "world", "name"] ["names", "world"] (defScope s_need_levels) := ⟨rfl, rfl, rfl, by decide +kernel, rfl, by decide +kernel, by decide +kernel⟩
abbrev s_added_terms : Stmt := topS 17
theorem sc_added_terms : FnScope ["terms", "sums", "name", "weight"] ["terms"] (defScope s_added_terms) := ⟨rfl, rfl, rfl, by decide +kernel, rfl, by decide +kernel, by decide +kernel⟩
abbrev s_Form___init : Stmt := inClass (topS 21) 0
theorem sc_Form___init : FnScope ["self", "terms", "constant"] ["self", "terms", "constant"] (defScope s_Form___init) := ⟨rfl, rfl, rfl, by decide +kernel, rfl, by decide +kernel, by decide +kernel⟩
abbrev s_Form_names : Stmt := inClass (topS 21) 3
theorem sc_Form_names : FnScope ["self", "name", "_"] ["self"] (defScope s_Form_names) := ⟨rfl, rfl, rfl, by decide +kernel, rfl, by decide +kernel, by decide +kernel⟩
abbrev s_Form___call : Stmt := inClass (topS 21) 5
theorem sc_Form___call : FnScope ["self", "world", "total", "name", "weight"] ["self", "world"] (defScope s_Form___call) := ⟨rfl, rfl, rfl, by decide +kernel, rfl, by decide +kernel, by decide +kernel⟩
abbrev s_row_holds : Stmt := topS 23
theorem sc_row_holds : FnScope ["value", "sign"] ["value", "sign"] (defScope s_row_holds) := ⟨rfl, rfl, rfl, by decide +kernel, rfl, by decide +kernel, by decide +kernel⟩
abbrev s_holds : Stmt := topS 24
theorem sc_holds : FnScope ["rows", "world", "form", "_", "sign"] ["rows", "world"] (defScope s_holds) := ⟨rfl, rfl, rfl, by decide +kernel, rfl, by decide +kernel, by decide +kernel⟩
abbrev s_weighed : Stmt := topS 25
theorem sc_weighed : FnScope ["rows", "weights", "sums", "constant", "form", "_", "weight", "name", "part", "total"] ["rows", "weights"] (defScope s_weighed) := ⟨rfl, rfl, rfl, by decide +kernel, rfl, by decide +kernel, by decide +kernel⟩
abbrev s_closes : Stmt := topS 26
theorem sc_closes : FnScope ["rows", "weights", "_", "sign", "weight", "terms", "constant", "strict"] ["rows", "weights"] (defScope s_closes) := ⟨rfl, rfl, rfl, by decide +kernel, rfl, by decide +kernel, by decide +kernel⟩
abbrev s_w_pot : Stmt := topS 28
theorem sc_w_pot : FnScope ["_law_script"] ["_law_script"] (defScope s_w_pot) := ⟨rfl, rfl, rfl, by decide +kernel, rfl, by decide +kernel, by decide +kernel⟩
abbrev s_w_take : Stmt := topS 29
theorem sc_w_take : FnScope ["_law_pot_here", "_law_size", "_law_cell", "_law_mixed"] ["_law_pot_here", "_law_size"] (defScope s_w_take) := ⟨rfl, rfl, rfl, by decide +kernel, rfl, by decide +kernel, by decide +kernel⟩
abbrev s_w_whole : Stmt := topS 30
theorem sc_w_whole : FnScope ["_law_found"] ["_law_found"] (defScope s_w_whole) := ⟨rfl, rfl, rfl, by decide +kernel, rfl, by decide +kernel, by decide +kernel⟩
abbrev s_w_quantity : Stmt := topS 31
theorem sc_w_quantity : FnScope ["_law_pot_here", "_law_shift", "_law_letters", "_law_signs", "_law_text", "_law_way", "_law_long", "_law_k"] ["_law_pot_here", "_law_shift"] (defScope s_w_quantity) := ⟨rfl, rfl, rfl, by decide +kernel, rfl, by decide +kernel, by decide +kernel⟩
abbrev s_w_pool : Stmt := topS 32
theorem sc_w_pool : FnScope ["_law_pot_here", "_law_most", "_law_pool_here", "_law_k", "_law_text"] ["_law_pot_here", "_law_most"] (defScope s_w_pool) := ⟨rfl, rfl, rfl, by decide +kernel, rfl, by decide +kernel, by decide +kernel⟩
abbrev s_w_weight : Stmt := topS 33
theorem sc_w_weight : FnScope ["_law_pot_here", "_law_way", "_law_sign_here"] ["_law_pot_here"] (defScope s_w_weight) := ⟨rfl, rfl, rfl, by decide +kernel, rfl, by decide +kernel, by decide +kernel⟩
abbrev s_w_sign : Stmt := topS 34
theorem sc_w_sign : FnScope ["_law_pot_here"] ["_law_pot_here"] (defScope s_w_sign) := ⟨rfl, rfl, rfl, by decide +kernel, rfl, by decide +kernel, by decide +kernel⟩
abbrev s_w_tidy : Stmt := topS 35
theorem sc_w_tidy : FnScope ["_law_pairs", "_law_constant", "_law_seen", "_law_pair", "_law_terms", "_law_text", "_law_weight_here"] ["_law_pairs", "_law_constant"] (defScope s_w_tidy) := ⟨rfl, rfl, rfl, by decide +kernel, rfl, by decide +kernel, by decide +kernel⟩
abbrev s_w_form_is : Stmt := topS 37
theorem sc_w_form_is : FnScope ["_law_found", "_law_due", "_law_k", "_law_pair"] ["_law_found", "_law_due"] (defScope s_w_form_is) := ⟨rfl, rfl, rfl, by decide +kernel, rfl, by decide +kernel, by decide +kernel⟩
abbrev s_w_lowest : Stmt := topS 38
theorem sc_w_lowest : FnScope ["_law_top", "_law_bottom", "_law_first", "_law_second", "_law_rest"] ["_law_top", "_law_bottom"] (defScope s_w_lowest) := ⟨rfl, rfl, rfl, by decide +kernel, rfl, by decide +kernel, by decide +kernel⟩
abbrev s_w_value : Stmt := topS 39
theorem sc_w_value : FnScope ["_law_due", "_law_world_here", "_law_top", "_law_bottom", "_law_pair", "_law_level"] ["_law_due", "_law_world_here"] (defScope s_w_value) := ⟨rfl, rfl, rfl, by decide +kernel, rfl, by decide +kernel, by decide +kernel⟩
abbrev s_w_world : Stmt := topS 40
theorem sc_w_world : FnScope ["_law_pot_here", "_law_pool_here", "_law_fine", "_law_world_here", "_law_text", "_law_bottom"] ["_law_pot_here", "_law_pool_here"] (defScope s_w_world) := ⟨rfl, rfl, rfl, by decide +kernel, rfl, by decide +kernel, by decide +kernel⟩
abbrev s_w_rows : Stmt := topS 41
theorem sc_w_rows : FnScope ["_law_pot_here", "_law_pool_here", "_law_world_here", "_law_rows_here", "_law_k", "_law_pairs", "_law_j", "_law_form", "_law_value_here", "_law_near", "_law_pair"] ["_law_pot_here", "_law_pool_here", "_law_world_here"] (defScope s_w_rows) := ⟨rfl, rfl, rfl, by decide +kernel, rfl, by decide +kernel, by decide +kernel⟩
abbrev s_w_sum : Stmt := topS 42
theorem sc_w_sum : FnScope ["_law_rows_here", "_law_weights", "_law_pairs", "_law_constant", "_law_k", "_law_pair"] ["_law_rows_here", "_law_weights"] (defScope s_w_sum) := ⟨rfl, rfl, rfl, by decide +kernel, rfl, by decide +kernel, by decide +kernel⟩
abbrev s_w_weights_let : Stmt := topS 43
theorem sc_w_weights_let : FnScope ["_law_rows_here", "_law_weights", "_law_k"] ["_law_rows_here", "_law_weights"] (defScope s_w_weights_let) := ⟨rfl, rfl, rfl, by decide +kernel, rfl, by decide +kernel, by decide +kernel⟩
abbrev s_w_strict : Stmt := topS 44
theorem sc_w_strict : FnScope ["_law_rows_here", "_law_weights", "_law_k"] ["_law_rows_here", "_law_weights"] (defScope s_w_strict) := ⟨rfl, rfl, rfl, by decide +kernel, rfl, by decide +kernel, by decide +kernel⟩
abbrev s_w_closed : Stmt := topS 45
theorem sc_w_closed : FnScope ["_law_rows_here", "_law_weights", "_law_total"] ["_law_rows_here", "_law_weights"] (defScope s_w_closed) := ⟨rfl, rfl, rfl, by decide +kernel, rfl, by decide +kernel, by decide +kernel⟩
abbrev s_w_row_holds : Stmt := topS 46
theorem sc_w_row_holds : FnScope ["_law_row", "_law_world_here", "_law_top"] ["_law_row", "_law_world_here"] (defScope s_w_row_holds) := ⟨rfl, rfl, rfl, by decide +kernel, rfl, by decide +kernel, by decide +kernel⟩
abbrev s_w_all_hold : Stmt := topS 47
theorem sc_w_all_hold : FnScope ["_law_rows_here", "_law_world_here", "_law_row"] ["_law_rows_here", "_law_world_here"] (defScope s_w_all_hold) := ⟨rfl, rfl, rfl, by decide +kernel, rfl, by decide +kernel, by decide +kernel⟩
abbrev s_w_handed : Stmt := topS 48
theorem sc_w_handed : FnScope ["_law_rows_here", "_law_row"] ["_law_rows_here"] (defScope s_w_handed) := ⟨rfl, rfl, rfl, by decide +kernel, rfl, by decide +kernel, by decide +kernel⟩
abbrev s_w_kept : Stmt := topS 49
theorem sc_w_kept : FnScope ["_law_handed_here", "_law_rows_here", "_law_k"] ["_law_handed_here", "_law_rows_here"] (defScope s_w_kept) := ⟨rfl, rfl, rfl, by decide +kernel, rfl, by decide +kernel, by decide +kernel⟩
abbrev s_w_quantities : Stmt := topS 50
theorem sc_w_quantities : FnScope ["_law_rows_here", "_law_seen", "_law_row", "_law_pair"] ["_law_rows_here"] (defScope s_w_quantities) := ⟨rfl, rfl, rfl, by decide +kernel, rfl, by decide +kernel, by decide +kernel⟩
abbrev s_w_last : Stmt := topS 51
theorem sc_w_last : FnScope ["_law_pot_here", "_law_rows_here", "_law_weights", "_law_row", "_law_weight_here", "_law_total", "_law_constant", "_law_last_here", "_law_pair"] ["_law_pot_here", "_law_rows_here"] (defScope s_w_last) := ⟨rfl, rfl, rfl, by decide +kernel, rfl, by decide +kernel, by decide +kernel⟩
abbrev s_w_changed : Stmt := topS 52
theorem sc_w_changed : FnScope ["_law_pot_here", "_law_weights", "_law_way", "_law_at", "_law_changed_here", "_law_weight_here", "_law_factor"] ["_law_pot_here", "_law_weights", "_law_way"] (defScope s_w_changed) := ⟨rfl, rfl, rfl, by decide +kernel, rfl, by decide +kernel, by decide +kernel⟩
abbrev s_w_closes_right : Stmt := topS 53
theorem sc_w_closes_right : FnScope ["_law_handed_here", "_law_rows_here", "_law_weights", "_law_given", "_law_found"] ["_law_handed_here", "_law_rows_here", "_law_weights"] (defScope s_w_closes_right) := ⟨rfl, rfl, rfl, by decide +kernel, rfl, by decide +kernel, by decide +kernel⟩
abbrev s_w_holds_right : Stmt := topS 54
theorem sc_w_holds_right : FnScope ["_law_handed_here", "_law_rows_here", "_law_world_here", "_law_missing", "_law_text", "_law_kept_here", "_law_found", "e"] ["_law_handed_here", "_law_rows_here", "_law_world_here"] (defScope s_w_holds_right) := ⟨rfl, rfl, rfl, by decide +kernel, rfl, by decide +kernel, by decide +kernel⟩
abbrev s_law : Stmt := topS 55
theorem sc_law : FnScope ["_law_script", "_law_pot_here", "_law_pool_here", "_law_world_here", "_law_rows_here", "_law_row", "_law_last_here", "_law_at", "_law_weights", "_law_handed_here", "_law_way", "_law_text"] ["_law_script"] (defScope s_law) := ⟨rfl, rfl, rfl, by decide +kernel, rfl, by decide +kernel, by decide +kernel⟩
abbrev s_NoQuantity_init : Stmt := inClass (topS 9) 0
theorem sh_NoQuantity {w : World} : Er.Sh1 PG w s_NoQuantity_init "name" := by
  refine ⟨⟨_, _, _, _, _, _, _, _, _, _, _, rfl, fun q L fI cda cc m v A E s Q hm hv hn k => ?_, fun q L fI cda cc => ⟨rfl, rfl, rfl, rfl, rfl⟩⟩, ⟨_, rfl, rfl⟩, rfl, rfl, rfl, rfl, by decide, by decide, rfl, rfl, rfl, by decide +kernel, fun s x v qual doc pm an cda cc ct => .of_eq rfl⟩
  exact Er.tx_joined (.cons (Er.tx_const (by decide)) (.cons (Er.tx_repr hm hv rfl rfl) .nil)) (by decide) hn k
/-- what the top has written -/
structure Tx (K : PySem.W.Frag) (mg : Str → Option Value) : Type where
  f_ratio : Addr
  fd_ratio : FuncData
  F_ratio : FunD K "ratio" "ratio" (defArgs s_ratio) (defBody s_ratio) (defScope s_ratio) [V.int (1)] [] f_ratio fd_ratio
  g_ratio : mg "ratio" = some (.ref f_ratio)
  b1_ratio : ∃ ds, Vals (List.drop 0 [V.int (1)]) ds ∧ Binds K fd_ratio ["top", "bottom"] ds
  b2_ratio : ∃ ds, Vals (List.drop 1 [V.int (1)]) ds ∧ Binds K fd_ratio ["top", "bottom"] ds
  f_plus : Addr
  fd_plus : FuncData
  F_plus : Fun K "plus" "plus" s_plus f_plus fd_plus
  g_plus : mg "plus" = some (.ref f_plus)
  b_plus : Binds K fd_plus ["first", "second"] []
  f_times : Addr
  fd_times : FuncData
  F_times : Fun K "times" "times" s_times f_times fd_times
  g_times : mg "times" = some (.ref f_times)
  b_times : Binds K fd_times ["first", "second"] []
  f_is_quantity : Addr
  fd_is_quantity : FuncData
  F_is_quantity : Fun K "is_quantity" "is_quantity" s_is_quantity f_is_quantity fd_is_quantity
  g_is_quantity : mg "is_quantity" = some (.ref f_is_quantity)
  b_is_quantity : Binds K fd_is_quantity ["text"] []
  f_all_names : Addr
  fd_all_names : FuncData
  F_all_names : Fun K "all_names" "all_names" s_all_names f_all_names fd_all_names
  g_all_names : mg "all_names" = some (.ref f_all_names)
  b_all_names : Binds K fd_all_names ["forms"] []
  f_need_levels : Addr
  fd_need_levels : FuncData
  F_need_levels : Fun K "need_levels" "need_levels" s_need_levels f_need_levels fd_need_levels
  g_need_levels : mg "need_levels" = some (.ref f_need_levels)
  b_need_levels : Binds K fd_need_levels ["names", "world"] []
  f_added_terms : Addr
  fd_added_terms : FuncData
  F_added_terms : Fun K "added_terms" "added_terms" s_added_terms f_added_terms fd_added_terms
  g_added_terms : mg "added_terms" = some (.ref f_added_terms)
  b_added_terms : Binds K fd_added_terms ["terms"] []
  f_Form___init : Addr
  fd_Form___init : FuncData
  e_Form___init : Addr
  F_Form___init : FunD K "__init__" "Form.__init__" (defArgs s_Form___init) (defBody s_Form___init) (defScope s_Form___init) [V.ref e_Form___init, V.int (0)] [] f_Form___init fd_Form___init
  b1_Form___init : ∃ ds, Vals (List.drop 0 [V.ref e_Form___init, V.int (0)]) ds ∧ Binds K fd_Form___init ["self", "terms", "constant"] ds
  b2_Form___init : ∃ ds, Vals (List.drop 1 [V.ref e_Form___init, V.int (0)]) ds ∧ Binds K fd_Form___init ["self", "terms", "constant"] ds
  b3_Form___init : ∃ ds, Vals (List.drop 2 [V.ref e_Form___init, V.int (0)]) ds ∧ Binds K fd_Form___init ["self", "terms", "constant"] ds
  f_Form_names : Addr
  fd_Form_names : FuncData
  F_Form_names : Fun K "names" "Form.names" s_Form_names f_Form_names fd_Form_names
  b_Form_names : Binds K fd_Form_names ["self"] []
  f_Form___call : Addr
  fd_Form___call : FuncData
  F_Form___call : Fun K "__call__" "Form.__call__" s_Form___call f_Form___call fd_Form___call
  b_Form___call : Binds K fd_Form___call ["self", "world"] []
  f_row_holds : Addr
  fd_row_holds : FuncData
  F_row_holds : Fun K "row_holds" "row_holds" s_row_holds f_row_holds fd_row_holds
  g_row_holds : mg "row_holds" = some (.ref f_row_holds)
  b_row_holds : Binds K fd_row_holds ["value", "sign"] []
  f_holds : Addr
  fd_holds : FuncData
  F_holds : Fun K "holds" "holds" s_holds f_holds fd_holds
  g_holds : mg "holds" = some (.ref f_holds)
  b_holds : Binds K fd_holds ["rows", "world"] []
  f_weighed : Addr
  fd_weighed : FuncData
  F_weighed : Fun K "weighed" "weighed" s_weighed f_weighed fd_weighed
  g_weighed : mg "weighed" = some (.ref f_weighed)
  b_weighed : Binds K fd_weighed ["rows", "weights"] []
  f_closes : Addr
  fd_closes : FuncData
  F_closes : Fun K "closes" "closes" s_closes f_closes fd_closes
  g_closes : mg "closes" = some (.ref f_closes)
  b_closes : Binds K fd_closes ["rows", "weights"] []
  f_w_pot : Addr
  fd_w_pot : FuncData
  F_w_pot : Fun K "_law_pot" "_law_pot" s_w_pot f_w_pot fd_w_pot
  g_w_pot : mg "_law_pot" = some (.ref f_w_pot)
  b_w_pot : Binds K fd_w_pot ["_law_script"] []
  f_w_take : Addr
  fd_w_take : FuncData
  F_w_take : Fun K "_law_take" "_law_take" s_w_take f_w_take fd_w_take
  g_w_take : mg "_law_take" = some (.ref f_w_take)
  b_w_take : Binds K fd_w_take ["_law_pot_here", "_law_size"] []
  f_w_whole : Addr
  fd_w_whole : FuncData
  F_w_whole : Fun K "_law_whole" "_law_whole" s_w_whole f_w_whole fd_w_whole
  g_w_whole : mg "_law_whole" = some (.ref f_w_whole)
  b_w_whole : Binds K fd_w_whole ["_law_found"] []
  f_w_quantity : Addr
  fd_w_quantity : FuncData
  F_w_quantity : Fun K "_law_quantity" "_law_quantity" s_w_quantity f_w_quantity fd_w_quantity
  g_w_quantity : mg "_law_quantity" = some (.ref f_w_quantity)
  b_w_quantity : Binds K fd_w_quantity ["_law_pot_here", "_law_shift"] []
  f_w_pool : Addr
  fd_w_pool : FuncData
  F_w_pool : Fun K "_law_pool" "_law_pool" s_w_pool f_w_pool fd_w_pool
  g_w_pool : mg "_law_pool" = some (.ref f_w_pool)
  b_w_pool : Binds K fd_w_pool ["_law_pot_here", "_law_most"] []
  f_w_weight : Addr
  fd_w_weight : FuncData
  F_w_weight : Fun K "_law_weight" "_law_weight" s_w_weight f_w_weight fd_w_weight
  g_w_weight : mg "_law_weight" = some (.ref f_w_weight)
  b_w_weight : Binds K fd_w_weight ["_law_pot_here"] []
  f_w_sign : Addr
  fd_w_sign : FuncData
  F_w_sign : Fun K "_law_sign" "_law_sign" s_w_sign f_w_sign fd_w_sign
  g_w_sign : mg "_law_sign" = some (.ref f_w_sign)
  b_w_sign : Binds K fd_w_sign ["_law_pot_here"] []
  f_w_tidy : Addr
  fd_w_tidy : FuncData
  F_w_tidy : Fun K "_law_tidy" "_law_tidy" s_w_tidy f_w_tidy fd_w_tidy
  g_w_tidy : mg "_law_tidy" = some (.ref f_w_tidy)
  b_w_tidy : Binds K fd_w_tidy ["_law_pairs", "_law_constant"] []
  f_w_form_is : Addr
  fd_w_form_is : FuncData
  F_w_form_is : Fun K "_law_form_is" "_law_form_is" s_w_form_is f_w_form_is fd_w_form_is
  g_w_form_is : mg "_law_form_is" = some (.ref f_w_form_is)
  b_w_form_is : Binds K fd_w_form_is ["_law_found", "_law_due"] []
  f_w_lowest : Addr
  fd_w_lowest : FuncData
  F_w_lowest : Fun K "_law_lowest" "_law_lowest" s_w_lowest f_w_lowest fd_w_lowest
  g_w_lowest : mg "_law_lowest" = some (.ref f_w_lowest)
  b_w_lowest : Binds K fd_w_lowest ["_law_top", "_law_bottom"] []
  f_w_value : Addr
  fd_w_value : FuncData
  F_w_value : Fun K "_law_value" "_law_value" s_w_value f_w_value fd_w_value
  g_w_value : mg "_law_value" = some (.ref f_w_value)
  b_w_value : Binds K fd_w_value ["_law_due", "_law_world_here"] []
  f_w_world : Addr
  fd_w_world : FuncData
  F_w_world : Fun K "_law_world" "_law_world" s_w_world f_w_world fd_w_world
  g_w_world : mg "_law_world" = some (.ref f_w_world)
  b_w_world : Binds K fd_w_world ["_law_pot_here", "_law_pool_here"] []
  f_w_rows : Addr
  fd_w_rows : FuncData
  F_w_rows : Fun K "_law_rows" "_law_rows" s_w_rows f_w_rows fd_w_rows
  g_w_rows : mg "_law_rows" = some (.ref f_w_rows)
  b_w_rows : Binds K fd_w_rows ["_law_pot_here", "_law_pool_here", "_law_world_here"] []
  f_w_sum : Addr
  fd_w_sum : FuncData
  F_w_sum : Fun K "_law_sum" "_law_sum" s_w_sum f_w_sum fd_w_sum
  g_w_sum : mg "_law_sum" = some (.ref f_w_sum)
  b_w_sum : Binds K fd_w_sum ["_law_rows_here", "_law_weights"] []
  f_w_weights_let : Addr
  fd_w_weights_let : FuncData
  F_w_weights_let : Fun K "_law_weights_let" "_law_weights_let" s_w_weights_let f_w_weights_let fd_w_weights_let
  g_w_weights_let : mg "_law_weights_let" = some (.ref f_w_weights_let)
  b_w_weights_let : Binds K fd_w_weights_let ["_law_rows_here", "_law_weights"] []
  f_w_strict : Addr
  fd_w_strict : FuncData
  F_w_strict : Fun K "_law_strict" "_law_strict" s_w_strict f_w_strict fd_w_strict
  g_w_strict : mg "_law_strict" = some (.ref f_w_strict)
  b_w_strict : Binds K fd_w_strict ["_law_rows_here", "_law_weights"] []
  f_w_closed : Addr
  fd_w_closed : FuncData
  F_w_closed : Fun K "_law_closed" "_law_closed" s_w_closed f_w_closed fd_w_closed
  g_w_closed : mg "_law_closed" = some (.ref f_w_closed)
  b_w_closed : Binds K fd_w_closed ["_law_rows_here", "_law_weights"] []
  f_w_row_holds : Addr
  fd_w_row_holds : FuncData
  F_w_row_holds : Fun K "_law_row_holds" "_law_row_holds" s_w_row_holds f_w_row_holds fd_w_row_holds
  g_w_row_holds : mg "_law_row_holds" = some (.ref f_w_row_holds)
  b_w_row_holds : Binds K fd_w_row_holds ["_law_row", "_law_world_here"] []
  f_w_all_hold : Addr
  fd_w_all_hold : FuncData
  F_w_all_hold : Fun K "_law_all_hold" "_law_all_hold" s_w_all_hold f_w_all_hold fd_w_all_hold
  g_w_all_hold : mg "_law_all_hold" = some (.ref f_w_all_hold)
  b_w_all_hold : Binds K fd_w_all_hold ["_law_rows_here", "_law_world_here"] []
  f_w_handed : Addr
  fd_w_handed : FuncData
  F_w_handed : Fun K "_law_handed" "_law_handed" s_w_handed f_w_handed fd_w_handed
  g_w_handed : mg "_law_handed" = some (.ref f_w_handed)
  b_w_handed : Binds K fd_w_handed ["_law_rows_here"] []
  f_w_kept : Addr
  fd_w_kept : FuncData
  F_w_kept : Fun K "_law_kept" "_law_kept" s_w_kept f_w_kept fd_w_kept
  g_w_kept : mg "_law_kept" = some (.ref f_w_kept)
  b_w_kept : Binds K fd_w_kept ["_law_handed_here", "_law_rows_here"] []
  f_w_quantities : Addr
  fd_w_quantities : FuncData
  F_w_quantities : Fun K "_law_quantities" "_law_quantities" s_w_quantities f_w_quantities fd_w_quantities
  g_w_quantities : mg "_law_quantities" = some (.ref f_w_quantities)
  b_w_quantities : Binds K fd_w_quantities ["_law_rows_here"] []
  f_w_last : Addr
  fd_w_last : FuncData
  F_w_last : Fun K "_law_last" "_law_last" s_w_last f_w_last fd_w_last
  g_w_last : mg "_law_last" = some (.ref f_w_last)
  b_w_last : Binds K fd_w_last ["_law_pot_here", "_law_rows_here"] []
  f_w_changed : Addr
  fd_w_changed : FuncData
  F_w_changed : Fun K "_law_changed" "_law_changed" s_w_changed f_w_changed fd_w_changed
  g_w_changed : mg "_law_changed" = some (.ref f_w_changed)
  b_w_changed : Binds K fd_w_changed ["_law_pot_here", "_law_weights", "_law_way"] []
  f_w_closes_right : Addr
  fd_w_closes_right : FuncData
  F_w_closes_right : Fun K "_law_closes_right" "_law_closes_right" s_w_closes_right f_w_closes_right fd_w_closes_right
  g_w_closes_right : mg "_law_closes_right" = some (.ref f_w_closes_right)
  b_w_closes_right : Binds K fd_w_closes_right ["_law_handed_here", "_law_rows_here", "_law_weights"] []
  f_w_holds_right : Addr
  fd_w_holds_right : FuncData
  F_w_holds_right : Fun K "_law_holds_right" "_law_holds_right" s_w_holds_right f_w_holds_right fd_w_holds_right
  g_w_holds_right : mg "_law_holds_right" = some (.ref f_w_holds_right)
  b_w_holds_right : Binds K fd_w_holds_right ["_law_handed_here", "_law_rows_here", "_law_world_here"] []
  f_law : Addr
  fd_law : FuncData
  F_law : Fun K "law" "law" s_law f_law fd_law
  g_law : mg "law" = some (.ref f_law)
  b_law : Binds K fd_law ["_law_script"] []
  C_Form : Addr
  gC_Form : mg "Form" = some (.ref C_Form)
  oc_Form : Ow.OC K C_Form
  na_Form_terms : NoAttr K C_Form "terms"
  na_Form_constant : NoAttr K C_Form "constant"
  mk_Form : Mk K C_Form f_Form___init
  me_Form_names : Meth K C_Form "names" f_Form_names
  co_Form : StX.CallO K C_Form f_Form___call
  si_Form : PySem.W.subIn K (.ref C_Form) (.type "int") = some false
  is_Form : PySem.W.subIn K (.type "int") (.ref C_Form) = some false
  C_NoQuantity : Addr
  gC_NoQuantity : mg "NoQuantity" = some (.ref C_NoQuantity)
  C_MeteError : Addr
  gC_MeteError : mg "MeteError" = some (.ref C_MeteError)
  Z_NoQuantity : ∀ w, Er.Cls1 PG w K mg "NoQuantity" "name" C_NoQuantity
  X_NoQuantity : ExcC K C_NoQuantity
  xf_NoQuantity : XfC K C_NoQuantity
  kit_NoQuantity_MeteError : PySem.W.kitOne K (.ref C_NoQuantity) (.ref C_MeteError) = some true
  kit_NoQuantity_ValueError : PySem.W.kitOne K (.ref C_NoQuantity) (.type "ValueError") = some true
  exm_NoQuantity_NoQuantity : PySem.W.exmOne K (.ref C_NoQuantity) (.ref C_NoQuantity) = some true
  m_len : mg "len" = none
  m_range : mg "range" = none
  m_isinstance : mg "isinstance" = none
  m_int : mg "int" = none
  m_bool : mg "bool" = none
  m_str : mg "str" = none
  m_list : mg "list" = none
  m_tuple : mg "tuple" = none
  m_dict : mg "dict" = none
  m_abs : mg "abs" = none
  m_sum : mg "sum" = none
  m_sorted : mg "sorted" = none
  m_zip : mg "zip" = none
  m_any : mg "any" = none
  m_all : mg "all" = none
  m_ZeroDivisionError : mg "ZeroDivisionError" = none
  m_ValueError : mg "ValueError" = none
  m_gcd : mg "gcd" = some (.builtin "math.gcd")
  c_LETTERS : ∃ t, mg "LETTERS" = some (.str "abcdefghijklmnopqrstuvwxyz" t)
  c_QUANTITY_SIGNS : ∃ t, mg "QUANTITY_SIGNS" = some (.str "abcdefghijklmnopqrstuvwxyz.0123456789" t)
  c_LONGEST_QUANTITY : ∃ t, mg "LONGEST_QUANTITY" = some (.int (12) t)
local macro_rules | `(tactic| walk_at "st") => `(tactic| first
  | (with_reducible refine r_seq ?_)
  | (with_reducible refine r_asg ?_)
  | (with_reducible refine r_ifS ?_)
  | (with_reducible refine r_ret ?_)
  | (with_reducible refine r_next ?_)
  | (with_reducible refine r_drop ?_)
  | (with_reducible refine r_retN ?_)
  | (with_reducible refine r_cont ?_)
  | (with_reducible refine r_break ?_)
  | (with_reducible refine r_op ?_)
  | (with_reducible refine r_un ?_)
  | ((with_reducible refine' r_var ?h1 ?_); (case h1 => exact rfl))
  | (with_reducible refine r_c ?_)
  | (with_reducible refine r_I0 ?_)
  | (with_reducible refine r_eqI ?_)
  | (with_reducible refine r_neI ?_)
  | (with_reducible refine r_eqS ?_)
  | (with_reducible refine r_neS ?_)
  | (with_reducible refine r_eqB ?_)
  | (with_reducible refine r_neB ?_)
  | (with_reducible refine r_U ?_)
  | (with_reducible refine r_test ?_)
  | (with_reducible refine r_tB ?_)
  | (with_reducible refine r_bl ?_)
  | (with_reducible refine r_and ?_)
  | (with_reducible refine r_or ?_)
  | (with_reducible refine r_not ?_)
  | (with_reducible refine r_andV ?_)
  | (with_reducible refine r_orV ?_)
  | (with_reducible refine r_notV ?_)
  | (with_reducible refine r_if ?_)
  | (with_reducible refine r_chain ?_)
  | (with_reducible refine r_gName0 ?_)
  | (with_reducible refine r_gName1 ?_)
  | (with_reducible refine r_gName2 ?_)
  | (with_reducible refine r_gName3 ?_)
  | (with_reducible refine r_gName4 ?_)
  | (with_reducible refine r_gName5 ?_)
  | (with_reducible refine r_gName6 ?_)
  | (with_reducible refine r_gName7 ?_)
  | (with_reducible refine r_gName8 ?_)
  | (with_reducible refine r_gName9 ?_)
  | (with_reducible refine r_gName10 ?_)
  | (with_reducible refine r_gName11 ?_)
  | (with_reducible refine r_gName12 ?_)
  | (with_reducible refine r_gName13 ?_)
  | (with_reducible refine r_gName14 ?_)
  | (with_reducible refine r_gName15 ?_)
  | (with_reducible refine r_gName16 ?_)
  | (with_reducible refine r_gName17 ?_)
  | (with_reducible refine r_gName18 ?_)
  | (with_reducible refine r_gName19 ?_)
  | (with_reducible refine r_cb ?_)
  | (with_reducible refine r_cons ?_)
  | (with_reducible refine r_nil ?_)
  | ((with_reducible refine r_call ?_); try simp only [List.cons_append, List.nil_append])
  | ((with_reducible refine r_callSD ?_); try simp only [List.cons_append, List.nil_append])
  | (with_reducible refine r_gSub ?_)
  | (with_reducible refine r_sl ?_)
  | (with_reducible refine r_lst ?_)
  | (with_reducible refine r_tup ?_)
  | (with_reducible refine r_int1 ?_)
  | (with_reducible refine r_intB ?_)
  | ((with_reducible refine r_in1 ?_); try simp only [abs_if])
  | ((with_reducible refine r_in2 ?_); try simp only [max_if])
  | (with_reducible refine r_forR1 ?_)
  | (with_reducible refine r_forR2 ?_)
  | (with_reducible refine r_forL ?_)
  | (with_reducible refine r_forT ?_)
  | (with_reducible refine r_lcR1 ?_)
  | (with_reducible refine r_lcL ?_)
  | (with_reducible refine r_lcT ?_)
  | (with_reducible refine r_yes ?_)
  | (with_reducible refine r_tPart ?_)
  | (with_reducible refine r_noPart ?_)
  | (with_reducible refine r_exI ?_)
  | (with_reducible refine r_par ?_)
  | (with_reducible refine Er.r_raise1 ?_)
  | (with_reducible refine r_isN ?_)
  | (with_reducible refine r_isI ?_)
  | (with_reducible refine r_isR ?_)
  | (with_reducible refine r_isS ?_)
  | (with_reducible refine r_noN ?_)
  | (with_reducible refine r_noI ?_)
  | (with_reducible refine r_noR ?_)
  | (with_reducible refine r_noS ?_)
  | (with_reducible refine r_isB ?_)
  | (with_reducible refine r_noB ?_)
  | (with_reducible refine r_iteTT ?_)
  | (with_reducible refine r_iteFF ?_)
  | (with_reducible refine Er.r_xf ?_)
  | (with_reducible refine r_bm ?_)
  | ((with_reducible refine' r_tyL ?h1 ?_); (case h1 => walk_at "sq"))
  | ((with_reducible refine' r_app ?h1 ?h2 ?_); (case h1 => walk_at "hp"); (case h2 => exact lt_size (by simp only [List.length_map, List.length_append, List.length_cons, List.length_nil]; omega)))
  | (with_reducible refine r_exP ?_)
  | (with_reducible refine r_iteT rfl ?_)
  | (with_reducible refine r_iteNF rfl ?_)
  | ((with_reducible refine' r_ixL ?h1 ?h2 ?_); (case h1 => walk_at "sq"); (case h2 => walk_at "at"))
  | ((with_reducible refine' r_ixT ?h1 ?h2 ?_); (case h1 => walk_at "sq"); (case h2 => walk_at "at"))
  | (with_reducible refine r_lenL (sqL_of (by assumption)) ?_)
  | (with_reducible refine r_lenT (sqT_of (by assumption)) ?_)
  | ((with_reducible refine' r_lenL ?h1 ?_); (case h1 => walk_at "sq"))
  | ((with_reducible refine' r_lenT ?h1 ?_); (case h1 => walk_at "sq"))
  | ((with_reducible refine' r_setP0 ?h1 ?_); (case h1 => walk_at "hp"); try simp only [upd_upd])
  | ((with_reducible refine' r_setP1 ?h1 ?_); (case h1 => walk_at "hp"); try simp only [upd_upd])
  | ((with_reducible refine' r_setP2 ?h1 ?_); (case h1 => walk_at "hp"); try simp only [upd_upd])
  | ((with_reducible refine' r_setP3 ?h1 ?_); (case h1 => walk_at "hp"); try simp only [upd_upd])
  | ((with_reducible refine' r_setL ?h1 ?h2 ?_); (case h1 => walk_at "hp"); (case h2 => walk_at "ix"))
  | ((with_reducible refine r_I ?h1 ?_); (case h1 => walk_at "side"); try simp only [Int.reduceToNat, Int.reducePow])
  | ((with_reducible refine r_iteT ?h1 ?_); (case h1 => walk_at "dec"))
  | ((with_reducible refine r_iteF ?h1 ?_); (case h1 => walk_at "dec"))
  | ((with_reducible refine r_iteNT ?h1 ?_); (case h1 => walk_at "dec"))
  | ((with_reducible refine r_iteNF ?h1 ?_); (case h1 => walk_at "dec"))
  | ((with_reducible refine' r_gNameW ?h1 ?_); (case h1 => (simp only [L2.wipe, List.map_cons, List.map_nil, List.set_cons_zero, List.set_cons_succ]; try exact rfl)))
  | ((with_reducible refine r_wipe ?h1 ?_); (case h1 => rfl))
  | (with_reducible refine iteT ?_)
  | (with_reducible refine r_iteNT1 ?_)
  | (with_reducible refine r_iteNF1 ?_)
  | (with_reducible refine r_gcd ?_)
  | ((with_reducible refine' r_isi ?h1 ?h2 ?_); (case h1 => first | exact .base (.int _) | exact .base (.bl _) | exact .base (.str _) | exact .base .non | exact .base (.tup (by walk_at "hp")) | exact .base (.lst (by walk_at "hp")) | exact .base (.dK (by walk_at "hp"))); (case h2 => first | (with_reducible exact kit_ii) | (with_reducible exact kit_ib) | (with_reducible exact kit_tt) | (with_reducible exact kit_ss) | (with_reducible exact kit_ll) | (with_reducible exact kit_bb) | (with_reducible exact kit_bi) | (with_reducible exact kit_dd) | (with_reducible exact kit_nt) | (with_reducible exact kit_ni) | (with_reducible exact kit_is) | (with_reducible exact kit_si) | (with_reducible exact kit_it)))
  | (with_reducible refine iteF ?_)
  | ((with_reducible refine And.intro ?h1 ?_); (case h1 => exact le_size (by simp only [List.length_cons, List.length_nil]; omega)))
  | (with_reducible refine r_nxE ?_)
  | (with_reducible refine r_bkE ?_)
  | (with_reducible refine r_ctE ?_)
  | (with_reducible refine r_rtE ?_))
local macro_rules | `(tactic| walk_at "sts") => `(tactic| repeat walk_at "st")
local macro_rules | `(tactic| walk_at "hp") => `(tactic| first | assumption | exact upd_same | (rw [upd_ne (by walk_at "ne")]; walk_at "hp") | exact Keep.out (by assumption) (by walk_at "nin") (by walk_at "hp"))
local macro_rules | `(tactic| walk_at "nin") => `(tactic| (simp only [List.mem_cons, List.not_mem_nil, or_false, not_false_eq_true]; first | done | walk_at "ne"))
local macro_rules | `(tactic| walk_at "ne") => `(tactic| first | assumption | (apply Ne.symm; assumption) | exact ne_free (by assumption) (by assumption) | exact (ne_free (by assumption) (by assumption)).symm)
local macro_rules | `(tactic| walk_at "sq") => `(tactic| first | assumption | exact sqL_of (by walk_at "hp") | exact sqT_of (by walk_at "hp") | exact Keep.l (by assumption) (by walk_at "nin") (by walk_at "sq") | exact Keep.t (by assumption) (by walk_at "nin") (by walk_at "sq"))
local macro_rules | `(tactic| walk_at "at") => `(tactic| first
  | exact atI_nat (j := 0) rfl | exact atI_nat (j := 1) rfl | exact atI_nat (j := 2) rfl | exact atI_nat (j := 3) rfl | exact atI_nat (j := 4) rfl | exact atI_nat (j := 5) rfl
  | (refine atI_map ?_ ?_ <;> omega) | assumption)
local macro_rules | `(tactic| walk_at "ix") => `(tactic| first | exact ixN_of (by decide) (by simp; omega) | exact ixN_of (by omega) (by simp; omega))
local macro_rules | `(tactic| walk_at "side") => `(tactic| first | omega | decide | exact .inl (by omega) | exact .inr (by omega) | exact ⟨by omega, by omega⟩ | exact .inl (.inl (by omega)) | exact .inl (.inr (by omega)) | (exact ⟨by decide, by decide, by decide⟩) | (exact ⟨by omega, by decide⟩))
local macro_rules | `(tactic| walk_at "start") => `(tactic| simp only [start_cc, start_cn, start_nn, cxOf_K])
local macro_rules | `(tactic| walk_at "dec") => `(tactic| first | omega | (simp only [List.length_cons, List.length_nil, List.length_map, List.length_append]; omega))
local macro_rules | `(tactic| walk_at "st") => `(tactic| first
  | (with_reducible refine Ow.r_fld ?_)
  | ((with_reducible refine' Ow.r_fldAt ?h1 ?h2 ?h3 ?h4 ?_); (case h1 => walk_at "hp"); (case h2 => exact Ow.OC.cl (by assumption)); (case h3 => assumption); (case h4 => rfl))
  | (with_reducible refine Ow.r_len_str ?_))
local macro_rules | `(tactic| walk_at "st") => `(tactic| first
  | (with_reducible refine r_inSg ?_)
  | (with_reducible refine r_ninSg ?_)
  | (with_reducible refine r_dnew ?_)
  | (with_reducible refine r_dget ?_)
  | (with_reducible refine r_dget2 ?_)
  | (with_reducible refine r_dput ?_)
  | (with_reducible refine r_din ?_)
  | (with_reducible refine r_dnin ?_)
  | (with_reducible refine r_strS ?_)
  | (with_reducible refine r_lcS ?_)
  | ((with_reducible refine' r_isD ?h1 ?_); (case h1 => walk_at "hp"))
  | ((with_reducible refine' r_dgetO ?h1 ?_); (case h1 => walk_at "hp"))
  | ((with_reducible refine' r_gTup2 ?h1 ?_); (case h1 => walk_at "sq"); try simp only [List.set_cons_zero, List.set_cons_succ]))
local macro_rules | `(tactic| walk_at "st") => `(tactic| first
  | (with_reducible refine r_js ?_)
  | (with_reducible refine r_js0 ?_)
  | (with_reducible refine r_fmt ?_))
local macro_rules | `(tactic| walk_at "st") => `(tactic| first
  | (with_reducible refine Ow.r_sfld ?_)
  | ((with_reducible refine' Ow.r_sfldAt ?h1 ?h2 ?h3 ?h4 ?_); (case h1 => walk_at "hp"); (case h2 => exact Ow.OC.cl (by assumption)); (case h3 => assumption); (case h4 => (simp only [List.length_cons, List.length_nil]; omega)))
  | ((with_reducible refine Ow.r_make ?_); try simp only [List.cons_append, List.nil_append])
  | ((with_reducible refine Ow.r_meth ?_); skip)
  | ((with_reducible refine' Ow.r_methAt ?h1 ?h2 ?_); (case h1 => walk_at "hp"); (case h2 => rfl); try simp only [List.cons_append, List.nil_append]))
section
variable {P : Program} {w : World} {K : PySem.W.Frag} {mg : Str → Option Value} {base : Heap}
theorem ok_take (T : Tx K mg) : FnOk P w K mg base CX0 1 T.f_w_take T.fd_w_take ["_law_pot_here", "_law_size"] spTake := by
  refine T.F_w_take.ok sc_w_take (fun vs H Q E h => ?_) (fun cdv A outer s H vs Q E hr h => ?_)
  · obtain ⟨a, n, rfl, _⟩ := h; rfl
  · obtain ⟨a, n, rfl, ⟨P0, hP, pos, car, cnt, mix, sc, rfl, h4, hcar, hm0, hm1, hsc⟩, hn0, hn1, q⟩ := h
    refine ⟨_, (pss_cons (ps_asg (pe_op op_add (pe_ix ix_list (pv 0) pe_int (fun _ _ => rfl)) pe_int) (pg_sub (pv 0) pe_int set_list))
    (Evl.pss_cut (ps_if (PW.pt (pw_and (pt_cmpR op_eq (pe_ix ix_list (pv 0) pe_int (fun _ _ => rfl)) pe_int (nomark _)) (pw_and1 (pt_cmpR op_lt (pe_ix ix_list (pv 0) pe_int (fun _ _ => rfl)) (pe_callB call_len_seq (by rfl) T.m_len PySem.boot_len (pa_cons (pv 0) pa_nil)) (nomark _)))))
    (pss_cons (ps_set (i := 2) sc_w_take.nd rfl (Or.inl rfl) (pe_callTy call_int1 (by rfl) T.m_int (by decide +kernel) (pa_cons (pe_ix ix_list (pv 0) (pe_ix ix_list (pv 0) pe_int (fun _ _ => rfl)) (fun _ _ => rfl)) pa_nil)))
    (pss_cons (ps_asg (pe_op op_add (pe_ix ix_list (pv 0) pe_int (fun _ _ => rfl)) pe_int) (pg_sub (pv 0) pe_int set_list))
    (pss_one (ps_if (pt_cmpR op_ge (pv 2) (pe_op op_pow pe_int pe_int) (nomark _))
    (pss_one (ps_asg (pe_op op_sub (pv 2) (pe_op op_pow pe_int pe_int)) (pg_sub (pv 0) pe_int set_list)))
    (pss_one (ps_asg (pe_op op_mod (pe_callTy call_int1 (by rfl) T.m_int (by decide +kernel) (pa_cons (pe_op op_add (pe_op op_add (pe_op op_mul (pe_ix ix_list (pv 0) pe_int (fun _ _ => rfl)) pe_int) (pe_op op_mul (pv 2) pe_int)) pe_int) pa_nil)) pe_int) (pg_sub (pv 0) pe_int set_list)))))))
    pss_nil)
    (pss_cons (ps_if (pt_cmpR op_gt (pe_ix ix_list (pv 0) pe_int (fun _ _ => rfl)) pe_int (nomark _))
    (pss_cons (ps_set (i := 2) sc_w_take.nd rfl (Or.inl rfl) (pe_callTy call_int1 (by rfl) T.m_int (by decide +kernel) (pa_cons (pe_ix ix_list (pv 0) pe_int (fun _ _ => rfl)) pa_nil)))
    (pss_cons (ps_asg (pe_op op_fdivWN (pv 2) (pv 1)) (pg_sub (pv 0) pe_int set_list))
    (pss_one (ps_ret (pe_op op_mod (pe_callTy call_int1 (by rfl) T.m_int (by decide +kernel) (pa_cons (pv 2) pa_nil)) (pv 1))))))
    pss_nil)
    (pss_cons (ps_set (i := 3) sc_w_take.nd rfl (Or.inl rfl) (pe_op op_mod (pe_callTy call_int1 (by rfl) T.m_int (by decide +kernel) (pa_cons (pe_op op_mulG (pe_ix ix_list (pv 0) pe_int (fun _ _ => rfl)) (pe_op op_add (pe_op op_mul (pe_ix ix_list (pv 0) pe_int (fun _ _ => rfl)) pe_int) pe_int)) pa_nil)) pe_int))
    (pss_cons (ps_set (i := 3) sc_w_take.nd rfl (Or.inl rfl) (pe_op op_mod (pe_callTy call_int1 (by rfl) T.m_int (by decide +kernel) (pa_cons (pe_op op_mulG (pv 3) (pe_op op_add (pe_op op_add (pv 3) (pe_op op_mul (pe_ix ix_list (pv 0) pe_int (fun _ _ => rfl)) pe_int)) pe_int)) pa_nil)) pe_int))
    (pss_one (ps_ret (pe_op op_mod (pe_callTy call_int1 (by rfl) T.m_int (by decide +kernel) (pa_cons (pe_op op_add (pe_op op_fdiv (pv 3) pe_int) (pe_ix ix_list (pv 0) pe_int (fun _ _ => rfl))) pa_nil)) (pv 1))))))))), ?_⟩
    walk_at "start"
    walk_at "sts"
    refine r_cut (fun σ' H' => ∃ (pos car cnt mix : Int) (x : Option V), σ' = [some (.ref a), some (.int n), x, none] ∧ H' = upd H a (.lst (V.int pos :: V.int car :: V.int cnt :: V.int mix :: sc.map V.int)) ∧ 4 ≤ pos ∧ 0 ≤ car ∧ 0 ≤ mix ∧ mix < 2147483647) ?_ ?_
    · walk_at "sts"
      refine r_ite (fun c1 => ?_) (fun c1 => ?_)
      · walk_at "sts"
        refine r_ite (fun c2 => ?_) (fun c2 => ?_)
        · walk_at "sts"
          simp only [List.length_cons, List.length_map] at c2
          refine r_ixL (sqL_of upd_same) (pot_at h4 (by omega)) ?_
          walk_at "sts"
          refine r_ite (fun c3 => ?_) (fun c3 => ?_)
          · walk_at "sts"
            exact ⟨_, _, _, _, _, rfl, rfl, by omega, by omega, hm0, hm1⟩
          · walk_at "sts"
            exact ⟨_, _, _, _, _, rfl, rfl, by omega, by omega, Int.emod_nonneg _ (by decide), Int.emod_lt_of_pos _ (by decide)⟩
        · walk_at "sts"
          exact ⟨_, _, _, _, _, rfl, rfl, h4, hcar, hm0, hm1⟩
      · walk_at "sts"
        exact ⟨_, _, _, _, _, rfl, rfl, h4, hcar, hm0, hm1⟩
    · rintro σ' H' ⟨pos, car, cnt, mix, x, rfl, rfl, h4, hcar, hm0, hm1⟩
      walk_at "sts"
      refine r_ite (fun c1 => ?_) (fun c1 => ?_)
      · walk_at "sts"
        refine r_I ⟨by omega, log_ok 200 (by omega)⟩ ?_
        walk_at "sts"
        exact q _ _ (Int.emod_nonneg _ (by omega)) (Int.emod_lt_of_pos _ hn0) (Keep.at (by simp)) ⟨_, upd_same, pos, _, cnt, mix, sc, rfl, h4, Int.fdiv_nonneg (by omega) (by omega), hm0, hm1, hsc⟩
      · walk_at "sts"
        exact q _ _ (Int.emod_nonneg _ (by omega)) (Int.emod_lt_of_pos _ hn0) (Keep.at (by simp)) ⟨_, upd_same, pos, car, cnt, mix, sc, rfl, h4, hcar, hm0, hm1, hsc⟩
theorem ok_pot (T : Tx K mg) : FnOk P w K mg base CX0 1 T.f_w_pot T.fd_w_pot ["_law_script"] (spPot K) := by
  refine T.F_w_pot.ok sc_w_pot (fun vs H Q E h => ?_) (fun cdv A outer s H vs Q E hr h => ?_)
  · obtain ⟨a, ns, rfl, _⟩ := h; rfl
  · obtain ⟨a, ns, rfl, hs, hl, q⟩ := h
    refine ⟨_, (pss_one (ps_ret (pe_op op_cat (pe_lst (pa_cons pe_int (pa_cons pe_int (pa_cons pe_int (pa_cons pe_int pa_nil))))) (pe_callTy call_list_of (by rfl) T.m_list (by decide +kernel) (pa_cons (pe_slice sl_list (pv 0) po_none (po_some pe_int)) pa_nil))))), ?_⟩
    walk_at "start"
    walk_at "sts"
    intro p hp
    walk_at "sts"
    refine r_slL (Keep.l (Keep.new (M := []) hp) (by simp) hs) (fun p2 hp2 => ?_)
    walk_at "sts"
    intro p3 hp3
    have n2 : p ≠ p2 := ne_of_none (o := .lst [.int 4, .int 0, .int 0, .int 0]) upd_same hp2
    have n3 : p ≠ p3 := by
      refine ne_of_none (o := .lst [.int 4, .int 0, .int 0, .int 0]) ?_ hp3
      rw [upd_ne n2]; exact upd_same
    have e : cutV (ns.map V.int) none (some 63) = ns.map V.int := by
      unfold cutV
      rw [show HT.sIx (ns.map V.int).length (ns.map V.int).length (some 63) = min 63 (ns.map V.int).length from HT.sIx_nat _ _ 63, HT.sIx_none, List.length_map, Nat.min_eq_right hl, Nat.sub_zero, List.drop_zero]
      exact List.take_of_length_le (by rw [List.length_map]; exact Nat.le_refl _)
    refine r_cat (by rw [upd_ne n3, upd_ne n2]; exact upd_same) upd_same (le_size (by rw [e, List.length_map]; simp only [List.length_cons, List.length_nil]; omega)) (fun p4 hp4 => ?_)
    have k3 : Keep [] H (upd (upd (upd H p (.lst [.int 4, .int 0, .int 0, .int 0])) p2 (.lst (cutV (ns.map V.int) none (some 63)))) p3 (.lst (cutV (ns.map V.int) none (some 63)))) := ((Keep.new hp).trans (Keep.new hp2)).trans (Keep.new hp3)
    refine q p4 _ (k3.trans (Keep.new hp4)) (k3.free (by simp) hp4) ⟨_, upd_same, 4, 0, 0, 0, ns, ?_, by decide, by decide, by decide, by decide, hl⟩
    rw [e]; rfl
theorem ok_ratio (T : Tx K mg) : FnOk P w K mg base CX0 1 T.f_ratio T.fd_ratio ["top", "bottom"] spLow := by
  refine T.F_ratio.ok sc_ratio (fun vs H Q E h => ?_) (fun cdv A outer s H vs Q E hr h => ?_)
  · obtain ⟨a, b, rfl, _⟩ := h; rfl
  · obtain ⟨t, b, rfl, hb, hz, q⟩ := h
    refine ⟨_, PSs.nox (pss_cons (ps_if (pt_cmpR op_eq (pv 1) pe_int (nomark _))
    (pss_one ps_never)
    pss_nil)
    (pss_cons (ps_set (i := 2) sc_ratio.nd rfl (Or.inl rfl) (pe_callBfun cr_gcd rfl T.m_gcd (pa_cons (pv 0) (pa_cons (pv 1) pa_nil))))
    (pss_cons (ps_if (pt_cmpR op_lt (pv 1) pe_int (nomark _))
    (pss_one (ps_set (i := 2) sc_ratio.nd rfl (Or.inl rfl) (pe_un un_neg (pv 2))))
    pss_nil)
    (pss_one (ps_ret (pe_tup (pa_cons (pe_op op_fdivWN (pv 0) (pv 2)) (pa_cons (pe_op op_fdivWN (pv 1) (pv 2)) pa_nil)))))))), ?_⟩
    walk_at "start"
    walk_at "sts"
    have hl : (dv t b).natAbs.log2 < 9000 := log_ok 8000 (by rw [dv_abs]; exact Nat.lt_of_le_of_lt (gcd_le hb) hz)
    have hn := dv_ne (t := t) hb
    refine r_ite (fun c => ?_) (fun c => ?_)
    · have e : dv t b = -((Nat.gcd t.natAbs b.natAbs : Nat) : Int) := by unfold dv; rw [if_pos c]
      rw [e] at hl hn
      walk_at "sts"
      intro p hp
      refine q p _ (Keep.new hp) hp ?_
      rw [upd_same]; unfold lowT lowB; rw [e]
    · have e : dv t b = ((Nat.gcd t.natAbs b.natAbs : Nat) : Int) := by unfold dv; rw [if_neg c]
      rw [e] at hl hn
      walk_at "sts"
      intro p hp
      refine q p _ (Keep.new hp) hp ?_
      rw [upd_same]; unfold lowT lowB; rw [e]
theorem ok_plus (T : Tx K mg) (G_ratio : FnOk P w K mg base CX0 1 T.f_ratio T.fd_ratio ["top", "bottom"] spLow) : FnOk P w K mg base CX0 2 T.f_plus T.fd_plus ["first", "second"] (spTwo fPlus) := by
  refine T.F_plus.ok sc_plus (fun vs H Q E h => ?_) (fun cdv A outer s H vs Q E hr h => ?_)
  · obtain ⟨p, q, a, b, c, d, rfl, _⟩ := h; rfl
  · obtain ⟨p, q, a, b, c, d, rfl, hp, hq, hb, hd, za, zb, zc, zd, k⟩ := h
    refine ⟨_, (pss_one (ps_ret (pe_call G_ratio (hr.mono (by decide)) rfl T.g_ratio T.F_ratio.kp T.b2_ratio.choose_spec.2 T.b2_ratio.choose_spec.1 pass0 (pa_cons (pe_op op_add (pe_op op_mulG (pe_ix ix_tup (pv 0) pe_int (fun _ _ => rfl)) (pe_ix ix_tup (pv 1) pe_int (fun _ _ => rfl))) (pe_op op_mulG (pe_ix ix_tup (pv 1) pe_int (fun _ _ => rfl)) (pe_ix ix_tup (pv 0) pe_int (fun _ _ => rfl)))) (pa_cons (pe_op op_mulG (pe_ix ix_tup (pv 0) pe_int (fun _ _ => rfl)) (pe_ix ix_tup (pv 1) pe_int (fun _ _ => rfl))) pa_nil))))), ?_⟩
    walk_at "start"
    walk_at "sts"
    refine r_I (mulw 9000 3000 za zd) ?_
    walk_at "sts"
    refine r_I (mulw 9000 3000 zc zb) ?_
    walk_at "sts"
    refine r_I (mulw 3000 3000 zb zd) ?_
    walk_at "sts"
    exact r_low (Int.mul_ne_zero hb hd) (pow_mono 6000 8000 (wide_lt zb zd)) k
theorem ok_times (T : Tx K mg) (G_ratio : FnOk P w K mg base CX0 1 T.f_ratio T.fd_ratio ["top", "bottom"] spLow) : FnOk P w K mg base CX0 2 T.f_times T.fd_times ["first", "second"] (spTwo fTimes) := by
  refine T.F_times.ok sc_times (fun vs H Q E h => ?_) (fun cdv A outer s H vs Q E hr h => ?_)
  · obtain ⟨p, q, a, b, c, d, rfl, _⟩ := h; rfl
  · obtain ⟨p, q, a, b, c, d, rfl, hp, hq, hb, hd, za, zb, zc, zd, k⟩ := h
    refine ⟨_, (pss_one (ps_ret (pe_call G_ratio (hr.mono (by decide)) rfl T.g_ratio T.F_ratio.kp T.b2_ratio.choose_spec.2 T.b2_ratio.choose_spec.1 pass0 (pa_cons (pe_op op_mulG (pe_ix ix_tup (pv 0) pe_int (fun _ _ => rfl)) (pe_ix ix_tup (pv 1) pe_int (fun _ _ => rfl))) (pa_cons (pe_op op_mulG (pe_ix ix_tup (pv 0) pe_int (fun _ _ => rfl)) (pe_ix ix_tup (pv 1) pe_int (fun _ _ => rfl))) pa_nil))))), ?_⟩
    walk_at "start"
    walk_at "sts"
    refine r_I (mulw 9000 9000 za zc) ?_
    walk_at "sts"
    refine r_I (mulw 3000 3000 zb zd) ?_
    walk_at "sts"
    exact r_low (Int.mul_ne_zero hb hd) (pow_mono 6000 8000 (wide_lt zb zd)) k
theorem ok_whole (T : Tx K mg) : FnOk P w K mg base CX0 1 T.f_w_whole T.fd_w_whole ["_law_found"] spWhole := by
  refine T.F_w_whole.ok sc_w_whole (fun vs H Q E h => ?_) (fun cdv A outer s H vs Q E hr h => ?_)
  · obtain ⟨i, rfl, _⟩ := h; rfl
  · obtain ⟨i, rfl, k⟩ := h
    refine ⟨_, (pss_one (ps_ret (pe_and (pe_callB call_isi (by rfl) T.m_isinstance (by decide +kernel) (pa_cons (pv 0) (pa_cons (pe_bltn (v := .ty "int") (by rfl) T.m_int (by decide +kernel) rfl) pa_nil))) (pe_one (pe_not (pe_callB call_isi (by rfl) T.m_isinstance (by decide +kernel) (pa_cons (pv 0) (pa_cons (pe_bltn (v := .ty "bool") (by rfl) T.m_bool (by decide +kernel) rfl) pa_nil)))))))), ?_⟩
    walk_at "start"
    walk_at "sts"
    exact k
theorem ok_lowest (T : Tx K mg) : FnOk P w K mg base CX0 1 T.f_w_lowest T.fd_w_lowest ["_law_top", "_law_bottom"] spLow0 := by
  refine T.F_w_lowest.ok sc_w_lowest (fun vs H Q E h => ?_) (fun cdv A outer s H vs Q E hr h => ?_)
  · obtain ⟨a, b, rfl, _⟩ := h; rfl
  · obtain ⟨t, b, rfl, hb, hz, q⟩ := h
    refine ⟨_, (pss_cons (ps_set (i := 2) sc_w_lowest.nd rfl (Or.inl rfl) (pe_callB call_abs (by rfl) T.m_abs (by decide +kernel) (pa_cons (pv 0) pa_nil)))
    (pss_cons (ps_set (i := 3) sc_w_lowest.nd rfl (Or.inl rfl) (pv 1))
    (pss_cons (ps_while PassesOwn.never (pt_cmpR op_gt (pv 3) pe_int (nomark _))
    (pss_cons (ps_set (i := 4) sc_w_lowest.nd rfl (Or.inl rfl) (pe_op op_mod (pe_callTy call_int1 (by rfl) T.m_int (by decide +kernel) (pa_cons (pv 2) pa_nil)) (pv 3)))
    (pss_cons (ps_set (i := 2) sc_w_lowest.nd rfl (Or.inl rfl) (pv 3))
    (pss_one (ps_set (i := 3) sc_w_lowest.nd rfl (Or.inl rfl) (pv 4))))))
    (pss_one (ps_ret (pe_tup (pa_cons (pe_op op_fdivWN (pv 0) (pv 2)) (pa_cons (pe_op op_fdivWN (pv 1) (pv 2)) pa_nil)))))))), ?_⟩
    walk_at "start"
    walk_at "sts"
    refine r_while (fun m σ' H' => ∃ (x y : Int) (z : Option V), σ' = [some (.int t), some (.int b), some (.int x), some (.int y), z] ∧ H' = H ∧ 0 ≤ x ∧ 0 ≤ y ∧ m = y.toNat ∧ Nat.gcd x.natAbs y.natAbs = Nat.gcd t.natAbs b.natAbs) (m0 := b.toNat) ⟨_, _, _, rfl, rfl, by omega, by omega, rfl, by rw [Int.natAbs_natCast]⟩ ?_
    rintro m σ' H' ⟨x, y, z, rfl, rfl, hx, hy, rfl, hg⟩
    walk_at "sts"
    refine r_ite (fun c => ?_) (fun c => ?_)
    · refine r_turn ?_
      walk_at "sts"
      have h1 := Int.emod_nonneg x (show y ≠ 0 by omega)
      have h2 := Int.emod_lt_of_pos x c
      refine ⟨(x % y).toNat, by omega, y, x % y, _, rfl, rfl, by omega, h1, rfl, ?_⟩
      rw [← hg, Nat.gcd_comm y.natAbs, Int.natAbs_emod_of_nonneg hx, ← Nat.gcd_rec, Nat.gcd_comm]
    · have hy0 : y = 0 := by omega
      subst hy0
      rw [Int.natAbs_zero, Nat.gcd_zero_right] at hg
      have e : dv t b = x := by unfold dv; rw [if_neg (by omega), ← hg]; omega
      have hn : x ≠ 0 := by rw [← e]; exact dv_ne (by omega)
      have hl : x.natAbs.log2 < 9000 := log_ok 8000 (by rw [hg]; exact Nat.lt_of_le_of_lt (gcd_le (by omega)) hz)
      walk_at "sts"
      intro p hp
      refine q p _ (Keep.new hp) hp ?_
      rw [upd_same]; unfold lowT lowB; rw [e]
end
/-! ### names -/
def lettersL : List Nat := ("abcdefghijklmnopqrstuvwxyz" : Str).cps.toList
def signsL : List Nat := ("abcdefghijklmnopqrstuvwxyz.0123456789" : Str).cps.toList
/-- a quantity -/
structure IsQ (s : Str) : Prop where
  len : s.length ≤ 12
  hd : ∃ c, s.cps.toList[0]? = some c ∧ c ∈ lettersL
  la : ∃ c, s.cps.toList.getLast? = some c ∧ c ≠ 46
  al : ∀ c ∈ s.cps.toList, c ∈ signsL
theorem atI_m1 {α : Type} {xs : List α} {c : α} (h : xs.getLast? = some c) : atI xs (-1) = some c := by
  have hne : xs ≠ [] := by rintro rfl; simp at h
  have hl : 0 < xs.length := List.length_pos_iff.mpr hne
  unfold atI ixN
  rw [if_neg (by decide), if_pos (by omega)]
  show xs[(-1 + (xs.length : Int)).toNat]? = some c
  rw [show (-1 + (xs.length : Int)).toNat = xs.length - 1 by omega, ← List.getLast?_eq_getElem?]
  exact h
theorem IsQ.pos {s : Str} (h : IsQ s) : 1 ≤ s.length := by
  obtain ⟨c, hc, _⟩ := h.hd
  have := (List.getElem?_eq_some_iff.mp hc).1
  rw [Array.length_toList] at this
  exact this
theorem one_ne {c d : Nat} (h : c ≠ d) : (⟨#[c]⟩ : Str) ≠ ⟨#[d]⟩ := fun e => h (by simpa using congrArg Str.cps e)
def spIsQ : Sp := fun vs H Q _ => ∃ s : Str, vs = [.str s] ∧ IsQ s ∧ ∀ H', Keep [] H H' → Q (.bl true) H'
theorem r_isQ {Q : VK} {E : XK} {H : Hp} {s : Str} (h : IsQ s) (k : ∀ H', Keep [] H H' → Q (.bl true) H') : spIsQ [.str s] H Q E := ⟨s, rfl, h, k⟩
section
variable {P : Program} {w : World} {K : PySem.W.Frag} {mg : Str → Option Value} {base : Heap}
theorem ok_isQ (T : Tx K mg) : FnOk P w K mg base CX0 1 T.f_is_quantity T.fd_is_quantity ["text"] spIsQ := by
  refine T.F_is_quantity.ok sc_is_quantity (fun vs H Q E h => ?_) (fun cdv A outer s H vs Q E hr h => ?_)
  · obtain ⟨a, rfl, _⟩ := h; rfl
  · obtain ⟨t, rfl, hq, q⟩ := h
    have hp := hq.pos
    have hl := hq.len
    have hz : t.length ≤ sizeLine := le_size (by omega)
    obtain ⟨c0, hc0, hm0⟩ := hq.hd
    obtain ⟨c1, hc1, hm1⟩ := hq.la
    refine ⟨_, (pss_cons (ps_if (PW.pt (pw_or (pt_not (pt_val (pe_callB call_isi (by rfl) T.m_isinstance (by decide +kernel) (pa_cons (pv 0) (pa_cons (pe_bltn (v := .ty "str") (by rfl) T.m_str (by decide +kernel) rfl) pa_nil))))) (pw_or1 (pt_not (pt_chain op_le op_le pe_int (pe_callB call_len_str (by rfl) T.m_len PySem.boot_len (pa_cons (pv 0) pa_nil)) (pe_glob (v := .int (12)) rfl T.c_LONGEST_QUANTITY.choose_spec ⟨_, rfl⟩))))))
    (pss_one (ps_ret pe_bl))
    pss_nil)
    (pss_cons (ps_if (PW.pt (pw_or (pt_cmpR op_ninSg (pe_ix ix_str (pv 0) pe_int (fun _ _ => rfl)) (pe_glob (v := .str "abcdefghijklmnopqrstuvwxyz") rfl T.c_LETTERS.choose_spec ⟨_, rfl⟩) (by rfl)) (pw_or1 (pt_cmpR op_eq (pe_ix ix_str (pv 0) (pe_un un_neg pe_int) (fun _ _ => rfl)) pe_str (nomark _)))))
    (pss_one (ps_ret pe_bl))
    pss_nil)
    (pss_one (ps_ret (pe_callB (cr_all rfl) (by rfl) T.m_all (by decide +kernel) (pa_cons (pe_lc (own := [("sign", 1)]) (g := gName 1) (tt := tYes) rfl sc_is_quantity.nd (pi_str (pv 0)) (blkOk_by (own := [("sign", 1)]) (N := ["text", "sign"]) (sc := defScope s_is_quantity) (by decide +kernel)) (fun _ _ _ _ _ => pg_name (i := 1) sc_is_quantity.nd rfl (Or.inl rfl)) (fun _ _ _ _ _ => pts_nil) (fun _ _ _ _ _ => (pe_cmpR op_inSg (pv 1) (pe_glob (v := .str "abcdefghijklmnopqrstuvwxyz.0123456789") rfl T.c_QUANTITY_SIGNS.choose_spec ⟨_, rfl⟩) (by rfl)))) pa_nil)))))), ?_⟩
    walk_at "start"
    walk_at "sts"
    refine ⟨hz, ?_⟩
    walk_at "sts"
    refine r_ixS hz (atI_nat (j := 0) hc0) ?_
    walk_at "sts"
    refine r_iteNF (by exact hm0) ?_
    walk_at "sts"
    refine r_ixS hz (atI_m1 hc1) ?_
    walk_at "sts"
    refine r_iteF (one_ne hm1) ?_
    walk_at "sts"
    refine lcS_go (fun D i acc H' => acc = List.replicate i (V.bl true) ∧ Keep [] H H' ∧ H D = none) (fun D hD => ⟨rfl, Keep.new hD, hD⟩) ?_ ?_
    · rintro D i c acc H' hc hD ⟨rfl, hk, hn⟩
      have hc' : c ∈ signsL := hq.al c (Array.mem_toList_iff.mpr (Array.mem_of_getElem? hc))
      walk_at "sts"
      rw [show decide (c ∈ (Str.ofString "abcdefghijklmnopqrstuvwxyz.0123456789").cps.toList) = true from decide_eq_true hc']
      have h1 := (Array.getElem?_eq_some_iff.mp hc).1
      have h2 : t.cps.size = t.length := rfl
      exact lc_put hD (by rw [List.length_replicate]; exact lt_size (by omega)) ⟨by rw [← List.replicate_succ'], hk.mut hn, hn⟩
    · rintro D acc H' hD hD' ⟨rfl, hk, hn⟩
      walk_at "sts"
      refine r_all (bs := List.replicate t.cps.size true) (by rw [List.map_replicate]; exact sqL_of hD') ?_
      rw [show (List.replicate t.cps.size true).all id = true by simp]
      exact q _ hk
end
/-! ### the draws -/
/-- a name under way -/
structure PQ (n : Nat) (s : Str) : Prop where
  len : s.length = n
  hd : ∃ c, s.cps.toList[0]? = some c ∧ c ∈ lettersL
  al : ∀ c ∈ s.cps.toList, c ∈ signsL
def sgn1 (c : Nat) : Str := ⟨#[c]⟩
theorem letters_signs : ∀ c ∈ lettersL, c ∈ signsL := by decide +kernel
theorem PQ.one {c : Nat} (h : c ∈ lettersL) : PQ 1 (sgn1 c) := ⟨rfl, ⟨c, rfl, h⟩, fun d hd => by
  have : d = c := by simpa [sgn1] using hd
  rw [this]; exact letters_signs c h⟩
theorem tl_app (x y : Str) : (x ++ y).cps.toList = x.cps.toList ++ y.cps.toList := by show (x.cps ++ y.cps).toList = _; exact Array.toList_append
theorem len_tl (x : Str) : x.length = x.cps.toList.length := rfl
theorem len_app (x y : Str) : (x ++ y).length = x.length + y.length := by rw [len_tl, tl_app, List.length_append]; rfl
theorem PQ.snoc {n : Nat} {s : Str} {c : Nat} (h : PQ n s) (hc : c ∈ signsL) : PQ (n + 1) (s ++ sgn1 c) := by
  refine ⟨by rw [len_app, h.len]; rfl, ?_, fun d hd => ?_⟩
  · obtain ⟨d, hd, hm⟩ := h.hd
    refine ⟨d, ?_, hm⟩
    rw [tl_app, List.getElem?_append_left (List.getElem?_eq_some_iff.mp hd).1]; exact hd
  · rw [tl_app] at hd
    rcases List.mem_append.mp hd with hd | hd
    · exact h.al d hd
    · have : d = c := by simpa [sgn1] using hd
      rw [this]; exact hc
theorem PQ.pos {n : Nat} {s : Str} (h : PQ n s) : 1 ≤ n := by
  obtain ⟨c, hc, _⟩ := h.hd
  have := (List.getElem?_eq_some_iff.mp hc).1
  rw [← h.len, len_tl]; omega
theorem PQ.last {n : Nat} {s : Str} (h : PQ n s) : ∃ c, s.cps.toList.getLast? = some c := by
  have := h.pos
  have e : s.cps.toList ≠ [] := fun z => by have := h.len; rw [len_tl, z] at this; simp at this; omega
  exact ⟨_, List.getLast?_eq_some_getLast e⟩
theorem cut_m1 {s : Str} (h : 1 ≤ s.length) : (cutS s none (some (-1))).cps.toList = s.cps.toList.dropLast := by
  unfold cutS
  rw [HT.sIx_none, List.drop_zero, Nat.sub_zero]
  have : HT.sIx s.length s.length (some (-1)) = s.length - 1 := by
    unfold HT.sIx
    first
      | (simp; omega)
      | omega
  rw [this, List.dropLast_eq_take]; rfl
theorem cut_11 {s : Str} : (cutS s none (some 11)).cps.toList = s.cps.toList.take 11 := by
  unfold cutS
  rw [HT.sIx_none, List.drop_zero, Nat.sub_zero, show HT.sIx s.length s.length (some 11) = min 11 s.length from HT.sIx_nat _ _ 11]
  show s.cps.toList.take (min 11 s.length) = _
  rw [len_tl, List.take_eq_take_iff]; omega
/-- the last sign made another one -/
theorem PQ.fix {n : Nat} {s : Str} (h : PQ (n + 1) s) (hs : s.cps.toList.getLast? = some 46) : PQ (n + 1) (cutS s none (some (-1)) ++ sgn1 120) := by
  have e := cut_m1 (s := s) (by rw [h.len]; omega)
  obtain ⟨c, hc, hm⟩ := h.hd
  have hl : s.cps.toList.length = n + 1 := by rw [← len_tl]; exact h.len
  have hn : 0 < n := by
    rcases Nat.eq_zero_or_pos n with rfl | z
    · exfalso
      match hq : s.cps.toList, hl, hc, hs with
      | [d], _, hc, hs =>
        have h1 : d = c := by simpa using hc
        have h2 : d = 46 := by simpa using hs
        rw [← h1, h2] at hm
        exact absurd hm (by decide +kernel)
    · exact z
  refine ⟨by rw [len_app, len_tl, e, List.length_dropLast, hl]; rfl, ⟨c, ?_, hm⟩, fun d hd => ?_⟩
  · rw [tl_app, e, List.getElem?_append_left (by rw [List.length_dropLast, hl]; omega), List.getElem?_dropLast, if_pos (by rw [hl]; omega)]; exact hc
  · rw [tl_app, e] at hd
    rcases List.mem_append.mp hd with hd | hd
    · exact h.al d ((List.dropLast_sublist _).subset hd)
    · have : d = 120 := by simpa [sgn1] using hd
      rw [this]; decide +kernel
theorem PQ.isQ {n : Nat} {s : Str} {c : Nat} (h : PQ n s) (hn : n ≤ 12) (hc : s.cps.toList.getLast? = some c) (h46 : c ≠ 46) : IsQ s := ⟨by rw [h.len]; exact hn, h.hd, ⟨c, hc, h46⟩, h.al⟩
theorem last_snoc {s : Str} {c : Nat} : (s ++ sgn1 c).cps.toList.getLast? = some c := by rw [tl_app]; exact List.getLast?_concat
theorem IsQ.pq {s : Str} (h : IsQ s) : PQ s.length s := ⟨rfl, h.hd, h.al⟩
/-- cut to eleven signs, and one sign more -/
theorem IsQ.next {s : Str} {c : Nat} (h : IsQ s) (hc : c ∈ signsL) (h46 : c ≠ 46) : IsQ (cutS s none (some 11) ++ sgn1 c) := by
  have e := cut_11 (s := s)
  refine ⟨?_, ?_, ⟨c, last_snoc, h46⟩, fun d hd => ?_⟩
  · rw [len_app, len_tl, e, List.length_take]; have : (sgn1 c).length = 1 := rfl; omega
  · obtain ⟨d, hd, hm⟩ := h.hd
    have := (List.getElem?_eq_some_iff.mp hd).1
    refine ⟨d, ?_, hm⟩
    rw [tl_app, e, List.getElem?_append_left (by rw [List.length_take]; omega), List.getElem?_take, if_pos (by omega)]; exact hd
  · rw [tl_app, e] at hd
    rcases List.mem_append.mp hd with hd | hd
    · exact h.al d (List.mem_of_mem_take hd)
    · have : d = c := by simpa [sgn1] using hd
      rw [this]; exact hc
theorem inV_str {s : Str} : ∀ {xs : List Str}, inV (.str s) (xs.map V.str) = decide (s ∈ xs)
  | [] => rfl
  | x :: xs => by
    have ih := inV_str (s := s) (xs := xs)
    unfold inV at ih ⊢
    rw [List.map_cons, List.any_cons, ih]
    show (decide (x = s) || _) = _
    by_cases h : x = s
    · subst h; simp
    · have h' : ¬ s = x := fun e => h e.symm
      simp [h, h']
theorem flat_strs : ∀ xs : List Str, (xs.map V.str).all L2.flatV = true
  | [] => rfl
  | x :: xs => by rw [List.map_cons, List.all_cons, flat_strs xs]; rfl
theorem r_inT {K : PySem.W.Frag} {H : Hp} {Q : VK} {x : V} {p : Addr} {xs : List V} (h : SqT K H p xs) (fx : L2.flatV x = true) (fs : xs.all L2.flatV = true) (k : Q (.bl (inV x xs)) H) : rIn K false x (.ref p) H Q := ⟨p, xs, rfl, .inr h, fx, fs, by simpa using k⟩
theorem at_list {l : List Nat} {i : Int} (h0 : 0 ≤ i) (h1 : i < l.length) : ∃ c, atI l i = some c ∧ c ∈ l := by
  obtain ⟨n, rfl⟩ : ∃ n : Nat, i = n := ⟨i.toNat, by omega⟩
  have h2 : n < l.length := by omega
  exact ⟨l[n], atI_nat (List.getElem?_eq_getElem h2), List.getElem_mem h2⟩
def spName : Sp := fun vs H Q _ => ∃ (a : Addr) (sh : Int), vs = [.ref a, .int sh] ∧ PotAt a H ∧ 0 ≤ sh ∧ ∀ (s : Str) (H' : Hp), IsQ s → Keep [a] H H' → PotAt a H' → Q (.str s) H'
theorem r_name {Q : VK} {E : XK} {H : Hp} {a : Addr} {sh : Int} (hp : PotAt a H) (h0 : 0 ≤ sh) (k : ∀ (s : Str) (H' : Hp), IsQ s → Keep [a] H H' → PotAt a H' → Q (.str s) H') : spName [.ref a, .int sh] H Q E := ⟨a, sh, rfl, hp, h0, k⟩
section
variable {P : Program} {w : World} {K : PySem.W.Frag} {mg : Str → Option Value} {base : Heap}
abbrev GTake (P : Program) (w : World) (K : PySem.W.Frag) (mg : Str → Option Value) (base : Heap) (T : Tx K mg) := FnOk P w K mg base CX0 1 T.f_w_take T.fd_w_take ["_law_pot_here", "_law_size"] spTake
theorem ok_name (T : Tx K mg) (G_w_take : GTake P w K mg base T) : FnOk P w K mg base CX0 2 T.f_w_quantity T.fd_w_quantity ["_law_pot_here", "_law_shift"] spName := by
  refine T.F_w_quantity.ok sc_w_quantity (fun vs H Q E h => ?_) (fun cdv A outer s H vs Q E hr h => ?_)
  · obtain ⟨a, sh, rfl, _⟩ := h; rfl
  · obtain ⟨a, sh, rfl, hp, hsh, q⟩ := h
    refine ⟨_, (pss_cons (ps_set (i := 2) sc_w_quantity.nd rfl (Or.inl rfl) pe_str)
    (pss_cons (ps_set (i := 3) sc_w_quantity.nd rfl (Or.inl rfl) (pe_op op_addS (pv 2) pe_str))
    (pss_cons (ps_set (i := 4) sc_w_quantity.nd rfl (Or.inl rfl) (pe_ix ix_str (pv 2) (pe_op op_mod (pe_callTy call_int1 (by rfl) T.m_int (by decide +kernel) (pa_cons (pe_op op_add (pe_call G_w_take (hr.mono (by decide)) rfl T.g_w_take T.F_w_take.kp T.b_w_take .nil pass0 (pa_cons (pv 0) (pa_cons pe_int pa_nil))) (pv 1)) pa_nil)) pe_int) (fun _ _ => rfl)))
    (pss_cons (ps_set (i := 5) sc_w_quantity.nd rfl (Or.inl rfl) (pe_call G_w_take (hr.mono (by decide)) rfl T.g_w_take T.F_w_take.kp T.b_w_take .nil pass0 (pa_cons (pv 0) (pa_cons pe_int pa_nil))))
    (pss_cons (ps_set (i := 6) sc_w_quantity.nd rfl (Or.inl rfl) pe_int)
    (Evl.pss_cut (ps_if (pt_cmpR op_in_seq (pv 5) (pe_tup (pa_cons pe_int (pa_cons pe_int pa_nil))) (by rfl))
    (pss_one (ps_set (i := 6) sc_w_quantity.nd rfl (Or.inl rfl) (pv 5)))
    pss_nil)
    (Evl.pss_cut (ps_if (pt_cmpR op_gt (pv 5) pe_int (nomark _))
    (pss_one (ps_set (i := 6) sc_w_quantity.nd rfl (Or.inl rfl) (pe_call G_w_take (hr.mono (by decide)) rfl T.g_w_take T.F_w_take.kp T.b_w_take .nil pass0 (pa_cons (pv 0) (pa_cons pe_int pa_nil)))))
    pss_nil)
    (pss_cons (ps_for PassesOwn.never rfl (pi_range1 rfl T.m_range (pa_cons (pv 6) pa_nil)) (pg_name (i := 7) sc_w_quantity.nd rfl (Or.inl rfl))
    (pss_one (ps_set (i := 4) sc_w_quantity.nd rfl (Or.inl rfl) (pe_op op_addS (pv 4) (pe_ix ix_str (pv 3) (pe_call G_w_take (hr.mono (by decide)) rfl T.g_w_take T.F_w_take.kp T.b_w_take .nil pass0 (pa_cons (pv 0) (pa_cons pe_int pa_nil))) (fun _ _ => rfl))))))
    (pss_cons (ps_if (pt_cmpR op_eq (pe_ix ix_str (pv 4) (pe_un un_neg pe_int) (fun _ _ => rfl)) pe_str (nomark _))
    (pss_one (ps_set (i := 4) sc_w_quantity.nd rfl (Or.inl rfl) (pe_op op_addS (pe_slice sl_str (pv 4) po_none (po_some (pe_un un_neg pe_int))) pe_str)))
    pss_nil)
    (pss_one (ps_ret (pv 4)))))))))))), ?_⟩
    walk_at "start"
    walk_at "sts"
    refine r_addS (by decide +kernel) ?_
    walk_at "sts"
    refine r_take hp (by omega) (by omega) fun r1 H1 a1 b1 k1 p1 => ?_
    walk_at "sts"
    have := Int.emod_nonneg (r1 + sh) (show (26 : Int) ≠ 0 by decide)
    have := Int.emod_lt_of_pos (r1 + sh) (show (0 : Int) < 26 by decide)
    obtain ⟨c1, hc1, hm1⟩ := at_list (l := lettersL) (i := (r1 + sh) % 26) (by omega) (by show _ < ((26 : Nat) : Int); omega)
    refine r_ixS (by decide +kernel) hc1 ?_
    walk_at "sts"
    refine r_take p1 (by omega) (by omega) fun way H2 a2 b2 k2 p2 => ?_
    have k12 := k1.trans k2
    walk_at "sts"
    refine r_cut (fun σ' H' => ∃ (lg : Int), σ' = [some (.ref a), some (.int sh), some (.str (Str.ofString "abcdefghijklmnopqrstuvwxyz")), some (.str (Str.ofString "abcdefghijklmnopqrstuvwxyz" ++ Str.ofString "0123456789.")), some (.str (sgn1 c1)), some (.int way), some (.int lg), none] ∧ 0 ≤ lg ∧ lg < 12 ∧ Keep [a] H H' ∧ PotAt a H') ?_ ?_
    · walk_at "sts"
      intro t ht
      refine r_inT (sqT_of upd_same) rfl rfl ?_
      have p3 := p2.new (o := .tup [.int 1, .int 2]) ht
      have k3 := k12.trans (Keep.new (o := .tup [.int 1, .int 2]) ht)
      generalize upd H2 t (.tup [.int 1, .int 2]) = H3 at p3 k3 ⊢
      walk_at "sts"
      refine r_iteb (fun c => ?_) (fun c => ?_)
      · walk_at "sts"
        exact ⟨way, rfl, a2, by omega, k3, p3⟩
      · walk_at "sts"
        exact ⟨0, rfl, by decide, by decide, k3, p3⟩
    rintro σ0 H3 ⟨lg0, rfl, h00, h012, k3, p3⟩
    refine r_cut (fun σ' H' => ∃ (lg : Int), σ' = [some (.ref a), some (.int sh), some (.str (Str.ofString "abcdefghijklmnopqrstuvwxyz")), some (.str (Str.ofString "abcdefghijklmnopqrstuvwxyz" ++ Str.ofString "0123456789.")), some (.str (sgn1 c1)), some (.int way), some (.int lg), none] ∧ 0 ≤ lg ∧ lg < 12 ∧ Keep [a] H H' ∧ PotAt a H') ?_ ?_
    · walk_at "sts"
      refine r_ite (fun c2 => ?_) (fun c2 => ?_)
      · walk_at "sts"
        refine r_take p3 (by omega) (by omega) fun lg H4 a4 b4 k4 p4 => ?_
        walk_at "sts"
        exact ⟨lg, rfl, a4, b4, k3.trans k4, p4⟩
      · walk_at "sts"
        exact ⟨lg0, rfl, h00, h012, k3, p3⟩
    · clear k3 p3
      rintro σ' H3 ⟨lg, rfl, h0, h12, k3, p3⟩
      walk_at "sts"
      refine forR1_go (fun i σ' H' => ∃ (s : Str) (x : Option V), σ' = [some (.ref a), some (.int sh), some (.str (Str.ofString "abcdefghijklmnopqrstuvwxyz")), some (.str (Str.ofString "abcdefghijklmnopqrstuvwxyz" ++ Str.ofString "0123456789.")), some (.str s), some (.int way), some (.int lg), x] ∧ PQ (i + 1) s ∧ Keep [a] H H' ∧ PotAt a H') (by omega) ⟨_, _, rfl, PQ.one hm1, k3, p3⟩ ?_ ?_
      · rintro i σ' H4 hi ⟨s, x, rfl, hs, k4, p4⟩
        walk_at "sts"
        refine r_take p4 (by omega) (by omega) fun r H5 a5 b5 k5 p5 => ?_
        walk_at "sts"
        obtain ⟨c, hc, hm⟩ := at_list (l := (Str.ofString "abcdefghijklmnopqrstuvwxyz" ++ Str.ofString "0123456789.").cps.toList) (i := r) a5 (by show _ < ((37 : Nat) : Int); omega)
        refine r_ixS (by decide +kernel) hc ?_
        walk_at "sts"
        refine r_addS (le_size (by have := hs.len; have : (Str.mk #[c]).length = 1 := rfl; omega)) ?_
        walk_at "sts"
        exact ⟨_, _, rfl, hs.snoc ((by decide +kernel : ∀ c ∈ (Str.ofString "abcdefghijklmnopqrstuvwxyz" ++ Str.ofString "0123456789.").cps.toList, c ∈ signsL) c hm), k4.trans k5, p5⟩
      · rintro σ' H4 ⟨s, x, rfl, hs, k4, p4⟩
        obtain ⟨c, hc⟩ := hs.last
        have hz : s.length ≤ sizeLine := le_size (by have := hs.len; omega)
        walk_at "sts"
        refine r_ixS hz (atI_m1 hc) ?_
        walk_at "sts"
        refine r_ite (fun c2 => ?_) (fun c2 => ?_)
        · have e46 : c = 46 := by
            have := congrArg Str.cps c2
            exact (show #[c] = #[46] from this) |> fun z => by simpa using z
          subst e46
          walk_at "sts"
          refine r_slS hz ?_
          walk_at "sts"
          refine r_addS (le_size (by have h1 := (hs.fix hc).len; rw [len_app] at h1; have : (Str.ofString "x").length = (sgn1 120).length := rfl; omega)) ?_
          walk_at "sts"
          exact q _ _ ((hs.fix hc).isQ (by omega) last_snoc (by decide)) k4 p4
        · walk_at "sts"
          exact q _ _ (hs.isQ (by omega) hc (fun e => c2 (by rw [e]; rfl))) k4 p4
end
/-! ### pools, weights, pairs -/
/-- a row of names -/
def NamesAt (H : Hp) (p : Addr) (xs : List Str) : Prop := H p = some (.lst (xs.map V.str))
def spPool : Sp := fun vs H Q _ => ∃ (a : Addr) (m : Int), vs = [.ref a, .int m] ∧ PotAt a H ∧ 1 ≤ m ∧ m < 20 ∧ ∀ (p : Addr) (xs : List Str) (H' : Hp), 0 < xs.length → (xs.length : Int) ≤ m → (∀ x ∈ xs, IsQ x) → xs.Nodup → Keep [a] H H' → PotAt a H' → H p = none → NamesAt H' p xs → Q (.ref p) H'
theorem atI_nn {α : Type} {xs : List α} {i : Int} (h0 : 0 ≤ i) (h1 : i < xs.length) : ∃ c, atI xs i = some c ∧ c ∈ xs := by
  obtain ⟨n, rfl⟩ : ∃ n : Nat, i = n := ⟨i.toNat, by omega⟩
  have h2 : n < xs.length := by omega
  exact ⟨xs[n], atI_nat (List.getElem?_eq_getElem h2), List.getElem_mem h2⟩
theorem atI_strs {xs : List Str} {i : Int} (h0 : 0 ≤ i) (h1 : i < xs.length) : ∃ x, atI (xs.map V.str) i = some (.str x) ∧ x ∈ xs := by
  obtain ⟨c, hc, hm⟩ := atI_nn (xs := xs.map V.str) h0 (by rw [List.length_map]; exact h1)
  obtain ⟨x, hx, rfl⟩ := List.mem_map.mp hm
  exact ⟨x, hc, hx⟩
/-- what stands at addresses -/
def PairsAt (H : Hp) : List Addr → List Fm.Tm → Prop
  | [], [] => True
  | a :: as, p :: ts => H a = some (.tup [.str p.1, .int p.2]) ∧ PairsAt H as ts
  | _, _ => False
theorem PairsAt.len {H : Hp} : ∀ {as : List Addr} {ts : List Fm.Tm}, PairsAt H as ts → as.length = ts.length
  | [], [], _ => rfl
  | _ :: _, _ :: _, h => congrArg Nat.succ (PairsAt.len h.2)
  | [], _ :: _, h => h.elim
  | _ :: _, [], h => h.elim
theorem PairsAt.get {H : Hp} : ∀ {as : List Addr} {ts : List Fm.Tm} {i : Nat} {a : Addr}, PairsAt H as ts → as[i]? = some a → ∃ p, ts[i]? = some p ∧ H a = some (.tup [.str p.1, .int p.2])
  | [], _, _, _, _, e => by simp at e
  | _ :: _, [], _, _, h, _ => h.elim
  | b :: as, p :: ts, 0, a, h, e => by
    have : b = a := by simpa using e
    subst this; exact ⟨p, rfl, h.1⟩
  | b :: as, p :: ts, i + 1, a, h, e => by
    obtain ⟨q, h1, h2⟩ := PairsAt.get (i := i) h.2 (by simpa using e)
    exact ⟨q, by simpa using h1, h2⟩
theorem PairsAt.mono {H H' : Hp} : ∀ {as : List Addr} {ts : List Fm.Tm}, PairsAt H as ts → (∀ a p, a ∈ as → p ∈ ts → H a = some (.tup [.str p.1, .int p.2]) → H' a = some (.tup [.str p.1, .int p.2])) → PairsAt H' as ts
  | [], [], _, _ => trivial
  | a :: as, p :: ts, h, k => ⟨k a p (by simp) (by simp) h.1, h.2.mono fun b q hb hq => k b q (by simp [hb]) (by simp [hq])⟩
  | [], _ :: _, h, _ => h.elim
  | _ :: _, [], h, _ => h.elim
theorem PairsAt.app {H : Hp} : ∀ {as bs : List Addr} {ts us : List Fm.Tm}, PairsAt H as ts → PairsAt H bs us → PairsAt H (as ++ bs) (ts ++ us)
  | [], _, [], _, _, k => k
  | _ :: _, _, _ :: _, _, h, k => ⟨h.1, h.2.app k⟩
  | [], _, _ :: _, _, h, _ => h.elim
  | _ :: _, _, [], _, h, _ => h.elim
/-- kept where the changed addresses are no tuples -/
theorem PairsAt.keep {M : List Addr} {H H' : Hp} {as : List Addr} {ts : List Fm.Tm} (h : PairsAt H as ts) (k : Keep M H H') (n : ∀ m ∈ M, ∃ xs, H m = some (.lst xs)) : PairsAt H' as ts := by
  refine h.mono fun a p _ _ e => k a _ (fun hm => ?_) e
  obtain ⟨xs, hx⟩ := n a hm
  rw [hx] at e; cases e
theorem PairsAt.keep0 {H H' : Hp} {as : List Addr} {ts : List Fm.Tm} (h : PairsAt H as ts) (k : Keep [] H H') : PairsAt H' as ts := h.keep k (by simp)
/-- a row of pairs -/
def RowAt (H : Hp) (p : Addr) (ts : List Fm.Tm) : Prop := ∃ as : List Addr, H p = some (.lst (as.map V.ref)) ∧ PairsAt H as ts
/-- a tuple of pairs -/
def TupAt (H : Hp) (p : Addr) (ts : List Fm.Tm) : Prop := ∃ as : List Addr, H p = some (.tup (as.map V.ref)) ∧ PairsAt H as ts
theorem PotAt.lst {a : Addr} {H : Hp} (h : PotAt a H) : ∀ m ∈ [a], ∃ xs, H m = some (.lst xs) := fun m hm => by
  obtain ⟨P, hP, _⟩ := h
  rw [List.mem_singleton.mp hm]; exact ⟨P, hP⟩
theorem notpot_strs {xs : List Str} : ¬ Pot (xs.map V.str) := by
  rintro ⟨pos, car, cnt, mix, sc, e, _⟩
  cases xs with
  | nil => simp at e
  | cons x xs => simp at e
theorem notpot_refs {xs : List Addr} : ¬ Pot (xs.map V.ref) := by
  rintro ⟨pos, car, cnt, mix, sc, e, _⟩
  cases xs with
  | nil => simp at e
  | cons x xs => simp at e
def spPairs : Sp := fun vs H Q _ => ∃ (a p : Addr) (xs : List Str), vs = [.ref a, .ref p] ∧ PotAt a H ∧ NamesAt H p xs ∧ 0 < xs.length ∧ xs.length < 20 ∧ ∀ (q : Addr) (ts : List Fm.Tm) (H' : Hp), ts.length ≤ 5 → (∀ t ∈ ts, t.1 ∈ xs ∧ t.2.natAbs < 2 ^ 100) → Keep [a] H H' → PotAt a H' → H q = none → RowAt H' q ts → Q (.ref q) H'
/-- a level: a ratio -/
def spLevel : Sp := fun vs H Q _ => ∃ a : Addr, vs = [.ref a] ∧ PotAt a H ∧ ∀ (p : Addr) (t b : Int) (H' : Hp), 0 < b → t.natAbs < 2 ^ 100 → b.natAbs < 2 ^ 100 → Keep [a] H H' → PotAt a H' → H p = none → H' p = some (.tup [.int t, .int b]) → Q (.ref p) H'
section
variable {P : Program} {w : World} {K : PySem.W.Frag} {mg : Str → Option Value} {base : Heap}
theorem ok_pool (T : Tx K mg) (G_w_take : GTake P w K mg base T) (G_w_quantity : FnOk P w K mg base CX0 2 T.f_w_quantity T.fd_w_quantity ["_law_pot_here", "_law_shift"] spName) :
    FnOk P w K mg base CX0 3 T.f_w_pool T.fd_w_pool ["_law_pot_here", "_law_most"] spPool := by
  refine T.F_w_pool.ok sc_w_pool (fun vs H Q E h => ?_) (fun cdv A outer s H vs Q E hr h => ?_)
  · obtain ⟨a, m, rfl, _⟩ := h; rfl
  · obtain ⟨a, m, rfl, hp, h1, h20, q⟩ := h
    refine ⟨_, (pss_cons (ps_set (i := 2) sc_w_pool.nd rfl (Or.inl rfl) (pe_lst (pa_cons (pe_call G_w_quantity (hr.mono (by decide)) rfl T.g_w_quantity T.F_w_quantity.kp T.b_w_quantity .nil pass0 (pa_cons (pv 0) (pa_cons pe_int pa_nil))) pa_nil)))
    (pss_cons (ps_for PassesOwn.never rfl (pi_range2 rfl T.m_range (pa_cons pe_int (pa_cons (pv 1) pa_nil))) (pg_name (i := 3) sc_w_pool.nd rfl (Or.inl rfl))
    (pss_cons (ps_set (i := 4) sc_w_pool.nd rfl (Or.inl rfl) (pe_call G_w_quantity (hr.mono (by decide)) rfl T.g_w_quantity T.F_w_quantity.kp T.b_w_quantity .nil pass0 (pa_cons (pv 0) (pa_cons (pv 3) pa_nil))))
    (Evl.pss_cut (ps_if (pt_cmpR op_eq (pe_call G_w_take (hr.mono (by decide)) rfl T.g_w_take T.F_w_take.kp T.b_w_take .nil pass0 (pa_cons (pv 0) (pa_cons pe_int pa_nil))) pe_int (nomark _))
    (pss_one (ps_set (i := 4) sc_w_pool.nd rfl (Or.inl rfl) (pe_op op_addS (pe_slice sl_str (pe_ix ix_list (pv 2) (pe_un un_neg pe_int) (fun _ _ => rfl)) po_none (po_some pe_int)) (pe_ix ix_str pe_str (pe_call G_w_take (hr.mono (by decide)) rfl T.g_w_take T.F_w_take.kp T.b_w_take .nil pass0 (pa_cons (pv 0) (pa_cons pe_int pa_nil))) (fun _ _ => rfl)))))
    pss_nil)
    (pss_one (ps_if (pt_cmpR op_notIn_seq (pv 4) (pv 2) (by rfl))
    (pss_one (ps_expr (pe_bm PySem.F.plainAttrs_list PySem.F.slot_list_append PySem.F.type_list_append mt_append (pv 2) (pa_cons (pv 4) pa_nil))))
    pss_nil)))))
    (pss_one (ps_ret (pv 2))))), ?_⟩
    walk_at "start"
    walk_at "sts"
    refine r_name hp (by omega) fun s0 H1 i1 k1 p1 => ?_
    walk_at "sts"
    intro p hpn
    have np := p1.ne hpn
    have e2 : NamesAt (upd H1 p (.lst [.str s0])) p [s0] := upd_same
    have p2 := p1.new (o := .lst [.str s0]) hpn
    have k2 := k1.trans (Keep.new (o := .lst [.str s0]) hpn)
    have nH : H p = none := (k1).free (by simpa using np) hpn
    generalize upd H1 p (.lst [.str s0]) = H2 at e2 p2 k2 ⊢
    walk_at "sts"
    refine forR2_go (fun i σ' H' => ∃ (xs : List Str) (x1 x2 : Option V), σ' = [some (.ref a), some (.int m), some (.ref p), x1, x2] ∧ NamesAt H' p xs ∧ PotAt a H' ∧ Keep [a] H H' ∧ 0 < xs.length ∧ (xs.length : Int) ≤ 1 + i ∧ (∀ x ∈ xs, IsQ x) ∧ xs.Nodup) (by omega) ⟨_, _, _, rfl, e2, p2, k2, by simp, by simp, by simpa using i1, by simp⟩ ?_ ?_
    · rintro i σ' H3 hi ⟨xs, x1, x2, rfl, e3, p3, k3, l0, l1, hq, hd⟩
      walk_at "sts"
      refine r_name p3 (by omega) fun s1 H4 i4 k4 p4 => ?_
      have e4 : NamesAt H4 p xs := k4 _ _ (by simpa using np) e3
      refine r_cut (fun σ' H' => ∃ (s : Str), σ' = [some (.ref a), some (.int m), some (.ref p), some (.int (1 + i)), some (.str s)] ∧ NamesAt H' p xs ∧ PotAt a H' ∧ Keep [a] H H' ∧ IsQ s) ?_ ?_
      · walk_at "sts"
        refine r_take p4 (by omega) (by omega) fun r5 H5 a5 b5 k5 p5 => ?_
        have e5 : NamesAt H5 p xs := k5 _ _ (by simpa using np) e4
        have k35 := k3.trans (k4.trans k5)
        walk_at "sts"
        refine r_ite (fun c => ?_) (fun c => ?_)
        · walk_at "sts"
          obtain ⟨x, hx⟩ : ∃ x, xs.getLast? = some x := ⟨_, List.getLast?_eq_some_getLast (List.length_pos_iff.mp l0)⟩
          have qx := hq x (List.mem_of_getLast? hx)
          refine r_ixL (sqL_of e5) (atI_m1 (c := V.str x) (by rw [List.getLast?_map, hx]; rfl)) ?_
          walk_at "sts"
          refine r_slS (le_size (by have := qx.len; omega)) ?_
          walk_at "sts"
          refine r_take p5 (by omega) (by omega) fun r6 H6 a6 b6 k6 p6 => ?_
          walk_at "sts"
          obtain ⟨c1, hc1, hm1⟩ := at_list (l := (Str.ofString "0ax9").cps.toList) (i := r6) a6 (by show _ < ((4 : Nat) : Int); omega)
          refine r_ixS (by decide +kernel) hc1 ?_
          have nx := qx.next ((by decide +kernel : ∀ c ∈ (Str.ofString "0ax9").cps.toList, c ∈ signsL) c1 hm1) ((by decide +kernel : ∀ c ∈ (Str.ofString "0ax9").cps.toList, c ≠ 46) c1 hm1)
          refine r_addS (le_size (by have h := nx.len; rw [len_app] at h; have : (sgn1 c1).length = (Str.mk #[c1]).length := rfl; omega)) ?_
          walk_at "sts"
          exact ⟨_, rfl, k6 _ _ (by simpa using np) e5, p6, k35.trans k6, nx⟩
        · walk_at "sts"
          exact ⟨_, rfl, e5, p5, k35, i4⟩
      · rintro σ' H5 ⟨s, rfl, e5, p5, k5, qs⟩
        walk_at "sts"
        refine r_ninL (sqL_of e5) rfl (flat_strs xs) ?_
        rw [inV_str]
        walk_at "sts"
        refine r_iteN (fun c => ?_) (fun c => ?_)
        · walk_at "sts"
          have e6 : NamesAt (upd H5 p (.lst (xs.map V.str ++ [.str s]))) p (xs ++ [s]) := by unfold NamesAt; rw [upd_same, List.map_append]; rfl
          refine ⟨xs ++ [s], _, _, rfl, e6, p5.put np, k5.mut nH, by simp, by simp; omega, fun x hx => ?_, ?_⟩
          · rcases List.mem_append.mp hx with hx | hx
            · exact hq x hx
            · rw [List.mem_singleton.mp hx]; exact qs
          · exact List.nodup_append.mpr ⟨hd, by simp, fun x hx y hy e => c (by rw [← List.mem_singleton.mp hy, ← e]; exact hx)⟩
        · walk_at "sts"
          exact ⟨xs, _, _, rfl, e5, p5, k5, l0, by omega, hq, hd⟩
    · rintro σ' H3 ⟨xs, x1, x2, rfl, e3, p3, k3, l0, l1, hq, hd⟩
      walk_at "sts"
      exact q p xs H3 l0 (by omega) hq hd k3 p3 nH e3
end
/-! ### the terms of a form made -/
def spAdded (K : PySem.W.Frag) : Sp := fun vs H Q _ => ∃ (p : Addr) (ts : List Fm.Tm), vs = [.ref p] ∧ (RowAt H p ts ∨ TupAt H p ts) ∧ ts.length ≤ 60 ∧ (∀ t ∈ ts, IsQ t.1) ∧ ∀ (q : Addr) (H' : Hp), Keep [] H H' → H q = none → TupAt H' q (Fm.can ts) → Q (.ref q) H'
theorem keys_kOf {ks : List Fm.Tm} : ((Fm.kOf ks).map fun kv => kV kv.1) = (ks.map (·.1)).map V.str := by unfold Fm.kOf; rw [List.map_map, List.map_map]; rfl
theorem take_snoc {α : Type} {xs : List α} {i : Nat} {x : α} (h : xs[i]? = some x) : xs.take (i + 1) = xs.take i ++ [x] := by rw [List.take_add_one, h]; rfl
theorem getRef {as : List Addr} {i : Nat} {x : V} (h : (as.map V.ref)[i]? = some x) : ∃ a, as[i]? = some a ∧ x = .ref a := by
  rw [List.getElem?_map] at h
  obtain ⟨a, ha, rfl⟩ := Option.map_eq_some_iff.mp h
  exact ⟨a, ha, rfl⟩
theorem getStr {xs : List Str} {i : Nat} {x : V} (h : (xs.map V.str)[i]? = some x) : ∃ s, xs[i]? = some s ∧ x = .str s := by
  rw [List.getElem?_map] at h
  obtain ⟨a, ha, rfl⟩ := Option.map_eq_some_iff.mp h
  exact ⟨a, ha, rfl⟩
section
variable {P : Program} {w : World} {K : PySem.W.Frag} {mg : Str → Option Value} {base : Heap}
theorem ok_added (T : Tx K mg) (G_is_quantity : FnOk P w K mg base CX0 1 T.f_is_quantity T.fd_is_quantity ["text"] spIsQ) : FnOk P w K mg base CX0 2 T.f_added_terms T.fd_added_terms ["terms"] (spAdded K) := by
  refine T.F_added_terms.ok sc_added_terms (fun vs H Q E h => ?_) (fun cdv A outer s H vs Q E hr h => ?_)
  · obtain ⟨a, ts, rfl, _⟩ := h; rfl
  · obtain ⟨p, ts, rfl, hp, hl, hq, q⟩ := h
    have hval : ∀ {ks us : List Fm.Tm} (S : Fm.Sums ks us) (nm : Str), (valV (Fm.kOf ks) (Sum.inr nm)).getD (V.int 0) = V.int (Fm.wt us nm) := fun {ks us} S nm => by
      rw [Fm.val_kOf, S.find]
      split
      · rfl
      · next e => rw [Fm.wt_none (fun p hp z => e (by rw [← z]; exact List.mem_map_of_mem hp))]; rfl
    rcases hp with ⟨as, ep, hp⟩ | ⟨as, ep, hp⟩
    · refine ⟨_, (pss_cons (ps_set (i := 1) sc_added_terms.nd rfl (Or.inr rfl) pe_dnewK)
    (pss_cons (ps_for PassesOwn.never rfl (pi_list (pv 0)) (pg_tup (n := 2) rfl (pgs_cons (pg_name (i := 2) sc_added_terms.nd rfl (Or.inl rfl)) (pgs_cons (pg_name (i := 3) sc_added_terms.nd rfl (Or.inl rfl)) pgs_nil)))
    (pss_cons (ps_if (pt_not (pt_val (pe_call G_is_quantity (hr.mono (by decide)) rfl T.g_is_quantity T.F_is_quantity.kp T.b_is_quantity .nil pass0 (pa_cons (pv 2) pa_nil))))
    (pss_one ps_never)
    pss_nil)
    (pss_one (ps_dput (hu_of hr) (pv 1) (pv 2) (pe_op op_add (pe_dget2 (hu_of hr) (pv 1) (pv 2) pe_int ⟨rfl, rfl, rfl, rfl⟩) (pv 3)) rfl))))
    (pss_one (ps_ret (pe_callTy call_tuple_of (by rfl) T.m_tuple (by decide +kernel) (pa_cons (pe_lc (own := [("name", 2)]) (g := gName 2)  rfl sc_added_terms.nd (pi_list (pe_callB cr_sortedS (by rfl) T.m_sorted (by decide +kernel) (pa_cons (pe_callTy (call_list_dK rfl) (by rfl) T.m_list (by decide +kernel) (pa_cons (pv 1) pa_nil)) pa_nil))) (blkOk_by (own := [("name", 2)]) (N := ["terms", "sums", "name", "weight"]) (sc := defScope s_added_terms) (by decide +kernel)) (fun _ _ _ _ _ => pg_name (i := 2) sc_added_terms.nd rfl (Or.inl rfl)) (fun _ _ _ _ _ => pts_one (pt_cmpR op_ne (pe_dget (hu_of hr) (pv 1) (pv 2) (fun _ _ => rfl)) pe_int (nomark _))) (fun _ _ _ _ _ => (pe_tup (pa_cons (pv 2) (pa_cons (pe_dget (hu_of hr) (pv 1) (pv 2) (fun _ _ => rfl)) pa_nil))))) pa_nil)))))), ?_⟩
      walk_at "start"
      walk_at "sts"
      intro d hd
      have k1 : Keep [] H (upd H d (.dK [])) := Keep.new hd
      have e1 : upd H d (.dK []) d = some (.dK (Fm.kOf [])) := upd_same
      generalize upd H d (.dK []) = H1 at k1 e1 ⊢
      walk_at "sts"
      refine forL_go (fun i σ' H' => ∃ (ks : List Fm.Tm) (x1 x2 : Option V), σ' = [some (.ref p), some (.ref d), x1, x2] ∧ H' d = some (.dK (Fm.kOf ks)) ∧ Fm.Sums ks (ts.take i) ∧ Keep [] H H') (sqL_of (k1 _ _ (by simp) ep)) ⟨[], _, _, rfl, e1, by simpa using Fm.Sums.nil, k1⟩ (fun i σ' H' _ h => by obtain ⟨_, _, _, _, _, _, k⟩ := h; exact sqL_of (k _ _ (by simp) ep)) ?_ ?_
      · rintro i x σ' H2 hx ⟨ks, x1, x2, rfl, e2, S, k2⟩
        obtain ⟨a, ha, rfl⟩ := getRef hx
        obtain ⟨t, ht, et⟩ := hp.get ha
        have et2 := k2 _ _ (by simp) et
        walk_at "sts"
        refine r_isQ (hq t (List.mem_of_getElem? ht)) fun H3 k3 => ?_
        have e3 := k3 _ _ (by simp) e2
        have k13 := k2.trans k3
        walk_at "sts"
        rw [hval S]
        walk_at "sts"
        refine r_dputS e3 (lt_size (by unfold Fm.kOf; rw [List.length_map]; have := S.len; rw [List.length_take] at this; omega)) ?_
        rw [Fm.put_kOf]
        exact ⟨_, _, _, rfl, upd_same, by rw [take_snoc ht]; exact S.put t, k13.mut hd⟩
      · rintro σ' H2 ⟨ks, x1, x2, rfl, e2, S, k2⟩
        rw [List.length_map, hp.len, List.take_length] at S
        walk_at "sts"
        refine r_listD e2 fun l hl2 => ?_
        rw [keys_kOf]
        have k3 : Keep [] H2 (upd H2 l (.lst ((ks.map (·.1)).map V.str))) := Keep.new hl2
        have e3 : upd H2 l (.lst ((ks.map (·.1)).map V.str)) l = some (.lst ((ks.map (·.1)).map V.str)) := upd_same
        generalize upd H2 l (.lst ((ks.map (·.1)).map V.str)) = H3 at k3 e3 ⊢
        walk_at "sts"
        refine r_sortS (sqL_of e3) (by rw [List.length_map]; have := S.len; omega) fun ys l2 pm st hl3 => ?_
        have k4 : Keep [] H3 (upd H3 l2 (.lst (ys.map V.str))) := Keep.new hl3
        have e4 : upd H3 l2 (.lst (ys.map V.str)) l2 = some (.lst (ys.map V.str)) := upd_same
        generalize upd H3 l2 (.lst (ys.map V.str)) = H4 at k4 e4 ⊢
        have k24 := k3.trans k4
        have kH4 := k2.trans k24
        have ed := k24 _ _ (by simp) e2
        have nd : ys.Nodup := pm.nodup_iff.mpr S.nd
        have asc := Fm.asc_of_sorted st nd
        have mem : ∀ x, x ∈ ys ↔ x ∈ ts.map (·.1) := fun x => (pm.mem_iff).trans (S.iff x)
        have ly : ys.length ≤ 60 := by have := pm.length_eq; rw [List.length_map] at this; have := S.len; omega
        refine lcL_go (fun D i acc H' => ∃ bs : List Addr, acc = bs.map V.ref ∧ PairsAt H' bs (Fm.rowOf (ys.take i) (Fm.wt ts)) ∧ Keep [] H4 H' ∧ H4 D = none) (sqL_of e4) (fun D hD => ⟨[], rfl, by simp [Fm.rowOf, PairsAt], Keep.new hD, hD⟩) (fun D i acc H' _ h => by obtain ⟨_, _, _, k, _⟩ := h; exact sqL_of (k _ _ (by simp) e4)) ?_ ?_
        · rintro D i x acc H5 hx hD ⟨bs, rfl, hb, k5, nD⟩
          obtain ⟨nm, hnm, rfl⟩ := getStr hx
          have ed5 := k5 _ _ (by simp) ed
          have hv : valV (Fm.kOf ks) (Sum.inr nm) = some (V.int (Fm.wt ts nm)) := by
            rw [Fm.val_kOf, S.find, if_pos ((mem nm).mp (List.mem_of_getElem? hnm))]
          have hlen := hb.len
          have hb60 : bs.length < 100000 := by
            have := List.length_filter_le (fun p : Fm.Tm => decide (p.2 ≠ 0)) ((ys.take i).map fun x => (x, Fm.wt ts x))
            unfold Fm.rowOf at hlen
            rw [List.length_map, List.length_take] at this
            omega
          walk_at "sts"
          refine r_dgetS ed5 hv ?_
          walk_at "sts"
          refine r_iteN (fun c => ?_) (fun c => ?_)
          · walk_at "sts"
            refine r_dgetS ed5 hv ?_
            walk_at "sts"
            intro t ht
            have k6 : Keep [] H5 (upd H5 t (.tup [.str nm, .int (Fm.wt ts nm)])) := Keep.new ht
            have e6 : upd H5 t (.tup [.str nm, .int (Fm.wt ts nm)]) t = some (.tup [.str nm, .int (Fm.wt ts nm)]) := upd_same
            generalize upd H5 t (.tup [.str nm, .int (Fm.wt ts nm)]) = H6 at k6 e6 ⊢
            have hD6 := k6 _ _ (by simp) hD
            refine lc_put hD6 (by rw [List.length_map]; exact lt_size hb60) ⟨bs ++ [t], by rw [List.map_append]; rfl, ?_, (k5.trans k6).mut nD, nD⟩
            rw [take_snoc hnm, Fm.rowOf_snoc, if_pos c]
            exact ((hb.keep0 k6).app (bs := [t]) (us := [(nm, Fm.wt ts nm)]) ⟨e6, trivial⟩).keep (Keep.at (M := [D]) (by simp)) (fun m hm => by rw [List.mem_singleton.mp hm]; exact ⟨_, hD6⟩)
          · walk_at "sts"
            exact ⟨_, hD, bs, rfl, by rw [take_snoc hnm, Fm.rowOf_snoc, if_neg (by simpa using c)]; exact hb, k5, nD⟩
        · rintro D acc H5 nD hD ⟨bs, rfl, hb, k5, _⟩
          rw [List.length_map, List.take_length, Fm.rowOf_can asc nd fun t ht => (mem _).mpr (List.mem_map_of_mem ht)] at hb
          walk_at "sts"
          refine r_tupL (sqL_of hD) fun u hu => ?_
          have kH5 := kH4.trans k5
          exact q u _ (kH5.trans (Keep.new hu)) (kH5.free (by simp) hu) ⟨bs, upd_same, hb.keep0 (Keep.new hu)⟩
    · refine ⟨_, (pss_cons (ps_set (i := 1) sc_added_terms.nd rfl (Or.inr rfl) pe_dnewK)
    (pss_cons (ps_for PassesOwn.never rfl (pi_tup (pv 0)) (pg_tup (n := 2) rfl (pgs_cons (pg_name (i := 2) sc_added_terms.nd rfl (Or.inl rfl)) (pgs_cons (pg_name (i := 3) sc_added_terms.nd rfl (Or.inl rfl)) pgs_nil)))
    (pss_cons (ps_if (pt_not (pt_val (pe_call G_is_quantity (hr.mono (by decide)) rfl T.g_is_quantity T.F_is_quantity.kp T.b_is_quantity .nil pass0 (pa_cons (pv 2) pa_nil))))
    (pss_one ps_never)
    pss_nil)
    (pss_one (ps_dput (hu_of hr) (pv 1) (pv 2) (pe_op op_add (pe_dget2 (hu_of hr) (pv 1) (pv 2) pe_int ⟨rfl, rfl, rfl, rfl⟩) (pv 3)) rfl))))
    (pss_one (ps_ret (pe_callTy call_tuple_of (by rfl) T.m_tuple (by decide +kernel) (pa_cons (pe_lc (own := [("name", 2)]) (g := gName 2)  rfl sc_added_terms.nd (pi_list (pe_callB cr_sortedS (by rfl) T.m_sorted (by decide +kernel) (pa_cons (pe_callTy (call_list_dK rfl) (by rfl) T.m_list (by decide +kernel) (pa_cons (pv 1) pa_nil)) pa_nil))) (blkOk_by (own := [("name", 2)]) (N := ["terms", "sums", "name", "weight"]) (sc := defScope s_added_terms) (by decide +kernel)) (fun _ _ _ _ _ => pg_name (i := 2) sc_added_terms.nd rfl (Or.inl rfl)) (fun _ _ _ _ _ => pts_one (pt_cmpR op_ne (pe_dget (hu_of hr) (pv 1) (pv 2) (fun _ _ => rfl)) pe_int (nomark _))) (fun _ _ _ _ _ => (pe_tup (pa_cons (pv 2) (pa_cons (pe_dget (hu_of hr) (pv 1) (pv 2) (fun _ _ => rfl)) pa_nil))))) pa_nil)))))), ?_⟩
      walk_at "start"
      walk_at "sts"
      intro d hd
      have k1 : Keep [] H (upd H d (.dK [])) := Keep.new hd
      have e1 : upd H d (.dK []) d = some (.dK (Fm.kOf [])) := upd_same
      generalize upd H d (.dK []) = H1 at k1 e1 ⊢
      walk_at "sts"
      refine forT_go (fun i σ' H' => ∃ (ks : List Fm.Tm) (x1 x2 : Option V), σ' = [some (.ref p), some (.ref d), x1, x2] ∧ H' d = some (.dK (Fm.kOf ks)) ∧ Fm.Sums ks (ts.take i) ∧ Keep [] H H') (sqT_of (k1 _ _ (by simp) ep)) ⟨[], _, _, rfl, e1, by simpa using Fm.Sums.nil, k1⟩ (fun i σ' H' _ h => by obtain ⟨_, _, _, _, _, _, k⟩ := h; exact sqT_of (k _ _ (by simp) ep)) ?_ ?_
      · rintro i x σ' H2 hx ⟨ks, x1, x2, rfl, e2, S, k2⟩
        obtain ⟨a, ha, rfl⟩ := getRef hx
        obtain ⟨t, ht, et⟩ := hp.get ha
        have et2 := k2 _ _ (by simp) et
        walk_at "sts"
        refine r_isQ (hq t (List.mem_of_getElem? ht)) fun H3 k3 => ?_
        have e3 := k3 _ _ (by simp) e2
        have k13 := k2.trans k3
        walk_at "sts"
        rw [hval S]
        walk_at "sts"
        refine r_dputS e3 (lt_size (by unfold Fm.kOf; rw [List.length_map]; have := S.len; rw [List.length_take] at this; omega)) ?_
        rw [Fm.put_kOf]
        exact ⟨_, _, _, rfl, upd_same, by rw [take_snoc ht]; exact S.put t, k13.mut hd⟩
      · rintro σ' H2 ⟨ks, x1, x2, rfl, e2, S, k2⟩
        rw [List.length_map, hp.len, List.take_length] at S
        walk_at "sts"
        refine r_listD e2 fun l hl2 => ?_
        rw [keys_kOf]
        have k3 : Keep [] H2 (upd H2 l (.lst ((ks.map (·.1)).map V.str))) := Keep.new hl2
        have e3 : upd H2 l (.lst ((ks.map (·.1)).map V.str)) l = some (.lst ((ks.map (·.1)).map V.str)) := upd_same
        generalize upd H2 l (.lst ((ks.map (·.1)).map V.str)) = H3 at k3 e3 ⊢
        walk_at "sts"
        refine r_sortS (sqL_of e3) (by rw [List.length_map]; have := S.len; omega) fun ys l2 pm st hl3 => ?_
        have k4 : Keep [] H3 (upd H3 l2 (.lst (ys.map V.str))) := Keep.new hl3
        have e4 : upd H3 l2 (.lst (ys.map V.str)) l2 = some (.lst (ys.map V.str)) := upd_same
        generalize upd H3 l2 (.lst (ys.map V.str)) = H4 at k4 e4 ⊢
        have k24 := k3.trans k4
        have kH4 := k2.trans k24
        have ed := k24 _ _ (by simp) e2
        have nd : ys.Nodup := pm.nodup_iff.mpr S.nd
        have asc := Fm.asc_of_sorted st nd
        have mem : ∀ x, x ∈ ys ↔ x ∈ ts.map (·.1) := fun x => (pm.mem_iff).trans (S.iff x)
        have ly : ys.length ≤ 60 := by have := pm.length_eq; rw [List.length_map] at this; have := S.len; omega
        refine lcL_go (fun D i acc H' => ∃ bs : List Addr, acc = bs.map V.ref ∧ PairsAt H' bs (Fm.rowOf (ys.take i) (Fm.wt ts)) ∧ Keep [] H4 H' ∧ H4 D = none) (sqL_of e4) (fun D hD => ⟨[], rfl, by simp [Fm.rowOf, PairsAt], Keep.new hD, hD⟩) (fun D i acc H' _ h => by obtain ⟨_, _, _, k, _⟩ := h; exact sqL_of (k _ _ (by simp) e4)) ?_ ?_
        · rintro D i x acc H5 hx hD ⟨bs, rfl, hb, k5, nD⟩
          obtain ⟨nm, hnm, rfl⟩ := getStr hx
          have ed5 := k5 _ _ (by simp) ed
          have hv : valV (Fm.kOf ks) (Sum.inr nm) = some (V.int (Fm.wt ts nm)) := by
            rw [Fm.val_kOf, S.find, if_pos ((mem nm).mp (List.mem_of_getElem? hnm))]
          have hlen := hb.len
          have hb60 : bs.length < 100000 := by
            have := List.length_filter_le (fun p : Fm.Tm => decide (p.2 ≠ 0)) ((ys.take i).map fun x => (x, Fm.wt ts x))
            unfold Fm.rowOf at hlen
            rw [List.length_map, List.length_take] at this
            omega
          walk_at "sts"
          refine r_dgetS ed5 hv ?_
          walk_at "sts"
          refine r_iteN (fun c => ?_) (fun c => ?_)
          · walk_at "sts"
            refine r_dgetS ed5 hv ?_
            walk_at "sts"
            intro t ht
            have k6 : Keep [] H5 (upd H5 t (.tup [.str nm, .int (Fm.wt ts nm)])) := Keep.new ht
            have e6 : upd H5 t (.tup [.str nm, .int (Fm.wt ts nm)]) t = some (.tup [.str nm, .int (Fm.wt ts nm)]) := upd_same
            generalize upd H5 t (.tup [.str nm, .int (Fm.wt ts nm)]) = H6 at k6 e6 ⊢
            have hD6 := k6 _ _ (by simp) hD
            refine lc_put hD6 (by rw [List.length_map]; exact lt_size hb60) ⟨bs ++ [t], by rw [List.map_append]; rfl, ?_, (k5.trans k6).mut nD, nD⟩
            rw [take_snoc hnm, Fm.rowOf_snoc, if_pos c]
            exact ((hb.keep0 k6).app (bs := [t]) (us := [(nm, Fm.wt ts nm)]) ⟨e6, trivial⟩).keep (Keep.at (M := [D]) (by simp)) (fun m hm => by rw [List.mem_singleton.mp hm]; exact ⟨_, hD6⟩)
          · walk_at "sts"
            exact ⟨_, hD, bs, rfl, by rw [take_snoc hnm, Fm.rowOf_snoc, if_neg (by simpa using c)]; exact hb, k5, nD⟩
        · rintro D acc H5 nD hD ⟨bs, rfl, hb, k5, _⟩
          rw [List.length_map, List.take_length, Fm.rowOf_can asc nd fun t ht => (mem _).mpr (List.mem_map_of_mem ht)] at hb
          walk_at "sts"
          refine r_tupL (sqL_of hD) fun u hu => ?_
          have kH5 := kH4.trans k5
          exact q u _ (kH5.trans (Keep.new hu)) (kH5.free (by simp) hu) ⟨bs, upd_same, hb.keep0 (Keep.new hu)⟩
end
/-! ### levels needed -/
def spNeed : Sp := fun vs H Q _ => ∃ (p d : Addr) (xs : List Str) (kvs : List (Key × V)), vs = [.ref p, .ref d] ∧ H p = some (.tup (xs.map V.str)) ∧ H d = some (.dK kvs) ∧ (∀ x ∈ xs, (valV kvs (Sum.inr x)).isSome = true) ∧ Q .non H
section
variable {P : Program} {w : World} {K : PySem.W.Frag} {mg : Str → Option Value} {base : Heap}
theorem ok_need (T : Tx K mg) : FnOk P w K mg base CX0 1 T.f_need_levels T.fd_need_levels ["names", "world"] spNeed := by
  refine T.F_need_levels.ok sc_need_levels (fun vs H Q E h => ?_) (fun cdv A outer s H vs Q E hr h => ?_)
  · obtain ⟨a, d, xs, kvs, rfl, _⟩ := h; rfl
  · obtain ⟨p, d, xs, kvs, rfl, hp, hd, hx, q⟩ := h
    refine ⟨_, (pss_one (ps_for PassesOwn.never rfl (pi_tup (pv 0)) (pg_name (i := 2) sc_need_levels.nd rfl (Or.inl rfl))
    (pss_one (ps_if (pt_cmp (pc_dnotin (hu_of hr) (pv 2) (pv 1)))
    (pss_one ps_never)
    pss_nil)))), ?_⟩
    walk_at "start"
    walk_at "sts"
    refine forT_go (fun i σ' H' => ∃ (x1 : Option V), σ' = [some (.ref p), some (.ref d), x1] ∧ H' = H) (sqT_of hp) ⟨_, rfl, rfl⟩ (fun i σ' H' _ h => by obtain ⟨_, _, rfl⟩ := h; exact sqT_of hp) ?_ ?_
    · rintro i v σ' H' hv ⟨x1, rfl, rfl⟩
      obtain ⟨nm, hnm, rfl⟩ := getStr hv
      walk_at "sts"
      refine r_dinS hd ?_
      rw [hx nm (List.mem_of_getElem? hnm)]
      walk_at "sts"
      exact ⟨_, rfl, rfl⟩
    · rintro σ' H' ⟨x1, rfl, rfl⟩
      walk_at "sts"
      exact q
end
theorem put2 {v w : V} : putF (Str.ofString "constant") v [((Str.ofString "terms"), w)] = [((Str.ofString "terms"), w), ((Str.ofString "constant"), v)] := by
  unfold putF
  rw [if_neg (show ¬ (Str.ofString "terms") = (Str.ofString "constant") by decide +kernel)]
  rfl
theorem r_catT {K : PySem.W.Frag} {t u : Addr} {ts us : List Fm.Tm} {H : Hp} {Q : VK} (ht : TupAt H t ts) (hu : TupAt H u us) (hl : ts.length + us.length ≤ 60) (k : ∀ p H', Keep [] H H' → TupAt H' p (ts ++ us) → Q (.ref p) H') : rCatA K (.ref t) (.ref u) H Q := by
  obtain ⟨as, et, pt⟩ := ht
  obtain ⟨bs, eu, pu⟩ := hu
  have l1 := pt.len
  have l2 := pu.len
  refine ⟨t, u, as.map V.ref, bs.map V.ref, rfl, rfl, sqT_of et, sqT_of eu, by rw [List.length_map, List.length_map]; exact le_size (by omega), fun e => ?_, fun _ e => ?_, fun _ _ p hp => ?_⟩
  · have e0 : as = [] := List.map_eq_nil_iff.mp e
    subst e0
    have : ts = [] := List.length_eq_zero_iff.mp l1.symm
    subst this
    exact k u H (Keep.refl _ _) ⟨bs, eu, pu⟩
  · have e0 : bs = [] := List.map_eq_nil_iff.mp e
    subst e0
    have : us = [] := List.length_eq_zero_iff.mp l2.symm
    subst this
    rw [List.append_nil] at k
    exact k t H (Keep.refl _ _) ⟨as, et, pt⟩
  · exact k p _ (Keep.new hp) ⟨as ++ bs, by rw [upd_same, List.map_append], (pt.app pu).keep0 (Keep.new hp)⟩
def FormAt (C : Addr) (H : Hp) (x : Addr) (ts : List Fm.Tm) (c : Int) : Prop := ∃ dx t, H x = some (.ins C dx [("terms", .ref t), ("constant", .int c)]) ∧ TupAt H t ts
theorem TupAt.keep {M : List Addr} {H H' : Hp} {t : Addr} {ts : List Fm.Tm} (h : TupAt H t ts) (k : Keep M H H') (n : ∀ m ∈ M, ∃ xs, H m = some (.lst xs)) : TupAt H' t ts := by
  obtain ⟨as, e, p⟩ := h
  refine ⟨as, k _ _ (fun hm => ?_) e, p.keep k n⟩
  obtain ⟨xs, hx⟩ := n t hm
  rw [hx] at e; cases e
theorem RowAt.keep0 {H H' : Hp} {t : Addr} {ts : List Fm.Tm} (h : RowAt H t ts) (k : Keep [] H H') : RowAt H' t ts := by
  obtain ⟨as, e, p⟩ := h
  exact ⟨as, k _ _ (by simp) e, p.keep0 k⟩
theorem TupAt.keep0 {H H' : Hp} {t : Addr} {ts : List Fm.Tm} (h : TupAt H t ts) (k : Keep [] H H') : TupAt H' t ts := h.keep k (by simp)
theorem FormAt.keep {C : Addr} {M : List Addr} {H H' : Hp} {x : Addr} {ts : List Fm.Tm} {c : Int} (h : FormAt C H x ts c) (k : Keep M H H') (n : ∀ m ∈ M, ∃ xs, H m = some (.lst xs)) : FormAt C H' x ts c := by
  obtain ⟨dx, t, e, p⟩ := h
  refine ⟨dx, t, k _ _ (fun hm => ?_) e, p.keep k n⟩
  obtain ⟨xs, hx⟩ := n x hm
  rw [hx] at e; cases e
theorem FormAt.keep0 {C : Addr} {H H' : Hp} {x : Addr} {ts : List Fm.Tm} {c : Int} (h : FormAt C H x ts c) (k : Keep [] H H') : FormAt C H' x ts c := h.keep k (by simp)
theorem PairsAt.keepI {C dx x : Addr} {fs : List (Str × V)} {H H' : Hp} {as : List Addr} {ts : List Fm.Tm} (h : PairsAt H as ts) (k : Keep [x] H H') (e : H x = some (.ins C dx fs)) : PairsAt H' as ts := h.mono fun a p _ _ ea => k a _ (by simp; rintro rfl; rw [e] at ea; cases ea) ea
def spInit (C : Addr) : Sp := fun vs H Q _ => ∃ (x dx p : Addr) (ts : List Fm.Tm) (c : Int), vs = [.ref x, .ref p, .int c] ∧ H x = some (.ins C dx []) ∧ (RowAt H p ts ∨ TupAt H p ts) ∧ ts.length ≤ 60 ∧ (∀ t ∈ ts, IsQ t.1) ∧ ∀ H', Keep [x] H H' → FormAt C H' x (Fm.can ts) c → Q .non H'
theorem r_newForm {C p : Addr} {ts : List Fm.Tm} {c : Int} {H : Hp} {R : Addr → Hp → Prop} {E : XK} (hp : RowAt H p ts ∨ TupAt H p ts) (hl : ts.length ≤ 60) (hq : ∀ t ∈ ts, IsQ t.1) (k : ∀ x H', Keep [] H H' → H x = none → FormAt C H' x (Fm.can ts) c → R x H') :
    ∀ x dx, H x = none → H dx = none → dx ≠ x → spInit C [.ref x, .ref p, .int c] (upd (upd H dx (.own x)) x (.ins C dx [])) (fun v H2 => v = .non ∧ R x H2) E := fun x dx nx ndx ne => by
  have k0 : Keep [] H (upd (upd H dx (.own x)) x (.ins C dx [])) := (Keep.new ndx).mut nx
  refine ⟨x, dx, p, ts, c, rfl, upd_same, hp.imp (fun h => h.keep0 k0) fun h => h.keep0 k0, hl, hq, fun H' k1 f => ⟨rfl, k x H' (fun b o _ hb => ?_) nx f⟩⟩
  exact k1 b o (by simp; rintro rfl; rw [nx] at hb; cases hb) (k0 b o (by simp) hb)
section
variable {P : Program} {w : World} {K : PySem.W.Frag} {mg : Str → Option Value} {base : Heap}
theorem ok_init (T : Tx K mg) (G_added_terms : FnOk P w K mg base CX0 2 T.f_added_terms T.fd_added_terms ["terms"] (spAdded K)) : FnOk P w K mg base CX0 3 T.f_Form___init T.fd_Form___init ["self", "terms", "constant"] (spInit T.C_Form) := by
  refine T.F_Form___init.ok sc_Form___init (fun vs H Q E h => ?_) (fun cdv A outer s H vs Q E hr h => ?_)
  · obtain ⟨x, dx, p, ts, c, rfl, _⟩ := h; rfl
  · obtain ⟨x, dx, p, ts, c, rfl, hx, hp, hl, hq, q⟩ := h
    have oc := T.oc_Form
    have na := T.na_Form_terms
    have nc := T.na_Form_constant
    refine ⟨_, PSs.nox (pss_cons (ps_fld (pv 0) (pe_call G_added_terms (hr.mono (by decide)) rfl T.g_added_terms T.F_added_terms.kp T.b_added_terms .nil pass0 (pa_cons (pv 1) pa_nil)) rfl)
    (pss_one (ps_fld (pv 0) (pv 2) rfl))), ?_⟩
    walk_at "start"
    walk_at "sts"
    refine ⟨p, ts, rfl, hp, hl, hq, fun t H1 k1 nt ht => ?_⟩
    have e1 := k1 _ _ (by simp) hx
    walk_at "sts"
    rw [show putF (Str.ofString "terms") (V.ref t) [] = [((Str.ofString "terms"), .ref t)] from rfl]
    walk_at "sts"
    rw [put2]
    have kx : Keep [x] H1 (upd H1 x (.ins T.C_Form dx [((Str.ofString "terms"), .ref t), ((Str.ofString "constant"), .int c)])) := Keep.at (by simp)
    rw [upd_upd]
    obtain ⟨as, et, pt⟩ := ht
    have nx : t ≠ x := by rintro rfl; rw [e1] at et; cases et
    exact q _ ((k1.mono (by simp)).trans kx) ⟨dx, t, upd_same, as, kx _ _ (by simpa using nx) et, pt.keepI kx e1⟩
abbrev GInit (P : Program) (w : World) (K : PySem.W.Frag) (mg : Str → Option Value) (base : Heap) (T : Tx K mg) := FnOk P w K mg base CX0 3 T.f_Form___init T.fd_Form___init ["self", "terms", "constant"] (spInit T.C_Form)
end
def spNames (C : Addr) : Sp := fun vs H Q _ => ∃ (x : Addr) (ts : List Fm.Tm) (c : Int), vs = [.ref x] ∧ FormAt C H x ts c ∧ ts.length ≤ 60 ∧ ∀ p H', Keep [] H H' → H' p = some (.tup ((ts.map (·.1)).map V.str)) → Q (.ref p) H'
def LevAt (H : Hp) (kvs : List (Key × V)) (W : Fm.Wd) (x : Str) : Prop := ∃ a, valV kvs (Sum.inr x) = some (.ref a) ∧ H a = some (.tup [.int (W x).1, .int (W x).2])
theorem LevAt.keep {M : List Addr} {H H' : Hp} {kvs : List (Key × V)} {W : Fm.Wd} {x : Str} (h : LevAt H kvs W x) (k : Keep M H H') (n : ∀ m ∈ M, ∃ xs, H m = some (.lst xs)) : LevAt H' kvs W x := by
  obtain ⟨a, e1, e2⟩ := h
  refine ⟨a, e1, k _ _ (fun hm => ?_) e2⟩
  obtain ⟨xs, hx⟩ := n a hm
  rw [hx] at e2; cases e2
def spVal (C : Addr) : Sp := fun vs H Q _ => ∃ (x d : Addr) (ts : List Fm.Tm) (c : Int) (kvs : List (Key × V)) (W : Fm.Wd), vs = [.ref x, .ref d] ∧ FormAt C H x ts c ∧ H d = some (.dK kvs) ∧ (∀ t ∈ ts, LevAt H kvs W t.1 ∧ 0 < (W t.1).2) ∧ ts.length ≤ 5 ∧ (∀ t ∈ ts, t.2.natAbs < 2 ^ 400 ∧ (W t.1).1.natAbs < 2 ^ 1000 ∧ (W t.1).2.natAbs < 2 ^ 401) ∧ c.natAbs < 2 ^ 400 ∧
  ∀ p H', Keep [] H H' → H' p = some (.tup [.int (lowT (Fm.accV W ts (c, 1)).1 (Fm.accV W ts (c, 1)).2), .int (lowB (Fm.accV W ts (c, 1)).1 (Fm.accV W ts (c, 1)).2)]) → Q (.ref p) H'
theorem lev_some {H : Hp} {kvs : List (Key × V)} {W : Fm.Wd} {x : Str} (h : LevAt H kvs W x) : (valV kvs (Sum.inr x)).isSome = true := by obtain ⟨a, e, _⟩ := h; rw [e]; rfl
section
variable {P : Program} {w : World} {K : PySem.W.Frag} {mg : Str → Option Value} {base : Heap}
theorem can_names {ts : List Fm.Tm} {p : Str → Prop} (h : ∀ t ∈ ts, p t.1) : ∀ t ∈ Fm.can ts, p t.1 := fun t ht => by
  obtain ⟨⟨q, hq, e⟩, _⟩ := Fm.can_mem ht
  rw [← e]; exact h q hq
theorem scl_names {ts : List Fm.Tm} {p : Str → Prop} {k : Int} (h : ∀ t ∈ ts, p t.1) : ∀ t ∈ Fm.scl k ts, p t.1 := fun t ht => by
  obtain ⟨q, hq, rfl⟩ := List.mem_map.mp ht
  exact h q hq
theorem scl_len {ts : List Fm.Tm} {k : Int} : (Fm.scl k ts).length = ts.length := by rw [Fm.scl, List.length_map]
theorem drop_len {ts : List Fm.Tm} {x : Str} : (Fm.dropN x ts).length ≤ ts.length := List.length_filter_le _ _
theorem drop_names {ts : List Fm.Tm} {p : Fm.Tm → Prop} {x : Str} (h : ∀ t ∈ ts, p t) : ∀ t ∈ Fm.dropN x ts, p t := fun t ht => h t (List.mem_filter.mp ht).1
theorem ok_names (T : Tx K mg) : FnOk P w K mg base CX0 1 T.f_Form_names T.fd_Form_names ["self"] (spNames T.C_Form) := by
  refine T.F_Form_names.ok sc_Form_names (fun vs H Q E h => ?_) (fun cdv A outer s H vs Q E hr h => ?_)
  · obtain ⟨x, ts, c, rfl, _⟩ := h; rfl
  · obtain ⟨x, ts, c, rfl, ⟨dx, t, ex, as, et, pt⟩, hl, q⟩ := h
    have oc := T.oc_Form
    have na := T.na_Form_terms
    have hlt := pt.len
    refine ⟨_, PSs.nox (pss_one (ps_ret (pe_callTy call_tuple_of (by rfl) T.m_tuple (by decide +kernel) (pa_cons (pe_lc (own := [("name", 1), ("_", 2)]) (g := gTup K 2 (gCons (gName 1) (gCons (gName 2) gNil))) (tt := tYes) rfl sc_Form_names.nd (pi_tup (pe_fld (pv 0) rfl)) (blkOk_by (own := [("name", 1), ("_", 2)]) (N := ["self", "name", "_"]) (sc := defScope s_Form_names) (by decide +kernel)) (fun _ _ _ _ _ => pg_tup (n := 2) rfl (pgs_cons (pg_name (i := 1) sc_Form_names.nd rfl (Or.inl rfl)) (pgs_cons (pg_name (i := 2) sc_Form_names.nd rfl (Or.inl rfl)) pgs_nil))) (fun _ _ _ _ _ => pts_nil) (fun _ _ _ _ _ => (pv 1))) pa_nil)))), ?_⟩
    walk_at "start"
    walk_at "sts"
    refine lcT_go (fun D i acc H' => acc = ((ts.take i).map (·.1)).map V.str ∧ Keep [] H H' ∧ H D = none) (sqT_of et) (fun D hD => ⟨rfl, Keep.new hD, hD⟩) (fun D i acc H' _ h => by obtain ⟨_, k, _⟩ := h; exact sqT_of (k _ _ (by simp) et)) ?_ ?_
    · rintro D i v acc H1 hv hD ⟨rfl, k1, nD⟩
      obtain ⟨a, ha, rfl⟩ := getRef hv
      obtain ⟨z, hz, ez⟩ := pt.get ha
      refine r_gTup2 (sqT_of (k1 _ _ (by simp) ez)) ?_
      refine ⟨rfl, ?_⟩
      simp only [L2.wipe, List.map_cons, List.map_nil, List.set_cons_zero, List.set_cons_succ]
      walk_at "sts"
      exact lc_put hD (by simp only [List.length_map, List.length_take]; exact lt_size (by omega)) ⟨by rw [take_snoc hz]; simp, k1.mut nD, nD⟩
    · rintro D acc H1 nD hD ⟨rfl, k1, _⟩
      rw [List.take_of_length_le (by rw [List.length_map, hlt]; exact Nat.le_refl _)] at hD
      walk_at "sts"
      refine r_tupL (sqL_of hD) fun u hu => ?_
      exact q u _ (k1.trans (Keep.new hu)) upd_same
theorem ok_val (T : Tx K mg) (G_need_levels : FnOk P w K mg base CX0 1 T.f_need_levels T.fd_need_levels ["names", "world"] spNeed) (G_Form_names : FnOk P w K mg base CX0 1 T.f_Form_names T.fd_Form_names ["self"] (spNames T.C_Form)) (G_plus : FnOk P w K mg base CX0 2 T.f_plus T.fd_plus ["first", "second"] (spTwo fPlus)) (G_times : FnOk P w K mg base CX0 2 T.f_times T.fd_times ["first", "second"] (spTwo fTimes)) :
    FnOk P w K mg base CX0 3 T.f_Form___call T.fd_Form___call ["self", "world"] (spVal T.C_Form) := by
  refine T.F_Form___call.ok sc_Form___call (fun vs H Q E h => ?_) (fun cdv A outer s H vs Q E hr h => ?_)
  · obtain ⟨x, d, ts, c, kvs, W, rfl, _⟩ := h; rfl
  · obtain ⟨x, d, ts, c, kvs, W, rfl, hx, hd, hlev, hl, hb, hc, q⟩ := h
    have oc := T.oc_Form
    have na := T.na_Form_terms
    have nc := T.na_Form_constant
    obtain ⟨dx, t, ex, as, et, pt⟩ := id hx
    have hlt := pt.len
    refine ⟨_, PSs.nox (pss_cons (ps_expr (pe_call G_need_levels (hr.mono (by decide)) rfl T.g_need_levels T.F_need_levels.kp T.b_need_levels .nil pass0 (pa_cons (pe_meth0 (pv 0) T.oc_Form.cl T.me_Form_names G_Form_names (hr.mono (by decide)) T.b_Form_names .nil pass0) (pa_cons (pv 1) pa_nil))))
    (pss_cons (ps_set (i := 2) sc_Form___call.nd rfl (Or.inl rfl) (pe_tup (pa_cons (pe_fld (pv 0) rfl) (pa_cons pe_int pa_nil))))
    (pss_cons (ps_for PassesOwn.never rfl (pi_tup (pe_fld (pv 0) rfl)) (pg_tup (n := 2) rfl (pgs_cons (pg_name (i := 3) sc_Form___call.nd rfl (Or.inl rfl)) (pgs_cons (pg_name (i := 4) sc_Form___call.nd rfl (Or.inl rfl)) pgs_nil)))
    (pss_one (ps_set (i := 2) sc_Form___call.nd rfl (Or.inl rfl) (pe_call G_plus (hr.mono (by decide)) rfl T.g_plus T.F_plus.kp T.b_plus .nil pass0 (pa_cons (pv 2) (pa_cons (pe_call G_times (hr.mono (by decide)) rfl T.g_times T.F_times.kp T.b_times .nil pass0 (pa_cons (pe_tup (pa_cons (pv 4) (pa_cons pe_int pa_nil))) (pa_cons (pe_dget (hu_of hr) (pv 1) (pv 3) (fun _ _ => rfl)) pa_nil))) pa_nil))))))
    (pss_one (ps_ret (pv 2)))))), ?_⟩
    walk_at "start"
    walk_at "sts"
    refine ⟨x, ts, c, rfl, hx, by omega, fun p H1 k1 ep => ?_⟩
    have hd1 := k1 _ _ (by simp) hd
    have ex1 := k1 _ _ (by simp) ex
    walk_at "sts"
    refine ⟨p, d, ts.map (·.1), kvs, rfl, ep, hd1, fun z hz => by obtain ⟨y, hy, rfl⟩ := List.mem_map.mp hz; exact lev_some (hlev y hy).1, ?_⟩
    walk_at "sts"
    intro p2 hp2
    have k2 : Keep [] H1 (upd H1 p2 (.tup [.int c, .int 1])) := Keep.new hp2
    have e2 : upd H1 p2 (.tup [.int c, .int 1]) p2 = some (.tup [.int c, .int 1]) := upd_same
    generalize upd H1 p2 (.tup [.int c, .int 1]) = H2 at k2 e2 ⊢
    have k12 := k1.trans k2
    have ex2 := k12 _ _ (by simp) ex
    have et2 := k12 _ _ (by simp) et
    walk_at "sts"
    have st : ∀ i, Fm.accV W (ts.take i) (c, 1) = Fm.accV W (ts.take i) (c, 1) := fun _ => rfl
    refine forT_go (fun i σ' H' => ∃ (r : Addr) (x1 x2 : Option V), σ' = [some (.ref x), some (.ref d), some (.ref r), x1, x2] ∧ Keep [] H H' ∧ H' r = some (.tup [.int (lowT (Fm.accV W (ts.take i) (c, 1)).1 (Fm.accV W (ts.take i) (c, 1)).2), .int (lowB (Fm.accV W (ts.take i) (c, 1)).1 (Fm.accV W (ts.take i) (c, 1)).2)])) (sqT_of et2) ⟨p2, _, _, rfl, k12, by rw [e2]; simp [Fm.accV, lowT_one, lowB_one]⟩ (fun i σ' H' _ h => by obtain ⟨_, _, _, _, k, _⟩ := h; exact sqT_of (k _ _ (by simp) et)) ?_ ?_
    · rintro i v σ' H3 hv ⟨r, x1, x2, rfl, k3, e3⟩
      obtain ⟨a, ha, rfl⟩ := getRef hv
      obtain ⟨z, hz, ez⟩ := pt.get ha
      have mz := List.mem_of_getElem? hz
      have ez3 := k3 _ _ (by simp) ez
      obtain ⟨⟨lv, lv1, lv2⟩, wpos⟩ := hlev z mz
      obtain ⟨b1, b2, b3⟩ := hb z mz
      have hi := (List.getElem?_eq_some_iff.mp hz).1
      have il : (ts.take i).length = i := by rw [List.length_take]; omega
      have sub : ∀ p ∈ ts.take i, p ∈ ts := fun p hp => List.mem_of_mem_take hp
      have apos := Fm.acc_pos (W := W) (ts := ts.take i) (s := (c, 1)) (fun p hp => (hlev p (sub p hp)).2) Int.one_pos
      obtain ⟨ab1, ab2⟩ := Fm.acc_bound (W := W) (ts := ts.take i) (c := c) (fun p hp => hb p (sub p hp)) hc
      rw [il] at ab1 ab2
      have step := low_step (N := (Fm.accV W (ts.take i) (c, 1)).1) (D := (Fm.accV W (ts.take i) (c, 1)).2) (w := z.2) (p := (W z.1).1) (q := (W z.1).2) apos wpos
      have nxt : Fm.accV W (ts.take (i + 1)) (c, 1) = ((Fm.accV W (ts.take i) (c, 1)).1 * (W z.1).2 + z.2 * (W z.1).1 * (Fm.accV W (ts.take i) (c, 1)).2, (Fm.accV W (ts.take i) (c, 1)).2 * (W z.1).2) := by
        rw [take_snoc hz, Fm.accV_append]; rfl
      rw [nxt]
      generalize Fm.accV W (ts.take i) (c, 1) = S at *
      have hS : S.2 ≠ 0 := by omega
      walk_at "sts"
      intro u hu
      have k4 : Keep [] H3 (upd H3 u (.tup [.int z.2, .int 1])) := Keep.new hu
      have e4 : upd H3 u (.tup [.int z.2, .int 1]) u = some (.tup [.int z.2, .int 1]) := upd_same
      generalize upd H3 u (.tup [.int z.2, .int 1]) = H4 at k4 e4 ⊢
      have k34 := k3.trans k4
      walk_at "sts"
      refine r_dgetS (k34 _ _ (by simp) hd) lv1 ?_
      walk_at "sts"
      refine r_two (f := fTimes) e4 (k34 _ _ (by simp) lv2) (by decide) (by omega) (Fm.pow_le b1 (by decide)) (by decide +kernel) (Fm.pow_le b2 (by decide)) (Fm.pow_le b3 (by decide)) fun r2 H5 k5 n5 e5 => ?_
      have q1 : (0 : Int) < 1 * (W z.1).2 := by omega
      walk_at "sts"
      refine r_two (f := fPlus) (k5 _ _ (by simp) (k4 _ _ (by simp) e3)) e5 (by have := lowB_pos (t := S.1) apos; omega) (by have := lowB_pos (t := (fTimes z.2 1 (W z.1).1 (W z.1).2).1) q1; show lowB _ (1 * (W z.1).2) ≠ 0; omega) (Nat.lt_of_le_of_lt (lowT_le hS) (Fm.pow_le ab1 (by omega))) (Nat.lt_of_le_of_lt (lowB_le hS) (Fm.pow_le ab2 (by omega))) (Nat.lt_of_le_of_lt (lowT_le (by show 1 * (W z.1).2 ≠ 0; omega)) (Fm.pow_le (Fm.natAbs_mul_lt b1 b2) (by decide))) (Nat.lt_of_le_of_lt (lowB_le (by show 1 * (W z.1).2 ≠ 0; omega)) (by show (1 * (W z.1).2).natAbs < _; rw [Int.one_mul]; exact Fm.pow_le b3 (by decide))) fun r3 H6 k6 n6 e6 => ?_
      walk_at "sts"
      refine ⟨r3, _, _, rfl, k34.trans (k5.trans k6), ?_⟩
      rw [e6, step.1, step.2.1]
    · rintro σ' H3 ⟨r, x1, x2, rfl, k3, e3⟩
      rw [List.length_map, hlt, List.take_length] at e3
      walk_at "sts"
      exact q r H3 k3 e3
end
def DueAt (H : Hp) (p : Addr) (ts : List Fm.Tm) (c : Int) : Prop := ∃ t, H p = some (.tup [.ref t, .int c]) ∧ TupAt H t ts
theorem DueAt.keep {M : List Addr} {H H' : Hp} {p : Addr} {ts : List Fm.Tm} {c : Int} (h : DueAt H p ts c) (k : Keep M H H') (n : ∀ m ∈ M, ∃ xs, H m = some (.lst xs)) : DueAt H' p ts c := by
  obtain ⟨t, e, ht⟩ := h
  refine ⟨t, k _ _ (fun hm => ?_) e, ht.keep k n⟩
  obtain ⟨xs, hx⟩ := n p hm
  rw [hx] at e; cases e
theorem DueAt.keep0 {H H' : Hp} {p : Addr} {ts : List Fm.Tm} {c : Int} (h : DueAt H p ts c) (k : Keep [] H H') : DueAt H' p ts c := h.keep k (by simp)
def spTidy : Sp := fun vs H Q _ => ∃ (p : Addr) (ts : List Fm.Tm) (c : Int), vs = [.ref p, .int c] ∧ RowAt H p ts ∧ ts.length ≤ 60 ∧ ∀ q H', Keep [] H H' → H q = none → DueAt H' q (Fm.can ts) c → Q (.ref q) H'
def spValL : Sp := fun vs H Q _ => ∃ (p d : Addr) (ts : List Fm.Tm) (c : Int) (kvs : List (Key × V)) (W : Fm.Wd), vs = [.ref p, .ref d] ∧ DueAt H p ts c ∧ H d = some (.dK kvs) ∧ (∀ t ∈ ts, LevAt H kvs W t.1 ∧ 0 < (W t.1).2) ∧ ts.length ≤ 5 ∧ (∀ t ∈ ts, t.2.natAbs < 2 ^ 400 ∧ (W t.1).1.natAbs < 2 ^ 1000 ∧ (W t.1).2.natAbs < 2 ^ 401) ∧ c.natAbs < 2 ^ 400 ∧
  ∀ r H', Keep [] H H' → H r = none → H' r = some (.tup [.int (lowT (Fm.accV W ts (c, 1)).1 (Fm.accV W ts (c, 1)).2), .int (lowB (Fm.accV W ts (c, 1)).1 (Fm.accV W ts (c, 1)).2)]) → Q (.ref r) H'
section
variable {P : Program} {w : World} {K : PySem.W.Frag} {mg : Str → Option Value} {base : Heap}
theorem ok_tidy (T : Tx K mg) : FnOk P w K mg base CX0 1 T.f_w_tidy T.fd_w_tidy ["_law_pairs", "_law_constant"] spTidy := by
  refine T.F_w_tidy.ok sc_w_tidy (fun vs H Q E h => ?_) (fun cdv A outer s H vs Q E hr h => ?_)
  · obtain ⟨p, ts, c, rfl, _⟩ := h; rfl
  · obtain ⟨p, ts, c, rfl, ⟨as, ep, pp⟩, hl, q⟩ := h
    have hlen := pp.len
    refine ⟨_, (pss_cons (ps_set (i := 2) sc_w_tidy.nd rfl (Or.inl rfl) (pe_lst pa_nil))
    (pss_cons (ps_for PassesOwn.never rfl (pi_list (pv 0)) (pg_name (i := 3) sc_w_tidy.nd rfl (Or.inl rfl))
    (pss_one (ps_if (pt_cmpR op_notIn_seq (pe_ix ix_tup (pv 3) pe_int (fun _ _ => rfl)) (pv 2) (by rfl))
    (pss_one (ps_expr (pe_bm PySem.F.plainAttrs_list PySem.F.slot_list_append PySem.F.type_list_append mt_append (pv 2) (pa_cons (pe_ix ix_tup (pv 3) pe_int (fun _ _ => rfl)) pa_nil))))
    pss_nil)))
    (pss_cons (ps_set (i := 4) sc_w_tidy.nd rfl (Or.inl rfl) (pe_lst pa_nil))
    (pss_cons (ps_for PassesOwn.never rfl (pi_list (pe_callB cr_sortedS (by rfl) T.m_sorted (by decide +kernel) (pa_cons (pv 2) pa_nil))) (pg_name (i := 5) sc_w_tidy.nd rfl (Or.inr rfl))
    (pss_cons (ps_set (i := 6) sc_w_tidy.nd rfl (Or.inl rfl) (pe_callB (cr_sum rfl) (by rfl) T.m_sum (by decide +kernel) (pa_cons (pe_lc (own := [("_law_pair", 3)]) (g := gName 3)  rfl sc_w_tidy.nd (pi_list (pv 0)) (blkOk_by (own := [("_law_pair", 3)]) (N := ["_law_pairs", "_law_constant", "_law_seen", "_law_pair", "_law_terms", "_law_text", "_law_weight_here"]) (sc := defScope s_w_tidy) (by decide +kernel)) (fun _ _ _ _ _ => pg_name (i := 3) sc_w_tidy.nd rfl (Or.inl rfl)) (fun _ _ _ _ _ => pts_one (pt_cmpR op_eq (pe_ix (ix_tupK (K := K) rfl) (pv 3) pe_int (fun _ _ => rfl)) (pv 5) (nomark _))) (fun _ _ _ _ _ => (pe_ix (ix_tupK (K := K) rfl) (pv 3) pe_int (fun _ _ => rfl)))) pa_nil)))
    (pss_one (ps_if (pt_cmpR op_ne (pv 6) pe_int (nomark _))
    (pss_one (ps_expr (pe_bm PySem.F.plainAttrs_list PySem.F.slot_list_append PySem.F.type_list_append mt_append (pv 4) (pa_cons (pe_tup (pa_cons (pv 5) (pa_cons (pv 6) pa_nil))) pa_nil))))
    pss_nil))))
    (pss_one (ps_ret (pe_tup (pa_cons (pe_callTy call_tuple_of (by rfl) T.m_tuple (by decide +kernel) (pa_cons (pv 4) pa_nil)) (pa_cons (pv 1) pa_nil))))))))), ?_⟩
    walk_at "start"
    walk_at "sts"
    intro s1 hs1
    have k1 : Keep [] H (upd H s1 (.lst [])) := Keep.new hs1
    have e1 : upd H s1 (.lst []) s1 = some (.lst (([] : List Str).map V.str)) := upd_same
    generalize upd H s1 (.lst []) = H1 at k1 e1 ⊢
    walk_at "sts"
    refine forL_go (fun i σ' H' => ∃ (xs : List Str) (x1 : Option V), σ' = [some (.ref p), some (.int c), some (.ref s1), x1, none, none, none] ∧ H' s1 = some (.lst (xs.map V.str)) ∧ Keep [] H H' ∧ xs.Nodup ∧ (∀ x, x ∈ xs ↔ x ∈ (ts.take i).map (·.1)) ∧ xs.length ≤ i) (sqL_of (k1 _ _ (by simp) ep)) ⟨[], _, rfl, e1, k1, by simp, by simp, by simp⟩ (fun i σ' H' _ h => by obtain ⟨_, _, _, _, k, _⟩ := h; exact sqL_of (k _ _ (by simp) ep)) ?_ ?_
    · rintro i v σ' H2 hv ⟨xs, x1, rfl, e2, k2, nd, hm, hx⟩
      obtain ⟨a, ha, rfl⟩ := getRef hv
      obtain ⟨z, hz, ez⟩ := pp.get ha
      have ez2 := k2 _ _ (by simp) ez
      have hi := (List.getElem?_eq_some_iff.mp hz).1
      walk_at "sts"
      refine r_ninL (sqL_of e2) rfl (flat_strs xs) ?_
      rw [inV_str]
      walk_at "sts"
      refine r_iteN (fun c1 => ?_) (fun c1 => ?_)
      · walk_at "sts"
        refine ⟨xs ++ [z.1], _, by first | exact rfl | trivial, by rw [upd_same, List.map_append]; rfl, k2.mut hs1, List.nodup_append.mpr ⟨nd, by simp, fun x hx y hy e => c1 (by rw [← List.mem_singleton.mp hy, ← e]; exact hx)⟩, fun x => ?_, by simp; omega⟩
        rw [take_snoc hz, List.map_append, List.mem_append, List.mem_append, hm]; simp
      · walk_at "sts"
        refine ⟨xs, _, by first | exact rfl | trivial, e2, k2, nd, fun x => ?_, by omega⟩
        rw [take_snoc hz, List.map_append, List.mem_append, ← hm]
        constructor
        · exact .inl
        · rintro (h | h)
          · exact h
          · have : x = z.1 := by simpa using h
            rw [this]; exact c1
    · rintro σ' H2 ⟨xs, x1, rfl, e2, k2, nd, hm, hx⟩
      rw [List.length_map, hlen] at hx
      rw [List.length_map, hlen, List.take_length] at hm
      walk_at "sts"
      intro lt hlt
      have k3 : Keep [] H2 (upd H2 lt (.lst [])) := Keep.new hlt
      have e3 : upd H2 lt (.lst []) lt = some (.lst (([] : List Addr).map V.ref)) := upd_same
      have nlt : H lt = none := k2.free (by simp) hlt
      generalize upd H2 lt (.lst []) = H3 at k3 e3 ⊢
      have k23 := k2.trans k3
      have es3 := k3 _ _ (by simp) e2
      walk_at "sts"
      refine r_sortS (sqL_of es3) (by omega) fun ys l pm st hl3 => ?_
      have k4 : Keep [] H3 (upd H3 l (.lst (ys.map V.str))) := Keep.new hl3
      have e4 : upd H3 l (.lst (ys.map V.str)) l = some (.lst (ys.map V.str)) := upd_same
      have el4 := k4 _ _ (by simp) e3
      generalize upd H3 l (.lst (ys.map V.str)) = H4 at k4 e4 el4 ⊢
      have k24 := k23.trans k4
      have nd' : ys.Nodup := pm.nodup_iff.mpr nd
      have asc := Fm.asc_of_sorted st nd'
      have mem : ∀ x, x ∈ ys ↔ x ∈ ts.map (·.1) := fun x => (pm.mem_iff).trans (hm x)
      have ly : ys.length ≤ 60 := by have := pm.length_eq; omega
      have nll : l ≠ lt := by rintro rfl; rw [e3] at hl3; cases hl3
      refine forL_go (fun i σ' H' => ∃ (bs : List Addr) (x1 x2 x3 : Option V), σ' = [some (.ref p), some (.int c), some (.ref s1), x1, some (.ref lt), x2, x3] ∧ H' lt = some (.lst (bs.map V.ref)) ∧ PairsAt H' bs (Fm.rowOf (ys.take i) (Fm.wt ts)) ∧ Keep [lt] H4 H') (sqL_of e4) ⟨[], _, _, _, by first | exact rfl | trivial, el4, by simp [Fm.rowOf, PairsAt], Keep.refl _ _⟩ (fun i σ' H' _ h => by obtain ⟨_, _, _, _, _, _, _, k⟩ := h; exact sqL_of (k _ _ (by simpa using nll) e4)) ?_ ?_
      · rintro i v σ' H5 hv ⟨bs, x1, x2, x3, rfl, e5, r5, k5⟩
        obtain ⟨nm, hnm, rfl⟩ := getStr hv
        have kept : Keep [] H H5 := fun b o _ hb => k5 b o (by simp; rintro rfl; rw [nlt] at hb; cases hb) (k24 b o (by simp) hb)
        have hbl := r5.len
        have hb60 : bs.length ≤ 60 := by
          have := List.length_filter_le (fun p : Fm.Tm => decide (p.2 ≠ 0)) ((ys.take i).map fun x => (x, Fm.wt ts x))
          unfold Fm.rowOf at hbl
          rw [List.length_map, List.length_take] at this
          omega
        walk_at "sts"
        refine lcL_go (fun D j acc H' => acc = (((ts.take j).filter fun p => decide (p.1 = nm)).map (·.2)).map V.int ∧ Keep [] H5 H' ∧ H5 D = none) (sqL_of (kept _ _ (by simp) ep)) (fun D hD => ⟨by simp, Keep.new hD, hD⟩) (fun D j acc H' _ h => by obtain ⟨_, k, _⟩ := h; exact sqL_of (k _ _ (by simp) (kept _ _ (by simp) ep))) ?_ ?_
        · rintro D j v2 acc H6 hv2 hD ⟨rfl, k6, nD⟩
          obtain ⟨a, ha, rfl⟩ := getRef hv2
          obtain ⟨z, hz, ez⟩ := pp.get ha
          have ez6 := k6 _ _ (by simp) (kept _ _ (by simp) ez)
          have snoc : (((ts.take (j + 1)).filter fun p => decide (p.1 = nm)).map (·.2)).map V.int = if z.1 = nm then (((ts.take j).filter fun p => decide (p.1 = nm)).map (·.2)).map V.int ++ [V.int z.2] else (((ts.take j).filter fun p => decide (p.1 = nm)).map (·.2)).map V.int := by
            rw [take_snoc hz, List.filter_append]
            by_cases h : z.1 = nm <;> simp [h]
          have hfl := List.length_filter_le (fun p : Fm.Tm => decide (p.1 = nm)) (ts.take j)
          rw [List.length_take] at hfl
          walk_at "sts"
          refine r_ite (fun c2 => ?_) (fun c2 => ?_)
          · walk_at "sts"
            exact lc_put hD (by rw [List.length_map, List.length_map]; exact lt_size (by omega)) ⟨by rw [snoc, if_pos c2], k6.mut nD, nD⟩
          · walk_at "sts"
            exact ⟨_, hD, by rw [snoc, if_neg c2], k6, nD⟩
        · rintro D acc H6 nD hD ⟨rfl, k6, _⟩
          rw [List.take_of_length_le (by rw [List.length_map, hlen]; exact Nat.le_refl _)] at hD
          walk_at "sts"
          refine r_sum (sqL_of hD) ?_
          rw [show ((ts.filter fun p => decide (p.1 = nm)).map (·.2)).sum = Fm.wt ts nm from rfl]
          have e6 := k6 _ _ (by simp) e5
          have r6 := r5.keep0 k6
          have k56 : Keep [lt] H4 H6 := k5.trans (k6.mono (by simp))
          walk_at "sts"
          refine r_iteN (fun c2 => ?_) (fun c2 => ?_)
          · walk_at "sts"
            intro t ht
            have k7 : Keep [] H6 (upd H6 t (.tup [.str nm, .int (Fm.wt ts nm)])) := Keep.new ht
            have e7 : upd H6 t (.tup [.str nm, .int (Fm.wt ts nm)]) t = some (.tup [.str nm, .int (Fm.wt ts nm)]) := upd_same
            have el7 := k7 _ _ (by simp) e6
            walk_at "sts"
            refine ⟨bs ++ [t], _, _, _, by first | exact rfl | trivial, by rw [upd_same, List.map_append]; rfl, ?_, ?_⟩
            · rw [take_snoc hnm, Fm.rowOf_snoc, if_pos c2]
              exact ((r6.keep0 k7).app (bs := [t]) (us := [(nm, Fm.wt ts nm)]) ⟨e7, trivial⟩).keep (Keep.at (M := [lt]) (by simp)) (fun m hm => by rw [List.mem_singleton.mp hm]; exact ⟨_, el7⟩)
            · exact k56.trans ((k7.mono (by simp)).trans (Keep.at (by simp)))
          · walk_at "sts"
            exact ⟨bs, _, _, _, by first | exact rfl | trivial, e6, by rw [take_snoc hnm, Fm.rowOf_snoc, if_neg (fun z => z c2)]; exact r6, k56⟩
      · rintro σ' H5 ⟨bs, x1, x2, x3, rfl, e5, r5, k5⟩
        rw [List.length_map, List.take_length, Fm.rowOf_can asc nd' fun t ht => (mem _).mpr (List.mem_map_of_mem ht)] at r5
        have kept : Keep [] H H5 := fun b o _ hb => k5 b o (by simp; rintro rfl; rw [nlt] at hb; cases hb) (k24 b o (by simp) hb)
        walk_at "sts"
        refine r_tupL (sqL_of e5) fun u hu => ?_
        have k6 : Keep [] H5 (upd H5 u (.tup (bs.map V.ref))) := Keep.new hu
        have e6 : upd H5 u (.tup (bs.map V.ref)) u = some (.tup (bs.map V.ref)) := upd_same
        have r6 := r5.keep0 k6
        generalize upd H5 u (.tup (bs.map V.ref)) = H6 at k6 e6 r6 ⊢
        walk_at "sts"
        intro z hz
        have k7 : Keep [] H6 (upd H6 z (.tup [.ref u, .int c])) := Keep.new hz
        exact q z _ (kept.trans (k6.trans k7)) ((kept.trans k6).free (by simp) hz) ⟨u, upd_same, bs, k7 _ _ (by simp) e6, r6.keep0 k7⟩
end
def spFormIs (C : Addr) : Sp := fun vs H Q _ => ∃ (x p : Addr) (ts : List Fm.Tm) (c : Int), vs = [.ref x, .ref p] ∧ FormAt C H x ts c ∧ DueAt H p ts c ∧ ts.length ≤ 60 ∧ Q (.bl true) H
theorem le_of_eq_size {n : Nat} (h : n ≤ 1000000) : n ≤ sizeLine := Nat.le_trans h (by decide)
theorem atRef {as : List Addr} {i : Nat} {a : Addr} (h : as[i]? = some a) : atI (as.map V.ref) (i : Int) = some (V.ref a) := atI_nat (by rw [List.getElem?_map, h]; rfl)
section
variable {P : Program} {w : World} {K : PySem.W.Frag} {mg : Str → Option Value} {base : Heap}
theorem ok_valL (T : Tx K mg) (G_w_lowest : FnOk P w K mg base CX0 1 T.f_w_lowest T.fd_w_lowest ["_law_top", "_law_bottom"] spLow0) : FnOk P w K mg base CX0 2 T.f_w_value T.fd_w_value ["_law_due", "_law_world_here"] spValL := by
  refine T.F_w_value.ok sc_w_value (fun vs H Q E h => ?_) (fun cdv A outer s H vs Q E hr h => ?_)
  · obtain ⟨p, d, ts, c, kvs, W, rfl, _⟩ := h; rfl
  · obtain ⟨p, d, ts, c, kvs, W, rfl, ⟨t, ep, as, et, pt⟩, hd, hlev, hl, hb, hc, q⟩ := h
    have hlt := pt.len
    refine ⟨_, (pss_cons (ps_set (i := 2) sc_w_value.nd rfl (Or.inl rfl) (pe_ix ix_tup (pv 0) pe_int (fun _ _ => rfl)))
    (pss_cons (ps_set (i := 3) sc_w_value.nd rfl (Or.inl rfl) pe_int)
    (pss_cons (ps_for PassesOwn.never rfl (pi_tup (pe_ix ix_tup (pv 0) pe_int (fun _ _ => rfl))) (pg_name (i := 4) sc_w_value.nd rfl (Or.inl rfl))
    (pss_cons (ps_set (i := 5) sc_w_value.nd rfl (Or.inl rfl) (pe_dget (hu_of hr) (pv 1) (pe_ix ix_tup (pv 4) pe_int (fun _ _ => rfl)) (fun _ _ => rfl)))
    (pss_cons (ps_set (i := 2) sc_w_value.nd rfl (Or.inl rfl) (pe_op op_add (pe_op op_mulG (pv 2) (pe_ix ix_tup (pv 5) pe_int (fun _ _ => rfl))) (pe_op op_mulG (pe_op op_mulG (pe_ix ix_tup (pv 4) pe_int (fun _ _ => rfl)) (pe_ix ix_tup (pv 5) pe_int (fun _ _ => rfl))) (pv 3))))
    (pss_one (ps_set (i := 3) sc_w_value.nd rfl (Or.inl rfl) (pe_op op_mulG (pv 3) (pe_ix ix_tup (pv 5) pe_int (fun _ _ => rfl))))))))
    (pss_one (ps_ret (pe_call G_w_lowest (hr.mono (by decide)) rfl T.g_w_lowest T.F_w_lowest.kp T.b_w_lowest .nil pass0 (pa_cons (pv 2) (pa_cons (pv 3) pa_nil)))))))), ?_⟩
    walk_at "start"
    walk_at "sts"
    refine forT_go (fun i σ' H' => ∃ (x1 x2 : Option V), σ' = [some (.ref p), some (.ref d), some (.int (Fm.accV W (ts.take i) (c, 1)).1), some (.int (Fm.accV W (ts.take i) (c, 1)).2), x1, x2] ∧ H' = H) (sqT_of et) ⟨_, _, rfl, rfl⟩ (fun i σ' H' _ h => by obtain ⟨_, _, _, rfl⟩ := h; exact sqT_of et) ?_ ?_
    · rintro i v σ' H3 hv ⟨x1, x2, rfl, rfl⟩
      obtain ⟨a, ha, rfl⟩ := getRef hv
      obtain ⟨z, hz, ez⟩ := pt.get ha
      have mz := List.mem_of_getElem? hz
      obtain ⟨⟨lv, lv1, lv2⟩, wpos⟩ := hlev z mz
      obtain ⟨b1, b2, b3⟩ := hb z mz
      have hi := (List.getElem?_eq_some_iff.mp hz).1
      have il : (ts.take i).length = i := by rw [List.length_take]; omega
      have sub : ∀ p ∈ ts.take i, p ∈ ts := fun p hp => List.mem_of_mem_take hp
      obtain ⟨ab1, ab2⟩ := Fm.acc_bound (W := W) (ts := ts.take i) (c := c) (fun p hp => hb p (sub p hp)) hc
      rw [il] at ab1 ab2
      have nxt : Fm.accV W (ts.take (i + 1)) (c, 1) = ((Fm.accV W (ts.take i) (c, 1)).1 * (W z.1).2 + z.2 * (W z.1).1 * (Fm.accV W (ts.take i) (c, 1)).2, (Fm.accV W (ts.take i) (c, 1)).2 * (W z.1).2) := by
        rw [take_snoc hz, Fm.accV_append]; rfl
      rw [nxt]
      generalize Fm.accV W (ts.take i) (c, 1) = S at *
      walk_at "sts"
      refine r_dgetS hd lv1 ?_
      walk_at "sts"
      refine r_I (.inr (cmulw 9000 401 (Fm.pow_le ab1 (by omega)) b3)) ?_
      walk_at "sts"
      refine r_I (.inr (cmulw 400 1000 b1 b2)) ?_
      walk_at "sts"
      refine r_I (.inr (cmulw 1400 3000 (Fm.natAbs_mul_lt b1 b2) (Fm.pow_le ab2 (by omega)))) ?_
      walk_at "sts"
      refine r_I (.inr (cmulw 3000 401 (Fm.pow_le ab2 (by omega)) b3)) ?_
      walk_at "sts"
      exact ⟨_, _, rfl, rfl⟩
    · rintro σ' H3 ⟨x1, x2, rfl, rfl⟩
      rw [List.length_map, hlt, List.take_length]
      have apos := Fm.acc_pos (W := W) (ts := ts) (s := (c, 1)) (fun p hp => (hlev p hp).2) Int.one_pos
      obtain ⟨ab1, ab2⟩ := Fm.acc_bound (W := W) (ts := ts) (c := c) hb hc
      walk_at "sts"
      exact r_low0 apos (Fm.pow_le ab2 (by omega)) fun r H' k nr er => q r H' k nr er
theorem ok_formIs (T : Tx K mg) (G_w_whole : FnOk P w K mg base CX0 1 T.f_w_whole T.fd_w_whole ["_law_found"] spWhole) : FnOk P w K mg base CX0 2 T.f_w_form_is T.fd_w_form_is ["_law_found", "_law_due"] (spFormIs T.C_Form) := by
  refine T.F_w_form_is.ok sc_w_form_is (fun vs H Q E h => ?_) (fun cdv A outer s H vs Q E hr h => ?_)
  · obtain ⟨x, p, ts, c, rfl, _⟩ := h; rfl
  · obtain ⟨x, p, ts, c, rfl, ⟨dx, t, ex, as, et, pt⟩, ⟨u, ep, bs, eu, pu⟩, hl, q⟩ := h
    have oc := T.oc_Form
    have na := T.na_Form_terms
    have nc := T.na_Form_constant
    have hlt := pt.len
    have hlu := pu.len
    refine ⟨_, (pss_cons (ps_if (PW.pt (pw_or (pt_not (pt_val (pe_callB call_isi (by rfl) T.m_isinstance (by decide +kernel) (pa_cons (pv 0) (pa_cons (pe_glob (v := .ref T.C_Form) rfl T.gC_Form rfl) pa_nil))))) (pw_or (pt_not (pt_val (pe_callB call_isi (by rfl) T.m_isinstance (by decide +kernel) (pa_cons (pe_fld (pv 0) rfl) (pa_cons (pe_bltn (v := .ty "tuple") (by rfl) T.m_tuple (by decide +kernel) rfl) pa_nil))))) (pw_or1 (pt_cmpR op_ne (pe_callB call_len_seq (by rfl) T.m_len PySem.boot_len (pa_cons (pe_fld (pv 0) rfl) pa_nil)) (pe_callB call_len_seq (by rfl) T.m_len PySem.boot_len (pa_cons (pe_ix ix_tup (pv 1) pe_int (fun _ _ => rfl)) pa_nil)) (nomark _))))))
    (pss_one (ps_ret pe_bl))
    pss_nil)
    (pss_cons (ps_for PassesOwn.never rfl (pi_range1 rfl T.m_range (pa_cons (pe_callB call_len_seq (by rfl) T.m_len PySem.boot_len (pa_cons (pe_ix ix_tup (pv 1) pe_int (fun _ _ => rfl)) pa_nil)) pa_nil)) (pg_name (i := 2) sc_w_form_is.nd rfl (Or.inl rfl))
    (pss_cons (ps_set (i := 3) sc_w_form_is.nd rfl (Or.inl rfl) (pe_ix ix_tup (pe_fld (pv 0) rfl) (pv 2) (fun _ _ => rfl)))
    (pss_cons (ps_if (PW.pt (pw_or (pt_not (pt_val (pe_callB call_isi (by rfl) T.m_isinstance (by decide +kernel) (pa_cons (pv 3) (pa_cons (pe_bltn (v := .ty "tuple") (by rfl) T.m_tuple (by decide +kernel) rfl) pa_nil))))) (pw_or1 (pt_cmpR op_ne (pe_callB call_len_seq (by rfl) T.m_len PySem.boot_len (pa_cons (pv 3) pa_nil)) pe_int (nomark _)))))
    (pss_one (ps_ret pe_bl))
    pss_nil)
    (pss_cons (ps_if (PW.pt (pw_or (pt_not (pt_val (pe_callB call_isi (by rfl) T.m_isinstance (by decide +kernel) (pa_cons (pe_ix ix_tup (pv 3) pe_int (fun _ _ => rfl)) (pa_cons (pe_bltn (v := .ty "str") (by rfl) T.m_str (by decide +kernel) rfl) pa_nil))))) (pw_or1 (pt_not (pt_val (pe_call G_w_whole (hr.mono (by decide)) rfl T.g_w_whole T.F_w_whole.kp T.b_w_whole .nil pass0 (pa_cons (pe_ix ix_tup (pv 3) pe_int (fun _ _ => rfl)) pa_nil)))))))
    (pss_one (ps_ret pe_bl))
    pss_nil)
    (pss_one (ps_if (PW.pt (pw_or (pt_cmpR op_ne (pe_ix ix_tup (pv 3) pe_int (fun _ _ => rfl)) (pe_ix ix_tup (pe_ix ix_tup (pe_ix ix_tup (pv 1) pe_int (fun _ _ => rfl)) (pv 2) (fun _ _ => rfl)) pe_int (fun _ _ => rfl)) (nomark _)) (pw_or1 (pt_cmpR op_ne (pe_ix ix_tup (pv 3) pe_int (fun _ _ => rfl)) (pe_ix ix_tup (pe_ix ix_tup (pe_ix ix_tup (pv 1) pe_int (fun _ _ => rfl)) (pv 2) (fun _ _ => rfl)) pe_int (fun _ _ => rfl)) (nomark _)))))
    (pss_one (ps_ret pe_bl))
    pss_nil))))))
    (pss_one (ps_ret (pe_and (pe_call G_w_whole (hr.mono (by decide)) rfl T.g_w_whole T.F_w_whole.kp T.b_w_whole .nil pass0 (pa_cons (pe_fld (pv 0) rfl) pa_nil)) (pe_one (pe_cmpR op_eq (pe_fld (pv 0) rfl) (pe_ix ix_tup (pv 1) pe_int (fun _ _ => rfl)) (nomark _)))))))), ?_⟩
    walk_at "start"
    walk_at "sts"
    refine Ow.r_isiOwn oc ex ?_
    walk_at "sts"
    simp only [List.length_map, hlt, hlu]
    walk_at "sts"
    refine forR1_go (fun i σ' H' => ∃ (x1 x2 : Option V), σ' = [some (.ref x), some (.ref p), x1, x2] ∧ H' = H) (by omega) ⟨_, _, rfl, rfl⟩ ?_ ?_
    · rintro i σ' H' hi ⟨x1, x2, rfl, rfl⟩
      obtain ⟨z, hz⟩ : ∃ z, ts[i]? = some z := ⟨_, List.getElem?_eq_getElem (by omega)⟩
      obtain ⟨a, ha⟩ : ∃ a, as[i]? = some a := ⟨_, List.getElem?_eq_getElem (by omega)⟩
      obtain ⟨b, hb⟩ : ∃ b, bs[i]? = some b := ⟨_, List.getElem?_eq_getElem (by omega)⟩
      obtain ⟨z1, hz1, ea⟩ := pt.get ha
      obtain ⟨z2, hz2, eb⟩ := pu.get hb
      obtain rfl : z1 = z := Option.some.inj (hz1.symm.trans hz)
      obtain rfl : z2 = z1 := Option.some.inj (hz2.symm.trans hz)
      walk_at "sts"
      refine r_ixT (sqT_of et) (atRef ha) ?_
      walk_at "sts"
      refine r_whole ?_
      walk_at "sts"
      refine r_ixT (sqT_of eu) (atRef hb) ?_
      walk_at "sts"
      try rw [decide_eq_true rfl]
      walk_at "sts"
      refine r_ixT (sqT_of eu) (atRef hb) ?_
      walk_at "sts"
      try rw [decide_eq_true rfl]
      walk_at "sts"
      exact ⟨_, _, rfl, rfl⟩
    · rintro σ' H' ⟨x1, x2, rfl, rfl⟩
      walk_at "sts"
      refine r_whole ?_
      walk_at "sts"
      try rw [decide_eq_true rfl]
      exact q
end
/-! ### weights, signs, worlds -/
theorem PotAt.ml {a : Addr} {H : Hp} (h : PotAt a H) : ∀ m ∈ [a], ∃ ys, H m = some (.lst ys) := fun m hm => by
  obtain ⟨P, e, _⟩ := h
  rw [List.mem_singleton.mp hm]; exact ⟨_, e⟩
theorem ml1 {a : Addr} {H : Hp} {ys : List V} (h : H a = some (.lst ys)) : ∀ m ∈ [a], ∃ ys, H m = some (.lst ys) := fun m hm => by
  rw [List.mem_singleton.mp hm]; exact ⟨_, h⟩
theorem RowAt.keep {M : List Addr} {H H' : Hp} {t : Addr} {ts : List Fm.Tm} (h : RowAt H t ts) (k : Keep M H H') (n : ∀ m ∈ M, ∃ xs, H m = some (.lst xs)) (ht : t ∉ M) : RowAt H' t ts := by
  obtain ⟨as, e, p⟩ := h
  exact ⟨as, k _ _ ht e, p.keep k n⟩
theorem PotAt.keep0 {a : Addr} {H H' : Hp} (h : PotAt a H) (k : Keep [] H H') : PotAt a H' := by
  obtain ⟨P, e, hP⟩ := h
  exact ⟨P, k _ _ (by simp) e, hP⟩
abbrev sLe : Str := Str.ofString "<="
abbrev sLt : Str := Str.ofString "<"
abbrev sEq : Str := Str.ofString "="
def Sg (s : Str) : Prop := s = sLe ∨ s = sLt ∨ s = sEq
def spSign : Sp := fun vs H Q _ => ∃ a : Addr, vs = [.ref a] ∧ PotAt a H ∧ ∀ (s : Str) (H' : Hp), Sg s → Keep [a] H H' → PotAt a H' → Q (.str s) H'
/-- a world with exactly the names ns -/
def WorldAt (H : Hp) (m : Addr) (ns : List Str) (W : Fm.Wd) : Prop := ∃ kvs : List (Key × V), H m = some (.dK kvs) ∧ kvs.map (·.1) = ns.map Sum.inr ∧ ns.Nodup ∧ ∀ z ∈ ns, LevAt H kvs W z ∧ 0 < (W z).2 ∧ (W z).1.natAbs < 2 ^ 10 ∧ (W z).2.natAbs < 2 ^ 10
theorem WorldAt.keep {H H' : Hp} {M : List Addr} {m : Addr} {ns : List Str} {W : Fm.Wd} (h : WorldAt H m ns W) (k : Keep M H H') (n : ∀ m ∈ M, ∃ xs, H m = some (.lst xs)) : WorldAt H' m ns W := by
  obtain ⟨kvs, e, h1, h2, h3⟩ := h
  refine ⟨kvs, k _ _ (fun hm => ?_) e, h1, h2, fun z hz => ⟨(h3 z hz).1.keep k n, (h3 z hz).2⟩⟩
  obtain ⟨ys, hy⟩ := n m hm
  rw [e] at hy; cases hy
theorem keys_put {kvs : List (Key × V)} {ns : List Str} {z : Str} {v : V} (h : kvs.map (·.1) = ns.map Sum.inr) (hz : z ∉ ns) : (putK kvs (Sum.inr z) v).map (·.1) = (ns ++ [z]).map Sum.inr := by
  have n : ¬ (kvs.any fun kv => decide (kv.1 = Sum.inr z)) = true := fun e => by
    obtain ⟨kv, hkv, e⟩ := List.any_eq_true.mp e
    have : Sum.inr z ∈ kvs.map (·.1) := List.mem_map.mpr ⟨kv, hkv, of_decide_eq_true e⟩
    rw [h] at this
    obtain ⟨y, hy, e⟩ := List.mem_map.mp this
    exact hz (Sum.inr.inj e ▸ hy)
  unfold putK
  rw [if_neg n, List.map_append, List.map_append, h]; rfl
theorem WorldAt.put {H : Hp} {m q : Addr} {ns : List Str} {W : Fm.Wd} {kvs : List (Key × V)} {z : Str} {t b : Int} (hm : H m = some (.dK kvs)) (h1 : kvs.map (·.1) = ns.map Sum.inr) (h2 : ns.Nodup) (h3 : ∀ z ∈ ns, LevAt H kvs W z ∧ 0 < (W z).2 ∧ (W z).1.natAbs < 2 ^ 10 ∧ (W z).2.natAbs < 2 ^ 10)
    (hz : z ∉ ns) (hq : H q = some (.tup [.int t, .int b])) (b0 : 0 < b) (tb : t.natAbs < 2 ^ 10) (bb : b.natAbs < 2 ^ 10) : WorldAt (upd H m (.dK (putK kvs (Sum.inr z) (.ref q)))) m (ns ++ [z]) (Fm.moved W z (t, b)) := by
  refine ⟨_, upd_same, keys_put h1 hz, List.nodup_append.mpr ⟨h2, by simp, fun a ha c hc e => hz (by rw [← List.mem_singleton.mp hc, ← e]; exact ha)⟩, fun y hy => ?_⟩
  have other : ∀ {x : Addr} {vs : List V}, H x = some (.tup vs) → upd H m (.dK (putK kvs (Sum.inr z) (.ref q))) x = some (.tup vs) := fun {x vs} e => (Keep.at (M := [m]) (by simp)) _ _ (by simp; rintro rfl; rw [hm] at e; cases e) e
  unfold LevAt Fm.moved
  rw [valV_put]
  by_cases e : y = z
  · rw [if_pos (by rw [e]), if_pos e]
    exact ⟨⟨q, rfl, other hq⟩, b0, tb, bb⟩
  · rw [if_neg (fun e' => e (Sum.inr.inj e')), if_neg e]
    obtain ⟨⟨a, ha, ea⟩, h4⟩ := h3 y ((List.mem_append.mp hy).resolve_right (by simpa using e))
    exact ⟨⟨a, ha, other ea⟩, h4⟩
def spWorld : Sp := fun vs H Q _ => ∃ (a p : Addr) (xs : List Str), vs = [.ref a, .ref p] ∧ PotAt a H ∧ NamesAt H p xs ∧ xs.length < 20 ∧ xs.Nodup ∧ ∀ (m : Addr) (W : Fm.Wd) (H' : Hp), Keep [a] H H' → PotAt a H' → H m = none → WorldAt H' m xs W → Q (.ref m) H'
def rowOk (v : Int) (s : Str) : Bool := if s = sLe then decide (v ≤ 0) else if s = sLt then decide (v < 0) else decide (v = 0)
def spRowHolds : Sp := fun vs H Q _ => ∃ (v : Int) (s : Str), vs = [.int v, .str s] ∧ Q (.bl (rowOk v s)) H
theorem r_potIntW {Q : VK} {E : XK} {H : Hp} {m : Nat} {a : Addr} (hp : PotAt a H) (k : ∀ (r : Int) (H' : Hp), r.natAbs < m → Keep [a] H H' → PotAt a H' → Q (.int r) H') : spPotInt m [.ref a] H Q E := ⟨a, rfl, hp, k⟩
theorem atI_four {a b c d : V} {i : Int} (h0 : 0 ≤ i) (h1 : i < 4) {p : V → Prop} (ha : p a) (hb : p b) (hc : p c) (hd : p d) : ∃ v, atI [a, b, c, d] i = some v ∧ p v := by
  obtain ⟨n, rfl⟩ : ∃ n : Nat, i = n := ⟨i.toNat, by omega⟩
  match n, (show n < 4 by omega) with
  | 0, _ => exact ⟨a, atI_nat (j := 0) rfl, ha⟩
  | 1, _ => exact ⟨b, atI_nat (j := 1) rfl, hb⟩
  | 2, _ => exact ⟨c, atI_nat (j := 2) rfl, hc⟩
  | 3, _ => exact ⟨d, atI_nat (j := 3) rfl, hd⟩
section
variable {P : Program} {w : World} {K : PySem.W.Frag} {mg : Str → Option Value} {base : Heap}
theorem ok_weight (T : Tx K mg) (G_w_take : GTake P w K mg base T) : FnOk P w K mg base CX0 2 T.f_w_weight T.fd_w_weight ["_law_pot_here"] (spPotInt (10 ^ 30)) := by
  refine T.F_w_weight.ok sc_w_weight (fun vs H Q E h => ?_) (fun cdv A outer s H vs Q E hr h => ?_)
  · obtain ⟨a, rfl, _⟩ := h; rfl
  · obtain ⟨a, rfl, hp, q⟩ := h
    refine ⟨_, (pss_cons (ps_set (i := 1) sc_w_weight.nd rfl (Or.inl rfl) (pe_call G_w_take (hr.mono (by decide)) rfl T.g_w_take T.F_w_take.kp T.b_w_take .nil pass0 (pa_cons (pv 0) (pa_cons pe_int pa_nil))))
    (pss_cons (ps_set (i := 2) sc_w_weight.nd rfl (Or.inl rfl) (pe_op op_sub pe_int (pe_op op_mul pe_int (pe_call G_w_take (hr.mono (by decide)) rfl T.g_w_take T.F_w_take.kp T.b_w_take .nil pass0 (pa_cons (pv 0) (pa_cons pe_int pa_nil))))))
    (pss_cons (ps_if (pt_cmpR op_lt (pv 1) pe_int (nomark _))
    (pss_one (ps_ret (pe_op op_mulG (pv 2) (pe_call G_w_take (hr.mono (by decide)) rfl T.g_w_take T.F_w_take.kp T.b_w_take .nil pass0 (pa_cons (pv 0) (pa_cons pe_int pa_nil))))))
    pss_nil)
    (pss_cons (ps_if (pt_cmpR op_eq (pv 1) pe_int (nomark _))
    (pss_one (ps_ret (pe_op op_mulG (pv 2) (pe_call G_w_take (hr.mono (by decide)) rfl T.g_w_take T.F_w_take.kp T.b_w_take .nil pass0 (pa_cons (pv 0) (pa_cons pe_int pa_nil))))))
    pss_nil)
    (pss_one (ps_ret (pe_op op_mulG (pv 2) (pe_op op_sub (pe_ix ix_list (pe_lst (pa_cons (pe_op op_pow pe_int pe_int) (pa_cons (pe_op op_add (pe_op op_pow pe_int pe_int) pe_int) (pa_cons (pe_op op_pow pe_int pe_int) pa_nil)))) (pe_call G_w_take (hr.mono (by decide)) rfl T.g_w_take T.F_w_take.kp T.b_w_take .nil pass0 (pa_cons (pv 0) (pa_cons pe_int pa_nil))) (fun _ _ => rfl)) (pe_call G_w_take (hr.mono (by decide)) rfl T.g_w_take T.F_w_take.kp T.b_w_take .nil pass0 (pa_cons (pv 0) (pa_cons pe_int pa_nil))))))))))), ?_⟩
    walk_at "start"
    walk_at "sts"
    refine r_take hp (by omega) (by omega) fun r1 H1 a1 b1 k1 p1 => ?_
    walk_at "sts"
    refine r_take p1 (by omega) (by omega) fun r2 H2 a2 b2 k2 p2 => ?_
    walk_at "sts"
    refine r_ite (fun c1 => ?_) (fun c1 => ?_)
    · walk_at "sts"
      refine r_take p2 (by omega) (by omega) fun r3 H3 a3 b3 k3 p3 => ?_
      walk_at "sts"
      exact q _ _ (by rw [sgn_abs a2 b2]; omega) (k1.trans (k2.trans k3)) p3
    walk_at "sts"
    refine r_ite (fun c2 => ?_) (fun c2 => ?_)
    · walk_at "sts"
      refine r_take p2 (by omega) (by omega) fun r3 H3 a3 b3 k3 p3 => ?_
      walk_at "sts"
      exact q _ _ (by rw [sgn_abs a2 b2]; omega) (k1.trans (k2.trans k3)) p3
    walk_at "sts"
    intro l hl
    walk_at "sts"
    refine r_take (p2.new hl) (by omega) (by omega) fun r3 H3 a3 b3 k3 p3 => ?_
    have el : H3 l = some (.lst ([10 ^ 9, 2 ^ 53 + 3, 10 ^ 26].map V.int)) := k3 l _ (by simp; exact p2.ne hl) upd_same
    walk_at "sts"
    have hb := getD_all (p := fun x => 4 ≤ x ∧ x ≤ 10 ^ 26) (P := [10 ^ 9, 2 ^ 53 + 3, 10 ^ 26]) (i := r3.toNat) (by decide) (by show r3.toNat < 3; omega)
    generalize List.getD [10 ^ 9, 2 ^ 53 + 3, 10 ^ 26] r3.toNat (0 : Int) = ed at hb ⊢
    walk_at "sts"
    refine r_take p3 (by omega) (by omega) fun r4 H4 a4 b4 k4 p4 => ?_
    walk_at "sts"
    exact q _ _ (by rw [sgn_abs a2 b2]; omega) (k1.trans (k2.trans ((Keep.new hl).trans (k3.trans k4)))) p4
theorem ok_sign (T : Tx K mg) (G_w_take : GTake P w K mg base T) : FnOk P w K mg base CX0 2 T.f_w_sign T.fd_w_sign ["_law_pot_here"] spSign := by
  refine T.F_w_sign.ok sc_w_sign (fun vs H Q E h => ?_) (fun cdv A outer s H vs Q E hr h => ?_)
  · obtain ⟨a, rfl, _⟩ := h; rfl
  · obtain ⟨a, rfl, hp, q⟩ := h
    refine ⟨_, (pss_one (ps_ret (pe_ix ix_list (pe_lst (pa_cons pe_str (pa_cons pe_str (pa_cons pe_str (pa_cons pe_str pa_nil))))) (pe_call G_w_take (hr.mono (by decide)) rfl T.g_w_take T.F_w_take.kp T.b_w_take .nil pass0 (pa_cons (pv 0) (pa_cons pe_int pa_nil))) (fun _ _ => rfl)))), ?_⟩
    walk_at "start"
    walk_at "sts"
    intro l hl
    walk_at "sts"
    refine r_take (hp.new hl) (by omega) (by omega) fun r3 H3 a3 b3 k3 p3 => ?_
    have el : H3 l = some (.lst [.str sLe, .str sLt, .str sEq, .str sLe]) := k3 l _ (by simp; exact hp.ne hl) upd_same
    obtain ⟨v, hv, s', hs, rfl⟩ := atI_four (p := fun v => ∃ s, Sg s ∧ v = V.str s) a3 b3 ⟨sLe, .inl rfl, rfl⟩ ⟨sLt, .inr (.inl rfl), rfl⟩ ⟨sEq, .inr (.inr rfl), rfl⟩ ⟨sLe, .inl rfl, rfl⟩
    walk_at "sts"
    exact q _ _ hs ((Keep.new hl).trans k3) p3
theorem ok_rowHolds (T : Tx K mg) : FnOk P w K mg base CX0 1 T.f_row_holds T.fd_row_holds ["value", "sign"] spRowHolds := by
  refine T.F_row_holds.ok sc_row_holds (fun vs H Q E h => ?_) (fun cdv A outer s H vs Q E hr h => ?_)
  · obtain ⟨v, s, rfl, _⟩ := h; rfl
  · obtain ⟨v, s, rfl, q⟩ := h
    refine ⟨_, (pss_cons (ps_if (pt_cmpR op_eq (pv 1) pe_str (nomark _))
    (pss_one (ps_ret (pe_cmpR op_le (pv 0) pe_int (nomark _))))
    pss_nil)
    (pss_one (ps_ret (pe_ifExp (pt_cmpR op_eq (pv 1) pe_str (nomark _)) (pe_cmpR op_lt (pv 0) pe_int (nomark _)) (pe_cmpR op_eq (pv 0) pe_int (nomark _)))))), ?_⟩
    walk_at "start"
    walk_at "sts"
    unfold rowOk at q
    refine r_ite (fun c1 => ?_) (fun c1 => ?_)
    · rw [if_pos c1] at q
      walk_at "sts"
      exact q
    rw [if_neg c1] at q
    walk_at "sts"
    refine r_ite (fun c2 => ?_) (fun c2 => ?_)
    · rw [if_pos c2] at q
      walk_at "sts"
      exact q
    · rw [if_neg c2] at q
      walk_at "sts"
      exact q
theorem ok_world (T : Tx K mg) (G_w_take : GTake P w K mg base T) (G_w_lowest : FnOk P w K mg base CX0 1 T.f_w_lowest T.fd_w_lowest ["_law_top", "_law_bottom"] spLow0) : FnOk P w K mg base CX0 2 T.f_w_world T.fd_w_world ["_law_pot_here", "_law_pool_here"] spWorld := by
  refine T.F_w_world.ok sc_w_world (fun vs H Q E h => ?_) (fun cdv A outer s H vs Q E hr h => ?_)
  · obtain ⟨a, p, xs, rfl, _⟩ := h; rfl
  · obtain ⟨a, pl, xs, rfl, hp, en, lx, nd, q⟩ := h
    refine ⟨_, (pss_cons (ps_set (i := 2) sc_w_world.nd rfl (Or.inl rfl) (pe_call G_w_take (hr.mono (by decide)) rfl T.g_w_take T.F_w_take.kp T.b_w_take .nil pass0 (pa_cons (pv 0) (pa_cons pe_int pa_nil))))
    (pss_cons (ps_set (i := 3) sc_w_world.nd rfl (Or.inl rfl) pe_dnewK)
    (pss_cons (ps_for PassesOwn.never rfl (pi_list (pv 1)) (pg_name (i := 4) sc_w_world.nd rfl (Or.inl rfl))
    (pss_cons (ps_set (i := 5) sc_w_world.nd rfl (Or.inl rfl) pe_int)
    (pss_cons (ps_if (pt_cmpR op_eq (pv 2) pe_int (nomark _))
    (pss_one (ps_set (i := 5) sc_w_world.nd rfl (Or.inl rfl) (pe_op op_add pe_int (pe_call G_w_take (hr.mono (by decide)) rfl T.g_w_take T.F_w_take.kp T.b_w_take .nil pass0 (pa_cons (pv 0) (pa_cons pe_int pa_nil))))))
    pss_nil)
    (pss_one (ps_dput (hu_of hr) (pv 3) (pv 4) (pe_call G_w_lowest (hr.mono (by decide)) rfl T.g_w_lowest T.F_w_lowest.kp T.b_w_lowest .nil pass0 (pa_cons (pe_op op_sub (pe_call G_w_take (hr.mono (by decide)) rfl T.g_w_take T.F_w_take.kp T.b_w_take .nil pass0 (pa_cons (pv 0) (pa_cons pe_int pa_nil))) pe_int) (pa_cons (pv 5) pa_nil))) rfl)))))
    (pss_one (ps_ret (pv 3)))))), ?_⟩
    walk_at "start"
    walk_at "sts"
    refine r_take hp (by omega) (by omega) fun fi H1 a1 b1 k1 p1 => ?_
    have npl : pl ≠ a := hp.ne' en notpot_strs
    have en1 : NamesAt H1 pl xs := k1 _ _ (by simpa using npl) en
    walk_at "sts"
    intro m hm
    have nm : m ≠ a := p1.ne hm
    have em : upd H1 m (.dK []) m = some (.dK []) := upd_same
    have k2 : Keep [a] H1 (upd H1 m (.dK [])) := Keep.new hm
    have p2 := p1.new (o := .dK []) hm
    generalize upd H1 m (.dK []) = H2 at em k2 p2 ⊢
    walk_at "sts"
    have nam : ∀ {H' : Hp}, Keep [a] H1 H' → NamesAt H' pl xs := fun k => k _ _ (by simpa using npl) en1
    refine forL_go (fun i σ' H' => ∃ (W : Fm.Wd) (x1 x2 : Option V), σ' = [some (.ref a), some (.ref pl), some (.int fi), some (.ref m), x1, x2] ∧ WorldAt H' m (xs.take i) W ∧ Keep [a] H1 H' ∧ PotAt a H') (sqL_of (nam k2)) ⟨fun _ => (0, 1), _, _, by first | exact rfl | trivial, ⟨[], em, by simp, by simp, by simp⟩, k2, p2⟩ (fun i σ' H' _ h => by obtain ⟨_, _, _, _, _, k, _⟩ := h; exact sqL_of (nam k)) ?_ ?_
    · rintro i x σ' H3 hx ⟨W, x1, x2, rfl, w3, k3, p3⟩
      obtain ⟨z, hz, rfl⟩ := getStr hx
      have hi : i < xs.length := (List.getElem?_eq_some_iff.mp hz).1
      walk_at "sts"
      refine r_ite (fun c => ?_) (fun c => ?_)
      · walk_at "sts"
        refine r_take p3 (by omega) (by omega) fun r4 H4 a4 b4 k4 p4 => ?_
        walk_at "sts"
        refine r_take p4 (by omega) (by omega) fun r5 H5 a5 b5 k5 p5 => ?_
        walk_at "sts"
        refine r_low0 (t := r5 - 6) (b := 1 + r4) (by omega) (Nat.lt_trans (show Int.natAbs (1 + r4) < 2 ^ 10 by omega) (Nat.pow_lt_pow_right (by decide) (by decide))) fun lv H6 k6 nlv elv => ?_
        have k36 : Keep [a] H3 H6 := k4.trans (k5.trans (k6.mono (by simp)))
        have p6 := p5.keep0 k6
        have tl := lowT_le (t := r5 - 6) (b := 1 + r4) (by omega)
        have bl := lowB_le (t := r5 - 6) (b := 1 + r4) (by omega)
        have bp := lowB_pos (t := r5 - 6) (b := 1 + r4) (by omega)
        obtain ⟨kvs, e6, h1, h2, h3⟩ := w3.keep k36 p3.ml
        walk_at "sts"
        refine r_dputS e6 (lt_size (by have := congrArg List.length h1; rw [List.length_map, List.length_map, List.length_take] at this; omega)) ?_
        have fresh : z ∉ xs.take i := fun hm => by
          have n2 := nd
          rw [← List.take_append_drop (i + 1) xs, take_snoc hz] at n2
          exact (List.nodup_append.mp (List.nodup_append.mp n2).1).2.2 z hm z (by simp) rfl
        have w7 := WorldAt.put e6 h1 h2 h3 fresh elv bp (by omega) (by omega)
        rw [← take_snoc hz] at w7
        walk_at "sts"
        exact ⟨_, _, _, by first | exact rfl | trivial, w7, (k3.trans k36).mut hm, p6.put nm⟩
      · have p4 := p3
        walk_at "sts"
        refine r_take p4 (by omega) (by omega) fun r5 H5 a5 b5 k5 p5 => ?_
        walk_at "sts"
        refine r_low0 (t := r5 - 6) (b := 1) (by omega) (Nat.lt_trans (show Int.natAbs (1) < 2 ^ 10 by omega) (Nat.pow_lt_pow_right (by decide) (by decide))) fun lv H6 k6 nlv elv => ?_
        have k36 : Keep [a] H3 H6 := k5.trans (k6.mono (by simp))
        have p6 := p5.keep0 k6
        have tl := lowT_le (t := r5 - 6) (b := 1) (by omega)
        have bl := lowB_le (t := r5 - 6) (b := 1) (by omega)
        have bp := lowB_pos (t := r5 - 6) (b := 1) (by omega)
        obtain ⟨kvs, e6, h1, h2, h3⟩ := w3.keep k36 p3.ml
        walk_at "sts"
        refine r_dputS e6 (lt_size (by have := congrArg List.length h1; rw [List.length_map, List.length_map, List.length_take] at this; omega)) ?_
        have fresh : z ∉ xs.take i := fun hm => by
          have n2 := nd
          rw [← List.take_append_drop (i + 1) xs, take_snoc hz] at n2
          exact (List.nodup_append.mp (List.nodup_append.mp n2).1).2.2 z hm z (by simp) rfl
        have w7 := WorldAt.put e6 h1 h2 h3 fresh elv bp (by omega) (by omega)
        rw [← take_snoc hz] at w7
        walk_at "sts"
        exact ⟨_, _, _, by first | exact rfl | trivial, w7, (k3.trans k36).mut hm, p6.put nm⟩
    · rintro σ' H3 ⟨W, x1, x2, rfl, w3, k3, p3⟩
      rw [List.take_of_length_le (by rw [List.length_map]; exact Nat.le_refl _)] at w3
      walk_at "sts"
      exact q _ _ _ (k1.trans k3) p3 (k1.free (by simpa using nm) hm) w3
end
/-! ### rows told by their items -/
def Each {α : Type} (R : Addr → α → Prop) : List Addr → List α → Prop
  | [], [] => True
  | a :: as, x :: xs => R a x ∧ Each R as xs
  | _, _ => False
section
variable {α : Type} {R S : Addr → α → Prop}
theorem Each.len : ∀ {as : List Addr} {xs : List α}, Each R as xs → as.length = xs.length
  | [], [], _ => rfl
  | _ :: _, _ :: _, h => congrArg Nat.succ (Each.len h.2)
  | [], _ :: _, h => h.elim
  | _ :: _, [], h => h.elim
theorem Each.get : ∀ {as : List Addr} {xs : List α} {i : Nat} {a : Addr}, Each R as xs → as[i]? = some a → ∃ x, xs[i]? = some x ∧ R a x
  | [], _, _, _, _, e => by simp at e
  | _ :: _, [], _, _, h, _ => h.elim
  | b :: as, p :: ts, 0, a, h, e => by
    have : b = a := by simpa using e
    subst this; exact ⟨p, rfl, h.1⟩
  | b :: as, p :: ts, i + 1, a, h, e => by
    obtain ⟨q, h1, h2⟩ := Each.get (i := i) h.2 (by simpa using e)
    exact ⟨q, by simpa using h1, h2⟩
theorem Each.getR {as : List Addr} {xs : List α} {i : Nat} {x : α} (h : Each R as xs) (e : xs[i]? = some x) : ∃ a, as[i]? = some a ∧ R a x := by
  have hi : i < as.length := by rw [h.len]; exact (List.getElem?_eq_some_iff.mp e).1
  obtain ⟨y, hy, r⟩ := h.get (List.getElem?_eq_getElem hi)
  rw [e] at hy
  exact ⟨_, List.getElem?_eq_getElem hi, Option.some.inj hy ▸ r⟩
theorem Each.mono : ∀ {as : List Addr} {xs : List α}, Each R as xs → (∀ a x, R a x → S a x) → Each S as xs
  | [], [], _, _ => trivial
  | a :: as, p :: ts, h, k => ⟨k a p h.1, h.2.mono k⟩
  | [], _ :: _, h, _ => h.elim
  | _ :: _, [], h, _ => h.elim
theorem Each.app : ∀ {as bs : List Addr} {xs ys : List α}, Each R as xs → Each R bs ys → Each R (as ++ bs) (xs ++ ys)
  | [], _, [], _, _, k => k
  | _ :: _, _, _ :: _, _, h, k => ⟨h.1, h.2.app k⟩
  | [], _, _ :: _, _, h, _ => h.elim
  | _ :: _, _, [], _, h, _ => h.elim
theorem Each.take {as : List Addr} {xs : List α} (h : Each R as xs) (n : Nat) : Each R (as.take n) (xs.take n) := by
  induction n generalizing as xs with
  | zero => simp only [List.take_zero]; trivial
  | succ n ih => match as, xs, h with
    | [], [], _ => trivial
    | _ :: _, _ :: _, h => exact ⟨h.1, ih h.2⟩
theorem Each.drop {as : List Addr} {xs : List α} (h : Each R as xs) (n : Nat) : Each R (as.drop n) (xs.drop n) := by
  induction n generalizing as xs with
  | zero => simpa using h
  | succ n ih => match as, xs, h with
    | [], [], _ => trivial
    | _ :: _, _ :: _, h => exact ih h.2
end
/-- a row of the law: terms and constant, and the sign -/
abbrev Lr := (List Fm.Tm × Int) × Str
def RowOne (H : Hp) (a : Addr) (r : Lr) : Prop := ∃ d, H a = some (.tup [.ref d, .str r.2]) ∧ DueAt H d r.1.1 r.1.2
theorem RowOne.keep {H H' : Hp} {M : List Addr} {a : Addr} {r : Lr} (h : RowOne H a r) (k : Keep M H H') (n : ∀ m ∈ M, ∃ xs, H m = some (.lst xs)) : RowOne H' a r := by
  obtain ⟨d, e, p⟩ := h
  refine ⟨d, k _ _ (fun hm => ?_) e, p.keep k n⟩
  obtain ⟨ys, hy⟩ := n a hm
  rw [e] at hy; cases hy
def LRows (H : Hp) (p : Addr) (rs : List Lr) : Prop := ∃ as : List Addr, H p = some (.lst (as.map V.ref)) ∧ Each (RowOne H) as rs
theorem LRows.keep {H H' : Hp} {M : List Addr} {p : Addr} {rs : List Lr} (h : LRows H p rs) (k : Keep M H H') (n : ∀ m ∈ M, ∃ xs, H m = some (.lst xs)) (hp : p ∉ M) : LRows H' p rs := by
  obtain ⟨as, e, h⟩ := h
  exact ⟨as, k _ _ hp e, h.mono fun a x r => r.keep k n⟩
theorem LRows.keep0 {H H' : Hp} {p : Addr} {rs : List Lr} (h : LRows H p rs) (k : Keep [] H H') : LRows H' p rs := h.keep k (by simp) (by simp)
/-- a row within bounds, over the names xs -/
structure ROk (xs : List Str) (k : Nat) (r : Lr) : Prop where
  f : Fm.FOk (fun z => z ∈ xs) 4 k r.1.1 r.1.2
  s : Sg r.2
def spRows : Sp := fun vs H Q _ => ∃ (a p m : Addr) (xs : List Str) (W : Fm.Wd), vs = [.ref a, .ref p, .ref m] ∧ PotAt a H ∧ NamesAt H p xs ∧ WorldAt H m xs W ∧ 0 < xs.length ∧ xs.length ≤ 4 ∧ ∀ (q : Addr) (rs : List Lr) (H' : Hp), Keep [a] H H' → PotAt a H' → H q = none → LRows H' q rs → rs.length ≤ 6 → (∀ r ∈ rs, ROk xs 200 r) → Q (.ref q) H'
theorem can_okx {xs : List Str} {k : Nat} {ts : List Fm.Tm} {c : Int} (hl : ts.length ≤ 60) (hx : xs.length ≤ 4) (h : ∀ t ∈ ts, t.1 ∈ xs ∧ t.2.natAbs < 2 ^ k) (hc : c.natAbs < 2 ^ (k + 6)) : Fm.FOk (fun z => z ∈ xs) 4 (k + 6) (Fm.can ts) c := by
  have := Fm.can_ok (N := fun z => z ∈ xs) (k := k) (ts := ts) (c := c) hl (fun p hp => (h p hp).1) (fun p hp => (h p hp).2) hc
  exact ⟨this.can, Nat.le_trans (this.can.short this.nm) hx, this.nm, this.wb, this.cb⟩
section
variable {P : Program} {w : World} {K : PySem.W.Frag} {mg : Str → Option Value} {base : Heap}
theorem ok_rows (T : Tx K mg) (G_w_take : GTake P w K mg base T) (G_w_weight : FnOk P w K mg base CX0 2 T.f_w_weight T.fd_w_weight ["_law_pot_here"] (spPotInt (10 ^ 30))) (G_w_tidy : FnOk P w K mg base CX0 1 T.f_w_tidy T.fd_w_tidy ["_law_pairs", "_law_constant"] spTidy)
    (G_w_value : FnOk P w K mg base CX0 2 T.f_w_value T.fd_w_value ["_law_due", "_law_world_here"] spValL) (G_w_sign : FnOk P w K mg base CX0 2 T.f_w_sign T.fd_w_sign ["_law_pot_here"] spSign) : FnOk P w K mg base CX0 3 T.f_w_rows T.fd_w_rows ["_law_pot_here", "_law_pool_here", "_law_world_here"] spRows := by
  refine T.F_w_rows.ok sc_w_rows (fun vs H Q E h => ?_) (fun cdv A outer s H vs Q E hr h => ?_)
  · obtain ⟨a, p, m, xs, W, rfl, _⟩ := h; rfl
  · obtain ⟨a, pl, m, xs, W, rfl, hp, en, hw, l0, l4, q⟩ := h
    have npl : pl ≠ a := hp.ne' en notpot_strs
    have nam : ∀ {H' : Hp}, Keep [a] H H' → NamesAt H' pl xs := fun k => k _ _ (by simpa using npl) en
    refine ⟨_, (pss_cons (ps_set (i := 3) sc_w_rows.nd rfl (Or.inl rfl) (pe_lst pa_nil))
    (pss_cons (ps_for PassesOwn.never rfl (pi_range1 rfl T.m_range (pa_cons (pe_call G_w_take (hr.mono (by decide)) rfl T.g_w_take T.F_w_take.kp T.b_w_take .nil pass0 (pa_cons (pv 0) (pa_cons pe_int pa_nil))) pa_nil)) (pg_name (i := 4) sc_w_rows.nd rfl (Or.inl rfl))
    (pss_cons (ps_set (i := 5) sc_w_rows.nd rfl (Or.inl rfl) (pe_lst pa_nil))
    (pss_cons (ps_for PassesOwn.never rfl (pi_range1 rfl T.m_range (pa_cons (pe_call G_w_take (hr.mono (by decide)) rfl T.g_w_take T.F_w_take.kp T.b_w_take .nil pass0 (pa_cons (pv 0) (pa_cons pe_int pa_nil))) pa_nil)) (pg_name (i := 6) sc_w_rows.nd rfl (Or.inl rfl))
    (pss_one (ps_expr (pe_bm PySem.F.plainAttrs_list PySem.F.slot_list_append PySem.F.type_list_append mt_append (pv 5) (pa_cons (pe_tup (pa_cons (pe_ix ix_list (pv 1) (pe_call G_w_take (hr.mono (by decide)) rfl T.g_w_take T.F_w_take.kp T.b_w_take .nil pass0 (pa_cons (pv 0) (pa_cons (pe_callB call_len_seq (by rfl) T.m_len PySem.boot_len (pa_cons (pv 1) pa_nil)) pa_nil))) (fun _ _ => rfl)) (pa_cons (pe_call G_w_weight (hr.mono (by decide)) rfl T.g_w_weight T.F_w_weight.kp T.b_w_weight .nil pass0 (pa_cons (pv 0) pa_nil)) pa_nil))) pa_nil)))))
    (pss_cons (ps_set (i := 7) sc_w_rows.nd rfl (Or.inl rfl) (pe_call G_w_tidy (hr.mono (by decide)) rfl T.g_w_tidy T.F_w_tidy.kp T.b_w_tidy .nil pass0 (pa_cons (pv 5) (pa_cons (pe_call G_w_weight (hr.mono (by decide)) rfl T.g_w_weight T.F_w_weight.kp T.b_w_weight .nil pass0 (pa_cons (pv 0) pa_nil)) pa_nil))))
    (Evl.pss_cut (ps_if (pt_cmpR op_eq (pe_call G_w_take (hr.mono (by decide)) rfl T.g_w_take T.F_w_take.kp T.b_w_take .nil pass0 (pa_cons (pv 0) (pa_cons pe_int pa_nil))) pe_int (nomark _))
    (pss_cons (ps_set (i := 8) sc_w_rows.nd rfl (Or.inr rfl) (pe_call G_w_value (hr.mono (by decide)) rfl T.g_w_value T.F_w_value.kp T.b_w_value .nil pass0 (pa_cons (pv 7) (pa_cons (pv 2) pa_nil))))
    (pss_cons (ps_set (i := 9) sc_w_rows.nd rfl (Or.inl rfl) (pe_op op_sub (pe_op op_add (pe_op op_sub (pe_op op_mulG (pe_ix ix_tup (pv 8) pe_int (fun _ _ => rfl)) (pe_ix ix_tup (pv 7) pe_int (fun _ _ => rfl))) (pe_ix ix_tup (pv 8) pe_int (fun _ _ => rfl))) (pe_call G_w_take (hr.mono (by decide)) rfl T.g_w_take T.F_w_take.kp T.b_w_take .nil pass0 (pa_cons (pv 0) (pa_cons pe_int pa_nil)))) pe_int))
    (pss_one (ps_set (i := 7) sc_w_rows.nd rfl (Or.inl rfl) (pe_call G_w_tidy (hr.mono (by decide)) rfl T.g_w_tidy T.F_w_tidy.kp T.b_w_tidy .nil pass0 (pa_cons (pe_lc (own := [("_law_pair", 10)]) (g := gName 10) (tt := tYes) rfl sc_w_rows.nd (pi_tup (pe_ix ix_tup (pv 7) pe_int (fun _ _ => rfl))) (blkOk_by (own := [("_law_pair", 10)]) (N := ["_law_pot_here", "_law_pool_here", "_law_world_here", "_law_rows_here", "_law_k", "_law_pairs", "_law_j", "_law_form", "_law_value_here", "_law_near", "_law_pair"]) (sc := defScope s_w_rows) (by decide +kernel)) (fun _ _ _ _ _ => pg_name (i := 10) sc_w_rows.nd rfl (Or.inl rfl)) (fun _ _ _ _ _ => pts_nil) (fun _ _ _ _ _ => (pe_tup (pa_cons (pe_ix (ix_tupK (K := K) rfl) (pv 10) pe_int (fun _ _ => rfl)) (pa_cons (pe_op op_mulG (pe_ix (ix_tupK (K := K) rfl) (pv 8) pe_int (fun _ _ => rfl)) (pe_ix (ix_tupK (K := K) rfl) (pv 10) pe_int (fun _ _ => rfl))) pa_nil))))) (pa_cons (pv 9) pa_nil)))))))
    pss_nil)
    (pss_one (ps_expr (pe_bm PySem.F.plainAttrs_list PySem.F.slot_list_append PySem.F.type_list_append mt_append (pv 3) (pa_cons (pe_tup (pa_cons (pv 7) (pa_cons (pe_call G_w_sign (hr.mono (by decide)) rfl T.g_w_sign T.F_w_sign.kp T.b_w_sign .nil pass0 (pa_cons (pv 0) pa_nil)) pa_nil))) pa_nil)))))))))
    (pss_one (ps_ret (pv 3))))), ?_⟩
    walk_at "start"
    walk_at "sts"
    intro lr hlr
    have nra := hp.ne hlr
    have p1 := hp.new (o := .lst []) hlr
    have k1 : Keep [a] H (upd H lr (.lst [])) := Keep.new hlr
    have e1 : upd H lr (.lst []) lr = some (.lst (([] : List Addr).map V.ref)) := upd_same
    generalize upd H lr (.lst []) = H1 at p1 k1 e1 ⊢
    walk_at "sts"
    refine r_take p1 (by omega) (by omega) fun n H2 a2 b2 k2 p2 => ?_
    have e2 := k2 _ _ (by simpa using nra) e1
    walk_at "sts"
    refine forR1_go (fun i σ' H' => ∃ (as : List Addr) (rs : List Lr) (x1 x2 x3 x4 x5 x6 : Option V), σ' = [some (.ref a), some (.ref pl), some (.ref m), some (.ref lr), x1, x2, x3, x4, x5, x6, none] ∧ H' lr = some (.lst (as.map V.ref)) ∧ Each (RowOne H') as rs ∧ rs.length = i ∧ (∀ r ∈ rs, ROk xs 200 r) ∧ Keep [a] H H' ∧ PotAt a H') (by omega) ⟨[], [], _, _, _, _, _, _, by first | exact rfl | trivial, e2, trivial, rfl, by simp, k1.trans k2, p2⟩ ?_ ?_
    · rintro i σ' H3 hi ⟨as, rs, x1, x2, x3, x4, x5, x6, rfl, e3, r3, l3, ok3, k3, p3⟩
      walk_at "sts"
      intro lp hlp
      have nla := p3.ne hlp
      have np : lp ≠ lr := by rintro rfl; rw [e3] at hlp; cases hlp
      have p4 := p3.new (o := .lst []) hlp
      have k4 : Keep [a] H3 (upd H3 lp (.lst [])) := Keep.new hlp
      have e4 : upd H3 lp (.lst []) lp = some (.lst (([] : List Addr).map V.ref)) := upd_same
      generalize upd H3 lp (.lst []) = H4 at p4 k4 e4 ⊢
      walk_at "sts"
      refine r_take p4 (by omega) (by omega) fun n5 H5 a5 b5 k5 p5 => ?_
      have e5 := k5 _ _ (by simpa using nla) e4
      walk_at "sts"
      refine forR1_go (fun j σ' H' => ∃ (bs : List Addr) (ts : List Fm.Tm) (y : Option V), σ' = [some (.ref a), some (.ref pl), some (.ref m), some (.ref lr), some (.int i), some (.ref lp), y, x4, x5, x6, none] ∧ H' lp = some (.lst (bs.map V.ref)) ∧ PairsAt H' bs ts ∧ PotAt a H' ∧ Keep [a] H3 H' ∧ ts.length ≤ j ∧ ∀ t ∈ ts, t.1 ∈ xs ∧ t.2.natAbs < 2 ^ 100) (by omega) ⟨[], [], _, by first | exact rfl | trivial, e5, trivial, p5, k4.trans k5, by simp, by simp⟩ ?_ ?_
      · rintro j σ' H6 hj ⟨bs, ts, y, rfl, e6, r6, p6, k6, l6, h6⟩
        have n6 := nam (k3.trans k6)
        have n6' : H6 pl = some (.lst (xs.map V.str)) := n6
        walk_at "sts"
        simp only [List.length_map]
        refine r_take p6 (by omega) (by omega) fun n7 H7 a7 b7 k7 p7 => ?_
        have n7' : NamesAt H7 pl xs := nam ((k3.trans k6).trans k7)
        obtain ⟨nm, hnm, mnm⟩ := atI_strs (xs := xs) a7 (by omega)
        refine r_ixL (sqL_of n7') hnm ?_
        walk_at "sts"
        refine r_potIntW p7 fun wg H8 h8 k8 p8 => ?_
        have k78 := k7.trans k8
        have e8 := k78 _ _ (by simpa using nla) e6
        have r8 := r6.keep k78 p6.lst
        walk_at "sts"
        intro t ht
        have e9 : upd H8 t (.tup [.str nm, .int wg]) t = some (.tup [.str nm, .int wg]) := upd_same
        have kt : Keep [] H8 (upd H8 t (.tup [.str nm, .int wg])) := Keep.new ht
        have p9 := p8.new (o := .tup [.str nm, .int wg]) ht
        generalize upd H8 t (.tup [.str nm, .int wg]) = H9 at e9 kt p9 ⊢
        have el9 := kt _ _ (by simp) e8
        have hlen := r6.len
        walk_at "sts"
        have k10 : Keep [lp] H9 (upd H9 lp (.lst (bs.map V.ref ++ [.ref t]))) := Keep.at (by simp)
        refine ⟨bs ++ [t], ts ++ [(nm, wg)], _, by first | exact rfl | trivial, by rw [upd_same, List.map_append]; rfl, ((r8.keep0 kt).app (bs := [t]) (us := [(nm, wg)]) ⟨e9, trivial⟩).keep k10 (ml1 el9), p9.put nla, ((k6.trans k78).trans (kt.mono (by simp))).mut hlp, by simp; omega, fun z hz => ?_⟩
        rcases List.mem_append.mp hz with hz | hz
        · exact h6 z hz
        · rw [List.mem_singleton.mp hz]; exact ⟨mnm, by show wg.natAbs < 2 ^ 100; omega⟩
      · rintro σ' H6 ⟨bs, ts, y, rfl, e6, r6, p6, k6, l6, h6⟩
        walk_at "sts"
        refine r_potIntW p6 fun c H7 h7 k7 p7 => ?_
        have row7 : RowAt H7 lp ts := ⟨bs, k7 _ _ (by simpa using nla) e6, r6.keep k7 p6.ml⟩
        walk_at "sts"
        refine ⟨lp, ts, c, rfl, row7, by omega, fun f H8 k8 nf df => ?_⟩
        have ok8 := can_okx (k := 100) (by omega) l4 h6 (c := c) (by omega)
        have k38 : Keep [a] H3 H8 := (k6.trans k7).trans (k8.mono (by simp))
        have p8 := p7.keep0 k8
        have w8 := hw.keep (k3.trans k38) hp.ml
        refine r_cut (fun σ' H' => ∃ (g : Addr) (us : List Fm.Tm) (d : Int) (y1 y2 : Option V), σ' = [some (.ref a), some (.ref pl), some (.ref m), some (.ref lr), some (.int i), some (.ref lp), y, some (.ref g), y1, y2, none] ∧ DueAt H' g us d ∧ Fm.FOk (fun z => z ∈ xs) 4 200 us d ∧ Keep [a] H3 H' ∧ PotAt a H') ?_ ?_
        · walk_at "sts"
          refine r_take p8 (by omega) (by omega) fun n9 H9 a9 b9 k9 p9 => ?_
          walk_at "sts"
          simp only [List.set_cons_succ, List.set_cons_zero]
          refine r_ite (fun c1 => ?_) (fun c1 => ?_)
          · have w9 := w8.keep k9 p8.ml
            have df9 := df.keep k9 p8.ml
            have l4f := ok8.len
            obtain ⟨kvs, em9, hk1, hk2, hk3⟩ := w9
            walk_at "sts"
            refine ⟨f, m, Fm.can ts, c, kvs, W, rfl, df9, em9, fun t ht => ⟨(hk3 _ (ok8.nm t ht)).1, (hk3 _ (ok8.nm t ht)).2.1⟩, by omega, fun t ht => ⟨Fm.pow_le (ok8.wb t ht) (by decide), Fm.pow_le (hk3 _ (ok8.nm t ht)).2.2.1 (by decide), Fm.pow_le (hk3 _ (ok8.nm t ht)).2.2.2 (by decide)⟩, Fm.pow_le ok8.cb (by decide), fun v H10 k10 nv ev => ?_⟩
            obtain ⟨ab1, ab2⟩ := Fm.acc_boundG (W := W) 106 10 10 (ts := Fm.can ts) (s := (c, 1)) (i := 0) (fun t ht => ⟨ok8.wb t ht, (hk3 _ (ok8.nm t ht)).2.2⟩) (Fm.pow_le ok8.cb (by decide)) (show (1 : Int).natAbs < 2 ^ (1 + 10 * 0) by decide)
            have apos := Fm.acc_pos (W := W) (ts := Fm.can ts) (s := (c, 1)) (fun t ht => (hk3 _ (ok8.nm t ht)).2.1) Int.one_pos
            have vt := Nat.lt_of_le_of_lt (lowT_le (t := (Fm.accV W (Fm.can ts) (c, 1)).1) (b := (Fm.accV W (Fm.can ts) (c, 1)).2) (by omega)) (Fm.pow_le ab1 (show _ ≤ 191 by omega))
            have vb := Nat.lt_of_le_of_lt (lowB_le (t := (Fm.accV W (Fm.can ts) (c, 1)).1) (b := (Fm.accV W (Fm.can ts) (c, 1)).2) (by omega)) (Fm.pow_le ab2 (show _ ≤ 41 by omega))
            generalize lowT (Fm.accV W (Fm.can ts) (c, 1)).1 (Fm.accV W (Fm.can ts) (c, 1)).2 = tv at ev vt
            generalize lowB (Fm.accV W (Fm.can ts) (c, 1)).1 (Fm.accV W (Fm.can ts) (c, 1)).2 = bv at ev vb
            have p10 := p9.keep0 k10
            obtain ⟨tf, ef, cs, etf, ptf⟩ := df9.keep0 k10
            walk_at "sts"
            refine r_take p10 (by omega) (by omega) fun n11 H11 a11 b11 k11 p11 => ?_
            have kc : (bv * c).natAbs < 2 ^ 147 := Fm.natAbs_mul_lt vb ok8.cb
            have near : (bv * c - tv + n11 - 1).natAbs < 2 ^ 200 := by
              have h1 : (2:Nat) ^ 147 + 2 ^ 191 + 4 < 2 ^ 200 := by decide
              generalize (2:Nat) ^ 147 = A1 at *
              generalize (2:Nat) ^ 191 = A2 at *
              generalize (2:Nat) ^ 200 = A3 at *
              omega
            have hcs := ptf.len
            have ef11 := k11 f _ (by simp; rintro rfl; obtain ⟨P0, e0, _⟩ := p10; rw [e0] at ef; cases ef) ef
            have etf11 := k11 tf _ (by simp; rintro rfl; obtain ⟨P0, e0, _⟩ := p10; rw [e0] at etf; cases etf) etf
            have ptf11 := ptf.keep k11 p10.ml
            have ev11 := k11 v _ (by simp; rintro rfl; obtain ⟨P0, e0, _⟩ := p10; rw [e0] at ev; cases ev) ev
            walk_at "sts"
            generalize bv * c - tv + n11 - 1 = nr at near ⊢
            refine lcT_go (fun D j acc H' => ∃ bs2 : List Addr, acc = bs2.map V.ref ∧ PairsAt H' bs2 (Fm.scl bv ((Fm.can ts).take j)) ∧ Keep [] H11 H' ∧ H11 D = none) (sqT_of etf11) (fun D hD => ⟨[], rfl, trivial, Keep.new hD, hD⟩) (fun D i acc H' _ h => by obtain ⟨_, _, _, k, _⟩ := h; exact sqT_of (k _ _ (by simp) etf11)) ?_ ?_
            · rintro D j v2 acc H12 hv hD ⟨bs2, rfl, hb, k12, nD⟩
              obtain ⟨a2, ha2, rfl⟩ := getRef hv
              obtain ⟨z, hz, ez⟩ := ptf11.get ha2
              have ez12 := k12 _ _ (by simp) ez
              have ev12 := k12 _ _ (by simp) ev11
              have mz := List.mem_of_getElem? hz
              have hbl := hb.len
              rw [Fm.scl, List.length_map, List.length_take] at hbl
              walk_at "sts"
              trace_state
              intro y2 hy2
              have k13 : Keep [] H12 (upd H12 y2 (.tup [.str z.1, .int (bv * z.2)])) := Keep.new hy2
              have e13 : upd H12 y2 (.tup [.str z.1, .int (bv * z.2)]) y2 = some (.tup [.str z.1, .int (bv * z.2)]) := upd_same
              generalize upd H12 y2 (.tup [.str z.1, .int (bv * z.2)]) = H13 at k13 e13 ⊢
              have hD13 := k13 _ _ (by simp) hD
              refine lc_put (acc := bs2.map V.ref) hD13 (by rw [List.length_map]; exact lt_size (by omega)) ⟨bs2 ++ [y2], by rw [List.map_append]; rfl, ?_, (k12.trans k13).mut nD, nD⟩
              rw [take_snoc hz, show Fm.scl bv ((Fm.can ts).take j ++ [z]) = Fm.scl bv ((Fm.can ts).take j) ++ [(z.1, bv * z.2)] by simp [Fm.scl]]
              exact ((hb.keep0 k13).app (bs := [y2]) (us := [(z.1, bv * z.2)]) ⟨e13, trivial⟩).keep (Keep.at (M := [D]) (by simp)) (ml1 hD13)
            · rintro D acc H12 nD hD ⟨bs2, rfl, hb, k12, _⟩
              rw [List.take_of_length_le (by rw [List.length_map, hcs]; exact Nat.le_refl _)] at hb
              walk_at "sts"
              refine ⟨D, Fm.scl bv (Fm.can ts), nr, rfl, ⟨bs2, hD, hb⟩, by rw [scl_len]; omega, fun g H13 k13 ng dg => ?_⟩
              have okg := can_okx (k := 194) (ts := Fm.scl bv (Fm.can ts)) (c := nr) (by rw [scl_len]; omega) l4 (fun t ht => by
                obtain ⟨z, hz, rfl⟩ := List.mem_map.mp ht
                exact ⟨ok8.nm z hz, Fm.pow_le (Fm.natAbs_mul_lt vb (ok8.wb z hz)) (by decide)⟩) near
              walk_at "sts"
              exact ⟨g, _, nr, _, _, by first | exact rfl | trivial, dg, okg, k38.trans (k9.trans ((k10.mono (by simp)).trans (k11.trans ((k12.trans k13).mono (by simp))))), p11.keep0 (k12.trans k13)⟩
          · walk_at "sts"
            exact ⟨f, Fm.can ts, c, _, _, by first | exact rfl | trivial, df.keep k9 p8.ml, ⟨ok8.can, ok8.len, ok8.nm, fun t ht => Fm.pow_le (ok8.wb t ht) (by decide), Fm.pow_le ok8.cb (by decide)⟩, k38.trans k9, p9⟩
        · rintro σ' H9 ⟨g, us, d, y1, y2, rfl, dg, okg, k9, p9⟩
          walk_at "sts"
          refine ⟨a, rfl, p9, fun sg H10 hsg k10 p10 => ?_⟩
          have dg10 := dg.keep k10 p9.ml
          have e10 := (k9.trans k10) _ _ (by simpa using nra) e3
          have r10 : Each (RowOne H10) as rs := r3.mono fun b x h => h.keep (k9.trans k10) p3.ml
          have has := r10.len
          walk_at "sts"
          intro tp htp
          have ktp : Keep [] H10 (upd H10 tp (.tup [.ref g, .str sg])) := Keep.new htp
          have etp : upd H10 tp (.tup [.ref g, .str sg]) tp = some (.tup [.ref g, .str sg]) := upd_same
          have p11 := p10.new (o := .tup [.ref g, .str sg]) htp
          generalize upd H10 tp (.tup [.ref g, .str sg]) = H11 at ktp etp p11 ⊢
          have e11 := ktp _ _ (by simp) e10
          walk_at "sts"
          have k12 : Keep [lr] H11 (upd H11 lr (.lst (as.map V.ref ++ [.ref tp]))) := Keep.at (by simp)
          refine ⟨as ++ [tp], rs ++ [((us, d), sg)], _, _, _, _, _, _, by first | exact rfl | trivial, by rw [upd_same, List.map_append]; rfl, ?_, by simp [l3], fun r hr => ?_, ((k3.trans k9).trans (k10.trans (ktp.mono (by simp)))).mut hlr, p11.put nra⟩
          · have nr : RowOne H11 tp ((us, d), sg) := ⟨g, etp, dg10.keep0 ktp⟩
            exact ((r10.mono fun b x h => h.keep ktp (by simp)).app (bs := [tp]) (ys := [((us, d), sg)]) ⟨nr, trivial⟩).mono fun b x h => h.keep k12 (ml1 e11)
          · rcases List.mem_append.mp hr with hr | hr
            · exact ok3 r hr
            · rw [List.mem_singleton.mp hr]; exact ⟨okg, hsg⟩
    · rintro σ' H3 ⟨as, rs, x1, x2, x3, x4, x5, x6, rfl, e3, r3, l3, ok3, k3, p3⟩
      walk_at "sts"
      exact q lr rs H3 k3 p3 hlr ⟨as, e3, r3⟩ (by omega) ok3
end
/-! ### weighed sums of rows -/
def sumT : List Lr → List Int → List Fm.Tm
  | r :: rs, w :: ws => Fm.scl w r.1.1 ++ sumT rs ws
  | _, _ => []
def sumC : List Lr → List Int → Int
  | r :: rs, w :: ws => w * r.1.2 + sumC rs ws
  | _, _ => 0
theorem sumT_snoc : ∀ {rs : List Lr} {ws : List Int} {r : Lr} {w : Int}, rs.length = ws.length → sumT (rs ++ [r]) (ws ++ [w]) = sumT rs ws ++ Fm.scl w r.1.1
  | [], [], r, w, _ => by simp [sumT]
  | _ :: rs, _ :: ws, r, w, h => by
    simp only [List.cons_append, sumT, List.append_assoc]
    rw [sumT_snoc (by simpa using h)]
  | [], _ :: _, _, _, h => by cases h
  | _ :: _, [], _, _, h => by cases h
theorem sumC_snoc : ∀ {rs : List Lr} {ws : List Int} {r : Lr} {w : Int}, rs.length = ws.length → sumC (rs ++ [r]) (ws ++ [w]) = sumC rs ws + w * r.1.2
  | [], [], r, w, _ => by simp [sumC]
  | _ :: rs, _ :: ws, r, w, h => by
    simp only [List.cons_append, sumC]
    rw [sumC_snoc (by simpa using h), Int.add_assoc]
  | [], _ :: _, _, _, h => by cases h
  | _ :: _, [], _, _, h => by cases h
theorem sumT_len : ∀ {rs : List Lr} {ws : List Int}, (∀ r ∈ rs, r.1.1.length ≤ 4) → (sumT rs ws).length ≤ 4 * rs.length
  | [], _, _ => by simp [sumT]
  | _ :: _, [], _ => by simp [sumT]
  | r :: rs, w :: ws, h => by
    have := sumT_len (ws := ws) fun x hx => h x (List.mem_cons_of_mem r hx)
    have h1 := h r (by simp)
    simp only [sumT, List.length_append, scl_len, List.length_cons]; omega
def spSum : Sp := fun vs H Q _ => ∃ (p q : Addr) (xs : List Str) (rs : List Lr) (ws : List Int), vs = [.ref p, .ref q] ∧ LRows H p rs ∧ H q = some (.lst (ws.map V.int)) ∧ rs.length = ws.length ∧ rs.length ≤ 7 ∧ (∀ r ∈ rs, ROk xs 400 r) ∧ (∀ w ∈ ws, w.natAbs < 2 ^ 100) ∧
  ∀ (r : Addr) (H' : Hp), Keep [] H H' → H r = none → DueAt H' r (Fm.can (sumT rs ws)) (sumC rs ws) → Q (.ref r) H'
theorem getInt {ns : List Int} {i : Nat} {x : V} (h : (ns.map V.int)[i]? = some x) : ∃ n, ns[i]? = some n ∧ x = .int n := by
  rw [List.getElem?_map] at h
  obtain ⟨a, ha, rfl⟩ := Option.map_eq_some_iff.mp h
  exact ⟨a, ha, rfl⟩
theorem atInt {ns : List Int} {i : Nat} {n : Int} (h : ns[i]? = some n) : atI (ns.map V.int) (i : Int) = some (V.int n) := atI_nat (by rw [List.getElem?_map, h]; rfl)
section
variable {P : Program} {w : World} {K : PySem.W.Frag} {mg : Str → Option Value} {base : Heap}
theorem ok_sum (T : Tx K mg) (G_w_tidy : FnOk P w K mg base CX0 1 T.f_w_tidy T.fd_w_tidy ["_law_pairs", "_law_constant"] spTidy) : FnOk P w K mg base CX0 2 T.f_w_sum T.fd_w_sum ["_law_rows_here", "_law_weights"] spSum := by
  refine T.F_w_sum.ok sc_w_sum (fun vs H Q E h => ?_) (fun cdv A outer s H vs Q E hr h => ?_)
  · obtain ⟨p, q, xs, rs, ws, rfl, _⟩ := h; rfl
  · obtain ⟨p, q, xs, rs, ws, rfl, ⟨as, ep, pr⟩, eq, hl, h7, hok, hw, qq⟩ := h
    have has := pr.len
    refine ⟨_, (pss_cons (ps_set (i := 2) sc_w_sum.nd rfl (Or.inl rfl) (pe_lst pa_nil))
    (pss_cons (ps_set (i := 3) sc_w_sum.nd rfl (Or.inl rfl) pe_int)
    (pss_cons (ps_for PassesOwn.never rfl (pi_range1 rfl T.m_range (pa_cons (pe_callB call_len_seq (by rfl) T.m_len PySem.boot_len (pa_cons (pv 0) pa_nil)) pa_nil)) (pg_name (i := 4) sc_w_sum.nd rfl (Or.inl rfl))
    (pss_cons (ps_set (i := 3) sc_w_sum.nd rfl (Or.inl rfl) (pe_op op_add (pv 3) (pe_op op_mulG (pe_ix ix_list (pv 1) (pv 4) (fun _ _ => rfl)) (pe_ix ix_tup (pe_ix ix_tup (pe_ix ix_list (pv 0) (pv 4) (fun _ _ => rfl)) pe_int (fun _ _ => rfl)) pe_int (fun _ _ => rfl)))))
    (pss_one (ps_for PassesOwn.never rfl (pi_tup (pe_ix ix_tup (pe_ix ix_tup (pe_ix ix_list (pv 0) (pv 4) (fun _ _ => rfl)) pe_int (fun _ _ => rfl)) pe_int (fun _ _ => rfl))) (pg_name (i := 5) sc_w_sum.nd rfl (Or.inl rfl))
    (pss_one (ps_expr (pe_bm PySem.F.plainAttrs_list PySem.F.slot_list_append PySem.F.type_list_append mt_append (pv 2) (pa_cons (pe_tup (pa_cons (pe_ix ix_tup (pv 5) pe_int (fun _ _ => rfl)) (pa_cons (pe_op op_mulG (pe_ix ix_list (pv 1) (pv 4) (fun _ _ => rfl)) (pe_ix ix_tup (pv 5) pe_int (fun _ _ => rfl))) pa_nil))) pa_nil))))))))
    (pss_one (ps_ret (pe_call G_w_tidy (hr.mono (by decide)) rfl T.g_w_tidy T.F_w_tidy.kp T.b_w_tidy .nil pass0 (pa_cons (pv 2) (pa_cons (pv 3) pa_nil)))))))), ?_⟩
    walk_at "start"
    walk_at "sts"
    intro l hl0
    have k1 : Keep [] H (upd H l (.lst [])) := Keep.new hl0
    have e1 : upd H l (.lst []) l = some (.lst (([] : List Addr).map V.ref)) := upd_same
    generalize upd H l (.lst []) = H1 at k1 e1 ⊢
    have ep1 := k1 _ _ (by simp) ep
    walk_at "sts"
    refine forR1_go (fun i σ' H' => ∃ (bs : List Addr) (x1 x2 : Option V), σ' = [some (.ref p), some (.ref q), some (.ref l), some (.int (sumC (rs.take i) (ws.take i))), x1, x2] ∧ H' l = some (.lst (bs.map V.ref)) ∧ PairsAt H' bs (sumT (rs.take i) (ws.take i)) ∧ Keep [] H H') (by simp only [List.length_map]; omega) ⟨[], _, _, by first | exact rfl | trivial, e1, trivial, k1⟩ ?_ ?_
    · rintro i σ' H2 hi ⟨bs, x1, x2, rfl, e2, pb, k2⟩
      have hi7 : i < rs.length := by simp only [List.length_map] at hi; omega
      have hbl := pb.len
      obtain ⟨r, hr⟩ : ∃ r, rs[i]? = some r := ⟨_, List.getElem?_eq_getElem hi7⟩
      obtain ⟨wt, hwt⟩ : ∃ wt, ws[i]? = some wt := ⟨_, List.getElem?_eq_getElem (by omega)⟩
      obtain ⟨a, ha, d, ea, t, ed, cs, et, pt⟩ := pr.getR hr
      have okr := hok r (List.mem_of_getElem? hr)
      have hwb := hw wt (List.mem_of_getElem? hwt)
      have ea2 := k2 _ _ (by simp) ea
      have ed2 := k2 _ _ (by simp) ed
      have et2 := k2 _ _ (by simp) et
      have ep2 := k2 _ _ (by simp) ep
      have eq2 := k2 _ _ (by simp) eq
      have pt2 := pt.keep0 k2
      have hcs := pt.len
      have ats := atInt hwt
      have atr : atI (as.map V.ref) (i : Int) = some (.ref a) := atRef ha
      have r4 := okr.f.len
      have gd : ws.getD ((i : Int)).toNat 0 = wt := by simp [List.getD_eq_getElem?_getD, hwt]
      have il : (rs.take i).length = (ws.take i).length := by rw [List.length_take, List.length_take]; omega
      have nC : sumC (rs.take (i + 1)) (ws.take (i + 1)) = sumC (rs.take i) (ws.take i) + wt * r.1.2 := by rw [take_snoc hr, take_snoc hwt, sumC_snoc il]
      have nT : sumT (rs.take (i + 1)) (ws.take (i + 1)) = sumT (rs.take i) (ws.take i) ++ Fm.scl wt r.1.1 := by rw [take_snoc hr, take_snoc hwt, sumT_snoc il]
      have sl := sumT_len (rs := rs.take i) (ws := ws.take i) fun x hx => (hok x (List.mem_of_mem_take hx)).f.len
      rw [List.length_take] at sl
      walk_at "sts"
      rw [gd]
      refine r_I (.inr (cmulw 100 400 hwb okr.f.cb)) ?_
      walk_at "sts"
      rw [← nC]
      refine forT_go (fun j σ' H' => ∃ (bs : List Addr) (y : Option V), σ' = [some (.ref p), some (.ref q), some (.ref l), some (.int (sumC (rs.take (i + 1)) (ws.take (i + 1)))), some (.int i), y] ∧ H' l = some (.lst (bs.map V.ref)) ∧ PairsAt H' bs (sumT (rs.take i) (ws.take i) ++ Fm.scl wt (r.1.1.take j)) ∧ Keep [] H H') (sqT_of et2) ⟨bs, _, by first | exact rfl | trivial, e2, by simpa [Fm.scl] using pb, k2⟩ (fun j σ' H' _ h => by obtain ⟨_, _, _, _, _, k⟩ := h; exact sqT_of (k _ _ (by simp) et)) ?_ ?_
      · rintro j v σ' H3 hv ⟨bs3, y, rfl, e3, pb3, k3⟩
        obtain ⟨b, hb, rfl⟩ := getRef hv
        obtain ⟨z, hz, ez⟩ := pt.get hb
        have ez3 := k3 _ _ (by simp) ez
        have eq3 := k3 _ _ (by simp) eq
        have mz := List.mem_of_getElem? hz
        have hj := (List.getElem?_eq_some_iff.mp hz).1
        have hb3 := pb3.len
        rw [List.length_append, scl_len, List.length_take] at hb3
        walk_at "sts"
        rw [gd]
        refine r_I (.inr (cmulw 100 400 hwb (okr.f.wb z mz))) ?_
        walk_at "sts"
        intro y2 hy2
        have k4 : Keep [] H3 (upd H3 y2 (.tup [.str z.1, .int (wt * z.2)])) := Keep.new hy2
        have e4 : upd H3 y2 (.tup [.str z.1, .int (wt * z.2)]) y2 = some (.tup [.str z.1, .int (wt * z.2)]) := upd_same
        generalize upd H3 y2 (.tup [.str z.1, .int (wt * z.2)]) = H4 at k4 e4 ⊢
        have e34 := k4 _ _ (by simp) e3
        walk_at "sts"
        refine ⟨bs3 ++ [y2], _, by first | exact rfl | trivial, by rw [upd_same, List.map_append]; rfl, ?_, (k3.trans k4).mut hl0⟩
        rw [take_snoc hz, show Fm.scl wt (r.1.1.take j ++ [z]) = Fm.scl wt (r.1.1.take j) ++ [(z.1, wt * z.2)] by simp [Fm.scl], ← List.append_assoc]
        exact ((pb3.keep0 k4).app (bs := [y2]) (us := [(z.1, wt * z.2)]) ⟨e4, trivial⟩).keep (Keep.at (M := [l]) (by simp)) (ml1 e34)
      · rintro σ' H3 ⟨bs3, y, rfl, e3, pb3, k3⟩
        have hct : (cs.map V.ref).length = r.1.1.length := by rw [List.length_map, hcs]
        rw [hct, List.take_length, ← nT] at pb3
        walk_at "sts"
        exact ⟨bs3, _, _, by first | exact rfl | trivial, e3, pb3, k3⟩
    · rintro σ' H2 ⟨bs, x1, x2, rfl, e2, pb, k2⟩
      have hln : ((as.map V.ref).length : Int).toNat = rs.length := by rw [List.length_map]; omega
      rw [hln, List.take_length, hl, List.take_length] at pb
      rw [hln, List.take_length, hl, List.take_length]
      have sl := sumT_len (ws := ws) fun x hx => (hok x hx).f.len
      walk_at "sts"
      exact ⟨l, _, _, rfl, ⟨bs, e2, pb⟩, by omega, fun r H3 k3 nr dr => qq r H3 (k2.trans k3) (k2.free (by simp) nr) dr⟩
end
/-! ### weights that close -/
def letB (rs : List Lr) (ws : List Int) : Bool := decide (ws.length = rs.length) && (rs.zip ws).all fun p => decide (p.1.2 = sEq ∨ 0 ≤ p.2)
def strictB (rs : List Lr) (ws : List Int) : Bool := (rs.zip ws).any fun p => decide (p.1.2 = sLt ∧ 0 < p.2)
def spLet : Sp := fun vs H Q _ => ∃ (p q : Addr) (rs : List Lr) (ws : List Int), vs = [.ref p, .ref q] ∧ LRows H p rs ∧ H q = some (.lst (ws.map V.int)) ∧ rs.length ≤ 7 ∧ ws.length ≤ 60 ∧ Q (.bl (letB rs ws)) H
def spStrict : Sp := fun vs H Q _ => ∃ (p q : Addr) (rs : List Lr) (ws : List Int), vs = [.ref p, .ref q] ∧ LRows H p rs ∧ H q = some (.lst (ws.map V.int)) ∧ rs.length = ws.length ∧ rs.length ≤ 7 ∧ ∀ H', Keep [] H H' → Q (.bl (strictB rs ws)) H'
theorem zip_at {rs : List Lr} {ws : List Int} {i : Nat} {r : Lr} {w : Int} (hr : rs[i]? = some r) (hw : ws[i]? = some w) : (rs.zip ws)[i]? = some (r, w) := by
  rw [List.getElem?_zip_eq_some]; exact ⟨hr, hw⟩
section
variable {P : Program} {w : World} {K : PySem.W.Frag} {mg : Str → Option Value} {base : Heap}
theorem ok_let (T : Tx K mg) (G_w_whole : FnOk P w K mg base CX0 1 T.f_w_whole T.fd_w_whole ["_law_found"] spWhole) : FnOk P w K mg base CX0 2 T.f_w_weights_let T.fd_w_weights_let ["_law_rows_here", "_law_weights"] spLet := by
  refine T.F_w_weights_let.ok sc_w_weights_let (fun vs H Q E h => ?_) (fun cdv A outer s H vs Q E hr h => ?_)
  · obtain ⟨p, q, rs, ws, rfl, _⟩ := h; rfl
  · obtain ⟨p, q, rs, ws, rfl, ⟨as, ep, pr⟩, eq, h7, h60, qq⟩ := h
    have has := pr.len
    refine ⟨_, (pss_cons (ps_if (PW.pt (pw_or (pt_not (pt_val (pe_callB call_isi (by rfl) T.m_isinstance (by decide +kernel) (pa_cons (pv 1) (pa_cons (pe_bltn (v := .ty "list") (by rfl) T.m_list (by decide +kernel) rfl) pa_nil))))) (pw_or1 (pt_cmpR op_ne (pe_callB call_len_seq (by rfl) T.m_len PySem.boot_len (pa_cons (pv 1) pa_nil)) (pe_callB call_len_seq (by rfl) T.m_len PySem.boot_len (pa_cons (pv 0) pa_nil)) (nomark _)))))
    (pss_one (ps_ret pe_bl))
    pss_nil)
    (pss_cons (ps_for PassesOwn.never rfl (pi_range1 rfl T.m_range (pa_cons (pe_callB call_len_seq (by rfl) T.m_len PySem.boot_len (pa_cons (pv 0) pa_nil)) pa_nil)) (pg_name (i := 2) sc_w_weights_let.nd rfl (Or.inl rfl))
    (pss_one (ps_if (PW.pt (pw_or (pt_not (pt_val (pe_call G_w_whole (hr.mono (by decide)) rfl T.g_w_whole T.F_w_whole.kp T.b_w_whole .nil pass0 (pa_cons (pe_ix ix_list (pv 1) (pv 2) (fun _ _ => rfl)) pa_nil)))) (pw_or1 (PW.pt (pw_and (pt_cmpR op_ne (pe_ix ix_tup (pe_ix ix_list (pv 0) (pv 2) (fun _ _ => rfl)) pe_int (fun _ _ => rfl)) pe_str (nomark _)) (pw_and1 (pt_cmpR op_lt (pe_ix ix_list (pv 1) (pv 2) (fun _ _ => rfl)) pe_int (nomark _))))))))
    (pss_one (ps_ret pe_bl))
    pss_nil)))
    (pss_one (ps_ret pe_bl)))), ?_⟩
    walk_at "start"
    walk_at "sts"
    simp only [List.length_map]
    refine r_iteN (fun c => ?_) (fun c => ?_)
    · walk_at "sts"
      have hb : letB rs ws = false := by
        unfold letB; rw [decide_eq_false (by intro e; apply c; omega)]; rfl
      rw [hb] at qq
      exact qq
    · have hlen : ws.length = rs.length := by
        first | omega | (have := c; omega)
      walk_at "sts"
      refine forR1_go (fun i σ' H' => ∃ (x : Option V), σ' = [some (.ref p), some (.ref q), x] ∧ H' = H ∧ ∀ z ∈ (rs.zip ws).take i, z.1.2 = sEq ∨ 0 ≤ z.2) (by simp only [List.length_map]; omega) ⟨_, by first | exact rfl | trivial, rfl, by simp⟩ ?_ ?_
      · rintro i σ' H2 hi ⟨x, rfl, rfl, hz⟩
        have hi7 : i < rs.length := by simp only [List.length_map] at hi; omega
        obtain ⟨r, hr⟩ : ∃ r, rs[i]? = some r := ⟨_, List.getElem?_eq_getElem hi7⟩
        obtain ⟨wt, hwt⟩ : ∃ wt, ws[i]? = some wt := ⟨_, List.getElem?_eq_getElem (by omega)⟩
        obtain ⟨a, ha, d, ea, _⟩ := pr.getR hr
        have atr : atI (as.map V.ref) (i : Int) = some (.ref a) := atRef ha
        have gd : ws.getD ((i : Int)).toNat 0 = wt := by simp [List.getD_eq_getElem?_getD, hwt]
        have zi := zip_at hr hwt
        walk_at "sts"
        rw [gd]
        refine ⟨wt, rfl, ?_⟩
        walk_at "sts"
        have done : (r.2 = sEq ∨ 0 ≤ wt) → ∀ z ∈ (rs.zip ws).take (i + 1), z.1.2 = sEq ∨ 0 ≤ z.2 := fun h z hm => by
          rw [take_snoc zi] at hm
          rcases List.mem_append.mp hm with hm | hm
          · exact hz z hm
          · rw [List.mem_singleton.mp hm]; exact h
        refine r_iteN (fun c1 => ?_) (fun c1 => ?_)
        · walk_at "sts"
          rw [gd]
          walk_at "sts"
          refine r_ite (fun c2 => ?_) (fun c2 => ?_)
          · walk_at "sts"
            have hb : letB rs ws = false := by
              unfold letB
              rw [Bool.and_eq_false_iff]; right
              rw [List.all_eq_false]
              refine ⟨_, List.mem_of_getElem? zi, fun e => ?_⟩
              rcases of_decide_eq_true e with e | e
              · exact c1 e
              · have e' : 0 ≤ wt := e
                omega
            rw [hb] at qq
            exact qq
          · walk_at "sts"
            exact ⟨_, by first | exact rfl | trivial, rfl, done (.inr (by omega))⟩
        · walk_at "sts"
          exact ⟨_, by first | exact rfl | trivial, rfl, done (.inl c1)⟩
      · rintro σ' H2 ⟨x, rfl, rfl, hz⟩
        have hln : ((as.map V.ref).length : Int).toNat = (rs.zip ws).length := by rw [List.length_map, List.length_zip]; omega
        rw [hln, List.take_length] at hz
        have hb : letB rs ws = true := by
          unfold letB; rw [decide_eq_true hlen, Bool.true_and, List.all_eq_true]
          exact fun z h => decide_eq_true (hz z h)
        rw [hb] at qq
        walk_at "sts"
        exact qq
theorem ok_strict (T : Tx K mg) : FnOk P w K mg base CX0 1 T.f_w_strict T.fd_w_strict ["_law_rows_here", "_law_weights"] spStrict := by
  refine T.F_w_strict.ok sc_w_strict (fun vs H Q E h => ?_) (fun cdv A outer s H vs Q E hr h => ?_)
  · obtain ⟨p, q, rs, ws, rfl, _⟩ := h; rfl
  · obtain ⟨p, q, rs, ws, rfl, ⟨as, ep, pr⟩, eq, hl, h7, qq⟩ := h
    have has := pr.len
    refine ⟨_, (pss_one (ps_ret (pe_cmpR (op_neD hr.units) (pe_lc (own := [("_law_k", 2)]) (g := gName 2)  rfl sc_w_strict.nd (pi_range1 rfl T.m_range (pa_cons (pe_callB call_len_seq (by rfl) T.m_len PySem.boot_len (pa_cons (pv 0) pa_nil)) pa_nil)) (blkOk_by (own := [("_law_k", 2)]) (N := ["_law_rows_here", "_law_weights", "_law_k"]) (sc := defScope s_w_strict) (by decide +kernel)) (fun _ _ _ _ _ => pg_name (i := 2) sc_w_strict.nd rfl (Or.inl rfl)) (fun _ _ _ _ _ => pts_one (PW.pt (pw_and (pt_cmpR op_eq (pe_ix (ix_tupK (K := K) rfl) (pe_ix (ix_listK (K := K) rfl) (pv 0) (pv 2) (fun _ _ => rfl)) pe_int (fun _ _ => rfl)) pe_str (nomark _)) (pw_and1 (pt_cmpR op_gt (pe_ix (ix_listK (K := K) rfl) (pv 1) (pv 2) (fun _ _ => rfl)) pe_int (nomark _)))))) (fun _ _ _ _ _ => (pv 2))) (pe_lst pa_nil) (nomark _)))), ?_⟩
    walk_at "start"
    walk_at "sts"
    refine lcR1_go (fun D i acc H' => ∃ ms : List Int, acc = ms.map V.int ∧ (ms = [] ↔ ∀ z ∈ (rs.zip ws).take i, ¬ (z.1.2 = sLt ∧ 0 < z.2)) ∧ ms.length ≤ i ∧ Keep [] H H' ∧ H D = none) (by simp only [List.length_map]; omega) (fun D hD => ⟨[], rfl, by simp, by simp, Keep.new hD, hD⟩) ?_ ?_
    · rintro D i acc H2 hi hD ⟨ms, rfl, hm, lm, k2, nD⟩
      have hi7 : i < rs.length := by simp only [List.length_map] at hi; omega
      obtain ⟨r, hr⟩ : ∃ r, rs[i]? = some r := ⟨_, List.getElem?_eq_getElem hi7⟩
      obtain ⟨wt, hwt⟩ : ∃ wt, ws[i]? = some wt := ⟨_, List.getElem?_eq_getElem (by omega)⟩
      obtain ⟨a, ha, d, ea, _⟩ := pr.getR hr
      have atr : atI (as.map V.ref) (i : Int) = some (.ref a) := atRef ha
      have gd : ws.getD ((i : Int)).toNat 0 = wt := by simp [List.getD_eq_getElem?_getD, hwt]
      have zi := zip_at hr hwt
      have ep2 := k2 _ _ (by simp) ep
      have eq2 := k2 _ _ (by simp) eq
      have ea2 := k2 _ _ (by simp) ea
      have no : ¬ (r.2 = sLt ∧ 0 < wt) → (ms = [] ↔ ∀ z ∈ (rs.zip ws).take (i + 1), ¬ (z.1.2 = sLt ∧ 0 < z.2)) := fun h => by
        rw [take_snoc zi, hm]
        constructor
        · intro g z hz
          rcases List.mem_append.mp hz with hz | hz
          · exact g z hz
          · rw [List.mem_singleton.mp hz]; exact h
        · intro g z hz
          exact g z (List.mem_append_left _ hz)
      walk_at "sts"
      refine r_ite (fun c1 => ?_) (fun c1 => ?_)
      · walk_at "sts"
        rw [gd]
        walk_at "sts"
        refine r_ite (fun c2 => ?_) (fun c2 => ?_)
        · walk_at "sts"
          refine lc_put (acc := ms.map V.int) hD (by rw [List.length_map]; exact lt_size (by omega)) ⟨ms ++ [(i : Int)], by rw [List.map_append]; rfl, ?_, by simp; omega, k2.mut nD, nD⟩
          constructor
          · intro e; simp at e
          · intro g
            exact (g (r, wt) (by rw [take_snoc zi]; simp) ⟨c1, c2⟩).elim
        · walk_at "sts"
          exact ⟨_, hD, ms, rfl, no (fun e => c2 e.2), by omega, k2, nD⟩
      · walk_at "sts"
        exact ⟨_, hD, ms, rfl, no (fun e => c1 e.1), by omega, k2, nD⟩
    · rintro D acc H2 nD hD ⟨ms, rfl, hm, lm, k2, _⟩
      have hln : ((as.map V.ref).length : Int).toNat = (rs.zip ws).length := by rw [List.length_map, List.length_zip]; omega
      rw [hln, List.take_length] at hm
      walk_at "sts"
      intro l0 hl0
      have k3 : Keep [] H2 (upd H2 l0 (.lst [])) := Keep.new hl0
      have hD3 := k3 _ _ (by simp) hD
      refine r_neL (ys := []) (b := decide (ms = [])) (sqL_of hD3) (sqL_of upd_same) (by simp [flatV]) rfl (by cases ms <;> rfl) ?_
      have hb : (!decide (ms = [])) = strictB rs ws := by
        unfold strictB
        by_cases e : ms = []
        · rw [decide_eq_true e]
          symm
          rw [Bool.not_true, List.any_eq_false]
          exact fun z hz => by simpa using hm.mp e z hz
        · rw [decide_eq_false e]
          symm
          rw [Bool.not_false, List.any_eq_true]
          apply Classical.byContradiction
          intro g
          exact e (hm.mpr fun z hz h => g ⟨z, hz, decide_eq_true h⟩)
      rw [hb]
      exact qq _ (k2.trans k3)
end
/-! ### closed -/
theorem dp_pairs {K : PySem.W.Frag} {H : Hp} : ∀ {as : List Addr} {ts : List Fm.Tm}, PairsAt H as ts → DpAll K H (as.map V.ref) (ts.map fun p => PyData.tuple [.str p.1, .int p.2])
  | [], [], _ => .nil
  | a :: as, p :: ts, h => .cons (.tup (sqT_of h.1) (.cons (.str _) (.cons (.int _) .nil))) (dp_pairs h.2)
  | [], _ :: _, h => h.elim
  | _ :: _, [], h => h.elim
theorem IsQ.ok {s : Str} (h : IsQ s) : PyData.strOk s = true := by
  unfold PyData.strOk
  rw [← Array.all_toList, List.all_eq_true]
  intro c hc
  have := (by decide +kernel : ∀ c ∈ signsL, c < 0x110000) c (h.al c hc)
  simpa using this
theorem lay_pairs : ∀ {ts : List Fm.Tm}, (∀ t ∈ ts, IsQ t.1) → PyData.canLayAll0 (ts.map fun p => PyData.tuple [.str p.1, .int p.2]) = true ∧ PyData.depthAll (ts.map fun p => PyData.tuple [.str p.1, .int p.2]) ≤ 1
  | [], _ => by simp [PyData.canLayAll0, PyData.depthAll]
  | t :: ts, h => by
    have ih := lay_pairs (ts := ts) fun z hz => h z (by simp [hz])
    have e := (h t (by simp)).ok
    refine ⟨by simp [PyData.canLayAll0, PyData.canLay0, ih.1, e], ?_⟩
    have := ih.2
    simp [PyData.depthAll, PyData.depth]
    omega
theorem shaped_pairs {ts : List Fm.Tm} (h : ∀ t ∈ ts, IsQ t.1) : SeqAt.shaped (.tuple (ts.map fun p => PyData.tuple [.str p.1, .int p.2])) = true := by
  have := lay_pairs h
  unfold SeqAt.shaped
  simp [PyData.canLay0, PyData.depth, this.1]
  omega
theorem eqv_nil {ts : List Fm.Tm} : PyData.eqv (.tuple (ts.map fun p => PyData.tuple [.str p.1, .int p.2])) (.tuple []) = decide (ts = []) := by
  rw [eqvT]
  cases ts with
  | nil => rfl
  | cons t ts => simp [PyData.eqvAll]
def closedB (rs : List Lr) (ws : List Int) : Bool := letB rs ws && (decide (Fm.can (sumT rs ws) = []) && (decide (0 < sumC rs ws) || (decide (sumC rs ws = 0) && strictB rs ws)))
def spClosed : Sp := fun vs H Q _ => ∃ (p q : Addr) (xs : List Str) (rs : List Lr) (ws : List Int), vs = [.ref p, .ref q] ∧ LRows H p rs ∧ H q = some (.lst (ws.map V.int)) ∧ rs.length ≤ 7 ∧ ws.length ≤ 60 ∧ (∀ r ∈ rs, ROk xs 400 r) ∧ (∀ z ∈ xs, IsQ z) ∧ (∀ w ∈ ws, w.natAbs < 2 ^ 100) ∧ ∀ H', Keep [] H H' → Q (.bl (closedB rs ws)) H'
theorem sumT_names {xs : List Str} : ∀ {rs : List Lr} {ws : List Int}, (∀ r ∈ rs, ∀ t ∈ r.1.1, t.1 ∈ xs) → ∀ t ∈ sumT rs ws, t.1 ∈ xs
  | [], _, _, t, h => by simp [sumT] at h
  | _ :: _, [], _, t, h => by simp [sumT] at h
  | r :: rs, w :: ws, k, t, h => by
    simp only [sumT] at h
    rcases List.mem_append.mp h with h | h
    · obtain ⟨z, hz, rfl⟩ := List.mem_map.mp h
      exact k r (by simp) z hz
    · exact sumT_names (fun x hx => k x (List.mem_cons_of_mem r hx)) t h
section
variable {P : Program} {w : World} {K : PySem.W.Frag} {mg : Str → Option Value} {base : Heap}
theorem ok_closed (T : Tx K mg) (G_w_weights_let : FnOk P w K mg base CX0 2 T.f_w_weights_let T.fd_w_weights_let ["_law_rows_here", "_law_weights"] spLet) (G_w_sum : FnOk P w K mg base CX0 2 T.f_w_sum T.fd_w_sum ["_law_rows_here", "_law_weights"] spSum)
    (G_w_strict : FnOk P w K mg base CX0 1 T.f_w_strict T.fd_w_strict ["_law_rows_here", "_law_weights"] spStrict) : FnOk P w K mg base CX0 3 T.f_w_closed T.fd_w_closed ["_law_rows_here", "_law_weights"] spClosed := by
  refine T.F_w_closed.ok sc_w_closed (fun vs H Q E h => ?_) (fun cdv A outer s H vs Q E hr h => ?_)
  · obtain ⟨p, q, xs, rs, ws, rfl, _⟩ := h; rfl
  · obtain ⟨p, q, xs, rs, ws, rfl, hp, eq, h7, h60, hok, hq, hw, qq⟩ := h
    refine ⟨_, (pss_cons (ps_if (pt_not (pt_val (pe_call G_w_weights_let (hr.mono (by decide)) rfl T.g_w_weights_let T.F_w_weights_let.kp T.b_w_weights_let .nil pass0 (pa_cons (pv 0) (pa_cons (pv 1) pa_nil)))))
    (pss_one (ps_ret pe_bl))
    pss_nil)
    (pss_cons (ps_set (i := 2) sc_w_closed.nd rfl (Or.inl rfl) (pe_call G_w_sum (hr.mono (by decide)) rfl T.g_w_sum T.F_w_sum.kp T.b_w_sum .nil pass0 (pa_cons (pv 0) (pa_cons (pv 1) pa_nil))))
    (pss_cons (ps_if (pt_cmpR (op_neD hr.units) (pe_ix ix_tup (pv 2) pe_int (fun _ _ => rfl)) (pe_tup pa_nil) (nomark _))
    (pss_one (ps_ret pe_bl))
    pss_nil)
    (pss_one (ps_ret (pe_or (pe_cmpR op_gt (pe_ix ix_tup (pv 2) pe_int (fun _ _ => rfl)) pe_int (nomark _)) (pe_one (pe_and (pe_cmpR op_eq (pe_ix ix_tup (pv 2) pe_int (fun _ _ => rfl)) pe_int (nomark _)) (pe_one (pe_call G_w_strict (hr.mono (by decide)) rfl T.g_w_strict T.F_w_strict.kp T.b_w_strict .nil pass0 (pa_cons (pv 0) (pa_cons (pv 1) pa_nil)))))))))))), ?_⟩
    walk_at "start"
    walk_at "sts"
    refine ⟨p, q, rs, ws, rfl, hp, eq, h7, h60, ?_⟩
    unfold closedB at qq
    cases hl : letB rs ws with
    | false =>
      rw [hl] at qq
      walk_at "sts"
      exact qq H (Keep.refl _ _)
    | true =>
      rw [hl] at qq
      have hlen : rs.length = ws.length := by
        unfold letB at hl
        exact (of_decide_eq_true (Bool.and_eq_true_iff.mp hl).1).symm
      walk_at "sts"
      refine ⟨p, q, xs, rs, ws, rfl, hp, eq, hlen, h7, hok, hw, fun t H1 k1 nt ⟨tt, et, as, ett, pt⟩ => ?_⟩
      have eq1 := k1 _ _ (by simp) eq
      have hp1 := hp.keep0 k1
      walk_at "sts"
      intro l hl0
      have k2 : Keep [] H1 (upd H1 l (.tup [])) := Keep.new hl0
      have ett2 := k2 _ _ (by simp) ett
      have sh := shaped_pairs (ts := Fm.can (sumT rs ws)) fun z hz => by
        obtain ⟨⟨y, hy, e⟩, _⟩ := Fm.can_mem hz
        rw [← e]
        exact hq _ (sumT_names (fun r hr t ht => (hok r hr).f.nm t ht) y hy)
      refine ⟨_, _, .tup (sqT_of ett2) (dp_pairs (pt.keep0 k2)), .tup (sqT_of upd_same) .nil, sh, rfl, ?_⟩
      rw [eqv_nil]
      have et2 := k2 _ _ (by simp) et
      have eq2 := k2 _ _ (by simp) eq1
      have hp2 := hp1.keep0 k2
      have k12 := k1.trans k2
      generalize upd H1 l (.tup []) = H2 at *
      by_cases c : Fm.can (sumT rs ws) = []
      · rw [decide_eq_true c] at qq ⊢
        walk_at "sts"
        refine r_ite (fun c1 => ?_) (fun c1 => ?_)
        · walk_at "sts"
          have := qq _ k12
          rw [decide_eq_true c1] at this
          exact this
        · rw [decide_eq_false c1] at qq
          walk_at "sts"
          refine r_ite (fun c2 => ?_) (fun c2 => ?_)
          · rw [decide_eq_true c2] at qq
            walk_at "sts"
            refine ⟨p, q, rs, ws, rfl, hp2, eq2, hlen, h7, fun H3 k3 => ?_⟩
            have := qq _ (k12.trans k3)
            walk_at "sts"
            exact this
          · rw [decide_eq_false c2] at qq
            walk_at "sts"
            exact qq _ k12
      · rw [decide_eq_false c] at qq ⊢
        walk_at "sts"
        exact qq _ k12
end
/-! ### rows that hold -/
def holdsB (W : Fm.Wd) (r : Lr) : Bool := rowOk (lowT (Fm.accV W r.1.1 (r.1.2, 1)).1 (Fm.accV W r.1.1 (r.1.2, 1)).2) r.2
def spLRow : Sp := fun vs H Q _ => ∃ (a m : Addr) (xs ns : List Str) (W : Fm.Wd) (r : Lr), vs = [.ref a, .ref m] ∧ RowOne H a r ∧ WorldAt H m ns W ∧ (∀ t ∈ r.1.1, t.1 ∈ ns) ∧ ROk xs 400 r ∧ ∀ H', Keep [] H H' → Q (.bl (holdsB W r)) H'
def spAllHold : Sp := fun vs H Q _ => ∃ (p m : Addr) (xs ns : List Str) (W : Fm.Wd) (rs : List Lr), vs = [.ref p, .ref m] ∧ LRows H p rs ∧ WorldAt H m ns W ∧ (∀ r ∈ rs, ∀ t ∈ r.1.1, t.1 ∈ ns) ∧ (∀ r ∈ rs, ROk xs 400 r) ∧ ∀ H', Keep [] H H' → Q (.bl (rs.all (holdsB W))) H'
/-- the rows as they are handed: a form and a sign -/
def HOne (C : Addr) (H : Hp) (a : Addr) (r : Lr) : Prop := ∃ x, H a = some (.tup [.ref x, .str r.2]) ∧ FormAt C H x r.1.1 r.1.2
theorem HOne.keep0 {C : Addr} {H H' : Hp} {a : Addr} {r : Lr} (h : HOne C H a r) (k : Keep [] H H') : HOne C H' a r := by
  obtain ⟨x, e, f⟩ := h
  exact ⟨x, k _ _ (by simp) e, f.keep0 k⟩
theorem HOne.keep {C : Addr} {H H' : Hp} {M : List Addr} {a : Addr} {r : Lr} (h : HOne C H a r) (k : Keep M H H') (n : ∀ m ∈ M, ∃ xs, H m = some (.lst xs)) : HOne C H' a r := by
  obtain ⟨x, e, f⟩ := h
  refine ⟨x, k _ _ (fun hm => ?_) e, f.keep k n⟩
  obtain ⟨ys, hy⟩ := n a hm
  rw [e] at hy; cases hy
def HRows (C : Addr) (H : Hp) (p : Addr) (rs : List Lr) : Prop := ∃ as : List Addr, H p = some (.lst (as.map V.ref)) ∧ Each (HOne C H) as rs
def spHanded (C : Addr) : Sp := fun vs H Q _ => ∃ (p : Addr) (xs : List Str) (rs : List Lr), vs = [.ref p] ∧ LRows H p rs ∧ rs.length ≤ 7 ∧ (∀ r ∈ rs, ROk xs 400 r) ∧ (∀ z ∈ xs, IsQ z) ∧ ∀ (q : Addr) (H' : Hp), Keep [] H H' → H q = none → HRows C H' q rs → Q (.ref q) H'
def spKept (C : Addr) : Sp := fun vs H Q _ => ∃ (p q : Addr) (xs : List Str) (rs : List Lr), vs = [.ref p, .ref q] ∧ HRows C H p rs ∧ LRows H q rs ∧ rs.length ≤ 7 ∧ (∀ r ∈ rs, ROk xs 400 r) ∧ Q (.bl true) H
theorem call_list_ofK {X : Cx} {K : PySem.W.Frag} (hK : X.K = K) : CallR X (.type "list") (fun xs H Q => ∃ p ys, xs = [.ref p] ∧ (SqL K H p ys ∨ SqT K H p ys) ∧ ∀ l, H l = none → Q (.ref l) (upd H l (.lst ys))) := by subst hK; exact call_list_of
section
variable {P : Program} {w : World} {K : PySem.W.Frag} {mg : Str → Option Value} {base : Heap}
theorem ok_lrow (T : Tx K mg) (G_w_value : FnOk P w K mg base CX0 2 T.f_w_value T.fd_w_value ["_law_due", "_law_world_here"] spValL) : FnOk P w K mg base CX0 3 T.f_w_row_holds T.fd_w_row_holds ["_law_row", "_law_world_here"] spLRow := by
  refine T.F_w_row_holds.ok sc_w_row_holds (fun vs H Q E h => ?_) (fun cdv A outer s H vs Q E hr h => ?_)
  · obtain ⟨a, m, xs, ns, W, r, rfl, _⟩ := h; rfl
  · obtain ⟨a, m, xs, ns, W, r, rfl, ⟨d, ea, hd⟩, ⟨kvs, em, h1, h2, h3⟩, hn, ok, qq⟩ := h
    refine ⟨_, (pss_cons (ps_set (i := 2) sc_w_row_holds.nd rfl (Or.inl rfl) (pe_ix ix_tup (pe_call G_w_value (hr.mono (by decide)) rfl T.g_w_value T.F_w_value.kp T.b_w_value .nil pass0 (pa_cons (pe_ix ix_tup (pv 0) pe_int (fun _ _ => rfl)) (pa_cons (pv 1) pa_nil))) pe_int (fun _ _ => rfl)))
    (pss_cons (ps_if (pt_cmpR op_eq (pe_ix ix_tup (pv 0) pe_int (fun _ _ => rfl)) pe_str (nomark _))
    (pss_one (ps_ret (pe_cmpR op_le (pv 2) pe_int (nomark _))))
    pss_nil)
    (pss_cons (ps_if (pt_cmpR op_eq (pe_ix ix_tup (pv 0) pe_int (fun _ _ => rfl)) pe_str (nomark _))
    (pss_one (ps_ret (pe_cmpR op_lt (pv 2) pe_int (nomark _))))
    pss_nil)
    (pss_one (ps_ret (pe_cmpR op_eq (pv 2) pe_int (nomark _))))))), ?_⟩
    have l4 := ok.f.len
    walk_at "start"
    walk_at "sts"
    refine ⟨d, m, r.1.1, r.1.2, kvs, W, rfl, hd, em, fun t ht => ⟨(h3 _ (hn t ht)).1, (h3 _ (hn t ht)).2.1⟩, by omega, fun t ht => ⟨ok.f.wb t ht, Fm.pow_le (h3 _ (hn t ht)).2.2.1 (by decide), Fm.pow_le (h3 _ (hn t ht)).2.2.2 (by decide)⟩, ok.f.cb, fun v H1 k1 nv ev => ?_⟩
    unfold holdsB rowOk at qq
    have ea1 := k1 _ _ (by simp) ea
    walk_at "sts"
    refine r_ite (fun c1 => ?_) (fun c1 => ?_)
    · rw [if_pos c1] at qq
      walk_at "sts"
      exact qq _ k1
    rw [if_neg c1] at qq
    walk_at "sts"
    refine r_ite (fun c2 => ?_) (fun c2 => ?_)
    · rw [if_pos c2] at qq
      walk_at "sts"
      exact qq _ k1
    · rw [if_neg c2] at qq
      walk_at "sts"
      exact qq _ k1
theorem ok_allHold (T : Tx K mg) (G_w_row_holds : FnOk P w K mg base CX0 3 T.f_w_row_holds T.fd_w_row_holds ["_law_row", "_law_world_here"] spLRow) : FnOk P w K mg base CX0 4 T.f_w_all_hold T.fd_w_all_hold ["_law_rows_here", "_law_world_here"] spAllHold := by
  refine T.F_w_all_hold.ok sc_w_all_hold (fun vs H Q E h => ?_) (fun cdv A outer s H vs Q E hr h => ?_)
  · obtain ⟨a, m, xs, ns, W, r, rfl, _⟩ := h; rfl
  · obtain ⟨p, m, xs, ns, W, rs, rfl, ⟨as, ep, pr⟩, hw, hn, hok, qq⟩ := h
    have has := pr.len
    refine ⟨_, (pss_cons (ps_for PassesOwn.never rfl (pi_list (pv 0)) (pg_name (i := 2) sc_w_all_hold.nd rfl (Or.inl rfl))
    (pss_one (ps_if (pt_not (pt_val (pe_call G_w_row_holds (hr.mono (by decide)) rfl T.g_w_row_holds T.F_w_row_holds.kp T.b_w_row_holds .nil pass0 (pa_cons (pv 2) (pa_cons (pv 1) pa_nil)))))
    (pss_one (ps_ret pe_bl))
    pss_nil)))
    (pss_one (ps_ret pe_bl))), ?_⟩
    walk_at "start"
    walk_at "sts"
    refine forL_go (fun i σ' H' => ∃ (x : Option V), σ' = [some (.ref p), some (.ref m), x] ∧ Keep [] H H' ∧ ∀ r ∈ rs.take i, holdsB W r = true) (sqL_of ep) ⟨_, by first | exact rfl | trivial, Keep.refl _ _, by simp⟩ (fun i σ' H' _ h => by obtain ⟨_, _, k, _⟩ := h; exact sqL_of (k _ _ (by simp) ep)) ?_ ?_
    · rintro i v σ' H1 hv ⟨x, rfl, k1, hh⟩
      obtain ⟨a, ha, rfl⟩ := getRef hv
      obtain ⟨r, hr, ro⟩ := pr.get ha
      have mr := List.mem_of_getElem? hr
      walk_at "sts"
      refine ⟨a, m, xs, ns, W, r, rfl, ro.keep k1 (by simp), hw.keep k1 (by simp), hn r mr, hok r mr, fun H2 k2 => ?_⟩
      cases hb : holdsB W r with
      | false =>
        have : rs.all (holdsB W) = false := by rw [List.all_eq_false]; exact ⟨r, mr, by simp [hb]⟩
        rw [this] at qq
        walk_at "sts"
        exact qq _ (k1.trans k2)
      | true =>
        walk_at "sts"
        refine ⟨_, by first | exact rfl | trivial, k1.trans k2, fun z hz => ?_⟩
        rw [take_snoc hr] at hz
        rcases List.mem_append.mp hz with hz | hz
        · exact hh z hz
        · rw [List.mem_singleton.mp hz]; exact hb
    · rintro σ' H1 ⟨x, rfl, k1, hh⟩
      rw [List.length_map, has, List.take_length] at hh
      rw [List.all_eq_true.mpr hh] at qq
      walk_at "sts"
      exact qq _ k1
theorem ok_kept (T : Tx K mg) (G_w_form_is : FnOk P w K mg base CX0 2 T.f_w_form_is T.fd_w_form_is ["_law_found", "_law_due"] (spFormIs T.C_Form)) : FnOk P w K mg base CX0 3 T.f_w_kept T.fd_w_kept ["_law_handed_here", "_law_rows_here"] (spKept T.C_Form) := by
  refine T.F_w_kept.ok sc_w_kept (fun vs H Q E h => ?_) (fun cdv A outer s H vs Q E hr h => ?_)
  · obtain ⟨p, q, xs, rs, rfl, _⟩ := h; rfl
  · obtain ⟨p, q, xs, rs, rfl, ⟨as, ep, pa⟩, ⟨bs, eq, pb⟩, h7, hok, qq⟩ := h
    have has := pa.len
    have hbs := pb.len
    refine ⟨_, (pss_cons (ps_if (pt_cmpR op_ne (pe_callB call_len_seq (by rfl) T.m_len PySem.boot_len (pa_cons (pv 0) pa_nil)) (pe_callB call_len_seq (by rfl) T.m_len PySem.boot_len (pa_cons (pv 1) pa_nil)) (nomark _))
    (pss_one (ps_ret pe_bl))
    pss_nil)
    (pss_cons (ps_for PassesOwn.never rfl (pi_range1 rfl T.m_range (pa_cons (pe_callB call_len_seq (by rfl) T.m_len PySem.boot_len (pa_cons (pv 1) pa_nil)) pa_nil)) (pg_name (i := 2) sc_w_kept.nd rfl (Or.inl rfl))
    (pss_one (ps_if (PW.pt (pw_or (pt_not (pt_val (pe_call G_w_form_is (hr.mono (by decide)) rfl T.g_w_form_is T.F_w_form_is.kp T.b_w_form_is .nil pass0 (pa_cons (pe_ix ix_tup (pe_ix ix_list (pv 0) (pv 2) (fun _ _ => rfl)) pe_int (fun _ _ => rfl)) (pa_cons (pe_ix ix_tup (pe_ix ix_list (pv 1) (pv 2) (fun _ _ => rfl)) pe_int (fun _ _ => rfl)) pa_nil))))) (pw_or1 (pt_cmpR op_ne (pe_ix ix_tup (pe_ix ix_list (pv 0) (pv 2) (fun _ _ => rfl)) pe_int (fun _ _ => rfl)) (pe_ix ix_tup (pe_ix ix_list (pv 1) (pv 2) (fun _ _ => rfl)) pe_int (fun _ _ => rfl)) (nomark _)))))
    (pss_one (ps_ret pe_bl))
    pss_nil)))
    (pss_one (ps_ret pe_bl)))), ?_⟩
    walk_at "start"
    walk_at "sts"
    refine forR1_go (fun i σ' H' => ∃ (x : Option V), σ' = [some (.ref p), some (.ref q), x] ∧ H' = H) (by simp only [List.length_map]; omega) ⟨_, by first | exact rfl | trivial, rfl⟩ ?_ ?_
    · rintro i σ' H1 hi ⟨x, rfl, rfl⟩
      have hi7 : i < rs.length := by simp only [List.length_map] at hi; omega
      obtain ⟨r, hr⟩ : ∃ r, rs[i]? = some r := ⟨_, List.getElem?_eq_getElem hi7⟩
      obtain ⟨a, ha, x, ea, fx⟩ := pa.getR hr
      obtain ⟨b, hb, d, eb, hd⟩ := pb.getR hr
      have ata : atI (as.map V.ref) (i : Int) = some (.ref a) := atRef ha
      have atb : atI (bs.map V.ref) (i : Int) = some (.ref b) := atRef hb
      have okr := hok r (List.mem_of_getElem? hr)
      walk_at "sts"
      refine ⟨x, d, r.1.1, r.1.2, rfl, fx, hd, by have := okr.f.len; omega, ?_⟩
      walk_at "sts"
      first
        | exact ⟨_, by first | exact rfl | trivial, rfl⟩
        | (refine r_iteN (fun c => (c rfl).elim) (fun _ => ?_); walk_at "sts"; exact ⟨_, by first | exact rfl | trivial, rfl⟩)
    · rintro σ' H1 ⟨x, rfl, rfl⟩
      walk_at "sts"
      exact qq
theorem ok_handed (T : Tx K mg) (G_Form___init : GInit P w K mg base T) : FnOk P w K mg base CX0 5 T.f_w_handed T.fd_w_handed ["_law_rows_here"] (spHanded T.C_Form) := by
  refine T.F_w_handed.ok sc_w_handed (fun vs H Q E h => ?_) (fun cdv A outer s H vs Q E hr h => ?_)
  · obtain ⟨p, xs, rs, rfl, _⟩ := h; rfl
  · obtain ⟨p, xs, rs, rfl, ⟨as, ep, pr⟩, h7, hok, hq, qq⟩ := h
    have has := pr.len
    refine ⟨_, (pss_one (ps_ret (pe_lc (own := [("_law_row", 1)]) (g := gName 1) (tt := tYes) rfl sc_w_handed.nd (pi_list (pv 0)) (blkOk_by (own := [("_law_row", 1)]) (N := ["_law_rows_here", "_law_row"]) (sc := defScope s_w_handed) (by decide +kernel)) (fun _ _ _ _ _ => pg_name (i := 1) sc_w_handed.nd rfl (Or.inl rfl)) (fun _ _ _ _ _ => pts_nil) (fun _ _ _ _ _ => (pe_tup (pa_cons (pe_make T.mk_Form G_Form___init (hr.mono (by decide)) rfl T.gC_Form T.b3_Form___init.choose_spec.2 T.b3_Form___init.choose_spec.1 pass0 (pa_cons (pe_callTy (call_list_ofK (K := K) rfl) (by rfl) T.m_list (by decide +kernel) (pa_cons (pe_ix (ix_tupK (K := K) rfl) (pe_ix (ix_tupK (K := K) rfl) (pv 1) pe_int (fun _ _ => rfl)) pe_int (fun _ _ => rfl)) pa_nil)) (pa_cons (pe_ix (ix_tupK (K := K) rfl) (pe_ix (ix_tupK (K := K) rfl) (pv 1) pe_int (fun _ _ => rfl)) pe_int (fun _ _ => rfl)) pa_nil))) (pa_cons (pe_ix (ix_tupK (K := K) rfl) (pv 1) pe_int (fun _ _ => rfl)) pa_nil))))))), ?_⟩
    walk_at "start"
    walk_at "sts"
    refine lcL_go (fun D i acc H' => ∃ bs : List Addr, acc = bs.map V.ref ∧ Each (HOne T.C_Form H') bs (rs.take i) ∧ Keep [] H H' ∧ H D = none) (sqL_of ep) (fun D hD => ⟨[], rfl, by simp only [List.take_zero]; trivial, Keep.new hD, hD⟩) (fun D i acc H' _ h => by obtain ⟨_, _, _, k, _⟩ := h; exact sqL_of (k _ _ (by simp) ep)) ?_ ?_
    · rintro D i v acc H1 hv hD ⟨bs, rfl, hb, k1, nD⟩
      obtain ⟨a, ha, rfl⟩ := getRef hv
      obtain ⟨r, hr, d, ea, t, ed, cs, et, pt⟩ := pr.get ha
      have mr := List.mem_of_getElem? hr
      have okr := hok r mr
      have hbl := hb.len
      rw [List.length_take] at hbl
      have ea1 := k1 _ _ (by simp) ea
      have ed1 := k1 _ _ (by simp) ed
      have et1 := k1 _ _ (by simp) et
      have hcl := pt.len
      have r4 := okr.f.len
      walk_at "sts"
      intro l hl
      have k2 : Keep [] H1 (upd H1 l (.lst (cs.map V.ref))) := Keep.new hl
      have row2 : RowAt (upd H1 l (.lst (cs.map V.ref))) l r.1.1 := ⟨cs, upd_same, (pt.keep0 k1).keep0 k2⟩
      generalize upd H1 l (.lst (cs.map V.ref)) = H2 at k2 row2 ⊢
      have ea2 := k2 _ _ (by simp) ea1
      have ed2 := k2 _ _ (by simp) ed1
      walk_at "sts"
      refine r_newForm (.inl row2) (by omega) (fun z hz => hq _ (okr.f.nm z hz)) fun x H3 k3 nx f3 => ?_
      rw [Fm.can_self okr.f.can] at f3
      have ea3 := k3 _ _ (by simp) ea2
      walk_at "sts"
      intro y hy
      have k4 : Keep [] H3 (upd H3 y (.tup [.ref x, .str r.2])) := Keep.new hy
      have e4 : upd H3 y (.tup [.ref x, .str r.2]) y = some (.tup [.ref x, .str r.2]) := upd_same
      generalize upd H3 y (.tup [.ref x, .str r.2]) = H4 at k4 e4 ⊢
      have k14 := k2.trans (k3.trans k4)
      have hD4 := k14 _ _ (by simp) hD
      refine lc_put (acc := bs.map V.ref) hD4 (by rw [List.length_map]; exact lt_size (by omega)) ⟨bs ++ [y], by rw [List.map_append]; rfl, ?_, (k1.trans k14).mut nD, nD⟩
      rw [take_snoc hr]
      have ho : HOne T.C_Form H4 y r := ⟨x, e4, f3.keep0 k4⟩
      exact ((hb.mono fun b x h => h.keep0 k14).app (bs := [y]) (ys := [r]) ⟨ho, trivial⟩).mono fun b x h => h.keep (Keep.at (M := [D]) (by simp)) (ml1 hD4)
    · rintro D acc H1 nD hD ⟨bs, rfl, hb, k1, _⟩
      rw [List.length_map, has, List.take_length] at hb
      walk_at "sts"
      exact qq D H1 k1 nD ⟨bs, hD, hb⟩
end
/-! ### the names of rows -/
def names (rs : List Lr) : List Str := rs.flatMap fun r => r.1.1.map (·.1)
structure NmOf (rs : List Lr) (ys : List Str) : Prop where
  asc : ys.Pairwise Fm.Lt
  mem : ∀ z, z ∈ ys ↔ z ∈ names rs
theorem names_snoc {rs : List Lr} {r : Lr} : names (rs ++ [r]) = names rs ++ r.1.1.map (·.1) := by simp [names]
theorem names_in {xs : List Str} {k : Nat} {rs : List Lr} (h : ∀ r ∈ rs, ROk xs k r) : ∀ z ∈ names rs, z ∈ xs := fun z hz => by
  obtain ⟨r, hr, hz⟩ := List.mem_flatMap.mp hz
  obtain ⟨t, ht, rfl⟩ := List.mem_map.mp hz
  exact (h r hr).f.nm t ht
theorem keys_put2 {kvs : List (Key × V)} {ks : List Str} {z : Str} {v : V} (h : kvs.map (·.1) = ks.map Sum.inr) : (putK kvs (Sum.inr z) v).map (·.1) = (if z ∈ ks then ks else ks ++ [z]).map Sum.inr := by
  by_cases hz : z ∈ ks
  · rw [if_pos hz]
    have e : (kvs.any fun kv => decide (kv.1 = Sum.inr z)) = true := by
      have : Sum.inr z ∈ kvs.map (·.1) := by rw [h]; exact List.mem_map.mpr ⟨z, hz, rfl⟩
      obtain ⟨kv, hkv, e⟩ := List.mem_map.mp this
      exact List.any_eq_true.mpr ⟨kv, hkv, decide_eq_true e⟩
    unfold putK
    rw [if_pos e, ← h, List.map_map]
    apply List.map_congr_left
    intro kv hkv
    simp only [Function.comp]
    split
    · rename_i g; first | exact g.symm | (have := of_decide_eq_true g; exact this.symm) | simp_all
    · rfl
  · rw [if_neg hz]; exact keys_put h hz
def spQuants : Sp := fun vs H Q _ => ∃ (p : Addr) (xs : List Str) (rs : List Lr), vs = [.ref p] ∧ LRows H p rs ∧ rs.length ≤ 7 ∧ (∀ r ∈ rs, ROk xs 400 r) ∧ xs.length ≤ 4 ∧ ∀ (q : Addr) (ys : List Str) (H' : Hp), Keep [] H H' → H q = none → NmOf rs ys → H' q = some (.lst (ys.map V.str)) → Q (.ref q) H'
def spAllNames (C : Addr) : Sp := fun vs H Q _ => ∃ (p : Addr) (as : List Addr) (xs : List Str) (rs : List Lr), vs = [.ref p] ∧ H p = some (.lst (as.map V.ref)) ∧ Each (fun a r => FormAt C H a r.1.1 r.1.2) as rs ∧ rs.length ≤ 7 ∧ (∀ r ∈ rs, ROk xs 400 r) ∧ xs.length ≤ 4 ∧ ∀ (q : Addr) (ys : List Str) (H' : Hp), Keep [] H H' → H q = none → NmOf rs ys → H' q = some (.tup (ys.map V.str)) → Q (.ref q) H'
section
variable {P : Program} {w : World} {K : PySem.W.Frag} {mg : Str → Option Value} {base : Heap}
theorem ok_quants (T : Tx K mg) : FnOk P w K mg base CX0 1 T.f_w_quantities T.fd_w_quantities ["_law_rows_here"] spQuants := by
  refine T.F_w_quantities.ok sc_w_quantities (fun vs H Q E h => ?_) (fun cdv A outer s H vs Q E hr h => ?_)
  · obtain ⟨p, xs, rs, rfl, _⟩ := h; rfl
  · obtain ⟨p, xs, rs, rfl, ⟨as, ep, pr⟩, h7, hok, l4, qq⟩ := h
    have has := pr.len
    refine ⟨_, (pss_cons (ps_set (i := 1) sc_w_quantities.nd rfl (Or.inl rfl) (pe_lst pa_nil))
    (pss_cons (ps_for PassesOwn.never rfl (pi_list (pv 0)) (pg_name (i := 2) sc_w_quantities.nd rfl (Or.inl rfl))
    (pss_one (ps_for PassesOwn.never rfl (pi_tup (pe_ix ix_tup (pe_ix ix_tup (pv 2) pe_int (fun _ _ => rfl)) pe_int (fun _ _ => rfl))) (pg_name (i := 3) sc_w_quantities.nd rfl (Or.inl rfl))
    (pss_one (ps_if (pt_cmpR op_notIn_seq (pe_ix ix_tup (pv 3) pe_int (fun _ _ => rfl)) (pv 1) (by rfl))
    (pss_one (ps_expr (pe_bm PySem.F.plainAttrs_list PySem.F.slot_list_append PySem.F.type_list_append mt_append (pv 1) (pa_cons (pe_ix ix_tup (pv 3) pe_int (fun _ _ => rfl)) pa_nil))))
    pss_nil)))))
    (pss_one (ps_ret (pe_callB cr_sortedS (by rfl) T.m_sorted (by decide +kernel) (pa_cons (pv 1) pa_nil)))))), ?_⟩
    walk_at "start"
    walk_at "sts"
    intro l hl
    have k1 : Keep [] H (upd H l (.lst [])) := Keep.new hl
    have e1 : upd H l (.lst []) l = some (.lst (([] : List Str).map V.str)) := upd_same
    generalize upd H l (.lst []) = H1 at k1 e1 ⊢
    walk_at "sts"
    refine forL_go (fun i σ' H' => ∃ (ns : List Str) (x1 x2 : Option V), σ' = [some (.ref p), some (.ref l), x1, x2] ∧ H' l = some (.lst (ns.map V.str)) ∧ Keep [] H H' ∧ ns.Nodup ∧ (∀ z, z ∈ ns ↔ z ∈ names (rs.take i))) (sqL_of (k1 _ _ (by simp) ep)) ⟨[], _, _, by first | exact rfl | trivial, e1, k1, by simp, by simp [names]⟩ (fun i σ' H' _ h => by obtain ⟨_, _, _, _, _, k, _⟩ := h; exact sqL_of (k _ _ (by simp) ep)) ?_ ?_
    · rintro i v σ' H2 hv ⟨ns, x1, x2, rfl, e2, k2, nd, hm⟩
      obtain ⟨a, ha, rfl⟩ := getRef hv
      obtain ⟨r, hr, d, ea, t, ed, cs, et, pt⟩ := pr.get ha
      have okr := hok r (List.mem_of_getElem? hr)
      have ea2 := k2 _ _ (by simp) ea
      have ed2 := k2 _ _ (by simp) ed
      have et2 := k2 _ _ (by simp) et
      have hcl := pt.len
      walk_at "sts"
      refine forT_go (fun j σ' H' => ∃ (ns : List Str) (x2 : Option V), σ' = [some (.ref p), some (.ref l), some (.ref a), x2] ∧ H' l = some (.lst (ns.map V.str)) ∧ Keep [] H H' ∧ ns.Nodup ∧ (∀ z, z ∈ ns ↔ z ∈ names (rs.take i) ∨ z ∈ (r.1.1.take j).map (·.1))) (sqT_of et2) ⟨ns, _, by first | exact rfl | trivial, e2, k2, nd, by simpa using hm⟩ (fun j σ' H' _ h => by obtain ⟨_, _, _, _, k, _⟩ := h; exact sqT_of (k _ _ (by simp) et)) ?_ ?_
      · rintro j v σ' H3 hv ⟨ns3, y, rfl, e3, k3, nd3, hm3⟩
        obtain ⟨b, hb, rfl⟩ := getRef hv
        obtain ⟨z, hz, ez⟩ := pt.get hb
        have ez3 := k3 _ _ (by simp) ez
        have mz := List.mem_of_getElem? hz
        have sub : ∀ x ∈ ns3, x ∈ xs := fun x hx => by
          rcases (hm3 x).mp hx with h | h
          · exact names_in (fun r hr => hok r (List.mem_of_mem_take hr)) x h
          · obtain ⟨t', ht', rfl⟩ := List.mem_map.mp h
            exact okr.f.nm t' (List.mem_of_mem_take ht')
        have ln := Fm.nodup_len nd3 sub
        walk_at "sts"
        refine r_ninL (sqL_of e3) rfl (flat_strs ns3) ?_
        rw [inV_str]
        walk_at "sts"
        refine r_iteN (fun c1 => ?_) (fun c1 => ?_)
        · walk_at "sts"
          refine ⟨ns3 ++ [z.1], _, by first | exact rfl | trivial, by rw [upd_same, List.map_append]; rfl, k3.mut hl, List.nodup_append.mpr ⟨nd3, by simp, fun x hx y hy e => c1 (by rw [← List.mem_singleton.mp hy, ← e]; exact hx)⟩, fun x => ?_⟩
          rw [take_snoc hz, List.map_append, List.mem_append, List.mem_append, hm3, or_assoc]; simp
        · walk_at "sts"
          refine ⟨ns3, _, by first | exact rfl | trivial, e3, k3, nd3, fun x => ?_⟩
          rw [take_snoc hz, List.map_append, List.mem_append, ← or_assoc, ← hm3]
          constructor
          · exact .inl
          · rintro (h | h)
            · exact h
            · have : x = z.1 := by simpa using h
              rw [this]; exact c1
      · rintro σ' H3 ⟨ns3, y, rfl, e3, k3, nd3, hm3⟩
        have hct : (cs.map V.ref).length = r.1.1.length := by rw [List.length_map, hcl]
        rw [hct, List.take_length] at hm3
        walk_at "sts"
        refine ⟨ns3, _, _, by first | exact rfl | trivial, e3, k3, nd3, fun x => ?_⟩
        rw [hm3, take_snoc hr, names_snoc, List.mem_append]
    · rintro σ' H2 ⟨ns, x1, x2, rfl, e2, k2, nd, hm⟩
      rw [List.length_map, has, List.take_length] at hm
      have ln := Fm.nodup_len nd fun x hx => names_in hok x ((hm x).mp hx)
      walk_at "sts"
      refine r_sortS (sqL_of e2) (by omega) fun ys q pm st hq => ?_
      have k3 : Keep [] H2 (upd H2 q (.lst (ys.map V.str))) := Keep.new hq
      have nd' : ys.Nodup := pm.nodup_iff.mpr nd
      exact qq q ys _ (k2.trans k3) (k2.free (by simp) hq) ⟨Fm.asc_of_sorted st nd', fun x => (pm.mem_iff).trans (hm x)⟩ upd_same
end
section
variable {P : Program} {w : World} {K : PySem.W.Frag} {mg : Str → Option Value} {base : Heap}
theorem keys_str {kvs : List (Key × V)} {ks : List Str} (h : kvs.map (·.1) = ks.map Sum.inr) : (kvs.map fun kv => kV kv.1) = ks.map V.str := by
  have : (kvs.map fun kv => kV kv.1) = (kvs.map (·.1)).map kV := by rw [List.map_map]; rfl
  rw [this, h, List.map_map]; rfl
theorem ok_allNames (T : Tx K mg) : FnOk P w K mg base CX0 1 T.f_all_names T.fd_all_names ["forms"] (spAllNames T.C_Form) := by
  refine T.F_all_names.ok sc_all_names (fun vs H Q E h => ?_) (fun cdv A outer s H vs Q E hr h => ?_)
  · obtain ⟨p, as, xs, rs, rfl, _⟩ := h; rfl
  · obtain ⟨p, as, xs, rs, rfl, ep, pr, h7, hok, l4, qq⟩ := h
    have has := pr.len
    have oc := T.oc_Form
    have na := T.na_Form_terms
    refine ⟨_, (pss_cons (ps_set (i := 1) sc_all_names.nd rfl (Or.inl rfl) pe_dnewK)
    (pss_cons (ps_for PassesOwn.never rfl (pi_list (pv 0)) (pg_name (i := 2) sc_all_names.nd rfl (Or.inl rfl))
    (pss_one (ps_for PassesOwn.never rfl (pi_tup (pe_fld (pv 2) rfl)) (pg_tup (n := 2) rfl (pgs_cons (pg_name (i := 3) sc_all_names.nd rfl (Or.inl rfl)) (pgs_cons (pg_name (i := 4) sc_all_names.nd rfl (Or.inl rfl)) pgs_nil)))
    (pss_one (ps_dput (hu_of hr) (pv 1) (pv 3) pe_bl rfl)))))
    (pss_one (ps_ret (pe_callTy call_tuple_of (by rfl) T.m_tuple (by decide +kernel) (pa_cons (pe_callB cr_sortedS (by rfl) T.m_sorted (by decide +kernel) (pa_cons (pe_callTy (call_list_dK rfl) (by rfl) T.m_list (by decide +kernel) (pa_cons (pv 1) pa_nil)) pa_nil)) pa_nil)))))), ?_⟩
    walk_at "start"
    walk_at "sts"
    intro m hm0
    have k1 : Keep [] H (upd H m (.dK [])) := Keep.new hm0
    have e1 : upd H m (.dK []) m = some (.dK []) := upd_same
    generalize upd H m (.dK []) = H1 at k1 e1 ⊢
    walk_at "sts"
    refine forL_go (fun i σ' H' => ∃ (kvs : List (Key × V)) (ns : List Str) (x1 x2 x3 : Option V), σ' = [some (.ref p), some (.ref m), x1, x2, x3] ∧ H' m = some (.dK kvs) ∧ kvs.map (·.1) = ns.map Sum.inr ∧ Keep [] H H' ∧ ns.Nodup ∧ (∀ z, z ∈ ns ↔ z ∈ names (rs.take i))) (sqL_of (k1 _ _ (by simp) ep)) ⟨[], [], _, _, _, by first | exact rfl | trivial, e1, rfl, k1, by simp, by simp [names]⟩ (fun i σ' H' _ h => by obtain ⟨_, _, _, _, _, _, _, _, k, _⟩ := h; exact sqL_of (k _ _ (by simp) ep)) ?_ ?_
    · rintro i v σ' H2 hv ⟨kvs, ns, x1, x2, x3, rfl, e2, hk, k2, nd, hm⟩
      obtain ⟨a, ha, rfl⟩ := getRef hv
      obtain ⟨r, hr, dx, t, ea, cs, et, pt⟩ := pr.get ha
      have okr := hok r (List.mem_of_getElem? hr)
      have ea2 := k2 _ _ (by simp) ea
      have et2 := k2 _ _ (by simp) et
      have hcl := pt.len
      walk_at "sts"
      refine forT_go (fun j σ' H' => ∃ (kvs : List (Key × V)) (ns : List Str) (x2 x3 : Option V), σ' = [some (.ref p), some (.ref m), some (.ref a), x2, x3] ∧ H' m = some (.dK kvs) ∧ kvs.map (·.1) = ns.map Sum.inr ∧ Keep [] H H' ∧ ns.Nodup ∧ (∀ z, z ∈ ns ↔ z ∈ names (rs.take i) ∨ z ∈ (r.1.1.take j).map (·.1))) (sqT_of et2) ⟨kvs, ns, _, _, by first | exact rfl | trivial, e2, hk, k2, nd, by simpa using hm⟩ (fun j σ' H' _ h => by obtain ⟨_, _, _, _, _, _, _, k, _⟩ := h; exact sqT_of (k _ _ (by simp) et)) ?_ ?_
      · rintro j v σ' H3 hv ⟨kvs3, ns3, y2, y3, rfl, e3, hk3, k3, nd3, hm3⟩
        obtain ⟨b, hb, rfl⟩ := getRef hv
        obtain ⟨z, hz, ez⟩ := pt.get hb
        have ez3 := k3 _ _ (by simp) ez
        have sub : ∀ x ∈ ns3, x ∈ xs := fun x hx => by
          rcases (hm3 x).mp hx with h | h
          · exact names_in (fun r hr => hok r (List.mem_of_mem_take hr)) x h
          · obtain ⟨t', ht', rfl⟩ := List.mem_map.mp h
            exact okr.f.nm t' (List.mem_of_mem_take ht')
        have ln := Fm.nodup_len nd3 sub
        have lk : kvs3.length = ns3.length := by have := congrArg List.length hk3; simpa using this
        walk_at "sts"
        refine r_dputS e3 (lt_size (by omega)) ?_
        refine ⟨_, if z.1 ∈ ns3 then ns3 else ns3 ++ [z.1], _, _, by first | exact rfl | trivial, upd_same, keys_put2 hk3, k3.mut hm0, ?_, fun x => ?_⟩
        · split
          · exact nd3
          · rename_i c1
            exact List.nodup_append.mpr ⟨nd3, by simp, fun x hx y hy e => c1 (by rw [← List.mem_singleton.mp hy, ← e]; exact hx)⟩
        · rw [take_snoc hz, List.map_append, List.mem_append, ← or_assoc, ← hm3]
          split
          · rename_i c1
            constructor
            · exact .inl
            · rintro (h | h)
              · exact h
              · have : x = z.1 := by simpa using h
                rw [this]; exact c1
          · rw [List.mem_append]; simp
      · rintro σ' H3 ⟨kvs3, ns3, y2, y3, rfl, e3, hk3, k3, nd3, hm3⟩
        have hct : (cs.map V.ref).length = r.1.1.length := by rw [List.length_map, hcl]
        rw [hct, List.take_length] at hm3
        walk_at "sts"
        refine ⟨kvs3, ns3, _, _, _, by first | exact rfl | trivial, e3, hk3, k3, nd3, fun x => ?_⟩
        rw [hm3, take_snoc hr, names_snoc, List.mem_append]
    · rintro σ' H2 ⟨kvs, ns, x1, x2, x3, rfl, e2, hk, k2, nd, hm⟩
      rw [List.length_map, has, List.take_length] at hm
      have ln := Fm.nodup_len nd fun x hx => names_in hok x ((hm x).mp hx)
      walk_at "sts"
      refine r_listD e2 fun l hl2 => ?_
      rw [keys_str hk]
      have k3 : Keep [] H2 (upd H2 l (.lst (ns.map V.str))) := Keep.new hl2
      have e3 : upd H2 l (.lst (ns.map V.str)) l = some (.lst (ns.map V.str)) := upd_same
      generalize upd H2 l (.lst (ns.map V.str)) = H3 at k3 e3 ⊢
      walk_at "sts"
      refine r_sortS (sqL_of e3) (by omega) fun ys q pm st hq => ?_
      have k4 : Keep [] H3 (upd H3 q (.lst (ys.map V.str))) := Keep.new hq
      have e4 : upd H3 q (.lst (ys.map V.str)) q = some (.lst (ys.map V.str)) := upd_same
      generalize upd H3 q (.lst (ys.map V.str)) = H4 at k4 e4 ⊢
      have nd' : ys.Nodup := pm.nodup_iff.mpr nd
      have nmo : NmOf rs ys := ⟨Fm.asc_of_sorted st nd', fun x => (pm.mem_iff).trans (hm x)⟩
      walk_at "sts"
      have k14 := k2.trans (k3.trans k4)
      exact ⟨q, _, rfl, .inl ⟨sqL_of e4, fun l5 h5 => qq l5 ys _ (k14.trans (Keep.new h5)) (k14.free (by simp) h5) nmo upd_same⟩⟩
end
/-! ### levels needed, or NoQuantity -/
/-- what need_levels says of the names xs where the keys are ns -/
def spNeedX (CN : Addr) : Sp := fun vs H Q E => ∃ (p d : Addr) (ys ns : List Str) (kvs : List (Key × V)), vs = [.ref p, .ref d] ∧ H p = some (.tup (ys.map V.str)) ∧ H d = some (.dK kvs) ∧ kvs.map (·.1) = ns.map Sum.inr ∧ (∀ y ∈ ys, (reprText y).length ≤ 100000) ∧
  ((∀ y ∈ ys, y ∈ ns) → Q .non H) ∧ (∀ (i : Nat) (y : Str), ys[i]? = some y → y ∉ ns → (∀ z ∈ ys.take i, z ∈ ns) → ∀ e, H e = none → E (.ref CN) (some e) (upd H e (.xd [("name", .str y)])))
theorem val_in {kvs : List (Key × V)} {ns : List Str} {z : Str} (h : kvs.map (·.1) = ns.map Sum.inr) : (valV kvs (Sum.inr z)).isSome = decide (z ∈ ns) := by
  induction kvs generalizing ns with
  | nil => cases ns with
    | nil => rfl
    | cons n ns => simp at h
  | cons kv kvs ih => cases ns with
    | nil => simp at h
    | cons n ns =>
      rw [List.map_cons, List.map_cons, List.cons.injEq] at h
      obtain ⟨k, v⟩ := kv
      by_cases e : z = n
      · subst e
        rw [valV_pos (show k = Sum.inr z from h.1)]; simp
      · rw [valV_neg (show k ≠ Sum.inr z from fun g => e (by have := h.1.symm.trans g; exact (Sum.inr.inj this).symm)), ih h.2]
        simp [e]
section
variable {w : World} {K : PySem.W.Frag} {mg : Str → Option Value} {base : Heap}
theorem ok_needX (T : Tx K mg) : FnOk PG w K mg base (L2.CX PG w) 2 T.f_need_levels T.fd_need_levels ["names", "world"] (spNeedX T.C_NoQuantity) := by
  refine T.F_need_levels.okX sc_need_levels (fun vs H Q E h => ?_) (fun cdv A outer s H vs Q E hr h => ?_)
  · obtain ⟨a, d, xs, ns, kvs, rfl, _⟩ := h; rfl
  · obtain ⟨p, d, ys, ns, kvs, rfl, hp, hd, hk, hrep, q, qe⟩ := h
    have tk0 : Takes (cxOf (L2.CX PG w) PG w K mg base ["names", "world", "name"] "need_levels" (defScope s_need_levels) T.f_need_levels cdv A outer s H E) (fun cls d _ H => E cls d H) := takes_of rfl rfl rfl rfl
    refine ⟨_, (pss_one (ps_for (passes_of rfl) rfl (pi_tup (pv 0)) (pg_name (i := 2) sc_need_levels.nd rfl (Or.inl rfl))
    (pss_one (ps_if (pt_cmp (pc_dnotin (hu_of hr) (pv 2) (pv 1)))
    (pss_one (Er.ps_raise1 rfl (T.Z_NoQuantity w) hr tk0 (pa_cons (pv 2) pa_nil)))
    pss_nil)))), ?_⟩
    walk_at "start"
    walk_at "sts"
    refine forT_go (fun i σ' H' => ∃ (x1 : Option V), σ' = [some (.ref p), some (.ref d), x1] ∧ H' = H ∧ ∀ z ∈ ys.take i, z ∈ ns) (sqT_of hp) ⟨_, by first | exact rfl | trivial, rfl, by simp⟩ (fun i σ' H' _ h => by obtain ⟨_, _, rfl, _⟩ := h; exact sqT_of hp) ?_ ?_
    · rintro i v σ' H' hv ⟨x1, rfl, rfl, hz⟩
      obtain ⟨nm, hnm, rfl⟩ := getStr hv
      walk_at "sts"
      refine r_dinS hd ?_
      rw [val_in hk]
      walk_at "sts"
      refine r_iteN (fun c => ?_) (fun c => ?_)
      · walk_at "sts"
        refine ⟨_, rfl, .inr ⟨nm, rfl, hrep nm (List.mem_of_getElem? hnm)⟩, fun e he => ?_⟩
        exact qe i nm hnm c hz e he
      · walk_at "sts"
        refine ⟨_, by first | exact rfl | trivial, rfl, fun z hm => ?_⟩
        rw [take_snoc hnm] at hm
        rcases List.mem_append.mp hm with hm | hm
        · exact hz z hm
        · rw [List.mem_singleton.mp hm]; exact c
    · rintro σ' H' ⟨x1, rfl, rfl, hz⟩
      rw [List.length_map, List.take_length] at hz
      walk_at "sts"
      exact q hz
end
/-! ### holds -/
def spHolds (C CN : Addr) : Sp := fun vs H Q E => ∃ (p d : Addr) (xs ns : List Str) (rs : List Lr) (W : Fm.Wd), vs = [.ref p, .ref d] ∧ HRows C H p rs ∧ WorldAt H d ns W ∧ rs.length ≤ 7 ∧ (∀ r ∈ rs, ROk xs 400 r) ∧ xs.length ≤ 4 ∧ (∀ z ∈ xs, IsQ z) ∧
  (∀ (ys : List Str) (H' : Hp), NmOf rs ys → (∀ y ∈ ys, y ∈ ns) → Keep [] H H' → Q (.bl (rs.all (holdsB W))) H') ∧
  (∀ (ys : List Str) (i : Nat) (y : Str) (H' : Hp) (e : Addr), NmOf rs ys → ys[i]? = some y → y ∉ ns → (∀ z ∈ ys.take i, z ∈ ns) → Keep [] H H' → H' e = none → E (.ref CN) (some e) (upd H' e (.xd [("name", .str y)])))
theorem rep_le {s : Str} (h : IsQ s) : (reprText s).length ≤ 100000 := by
  have hl := h.len
  have h1 : ∀ (q : Nat) (l : List Nat) (n : Nat), (∀ c ∈ l, (PySem.Builtin.Str.reprChar q c).length ≤ 10) → l.foldl (fun n c => n + (PySem.Builtin.Str.reprChar q c).length) n ≤ n + 10 * l.length := by
    intro q l
    induction l with
    | nil => intro n _; simp
    | cons c l ih =>
      intro n hc
      have a := ih (n + (PySem.Builtin.Str.reprChar q c).length) fun z hz => hc z (by simp [hz])
      have b := hc c (by simp)
      rw [List.foldl_cons, List.length_cons]; omega
  rw [← reprLen_eq, ← Array.foldl_toList]
  have h2 : ∀ q, q = reprQuote s → ∀ c ∈ s.cps.toList, (PySem.Builtin.Str.reprChar q c).length ≤ 10 := by
    intro q hq c hc
    have hcs := h.al c hc
    have e39 : ∀ c ∈ signsL, (PySem.Builtin.Str.reprChar 39 c).length ≤ 10 := by decide +kernel
    have e34 : ∀ c ∈ signsL, (PySem.Builtin.Str.reprChar 34 c).length ≤ 10 := by decide +kernel
    have : q = 39 ∨ q = 34 := by rw [hq]; unfold reprQuote; split <;> simp_all
    rcases this with e | e <;> subst e
    · exact e39 c hcs
    · exact e34 c hcs
  have := h1 (reprQuote s) s.cps.toList 2 (h2 _ rfl)
  have h4 : s.cps.toList.length = s.length := by simp [Str.length]
  omega
/-! a called instance, told by the heap alone: so it may stand in a comprehension -/
def upE (t : TE) : TE := fun σ H Q => ∃ Q' : VK, (∀ v H, Q' v H → Q v H) ∧ t σ H Q'
def upA (t : TA) : TA := fun σ H Q => ∃ Q' : List V → Hp → Prop, (∀ v H, Q' v H → Q v H) ∧ t σ H Q'
theorem pe_up {X : Cx} {e : Expr} {t : TE} (h : PE X e t) : PE X e (upE t) := ⟨fun pins s σ H Q I ⟨Q', m, k⟩ => thn (h.run pins s σ H Q' I k) fun u s' ⟨v, H', J, r, q⟩ => ⟨v, H', J, r, m _ _ q⟩⟩
theorem pa_up {X : Cx} {es : List Expr} {t : TA} (h : PA X es t) : PA X es (upA t) := ⟨fun pos pins s σ H Q I ⟨Q', m, k⟩ => thn (h.run pos pins s σ H Q' I k) fun u s' ⟨v, H', J, r, q⟩ => ⟨v, H', J, r, m _ _ q⟩⟩
def tCallI (C : Addr) (sp : Sp) (E : XK) (tf : TE) (t : TA) : TE := fun σ H Q => tf σ H fun y H1 => ∃ a, y = V.ref a ∧ t σ H1 fun vs H2 => (∃ dx fs, H2 a = some (.ins C dx fs)) ∧ sp (V.ref a :: vs) H2 Q E
theorem r_callI {C : Addr} {sp : Sp} {E : XK} {tf : TE} {t : TA} {σ : L2.St} {H : Hp} {Q : VK} (k : tf σ H fun y H1 => ∃ a, y = V.ref a ∧ t σ H1 fun vs H2 => (∃ dx fs, H2 a = some (.ins C dx fs)) ∧ sp (V.ref a :: vs) H2 Q E) : tCallI C sp E tf t σ H Q := k
theorem pe_callOK {X : Cx} {K : PySem.W.Frag} {C g : Addr} {CX : CXT} {k : Nat} {sp : Sp} {E : XK} {fe e : Expr} {es : List Expr} {tf : TE} {t : TA} {pos : Pos} (hK : X.K = K) (hf : PE X fe tf) (c : StX.CallO K C g) (F : FnR X.prog X.w K X.mg X.base CX k g sp) (hr : Room k X.A) (hx : Passes CX X E) (ha : PA X (e :: es) t)
    (ht : eval (.Call fe (e :: es) [] pos) X.env = (do callWith pos (← eval fe X.env) [] (backTo pos (starEach (e :: es) X.env)) (backToKw pos (keywordEach [] X.env))) := by rfl)
    (he : starEach (e :: es) X.env = (false, eval e X.env) :: starEach es X.env := by rfl) (hpl : (backTo pos (starEach es X.env)).any (·.1) = false := by rfl) : PE X (.Call fe (e :: es) [] pos) (tCallI C sp E tf t) := by
  subst hK
  refine ⟨fun pins s σ H Q I h => (StX.pe_callO (pe_up hf) c F hr hx (pa_up ha) ht he hpl).run pins s σ H Q I ?_⟩
  exact ⟨_, fun y H1 ⟨a, ey, k⟩ => ⟨a, ey, _, fun vs H2 ⟨hi, q⟩ => ⟨.inr hi, q⟩, k⟩, h⟩
section
variable {w : World} {K : PySem.W.Frag} {mg : Str → Option Value} {base : Heap}
theorem ok_holds (T : Tx K mg) (G_all_names : FnOk PG w K mg base CX0 1 T.f_all_names T.fd_all_names ["forms"] (spAllNames T.C_Form)) (G_need_levels : FnOk PG w K mg base (L2.CX PG w) 2 T.f_need_levels T.fd_need_levels ["names", "world"] (spNeedX T.C_NoQuantity))
    (G_row_holds : FnOk PG w K mg base CX0 1 T.f_row_holds T.fd_row_holds ["value", "sign"] spRowHolds) (G_Form___call : FnOk PG w K mg base CX0 3 T.f_Form___call T.fd_Form___call ["self", "world"] (spVal T.C_Form)) : FnOk PG w K mg base (L2.CX PG w) 6 T.f_holds T.fd_holds ["rows", "world"] (spHolds T.C_Form T.C_NoQuantity) := by
  refine T.F_holds.okX sc_holds (fun vs H Q E h => ?_) (fun cdv A outer s H vs Q E hr h => ?_)
  · obtain ⟨a, d, xs, ns, rs, W, rfl, _⟩ := h; rfl
  · obtain ⟨p, d, xs, ns, rs, W, rfl, ⟨as, ep, pr⟩, hw, h7, hok, l4, hq, qq, qe⟩ := h
    have has := pr.len
    have oc := T.oc_Form
    have tk0 : Takes (cxOf (L2.CX PG w) PG w K mg base ["rows", "world", "form", "_", "sign"] "holds" (defScope s_holds) T.f_holds cdv A outer s H E) (fun cls d _ H => E cls d H) := takes_of rfl rfl rfl rfl
    refine ⟨_, (pss_cons (ps_expr (pe_call G_need_levels (hr.mono (by decide)) rfl T.g_need_levels T.F_need_levels.kp T.b_need_levels .nil (passes_call tk0 (fun _ _ _ _ h => h)) (pa_cons (pe_call G_all_names (hr.mono (by decide)) rfl T.g_all_names T.F_all_names.kp T.b_all_names .nil pass0 (pa_cons (pe_lc (own := [("form", 2), ("_", 3)]) (g := gTup K 2 (gCons (gName 2) (gCons (gName 3) gNil))) (tt := tYes) rfl sc_holds.nd (pi_list (pv 0)) (blkOk_by (own := [("form", 2), ("_", 3)]) (N := ["rows", "world", "form", "_", "sign"]) (sc := defScope s_holds) (by decide +kernel)) (fun _ _ _ _ _ => pg_tup (n := 2) rfl (pgs_cons (pg_name (i := 2) sc_holds.nd rfl (Or.inl rfl)) (pgs_cons (pg_name (i := 3) sc_holds.nd rfl (Or.inl rfl)) pgs_nil))) (fun _ _ _ _ _ => pts_nil) (fun _ _ _ _ _ => (pv 2))) pa_nil)) (pa_cons (pv 1) pa_nil))))
    (pss_one (ps_ret (pe_callB (cr_all rfl) (by rfl) T.m_all (by decide +kernel) (pa_cons (pe_lc (own := [("form", 2), ("sign", 4)]) (g := gTup K 2 (gCons (gName 2) (gCons (gName 4) gNil))) (tt := tYes) rfl sc_holds.nd (pi_list (pv 0)) (blkOk_by (own := [("form", 2), ("sign", 4)]) (N := ["rows", "world", "form", "_", "sign"]) (sc := defScope s_holds) (by decide +kernel)) (fun _ _ _ _ _ => pg_tup (n := 2) rfl (pgs_cons (pg_name (i := 2) sc_holds.nd rfl (Or.inl rfl)) (pgs_cons (pg_name (i := 4) sc_holds.nd rfl (Or.inl rfl)) pgs_nil))) (fun _ _ _ _ _ => pts_nil) (fun _ _ _ _ _ => (pe_call G_row_holds (hr.mono (by decide)) rfl T.g_row_holds T.F_row_holds.kp T.b_row_holds .nil pass0 (pa_cons (pe_ix (ix_tupK (K := K) rfl) (pe_callOK (K := K) rfl (pv 2) T.co_Form (G_Form___call.raw T.b_Form___call .nil) (hr.mono (by decide)) pass0 (pa_cons (pv 1) pa_nil)) pe_int (fun _ _ => rfl)) (pa_cons (pv 4) pa_nil))))) pa_nil))))), ?_⟩
    walk_at "start"
    walk_at "sts"
    refine lcL_go (fun D i acc H' => ∃ fs : List Addr, acc = fs.map V.ref ∧ Each (fun a r => FormAt T.C_Form H' a r.1.1 r.1.2) fs (rs.take i) ∧ Keep [] H H' ∧ H D = none) (sqL_of ep) (fun D hD => ⟨[], rfl, by simp only [List.take_zero]; trivial, Keep.new hD, hD⟩) (fun D i acc H' _ h => by obtain ⟨_, _, _, k, _⟩ := h; exact sqL_of (k _ _ (by simp) ep)) ?_ ?_
    · rintro D i v acc H1 hv hD ⟨fs, rfl, hb, k1, nD⟩
      obtain ⟨a, ha, rfl⟩ := getRef hv
      obtain ⟨r, hr, x, ea, fx⟩ := pr.get ha
      have hbl := hb.len
      rw [List.length_take] at hbl
      refine r_gTup2 (sqT_of (k1 _ _ (by simp) ea)) ?_
      refine ⟨rfl, ?_⟩
      simp only [L2.wipe, List.map_cons, List.map_nil, List.set_cons_zero, List.set_cons_succ]
      walk_at "sts"
      refine lc_put (acc := fs.map V.ref) hD (by rw [List.length_map]; exact lt_size (by omega)) ⟨fs ++ [x], by rw [List.map_append]; rfl, ?_, k1.mut nD, nD⟩
      rw [take_snoc hr]
      exact (hb.app (bs := [x]) (ys := [r]) ⟨fx.keep0 k1, trivial⟩).mono fun b y h => h.keep (Keep.at (M := [D]) (by simp)) (ml1 hD)
    · rintro D acc H1 nD hD ⟨fs, rfl, hb, k1, _⟩
      rw [List.length_map, has, List.take_length] at hb
      walk_at "sts"
      refine ⟨D, fs, xs, rs, rfl, hD, hb, h7, hok, l4, fun q ys H2 k2 nq nmo eq => ?_⟩
      have k12 := k1.trans k2
      obtain ⟨kvs, ed, hk, hnd, hlev⟩ := hw.keep k12 (by simp)
      walk_at "sts"
      refine ⟨q, d, ys, ns, kvs, rfl, eq, ed, hk, fun y hy => rep_le (hq y (names_in hok y ((nmo.mem y).mp hy))), fun hin => ?_, fun i y hy hn hz e he => qe ys i y H2 e nmo hy hn hz k12 he⟩
      have mem : ∀ r ∈ rs, ∀ t ∈ r.1.1, t.1 ∈ ns := fun r hr t ht => hin _ ((nmo.mem _).mpr (List.mem_flatMap.mpr ⟨r, hr, List.mem_map.mpr ⟨t, ht, rfl⟩⟩))
      have ep2 := k12 _ _ (by simp) ep
      walk_at "sts"
      refine lcL_go (fun D i acc H' => acc = (rs.take i).map (fun r => V.bl (holdsB W r)) ∧ Keep [] H2 H' ∧ H2 D = none) (sqL_of ep2) (fun D hD => ⟨by simp, Keep.new hD, hD⟩) (fun D i acc H' _ h => by obtain ⟨_, k, _⟩ := h; exact sqL_of (k _ _ (by simp) ep2)) ?_ ?_
      · rintro D i v acc H3 hv hD ⟨rfl, k3, nD⟩
        obtain ⟨a, ha, rfl⟩ := getRef hv
        obtain ⟨r, hr, x, ea, fx⟩ := pr.get ha
        have mr := List.mem_of_getElem? hr
        have okr := hok r mr
        have k13 := k12.trans k3
        have l4r := okr.f.len
        have hi := (List.getElem?_eq_some_iff.mp hr).1
        refine r_gTup2 (sqT_of (k13 _ _ (by simp) ea)) ?_
        refine ⟨rfl, ?_⟩
        simp only [L2.wipe, List.map_cons, List.map_nil, List.set_cons_zero, List.set_cons_succ]
        have fx3 := fx.keep0 k13
        obtain ⟨dx, tt, ex, _⟩ := id fx3
        walk_at "sts"
        refine r_callI ?_
        walk_at "sts"
        refine ⟨x, rfl, ?_⟩
        walk_at "sts"
        refine ⟨⟨_, _, ex⟩, x, d, r.1.1, r.1.2, kvs, W, rfl, fx3, k3 _ _ (by simp) ed, fun t ht => ⟨(hlev _ (mem r mr t ht)).1.keep k3 (by simp), (hlev _ (mem r mr t ht)).2.1⟩, by omega, fun t ht => ⟨okr.f.wb t ht, Fm.pow_le (hlev _ (mem r mr t ht)).2.2.1 (by decide), Fm.pow_le (hlev _ (mem r mr t ht)).2.2.2 (by decide)⟩, okr.f.cb, fun v H4 k4 ev => ?_⟩
        have hD4 := k4 _ _ (by simp) hD
        walk_at "sts"
        refine ⟨_, _, rfl, ?_⟩
        exact lc_put (acc := (rs.take i).map fun r => V.bl (holdsB W r)) hD4 (by rw [List.length_map, List.length_take]; exact lt_size (by omega)) ⟨by rw [take_snoc hr, List.map_append]; rfl, (k3.trans k4).mut nD, nD⟩
      · rintro D acc H3 nD hD ⟨rfl, k3, _⟩
        rw [List.length_map, has, List.take_length] at hD
        walk_at "sts"
        refine r_all (bs := rs.map (holdsB W)) (sqL_of (by rw [hD, List.map_map]; rfl)) ?_
        rw [show (rs.map (holdsB W)).all id = rs.all (holdsB W) by rw [List.all_map]; rfl]
        exact qq ys H3 nmo hin (k12.trans k3)
end
/-! ### weights changed -/
def spChanged : Sp := fun vs H Q _ => ∃ (a q : Addr) (ws : List Int) (way : Int), vs = [.ref a, .ref q, .int way] ∧ PotAt a H ∧ q ≠ a ∧ H q = some (.lst (ws.map V.int)) ∧ 0 < ws.length ∧ ws.length ≤ 50 ∧ (∀ x ∈ ws, x.natAbs < 2 ^ 50) ∧ 0 ≤ way ∧ way < 8 ∧
  ∀ (r : Addr) (us : List Int) (H' : Hp), Keep [a] H H' → PotAt a H' → H r = none → H' r = some (.lst (us.map V.int)) → us.length ≤ 60 → (∀ x ∈ us, x.natAbs < 2 ^ 100) → Q (.ref r) H'
theorem cut_to {xs : List V} {j : Nat} : cutV xs none (some (j : Int)) = xs.take j := by
  unfold cutV
  rw [HT.sIx_none, HT.sIx_nat, List.drop_zero, Nat.sub_zero]
  by_cases h : j ≤ xs.length
  · rw [Nat.min_eq_left h]
  · rw [Nat.min_eq_right (by omega), List.take_length, List.take_of_length_le (by omega)]
theorem cut_from {xs : List V} {j : Nat} : cutV xs (some (j : Int)) none = xs.drop j := by
  unfold cutV
  rw [HT.sIx_none, HT.sIx_nat, List.take_of_length_le (by rw [List.length_drop]; omega)]
  by_cases h : j ≤ xs.length
  · rw [Nat.min_eq_left h]
  · rw [Nat.min_eq_right (by omega), List.drop_length, List.drop_of_length_le (by omega)]
section
variable {P : Program} {w : World} {K : PySem.W.Frag} {mg : Str → Option Value} {base : Heap}
theorem ok_changed (T : Tx K mg) (G_w_take : GTake P w K mg base T) : FnOk P w K mg base CX0 2 T.f_w_changed T.fd_w_changed ["_law_pot_here", "_law_weights", "_law_way"] spChanged := by
  refine T.F_w_changed.ok sc_w_changed (fun vs H Q E h => ?_) (fun cdv A outer s H vs Q E hr h => ?_)
  · obtain ⟨a, q, ws, way, rfl, _⟩ := h; rfl
  · obtain ⟨a, q, ws, way, rfl, hp, nqa, eq, l0, l50, hb, h0, h8, qq⟩ := h
    refine ⟨_, (pss_cons (ps_set (i := 3) sc_w_changed.nd rfl (Or.inl rfl) (pe_call G_w_take (hr.mono (by decide)) rfl T.g_w_take T.F_w_take.kp T.b_w_take .nil pass0 (pa_cons (pv 0) (pa_cons (pe_callB call_len_seq (by rfl) T.m_len PySem.boot_len (pa_cons (pv 1) pa_nil)) pa_nil))))
    (pss_cons (ps_set (i := 4) sc_w_changed.nd rfl (Or.inl rfl) (pe_callTy call_list_of (by rfl) T.m_list (by decide +kernel) (pa_cons (pv 1) pa_nil)))
    (pss_cons (ps_if (pt_cmpR op_eq (pv 2) pe_int (nomark _))
    (pss_one (ps_asg (pe_op op_add (pe_ix ix_list (pv 4) (pv 3) (fun _ _ => rfl)) pe_int) (pg_sub (pv 4) (pv 3) set_list)))
    pss_nil)
    (pss_cons (ps_if (pt_cmpR op_eq (pv 2) pe_int (nomark _))
    (pss_one (ps_asg (pe_op op_sub (pe_ix ix_list (pv 4) (pv 3) (fun _ _ => rfl)) pe_int) (pg_sub (pv 4) (pv 3) set_list)))
    pss_nil)
    (pss_cons (ps_if (pt_cmpR op_eq (pv 2) pe_int (nomark _))
    (pss_one (ps_asg (pe_un un_neg (pe_ix ix_list (pv 4) (pv 3) (fun _ _ => rfl))) (pg_sub (pv 4) (pv 3) set_list)))
    pss_nil)
    (pss_cons (ps_if (pt_cmpR op_eq (pv 2) pe_int (nomark _))
    (pss_one (ps_setLc (i := 4) (own := [("_law_weight_here", 5)]) (g := gName 5) (tt := tYes) rfl sc_w_changed.nd rfl rfl (sw_true rfl rfl rfl (by decide +kernel)) (pi_list (pv 1)) (blkOk_by (own := [("_law_weight_here", 5)]) (N := ["_law_pot_here", "_law_weights", "_law_way", "_law_at", "_law_changed_here", "_law_weight_here", "_law_factor"]) (sc := defScope s_w_changed) (by decide +kernel)) (fun _ _ _ _ _ => pg_name (i := 5) sc_w_changed.nd rfl (Or.inl rfl)) (fun _ _ _ _ _ => pts_nil) (fun _ _ _ _ _ => pe_int)))
    pss_nil)
    (pss_cons (ps_if (pt_cmpR op_eq (pv 2) pe_int (nomark _))
    (pss_one (ps_setLc (i := 4) (own := [("_law_weight_here", 5)]) (g := gName 5) (tt := tYes) rfl sc_w_changed.nd rfl rfl (sw_true rfl rfl rfl (by decide +kernel)) (pi_list (pv 1)) (blkOk_by (own := [("_law_weight_here", 5)]) (N := ["_law_pot_here", "_law_weights", "_law_way", "_law_at", "_law_changed_here", "_law_weight_here", "_law_factor"]) (sc := defScope s_w_changed) (by decide +kernel)) (fun _ _ _ _ _ => pg_name (i := 5) sc_w_changed.nd rfl (Or.inl rfl)) (fun _ _ _ _ _ => pts_nil) (fun _ _ _ _ _ => (pe_un un_neg (pv 5)))))
    pss_nil)
    (pss_cons (ps_if (pt_cmpR op_eq (pv 2) pe_int (nomark _))
    (pss_cons (ps_set (i := 6) sc_w_changed.nd rfl (Or.inr rfl) (pe_op op_add pe_int (pe_call G_w_take (hr.mono (by decide)) rfl T.g_w_take T.F_w_take.kp T.b_w_take .nil pass0 (pa_cons (pv 0) (pa_cons (pe_op op_pow pe_int pe_int) pa_nil)))))
    (pss_one (ps_setLc (i := 4) (own := [("_law_weight_here", 5)]) (g := gName 5) (tt := tYes) rfl sc_w_changed.nd rfl rfl (sw_true rfl rfl rfl (by decide +kernel)) (pi_list (pv 1)) (blkOk_by (own := [("_law_weight_here", 5)]) (N := ["_law_pot_here", "_law_weights", "_law_way", "_law_at", "_law_changed_here", "_law_weight_here", "_law_factor"]) (sc := defScope s_w_changed) (by decide +kernel)) (fun _ _ _ _ _ => pg_name (i := 5) sc_w_changed.nd rfl (Or.inl rfl)) (fun _ _ _ _ _ => pts_nil) (fun _ _ _ _ _ => (pe_op op_mulG (pv 6) (pv 5))))))
    pss_nil)
    (pss_cons (ps_if (pt_cmpR op_eq (pv 2) pe_int (nomark _))
    (pss_one (ps_set (i := 4) sc_w_changed.nd rfl (Or.inl rfl) (pe_op op_cat (pe_slice sl_list (pv 1) po_none (po_some (pv 3))) (pe_slice sl_list (pv 1) (po_some (pe_op op_add (pv 3) pe_int)) po_none))))
    pss_nil)
    (pss_cons (ps_if (pt_cmpR op_eq (pv 2) pe_int (nomark _))
    (pss_one (ps_set (i := 4) sc_w_changed.nd rfl (Or.inl rfl) (pe_op op_cat (pv 1) (pe_lst (pa_cons (pe_call G_w_take (hr.mono (by decide)) rfl T.g_w_take T.F_w_take.kp T.b_w_take .nil pass0 (pa_cons (pv 0) (pa_cons pe_int pa_nil))) pa_nil)))))
    pss_nil)
    (pss_one (ps_ret (pv 4))))))))))))), ?_⟩
    walk_at "start"
    walk_at "sts"
    refine r_take hp (by rw [List.length_map]; omega) (by rw [List.length_map]; omega) fun at_ H1 a1 b1 k1 p1 => ?_
    rw [List.length_map] at b1
    have eq1 := k1 _ _ (by simpa using nqa) eq
    walk_at "sts"
    intro l hl
    have nla := p1.ne hl
    have k2 : Keep [a] H1 (upd H1 l (.lst (ws.map V.int))) := Keep.new hl
    have e2 : upd H1 l (.lst (ws.map V.int)) l = some (.lst (ws.map V.int)) := upd_same
    have p2 := p1.new (o := .lst (ws.map V.int)) hl
    have eq2 := k2 _ _ (by simpa using nqa) eq1
    have nl : H l = none := k1.free (by simpa using nla) hl
    generalize upd H1 l (.lst (ws.map V.int)) = H2 at k2 e2 p2 eq2 ⊢
    have k12 := k1.trans k2
    have hb' : ∀ x ∈ ws, x.natAbs < 2 ^ 100 := fun x hx => Fm.pow_le (hb x hx) (by decide)
    have cases8 : way = 0 ∨ way = 1 ∨ way = 2 ∨ way = 3 ∨ way = 4 ∨ way = 5 ∨ way = 6 ∨ way = 7 := by omega
    obtain ⟨j, rfl⟩ : ∃ j : Nat, at_ = j := ⟨at_.toNat, by omega⟩
    have hj : j < ws.length := by omega
    have hset : ∀ (x : Int), x.natAbs < 2 ^ 100 → ∀ y ∈ ws.set j x, y.natAbs < 2 ^ 100 := fun x hx y hy => by
      rcases List.mem_or_eq_of_mem_set hy with h | h
      · exact hb' y h
      · rw [h]; exact hx
    have hgj : (ws.getD j 0).natAbs < 2 ^ 50 := by
      rw [List.getD_eq_getElem?_getD, List.getElem?_eq_getElem hj]
      exact hb _ (List.getElem_mem hj)
    have fin : ∀ x : Int, x.natAbs < 2 ^ 100 → Q (.ref l) (upd H2 l (.lst ((ws.map V.int).set ((j : Int)).toNat (V.int x)))) := fun x hx => by
      refine qq l (ws.set j x) _ (k12.mut nl) (p2.put nla) nl (by rw [upd_same, Int.toNat_natCast, List.map_set]) (by rw [List.length_set]; omega) (hset x hx)
    have gj : ws.getD ((j : Int)).toNat 0 = ws.getD j 0 := by rw [Int.toNat_natCast]
    have big : (2 : Nat) ^ 50 + 1 < 2 ^ 100 := by decide
    rcases cases8 with rfl | rfl | rfl | rfl | rfl | rfl | rfl | rfl
    · walk_at "sts"
      rw [gj]
      exact fin _ (by generalize ws.getD j 0 = g at *; generalize (2:Nat) ^ 50 = A at *; generalize (2:Nat) ^ 100 = B at *; omega)
    · walk_at "sts"
      rw [gj]
      exact fin _ (by generalize ws.getD j 0 = g at *; generalize (2:Nat) ^ 50 = A at *; generalize (2:Nat) ^ 100 = B at *; omega)
    · walk_at "sts"
      rw [gj]
      exact fin _ (by generalize ws.getD j 0 = g at *; generalize (2:Nat) ^ 50 = A at *; generalize (2:Nat) ^ 100 = B at *; omega)
    · walk_at "sts"
      refine lcL_go (fun D i acc H' => acc = ((ws.take i).map (fun _ => (0 : Int))).map V.int ∧ Keep [] H2 H' ∧ H2 D = none) (sqL_of eq2) (fun D hD => ⟨by simp, Keep.new hD, hD⟩) (fun D i acc H' _ h => by obtain ⟨_, k, _⟩ := h; exact sqL_of (k _ _ (by simp) eq2)) ?_ ?_
      · rintro D i v acc H5 hv hD ⟨rfl, k5, nD⟩
        obtain ⟨x, hx, rfl⟩ := getInt hv
        have mx := hb x (List.mem_of_getElem? hx)
        have hi := (List.getElem?_eq_some_iff.mp hx).1
        walk_at "sts"
        refine lc_put (acc := ((ws.take i).map (fun _ => (0 : Int))).map V.int) hD (by rw [List.length_map, List.length_map, List.length_take]; exact lt_size (by omega)) ⟨by rw [take_snoc hx, List.map_append, List.map_append]; rfl, k5.mut nD, nD⟩
      · rintro D acc H5 nD hD ⟨rfl, k5, _⟩
        rw [List.length_map, List.take_length] at hD
        have kf := (k12).trans (k5.mono (by simp))
        walk_at "sts"
        refine qq D (ws.map (fun _ => (0 : Int))) H5 kf (p2.keep0 k5) (k12.free (by simp; exact p2.ne nD) (nD)) hD (by rw [List.length_map]; omega) fun y hy => ?_
        obtain ⟨x, hx, rfl⟩ := List.mem_map.mp hy
        have mx := hb x hx
        decide
    · walk_at "sts"
      refine lcL_go (fun D i acc H' => acc = ((ws.take i).map (fun x => -x)).map V.int ∧ Keep [] H2 H' ∧ H2 D = none) (sqL_of eq2) (fun D hD => ⟨by simp, Keep.new hD, hD⟩) (fun D i acc H' _ h => by obtain ⟨_, k, _⟩ := h; exact sqL_of (k _ _ (by simp) eq2)) ?_ ?_
      · rintro D i v acc H5 hv hD ⟨rfl, k5, nD⟩
        obtain ⟨x, hx, rfl⟩ := getInt hv
        have mx := hb x (List.mem_of_getElem? hx)
        have hi := (List.getElem?_eq_some_iff.mp hx).1
        walk_at "sts"
        refine lc_put (acc := ((ws.take i).map (fun x => -x)).map V.int) hD (by rw [List.length_map, List.length_map, List.length_take]; exact lt_size (by omega)) ⟨by rw [take_snoc hx, List.map_append, List.map_append]; rfl, k5.mut nD, nD⟩
      · rintro D acc H5 nD hD ⟨rfl, k5, _⟩
        rw [List.length_map, List.take_length] at hD
        have kf := (k12).trans (k5.mono (by simp))
        walk_at "sts"
        refine qq D (ws.map (fun x => -x)) H5 kf (p2.keep0 k5) (k12.free (by simp; exact p2.ne nD) (nD)) hD (by rw [List.length_map]; omega) fun y hy => ?_
        obtain ⟨x, hx, rfl⟩ := List.mem_map.mp hy
        have mx := hb x hx
        rw [Int.natAbs_neg]; exact Fm.pow_le mx (by decide)
    · walk_at "sts"
      refine r_take p2 (by omega) (by omega) fun f0 H3 a3 b3 kx p3 => ?_
      have eq3 := kx _ _ (by simpa using nqa) eq2
      obtain ⟨fa, hfa⟩ : ∃ fa : Int, fa = 1 + f0 := ⟨_, rfl⟩
      walk_at "sts"
      rw [← hfa]
      refine lcL_go (fun D i acc H' => acc = ((ws.take i).map (fun x => fa * x)).map V.int ∧ Keep [] H3 H' ∧ H3 D = none) (sqL_of eq3) (fun D hD => ⟨by simp, Keep.new hD, hD⟩) (fun D i acc H' _ h => by obtain ⟨_, k, _⟩ := h; exact sqL_of (k _ _ (by simp) eq3)) ?_ ?_
      · rintro D i v acc H5 hv hD ⟨rfl, k5, nD⟩
        obtain ⟨x, hx, rfl⟩ := getInt hv
        have mx := hb x (List.mem_of_getElem? hx)
        have hi := (List.getElem?_eq_some_iff.mp hx).1
        walk_at "sts"
        refine lc_put (acc := ((ws.take i).map (fun x => fa * x)).map V.int) hD (by rw [List.length_map, List.length_map, List.length_take]; exact lt_size (by omega)) ⟨by rw [take_snoc hx, List.map_append, List.map_append]; rfl, k5.mut nD, nD⟩
      · rintro D acc H5 nD hD ⟨rfl, k5, _⟩
        rw [List.length_map, List.take_length] at hD
        have kf := (k12.trans kx).trans (k5.mono (by simp))
        walk_at "sts"
        refine qq D (ws.map (fun x => fa * x)) H5 kf (p3.keep0 k5) (k12.free (by simp; exact p3.ne nD) (kx.free (by simp; exact p3.ne nD) nD)) hD (by rw [List.length_map]; omega) fun y hy => ?_
        obtain ⟨x, hx, rfl⟩ := List.mem_map.mp hy
        have mx := hb x hx
        exact Fm.pow_le (Fm.natAbs_mul_lt (show fa.natAbs < 2 ^ 31 by omega) mx) (by decide)
    · walk_at "sts"
      refine r_slL (sqL_of eq2) fun u1 h1 => ?_
      have k3 : Keep [] H2 (upd H2 u1 (.lst (cutV (ws.map V.int) none (some (j : Int))))) := Keep.new h1
      have e3 : upd H2 u1 (.lst (cutV (ws.map V.int) none (some (j : Int)))) u1 = some (.lst ((ws.take j).map V.int)) := by rw [upd_same, cut_to, ← List.map_take]
      generalize upd H2 u1 (.lst (cutV (ws.map V.int) none (some (j : Int)))) = H3 at k3 e3 ⊢
      have eq3 := k3 _ _ (by simp) eq2
      walk_at "sts"
      refine r_slL (sqL_of eq3) fun u2 h2 => ?_
      have k4 : Keep [] H3 (upd H3 u2 (.lst (cutV (ws.map V.int) (some ((j : Int) + 1)) none))) := Keep.new h2
      have e4 : upd H3 u2 (.lst (cutV (ws.map V.int) (some ((j : Int) + 1)) none)) u2 = some (.lst ((ws.drop (j + 1)).map V.int)) := by
        rw [upd_same, show ((j : Int) + 1) = ((j + 1 : Nat) : Int) by omega, cut_from, ← List.map_drop]
      generalize upd H3 u2 (.lst (cutV (ws.map V.int) (some ((j : Int) + 1)) none)) = H4 at k4 e4 ⊢
      have e34 := k4 _ _ (by simp) e3
      refine r_cat e34 e4 (le_size (by rw [List.length_map, List.length_map, List.length_take, List.length_drop]; omega)) fun u3 h3 => ?_
      have k5 : Keep [] H4 (upd H4 u3 (.lst ((ws.take j).map V.int ++ (ws.drop (j + 1)).map V.int))) := Keep.new h3
      have k25 := k3.trans (k4.trans k5)
      have p5 := p2.keep0 k25
      have e5 : upd H4 u3 (.lst ((ws.take j).map V.int ++ (ws.drop (j + 1)).map V.int)) u3 = some (.lst ((ws.take j ++ ws.drop (j + 1)).map V.int)) := by rw [upd_same, List.map_append]
      have nu3 : H2 u3 = none := (k3.trans k4).free (by simp) h3
      generalize upd H4 u3 (.lst ((ws.take j).map V.int ++ (ws.drop (j + 1)).map V.int)) = H5 at k5 k25 p5 e5 ⊢
      walk_at "sts"
      refine qq u3 _ H5 (k12.trans (k25.mono (by simp))) p5 (k12.free (by simp; exact p2.ne nu3) nu3) e5 (by rw [List.length_append, List.length_take, List.length_drop]; omega) fun y hy => ?_
      rcases List.mem_append.mp hy with h | h
      · exact hb' y (List.mem_of_mem_take h)
      · exact hb' y (List.mem_of_mem_drop h)
    · walk_at "sts"
      refine r_take p2 (by omega) (by omega) fun f0 H3 a3 b3 kx p3 => ?_
      have eq3 := kx _ _ (by simpa using nqa) eq2
      walk_at "sts"
      intro u1 h1
      have k4 : Keep [] H3 (upd H3 u1 (.lst [.int f0])) := Keep.new h1
      have e4 : upd H3 u1 (.lst [.int f0]) u1 = some (.lst [.int f0]) := upd_same
      generalize upd H3 u1 (.lst [.int f0]) = H4 at k4 e4 ⊢
      have eq4 := k4 _ _ (by simp) eq3
      refine r_cat eq4 e4 (le_size (by rw [List.length_map]; show _ + 1 ≤ _; omega)) fun u3 h3 => ?_
      have k5 : Keep [] H4 (upd H4 u3 (.lst (ws.map V.int ++ [.int f0]))) := Keep.new h3
      have k35 := k4.trans k5
      have p5 := p3.keep0 k35
      have e5 : upd H4 u3 (.lst (ws.map V.int ++ [.int f0])) u3 = some (.lst ((ws ++ [f0]).map V.int)) := by rw [upd_same, List.map_append]; rfl
      have nu3 : H3 u3 = none := k4.free (by simp) h3
      generalize upd H4 u3 (.lst (ws.map V.int ++ [.int f0])) = H5 at k5 k35 p5 e5 ⊢
      walk_at "sts"
      have kxa := k12.trans kx
      refine qq u3 _ H5 (kxa.trans (k35.mono (by simp))) p5 (kxa.free (by simp; exact p3.ne nu3) nu3) e5 (by rw [List.length_append]; show _ + 1 ≤ _; omega) fun y hy => ?_
      rcases List.mem_append.mp hy with h | h
      · exact hb' y h
      · rw [List.mem_singleton.mp h]
        exact Fm.pow_le (show f0.natAbs < 2 ^ 2 by omega) (by decide)
end
/-! ### closes, asked -/
def spCloses (C : Addr) : Sp := fun vs H Q _ => ∃ (p q : Addr) (xs : List Str) (rs : List Lr) (ws : List Int), vs = [.ref p, .ref q] ∧ HRows C H p rs ∧ H q = some (.lst (ws.map V.int)) ∧ rs.length ≤ 7 ∧ ws.length ≤ 60 ∧ (∀ r ∈ rs, ROk xs 400 r) ∧ (∀ z ∈ xs, IsQ z) ∧ xs.length ≤ 4 ∧ (∀ x ∈ ws, x.natAbs < 2 ^ 100) ∧ ∀ H', Keep [] H H' → Q (.bl (closedB rs ws)) H'
def spClosesR (C : Addr) : Sp := fun vs H Q _ => ∃ (p r q : Addr) (xs : List Str) (rs : List Lr) (ws : List Int), vs = [.ref p, .ref r, .ref q] ∧ HRows C H p rs ∧ LRows H r rs ∧ H q = some (.lst (ws.map V.int)) ∧ rs.length ≤ 7 ∧ ws.length ≤ 60 ∧ (∀ r ∈ rs, ROk xs 400 r) ∧ (∀ z ∈ xs, IsQ z) ∧ xs.length ≤ 4 ∧ (∀ x ∈ ws, x.natAbs < 2 ^ 100) ∧ ∀ H', Keep [] H H' → Q (.bl true) H'
theorem HRows.keep0 {C : Addr} {H H' : Hp} {p : Addr} {rs : List Lr} (h : HRows C H p rs) (k : Keep [] H H') : HRows C H' p rs := by
  obtain ⟨as, e, h⟩ := h
  exact ⟨as, k _ _ (by simp) e, h.mono fun a x r => r.keep0 k⟩
section
variable {P : Program} {w : World} {K : PySem.W.Frag} {mg : Str → Option Value} {base : Heap}
theorem ok_closesR (T : Tx K mg) (G_closes : FnOk P w K mg base CX0 4 T.f_closes T.fd_closes ["rows", "weights"] (spCloses T.C_Form)) (G_w_kept : FnOk P w K mg base CX0 3 T.f_w_kept T.fd_w_kept ["_law_handed_here", "_law_rows_here"] (spKept T.C_Form))
    (G_w_closed : FnOk P w K mg base CX0 3 T.f_w_closed T.fd_w_closed ["_law_rows_here", "_law_weights"] spClosed) : FnOk P w K mg base CX0 5 T.f_w_closes_right T.fd_w_closes_right ["_law_handed_here", "_law_rows_here", "_law_weights"] (spClosesR T.C_Form) := by
  refine T.F_w_closes_right.ok sc_w_closes_right (fun vs H Q E h => ?_) (fun cdv A outer s H vs Q E hr h => ?_)
  · obtain ⟨p, r, q, xs, rs, ws, rfl, _⟩ := h; rfl
  · obtain ⟨p, r, q, xs, rs, ws, rfl, hh, hl, eq, h7, h60, hok, hq, l4, hb, qq⟩ := h
    refine ⟨_, (pss_cons (ps_set (i := 3) sc_w_closes_right.nd rfl (Or.inl rfl) (pe_callTy call_list_of (by rfl) T.m_list (by decide +kernel) (pa_cons (pv 2) pa_nil)))
    (pss_cons (ps_set (i := 4) sc_w_closes_right.nd rfl (Or.inl rfl) (pe_call G_closes (hr.mono (by decide)) rfl T.g_closes T.F_closes.kp T.b_closes .nil pass0 (pa_cons (pv 0) (pa_cons (pv 3) pa_nil))))
    (pss_cons (ps_if (PW.pt (pw_or (pt_not (pt_val (pe_callB call_isi (by rfl) T.m_isinstance (by decide +kernel) (pa_cons (pv 4) (pa_cons (pe_bltn (v := .ty "bool") (by rfl) T.m_bool (by decide +kernel) rfl) pa_nil))))) (pw_or (pt_cmpR (op_neD hr.units) (pv 3) (pv 2) (nomark _)) (pw_or1 (pt_not (pt_val (pe_call G_w_kept (hr.mono (by decide)) rfl T.g_w_kept T.F_w_kept.kp T.b_w_kept .nil pass0 (pa_cons (pv 0) (pa_cons (pv 1) pa_nil)))))))))
    (pss_one (ps_ret pe_bl))
    pss_nil)
    (pss_one (ps_ret (pe_cmpR op_eq (pv 4) (pe_call G_w_closed (hr.mono (by decide)) rfl T.g_w_closed T.F_w_closed.kp T.b_w_closed .nil pass0 (pa_cons (pv 1) (pa_cons (pv 2) pa_nil))) (nomark _))))))), ?_⟩
    walk_at "start"
    walk_at "sts"
    intro l hl0
    have k1 : Keep [] H (upd H l (.lst (ws.map V.int))) := Keep.new hl0
    have e1 : upd H l (.lst (ws.map V.int)) l = some (.lst (ws.map V.int)) := upd_same
    generalize upd H l (.lst (ws.map V.int)) = H1 at k1 e1 ⊢
    have eq1 := k1 _ _ (by simp) eq
    walk_at "sts"
    refine ⟨p, l, xs, rs, ws, rfl, hh.keep0 k1, e1, h7, h60, hok, hq, l4, hb, fun H2 k2 => ?_⟩
    have e2 := k2 _ _ (by simp) e1
    have eq2 := k2 _ _ (by simp) eq1
    have k12 := k1.trans k2
    walk_at "sts"
    refine r_neL (b := true) (sqL_of e2) (sqL_of eq2) (by simp [flatV]) (by simp [flatV]) (by have := SeqAt.eqv_refl (.list ((ws.map V.int).map fdV)) (SeqAt.canLay_of_shaped (shaped_flat (by simp [flatV])).1); rwa [eqvL] at this) ?_
    walk_at "sts"
    refine ⟨p, r, xs, rs, rfl, hh.keep0 k12, hl.keep0 k12, h7, hok, ?_⟩
    walk_at "sts"
    refine ⟨r, q, xs, rs, ws, rfl, hl.keep0 k12, eq2, h7, h60, hok, hq, hb, fun H3 k3 => ?_⟩
    walk_at "sts"
    have := qq H3 (k12.trans k3)
    first
      | exact this
      | (rw [decide_eq_true rfl]; exact this)
end
/-! ### the last row -/
theorem sumC_le {B : Nat} : ∀ {rs : List Lr} {ws : List Int}, (∀ r ∈ rs, r.1.2.natAbs ≤ B) → (∀ x ∈ ws, x.natAbs ≤ 3) → (sumC rs ws).natAbs ≤ rs.length * (3 * B)
  | [], _, _, _ => by simp [sumC]
  | _ :: _, [], _, _ => by simp [sumC]
  | r :: rs, w :: ws, h, g => by
    have ih := sumC_le (ws := ws) (fun x hx => h x (List.mem_cons_of_mem r hx)) fun x hx => g x (List.mem_cons_of_mem w hx)
    have h1 := h r (by simp)
    have h2 := g w (by simp)
    have h3 : (w * r.1.2).natAbs ≤ 3 * B := by rw [Int.natAbs_mul]; exact Nat.mul_le_mul h2 h1
    simp only [sumC, List.length_cons, Nat.add_mul, Nat.one_mul]
    have := Int.natAbs_add_le (w * r.1.2) (sumC rs ws)
    omega
theorem sumT_w {B : Nat} : ∀ {rs : List Lr} {ws : List Int}, (∀ r ∈ rs, ∀ t ∈ r.1.1, t.2.natAbs ≤ B) → (∀ x ∈ ws, x.natAbs ≤ 3) → ∀ t ∈ sumT rs ws, t.2.natAbs ≤ 3 * B
  | [], _, _, _, t, h => by simp [sumT] at h
  | _ :: _, [], _, _, t, h => by simp [sumT] at h
  | r :: rs, w :: ws, k, g, t, h => by
    simp only [sumT] at h
    rcases List.mem_append.mp h with h | h
    · obtain ⟨z, hz, rfl⟩ := List.mem_map.mp h
      show (w * z.2).natAbs ≤ _
      rw [Int.natAbs_mul]
      exact Nat.mul_le_mul (g w (by simp)) (k r (by simp) z hz)
    · exact sumT_w (fun x hx => k x (List.mem_cons_of_mem r hx)) (fun x hx => g x (List.mem_cons_of_mem w hx)) t h
theorem low_c {n : Nat} {c d : Int} (h : n ≤ 6) (hd : d.natAbs ≤ n * (3 * 2 ^ 200)) (hc : c.natAbs < 10 ^ 30) : (c - d).natAbs < 2 ^ (294 + 6) := by
  have h1 : n * (3 * 2 ^ 200) ≤ 6 * (3 * 2 ^ 200) := Nat.mul_le_mul_right _ h
  have h2 : (6 * (3 * 2 ^ 200) : Nat) + 10 ^ 30 < 2 ^ (294 + 6) := by decide
  have h3 := Nat.le_trans hd h1
  revert h2 h3 hc
  generalize (2:Nat) ^ (294 + 6) = A
  generalize (6 * (3 * 2 ^ 200) : Nat) = B
  generalize (10:Nat) ^ 30 = C
  intro h2 h3 hc
  omega
def spLast : Sp := fun vs H Q _ => ∃ (a p : Addr) (xs : List Str) (rs : List Lr), vs = [.ref a, .ref p] ∧ PotAt a H ∧ LRows H p rs ∧ p ≠ a ∧ rs.length ≤ 6 ∧ (∀ r ∈ rs, ROk xs 200 r) ∧ xs.length ≤ 4 ∧
  ∀ (q wl t : Addr) (ws : List Int) (lr : Lr) (H' : Hp), Keep [a] H H' → PotAt a H' → H q = none → H' q = some (.lst [.ref wl, .ref t]) → H' wl = some (.lst (ws.map V.int)) → wl ≠ a → ws.length = rs.length → (∀ x ∈ ws, x.natAbs ≤ 3) → RowOne H' t lr → ROk xs 300 lr → Q (.ref q) H'
section
variable {P : Program} {w : World} {K : PySem.W.Frag} {mg : Str → Option Value} {base : Heap}
theorem ok_last (T : Tx K mg) (G_w_take : GTake P w K mg base T) (G_w_weight : FnOk P w K mg base CX0 2 T.f_w_weight T.fd_w_weight ["_law_pot_here"] (spPotInt (10 ^ 30))) (G_w_tidy : FnOk P w K mg base CX0 1 T.f_w_tidy T.fd_w_tidy ["_law_pairs", "_law_constant"] spTidy)
    (G_w_sum : FnOk P w K mg base CX0 2 T.f_w_sum T.fd_w_sum ["_law_rows_here", "_law_weights"] spSum) (G_w_sign : FnOk P w K mg base CX0 2 T.f_w_sign T.fd_w_sign ["_law_pot_here"] spSign) : FnOk P w K mg base CX0 3 T.f_w_last T.fd_w_last ["_law_pot_here", "_law_rows_here"] spLast := by
  refine T.F_w_last.ok sc_w_last (fun vs H Q E h => ?_) (fun cdv A outer s H vs Q E hr h => ?_)
  · obtain ⟨a, p, xs, rs, rfl, _⟩ := h; rfl
  · obtain ⟨a, p, xs, rs, rfl, hp, hl, npa, h6, hok, l4, qq⟩ := h
    obtain ⟨as, ep, pr⟩ := id hl
    have has := pr.len
    refine ⟨_, (pss_cons (ps_set (i := 2) sc_w_last.nd rfl (Or.inl rfl) (pe_lst pa_nil))
    (pss_cons (ps_for PassesOwn.never rfl (pi_list (pv 1)) (pg_name (i := 3) sc_w_last.nd rfl (Or.inl rfl))
    (pss_cons (ps_set (i := 4) sc_w_last.nd rfl (Or.inl rfl) (pe_call G_w_take (hr.mono (by decide)) rfl T.g_w_take T.F_w_take.kp T.b_w_take .nil pass0 (pa_cons (pv 0) (pa_cons pe_int pa_nil))))
    (Evl.pss_cut (ps_if (pt_cmpR op_eq (pe_ix ix_tup (pv 3) pe_int (fun _ _ => rfl)) pe_str (nomark _))
    (pss_one (ps_set (i := 4) sc_w_last.nd rfl (Or.inl rfl) (pe_op op_sub (pe_op op_mul pe_int (pv 4)) pe_int)))
    pss_nil)
    (pss_one (ps_expr (pe_bm PySem.F.plainAttrs_list PySem.F.slot_list_append PySem.F.type_list_append mt_append (pv 2) (pa_cons (pv 4) pa_nil)))))))
    (pss_cons (ps_set (i := 5) sc_w_last.nd rfl (Or.inl rfl) (pe_call G_w_sum (hr.mono (by decide)) rfl T.g_w_sum T.F_w_sum.kp T.b_w_sum .nil pass0 (pa_cons (pv 1) (pa_cons (pv 2) pa_nil))))
    (pss_cons (ps_set (i := 6) sc_w_last.nd rfl (Or.inl rfl) (pe_op op_sub (pe_call G_w_take (hr.mono (by decide)) rfl T.g_w_take T.F_w_take.kp T.b_w_take .nil pass0 (pa_cons (pv 0) (pa_cons pe_int pa_nil))) pe_int))
    (Evl.pss_cut (ps_if (pt_cmpR op_eq (pe_call G_w_take (hr.mono (by decide)) rfl T.g_w_take T.F_w_take.kp T.b_w_take .nil pass0 (pa_cons (pv 0) (pa_cons pe_int pa_nil))) pe_int (nomark _))
    (pss_one (ps_set (i := 6) sc_w_last.nd rfl (Or.inl rfl) (pe_call G_w_weight (hr.mono (by decide)) rfl T.g_w_weight T.F_w_weight.kp T.b_w_weight .nil pass0 (pa_cons (pv 0) pa_nil))))
    pss_nil)
    (pss_cons (ps_set (i := 7) sc_w_last.nd rfl (Or.inl rfl) (pe_call G_w_tidy (hr.mono (by decide)) rfl T.g_w_tidy T.F_w_tidy.kp T.b_w_tidy .nil pass0 (pa_cons (pe_lc (own := [("_law_pair", 8)]) (g := gName 8) (tt := tYes) rfl sc_w_last.nd (pi_tup (pe_ix ix_tup (pv 5) pe_int (fun _ _ => rfl))) (blkOk_by (own := [("_law_pair", 8)]) (N := ["_law_pot_here", "_law_rows_here", "_law_weights", "_law_row", "_law_weight_here", "_law_total", "_law_constant", "_law_last_here", "_law_pair"]) (sc := defScope s_w_last) (by decide +kernel)) (fun _ _ _ _ _ => pg_name (i := 8) sc_w_last.nd rfl (Or.inl rfl)) (fun _ _ _ _ _ => pts_nil) (fun _ _ _ _ _ => (pe_tup (pa_cons (pe_ix (ix_tupK (K := K) rfl) (pv 8) pe_int (fun _ _ => rfl)) (pa_cons (pe_un un_neg (pe_ix (ix_tupK (K := K) rfl) (pv 8) pe_int (fun _ _ => rfl))) pa_nil))))) (pa_cons (pe_op op_sub (pv 6) (pe_ix ix_tup (pv 5) pe_int (fun _ _ => rfl))) pa_nil))))
    (pss_one (ps_ret (pe_lst (pa_cons (pv 2) (pa_cons (pe_tup (pa_cons (pv 7) (pa_cons (pe_call G_w_sign (hr.mono (by decide)) rfl T.g_w_sign T.F_w_sign.kp T.b_w_sign .nil pass0 (pa_cons (pv 0) pa_nil)) pa_nil))) pa_nil))))))))))), ?_⟩
    walk_at "start"
    walk_at "sts"
    intro l hl0
    have nla := hp.ne hl0
    have p1 := hp.new (o := .lst []) hl0
    have k1 : Keep [a] H (upd H l (.lst [])) := Keep.new hl0
    have e1 : upd H l (.lst []) l = some (.lst (([] : List Int).map V.int)) := upd_same
    generalize upd H l (.lst []) = H1 at p1 k1 e1 ⊢
    walk_at "sts"
    refine forL_go (fun i σ' H' => ∃ (ws : List Int) (x1 x2 : Option V), σ' = [some (.ref a), some (.ref p), some (.ref l), x1, x2, none, none, none, none] ∧ H' l = some (.lst (ws.map V.int)) ∧ ws.length = i ∧ (∀ x ∈ ws, x.natAbs ≤ 3) ∧ Keep [a] H H' ∧ PotAt a H') (sqL_of (k1 _ _ (by simpa using npa) ep)) ⟨[], _, _, by first | exact rfl | trivial, e1, rfl, by simp, k1, p1⟩ (fun i σ' H' _ h => by obtain ⟨_, _, _, _, _, _, _, k, _⟩ := h; exact sqL_of (k _ _ (by simpa using npa) ep)) ?_ ?_
    · rintro i v σ' H2 hv ⟨ws, x1, x2, rfl, e2, lw, hw, k2, p2⟩
      obtain ⟨b, hb, rfl⟩ := getRef hv
      obtain ⟨r, hr, d, eb, hd⟩ := pr.get hb
      have hi := (List.getElem?_eq_some_iff.mp hr).1
      have nba : b ≠ a := by rintro rfl; obtain ⟨P0, e0, _⟩ := hp; rw [e0] at eb; cases eb
      walk_at "sts"
      refine r_take p2 (by omega) (by omega) fun n H3 a3 b3 k3 p3 => ?_
      have eb3 := (k2.trans k3) _ _ (by simpa using nba) eb
      have e3 := k3 _ _ (by simpa using nla) e2
      walk_at "sts"
      refine r_cut (fun σ' H' => ∃ n' : Int, σ' = [some (.ref a), some (.ref p), some (.ref l), some (.ref b), some (.int n'), none, none, none, none] ∧ n'.natAbs ≤ 3 ∧ H' = H3) ?_ ?_
      · walk_at "sts"
        refine r_ite (fun c => ?_) (fun c => ?_)
        · walk_at "sts"
          exact ⟨_, by first | exact rfl | trivial, by omega, rfl⟩
        · walk_at "sts"
          exact ⟨_, by first | exact rfl | trivial, by omega, rfl⟩
      · rintro σ' H4 ⟨n', rfl, hn', rfl⟩
        walk_at "sts"
        refine ⟨ws ++ [n'], _, _, by first | exact rfl | trivial, by rw [upd_same, List.map_append]; rfl, by rw [List.length_append, lw]; rfl, fun x hx => ?_, (k2.trans k3).mut hl0, p3.put nla⟩
        rcases List.mem_append.mp hx with h | h
        · exact hw x h
        · rw [List.mem_singleton.mp h]; exact hn'
    · rintro σ' H2 ⟨ws, x1, x2, rfl, e2, lw, hw, k2, p2⟩
      rw [List.length_map, has] at lw
      have hl2 := hl.keep k2 hp.ml (by simpa using npa)
      have hok4 : ∀ r ∈ rs, ROk xs 400 r := fun r hr => ⟨⟨(hok r hr).f.can, (hok r hr).f.len, (hok r hr).f.nm, fun t ht => Fm.pow_le ((hok r hr).f.wb t ht) (by decide), Fm.pow_le (hok r hr).f.cb (by decide)⟩, (hok r hr).s⟩
      walk_at "sts"
      refine ⟨p, l, xs, rs, ws, rfl, hl2, e2, lw.symm, by omega, hok4, fun x hx => Nat.lt_of_le_of_lt (hw x hx) (by decide), fun t H3 k3 nt dt => ?_⟩
      have bT := sumT_w (B := 2 ^ 200) (rs := rs) (ws := ws) (fun r hr t ht => Nat.le_of_lt ((hok r hr).f.wb t ht)) hw
      have bC := sumC_le (B := 2 ^ 200) (rs := rs) (ws := ws) (fun r hr => Nat.le_of_lt (hok r hr).f.cb) hw
      have lT := sumT_len (ws := ws) fun r hr => (hok r hr).f.len
      have nT : ∀ t ∈ sumT rs ws, t.1 ∈ xs := sumT_names fun r hr t ht => (hok r hr).f.nm t ht
      have okt := can_okx (k := 203) (ts := sumT rs ws) (c := 0) (by omega) l4 (fun t ht => ⟨nT t ht, Nat.lt_of_le_of_lt (bT t ht) (by decide)⟩) (by decide)
      have p3 := p2.keep0 k3
      have k23 : Keep [a] H H3 := k2.trans (k3.mono (by simp))
      have e3 := k3 _ _ (by simp) e2
      walk_at "sts"
      refine r_take p3 (by omega) (by omega) fun n H4 a4 b4 k4 p4 => ?_
      walk_at "sts"
      refine r_cut (fun σ' H' => ∃ c : Int, σ' = [some (.ref a), some (.ref p), some (.ref l), x1, x2, some (.ref t), some (.int c), none, none] ∧ c.natAbs < 10 ^ 30 ∧ Keep [a] H3 H' ∧ PotAt a H') ?_ ?_
      · walk_at "sts"
        refine r_take p4 (by omega) (by omega) fun n5 H5 a5 b5 k5 p5 => ?_
        walk_at "sts"
        refine r_ite (fun c => ?_) (fun c => ?_)
        · walk_at "sts"
          refine r_potIntW p5 fun c H6 hc k6 p6 => ?_
          walk_at "sts"
          exact ⟨c, by first | exact rfl | trivial, hc, k4.trans (k5.trans k6), p6⟩
        · walk_at "sts"
          exact ⟨_, by first | exact rfl | trivial, by omega, k4.trans k5, p5⟩
      · rintro σ' H5 ⟨c, rfl, hc, k5, p5⟩
        obtain ⟨tt, et, cs, ett, pt⟩ := dt.keep k5 p3.ml
        have hcs := pt.len
        have lc := okt.len
        walk_at "sts"
        refine lcT_go (fun D j acc H' => ∃ bs2 : List Addr, acc = bs2.map V.ref ∧ PairsAt H' bs2 (Fm.scl (-1) ((Fm.can (sumT rs ws)).take j)) ∧ Keep [] H5 H' ∧ H5 D = none) (sqT_of ett) (fun D hD => ⟨[], rfl, trivial, Keep.new hD, hD⟩) (fun D i acc H' _ h => by obtain ⟨_, _, _, k, _⟩ := h; exact sqT_of (k _ _ (by simp) ett)) ?_ ?_
        · rintro D j v2 acc H12 hv hD ⟨bs2, rfl, hb, k12, nD⟩
          obtain ⟨a2, ha2, rfl⟩ := getRef hv
          obtain ⟨z, hz, ez⟩ := pt.get ha2
          have ez12 := k12 _ _ (by simp) ez
          have hbl := hb.len
          rw [Fm.scl, List.length_map, List.length_take] at hbl
          walk_at "sts"
          intro y2 hy2
          rw [show -z.2 = -1 * z.2 by omega]
          have k13 : Keep [] H12 (upd H12 y2 (.tup [.str z.1, .int (-1 * z.2)])) := Keep.new hy2
          have e13 : upd H12 y2 (.tup [.str z.1, .int (-1 * z.2)]) y2 = some (.tup [.str z.1, .int (-1 * z.2)]) := upd_same
          generalize upd H12 y2 (.tup [.str z.1, .int (-1 * z.2)]) = H13 at k13 e13 ⊢
          have hD13 := k13 _ _ (by simp) hD
          refine lc_put (acc := bs2.map V.ref) hD13 (by rw [List.length_map]; exact lt_size (by omega)) ⟨bs2 ++ [y2], by rw [List.map_append]; rfl, ?_, (k12.trans k13).mut nD, nD⟩
          rw [take_snoc hz, show Fm.scl (-1) ((Fm.can (sumT rs ws)).take j ++ [z]) = Fm.scl (-1) ((Fm.can (sumT rs ws)).take j) ++ [(z.1, -1 * z.2)] by simp [Fm.scl]]
          exact ((hb.keep0 k13).app (bs := [y2]) (us := [(z.1, -1 * z.2)]) ⟨e13, trivial⟩).keep (Keep.at (M := [D]) (by simp)) (ml1 hD13)
        · rintro D acc H12 nD hD ⟨bs2, rfl, hb, k12, _⟩
          rw [List.take_of_length_le (by rw [List.length_map, hcs]; exact Nat.le_refl _)] at hb
          have et12 := k12 _ _ (by simp) et
          walk_at "sts"
          refine ⟨D, Fm.scl (-1) (Fm.can (sumT rs ws)), c - sumC rs ws, rfl, ⟨bs2, hD, hb⟩, by rw [scl_len]; omega, fun g H13 k13 ng dg => ?_⟩
          have okg := can_okx (k := 294) (ts := Fm.scl (-1) (Fm.can (sumT rs ws))) (c := c - sumC rs ws) (by rw [scl_len]; omega) l4 (fun t ht => by
            obtain ⟨z, hz, rfl⟩ := List.mem_map.mp ht
            refine ⟨okt.nm z hz, ?_⟩
            have e : (-1 * z.2).natAbs = z.2.natAbs := by rw [Int.natAbs_mul]; exact Nat.one_mul _
            show (-1 * z.2).natAbs < _
            rw [e]
            exact Fm.pow_le (okt.wb z hz) (by decide)) (low_c h6 bC hc)
          have p13 := p5.keep0 (k12.trans k13)
          walk_at "sts"
          refine ⟨a, rfl, p13, fun sg H14 hsg k14 p14 => ?_⟩
          have dg14 := dg.keep k14 p13.ml
          have e14 := (k5.trans (((k12.trans k13).mono (by simp)).trans k14)) _ _ (by simpa using nla) e3
          walk_at "sts"
          intro tp htp
          have ktp : Keep [] H14 (upd H14 tp (.tup [.ref g, .str sg])) := Keep.new htp
          have etp : upd H14 tp (.tup [.ref g, .str sg]) tp = some (.tup [.ref g, .str sg]) := upd_same
          generalize upd H14 tp (.tup [.ref g, .str sg]) = H15 at ktp etp ⊢
          walk_at "sts"
          intro q hq
          have kq : Keep [] H15 (upd H15 q (.lst [.ref l, .ref tp])) := Keep.new hq
          have k1q := ktp.trans kq
          have kall : Keep [a] H (upd H15 q (.lst [.ref l, .ref tp])) := k23.trans (k5.trans (((k12.trans k13).mono (by simp)).trans (k14.trans (k1q.mono (by simp)))))
          have n14 : H14 q = none := ktp.free (by simp) hq
          have nqa := p14.ne n14
          have kH14 : Keep [a] H H14 := k23.trans (k5.trans (((k12.trans k13).mono (by simp)).trans k14))
          exact qq q l tp ws ((_, _), sg) _ kall (p14.keep0 k1q) (kH14.free (by simpa using nqa) n14) upd_same (k1q _ _ (by simp) e14) nla lw hw ⟨g, kq _ _ (by simp) etp, dg14.keep0 k1q⟩ ⟨okg, hsg⟩
end
/-! ### weighed and closes -/
theorem can_nil_iff {ks ts : List Fm.Tm} (S : Fm.Sums ks ts) : (∀ t ∈ ks, t.2 = 0) ↔ Fm.can ts = [] := by
  constructor
  · intro h
    symm
    apply Fm.can_eq Fm.Canon.nil
    intro x
    rw [Fm.wt_nil]
    by_cases hx : x ∈ ks.map (·.1)
    · obtain ⟨p, hp, rfl⟩ := List.mem_map.mp hx
      rw [← S.val p hp, h p hp]
    · rw [Fm.wt_none]
      intro p hp e
      exact hx ((S.iff x).mpr (by rw [← e]; exact List.mem_map_of_mem hp))
  · intro h t ht
    rw [S.val t ht, ← Fm.can_wt, h, Fm.wt_nil]
def spWeighed (C : Addr) : Sp := fun vs H Q _ => ∃ (p q : Addr) (xs : List Str) (rs : List Lr) (ws : List Int), vs = [.ref p, .ref q] ∧ HRows C H p rs ∧ H q = some (.lst (ws.map V.int)) ∧ rs.length = ws.length ∧ rs.length ≤ 7 ∧ (∀ r ∈ rs, ROk xs 400 r) ∧ (∀ w ∈ ws, w.natAbs < 2 ^ 100) ∧
  ∀ (t D : Addr) (H' : Hp) (kvs : List (Key × V)), Keep [] H H' → H' t = some (.tup [.ref D, .int (sumC rs ws)]) → H' D = some (.dK kvs) → kvs.isEmpty = decide (Fm.can (sumT rs ws) = []) → Q (.ref t) H'
theorem kOf_get {ks : List Fm.Tm} {i : Nat} {k : Key} {v : V} (h : (Fm.kOf ks)[i]? = some (k, v)) : ∃ t, ks[i]? = some t ∧ k = Sum.inr t.1 ∧ v = .int t.2 := by
  unfold Fm.kOf at h
  rw [List.getElem?_map] at h
  obtain ⟨t, ht, e⟩ := Option.map_eq_some_iff.mp h
  cases e
  exact ⟨t, ht, rfl, rfl⟩
theorem putK_len {kvs : List (Key × V)} {k : Key} {v : V} : (putK kvs k v).length ≤ kvs.length + 1 := by
  unfold putK; split
  · simp
  · simp
theorem putK_ne {kvs : List (Key × V)} {k : Key} {v : V} : putK kvs k v ≠ [] := by
  unfold putK; split
  · next h => intro e; rw [List.map_eq_nil_iff] at e; subst e; simp at h
  · simp
section
variable {P : Program} {w : World} {K : PySem.W.Frag} {mg : Str → Option Value} {base : Heap}
theorem ok_weighed (T : Tx K mg) : FnOk P w K mg base CX0 1 T.f_weighed T.fd_weighed ["rows", "weights"] (spWeighed T.C_Form) := by
  refine T.F_weighed.ok sc_weighed (fun vs H Q E h => ?_) (fun cdv A outer s H vs Q E hr h => ?_)
  · obtain ⟨p, q, xs, rs, ws, rfl, _⟩ := h; rfl
  · obtain ⟨p, q, xs, rs, ws, rfl, ⟨as, ep, pr⟩, eq, hl, h7, hok, hw, qq⟩ := h
    have has := pr.len
    have oc := T.oc_Form
    have na := T.na_Form_terms
    have nc := T.na_Form_constant
    have hval : ∀ {ks us : List Fm.Tm} (S : Fm.Sums ks us) (nm : Str), (valV (Fm.kOf ks) (Sum.inr nm)).getD (V.int 0) = V.int (Fm.wt us nm) := fun {ks us} S nm => by
      rw [Fm.val_kOf, S.find]
      split
      · rfl
      · next e => rw [Fm.wt_none (fun p hp z => e (by rw [← z]; exact List.mem_map_of_mem hp))]; rfl
    refine ⟨_, (pss_cons (ps_par (i := 2) (j := 3) (by rfl) sc_weighed.nd rfl rfl (by decide) rfl rfl (pa_cons pe_dnewK (pa_cons pe_int pa_nil)) (by rfl))
    (pss_cons (ps_for PassesOwn.never rfl (pi_zip (by rfl) T.m_zip (pa_cons (pv 0) (pa_cons (pv 1) pa_nil))) (pg_tup (n := 2) rfl (pgs_cons (pg_tup (n := 2) rfl (pgs_cons (pg_name (i := 4) sc_weighed.nd rfl (Or.inl rfl)) (pgs_cons (pg_name (i := 5) sc_weighed.nd rfl (Or.inl rfl)) pgs_nil))) (pgs_cons (pg_name (i := 6) sc_weighed.nd rfl (Or.inl rfl)) pgs_nil)))
    (pss_cons (ps_for PassesOwn.never rfl (pi_tup (pe_fld (pv 4) rfl)) (pg_tup (n := 2) rfl (pgs_cons (pg_name (i := 7) sc_weighed.nd rfl (Or.inl rfl)) (pgs_cons (pg_name (i := 8) sc_weighed.nd rfl (Or.inl rfl)) pgs_nil)))
    (pss_one (ps_dput (hu_of hr) (pv 2) (pv 7) (pe_op op_add (pe_dget2 (hu_of hr) (pv 2) (pv 7) pe_int ⟨rfl, rfl, rfl, rfl⟩) (pe_op op_mulG (pv 8) (pv 6))) rfl)))
    (pss_one (ps_set (i := 3) sc_weighed.nd rfl (Or.inl rfl) (pe_op op_add (pv 3) (pe_op op_mulG (pe_fld (pv 4) rfl) (pv 6)))))))
    (pss_one (ps_ret (pe_tup (pa_cons (pe_lock (pe_dc (own := [("name", 7), ("total", 9)]) (g := gTup K 2 (gCons (gName 7) (gCons (gName 9) gNil)))  rfl sc_weighed.nd (pi_items (pv 2)) (blkOk_by (own := [("name", 7), ("total", 9)]) (N := ["rows", "weights", "sums", "constant", "form", "_", "weight", "name", "part", "total"]) (sc := defScope s_weighed) (by decide +kernel)) (fun _ _ _ _ _ => pg_tup (n := 2) rfl (pgs_cons (pg_name (i := 7) sc_weighed.nd rfl (Or.inl rfl)) (pgs_cons (pg_name (i := 9) sc_weighed.nd rfl (Or.inl rfl)) pgs_nil))) (fun _ _ _ _ _ => pts_one (pt_cmpR op_ne (pv 9) pe_int (nomark _))) (fun _ _ _ _ _ => (pv 7)) (fun _ _ _ _ _ => (pv 9)))) (pa_cons (pv 3) pa_nil))))))), ?_⟩
    walk_at "start"
    walk_at "sts"
    intro d hd
    have k1 : Keep [] H (upd H d (.dK [])) := Keep.new hd
    have e1 : upd H d (.dK []) d = some (.dK (Fm.kOf [])) := upd_same
    generalize upd H d (.dK []) = H1 at k1 e1 ⊢
    walk_at "sts"
    refine r_forZ ?_
    walk_at "sts"
    refine forZ_go (xs := as.map V.ref) (ys := ws.map V.int) (by simp only [List.length_map]; omega) (fun i σ' H' => ∃ (ks : List Fm.Tm) (x1 x2 x3 x4 x5 : Option V), σ' = [some (.ref p), some (.ref q), some (.ref d), some (.int (sumC (rs.take i) (ws.take i))), x1, x2, x3, x4, x5, none] ∧ H' d = some (.dK (Fm.kOf ks)) ∧ Fm.Sums ks (sumT (rs.take i) (ws.take i)) ∧ Keep [] H H') (sqL_of (k1 _ _ (by simp) ep)) (sqL_of (k1 _ _ (by simp) eq)) ⟨[], _, _, _, _, _, by first | exact rfl | trivial, e1, by simpa [sumT] using Fm.Sums.nil, k1⟩ (fun i σ' H' h => by obtain ⟨_, _, _, _, _, _, _, _, _, k⟩ := h; exact ⟨sqL_of (k _ _ (by simp) ep), sqL_of (k _ _ (by simp) eq)⟩) ?_ ?_
    · rintro i x y T0 σ' H2 hx hy ⟨ks, x1, x2, x3, x4, x5, rfl, e2, S, k2⟩ nT0
      obtain ⟨a, ha, rfl⟩ := getRef hx
      obtain ⟨wt, hwt, rfl⟩ := getInt hy
      obtain ⟨r, hr, f, ea, dx, t, ef, cs, et, pt⟩ := pr.get ha
      have okr := hok r (List.mem_of_getElem? hr)
      have hwb := hw wt (List.mem_of_getElem? hwt)
      have il : (rs.take i).length = (ws.take i).length := by rw [List.length_take, List.length_take]; omega
      have nC : sumC (rs.take (i + 1)) (ws.take (i + 1)) = sumC (rs.take i) (ws.take i) + wt * r.1.2 := by rw [take_snoc hr, take_snoc hwt, sumC_snoc il]
      have nT : sumT (rs.take (i + 1)) (ws.take (i + 1)) = sumT (rs.take i) (ws.take i) ++ Fm.scl wt r.1.1 := by rw [take_snoc hr, take_snoc hwt, sumT_snoc il]
      have sl := sumT_len (rs := rs.take i) (ws := ws.take i) fun x hx => (hok x (List.mem_of_mem_take hx)).f.len
      rw [List.length_take] at sl
      have r4 := okr.f.len
      have hcs := pt.len
      have k3 : Keep [] H2 (upd H2 T0 (.tup [.ref a, .int wt])) := Keep.new nT0
      have eT : upd H2 T0 (.tup [.ref a, .int wt]) T0 = some (.tup [.ref a, .int wt]) := upd_same
      have e3 := k3 _ _ (by simp) e2
      generalize upd H2 T0 (.tup [.ref a, .int wt]) = H3 at k3 eT e3 ⊢
      have k13 := k2.trans k3
      have ea3 := k13 _ _ (by simp) ea
      have ef3 := k13 _ _ (by simp) ef
      have et3 := k13 _ _ (by simp) et
      refine r_gTup21 (sqT_of eT) (sqT_of ea3) ?_
      simp only [List.set_cons_zero, List.set_cons_succ]
      walk_at "sts"
      refine forT_go (fun j σ' H' => ∃ (ks : List Fm.Tm) (y1 y2 : Option V), σ' = [some (.ref p), some (.ref q), some (.ref d), some (.int (sumC (rs.take i) (ws.take i))), some (.ref f), some (.str r.2), some (.int wt), y1, y2, none] ∧ H' d = some (.dK (Fm.kOf ks)) ∧ Fm.Sums ks (sumT (rs.take i) (ws.take i) ++ Fm.scl wt (r.1.1.take j)) ∧ Keep [] H H') (sqT_of et3) ⟨ks, _, _, by first | exact rfl | trivial, e3, by simpa [Fm.scl] using S, k13⟩ (fun j σ' H' _ h => by obtain ⟨_, _, _, _, _, _, k⟩ := h; exact sqT_of (k _ _ (by simp) et)) ?_ ?_
      · rintro j v σ' H4 hv ⟨ks4, y1, y2, rfl, e4, S4, k4⟩
        obtain ⟨b, hb, rfl⟩ := getRef hv
        obtain ⟨z, hz, ez⟩ := pt.get hb
        have ez4 := k4 _ _ (by simp) ez
        have mz := List.mem_of_getElem? hz
        have hj := (List.getElem?_eq_some_iff.mp hz).1
        have hS := S4.len
        rw [List.length_append, scl_len, List.length_take] at hS
        walk_at "sts"
        rw [hval S4]
        walk_at "sts"
        refine r_I (.inr (cmulw 400 100 (okr.f.wb z mz) hwb)) ?_
        walk_at "sts"
        refine r_dputS e4 (lt_size (by unfold Fm.kOf; rw [List.length_map]; omega)) ?_
        rw [Fm.put_kOf]
        refine ⟨_, _, _, by first | exact rfl | trivial, upd_same, ?_, k4.mut hd⟩
        rw [take_snoc hz, show Fm.scl wt (r.1.1.take j ++ [z]) = Fm.scl wt (r.1.1.take j) ++ [(z.1, wt * z.2)] by simp [Fm.scl], ← List.append_assoc, Int.mul_comm z.2 wt]
        exact S4.put (z.1, wt * z.2)
      · rintro σ' H4 ⟨ks4, y1, y2, rfl, e4, S4, k4⟩
        have hct : (cs.map V.ref).length = r.1.1.length := by rw [List.length_map, hcs]
        rw [hct, List.take_length, ← nT] at S4
        have ef4 := k4 _ _ (by simp) ef
        walk_at "sts"
        refine r_I (.inr (cmulw 400 100 okr.f.cb hwb)) ?_
        walk_at "sts"
        rw [Int.mul_comm r.1.2 wt, ← nC]
        exact ⟨ks4, _, _, _, _, _, by first | exact rfl | trivial, e4, S4, k4⟩
    · rintro σ' H2 ⟨ks, x1, x2, x3, x4, x5, rfl, e2, S, k2⟩
      rw [List.length_map, has, List.take_length, hl, List.take_length] at S
      rw [List.length_map, has, List.take_length, hl, List.take_length]
      have hS := S.len
      have sl := sumT_len (ws := ws) fun x hx => (hok x hx).f.len
      walk_at "sts"
      refine dcI_go e2 (fun od Q' hQ => ?_) (fun od D i acc H' => H' d = some (.frz od (.dK (Fm.kOf ks))) ∧ (acc = [] ↔ ∀ t ∈ ks.take i, t.2 = 0) ∧ acc.length ≤ i ∧ Keep [] (upd H2 d (.frz od (.dK (Fm.kOf ks)))) H') (fun od D hD => ⟨?_, by simp, by simp, Keep.new hD⟩) (fun od D i acc H' h => h.1) ?_ ?_
      · walk_at "sts"
        exact hQ _ _ ⟨rfl, rfl⟩
      · rw [upd_ne (by rintro rfl; rw [upd_same] at hD; cases hD)]; exact upd_same
      · rintro od D i k v T1 acc H3 hk nD hD ⟨e3, ha, la, k3⟩ nT1
        obtain ⟨z, hz, rfl, rfl⟩ := kOf_get hk
        have hi := (List.getElem?_eq_some_iff.mp hz).1
        have k4 : Keep [] H3 (upd H3 T1 (.tup [kV (Sum.inr z.1), .int z.2])) := Keep.new nT1
        have eT : upd H3 T1 (.tup [kV (Sum.inr z.1), .int z.2]) T1 = some (.tup [kV (Sum.inr z.1), .int z.2]) := upd_same
        generalize upd H3 T1 (.tup [kV (Sum.inr z.1), .int z.2]) = H4 at k4 eT ⊢
        have hD4 := k4 _ _ (by simp) hD
        have e4 := k4 _ _ (by simp) e3
        refine r_gTup2 (sqT_of eT) ?_
        refine ⟨rfl, ?_⟩
        simp only [L2.wipe, List.map_cons, List.map_nil, List.set_cons_zero, List.set_cons_succ]
        walk_at "sts"
        refine r_iteN (fun c1 => ?_) (fun c1 => ?_)
        · walk_at "sts"
          have dne : d ≠ D := by rintro rfl; rw [hD4] at e4; cases e4
          refine ⟨acc, Sum.inr z.1, rfl, hD4, lt_size (by omega), _, upd_same, by rw [upd_ne dne]; exact e4, ⟨fun e => (putK_ne e).elim, fun g => (c1 (g z (by rw [take_snoc hz]; simp))).elim⟩, Nat.le_trans putK_len (by omega), (k3.trans k4).mut nD⟩
        · walk_at "sts"
          refine ⟨acc, hD4, e4, ?_, by omega, k3.trans k4⟩
          rw [ha, take_snoc hz]
          constructor
          · intro g t ht
            rcases List.mem_append.mp ht with ht | ht
            · exact g t ht
            · rw [List.mem_singleton.mp ht]; exact c1
          · intro g t ht
            exact g t (List.mem_append_left _ ht)
      · rintro od D acc H3 nD hD ⟨e3, ha, la, k3⟩
        have kl : (Fm.kOf ks).length = ks.length := by unfold Fm.kOf; rw [List.length_map]
        rw [kl, List.take_length, can_nil_iff S] at ha
        have kH : Keep [] H2 (upd H3 d (.dK (Fm.kOf ks))) := Keep.unlock e2 k3
        have dne : D ≠ d := by rintro rfl; rw [hD] at e3; cases e3
        have hD' : upd H3 d (.dK (Fm.kOf ks)) D = some (.dK acc) := by rw [upd_ne dne]; exact hD
        generalize upd H3 d (.dK (Fm.kOf ks)) = H4 at kH hD' ⊢
        walk_at "sts"
        intro t ht
        refine qq t D _ acc ((k2.trans kH).trans (Keep.new ht)) upd_same ((Keep.new (M := []) ht) _ _ (by simp) hD') ?_
        by_cases c : acc = []
        · rw [c, decide_eq_true (ha.mp c)]; rfl
        · rw [decide_eq_false (fun e => c (ha.mpr e))]
          cases acc with
          | nil => exact (c rfl).elim
          | cons _ _ => rfl
end
/-! ### closes -/
section
variable {P : Program} {w : World} {K : PySem.W.Frag} {mg : Str → Option Value} {base : Heap}
theorem ok_closes (T : Tx K mg) (G_weighed : FnOk P w K mg base CX0 1 T.f_weighed T.fd_weighed ["rows", "weights"] (spWeighed T.C_Form)) : FnOk P w K mg base CX0 4 T.f_closes T.fd_closes ["rows", "weights"] (spCloses T.C_Form) := by
  refine T.F_closes.ok sc_closes (fun vs H Q E h => ?_) (fun cdv A outer s H vs Q E hr h => ?_)
  · obtain ⟨p, q, xs, rs, ws, rfl, _⟩ := h; rfl
  · obtain ⟨p, q, xs, rs, ws, rfl, hh, eq, h7, h60, hok, hq, l4, hb, qq⟩ := h
    obtain ⟨as, ep, pr⟩ := id hh
    have has := pr.len
    refine ⟨_, (pss_cons (ps_if (pt_cmpR op_ne (pe_callB call_len_seq (by rfl) T.m_len PySem.boot_len (pa_cons (pv 1) pa_nil)) (pe_callB call_len_seq (by rfl) T.m_len PySem.boot_len (pa_cons (pv 0) pa_nil)) (nomark _))
    (pss_one (ps_ret pe_bl))
    pss_nil)
    (pss_cons (ps_for PassesOwn.never rfl (pi_zip (by rfl) T.m_zip (pa_cons (pv 0) (pa_cons (pv 1) pa_nil))) (pg_tup (n := 2) rfl (pgs_cons (pg_tup (n := 2) rfl (pgs_cons (pg_name (i := 2) sc_closes.nd rfl (Or.inl rfl)) (pgs_cons (pg_name (i := 3) sc_closes.nd rfl (Or.inl rfl)) pgs_nil))) (pgs_cons (pg_name (i := 4) sc_closes.nd rfl (Or.inl rfl)) pgs_nil)))
    (pss_one (ps_if (PW.pt (pw_and (pt_cmpR op_ne (pv 3) pe_str (nomark _)) (pw_and1 (pt_cmpR op_lt (pv 4) pe_int (nomark _)))))
    (pss_one (ps_ret pe_bl))
    pss_nil)))
    (pss_cons (ps_asg (pe_call G_weighed (hr.mono (by decide)) rfl T.g_weighed T.F_weighed.kp T.b_weighed .nil pass0 (pa_cons (pv 0) (pa_cons (pv 1) pa_nil))) (pg_tup (n := 2) rfl (pgs_cons (pg_name (i := 5) sc_closes.nd rfl (Or.inl rfl)) (pgs_cons (pg_name (i := 6) sc_closes.nd rfl (Or.inl rfl)) pgs_nil))))
    (pss_cons (ps_if (PW.pt (pw_or (pt_truth (pv 5) (by intro _; rfl)) (pw_or1 (pt_cmpR op_lt (pv 6) pe_int (nomark _)))))
    (pss_one (ps_ret pe_bl))
    pss_nil)
    (pss_cons (ps_setLc (i := 7) (own := [("_", 2), ("sign", 3), ("weight", 4)]) (g := gTup K 2 (gCons (gTup K 2 (gCons (gName 2) (gCons (gName 3) gNil))) (gCons (gName 4) gNil)))  rfl sc_closes.nd rfl rfl (sw_true rfl rfl rfl (by decide +kernel)) (pi_zip (by rfl) T.m_zip (pa_cons (pv 0) (pa_cons (pv 1) pa_nil))) (blkOk_by (own := [("_", 2), ("sign", 3), ("weight", 4)]) (N := ["rows", "weights", "_", "sign", "weight", "terms", "constant", "strict"]) (sc := defScope s_closes) (by decide +kernel)) (fun _ _ _ _ _ => pg_tup (n := 2) rfl (pgs_cons (pg_tup (n := 2) rfl (pgs_cons (pg_name (i := 2) sc_closes.nd rfl (Or.inl rfl)) (pgs_cons (pg_name (i := 3) sc_closes.nd rfl (Or.inl rfl)) pgs_nil))) (pgs_cons (pg_name (i := 4) sc_closes.nd rfl (Or.inl rfl)) pgs_nil))) (fun _ _ _ _ _ => pts_one (pt_cmpR op_eq (pv 3) pe_str (nomark _))) (fun _ _ _ _ _ => (pe_cmpR op_gt (pv 4) pe_int (nomark _))))
    (pss_one (ps_ret (pe_or (pe_cmpR op_gt (pv 6) pe_int (nomark _)) (pe_one (pe_callB (cr_any rfl) (by rfl) T.m_any (by decide +kernel) (pa_cons (pv 7) pa_nil))))))))))), ?_⟩
    walk_at "start"
    walk_at "sts"
    simp only [List.length_map]
    refine r_iteN (fun c => ?_) (fun c => ?_)
    · walk_at "sts"
      have hf : closedB rs ws = false := by
        unfold closedB letB
        rw [decide_eq_false (by intro e; apply c; omega)]; rfl
      rw [hf] at qq
      exact qq H (Keep.refl _ _)
    have hlen : rs.length = ws.length := by
      first | omega | (have := c; omega)
    walk_at "sts"
    refine r_forZ ?_
    walk_at "sts"
    refine forZ_go (xs := as.map V.ref) (ys := ws.map V.int) (by simp only [List.length_map]; omega) (fun i σ' H' => ∃ (x1 x2 x3 : Option V), σ' = [some (.ref p), some (.ref q), x1, x2, x3, none, none, none] ∧ Keep [] H H' ∧ ∀ z ∈ (rs.zip ws).take i, z.1.2 = sEq ∨ 0 ≤ z.2) (sqL_of ep) (sqL_of eq) ⟨_, _, _, by first | exact rfl | trivial, Keep.refl _ _, by simp⟩ (fun i σ' H' h => by obtain ⟨_, _, _, _, k, _⟩ := h; exact ⟨sqL_of (k _ _ (by simp) ep), sqL_of (k _ _ (by simp) eq)⟩) ?_ ?_
    · rintro i x y T0 σ' H2 hx hy ⟨x1, x2, x3, rfl, k2, hz⟩ nT0
      obtain ⟨a, ha, rfl⟩ := getRef hx
      obtain ⟨wt, hwt, rfl⟩ := getInt hy
      obtain ⟨r, hr, f, ea, _⟩ := pr.get ha
      have zi := zip_at hr hwt
      have k3 : Keep [] H2 (upd H2 T0 (.tup [.ref a, .int wt])) := Keep.new nT0
      have eT : upd H2 T0 (.tup [.ref a, .int wt]) T0 = some (.tup [.ref a, .int wt]) := upd_same
      generalize upd H2 T0 (.tup [.ref a, .int wt]) = H3 at k3 eT ⊢
      have k13 := k2.trans k3
      have ea3 := k13 _ _ (by simp) ea
      refine r_gTup21 (sqT_of eT) (sqT_of ea3) ?_
      simp only [List.set_cons_zero, List.set_cons_succ]
      walk_at "sts"
      have done : (r.2 = sEq ∨ 0 ≤ wt) → ∀ z ∈ (rs.zip ws).take (i + 1), z.1.2 = sEq ∨ 0 ≤ z.2 := fun h z hm => by
        rw [take_snoc zi] at hm
        rcases List.mem_append.mp hm with hm | hm
        · exact hz z hm
        · rw [List.mem_singleton.mp hm]; exact h
      refine r_iteN (fun c1 => ?_) (fun c1 => ?_)
      · walk_at "sts"
        refine r_ite (fun c2 => ?_) (fun c2 => ?_)
        · walk_at "sts"
          have hf : closedB rs ws = false := by
            unfold closedB letB
            rw [Bool.and_eq_false_iff]; left
            rw [Bool.and_eq_false_iff]; right
            rw [List.all_eq_false]
            refine ⟨_, List.mem_of_getElem? zi, fun e => ?_⟩
            rcases of_decide_eq_true e with e | e
            · exact c1 e
            · have e' : 0 ≤ wt := e
              omega
          rw [hf] at qq
          exact qq _ k13
        · walk_at "sts"
          exact ⟨_, _, _, by first | exact rfl | trivial, k13, done (.inr (by omega))⟩
      · walk_at "sts"
        exact ⟨_, _, _, by first | exact rfl | trivial, k13, done (.inl c1)⟩
    · rintro σ' H2 ⟨x1, x2, x3, rfl, k2, hz⟩
      have hln : (as.map V.ref).length = (rs.zip ws).length := by rw [List.length_map, List.length_zip]; omega
      rw [hln, List.take_length] at hz
      have hL : letB rs ws = true := by
        unfold letB; rw [decide_eq_true hlen.symm, Bool.true_and, List.all_eq_true]
        exact fun z h => decide_eq_true (hz z h)
      unfold closedB at qq
      rw [hL, Bool.true_and] at qq
      walk_at "sts"
      refine ⟨p, q, xs, rs, ws, rfl, hh.keep0 k2, k2 _ _ (by simp) eq, hlen, h7, hok, hb, fun t D H3 kvs k3 et eD hem => ?_⟩
      have k13 := k2.trans k3
      have ep3 := k13 _ _ (by simp) ep
      have eq3 := k13 _ _ (by simp) eq
      walk_at "sts"
      refine ⟨_, .inr (.inr ⟨kvs, eD, rfl⟩), ?_⟩
      rw [hem]
      by_cases cc : Fm.can (sumT rs ws) = []
      · rw [decide_eq_true cc] at qq ⊢
        rw [Bool.true_and] at qq
        walk_at "sts"
        refine r_ite (fun c1 => ?_) (fun c1 => ?_)
        · walk_at "sts"
          rw [decide_eq_false (by omega), decide_eq_false (by omega)] at qq
          exact qq _ k13
        walk_at "sts"
        refine r_lcZ ?_
        walk_at "sts"
        refine lcZ_go (xs := as.map V.ref) (ys := ws.map V.int) (by simp only [List.length_map]; omega) (fun D i acc H' => ∃ bs : List Bool, acc = bs.map V.bl ∧ bs.any id = ((rs.zip ws).take i).any (fun p => decide (p.1.2 = sLt ∧ 0 < p.2)) ∧ bs.length ≤ i ∧ Keep [] H3 H') (sqL_of ep3) (sqL_of eq3) (fun D hD => ⟨[], rfl, by simp, by simp, Keep.new hD⟩) (fun D i acc H' _ h => by obtain ⟨_, _, _, _, k⟩ := h; exact ⟨sqL_of (k _ _ (by simp) ep3), sqL_of (k _ _ (by simp) eq3)⟩) ?_ ?_
        · rintro D1 i x y T1 acc H4 hx hy nD hD ⟨bs, rfl, hbs, lb, k4⟩ nT1
          obtain ⟨a, ha, rfl⟩ := getRef hx
          obtain ⟨wt, hwt, rfl⟩ := getInt hy
          obtain ⟨r, hr, f, ea, _⟩ := pr.get ha
          have hi := (List.getElem?_eq_some_iff.mp hr).1
          have zi := zip_at hr hwt
          have k5 : Keep [] H4 (upd H4 T1 (.tup [.ref a, .int wt])) := Keep.new nT1
          have eT : upd H4 T1 (.tup [.ref a, .int wt]) T1 = some (.tup [.ref a, .int wt]) := upd_same
          generalize upd H4 T1 (.tup [.ref a, .int wt]) = H5 at k5 eT ⊢
          have ea5 := (k13.trans (k4.trans k5)) _ _ (by simp) ea
          have hD5 := k5 _ _ (by simp) hD
          refine r_gTup21 (sqT_of eT) (sqT_of ea5) ?_
          refine ⟨rfl, ?_⟩
          simp only [L2.wipe, List.map_cons, List.map_nil, List.set_cons_zero, List.set_cons_succ]
          walk_at "sts"
          refine r_ite (fun c2 => ?_) (fun c2 => ?_)
          · walk_at "sts"
            refine lc_put (acc := bs.map V.bl) hD5 (by rw [List.length_map]; exact lt_size (by omega)) ⟨bs ++ [decide (0 < wt)], by rw [List.map_append]; rfl, ?_, by rw [List.length_append, List.length_singleton]; omega, (k4.trans k5).mut nD⟩
            rw [take_snoc zi, List.any_append, List.any_append, hbs]
            congr 1
            simp only [List.any_cons, List.any_nil, Bool.or_false, id]
            by_cases g : 0 < wt
            · rw [decide_eq_true g, decide_eq_true ⟨c2, g⟩]
            · rw [decide_eq_false g, decide_eq_false (fun e => g e.2)]
          · walk_at "sts"
            refine ⟨_, hD5, bs, rfl, ?_, by omega, k4.trans k5⟩
            rw [take_snoc zi, List.any_append, hbs]
            simp only [List.any_cons, List.any_nil, Bool.or_false]
            rw [decide_eq_false (fun e => c2 e.1), Bool.or_false]
        · rintro D1 acc H4 nD hD ⟨bs, rfl, hbs, lb, k4⟩
          rw [hln, List.take_length] at hbs
          walk_at "sts"
          refine r_ite (fun c2 => ?_) (fun c2 => ?_)
          · walk_at "sts"
            rw [decide_eq_true c2, Bool.true_or] at qq
            exact qq _ (k13.trans k4)
          · walk_at "sts"
            refine r_any (sqL_of hD) ?_
            rw [hbs]
            rw [decide_eq_false c2, Bool.false_or, decide_eq_true (by omega), Bool.true_and] at qq
            exact qq _ (k13.trans k4)
      · rw [decide_eq_false cc] at qq ⊢
        rw [Bool.false_and] at qq
        walk_at "sts"
        exact qq _ k13
end
/-! ### holds, asked -/
theorem asc_eq : ∀ {l m : List Str}, l.Pairwise Fm.Lt → m.Pairwise Fm.Lt → (∀ x, x ∈ l ↔ x ∈ m) → l = m
  | [], [], _, _, _ => rfl
  | [], b :: m, _, _, h => absurd ((h b).mpr (by simp)) (by simp)
  | a :: l, [], _, _, h => absurd ((h a).mp (by simp)) (by simp)
  | a :: l, b :: m, p, q, h => by
    rw [List.pairwise_cons] at p q
    have e : a = b := by
      rcases List.mem_cons.mp ((h a).mp (by simp)) with e | e
      · exact e
      · rcases List.mem_cons.mp ((h b).mpr (by simp)) with f | f
        · exact f.symm
        · exact ((p.1 b f).tr (q.1 a e)).irr.elim
    subst e
    have t : l = m := asc_eq p.2 q.2 fun x => by
      constructor
      · intro hx
        rcases List.mem_cons.mp ((h x).mp (by simp [hx])) with e | e
        · subst e; exact ((p.1 x hx).irr).elim
        · exact e
      · intro hx
        rcases List.mem_cons.mp ((h x).mpr (by simp [hx])) with e | e
        · subst e; exact ((q.1 x hx).irr).elim
        · exact e
    rw [t]
theorem NmOf.uniq {rs : List Lr} {ys zs : List Str} (h : NmOf rs ys) (k : NmOf rs zs) : ys = zs := asc_eq h.asc k.asc fun x => (h.mem x).trans (k.mem x).symm
/-- the names that have no level -/
def missing (ys ns : List Str) : List Str := ys.filter fun y => decide (y ∉ ns)
theorem missing_nil {ys ns : List Str} (h : ∀ y ∈ ys, y ∈ ns) : missing ys ns = [] := by
  unfold missing; rw [List.filter_eq_nil_iff]; intro y hy; simpa using h y hy
theorem missing_at {ns : List Str} {y : Str} : ∀ {ys : List Str} {i : Nat}, ys[i]? = some y → y ∉ ns → (∀ z ∈ ys.take i, z ∈ ns) → ∃ us, missing ys ns = y :: us
  | [], i, h, _, _ => by simp at h
  | z :: ys, 0, h, n, _ => by
    have e : z = y := by simpa using h
    subst e
    exact ⟨missing ys ns, by unfold missing; rw [List.filter_cons_of_pos (by simpa using n)]⟩
  | z :: ys, i + 1, h, n, k => by
    obtain ⟨us, e⟩ := missing_at (ys := ys) (i := i) (by simpa using h) n fun x hx => k x (by simp [hx])
    refine ⟨us, ?_⟩
    unfold missing at e ⊢
    rw [List.filter_cons_of_neg (by simpa using k z (by simp)), e]
theorem missing_snoc {ys ns : List Str} {i : Nat} {y : Str} (h : ys[i]? = some y) : missing (ys.take (i + 1)) ns = missing (ys.take i) ns ++ if y ∈ ns then [] else [y] := by
  unfold missing
  rw [take_snoc h, List.filter_append]
  congr 1
  by_cases c : y ∈ ns
  · rw [if_pos c, List.filter_cons_of_neg (by simpa using c)]; rfl
  · rw [if_neg c, List.filter_cons_of_pos (by simpa using c)]; rfl
def spHoldsR (C : Addr) : Sp := fun vs H Q _ => ∃ (p r d : Addr) (xs ns : List Str) (rs : List Lr) (W : Fm.Wd), vs = [.ref p, .ref r, .ref d] ∧ HRows C H p rs ∧ LRows H r rs ∧ WorldAt H d ns W ∧ rs.length ≤ 7 ∧ (∀ r ∈ rs, ROk xs 400 r) ∧ xs.length ≤ 4 ∧ (∀ z ∈ xs, IsQ z) ∧ ∀ H', Keep [] H H' → Q (.bl true) H'
theorem keys_nodup {kvs : List (Key × V)} {ns : List Str} (h : kvs.map (·.1) = ns.map Sum.inr) (n : ns.Nodup) : (kvs.map (·.1)).Nodup := by
  rw [h]; exact List.Pairwise.map _ (fun (a b : Str) (e : a ≠ b) (g : (Sum.inr a : Key) = Sum.inr b) => e (Sum.inr.inj g)) n
theorem dict_same {H : Hp} {d k : Addr} {kvs : List (Key × V)} {ns : List Str} (hd : H d = some (.dK kvs)) (hk : H k = some (.dK kvs)) (h : kvs.map (·.1) = ns.map Sum.inr) (n : ns.Nodup) (lv : ∀ p ∈ kvs, ∃ a, p.2 = .ref a) : SameD (.ref d) (.ref k) H :=
  same_self hd hk (keys_nodup h n) fun p hp => .inr (lv p hp)
section
variable {w : World} {K : PySem.W.Frag} {mg : Str → Option Value} {base : Heap}
theorem ok_holdsR (T : Tx K mg) (G_w_quantities : FnOk PG w K mg base CX0 1 T.f_w_quantities T.fd_w_quantities ["_law_rows_here"] spQuants)
    (G_holdsX : FnOk PG w K mg base (L2.CX PG w) 6 T.f_holds T.fd_holds ["rows", "world"] (spHolds T.C_Form T.C_NoQuantity))
    (G_w_kept : FnOk PG w K mg base CX0 3 T.f_w_kept T.fd_w_kept ["_law_handed_here", "_law_rows_here"] (spKept T.C_Form))
    (G_w_all_hold : FnOk PG w K mg base CX0 4 T.f_w_all_hold T.fd_w_all_hold ["_law_rows_here", "_law_world_here"] spAllHold) : FnOk PG w K mg base CX0 7 T.f_w_holds_right T.fd_w_holds_right ["_law_handed_here", "_law_rows_here", "_law_world_here"] (spHoldsR T.C_Form) := by
  refine T.F_w_holds_right.ok sc_w_holds_right (fun vs H Q E h => ?_) (fun cdv A outer s H vs Q E hr h => ?_)
  · obtain ⟨p, r, d, xs, ns, rs, W, rfl, _⟩ := h; rfl
  · obtain ⟨p, r, d, xs, ns, rs, W, rfl, hh, hl, hw, h7, hok, l4, hq, qq⟩ := h
    obtain ⟨kvs, ed, hk, hnd, hlev⟩ := id hw
    refine ⟨_, (pss_cons (ps_setLc (i := 3) (own := [("_law_text", 4)]) (g := gName 4)  rfl sc_w_holds_right.nd rfl rfl (sw_true rfl rfl rfl (by decide +kernel)) (pi_list (pe_call G_w_quantities (hr.mono (by decide)) rfl T.g_w_quantities T.F_w_quantities.kp T.b_w_quantities .nil pass0 (pa_cons (pv 1) pa_nil))) (blkOk_by (own := [("_law_text", 4)]) (N := ["_law_handed_here", "_law_rows_here", "_law_world_here", "_law_missing", "_law_text", "_law_kept_here", "_law_found", "e"]) (sc := defScope s_w_holds_right) (by decide +kernel)) (fun _ _ _ _ _ => pg_name (i := 4) sc_w_holds_right.nd rfl (Or.inl rfl)) (fun _ _ _ _ _ => pts_one (pt_cmp (pc_dnotin (hu_of hr) (pv 4) (pv 2)))) (fun _ _ _ _ _ => (pv 4)))
    (pss_cons (ps_set (i := 5) sc_w_holds_right.nd rfl (Or.inl rfl) (pe_callTy call_dictD (by rfl) T.m_dict (by decide +kernel) (pa_cons (pv 2) pa_nil)))
    (pss_cons (ps_try_as (i := 7) (Wout := fun _ _ _ _ => False) rfl rfl sc_w_holds_right.nd rfl rfl ⟨rfl, by decide, Or.inl T.gC_NoQuantity⟩ takes0 (fun W pn xe tk _ => (pss_one (ps_set (i := 6) sc_w_holds_right.nd rfl (Or.inl rfl) (pe_callSD G_holdsX (hr.mono (by decide)) rfl T.g_holds T.F_holds.kp T.b_holds .nil (fun σ => passAt tk σ) (pa_cons (pv 0) (pa_cons (pv 2) pa_nil)))))) (fun a oe cls d pn hz hf => (pss_cons (ps_if (PW.pt (pw_or (pt_not (pt_val (pe_callB (Er.call_isD hz hf) (by rfl) T.m_isinstance (by decide +kernel) (pa_cons (pv 7) (pa_cons (pe_glob (v := .ref T.C_MeteError) rfl T.gC_MeteError rfl) pa_nil))))) (pw_or1 (pt_not (pt_val (pe_callB (Er.call_isD hz hf) (by rfl) T.m_isinstance (by decide +kernel) (pa_cons (pv 7) (pa_cons (pe_bltn (v := .ty "ValueError") (by rfl) T.m_ValueError boot_ValueError rfl) pa_nil))))))))
    (pss_one (ps_ret pe_bl))
    pss_nil)
    (pss_one (ps_ret (pe_and (pe_cmpR (Er.op_neDK (K := K) rfl hr.units) (pv 3) (pe_lst pa_nil) (nomark _)) (pe_and (pe_cmpR op_eq (pe_xf T.xf_NoQuantity (T.Z_NoQuantity w).noN hz hf (pv 7)) (pe_ix (ix_listK (K := K) rfl) (pv 3) pe_int (fun _ _ => rfl)) (nomark _)) (pe_one (pe_cmpR (op_eqSame (Nat.lt_of_le_of_lt (Nat.le_add_right _ 64) hr.units)) (pv 2) (pv 5) (nomark _))))))))))
    (pss_cons (ps_if (PW.pt (pw_or (pt_cmpR (op_neD hr.units) (pv 3) (pe_lst pa_nil) (nomark _)) (pw_or (pt_not (pt_val (pe_callB call_isi (by rfl) T.m_isinstance (by decide +kernel) (pa_cons (pv 6) (pa_cons (pe_bltn (v := .ty "bool") (by rfl) T.m_bool (by decide +kernel) rfl) pa_nil))))) (pw_or (pt_cmpR (op_neSame (Nat.lt_of_le_of_lt (Nat.le_add_right _ 64) hr.units)) (pv 2) (pv 5) (nomark _)) (pw_or1 (pt_not (pt_val (pe_call G_w_kept (hr.mono (by decide)) rfl T.g_w_kept T.F_w_kept.kp T.b_w_kept .nil pass0 (pa_cons (pv 0) (pa_cons (pv 1) pa_nil))))))))))
    (pss_one (ps_ret pe_bl))
    pss_nil)
    (pss_one (ps_ret (pe_cmpR op_eq (pv 6) (pe_call G_w_all_hold (hr.mono (by decide)) rfl T.g_w_all_hold T.F_w_all_hold.kp T.b_w_all_hold .nil pass0 (pa_cons (pv 1) (pa_cons (pv 2) pa_nil))) (nomark _)))))))), ?_⟩
    walk_at "start"
    walk_at "sts"
    have hpv : ∀ p ∈ kvs, ∃ a, p.2 = .ref a := fun p hp => by
      have hm : p.1 ∈ ns.map (Sum.inr (α := Int)) := by rw [← hk]; exact List.mem_map_of_mem hp
      obtain ⟨z, hz, e⟩ := List.mem_map.mp hm
      obtain ⟨⟨b, vb, _⟩, _⟩ := hlev z hz
      have := val_self (keys_nodup hk hnd) p hp
      rw [← e, vb] at this
      exact ⟨b, (Option.some.inj this).symm⟩
    refine ⟨r, xs, rs, rfl, hl, h7, hok, l4, fun q ys H1 k1 nq nm eq => ?_⟩
    have ed1 := k1 _ _ (by simp) ed
    refine lcL_go (fun D i acc H' => acc = (missing (ys.take i) ns).map V.str ∧ Keep [] H1 H' ∧ (missing (ys.take i) ns).length ≤ i ∧ H1 D = none) (sqL_of eq) (fun D hD => ⟨rfl, Keep.new hD, by simp [missing], hD⟩) (fun D i acc H' _ h => sqL_of (h.2.1 _ _ (by simp) eq)) ?_ ?_
    · rintro D i v acc H2 hv hD ⟨rfl, k2, lm, nD⟩
      obtain ⟨z, hnm, rfl⟩ := getStr hv
      have ed2 := k2 _ _ (by simp) ed1
      have hi := (List.getElem?_eq_some_iff.mp hnm).1
      have hy4 : ys.length ≤ 4 := Nat.le_trans (Fm.nodup_len (nm.asc.imp fun {a b} h (e : a = b) => by subst e; exact h.irr) fun x hx => names_in hok x ((nm.mem x).mp hx)) l4
      have ms := missing_snoc (ns := ns) hnm
      walk_at "sts"
      refine r_dinS ed2 ?_
      rw [val_in hk]
      walk_at "sts"
      refine r_iteN (fun c => ?_) (fun c => ?_)
      · rw [if_neg c] at ms
        walk_at "sts"
        exact lc_put (acc := (missing (ys.take i) ns).map V.str) hD (by rw [List.length_map]; exact lt_size (by omega)) ⟨by rw [ms, List.map_append]; rfl, k2.mut nD, by rw [ms, List.length_append, List.length_singleton]; omega, nD⟩
      · rw [if_pos c, List.append_nil] at ms
        walk_at "sts"
        exact ⟨_, hD, by rw [ms], k2, by rw [ms]; omega, nD⟩
    · rintro D acc H2 nD hD ⟨rfl, k2, lm, _⟩
      rw [List.length_map, List.take_length] at hD
      have k12 := k1.trans k2
      have ed2 := k2 _ _ (by simp) ed1
      walk_at "sts"
      refine ⟨d, kvs, rfl, .inl ed2, fun kp hkp => ?_⟩
      have k3 : Keep [] H2 (upd H2 kp (.dK kvs)) := Keep.new hkp
      have e3 : upd H2 kp (.dK kvs) kp = some (.dK kvs) := upd_same
      have hD3 := k3 _ _ (by simp) hD
      generalize upd H2 kp (.dK kvs) = H3 at k3 e3 hD3 ⊢
      have k13 := k12.trans k3
      walk_at "sts"
      refine ⟨p, d, xs, ns, rs, W, rfl, hh.keep0 k13, hw.keep k13 (by simp), h7, hok, l4, hq, fun ys' H4 nm' hin k4 => ?_, fun ys' i y H4 e nm' hy hn hz k4 he => ?_⟩
      · have hm : missing ys ns = [] := missing_nil (by rw [nm.uniq nm']; exact hin)
        rw [hm] at hD3
        have hD4 := k4 _ _ (by simp) hD3
        walk_at "sts"
        intro l0 hl0
        have k5 : Keep [] H4 (upd H4 l0 (.lst [])) := Keep.new hl0
        refine r_neL (xs := []) (ys := []) (b := true) (sqL_of (k5 _ _ (by simp) hD4)) (sqL_of upd_same) rfl rfl rfl ?_
        generalize upd H4 l0 (.lst []) = H5 at k5 ⊢
        have k15 := k13.trans (k4.trans k5)
        have k35 := k4.trans k5
        walk_at "sts"
        refine ⟨dict_same (k15 _ _ (by simp) ed) (k35 _ _ (by simp) e3) hk hnd hpv, ?_⟩
        walk_at "sts"
        refine ⟨p, r, xs, rs, rfl, hh.keep0 k15, hl.keep0 k15, h7, hok, ?_⟩
        walk_at "sts"
        refine ⟨r, d, xs, ns, W, rs, rfl, hl.keep0 k15, hw.keep k15 (by simp), fun r hr t ht => hin _ ((nm'.mem _).mpr (List.mem_flatMap.mpr ⟨r, hr, List.mem_map.mpr ⟨t, ht, rfl⟩⟩)), hok, fun H6 k6 => ?_⟩
        walk_at "sts"
        have := qq H6 (k15.trans k6)
        first
          | exact this
          | (rw [decide_eq_true rfl]; exact this)
      · rw [← nm.uniq nm'] at hy hz
        obtain ⟨us, hm⟩ := missing_at hy hn hz
        rw [hm] at hD3
        have hD4 := k4 _ _ (by simp) hD3
        have hfl : ((y :: us).map V.str).all flatV = true := by
          rw [List.all_map]
          refine List.all_eq_true.mpr fun z hz => ?_
          rw [← hm] at hz
          exact (hq z (names_in hok z ((nm.mem z).mp (List.mem_filter.mp hz).1))).ok
        refine ⟨true, T.exm_NoQuantity_NoQuantity, fun _ a ha => ?_, fun z => nomatch z⟩
        have he' : upd H4 e (.xd [("name", .str y)]) e = some (.xd [("name", .str y)]) := upd_same
        have k5 : Keep [] H4 (upd H4 e (.xd [("name", .str y)])) := Keep.new he
        have hD5 := k5 _ _ (by simp) hD4
        generalize upd H4 e (.xd [("name", .str y)]) = H5 at he' k5 hD5 ha ⊢
        simp only [List.set_cons_succ, List.set_cons_zero]
        walk_at "sts"
        refine Er.r_isD T.X_NoQuantity he' (fun u r => r) T.kit_NoQuantity_MeteError ?_
        walk_at "sts"
        refine Er.r_isD T.X_NoQuantity he' (fun u r => r) T.kit_NoQuantity_ValueError ?_
        walk_at "sts"
        intro l0 hl0
        have k6 : Keep [] H5 (upd H5 l0 (.lst [])) := Keep.new hl0
        have hD6 := k6 _ _ (by simp) hD5
        have he6 := k6 _ _ (by simp) he'
        refine r_neL (b := false) (sqL_of hD6) (sqL_of upd_same) hfl rfl (by rfl) ?_
        generalize upd H5 l0 (.lst []) = H6 at k6 hD6 he6 ⊢
        walk_at "sts"
        refine Er.r_xfE he6 rfl ?_
        have ats : atI ((y :: us).map V.str) 0 = some (V.str y) := atI_nat (j := 0) rfl
        walk_at "sts"
        have k16 := k13.trans (k4.trans (k5.trans k6))
        have k36 := k4.trans (k5.trans k6)
        refine ⟨dict_same (k16 _ _ (by simp) ed) (k36 _ _ (by simp) e3) hk hnd hpv, ?_⟩
        exact qq _ k16
end
/-! ### holds of no rows; what stands while a dict changes -/
def spHolds0 : Sp := fun vs H Q _ => ∃ (p d : Addr) (kvs : List (Key × V)), vs = [.ref p, .ref d] ∧ H p = some (.lst []) ∧ H d = some (.dK kvs) ∧ ∀ H', Keep [] H H' → Q (.bl true) H'
section
variable {w : World} {K : PySem.W.Frag} {mg : Str → Option Value} {base : Heap}
theorem ok_holds0 (T : Tx K mg) (G_all_names : FnOk PG w K mg base CX0 1 T.f_all_names T.fd_all_names ["forms"] (spAllNames T.C_Form)) (G_need_levels : FnOk PG w K mg base CX0 1 T.f_need_levels T.fd_need_levels ["names", "world"] spNeed)
    (G_row_holds : FnOk PG w K mg base CX0 1 T.f_row_holds T.fd_row_holds ["value", "sign"] spRowHolds) (G_Form___call : FnOk PG w K mg base CX0 3 T.f_Form___call T.fd_Form___call ["self", "world"] (spVal T.C_Form)) : FnOk PG w K mg base CX0 6 T.f_holds T.fd_holds ["rows", "world"] spHolds0 := by
  refine T.F_holds.ok sc_holds (fun vs H Q E h => ?_) (fun cdv A outer s H vs Q E hr h => ?_)
  · obtain ⟨a, d, kvs, rfl, _⟩ := h; rfl
  · obtain ⟨p, d, kvs, rfl, ep, ed, qq⟩ := h
    have oc := T.oc_Form
    refine ⟨_, (pss_cons (ps_expr (pe_call G_need_levels (hr.mono (by decide)) rfl T.g_need_levels T.F_need_levels.kp T.b_need_levels .nil pass0 (pa_cons (pe_call G_all_names (hr.mono (by decide)) rfl T.g_all_names T.F_all_names.kp T.b_all_names .nil pass0 (pa_cons (pe_lc (own := [("form", 2), ("_", 3)]) (g := gTup K 2 (gCons (gName 2) (gCons (gName 3) gNil))) (tt := tYes) rfl sc_holds.nd (pi_list (pv 0)) (blkOk_by (own := [("form", 2), ("_", 3)]) (N := ["rows", "world", "form", "_", "sign"]) (sc := defScope s_holds) (by decide +kernel)) (fun _ _ _ _ _ => pg_tup (n := 2) rfl (pgs_cons (pg_name (i := 2) sc_holds.nd rfl (Or.inl rfl)) (pgs_cons (pg_name (i := 3) sc_holds.nd rfl (Or.inl rfl)) pgs_nil))) (fun _ _ _ _ _ => pts_nil) (fun _ _ _ _ _ => (pv 2))) pa_nil)) (pa_cons (pv 1) pa_nil))))
    (pss_one (ps_ret (pe_callB (cr_all rfl) (by rfl) T.m_all (by decide +kernel) (pa_cons (pe_lc (own := [("form", 2), ("sign", 4)]) (g := gTup K 2 (gCons (gName 2) (gCons (gName 4) gNil))) (tt := tYes) rfl sc_holds.nd (pi_list (pv 0)) (blkOk_by (own := [("form", 2), ("sign", 4)]) (N := ["rows", "world", "form", "_", "sign"]) (sc := defScope s_holds) (by decide +kernel)) (fun _ _ _ _ _ => pg_tup (n := 2) rfl (pgs_cons (pg_name (i := 2) sc_holds.nd rfl (Or.inl rfl)) (pgs_cons (pg_name (i := 4) sc_holds.nd rfl (Or.inl rfl)) pgs_nil))) (fun _ _ _ _ _ => pts_nil) (fun _ _ _ _ _ => (pe_call G_row_holds (hr.mono (by decide)) rfl T.g_row_holds T.F_row_holds.kp T.b_row_holds .nil pass0 (pa_cons (pe_ix (ix_tupK (K := K) rfl) (pe_callOK (K := K) rfl (pv 2) T.co_Form (G_Form___call.raw T.b_Form___call .nil) (hr.mono (by decide)) pass0 (pa_cons (pv 1) pa_nil)) pe_int (fun _ _ => rfl)) (pa_cons (pv 4) pa_nil))))) pa_nil))))), ?_⟩
    walk_at "start"
    walk_at "sts"
    refine lcL_go (fun D i acc H' => acc = [] ∧ Keep [] H H') (sqL_of ep) (fun D hD => ⟨rfl, Keep.new hD⟩) (fun D i acc H' _ h => sqL_of (h.2 _ _ (by simp) ep)) ?_ ?_
    · rintro D i v acc H1 hv; simp at hv
    · rintro D acc H1 nD hD ⟨rfl, k1⟩
      walk_at "sts"
      refine ⟨D, [], [], [], rfl, hD, trivial, by simp, by simp, by simp, fun q ys H2 k2 nq nmo eq => ?_⟩
      have hy : ys = [] := by
        cases ys with
        | nil => rfl
        | cons y ys => have := (nmo.mem y).mp (by simp); simp [names] at this
      subst hy
      have k12 := k1.trans k2
      walk_at "sts"
      refine ⟨q, d, [], kvs, rfl, eq, k12 _ _ (by simp) ed, by simp, ?_⟩
      walk_at "sts"
      have ep2 := k12 _ _ (by simp) ep
      refine lcL_go (fun D i acc H' => acc = [] ∧ Keep [] H2 H') (sqL_of ep2) (fun D hD => ⟨rfl, Keep.new hD⟩) (fun D i acc H' _ h => sqL_of (h.2 _ _ (by simp) ep2)) ?_ ?_
      · rintro D i v acc H3 hv; simp at hv
      · rintro D acc H3 nD hD ⟨rfl, k3⟩
        walk_at "sts"
        refine r_all (bs := []) (sqL_of hD) ?_
        exact qq H3 (k12.trans k3)
end
/-- lists, tuples and objects stay; a dict may change -/
structure KeepX (H H' : Hp) : Prop where
  t : ∀ b xs, H b = some (.tup xs) → H' b = some (.tup xs)
  i : ∀ b C dx fs, H b = some (.ins C dx fs) → H' b = some (.ins C dx fs)
  l : ∀ b xs, H b = some (.lst xs) → H' b = some (.lst xs)
theorem keepX_dict {m : Addr} {kvs : List (Key × V)} {H H' : Hp} (hm : H m = some (.dK kvs)) (k : Keep [m] H H') : KeepX H H' := by
  refine ⟨fun b xs e => k _ _ (fun h => ?_) e, fun b C dx fs e => k _ _ (fun h => ?_) e, fun b xs e => k _ _ (fun h => ?_) e⟩ <;>
  · rw [List.mem_singleton] at h; subst h; rw [hm] at e; cases e
theorem PairsAt.keepX {H H' : Hp} (k : KeepX H H') : ∀ {as : List Addr} {ts : List Fm.Tm}, PairsAt H as ts → PairsAt H' as ts
  | [], [], _ => trivial
  | _ :: _, _ :: _, h => ⟨k.t _ _ h.1, h.2.keepX k⟩
  | [], _ :: _, h => h.elim
  | _ :: _, [], h => h.elim
theorem TupAt.keepX {H H' : Hp} {t : Addr} {ts : List Fm.Tm} (h : TupAt H t ts) (k : KeepX H H') : TupAt H' t ts := by
  obtain ⟨as, e, p⟩ := h; exact ⟨as, k.t _ _ e, p.keepX k⟩
theorem DueAt.keepX {H H' : Hp} {t : Addr} {ts : List Fm.Tm} {c : Int} (h : DueAt H t ts c) (k : KeepX H H') : DueAt H' t ts c := by
  obtain ⟨as, e, p⟩ := h; exact ⟨as, k.t _ _ e, p.keepX k⟩
theorem LRows.keepX {H H' : Hp} {p : Addr} {rs : List Lr} (h : LRows H p rs) (k : KeepX H H') : LRows H' p rs := by
  obtain ⟨as, e, h⟩ := h
  exact ⟨as, k.l _ _ e, h.mono fun a x ⟨d, e, f⟩ => ⟨d, k.t _ _ e, f.keepX k⟩⟩
theorem HRows.keepX {C : Addr} {H H' : Hp} {p : Addr} {rs : List Lr} (h : HRows C H p rs) (k : KeepX H H') : HRows C H' p rs := by
  obtain ⟨as, e, h⟩ := h
  exact ⟨as, k.l _ _ e, h.mono fun a x ⟨d, e, dx, t, f, g⟩ => ⟨d, k.t _ _ e, dx, t, k.i _ _ _ _ f, g.keepX k⟩⟩
theorem HRows.keep {C : Addr} {H H' : Hp} {M : List Addr} {p : Addr} {rs : List Lr} (h : HRows C H p rs) (k : Keep M H H') (n : ∀ m ∈ M, ∃ xs, H m = some (.lst xs)) (hp : p ∉ M) : HRows C H' p rs := by
  obtain ⟨as, e, h⟩ := h
  exact ⟨as, k _ _ hp e, h.mono fun a x r => r.keep k n⟩
theorem PotAt.keepX {a : Addr} {H H' : Hp} (h : PotAt a H) (k : KeepX H H') : PotAt a H' := by
  obtain ⟨P, e, hP⟩ := h; exact ⟨P, k.l _ _ e, hP⟩
theorem drop_val {kvs : List (Key × V)} {k j : Key} (h : j ≠ k) : valV (dropK kvs k) j = valV kvs j := by
  unfold valV dropK
  induction kvs with
  | nil => rfl
  | cons kv kvs ih =>
    by_cases c : kv.1 = k
    · rw [List.filter_cons_of_neg (by simpa using c), List.find?_cons_of_neg (by rw [c]; simpa using fun e => h e.symm)]; exact ih
    · rw [List.filter_cons_of_pos (by simpa using c)]
      by_cases g : kv.1 = j
      · rw [List.find?_cons_of_pos (by simpa using g), List.find?_cons_of_pos (by simpa using g)]
      · rw [List.find?_cons_of_neg (by simpa using g), List.find?_cons_of_neg (by simpa using g)]; exact ih
theorem drop_keys {z : Str} : ∀ {kvs : List (Key × V)} {ns : List Str}, kvs.map (·.1) = ns.map Sum.inr → (dropK kvs (Sum.inr z)).map (·.1) = (ns.filter fun y => decide (y ≠ z)).map Sum.inr
  | [], [], _ => rfl
  | [], _ :: _, h => by simp at h
  | _ :: _, [], h => by simp at h
  | kv :: kvs, n :: ns, h => by
    rw [List.map_cons, List.map_cons, List.cons.injEq] at h
    have ih := drop_keys (z := z) h.2
    unfold dropK at ih ⊢
    have e : kv.1 = Sum.inr n := h.1
    by_cases c : n = z
    · rw [List.filter_cons_of_neg (by rw [e, c]; simp), List.filter_cons_of_neg (by simpa using c)]; exact ih
    · rw [List.filter_cons_of_pos (by rw [e]; simpa using c), List.filter_cons_of_pos (by simpa using c), List.map_cons, List.map_cons, ih, e]
theorem WorldAt.drop {H : Hp} {m : Addr} {ns : List Str} {W : Fm.Wd} {z : Str} {kvs : List (Key × V)} (e : H m = some (.dK kvs)) (hk : kvs.map (·.1) = ns.map Sum.inr) (hn : ns.Nodup) (hl : ∀ z ∈ ns, LevAt H kvs W z ∧ 0 < (W z).2 ∧ (W z).1.natAbs < 2 ^ 10 ∧ (W z).2.natAbs < 2 ^ 10) :
    WorldAt (upd H m (.dK (dropK kvs (Sum.inr z)))) m (ns.filter fun y => decide (y ≠ z)) W := by
  refine ⟨_, upd_same, drop_keys hk, hn.filter _, fun y hy => ?_⟩
  obtain ⟨hy, c⟩ := List.mem_filter.mp hy
  have c' : y ≠ z := of_decide_eq_true c
  obtain ⟨⟨a, va, ea⟩, r⟩ := hl y hy
  refine ⟨⟨a, by rw [drop_val (fun g => c' (Sum.inr.inj g))]; exact va, ?_⟩, r⟩
  rw [upd_ne (by rintro rfl; rw [e] at ea; cases ea)]; exact ea
theorem ROk.wk {xs : List Str} {i j : Nat} {r : Lr} (h : ROk xs i r) (hij : i ≤ j) : ROk xs j r := ⟨⟨h.f.can, h.f.len, h.f.nm, fun p hp => Fm.pow_le (h.f.wb p hp) hij, Fm.pow_le h.f.cb hij⟩, h.s⟩
/-! ### the law -/
def spLaw (K : PySem.W.Frag) : Sp := fun vs H Q _ => ∃ (a : Addr) (ns : List Int), vs = [.ref a] ∧ SqL K H a (ns.map V.int) ∧ ns.length ≤ 63 ∧ ∀ H', Q (.bl true) H'
theorem r_dpop {td ty : TE} {σ : L2.St} {H : Hp} {Q : VK} (k : td σ H fun x H1 => ∃ a, x = .ref a ∧ IsD H1 a ∧ ty σ H1 fun y H2 => ∃ kvs k v, H2 a = some (.dK kvs) ∧ y = kV k ∧ valV kvs k = some v ∧ Q v (upd H2 a (.dK (dropK kvs k)))) : tDPop1 td ty σ H Q := k
/-- before the last row -/
structure CA (a pl m q : Addr) (xs : List Str) (W : Fm.Wd) (rs : List Lr) (n1 : pl ≠ a) (n2 : q ≠ a) (H : Hp) : Prop where
  p : PotAt a H
  en : NamesAt H pl xs
  hw : WorldAt H m xs W
  hl : LRows H q rs
theorem CA.a {a pl m q : Addr} {xs : List Str} {W : Fm.Wd} {rs : List Lr} {n1 : pl ≠ a} {n2 : q ≠ a} {H H' : Hp} (h : CA a pl m q xs W rs n1 n2 H) (k : Keep [a] H H') (p : PotAt a H') : CA a pl m q xs W rs n1 n2 H' :=
  ⟨p, k _ _ (by simpa using n1) h.en, h.hw.keep k h.p.ml, h.hl.keep k h.p.ml (by simpa using n2)⟩
theorem CA.k {a pl m q : Addr} {xs : List Str} {W : Fm.Wd} {rs : List Lr} {n1 : pl ≠ a} {n2 : q ≠ a} {H H' : Hp} (h : CA a pl m q xs W rs n1 n2 H) (k : Keep [] H H') : CA a pl m q xs W rs n1 n2 H' := h.a (k.mono (by simp)) (h.p.keep0 k)
/-- behind the last row -/
structure CB (C a pl m q hd wq : Addr) (xs ns : List Str) (W : Fm.Wd) (rs : List Lr) (ws : List Int) (n1 : pl ≠ a) (n2 : q ≠ a) (n3 : hd ≠ a) (n4 : wq ≠ a) (H : Hp) : Prop where
  p : PotAt a H
  en : NamesAt H pl xs
  hw : WorldAt H m ns W
  hl : LRows H q rs
  hh : HRows C H hd rs
  ew : H wq = some (.lst (ws.map V.int))
theorem CB.a {C a pl m q hd wq : Addr} {xs ns : List Str} {W : Fm.Wd} {rs : List Lr} {ws : List Int} {n1 : pl ≠ a} {n2 : q ≠ a} {n3 : hd ≠ a} {n4 : wq ≠ a} {H H' : Hp} (h : CB C a pl m q hd wq xs ns W rs ws n1 n2 n3 n4 H) (k : Keep [a] H H') (p : PotAt a H') : CB C a pl m q hd wq xs ns W rs ws n1 n2 n3 n4 H' :=
  ⟨p, k _ _ (by simpa using n1) h.en, h.hw.keep k h.p.ml, h.hl.keep k h.p.ml (by simpa using n2), h.hh.keep k h.p.ml (by simpa using n3), k _ _ (by simpa using n4) h.ew⟩
theorem CB.k {C a pl m q hd wq : Addr} {xs ns : List Str} {W : Fm.Wd} {rs : List Lr} {ws : List Int} {n1 : pl ≠ a} {n2 : q ≠ a} {n3 : hd ≠ a} {n4 : wq ≠ a} {H H' : Hp} (h : CB C a pl m q hd wq xs ns W rs ws n1 n2 n3 n4 H) (k : Keep [] H H') : CB C a pl m q hd wq xs ns W rs ws n1 n2 n3 n4 H' := h.a (k.mono (by simp)) (h.p.keep0 k)
theorem CB.pop {C a pl m q hd wq : Addr} {xs ns : List Str} {W : Fm.Wd} {rs : List Lr} {ws : List Int} {n1 : pl ≠ a} {n2 : q ≠ a} {n3 : hd ≠ a} {n4 : wq ≠ a} {H : Hp} {kvs : List (Key × V)} {z : Str} (h : CB C a pl m q hd wq xs ns W rs ws n1 n2 n3 n4 H) (e : H m = some (.dK kvs)) (hk : kvs.map (·.1) = ns.map Sum.inr) (hn : ns.Nodup) (hl : ∀ z ∈ ns, LevAt H kvs W z ∧ 0 < (W z).2 ∧ (W z).1.natAbs < 2 ^ 10 ∧ (W z).2.natAbs < 2 ^ 10) :
    CB C a pl m q hd wq xs (ns.filter fun y => decide (y ≠ z)) W rs ws n1 n2 n3 n4 (upd H m (.dK (dropK kvs (Sum.inr z)))) := by
  have kx : KeepX H (upd H m (.dK (dropK kvs (Sum.inr z)))) := keepX_dict e (Keep.at (by simp))
  exact ⟨h.p.keepX kx, kx.l _ _ h.en, WorldAt.drop e hk hn hl, h.hl.keepX kx, h.hh.keepX kx, kx.l _ _ h.ew⟩
theorem map_ref3 {as : List Addr} {t : Addr} {j : Nat} : (as.map V.ref).take j ++ [V.ref t] ++ (as.map V.ref).drop j = (as.take j ++ [t] ++ as.drop j).map V.ref := by simp [List.map_take, List.map_drop]
theorem map_int3 {ws : List Int} {t : Int} {j : Nat} : (ws.map V.int).take j ++ [V.int t] ++ (ws.map V.int).drop j = (ws.take j ++ [t] ++ ws.drop j).map V.int := by simp [List.map_take, List.map_drop]
theorem in3 {α : Type} {xs : List α} {t z : α} {j : Nat} (h : z ∈ xs.take j ++ [t] ++ xs.drop j) : z ∈ xs ∨ z = t := by
  rcases List.mem_append.mp h with h | h
  · rcases List.mem_append.mp h with h | h
    · exact .inl (List.mem_of_mem_take h)
    · exact .inr (List.mem_singleton.mp h)
  · exact .inl (List.mem_of_mem_drop h)
theorem len3 {α : Type} {xs : List α} {t : α} {j : Nat} (h : j ≤ xs.length) : (xs.take j ++ [t] ++ xs.drop j).length = xs.length + 1 := by
  simp only [List.length_append, List.length_take, List.length_drop, List.length_singleton]; omega
theorem closed_nil : closedB [] [] = false ∧ closedB [] [1] = false := by
  constructor <;> simp [closedB, letB, strictB, sumC]
section
variable {w : World} {K : PySem.W.Frag} {mg : Str → Option Value} {base : Heap}
theorem ok_law (T : Tx K mg) (G_w_pot : FnOk PG w K mg base CX0 1 T.f_w_pot T.fd_w_pot ["_law_script"] (spPot K)) (G_w_take : GTake PG w K mg base T) (G_w_pool : FnOk PG w K mg base CX0 3 T.f_w_pool T.fd_w_pool ["_law_pot_here", "_law_most"] spPool)
    (G_w_world : FnOk PG w K mg base CX0 2 T.f_w_world T.fd_w_world ["_law_pot_here", "_law_pool_here"] spWorld)
    (G_w_rows : FnOk PG w K mg base CX0 3 T.f_w_rows T.fd_w_rows ["_law_pot_here", "_law_pool_here", "_law_world_here"] spRows)
    (G_w_handed : FnOk PG w K mg base CX0 5 T.f_w_handed T.fd_w_handed ["_law_rows_here"] (spHanded T.C_Form))
    (G_w_holds_right : FnOk PG w K mg base CX0 7 T.f_w_holds_right T.fd_w_holds_right ["_law_handed_here", "_law_rows_here", "_law_world_here"] (spHoldsR T.C_Form))
    (G_w_last : FnOk PG w K mg base CX0 3 T.f_w_last T.fd_w_last ["_law_pot_here", "_law_rows_here"] spLast)
    (G_w_closes_right : FnOk PG w K mg base CX0 5 T.f_w_closes_right T.fd_w_closes_right ["_law_handed_here", "_law_rows_here", "_law_weights"] (spClosesR T.C_Form))
    (G_w_changed : FnOk PG w K mg base CX0 2 T.f_w_changed T.fd_w_changed ["_law_pot_here", "_law_weights", "_law_way"] spChanged)
    (G_closes : FnOk PG w K mg base CX0 4 T.f_closes T.fd_closes ["rows", "weights"] (spCloses T.C_Form))
    (G_holds : FnOk PG w K mg base CX0 6 T.f_holds T.fd_holds ["rows", "world"] spHolds0) : FnOk PG w K mg base CX0 8 T.f_law T.fd_law ["_law_script"] (spLaw K) := by
  refine T.F_law.ok sc_law (fun vs H Q E h => ?_) (fun cdv A outer s H vs Q E hr h => ?_)
  · obtain ⟨a, ns, rfl, _⟩ := h; rfl
  · obtain ⟨sc, ns, rfl, hs, hn, qq⟩ := h
    refine ⟨_, (pss_cons (ps_set (i := 1) sc_law.nd rfl (Or.inl rfl) (pe_call G_w_pot (hr.mono (by decide)) rfl T.g_w_pot T.F_w_pot.kp T.b_w_pot .nil pass0 (pa_cons (pv 0) pa_nil)))
    (pss_cons (ps_set (i := 2) sc_law.nd rfl (Or.inl rfl) (pe_call G_w_pool (hr.mono (by decide)) rfl T.g_w_pool T.F_w_pool.kp T.b_w_pool .nil pass0 (pa_cons (pv 1) (pa_cons pe_int pa_nil))))
    (pss_cons (ps_set (i := 3) sc_law.nd rfl (Or.inl rfl) (pe_call G_w_world (hr.mono (by decide)) rfl T.g_w_world T.F_w_world.kp T.b_w_world .nil pass0 (pa_cons (pv 1) (pa_cons (pv 2) pa_nil))))
    (pss_cons (ps_set (i := 4) sc_law.nd rfl (Or.inl rfl) (pe_call G_w_rows (hr.mono (by decide)) rfl T.g_w_rows T.F_w_rows.kp T.b_w_rows .nil pass0 (pa_cons (pv 1) (pa_cons (pv 2) (pa_cons (pv 3) pa_nil)))))
    (pss_cons (ps_if (pt_not (pt_val (pe_call G_w_holds_right (hr.mono (by decide)) rfl T.g_w_holds_right T.F_w_holds_right.kp T.b_w_holds_right .nil pass0 (pa_cons (pe_call G_w_handed (hr.mono (by decide)) rfl T.g_w_handed T.F_w_handed.kp T.b_w_handed .nil pass0 (pa_cons (pv 4) pa_nil)) (pa_cons (pv 4) (pa_cons (pv 3) pa_nil))))))
    (pss_one (ps_ret pe_bl))
    pss_nil)
    (pss_cons (ps_for PassesOwn.never rfl (pi_list (pv 4)) (pg_name (i := 5) sc_law.nd rfl (Or.inl rfl))
    (pss_one (ps_if (pt_not (pt_val (pe_call G_w_holds_right (hr.mono (by decide)) rfl T.g_w_holds_right T.F_w_holds_right.kp T.b_w_holds_right .nil pass0 (pa_cons (pe_call G_w_handed (hr.mono (by decide)) rfl T.g_w_handed T.F_w_handed.kp T.b_w_handed .nil pass0 (pa_cons (pe_lst (pa_cons (pv 5) pa_nil)) pa_nil)) (pa_cons (pe_lst (pa_cons (pv 5) pa_nil)) (pa_cons (pv 3) pa_nil))))))
    (pss_one (ps_ret pe_bl))
    pss_nil)))
    (pss_cons (ps_set (i := 6) sc_law.nd rfl (Or.inl rfl) (pe_call G_w_last (hr.mono (by decide)) rfl T.g_w_last T.F_w_last.kp T.b_w_last .nil pass0 (pa_cons (pv 1) (pa_cons (pv 4) pa_nil))))
    (pss_cons (ps_set (i := 7) sc_law.nd rfl (Or.inl rfl) (pe_call G_w_take (hr.mono (by decide)) rfl T.g_w_take T.F_w_take.kp T.b_w_take .nil pass0 (pa_cons (pv 1) (pa_cons (pe_op op_add (pe_callB call_len_seq (by rfl) T.m_len PySem.boot_len (pa_cons (pv 4) pa_nil)) pe_int) pa_nil))))
    (pss_cons (ps_set (i := 8) sc_law.nd rfl (Or.inl rfl) (pe_op op_cat (pe_op op_cat (pe_slice sl_list (pe_ix ix_list (pv 6) pe_int (fun _ _ => rfl)) po_none (po_some (pv 7))) (pe_lst (pa_cons pe_int pa_nil))) (pe_slice sl_list (pe_ix ix_list (pv 6) pe_int (fun _ _ => rfl)) (po_some (pv 7)) po_none)))
    (pss_cons (ps_set (i := 4) sc_law.nd rfl (Or.inl rfl) (pe_op op_cat (pe_op op_cat (pe_slice sl_list (pv 4) po_none (po_some (pv 7))) (pe_lst (pa_cons (pe_ix ix_list (pv 6) pe_int (fun _ _ => rfl)) pa_nil))) (pe_slice sl_list (pv 4) (po_some (pv 7)) po_none)))
    (pss_cons (ps_set (i := 9) sc_law.nd rfl (Or.inl rfl) (pe_call G_w_handed (hr.mono (by decide)) rfl T.g_w_handed T.F_w_handed.kp T.b_w_handed .nil pass0 (pa_cons (pv 4) pa_nil)))
    (pss_cons (ps_if (PW.pt (pw_or (pt_not (pt_val (pe_call G_w_closes_right (hr.mono (by decide)) rfl T.g_w_closes_right T.F_w_closes_right.kp T.b_w_closes_right .nil pass0 (pa_cons (pv 9) (pa_cons (pv 4) (pa_cons (pv 8) pa_nil)))))) (pw_or1 (pt_not (pt_val (pe_call G_w_holds_right (hr.mono (by decide)) rfl T.g_w_holds_right T.F_w_holds_right.kp T.b_w_holds_right .nil pass0 (pa_cons (pv 9) (pa_cons (pv 4) (pa_cons (pv 3) pa_nil)))))))))
    (pss_one (ps_ret pe_bl))
    pss_nil)
    (pss_cons (ps_for PassesOwn.never rfl (pi_range1 rfl T.m_range (pa_cons pe_int pa_nil)) (pg_name (i := 10) sc_law.nd rfl (Or.inl rfl))
    (pss_one (ps_if (pt_not (pt_val (pe_call G_w_closes_right (hr.mono (by decide)) rfl T.g_w_closes_right T.F_w_closes_right.kp T.b_w_closes_right .nil pass0 (pa_cons (pv 9) (pa_cons (pv 4) (pa_cons (pe_call G_w_changed (hr.mono (by decide)) rfl T.g_w_changed T.F_w_changed.kp T.b_w_changed .nil pass0 (pa_cons (pv 1) (pa_cons (pv 8) (pa_cons (pv 10) pa_nil)))) pa_nil))))))
    (pss_one (ps_ret pe_bl))
    pss_nil)))
    (pss_cons (ps_if (PW.pt (pw_or (pt_val (pe_call G_closes (hr.mono (by decide)) rfl T.g_closes T.F_closes.kp T.b_closes .nil pass0 (pa_cons (pe_lst pa_nil) (pa_cons (pe_lst pa_nil) pa_nil)))) (pw_or (pt_val (pe_call G_closes (hr.mono (by decide)) rfl T.g_closes T.F_closes.kp T.b_closes .nil pass0 (pa_cons (pe_lst pa_nil) (pa_cons (pe_lst (pa_cons pe_int pa_nil)) pa_nil)))) (pw_or (pt_not (pt_val (pe_call G_holds (hr.mono (by decide)) rfl T.g_holds T.F_holds.kp T.b_holds .nil pass0 (pa_cons (pe_lst pa_nil) (pa_cons pe_dnewK pa_nil))))) (pw_or1 (pt_not (pt_val (pe_call G_holds (hr.mono (by decide)) rfl T.g_holds T.F_holds.kp T.b_holds .nil pass0 (pa_cons (pe_lst pa_nil) (pa_cons (pv 3) pa_nil))))))))))
    (pss_one (ps_ret pe_bl))
    pss_nil)
    (pss_cons (ps_for PassesOwn.never rfl (pi_list (pv 2)) (pg_name (i := 11) sc_law.nd rfl (Or.inl rfl))
    (pss_one (ps_if (pt_cmpR op_eq (pe_call G_w_take (hr.mono (by decide)) rfl T.g_w_take T.F_w_take.kp T.b_w_take .nil pass0 (pa_cons (pv 1) (pa_cons pe_int pa_nil))) pe_int (nomark _))
    (pss_one (ps_expr (pe_dpop1 (pv 3) (pv 11) ⟨rfl, rfl, rfl, rfl⟩)))
    pss_nil)))
    (pss_one (ps_ret (pe_call G_w_holds_right (hr.mono (by decide)) rfl T.g_w_holds_right T.F_w_holds_right.kp T.b_w_holds_right .nil pass0 (pa_cons (pv 9) (pa_cons (pv 4) (pa_cons (pv 3) pa_nil))))))))))))))))))))), ?_⟩
    walk_at "start"
    walk_at "sts"
    refine ⟨sc, ns, rfl, hs, hn, fun a H1 k1 na p1 => ?_⟩
    clear k1
    walk_at "sts"
    refine ⟨a, 4, rfl, p1, by omega, by omega, fun pl xs H2 x0 x4 hq hnd k2 p2 npl en => ?_⟩
    have n1 : pl ≠ a := p1.ne npl
    clear k2
    walk_at "sts"
    refine ⟨a, pl, xs, rfl, p2, en, by omega, hnd, fun m W H3 k3 p3 nm hw => ?_⟩
    have en3 : NamesAt H3 pl xs := k3 _ _ (by simpa using n1) en
    clear k3
    walk_at "sts"
    refine ⟨a, pl, m, xs, W, rfl, p3, en3, hw, x0, by omega, fun q rs H4 k4 p4 nq hl hr6 hok => ?_⟩
    have n2 : q ≠ a := p3.ne nq
    have c4 : CA a pl m q xs W rs n1 n2 H4 := ⟨p4, k4 _ _ (by simpa using n1) en3, hw.keep k4 p3.ml, hl⟩
    have h400 : ∀ r ∈ rs, ROk xs 400 r := fun r h => (hok r h).wk (by decide)
    have l4 : xs.length ≤ 4 := by omega
    clear k4 p1 p2 p3 p4 en en3 hw hl
    walk_at "sts"
    refine ⟨q, xs, rs, rfl, c4.hl, by omega, h400, hq, fun hd H5 k5 nh hh => ?_⟩
    have c5 := c4.k k5
    clear c4 k5
    walk_at "sts"
    refine ⟨hd, q, m, xs, xs, rs, W, rfl, hh, c5.hl, c5.hw, by omega, h400, l4, hq, fun H6 k6 => ?_⟩
    have c6 := c5.k k6
    clear c5 k6 hh
    walk_at "sts"
    obtain ⟨as, eq6, pr6⟩ := id c6.hl
    have has := pr6.len
    refine forL_go (fun i σ' H' => ∃ x : Option V, σ' = [some (.ref sc), some (.ref a), some (.ref pl), some (.ref m), some (.ref q), x, none, none, none, none, none, none] ∧ CA a pl m q xs W rs n1 n2 H' ∧ Keep [] H6 H') (sqL_of eq6) ⟨_, by first | exact rfl | trivial, c6, Keep.refl _ _⟩ (fun i σ' H' _ h => by obtain ⟨_, _, _, k⟩ := h; exact sqL_of (k _ _ (by simp) eq6)) ?_ ?_
    · rintro i v σ' H7 hv ⟨x, rfl, c7, k7⟩
      obtain ⟨b, hb, rfl⟩ := getRef hv
      obtain ⟨r, hr, ro⟩ := pr6.get hb
      have okr := h400 r (List.mem_of_getElem? hr)
      have ok1 : ∀ z ∈ [r], ROk xs 400 z := fun z hz => by rw [List.mem_singleton.mp hz]; exact okr
      walk_at "sts"
      intro l1 hl1
      have k8 : Keep [] H7 (upd H7 l1 (.lst [.ref b])) := Keep.new hl1
      have lr1 : LRows (upd H7 l1 (.lst [.ref b])) l1 [r] := ⟨[b], upd_same, ro.keep (k7.trans k8) (by simp), trivial⟩
      have c8 := c7.k k8
      generalize upd H7 l1 (.lst [.ref b]) = H8 at k8 lr1 c8 ⊢
      walk_at "sts"
      refine ⟨l1, xs, [r], rfl, lr1, by simp, ok1, hq, fun hd1 H9 k9 nh9 hh9 => ?_⟩
      walk_at "sts"
      intro l2 hl2
      have k10 : Keep [] H9 (upd H9 l2 (.lst [.ref b])) := Keep.new hl2
      have k710 := k8.trans (k9.trans k10)
      have lr2 : LRows (upd H9 l2 (.lst [.ref b])) l2 [r] := ⟨[b], upd_same, ro.keep (k7.trans k710) (by simp), trivial⟩
      have c10 := c7.k k710
      have hh10 := hh9.keep0 k10
      generalize upd H9 l2 (.lst [.ref b]) = H10 at k10 k710 lr2 c10 hh10 ⊢
      walk_at "sts"
      refine ⟨hd1, l2, m, xs, xs, [r], W, rfl, hh10, lr2, c10.hw, by simp, ok1, l4, hq, fun H11 k11 => ?_⟩
      walk_at "sts"
      exact ⟨_, by first | exact rfl | trivial, c10.k k11, k7.trans (k710.trans k11)⟩
    rintro σ' H7 ⟨x, rfl, c7, k7⟩
    clear c6 eq6 pr6 has k7
    walk_at "sts"
    refine ⟨a, q, xs, rs, rfl, c7.p, c7.hl, n2, hr6, hok, l4, fun lq wl t ws lr H8 k8 p8 nlq elq ewl nwl lws hws ht okl => ?_⟩
    have nlqa : lq ≠ a := c7.p.ne nlq
    have c8 := c7.a k8 p8
    clear c7 k8
    obtain ⟨as, eq8, pr8⟩ := id c8.hl
    have has := pr8.len
    walk_at "sts"
    refine r_take c8.p (by omega) (by simp only [List.length_map]; omega) fun n H9 a9 b9 k9 p9 => ?_
    obtain ⟨j, rfl⟩ : ∃ j : Nat, n = j := ⟨n.toNat, by omega⟩
    have hj : j ≤ rs.length := by simp only [List.length_map] at b9; omega
    have elq9 := k9 _ _ (by simpa using nlqa) elq
    have ewl9 := k9 _ _ (by simpa using nwl) ewl
    have ht9 := ht.keep k9 c8.p.ml
    have c9 := c8.a k9 p9
    have eq9 := k9 _ _ (by simpa using n2) eq8
    have pr9 := pr8.mono fun a x (r : RowOne H8 a x) => r.keep k9 c8.p.ml
    clear c8 k9 elq ewl ht p8 b9
    walk_at "sts"
    refine r_slL (sqL_of ewl9) fun s1 hs1 => ?_
    rw [cut_to]
    have k10 : Keep [] H9 (upd H9 s1 (.lst ((ws.map V.int).take j))) := Keep.new hs1
    have e10 : upd H9 s1 (.lst ((ws.map V.int).take j)) s1 = some (.lst ((ws.map V.int).take j)) := upd_same
    generalize upd H9 s1 (.lst ((ws.map V.int).take j)) = H10 at k10 e10 ⊢
    walk_at "sts"
    intro o1 ho1
    have k11 : Keep [] H10 (upd H10 o1 (.lst [.int 1])) := Keep.new ho1
    have eo1 : upd H10 o1 (.lst [.int 1]) o1 = some (.lst [.int 1]) := upd_same
    generalize upd H10 o1 (.lst [.int 1]) = H11 at k11 eo1 ⊢
    have es1 := k11 _ _ (by simp) e10
    refine r_cat es1 eo1 (le_size (by simp only [List.length_take, List.length_map, List.length_singleton]; omega)) fun p1 hp1 => ?_
    have k12 : Keep [] H11 (upd H11 p1 (.lst ((ws.map V.int).take j ++ [.int 1]))) := Keep.new hp1
    have ep1 : upd H11 p1 (.lst ((ws.map V.int).take j ++ [.int 1])) p1 = some (.lst ((ws.map V.int).take j ++ [.int 1])) := upd_same
    generalize upd H11 p1 (.lst ((ws.map V.int).take j ++ [.int 1])) = H12 at k12 ep1 ⊢
    have k92 := k10.trans (k11.trans k12)
    have elq12 := k92 _ _ (by simp) elq9
    have ewl12 := k92 _ _ (by simp) ewl9
    walk_at "sts"
    refine r_slL (sqL_of ewl12) fun s2 hs2 => ?_
    rw [cut_from]
    have k13 : Keep [] H12 (upd H12 s2 (.lst ((ws.map V.int).drop j))) := Keep.new hs2
    have e13 : upd H12 s2 (.lst ((ws.map V.int).drop j)) s2 = some (.lst ((ws.map V.int).drop j)) := upd_same
    generalize upd H12 s2 (.lst ((ws.map V.int).drop j)) = H13 at k13 e13 ⊢
    refine r_cat (k13 _ _ (by simp) ep1) e13 (le_size (by simp only [List.length_take, List.length_drop, List.length_map, List.length_append, List.length_singleton]; omega)) fun wq hwq => ?_
    rw [map_int3]
    have k14 : Keep [] H13 (upd H13 wq (.lst ((ws.take j ++ [1] ++ ws.drop j).map V.int))) := Keep.new hwq
    have ewq : upd H13 wq (.lst ((ws.take j ++ [1] ++ ws.drop j).map V.int)) wq = some (.lst ((ws.take j ++ [1] ++ ws.drop j).map V.int)) := upd_same
    generalize upd H13 wq (.lst ((ws.take j ++ [1] ++ ws.drop j).map V.int)) = H14 at k14 ewq ⊢
    have k94 := k92.trans (k13.trans k14)
    have n4 : wq ≠ a := (c9.p.keep0 (k92.trans k13)).ne hwq
    have elq14 := k94 _ _ (by simp) elq9
    have eq14 := k94 _ _ (by simp) eq9
    walk_at "sts"
    refine r_slL (sqL_of eq14) fun s3 hs3 => ?_
    rw [cut_to]
    have k15 : Keep [] H14 (upd H14 s3 (.lst ((as.map V.ref).take j))) := Keep.new hs3
    have e15 : upd H14 s3 (.lst ((as.map V.ref).take j)) s3 = some (.lst ((as.map V.ref).take j)) := upd_same
    generalize upd H14 s3 (.lst ((as.map V.ref).take j)) = H15 at k15 e15 ⊢
    have elq15 := k15 _ _ (by simp) elq14
    walk_at "sts"
    intro o2 ho2
    have k16 : Keep [] H15 (upd H15 o2 (.lst [.ref t])) := Keep.new ho2
    have eo2 : upd H15 o2 (.lst [.ref t]) o2 = some (.lst [.ref t]) := upd_same
    generalize upd H15 o2 (.lst [.ref t]) = H16 at k16 eo2 ⊢
    refine r_cat (k16 _ _ (by simp) e15) eo2 (le_size (by simp only [List.length_take, List.length_map, List.length_singleton]; omega)) fun p2 hp2 => ?_
    have k17 : Keep [] H16 (upd H16 p2 (.lst ((as.map V.ref).take j ++ [.ref t]))) := Keep.new hp2
    have ep2 : upd H16 p2 (.lst ((as.map V.ref).take j ++ [.ref t])) p2 = some (.lst ((as.map V.ref).take j ++ [.ref t])) := upd_same
    generalize upd H16 p2 (.lst ((as.map V.ref).take j ++ [.ref t])) = H17 at k17 ep2 ⊢
    have k97 := k94.trans (k15.trans (k16.trans k17))
    have eq17 := k97 _ _ (by simp) eq9
    walk_at "sts"
    refine r_slL (sqL_of eq17) fun s4 hs4 => ?_
    rw [cut_from]
    have k18 : Keep [] H17 (upd H17 s4 (.lst ((as.map V.ref).drop j))) := Keep.new hs4
    have e18 : upd H17 s4 (.lst ((as.map V.ref).drop j)) s4 = some (.lst ((as.map V.ref).drop j)) := upd_same
    generalize upd H17 s4 (.lst ((as.map V.ref).drop j)) = H18 at k18 e18 ⊢
    refine r_cat (k18 _ _ (by simp) ep2) e18 (le_size (by simp only [List.length_take, List.length_drop, List.length_map, List.length_append, List.length_singleton]; omega)) fun q2 hq2 => ?_
    rw [map_ref3]
    have k19 : Keep [] H18 (upd H18 q2 (.lst ((as.take j ++ [t] ++ as.drop j).map V.ref))) := Keep.new hq2
    have eq2 : upd H18 q2 (.lst ((as.take j ++ [t] ++ as.drop j).map V.ref)) q2 = some (.lst ((as.take j ++ [t] ++ as.drop j).map V.ref)) := upd_same
    generalize upd H18 q2 (.lst ((as.take j ++ [t] ++ as.drop j).map V.ref)) = H19 at k19 eq2 ⊢
    have k99 := k97.trans (k18.trans k19)
    have n5 : q2 ≠ a := (c9.p.keep0 (k97.trans k18)).ne hq2
    have c19 := c9.k k99
    have ewq19 := (k15.trans (k16.trans (k17.trans (k18.trans k19)))) _ _ (by simp) ewq
    have hl19 : LRows H19 q2 (rs.take j ++ [lr] ++ rs.drop j) := ⟨_, eq2, (((pr9.take j).app (bs := [t]) (ys := [lr]) ⟨ht9, trivial⟩).app (pr9.drop j)).mono fun a x r => RowOne.keep r k99 (by simp)⟩
    have l7 : (rs.take j ++ [lr] ++ rs.drop j).length ≤ 7 := by rw [len3 hj]; omega
    have lw7 : (ws.take j ++ [1] ++ ws.drop j).length = (rs.take j ++ [lr] ++ rs.drop j).length := by rw [len3 hj, len3 (by omega), lws]
    have ok7 : ∀ r ∈ rs.take j ++ [lr] ++ rs.drop j, ROk xs 400 r := fun r hr => by
      rcases in3 hr with h | rfl
      · exact h400 r h
      · exact okl.wk (by decide)
    have bw7 : ∀ x ∈ ws.take j ++ [1] ++ ws.drop j, x.natAbs ≤ 3 := fun x hx => by
      rcases in3 hx with h | rfl
      · exact hws x h
      · decide
    have l1 : 0 < (rs.take j ++ [lr] ++ rs.drop j).length := by rw [len3 hj]; omega
    generalize rs.take j ++ [lr] ++ rs.drop j = R at hl19 l7 ok7 lw7 l1
    generalize ws.take j ++ [1] ++ ws.drop j = Wt at ewq19 lw7 bw7
    clear k99 k97 k18 k19 k17 k16 k15 k94 k14 k13 k92 k12 k11 k10 eq2 e18 eq17 ep2 eo2 elq15 e15 eq14 elq14 ewq e13 ewl12 elq12 ep1 es1 eo1 e10 pr9 eq9 ht9 ewl9 elq9 hs1 ho1 hp1 hs2 hwq hs3 ho2 hp2 hs4 hq2
    walk_at "sts"
    refine ⟨q2, xs, R, rfl, hl19, l7, ok7, hq, fun hd2 H20 k20 nh2 hh2 => ?_⟩
    have n3 : hd2 ≠ a := c19.p.ne nh2
    have b20 : CB T.C_Form a pl m q2 hd2 wq xs xs W R Wt n1 n5 n3 n4 H20 := ⟨(c19.k k20).p, (c19.k k20).en, (c19.k k20).hw, hl19.keep0 k20, hh2, k20 _ _ (by simp) ewq19⟩
    clear c19 c9 hl19 hh2 ewq19 k20
    have lt60 : Wt.length ≤ 60 := by omega
    have b100 : ∀ x ∈ Wt, x.natAbs < 2 ^ 100 := fun x hx => Nat.lt_of_le_of_lt (bw7 x hx) (by decide)
    walk_at "sts"
    refine ⟨hd2, q2, wq, xs, R, Wt, rfl, b20.hh, b20.hl, b20.ew, l7, lt60, ok7, hq, l4, b100, fun H21 k21 => ?_⟩
    have b21 := b20.k k21
    clear b20 k21
    walk_at "sts"
    refine ⟨hd2, q2, m, xs, xs, R, W, rfl, b21.hh, b21.hl, b21.hw, l7, ok7, l4, hq, fun H22 k22 => ?_⟩
    have b22 := b21.k k22
    clear b21 k22
    walk_at "sts"
    refine forR1_go (fun i σ' H' => ∃ x1 : Option V, σ' = [some (.ref sc), some (.ref a), some (.ref pl), some (.ref m), some (.ref q2), x, some (.ref lq), some (.int j), some (.ref wq), some (.ref hd2), x1, none] ∧ CB T.C_Form a pl m q2 hd2 wq xs xs W R Wt n1 n5 n3 n4 H') (by omega) ⟨_, by first | exact rfl | trivial, b22⟩ ?_ ?_
    · rintro i σ' H23 hi ⟨x1, rfl, b23⟩
      walk_at "sts"
      refine ⟨a, wq, Wt, (i : Int), rfl, b23.p, n4, b23.ew, by omega, by omega, fun x hx => Nat.lt_of_le_of_lt (bw7 x hx) (by decide), by omega, by omega, fun r us H24 k24 p24 nr er lus bus => ?_⟩
      have b24 := b23.a k24 p24
      walk_at "sts"
      refine ⟨hd2, q2, r, xs, R, us, rfl, b24.hh, b24.hl, er, l7, lus, ok7, hq, l4, bus, fun H25 k25 => ?_⟩
      walk_at "sts"
      exact ⟨_, by first | exact rfl | trivial, b24.k k25⟩
    rintro σ' H23 ⟨x1, rfl, b23⟩
    clear b22
    walk_at "sts"
    intro f1 hf1
    have k24 : Keep [] H23 (upd H23 f1 (.lst [])) := Keep.new hf1
    have e24 : upd H23 f1 (.lst []) f1 = some (.lst []) := upd_same
    generalize upd H23 f1 (.lst []) = H24 at k24 e24 ⊢
    walk_at "sts"
    intro f2 hf2
    have k25 : Keep [] H24 (upd H24 f2 (.lst [])) := Keep.new hf2
    have e25 : upd H24 f2 (.lst []) f2 = some (.lst []) := upd_same
    have e24' := k25 _ _ (by simp) e24
    generalize upd H24 f2 (.lst []) = H25 at k25 e25 e24' ⊢
    walk_at "sts"
    refine ⟨f1, f2, [], [], [], rfl, ⟨[], e24', trivial⟩, e25, by simp, by simp, by simp, by simp, by simp, by simp, fun H26 k26 => ?_⟩
    rw [closed_nil.1]
    have b26 := b23.k (k24.trans (k25.trans k26))
    clear b23 k24 k25 k26 e24 e25 e24'
    walk_at "sts"
    intro f3 hf3
    have k24 : Keep [] H26 (upd H26 f3 (.lst [])) := Keep.new hf3
    have e24 : upd H26 f3 (.lst []) f3 = some (.lst []) := upd_same
    generalize upd H26 f3 (.lst []) = H27 at k24 e24 ⊢
    walk_at "sts"
    intro f4 hf4
    have k25 : Keep [] H27 (upd H27 f4 (.lst [.int 1])) := Keep.new hf4
    have e25 : upd H27 f4 (.lst [.int 1]) f4 = some (.lst [.int 1]) := upd_same
    have e24' := k25 _ _ (by simp) e24
    generalize upd H27 f4 (.lst [.int 1]) = H28 at k25 e25 e24' ⊢
    walk_at "sts"
    refine ⟨f3, f4, [], [], [1], rfl, ⟨[], e24', trivial⟩, e25, by simp, by simp, by simp, by simp, by simp, by simp, fun H29 k29 => ?_⟩
    rw [closed_nil.2]
    have b29 := b26.k (k24.trans (k25.trans k29))
    clear b26 k24 k25 k29 e24 e25 e24'
    walk_at "sts"
    intro f5 hf5
    have k24 : Keep [] H29 (upd H29 f5 (.lst [])) := Keep.new hf5
    have e24 : upd H29 f5 (.lst []) f5 = some (.lst []) := upd_same
    generalize upd H29 f5 (.lst []) = H30 at k24 e24 ⊢
    walk_at "sts"
    intro f6 hf6
    have k25 : Keep [] H30 (upd H30 f6 (.dK [])) := Keep.new hf6
    have e25 : upd H30 f6 (.dK []) f6 = some (.dK []) := upd_same
    have e24' := k25 _ _ (by simp) e24
    generalize upd H30 f6 (.dK []) = H31 at k25 e25 e24' ⊢
    walk_at "sts"
    refine ⟨f5, f6, [], rfl, e24', e25, fun H32 k32 => ?_⟩
    have b32 := b29.k (k24.trans (k25.trans k32))
    clear b29 k24 k25 k32 e24 e25 e24'
    walk_at "sts"
    intro f7 hf7
    have b33 := b32.k (Keep.new (o := .lst []) hf7)
    have e33 : upd H32 f7 (.lst []) f7 = some (.lst []) := upd_same
    clear b32
    generalize upd H32 f7 (.lst []) = H33 at b33 e33 ⊢
    walk_at "sts"
    obtain ⟨kv33, ew33, _⟩ := id b33.hw
    refine ⟨f7, m, kv33, rfl, e33, ew33, fun H34 k34 => ?_⟩
    have b34 := b33.k k34
    clear b33 k34 ew33 e33
    walk_at "sts"
    have en34 : H34 pl = some (.lst (xs.map V.str)) := b34.en
    refine forL_go (fun i σ' H' => ∃ (y1 : Option V) (ns' : List Str), σ' = [some (.ref sc), some (.ref a), some (.ref pl), some (.ref m), some (.ref q2), x, some (.ref lq), some (.int j), some (.ref wq), some (.ref hd2), x1, y1] ∧ CB T.C_Form a pl m q2 hd2 wq xs ns' W R Wt n1 n5 n3 n4 H' ∧ ∀ z ∈ xs.drop i, z ∈ ns') (sqL_of en34) ⟨_, xs, by first | exact rfl | trivial, b34, by simp⟩ (fun i σ' H' _ h => by obtain ⟨_, _, _, b, _⟩ := h; exact sqL_of b.en) ?_ ?_
    · rintro i v σ' H35 hv ⟨y1, ns', rfl, b35, hin⟩
      obtain ⟨z, hz, rfl⟩ := getStr hv
      have hi := (List.getElem?_eq_some_iff.mp hz).1
      have hd1 : xs.drop i = z :: xs.drop (i + 1) := by rw [List.drop_eq_getElem_cons hi]; congr 1; exact (List.getElem?_eq_some_iff.mp hz).2
      have zin : z ∈ ns' := hin z (by rw [hd1]; simp)
      have hin2 : ∀ y ∈ xs.drop (i + 1), y ∈ ns' := fun y hy => hin y (by rw [hd1]; simp [hy])
      have hzn : z ∉ xs.drop (i + 1) := fun h => by
        have : (xs.drop i).Nodup := hnd.sublist (List.drop_sublist i xs)
        rw [hd1, List.nodup_cons] at this
        exact this.1 h
      walk_at "sts"
      refine r_take b35.p (by omega) (by omega) fun n H36 a36 c36 k36 p36 => ?_
      have b36 := b35.a k36 p36
      walk_at "sts"
      refine r_ite (fun c1 => ?_) (fun c1 => ?_)
      · obtain ⟨kvs, em, hk, hnn, hlv⟩ := id b36.hw
        obtain ⟨⟨lv, vlv, _⟩, _⟩ := hlv z zin
        have b37 := b36.pop (z := z) em hk hnn hlv
        walk_at "sts"
        refine r_dpop ?_
        walk_at "sts"
        refine ⟨kvs, Sum.inr z, _, em, rfl, vlv, ?_⟩
        walk_at "sts"
        refine ⟨_, _, by first | exact rfl | trivial, b37, fun y hy => List.mem_filter.mpr ⟨hin2 y hy, decide_eq_true (by rintro rfl; exact hzn hy)⟩⟩
      · walk_at "sts"
        exact ⟨_, ns', by first | exact rfl | trivial, b36, hin2⟩
    rintro σ' H35 ⟨y1, ns', rfl, b35, _⟩
    walk_at "sts"
    refine ⟨hd2, q2, m, xs, ns', R, W, rfl, b35.hh, b35.hl, b35.hw, l7, ok7, l4, hq, fun H36 _ => ?_⟩
    walk_at "sts"
    exact qq _
end
/-! ### the end -/
theorem law_of {w : World} {K : PySem.W.Frag} {mg : Str → Option Value} {base : Heap} (T : Tx K mg) : FnOk PG w K mg base CX0 8 T.f_law T.fd_law ["_law_script"] (spLaw K) := by
  have gt := ok_take (w := w) (base := base) (P := PG) T
  have gn := ok_name T gt
  have gw := ok_weight T gt
  have glo := ok_lowest (w := w) (base := base) (P := PG) T
  have gi := ok_init T (ok_added T (ok_isQ (w := w) (base := base) (P := PG) T))
  have gr := ok_ratio (w := w) (base := base) (P := PG) T
  have gv := ok_val T (ok_need (w := w) (base := base) (P := PG) T) (ok_names (w := w) (base := base) (P := PG) T) (ok_plus T gr) (ok_times T gr)
  have gti := ok_tidy (w := w) (base := base) (P := PG) T
  have gwh := ok_whole (w := w) (base := base) (P := PG) T
  have gsg := ok_sign T gt
  have gva := ok_valL T glo
  have gsu := ok_sum T gti
  have gcd := ok_closed T (ok_let T gwh) gsu (ok_strict (w := w) (base := base) (P := PG) T)
  have gke := ok_kept T (ok_formIs T gwh)
  have gah := ok_allHold T (ok_lrow T gva)
  have gan := ok_allNames (w := w) (base := base) (P := PG) T
  have grh := ok_rowHolds (w := w) (base := base) (P := PG) T
  have gho := ok_holds T gan (ok_needX T) grh gv
  have gh0 := ok_holds0 T gan (ok_need (w := w) (base := base) (P := PG) T) grh gv
  have gcl := ok_closes T (ok_weighed (w := w) (base := base) (P := PG) T)
  exact ok_law T (ok_pot (w := w) (base := base) (P := PG) T) gt (ok_pool T gt gn) (ok_world T gt glo) (ok_rows T gt gw gti gva gsg) (ok_handed T gi) (ok_holdsR T (ok_quants (w := w) (base := base) (P := PG) T) gho gke gah)
    (ok_last T gt gw gti gsu gsg) (ok_closesR T gcl gke gcd) (ok_changed T gt) gcl gh0
theorem all_mk {w : World} {K : PySem.W.Frag} {h : Heap} {mg : Str → Option Value} {fa : Addr} (X : K.In h) (G : h.Ns mainGlobals mg) (hfa : mg "law" = some (.ref fa))
    {C_Form : Addr} {f0 : Addr} {od0 an0 : Option Addr} {sl0 : Array (Option Value)} {oc0 kV0 dc0 pm0 cd0 ct0 : Value} {T0 : Addr} {ocT0 : Value} {odT0 : Option Addr} {nT0 : Nat} {slT0 : Array (Option Value)} {tT0_0 : Tok} {f1 : Addr} {od1 an1 : Option Addr} {sl1 : Array (Option Value)} {oc1 kV1 dc1 pm1 cd1 ct1 : Value} {f2 : Addr} {od2 an2 : Option Addr} {sl2 : Array (Option Value)} {oc2 kV2 dc2 pm2 cd2 ct2 : Value} {f3 : Addr} {od3 an3 : Option Addr} {sl3 : Array (Option Value)} {oc3 kV3 dc3 pm3 cd3 ct3 : Value} {f4 : Addr} {od4 an4 : Option Addr} {sl4 : Array (Option Value)} {oc4 kV4 dc4 pm4 cd4 ct4 : Value} {f5 : Addr} {od5 an5 : Option Addr} {sl5 : Array (Option Value)} {oc5 kV5 dc5 pm5 cd5 ct5 : Value} {f6 : Addr} {od6 an6 : Option Addr} {sl6 : Array (Option Value)} {oc6 kV6 dc6 pm6 cd6 ct6 : Value} {eT7 : Addr} {f7 : Addr} {od7 an7 : Option Addr} {sl7 : Array (Option Value)} {oc7 kV7 dc7 pm7 cd7 ct7 : Value} {T7 : Addr} {ocT7 : Value} {odT7 : Option Addr} {nT7 : Nat} {slT7 : Array (Option Value)} {tT7_1 : Tok} {f8 : Addr} {od8 an8 : Option Addr} {sl8 : Array (Option Value)} {oc8 kV8 dc8 pm8 cd8 ct8 : Value} {f9 : Addr} {od9 an9 : Option Addr} {sl9 : Array (Option Value)} {oc9 kV9 dc9 pm9 cd9 ct9 : Value} {f10 : Addr} {od10 an10 : Option Addr} {sl10 : Array (Option Value)} {oc10 kV10 dc10 pm10 cd10 ct10 : Value} {f11 : Addr} {od11 an11 : Option Addr} {sl11 : Array (Option Value)} {oc11 kV11 dc11 pm11 cd11 ct11 : Value} {f12 : Addr} {od12 an12 : Option Addr} {sl12 : Array (Option Value)} {oc12 kV12 dc12 pm12 cd12 ct12 : Value} {f13 : Addr} {od13 an13 : Option Addr} {sl13 : Array (Option Value)} {oc13 kV13 dc13 pm13 cd13 ct13 : Value} {f14 : Addr} {od14 an14 : Option Addr} {sl14 : Array (Option Value)} {oc14 kV14 dc14 pm14 cd14 ct14 : Value} {f15 : Addr} {od15 an15 : Option Addr} {sl15 : Array (Option Value)} {oc15 kV15 dc15 pm15 cd15 ct15 : Value} {f16 : Addr} {od16 an16 : Option Addr} {sl16 : Array (Option Value)} {oc16 kV16 dc16 pm16 cd16 ct16 : Value} {f17 : Addr} {od17 an17 : Option Addr} {sl17 : Array (Option Value)} {oc17 kV17 dc17 pm17 cd17 ct17 : Value} {f18 : Addr} {od18 an18 : Option Addr} {sl18 : Array (Option Value)} {oc18 kV18 dc18 pm18 cd18 ct18 : Value} {f19 : Addr} {od19 an19 : Option Addr} {sl19 : Array (Option Value)} {oc19 kV19 dc19 pm19 cd19 ct19 : Value} {f20 : Addr} {od20 an20 : Option Addr} {sl20 : Array (Option Value)} {oc20 kV20 dc20 pm20 cd20 ct20 : Value} {f21 : Addr} {od21 an21 : Option Addr} {sl21 : Array (Option Value)} {oc21 kV21 dc21 pm21 cd21 ct21 : Value} {f22 : Addr} {od22 an22 : Option Addr} {sl22 : Array (Option Value)} {oc22 kV22 dc22 pm22 cd22 ct22 : Value} {f23 : Addr} {od23 an23 : Option Addr} {sl23 : Array (Option Value)} {oc23 kV23 dc23 pm23 cd23 ct23 : Value} {f24 : Addr} {od24 an24 : Option Addr} {sl24 : Array (Option Value)} {oc24 kV24 dc24 pm24 cd24 ct24 : Value} {f25 : Addr} {od25 an25 : Option Addr} {sl25 : Array (Option Value)} {oc25 kV25 dc25 pm25 cd25 ct25 : Value} {f26 : Addr} {od26 an26 : Option Addr} {sl26 : Array (Option Value)} {oc26 kV26 dc26 pm26 cd26 ct26 : Value} {f27 : Addr} {od27 an27 : Option Addr} {sl27 : Array (Option Value)} {oc27 kV27 dc27 pm27 cd27 ct27 : Value} {f28 : Addr} {od28 an28 : Option Addr} {sl28 : Array (Option Value)} {oc28 kV28 dc28 pm28 cd28 ct28 : Value} {f29 : Addr} {od29 an29 : Option Addr} {sl29 : Array (Option Value)} {oc29 kV29 dc29 pm29 cd29 ct29 : Value} {f30 : Addr} {od30 an30 : Option Addr} {sl30 : Array (Option Value)} {oc30 kV30 dc30 pm30 cd30 ct30 : Value} {f31 : Addr} {od31 an31 : Option Addr} {sl31 : Array (Option Value)} {oc31 kV31 dc31 pm31 cd31 ct31 : Value} {f32 : Addr} {od32 an32 : Option Addr} {sl32 : Array (Option Value)} {oc32 kV32 dc32 pm32 cd32 ct32 : Value} {f33 : Addr} {od33 an33 : Option Addr} {sl33 : Array (Option Value)} {oc33 kV33 dc33 pm33 cd33 ct33 : Value} {f34 : Addr} {od34 an34 : Option Addr} {sl34 : Array (Option Value)} {oc34 kV34 dc34 pm34 cd34 ct34 : Value} {f35 : Addr} {od35 an35 : Option Addr} {sl35 : Array (Option Value)} {oc35 kV35 dc35 pm35 cd35 ct35 : Value} {f36 : Addr} {od36 an36 : Option Addr} {sl36 : Array (Option Value)} {oc36 kV36 dc36 pm36 cd36 ct36 : Value} {f37 : Addr} {od37 an37 : Option Addr} {sl37 : Array (Option Value)} {oc37 kV37 dc37 pm37 cd37 ct37 : Value} {f38 : Addr} {od38 an38 : Option Addr} {sl38 : Array (Option Value)} {oc38 kV38 dc38 pm38 cd38 ct38 : Value} {f39 : Addr} {od39 an39 : Option Addr} {sl39 : Array (Option Value)} {oc39 kV39 dc39 pm39 cd39 ct39 : Value} {f40 : Addr} {od40 an40 : Option Addr} {sl40 : Array (Option Value)} {oc40 kV40 dc40 pm40 cd40 ct40 : Value} {tc18 : Tok} {tc19 : Tok} {tc20 : Tok} {C_NoQuantity : Addr} {C_MeteError : Addr} {fE0 NE0 ccE0 cdaE0 : Addr} {nmE0 qE0 : Str} {bsE0 bmE0 : List Value} {snE0 : List Str} {subE0 : List Value} {abE0 : Bool} {colE0 : Option Bool} {ddE0 : Option Addr} {m0E0 m1E0 m2E0 m3E0 m5E0 : Option Value} {ocE0 docE0 pmE0 ctE0 clE0 cclE0 : Value} {odE0 anE0 cldE0 cddE0 : Option Addr} {oslE0 cslE0 ccsE0 : Array (Option Value)} {vsE0 : Array Value} {tfE0 : Tok}
    (o0g : PySem.W.nsIn K mainGlobals "Form" = some (some (.ref C_Form)))
    (a0 : PySem.W.nsIn K mainGlobals "ratio" = some (some (.ref f0)))
    (l0 : K.lookup f0 = some ⟨oc0, od0, .func (PySem.W.fnOf "ratio" "ratio" (defArgs s_ratio) (defBody s_ratio) (defScope s_ratio) (.ref T0) kV0 dc0 pm0 an0 cd0 ct0), sl0⟩)
    (c0 : PySem.W.codeIn K cd0 "ratio" = true)
    (k0 : PySem.W.keepIn K (.ref f0) = true)
    (d0 : K.lookup T0 = some ⟨ocT0, odT0, .seq #[.int (1) tT0_0] nT0, slT0⟩)
    (a1 : PySem.W.nsIn K mainGlobals "plus" = some (some (.ref f1)))
    (l1 : K.lookup f1 = some ⟨oc1, od1, .func (PySem.W.fnOf "plus" "plus" (defArgs s_plus) (defBody s_plus) (defScope s_plus) .none kV1 dc1 pm1 an1 cd1 ct1), sl1⟩)
    (c1 : PySem.W.codeIn K cd1 "plus" = true)
    (k1 : PySem.W.keepIn K (.ref f1) = true)
    (a2 : PySem.W.nsIn K mainGlobals "times" = some (some (.ref f2)))
    (l2 : K.lookup f2 = some ⟨oc2, od2, .func (PySem.W.fnOf "times" "times" (defArgs s_times) (defBody s_times) (defScope s_times) .none kV2 dc2 pm2 an2 cd2 ct2), sl2⟩)
    (c2 : PySem.W.codeIn K cd2 "times" = true)
    (k2 : PySem.W.keepIn K (.ref f2) = true)
    (a3 : PySem.W.nsIn K mainGlobals "is_quantity" = some (some (.ref f3)))
    (l3 : K.lookup f3 = some ⟨oc3, od3, .func (PySem.W.fnOf "is_quantity" "is_quantity" (defArgs s_is_quantity) (defBody s_is_quantity) (defScope s_is_quantity) .none kV3 dc3 pm3 an3 cd3 ct3), sl3⟩)
    (c3 : PySem.W.codeIn K cd3 "is_quantity" = true)
    (k3 : PySem.W.keepIn K (.ref f3) = true)
    (a4 : PySem.W.nsIn K mainGlobals "all_names" = some (some (.ref f4)))
    (l4 : K.lookup f4 = some ⟨oc4, od4, .func (PySem.W.fnOf "all_names" "all_names" (defArgs s_all_names) (defBody s_all_names) (defScope s_all_names) .none kV4 dc4 pm4 an4 cd4 ct4), sl4⟩)
    (c4 : PySem.W.codeIn K cd4 "all_names" = true)
    (k4 : PySem.W.keepIn K (.ref f4) = true)
    (a5 : PySem.W.nsIn K mainGlobals "need_levels" = some (some (.ref f5)))
    (l5 : K.lookup f5 = some ⟨oc5, od5, .func (PySem.W.fnOf "need_levels" "need_levels" (defArgs s_need_levels) (defBody s_need_levels) (defScope s_need_levels) .none kV5 dc5 pm5 an5 cd5 ct5), sl5⟩)
    (c5 : PySem.W.codeIn K cd5 "need_levels" = true)
    (k5 : PySem.W.keepIn K (.ref f5) = true)
    (a6 : PySem.W.nsIn K mainGlobals "added_terms" = some (some (.ref f6)))
    (l6 : K.lookup f6 = some ⟨oc6, od6, .func (PySem.W.fnOf "added_terms" "added_terms" (defArgs s_added_terms) (defBody s_added_terms) (defScope s_added_terms) .none kV6 dc6 pm6 an6 cd6 ct6), sl6⟩)
    (c6 : PySem.W.codeIn K cd6 "added_terms" = true)
    (k6 : PySem.W.keepIn K (.ref f6) = true)
    (a7 : PySem.W.findIn K (.ref C_Form) "__init__" = some (some (.ref f7)))
    (l7 : K.lookup f7 = some ⟨oc7, od7, .func (PySem.W.fnOf "__init__" "Form.__init__" (defArgs s_Form___init) (defBody s_Form___init) (defScope s_Form___init) (.ref T7) kV7 dc7 pm7 an7 cd7 ct7), sl7⟩)
    (c7 : PySem.W.codeIn K cd7 "Form.__init__" = true)
    (k7 : PySem.W.keepIn K (.ref f7) = true)
    (d7 : K.lookup T7 = some ⟨ocT7, odT7, .seq #[.ref eT7, .int (0) tT7_1] nT7, slT7⟩)
    (a8 : PySem.W.findIn K (.ref C_Form) "names" = some (some (.ref f8)))
    (l8 : K.lookup f8 = some ⟨oc8, od8, .func (PySem.W.fnOf "names" "Form.names" (defArgs s_Form_names) (defBody s_Form_names) (defScope s_Form_names) .none kV8 dc8 pm8 an8 cd8 ct8), sl8⟩)
    (c8 : PySem.W.codeIn K cd8 "Form.names" = true)
    (k8 : PySem.W.keepIn K (.ref f8) = true)
    (a9 : PySem.W.findIn K (.ref C_Form) "__call__" = some (some (.ref f9)))
    (l9 : K.lookup f9 = some ⟨oc9, od9, .func (PySem.W.fnOf "__call__" "Form.__call__" (defArgs s_Form___call) (defBody s_Form___call) (defScope s_Form___call) .none kV9 dc9 pm9 an9 cd9 ct9), sl9⟩)
    (c9 : PySem.W.codeIn K cd9 "Form.__call__" = true)
    (k9 : PySem.W.keepIn K (.ref f9) = true)
    (a10 : PySem.W.nsIn K mainGlobals "row_holds" = some (some (.ref f10)))
    (l10 : K.lookup f10 = some ⟨oc10, od10, .func (PySem.W.fnOf "row_holds" "row_holds" (defArgs s_row_holds) (defBody s_row_holds) (defScope s_row_holds) .none kV10 dc10 pm10 an10 cd10 ct10), sl10⟩)
    (c10 : PySem.W.codeIn K cd10 "row_holds" = true)
    (k10 : PySem.W.keepIn K (.ref f10) = true)
    (a11 : PySem.W.nsIn K mainGlobals "holds" = some (some (.ref f11)))
    (l11 : K.lookup f11 = some ⟨oc11, od11, .func (PySem.W.fnOf "holds" "holds" (defArgs s_holds) (defBody s_holds) (defScope s_holds) .none kV11 dc11 pm11 an11 cd11 ct11), sl11⟩)
    (c11 : PySem.W.codeIn K cd11 "holds" = true)
    (k11 : PySem.W.keepIn K (.ref f11) = true)
    (a12 : PySem.W.nsIn K mainGlobals "weighed" = some (some (.ref f12)))
    (l12 : K.lookup f12 = some ⟨oc12, od12, .func (PySem.W.fnOf "weighed" "weighed" (defArgs s_weighed) (defBody s_weighed) (defScope s_weighed) .none kV12 dc12 pm12 an12 cd12 ct12), sl12⟩)
    (c12 : PySem.W.codeIn K cd12 "weighed" = true)
    (k12 : PySem.W.keepIn K (.ref f12) = true)
    (a13 : PySem.W.nsIn K mainGlobals "closes" = some (some (.ref f13)))
    (l13 : K.lookup f13 = some ⟨oc13, od13, .func (PySem.W.fnOf "closes" "closes" (defArgs s_closes) (defBody s_closes) (defScope s_closes) .none kV13 dc13 pm13 an13 cd13 ct13), sl13⟩)
    (c13 : PySem.W.codeIn K cd13 "closes" = true)
    (k13 : PySem.W.keepIn K (.ref f13) = true)
    (a14 : PySem.W.nsIn K mainGlobals "_law_pot" = some (some (.ref f14)))
    (l14 : K.lookup f14 = some ⟨oc14, od14, .func (PySem.W.fnOf "_law_pot" "_law_pot" (defArgs s_w_pot) (defBody s_w_pot) (defScope s_w_pot) .none kV14 dc14 pm14 an14 cd14 ct14), sl14⟩)
    (c14 : PySem.W.codeIn K cd14 "_law_pot" = true)
    (k14 : PySem.W.keepIn K (.ref f14) = true)
    (a15 : PySem.W.nsIn K mainGlobals "_law_take" = some (some (.ref f15)))
    (l15 : K.lookup f15 = some ⟨oc15, od15, .func (PySem.W.fnOf "_law_take" "_law_take" (defArgs s_w_take) (defBody s_w_take) (defScope s_w_take) .none kV15 dc15 pm15 an15 cd15 ct15), sl15⟩)
    (c15 : PySem.W.codeIn K cd15 "_law_take" = true)
    (k15 : PySem.W.keepIn K (.ref f15) = true)
    (a16 : PySem.W.nsIn K mainGlobals "_law_whole" = some (some (.ref f16)))
    (l16 : K.lookup f16 = some ⟨oc16, od16, .func (PySem.W.fnOf "_law_whole" "_law_whole" (defArgs s_w_whole) (defBody s_w_whole) (defScope s_w_whole) .none kV16 dc16 pm16 an16 cd16 ct16), sl16⟩)
    (c16 : PySem.W.codeIn K cd16 "_law_whole" = true)
    (k16 : PySem.W.keepIn K (.ref f16) = true)
    (a17 : PySem.W.nsIn K mainGlobals "_law_quantity" = some (some (.ref f17)))
    (l17 : K.lookup f17 = some ⟨oc17, od17, .func (PySem.W.fnOf "_law_quantity" "_law_quantity" (defArgs s_w_quantity) (defBody s_w_quantity) (defScope s_w_quantity) .none kV17 dc17 pm17 an17 cd17 ct17), sl17⟩)
    (c17 : PySem.W.codeIn K cd17 "_law_quantity" = true)
    (k17 : PySem.W.keepIn K (.ref f17) = true)
    (a18 : PySem.W.nsIn K mainGlobals "_law_pool" = some (some (.ref f18)))
    (l18 : K.lookup f18 = some ⟨oc18, od18, .func (PySem.W.fnOf "_law_pool" "_law_pool" (defArgs s_w_pool) (defBody s_w_pool) (defScope s_w_pool) .none kV18 dc18 pm18 an18 cd18 ct18), sl18⟩)
    (c18 : PySem.W.codeIn K cd18 "_law_pool" = true)
    (k18 : PySem.W.keepIn K (.ref f18) = true)
    (a19 : PySem.W.nsIn K mainGlobals "_law_weight" = some (some (.ref f19)))
    (l19 : K.lookup f19 = some ⟨oc19, od19, .func (PySem.W.fnOf "_law_weight" "_law_weight" (defArgs s_w_weight) (defBody s_w_weight) (defScope s_w_weight) .none kV19 dc19 pm19 an19 cd19 ct19), sl19⟩)
    (c19 : PySem.W.codeIn K cd19 "_law_weight" = true)
    (k19 : PySem.W.keepIn K (.ref f19) = true)
    (a20 : PySem.W.nsIn K mainGlobals "_law_sign" = some (some (.ref f20)))
    (l20 : K.lookup f20 = some ⟨oc20, od20, .func (PySem.W.fnOf "_law_sign" "_law_sign" (defArgs s_w_sign) (defBody s_w_sign) (defScope s_w_sign) .none kV20 dc20 pm20 an20 cd20 ct20), sl20⟩)
    (c20 : PySem.W.codeIn K cd20 "_law_sign" = true)
    (k20 : PySem.W.keepIn K (.ref f20) = true)
    (a21 : PySem.W.nsIn K mainGlobals "_law_tidy" = some (some (.ref f21)))
    (l21 : K.lookup f21 = some ⟨oc21, od21, .func (PySem.W.fnOf "_law_tidy" "_law_tidy" (defArgs s_w_tidy) (defBody s_w_tidy) (defScope s_w_tidy) .none kV21 dc21 pm21 an21 cd21 ct21), sl21⟩)
    (c21 : PySem.W.codeIn K cd21 "_law_tidy" = true)
    (k21 : PySem.W.keepIn K (.ref f21) = true)
    (a22 : PySem.W.nsIn K mainGlobals "_law_form_is" = some (some (.ref f22)))
    (l22 : K.lookup f22 = some ⟨oc22, od22, .func (PySem.W.fnOf "_law_form_is" "_law_form_is" (defArgs s_w_form_is) (defBody s_w_form_is) (defScope s_w_form_is) .none kV22 dc22 pm22 an22 cd22 ct22), sl22⟩)
    (c22 : PySem.W.codeIn K cd22 "_law_form_is" = true)
    (k22 : PySem.W.keepIn K (.ref f22) = true)
    (a23 : PySem.W.nsIn K mainGlobals "_law_lowest" = some (some (.ref f23)))
    (l23 : K.lookup f23 = some ⟨oc23, od23, .func (PySem.W.fnOf "_law_lowest" "_law_lowest" (defArgs s_w_lowest) (defBody s_w_lowest) (defScope s_w_lowest) .none kV23 dc23 pm23 an23 cd23 ct23), sl23⟩)
    (c23 : PySem.W.codeIn K cd23 "_law_lowest" = true)
    (k23 : PySem.W.keepIn K (.ref f23) = true)
    (a24 : PySem.W.nsIn K mainGlobals "_law_value" = some (some (.ref f24)))
    (l24 : K.lookup f24 = some ⟨oc24, od24, .func (PySem.W.fnOf "_law_value" "_law_value" (defArgs s_w_value) (defBody s_w_value) (defScope s_w_value) .none kV24 dc24 pm24 an24 cd24 ct24), sl24⟩)
    (c24 : PySem.W.codeIn K cd24 "_law_value" = true)
    (k24 : PySem.W.keepIn K (.ref f24) = true)
    (a25 : PySem.W.nsIn K mainGlobals "_law_world" = some (some (.ref f25)))
    (l25 : K.lookup f25 = some ⟨oc25, od25, .func (PySem.W.fnOf "_law_world" "_law_world" (defArgs s_w_world) (defBody s_w_world) (defScope s_w_world) .none kV25 dc25 pm25 an25 cd25 ct25), sl25⟩)
    (c25 : PySem.W.codeIn K cd25 "_law_world" = true)
    (k25 : PySem.W.keepIn K (.ref f25) = true)
    (a26 : PySem.W.nsIn K mainGlobals "_law_rows" = some (some (.ref f26)))
    (l26 : K.lookup f26 = some ⟨oc26, od26, .func (PySem.W.fnOf "_law_rows" "_law_rows" (defArgs s_w_rows) (defBody s_w_rows) (defScope s_w_rows) .none kV26 dc26 pm26 an26 cd26 ct26), sl26⟩)
    (c26 : PySem.W.codeIn K cd26 "_law_rows" = true)
    (k26 : PySem.W.keepIn K (.ref f26) = true)
    (a27 : PySem.W.nsIn K mainGlobals "_law_sum" = some (some (.ref f27)))
    (l27 : K.lookup f27 = some ⟨oc27, od27, .func (PySem.W.fnOf "_law_sum" "_law_sum" (defArgs s_w_sum) (defBody s_w_sum) (defScope s_w_sum) .none kV27 dc27 pm27 an27 cd27 ct27), sl27⟩)
    (c27 : PySem.W.codeIn K cd27 "_law_sum" = true)
    (k27 : PySem.W.keepIn K (.ref f27) = true)
    (a28 : PySem.W.nsIn K mainGlobals "_law_weights_let" = some (some (.ref f28)))
    (l28 : K.lookup f28 = some ⟨oc28, od28, .func (PySem.W.fnOf "_law_weights_let" "_law_weights_let" (defArgs s_w_weights_let) (defBody s_w_weights_let) (defScope s_w_weights_let) .none kV28 dc28 pm28 an28 cd28 ct28), sl28⟩)
    (c28 : PySem.W.codeIn K cd28 "_law_weights_let" = true)
    (k28 : PySem.W.keepIn K (.ref f28) = true)
    (a29 : PySem.W.nsIn K mainGlobals "_law_strict" = some (some (.ref f29)))
    (l29 : K.lookup f29 = some ⟨oc29, od29, .func (PySem.W.fnOf "_law_strict" "_law_strict" (defArgs s_w_strict) (defBody s_w_strict) (defScope s_w_strict) .none kV29 dc29 pm29 an29 cd29 ct29), sl29⟩)
    (c29 : PySem.W.codeIn K cd29 "_law_strict" = true)
    (k29 : PySem.W.keepIn K (.ref f29) = true)
    (a30 : PySem.W.nsIn K mainGlobals "_law_closed" = some (some (.ref f30)))
    (l30 : K.lookup f30 = some ⟨oc30, od30, .func (PySem.W.fnOf "_law_closed" "_law_closed" (defArgs s_w_closed) (defBody s_w_closed) (defScope s_w_closed) .none kV30 dc30 pm30 an30 cd30 ct30), sl30⟩)
    (c30 : PySem.W.codeIn K cd30 "_law_closed" = true)
    (k30 : PySem.W.keepIn K (.ref f30) = true)
    (a31 : PySem.W.nsIn K mainGlobals "_law_row_holds" = some (some (.ref f31)))
    (l31 : K.lookup f31 = some ⟨oc31, od31, .func (PySem.W.fnOf "_law_row_holds" "_law_row_holds" (defArgs s_w_row_holds) (defBody s_w_row_holds) (defScope s_w_row_holds) .none kV31 dc31 pm31 an31 cd31 ct31), sl31⟩)
    (c31 : PySem.W.codeIn K cd31 "_law_row_holds" = true)
    (k31 : PySem.W.keepIn K (.ref f31) = true)
    (a32 : PySem.W.nsIn K mainGlobals "_law_all_hold" = some (some (.ref f32)))
    (l32 : K.lookup f32 = some ⟨oc32, od32, .func (PySem.W.fnOf "_law_all_hold" "_law_all_hold" (defArgs s_w_all_hold) (defBody s_w_all_hold) (defScope s_w_all_hold) .none kV32 dc32 pm32 an32 cd32 ct32), sl32⟩)
    (c32 : PySem.W.codeIn K cd32 "_law_all_hold" = true)
    (k32 : PySem.W.keepIn K (.ref f32) = true)
    (a33 : PySem.W.nsIn K mainGlobals "_law_handed" = some (some (.ref f33)))
    (l33 : K.lookup f33 = some ⟨oc33, od33, .func (PySem.W.fnOf "_law_handed" "_law_handed" (defArgs s_w_handed) (defBody s_w_handed) (defScope s_w_handed) .none kV33 dc33 pm33 an33 cd33 ct33), sl33⟩)
    (c33 : PySem.W.codeIn K cd33 "_law_handed" = true)
    (k33 : PySem.W.keepIn K (.ref f33) = true)
    (a34 : PySem.W.nsIn K mainGlobals "_law_kept" = some (some (.ref f34)))
    (l34 : K.lookup f34 = some ⟨oc34, od34, .func (PySem.W.fnOf "_law_kept" "_law_kept" (defArgs s_w_kept) (defBody s_w_kept) (defScope s_w_kept) .none kV34 dc34 pm34 an34 cd34 ct34), sl34⟩)
    (c34 : PySem.W.codeIn K cd34 "_law_kept" = true)
    (k34 : PySem.W.keepIn K (.ref f34) = true)
    (a35 : PySem.W.nsIn K mainGlobals "_law_quantities" = some (some (.ref f35)))
    (l35 : K.lookup f35 = some ⟨oc35, od35, .func (PySem.W.fnOf "_law_quantities" "_law_quantities" (defArgs s_w_quantities) (defBody s_w_quantities) (defScope s_w_quantities) .none kV35 dc35 pm35 an35 cd35 ct35), sl35⟩)
    (c35 : PySem.W.codeIn K cd35 "_law_quantities" = true)
    (k35 : PySem.W.keepIn K (.ref f35) = true)
    (a36 : PySem.W.nsIn K mainGlobals "_law_last" = some (some (.ref f36)))
    (l36 : K.lookup f36 = some ⟨oc36, od36, .func (PySem.W.fnOf "_law_last" "_law_last" (defArgs s_w_last) (defBody s_w_last) (defScope s_w_last) .none kV36 dc36 pm36 an36 cd36 ct36), sl36⟩)
    (c36 : PySem.W.codeIn K cd36 "_law_last" = true)
    (k36 : PySem.W.keepIn K (.ref f36) = true)
    (a37 : PySem.W.nsIn K mainGlobals "_law_changed" = some (some (.ref f37)))
    (l37 : K.lookup f37 = some ⟨oc37, od37, .func (PySem.W.fnOf "_law_changed" "_law_changed" (defArgs s_w_changed) (defBody s_w_changed) (defScope s_w_changed) .none kV37 dc37 pm37 an37 cd37 ct37), sl37⟩)
    (c37 : PySem.W.codeIn K cd37 "_law_changed" = true)
    (k37 : PySem.W.keepIn K (.ref f37) = true)
    (a38 : PySem.W.nsIn K mainGlobals "_law_closes_right" = some (some (.ref f38)))
    (l38 : K.lookup f38 = some ⟨oc38, od38, .func (PySem.W.fnOf "_law_closes_right" "_law_closes_right" (defArgs s_w_closes_right) (defBody s_w_closes_right) (defScope s_w_closes_right) .none kV38 dc38 pm38 an38 cd38 ct38), sl38⟩)
    (c38 : PySem.W.codeIn K cd38 "_law_closes_right" = true)
    (k38 : PySem.W.keepIn K (.ref f38) = true)
    (a39 : PySem.W.nsIn K mainGlobals "_law_holds_right" = some (some (.ref f39)))
    (l39 : K.lookup f39 = some ⟨oc39, od39, .func (PySem.W.fnOf "_law_holds_right" "_law_holds_right" (defArgs s_w_holds_right) (defBody s_w_holds_right) (defScope s_w_holds_right) .none kV39 dc39 pm39 an39 cd39 ct39), sl39⟩)
    (c39 : PySem.W.codeIn K cd39 "_law_holds_right" = true)
    (k39 : PySem.W.keepIn K (.ref f39) = true)
    (a40 : PySem.W.nsIn K mainGlobals "law" = some (some (.ref f40)))
    (l40 : K.lookup f40 = some ⟨oc40, od40, .func (PySem.W.fnOf "law" "law" (defArgs s_law) (defBody s_law) (defScope s_law) .none kV40 dc40 pm40 an40 cd40 ct40), sl40⟩)
    (c40 : PySem.W.codeIn K cd40 "law" = true)
    (k40 : PySem.W.keepIn K (.ref f40) = true)
    (z0 : PySem.W.nsIn K mainGlobals "len" = some none)
    (z1 : PySem.W.nsIn K mainGlobals "range" = some none)
    (z2 : PySem.W.nsIn K mainGlobals "isinstance" = some none)
    (z3 : PySem.W.nsIn K mainGlobals "int" = some none)
    (z4 : PySem.W.nsIn K mainGlobals "bool" = some none)
    (z5 : PySem.W.nsIn K mainGlobals "str" = some none)
    (z6 : PySem.W.nsIn K mainGlobals "list" = some none)
    (z7 : PySem.W.nsIn K mainGlobals "tuple" = some none)
    (z8 : PySem.W.nsIn K mainGlobals "dict" = some none)
    (z9 : PySem.W.nsIn K mainGlobals "abs" = some none)
    (z10 : PySem.W.nsIn K mainGlobals "sum" = some none)
    (z11 : PySem.W.nsIn K mainGlobals "sorted" = some none)
    (z12 : PySem.W.nsIn K mainGlobals "zip" = some none)
    (z13 : PySem.W.nsIn K mainGlobals "any" = some none)
    (z14 : PySem.W.nsIn K mainGlobals "all" = some none)
    (z15 : PySem.W.nsIn K mainGlobals "ZeroDivisionError" = some none)
    (z16 : PySem.W.nsIn K mainGlobals "ValueError" = some none)
    (z17 : PySem.W.nsIn K mainGlobals "gcd" = some (some (.builtin "math.gcd")))
    (o0a : PySem.W.plainGet K C_Form Str.empty = true)
    (o0b : PySem.W.hasDictIn K C_Form = true)
    (o0c : PySem.W.plainOver K C_Form = true)
    (o0d : PySem.W.findIn K (.ref C_Form) "__setattr__" = some (some (.builtin "object.__setattr__")))
    (o0e : PySem.W.selfFirst K C_Form = true)
    (o0f : PySem.W.findIn K (.ref C_Form) "__class__" = some (some (.builtin "object.__class__")))
    (o0h : PySem.W.specialIn K (.builtin "object.__class__") "__get__" = some (some (.builtin "getset_descriptor.__get__")))
    (o0i : PySem.W.takesIn K (.builtin "object.__class__") = some true)
    (o0j : PySem.W.mroIn K C_Form (.type "object") = some true)
    (o0n0 : PySem.W.findIn K (.ref C_Form) "terms" = some none)
    (o0n1 : PySem.W.findIn K (.ref C_Form) "constant" = some none)
    (o0k : PySem.W.makesIn K C_Form = true)
    (o0l : PySem.W.keepIn K (.ref C_Form) = true)
    (fn7 : PySem.W.isFn K (.ref f7) = true)
    (fn8 : PySem.W.isFn K (.ref f8) = true)
    (fn9 : PySem.W.isFn K (.ref f9) = true)
    (fi9 : PySem.W.fnIn K f9 = true)
    (o0s : PySem.W.subIn K (.ref C_Form) (.type "int") = some false)
    (o0t : PySem.W.subIn K (.type "int") (.ref C_Form) = some false)
    (z18 : PySem.W.nsIn K mainGlobals "LETTERS" = some (some (.str "abcdefghijklmnopqrstuvwxyz" tc18)))
    (z19 : PySem.W.nsIn K mainGlobals "QUANTITY_SIGNS" = some (some (.str "abcdefghijklmnopqrstuvwxyz.0123456789" tc19)))
    (z20 : PySem.W.nsIn K mainGlobals "LONGEST_QUANTITY" = some (some (.int (12) tc20)))
    (es0 : PySem.W.specialIn K (.builtin "object.__class__") "__get__" = some (some (.builtin "getset_descriptor.__get__")))
    (es1 : PySem.W.takesIn K (.builtin "object.__class__") = some true)
    (es2 : PySem.W.nsIn K cStatics "thirdparty.any" = some none)
    (es3 : PySem.W.nsIn K mainGlobals "super" = some none)
    (eC0 : PySem.W.nsIn K mainGlobals "NoQuantity" = some (some (.ref C_NoQuantity)))
    (eB0 : PySem.W.subIn K (.ref C_NoQuantity) (.type "BaseException") = some true)
    (eH0 : PySem.W.hasDictIn K C_NoQuantity = true)
    (eT0 : PySem.W.typeIn K (.ref C_NoQuantity) = some (.type "type"))
    (eC1 : PySem.W.nsIn K mainGlobals "MeteError" = some (some (.ref C_MeteError)))
    (eB1 : PySem.W.subIn K (.ref C_MeteError) (.type "BaseException") = some true)
    (eH1 : PySem.W.hasDictIn K C_MeteError = true)
    (eT1 : PySem.W.typeIn K (.ref C_MeteError) = some (.type "type"))
    (eL0 : K.lookup C_NoQuantity = some (PySem.excClassObj nmE0 qE0 C_NoQuantity NE0 bsE0 bmE0 true snE0 subE0 abE0 colE0 ddE0 m0E0 m1E0 m2E0 m3E0 m5E0 "ValueError.__new__"))
    (eR0 : PySem.HandSPX.refsVE bmE0 = true)
    (eS0 : PySem.W.findIn K (.ref C_NoQuantity) "__setattr__" = some (some (.builtin "object.__setattr__")))
    (eG0 : PySem.W.findIn K (.ref C_NoQuantity) "__getattribute__" = some (some (.builtin "BaseException.__getattribute__")))
    (eg0 : PySem.W.findIn K (.ref C_NoQuantity) "__getattr__" = some none)
    (en0 : PySem.W.findIn K (.ref C_NoQuantity) "name" = some none)
    (eI0 : PySem.W.findIn K (.ref C_NoQuantity) "__init__" = some (some (.ref fE0)))
    (et0 : PySem.W.typeIn K (.ref fE0) = some (.type "function"))
    (ef0 : K.lookup fE0 = some ⟨ocE0, odE0, .func (PySem.W.ksFn "__init__" "NoQuantity.__init__" (defArgs s_NoQuantity_init) (defBody s_NoQuantity_init) (defScope s_NoQuantity_init) .none .none docE0 pmE0 anE0 (.ref cdaE0) ctE0 ccE0), oslE0⟩)
    (ec0 : PySem.W.codeIn K (.ref cdaE0) "NoQuantity.__init__" = true)
    (eo0 : K.lookup ccE0 = some ⟨clE0, cldE0, .cell (some (.ref C_NoQuantity)), cslE0⟩)
    (ed0 : K.lookup cdaE0 = some ⟨cclE0, cddE0, .fields vsE0, ccsE0⟩)
    (eq0 : vsE0[2]? = some (.str PG.main.file tfE0))
    (ep0 : PySem.W.ks_superIn K C_NoQuantity C_NoQuantity "__init__" = some (some (.builtin "ValueError.__init__")))
    (ev0 : PySem.W.subIn K (.ref C_NoQuantity) (.type "ValueError") = some true)
    (em0 : PySem.W.mroIn K C_NoQuantity (.ref C_NoQuantity) = some true)
    (ek0 : PySem.W.keepIn K (.ref C_NoQuantity) = true)
    (ea0 : PySem.W.findIn K (.ref C_NoQuantity) "__class__" = some (some (.builtin "object.__class__")))
    (eb0 : PySem.W.mroIn K C_NoQuantity (.type "object") = some true)
    (ez0_1 : PySem.W.subIn K (.ref C_NoQuantity) (.ref C_MeteError) = some true)
    (ez0_1n : (Value.ref C_NoQuantity == Value.ref C_MeteError) = false)
    (ey0_ValueError : PySem.W.subIn K (.ref C_NoQuantity) (.type "ValueError") = some true)
    (ex0_0 : PySem.W.subIn K (.ref C_NoQuantity) (.ref C_NoQuantity) = some true) :
    ∃ fd : FuncData, (∀ (s : Shared) (v : Value), BindsTo s fd ⟨[v], []⟩ [("_law_script", v)]) ∧ ∀ base : Heap, K.In base → base.Ns mainGlobals mg → FnOk PG w K mg base CX0 8 fa fd ["_law_script"] (spLaw K) := by
  have FD0 : FunD K "ratio" "ratio" (defArgs s_ratio) (defBody s_ratio) (defScope s_ratio) [V.int (1)] [] f0 _ := ⟨⟨_, _, _, _, _, _, _, _, _, _, rfl, l0, c0, Or.inr ⟨by simp, T0, _, _, _, rfl, d0, rfl, (.cons ⟨_, rfl⟩ .nil)⟩, Or.inl rfl⟩, k0⟩
  have F1 := fun_mk (st := s_plus) l1 c1 k1
  have F2 := fun_mk (st := s_times) l2 c2 k2
  have F3 := fun_mk (st := s_is_quantity) l3 c3 k3
  have F4 := fun_mk (st := s_all_names) l4 c4 k4
  have F5 := fun_mk (st := s_need_levels) l5 c5 k5
  have F6 := fun_mk (st := s_added_terms) l6 c6 k6
  have FD7 : FunD K "__init__" "Form.__init__" (defArgs s_Form___init) (defBody s_Form___init) (defScope s_Form___init) [V.ref eT7, V.int (0)] [] f7 _ := ⟨⟨_, _, _, _, _, _, _, _, _, _, rfl, l7, c7, Or.inr ⟨by simp, T7, _, _, _, rfl, d7, rfl, (.cons rfl (.cons ⟨_, rfl⟩ .nil))⟩, Or.inl rfl⟩, k7⟩
  have F8 := fun_mk (st := s_Form_names) l8 c8 k8
  have F9 := fun_mk (st := s_Form___call) l9 c9 k9
  have F10 := fun_mk (st := s_row_holds) l10 c10 k10
  have F11 := fun_mk (st := s_holds) l11 c11 k11
  have F12 := fun_mk (st := s_weighed) l12 c12 k12
  have F13 := fun_mk (st := s_closes) l13 c13 k13
  have F14 := fun_mk (st := s_w_pot) l14 c14 k14
  have F15 := fun_mk (st := s_w_take) l15 c15 k15
  have F16 := fun_mk (st := s_w_whole) l16 c16 k16
  have F17 := fun_mk (st := s_w_quantity) l17 c17 k17
  have F18 := fun_mk (st := s_w_pool) l18 c18 k18
  have F19 := fun_mk (st := s_w_weight) l19 c19 k19
  have F20 := fun_mk (st := s_w_sign) l20 c20 k20
  have F21 := fun_mk (st := s_w_tidy) l21 c21 k21
  have F22 := fun_mk (st := s_w_form_is) l22 c22 k22
  have F23 := fun_mk (st := s_w_lowest) l23 c23 k23
  have F24 := fun_mk (st := s_w_value) l24 c24 k24
  have F25 := fun_mk (st := s_w_world) l25 c25 k25
  have F26 := fun_mk (st := s_w_rows) l26 c26 k26
  have F27 := fun_mk (st := s_w_sum) l27 c27 k27
  have F28 := fun_mk (st := s_w_weights_let) l28 c28 k28
  have F29 := fun_mk (st := s_w_strict) l29 c29 k29
  have F30 := fun_mk (st := s_w_closed) l30 c30 k30
  have F31 := fun_mk (st := s_w_row_holds) l31 c31 k31
  have F32 := fun_mk (st := s_w_all_hold) l32 c32 k32
  have F33 := fun_mk (st := s_w_handed) l33 c33 k33
  have F34 := fun_mk (st := s_w_kept) l34 c34 k34
  have F35 := fun_mk (st := s_w_quantities) l35 c35 k35
  have F36 := fun_mk (st := s_w_last) l36 c36 k36
  have F37 := fun_mk (st := s_w_changed) l37 c37 k37
  have F38 := fun_mk (st := s_w_closes_right) l38 c38 k38
  have F39 := fun_mk (st := s_w_holds_right) l39 c39 k39
  have F40 := fun_mk (st := s_law) l40 c40 k40
  have e := hfa.symm.trans (PySem.W.mg_of X G a40)
  cases e
  let T : Tx K mg := {
    f_ratio := f0, fd_ratio := _, F_ratio := FD0,
    g_ratio := PySem.W.mg_of X G a0,
    b1_ratio := FD0.binds1 (ps := ["top", "bottom"]) 1 0 (by simp) rfl fun _ _ _ _ _ _ _ us its h1 h2 => match us, its, h1, h2 with | [_], [_], _, _ => ⟨_, rfl, rfl⟩,
    b2_ratio := FD0.binds1 (ps := ["top", "bottom"]) 2 1 (by simp) rfl fun _ _ _ _ _ _ _ us its h1 h2 => match us, its, h1, h2 with | [_, _], [_], _, _ => ⟨_, rfl, rfl⟩,
    f_plus := f1, fd_plus := _, F_plus := F1,
    g_plus := PySem.W.mg_of X G a1,
    b_plus := F1.binds (ps := ["first", "second"]) fun _ _ _ _ _ _ us hl => match us, hl with | [_, _], _ => rfl,
    f_times := f2, fd_times := _, F_times := F2,
    g_times := PySem.W.mg_of X G a2,
    b_times := F2.binds (ps := ["first", "second"]) fun _ _ _ _ _ _ us hl => match us, hl with | [_, _], _ => rfl,
    f_is_quantity := f3, fd_is_quantity := _, F_is_quantity := F3,
    g_is_quantity := PySem.W.mg_of X G a3,
    b_is_quantity := F3.binds (ps := ["text"]) fun _ _ _ _ _ _ us hl => match us, hl with | [_], _ => rfl,
    f_all_names := f4, fd_all_names := _, F_all_names := F4,
    g_all_names := PySem.W.mg_of X G a4,
    b_all_names := F4.binds (ps := ["forms"]) fun _ _ _ _ _ _ us hl => match us, hl with | [_], _ => rfl,
    f_need_levels := f5, fd_need_levels := _, F_need_levels := F5,
    g_need_levels := PySem.W.mg_of X G a5,
    b_need_levels := F5.binds (ps := ["names", "world"]) fun _ _ _ _ _ _ us hl => match us, hl with | [_, _], _ => rfl,
    f_added_terms := f6, fd_added_terms := _, F_added_terms := F6,
    g_added_terms := PySem.W.mg_of X G a6,
    b_added_terms := F6.binds (ps := ["terms"]) fun _ _ _ _ _ _ us hl => match us, hl with | [_], _ => rfl,
    e_Form___init := eT7,
    f_Form___init := f7, fd_Form___init := _, F_Form___init := FD7,
    b1_Form___init := FD7.binds1 (ps := ["self", "terms", "constant"]) 1 0 (by simp) rfl fun _ _ _ _ _ _ _ us its h1 h2 => match us, its, h1, h2 with | [_], [_, _], _, _ => ⟨_, rfl, rfl⟩,
    b2_Form___init := FD7.binds1 (ps := ["self", "terms", "constant"]) 2 1 (by simp) rfl fun _ _ _ _ _ _ _ us its h1 h2 => match us, its, h1, h2 with | [_, _], [_, _], _, _ => ⟨_, rfl, rfl⟩,
    b3_Form___init := FD7.binds1 (ps := ["self", "terms", "constant"]) 3 2 (by simp) rfl fun _ _ _ _ _ _ _ us its h1 h2 => match us, its, h1, h2 with | [_, _, _], [_, _], _, _ => ⟨_, rfl, rfl⟩,
    f_Form_names := f8, fd_Form_names := _, F_Form_names := F8,
    b_Form_names := F8.binds (ps := ["self"]) fun _ _ _ _ _ _ us hl => match us, hl with | [_], _ => rfl,
    f_Form___call := f9, fd_Form___call := _, F_Form___call := F9,
    b_Form___call := F9.binds (ps := ["self", "world"]) fun _ _ _ _ _ _ us hl => match us, hl with | [_, _], _ => rfl,
    f_row_holds := f10, fd_row_holds := _, F_row_holds := F10,
    g_row_holds := PySem.W.mg_of X G a10,
    b_row_holds := F10.binds (ps := ["value", "sign"]) fun _ _ _ _ _ _ us hl => match us, hl with | [_, _], _ => rfl,
    f_holds := f11, fd_holds := _, F_holds := F11,
    g_holds := PySem.W.mg_of X G a11,
    b_holds := F11.binds (ps := ["rows", "world"]) fun _ _ _ _ _ _ us hl => match us, hl with | [_, _], _ => rfl,
    f_weighed := f12, fd_weighed := _, F_weighed := F12,
    g_weighed := PySem.W.mg_of X G a12,
    b_weighed := F12.binds (ps := ["rows", "weights"]) fun _ _ _ _ _ _ us hl => match us, hl with | [_, _], _ => rfl,
    f_closes := f13, fd_closes := _, F_closes := F13,
    g_closes := PySem.W.mg_of X G a13,
    b_closes := F13.binds (ps := ["rows", "weights"]) fun _ _ _ _ _ _ us hl => match us, hl with | [_, _], _ => rfl,
    f_w_pot := f14, fd_w_pot := _, F_w_pot := F14,
    g_w_pot := PySem.W.mg_of X G a14,
    b_w_pot := F14.binds (ps := ["_law_script"]) fun _ _ _ _ _ _ us hl => match us, hl with | [_], _ => rfl,
    f_w_take := f15, fd_w_take := _, F_w_take := F15,
    g_w_take := PySem.W.mg_of X G a15,
    b_w_take := F15.binds (ps := ["_law_pot_here", "_law_size"]) fun _ _ _ _ _ _ us hl => match us, hl with | [_, _], _ => rfl,
    f_w_whole := f16, fd_w_whole := _, F_w_whole := F16,
    g_w_whole := PySem.W.mg_of X G a16,
    b_w_whole := F16.binds (ps := ["_law_found"]) fun _ _ _ _ _ _ us hl => match us, hl with | [_], _ => rfl,
    f_w_quantity := f17, fd_w_quantity := _, F_w_quantity := F17,
    g_w_quantity := PySem.W.mg_of X G a17,
    b_w_quantity := F17.binds (ps := ["_law_pot_here", "_law_shift"]) fun _ _ _ _ _ _ us hl => match us, hl with | [_, _], _ => rfl,
    f_w_pool := f18, fd_w_pool := _, F_w_pool := F18,
    g_w_pool := PySem.W.mg_of X G a18,
    b_w_pool := F18.binds (ps := ["_law_pot_here", "_law_most"]) fun _ _ _ _ _ _ us hl => match us, hl with | [_, _], _ => rfl,
    f_w_weight := f19, fd_w_weight := _, F_w_weight := F19,
    g_w_weight := PySem.W.mg_of X G a19,
    b_w_weight := F19.binds (ps := ["_law_pot_here"]) fun _ _ _ _ _ _ us hl => match us, hl with | [_], _ => rfl,
    f_w_sign := f20, fd_w_sign := _, F_w_sign := F20,
    g_w_sign := PySem.W.mg_of X G a20,
    b_w_sign := F20.binds (ps := ["_law_pot_here"]) fun _ _ _ _ _ _ us hl => match us, hl with | [_], _ => rfl,
    f_w_tidy := f21, fd_w_tidy := _, F_w_tidy := F21,
    g_w_tidy := PySem.W.mg_of X G a21,
    b_w_tidy := F21.binds (ps := ["_law_pairs", "_law_constant"]) fun _ _ _ _ _ _ us hl => match us, hl with | [_, _], _ => rfl,
    f_w_form_is := f22, fd_w_form_is := _, F_w_form_is := F22,
    g_w_form_is := PySem.W.mg_of X G a22,
    b_w_form_is := F22.binds (ps := ["_law_found", "_law_due"]) fun _ _ _ _ _ _ us hl => match us, hl with | [_, _], _ => rfl,
    f_w_lowest := f23, fd_w_lowest := _, F_w_lowest := F23,
    g_w_lowest := PySem.W.mg_of X G a23,
    b_w_lowest := F23.binds (ps := ["_law_top", "_law_bottom"]) fun _ _ _ _ _ _ us hl => match us, hl with | [_, _], _ => rfl,
    f_w_value := f24, fd_w_value := _, F_w_value := F24,
    g_w_value := PySem.W.mg_of X G a24,
    b_w_value := F24.binds (ps := ["_law_due", "_law_world_here"]) fun _ _ _ _ _ _ us hl => match us, hl with | [_, _], _ => rfl,
    f_w_world := f25, fd_w_world := _, F_w_world := F25,
    g_w_world := PySem.W.mg_of X G a25,
    b_w_world := F25.binds (ps := ["_law_pot_here", "_law_pool_here"]) fun _ _ _ _ _ _ us hl => match us, hl with | [_, _], _ => rfl,
    f_w_rows := f26, fd_w_rows := _, F_w_rows := F26,
    g_w_rows := PySem.W.mg_of X G a26,
    b_w_rows := F26.binds (ps := ["_law_pot_here", "_law_pool_here", "_law_world_here"]) fun _ _ _ _ _ _ us hl => match us, hl with | [_, _, _], _ => rfl,
    f_w_sum := f27, fd_w_sum := _, F_w_sum := F27,
    g_w_sum := PySem.W.mg_of X G a27,
    b_w_sum := F27.binds (ps := ["_law_rows_here", "_law_weights"]) fun _ _ _ _ _ _ us hl => match us, hl with | [_, _], _ => rfl,
    f_w_weights_let := f28, fd_w_weights_let := _, F_w_weights_let := F28,
    g_w_weights_let := PySem.W.mg_of X G a28,
    b_w_weights_let := F28.binds (ps := ["_law_rows_here", "_law_weights"]) fun _ _ _ _ _ _ us hl => match us, hl with | [_, _], _ => rfl,
    f_w_strict := f29, fd_w_strict := _, F_w_strict := F29,
    g_w_strict := PySem.W.mg_of X G a29,
    b_w_strict := F29.binds (ps := ["_law_rows_here", "_law_weights"]) fun _ _ _ _ _ _ us hl => match us, hl with | [_, _], _ => rfl,
    f_w_closed := f30, fd_w_closed := _, F_w_closed := F30,
    g_w_closed := PySem.W.mg_of X G a30,
    b_w_closed := F30.binds (ps := ["_law_rows_here", "_law_weights"]) fun _ _ _ _ _ _ us hl => match us, hl with | [_, _], _ => rfl,
    f_w_row_holds := f31, fd_w_row_holds := _, F_w_row_holds := F31,
    g_w_row_holds := PySem.W.mg_of X G a31,
    b_w_row_holds := F31.binds (ps := ["_law_row", "_law_world_here"]) fun _ _ _ _ _ _ us hl => match us, hl with | [_, _], _ => rfl,
    f_w_all_hold := f32, fd_w_all_hold := _, F_w_all_hold := F32,
    g_w_all_hold := PySem.W.mg_of X G a32,
    b_w_all_hold := F32.binds (ps := ["_law_rows_here", "_law_world_here"]) fun _ _ _ _ _ _ us hl => match us, hl with | [_, _], _ => rfl,
    f_w_handed := f33, fd_w_handed := _, F_w_handed := F33,
    g_w_handed := PySem.W.mg_of X G a33,
    b_w_handed := F33.binds (ps := ["_law_rows_here"]) fun _ _ _ _ _ _ us hl => match us, hl with | [_], _ => rfl,
    f_w_kept := f34, fd_w_kept := _, F_w_kept := F34,
    g_w_kept := PySem.W.mg_of X G a34,
    b_w_kept := F34.binds (ps := ["_law_handed_here", "_law_rows_here"]) fun _ _ _ _ _ _ us hl => match us, hl with | [_, _], _ => rfl,
    f_w_quantities := f35, fd_w_quantities := _, F_w_quantities := F35,
    g_w_quantities := PySem.W.mg_of X G a35,
    b_w_quantities := F35.binds (ps := ["_law_rows_here"]) fun _ _ _ _ _ _ us hl => match us, hl with | [_], _ => rfl,
    f_w_last := f36, fd_w_last := _, F_w_last := F36,
    g_w_last := PySem.W.mg_of X G a36,
    b_w_last := F36.binds (ps := ["_law_pot_here", "_law_rows_here"]) fun _ _ _ _ _ _ us hl => match us, hl with | [_, _], _ => rfl,
    f_w_changed := f37, fd_w_changed := _, F_w_changed := F37,
    g_w_changed := PySem.W.mg_of X G a37,
    b_w_changed := F37.binds (ps := ["_law_pot_here", "_law_weights", "_law_way"]) fun _ _ _ _ _ _ us hl => match us, hl with | [_, _, _], _ => rfl,
    f_w_closes_right := f38, fd_w_closes_right := _, F_w_closes_right := F38,
    g_w_closes_right := PySem.W.mg_of X G a38,
    b_w_closes_right := F38.binds (ps := ["_law_handed_here", "_law_rows_here", "_law_weights"]) fun _ _ _ _ _ _ us hl => match us, hl with | [_, _, _], _ => rfl,
    f_w_holds_right := f39, fd_w_holds_right := _, F_w_holds_right := F39,
    g_w_holds_right := PySem.W.mg_of X G a39,
    b_w_holds_right := F39.binds (ps := ["_law_handed_here", "_law_rows_here", "_law_world_here"]) fun _ _ _ _ _ _ us hl => match us, hl with | [_, _, _], _ => rfl,
    f_law := fa, fd_law := _, F_law := F40,
    g_law := PySem.W.mg_of X G a40,
    b_law := F40.binds (ps := ["_law_script"]) fun _ _ _ _ _ _ us hl => match us, hl with | [_], _ => rfl,
    m_len := PySem.W.mg_none_of X G z0,
    m_range := PySem.W.mg_none_of X G z1,
    m_isinstance := PySem.W.mg_none_of X G z2,
    m_int := PySem.W.mg_none_of X G z3,
    m_bool := PySem.W.mg_none_of X G z4,
    m_str := PySem.W.mg_none_of X G z5,
    m_list := PySem.W.mg_none_of X G z6,
    m_tuple := PySem.W.mg_none_of X G z7,
    m_dict := PySem.W.mg_none_of X G z8,
    m_abs := PySem.W.mg_none_of X G z9,
    m_sum := PySem.W.mg_none_of X G z10,
    m_sorted := PySem.W.mg_none_of X G z11,
    m_zip := PySem.W.mg_none_of X G z12,
    m_any := PySem.W.mg_none_of X G z13,
    m_all := PySem.W.mg_none_of X G z14,
    m_ZeroDivisionError := PySem.W.mg_none_of X G z15,
    m_ValueError := PySem.W.mg_none_of X G z16,
    m_gcd := PySem.W.mg_of X G z17,
    C_Form := C_Form, gC_Form := PySem.W.mg_of X G o0g, oc_Form := ⟨⟨o0a, o0b, o0c, o0d⟩, o0e, o0f, o0h, o0i, o0j⟩,
    na_Form_terms := o0n0,
    na_Form_constant := o0n1,
    mk_Form := ⟨o0k, a7, fn7, o0l⟩,
    me_Form_names := ⟨a8, fn8, k8⟩,
    co_Form := ⟨a9, fn9, fi9⟩,
    si_Form := o0s, is_Form := o0t,
    c_LETTERS := ⟨_, PySem.W.mg_of X G z18⟩,
    c_QUANTITY_SIGNS := ⟨_, PySem.W.mg_of X G z19⟩,
    c_LONGEST_QUANTITY := ⟨_, PySem.W.mg_of X G z20⟩,
    C_NoQuantity := C_NoQuantity, gC_NoQuantity := PySem.W.mg_of X G eC0,
    C_MeteError := C_MeteError, gC_MeteError := PySem.W.mg_of X G eC1,
    Z_NoQuantity := fun w => ⟨⟨fE0, ccE0, cdaE0, _, _, _, _, _, _, _, _, _, sh_NoQuantity, ⟨⟨_, _, _, _, _, _, _, _, _, _, _, _, _, _, _, eL0, eR0⟩, eS0, eI0, et0, ⟨_, _, _, eo0⟩, ⟨_, _, _, _, _, ed0, eq0⟩, ep0, ev0, em0, es2, PySem.W.mg_none_of X G es3, rfl⟩, ef0, ec0⟩, PySem.W.mg_of X G eC0, ek0, en0, eB0, eT0⟩,
    X_NoQuantity := ⟨eG0, eg0, eB0, eH0, ea0, es0, es1, eb0⟩,
    xf_NoQuantity := ⟨eG0, eg0, eB0, eH0⟩,
    kit_NoQuantity_MeteError := Er.kit_refs eH1 eT1 ez0_1 ez0_1n,
    kit_NoQuantity_ValueError := Er.kit_typ (by decide +kernel) ey0_ValueError,
    exm_NoQuantity_NoQuantity := PySem.W.exm_ref eB0 eH0 eT0 ex0_0 }
  refine ⟨T.fd_law, fun s v => .of_eq rfl, fun base _ _ => ?_⟩
  exact law_of T
end My
open PySem PySem.W PyProof.Rows
set_option maxHeartbeats 0 in
theorem PySem.Challenge.cw_metehouse_k05_rows_held_and_closed_holds : PySem.Challenge.rw_metehouse_k05_rows_held_and_closed.Holds := by
  w_on; o_law; k_head; (case hw => w_witness2)
  k_fill
  refine L2.walk_of (l := PySem.Challenge.rw_metehouse_k05_rows_held_and_closed) (n := 63) (k := 8) (x := "_law_script") (CX := fun _ => L2.CX0) (sp := fun w => My.spLaw _) rfl (by decide) rfl ⟨rfl, by decide, by decide⟩ (fun w h Y => PySem.W.kIn_of Y) ?F (fun _ _ a ns hl _ hS => ⟨a, ns, rfl, hS, hl, fun _ => rfl⟩) (fun _ _ _ _ _ h => h)
  case F =>
    intro w mg fa h KX G hmg
    refine' My.all_mk KX G hmg ?o0g ?a0 ?l0 ?c0 ?k0 ?d0 ?a1 ?l1 ?c1 ?k1 ?a2 ?l2 ?c2 ?k2 ?a3 ?l3 ?c3 ?k3 ?a4 ?l4 ?c4 ?k4 ?a5 ?l5 ?c5 ?k5 ?a6 ?l6 ?c6 ?k6 ?a7 ?l7 ?c7 ?k7 ?d7 ?a8 ?l8 ?c8 ?k8 ?a9 ?l9 ?c9 ?k9 ?a10 ?l10 ?c10 ?k10 ?a11 ?l11 ?c11 ?k11 ?a12 ?l12 ?c12 ?k12 ?a13 ?l13 ?c13 ?k13 ?a14 ?l14 ?c14 ?k14 ?a15 ?l15 ?c15 ?k15 ?a16 ?l16 ?c16 ?k16 ?a17 ?l17 ?c17 ?k17 ?a18 ?l18 ?c18 ?k18 ?a19 ?l19 ?c19 ?k19 ?a20 ?l20 ?c20 ?k20 ?a21 ?l21 ?c21 ?k21 ?a22 ?l22 ?c22 ?k22 ?a23 ?l23 ?c23 ?k23 ?a24 ?l24 ?c24 ?k24 ?a25 ?l25 ?c25 ?k25 ?a26 ?l26 ?c26 ?k26 ?a27 ?l27 ?c27 ?k27 ?a28 ?l28 ?c28 ?k28 ?a29 ?l29 ?c29 ?k29 ?a30 ?l30 ?c30 ?k30 ?a31 ?l31 ?c31 ?k31 ?a32 ?l32 ?c32 ?k32 ?a33 ?l33 ?c33 ?k33 ?a34 ?l34 ?c34 ?k34 ?a35 ?l35 ?c35 ?k35 ?a36 ?l36 ?c36 ?k36 ?a37 ?l37 ?c37 ?k37 ?a38 ?l38 ?c38 ?k38 ?a39 ?l39 ?c39 ?k39 ?a40 ?l40 ?c40 ?k40 ?z0 ?z1 ?z2 ?z3 ?z4 ?z5 ?z6 ?z7 ?z8 ?z9 ?z10 ?z11 ?z12 ?z13 ?z14 ?z15 ?z16 ?z17 ?o0a ?o0b ?o0c ?o0d ?o0e ?o0f ?o0h ?o0i ?o0j ?o0n0 ?o0n1 ?o0k ?o0l ?fn7 ?fn8 ?fn9 ?fi9 ?o0s ?o0t ?z18 ?z19 ?z20 ?es0 ?es1 ?es2 ?es3 ?eC0 ?eB0 ?eH0 ?eT0 ?eC1 ?eB1 ?eH1 ?eT1 ?eL0 ?eR0 ?eS0 ?eG0 ?eg0 ?en0 ?eI0 ?et0 ?ef0 ?ec0 ?eo0 ?ed0 ?eq0 ?ep0 ?ev0 ?em0 ?ek0 ?ea0 ?eb0 ?ez0_1 ?ez0_1n ?ey0_ValueError ?ex0_0
    (case o0g => k_is)
    (case a0 => k_is)
    (case l0 => k_is)
    (case c0 => k_is)
    (case k0 => k_is)
    (case d0 => k_is)
    (case a1 => k_is)
    (case l1 => k_is)
    (case c1 => k_is)
    (case k1 => k_is)
    (case a2 => k_is)
    (case l2 => k_is)
    (case c2 => k_is)
    (case k2 => k_is)
    (case a3 => k_is)
    (case l3 => k_is)
    (case c3 => k_is)
    (case k3 => k_is)
    (case a4 => k_is)
    (case l4 => k_is)
    (case c4 => k_is)
    (case k4 => k_is)
    (case a5 => k_is)
    (case l5 => k_is)
    (case c5 => k_is)
    (case k5 => k_is)
    (case a6 => k_is)
    (case l6 => k_is)
    (case c6 => k_is)
    (case k6 => k_is)
    (case a7 => k_is)
    (case l7 => k_is)
    (case c7 => k_is)
    (case k7 => k_is)
    (case d7 => k_is)
    (case a8 => k_is)
    (case l8 => k_is)
    (case c8 => k_is)
    (case k8 => k_is)
    (case a9 => k_is)
    (case l9 => k_is)
    (case c9 => k_is)
    (case k9 => k_is)
    (case a10 => k_is)
    (case l10 => k_is)
    (case c10 => k_is)
    (case k10 => k_is)
    (case a11 => k_is)
    (case l11 => k_is)
    (case c11 => k_is)
    (case k11 => k_is)
    (case a12 => k_is)
    (case l12 => k_is)
    (case c12 => k_is)
    (case k12 => k_is)
    (case a13 => k_is)
    (case l13 => k_is)
    (case c13 => k_is)
    (case k13 => k_is)
    (case a14 => k_is)
    (case l14 => k_is)
    (case c14 => k_is)
    (case k14 => k_is)
    (case a15 => k_is)
    (case l15 => k_is)
    (case c15 => k_is)
    (case k15 => k_is)
    (case a16 => k_is)
    (case l16 => k_is)
    (case c16 => k_is)
    (case k16 => k_is)
    (case a17 => k_is)
    (case l17 => k_is)
    (case c17 => k_is)
    (case k17 => k_is)
    (case a18 => k_is)
    (case l18 => k_is)
    (case c18 => k_is)
    (case k18 => k_is)
    (case a19 => k_is)
    (case l19 => k_is)
    (case c19 => k_is)
    (case k19 => k_is)
    (case a20 => k_is)
    (case l20 => k_is)
    (case c20 => k_is)
    (case k20 => k_is)
    (case a21 => k_is)
    (case l21 => k_is)
    (case c21 => k_is)
    (case k21 => k_is)
    (case a22 => k_is)
    (case l22 => k_is)
    (case c22 => k_is)
    (case k22 => k_is)
    (case a23 => k_is)
    (case l23 => k_is)
    (case c23 => k_is)
    (case k23 => k_is)
    (case a24 => k_is)
    (case l24 => k_is)
    (case c24 => k_is)
    (case k24 => k_is)
    (case a25 => k_is)
    (case l25 => k_is)
    (case c25 => k_is)
    (case k25 => k_is)
    (case a26 => k_is)
    (case l26 => k_is)
    (case c26 => k_is)
    (case k26 => k_is)
    (case a27 => k_is)
    (case l27 => k_is)
    (case c27 => k_is)
    (case k27 => k_is)
    (case a28 => k_is)
    (case l28 => k_is)
    (case c28 => k_is)
    (case k28 => k_is)
    (case a29 => k_is)
    (case l29 => k_is)
    (case c29 => k_is)
    (case k29 => k_is)
    (case a30 => k_is)
    (case l30 => k_is)
    (case c30 => k_is)
    (case k30 => k_is)
    (case a31 => k_is)
    (case l31 => k_is)
    (case c31 => k_is)
    (case k31 => k_is)
    (case a32 => k_is)
    (case l32 => k_is)
    (case c32 => k_is)
    (case k32 => k_is)
    (case a33 => k_is)
    (case l33 => k_is)
    (case c33 => k_is)
    (case k33 => k_is)
    (case a34 => k_is)
    (case l34 => k_is)
    (case c34 => k_is)
    (case k34 => k_is)
    (case a35 => k_is)
    (case l35 => k_is)
    (case c35 => k_is)
    (case k35 => k_is)
    (case a36 => k_is)
    (case l36 => k_is)
    (case c36 => k_is)
    (case k36 => k_is)
    (case a37 => k_is)
    (case l37 => k_is)
    (case c37 => k_is)
    (case k37 => k_is)
    (case a38 => k_is)
    (case l38 => k_is)
    (case c38 => k_is)
    (case k38 => k_is)
    (case a39 => k_is)
    (case l39 => k_is)
    (case c39 => k_is)
    (case k39 => k_is)
    (case a40 => k_is)
    (case l40 => k_is)
    (case c40 => k_is)
    (case k40 => k_is)
    (case z0 => k_is)
    (case z1 => k_is)
    (case z2 => k_is)
    (case z3 => k_is)
    (case z4 => k_is)
    (case z5 => k_is)
    (case z6 => k_is)
    (case z7 => k_is)
    (case z8 => k_is)
    (case z9 => k_is)
    (case z10 => k_is)
    (case z11 => k_is)
    (case z12 => k_is)
    (case z13 => k_is)
    (case z14 => k_is)
    (case z15 => k_is)
    (case z16 => k_is)
    (case z17 => k_is)
    (case o0a => k_is)
    (case o0b => k_is)
    (case o0c => k_is)
    (case o0d => k_is)
    (case o0e => k_is)
    (case o0f => k_is)
    (case o0h => k_is)
    (case o0i => k_is)
    (case o0j => k_is)
    (case o0n0 => k_is)
    (case o0n1 => k_is)
    (case o0k => k_is)
    (case o0l => k_is)
    (case fn7 => k_is)
    (case fn8 => k_is)
    (case fn9 => k_is)
    (case fi9 => k_is)
    (case o0s => k_is)
    (case o0t => k_is)
    (case z18 => k_is)
    (case z19 => k_is)
    (case z20 => k_is)
    (case es0 => k_is)
    (case es1 => k_is)
    (case es2 => k_is)
    (case es3 => k_is)
    (case eC0 => k_is)
    (case eB0 => k_is)
    (case eH0 => k_is)
    (case eT0 => k_is)
    (case eC1 => k_is)
    (case eB1 => k_is)
    (case eH1 => k_is)
    (case eT1 => k_is)
    (case eL0 => k_is)
    (case eR0 => decide +kernel)
    (case eS0 => k_is)
    (case eG0 => k_is)
    (case eg0 => k_is)
    (case en0 => k_is)
    (case eI0 => k_is)
    (case et0 => k_is)
    (case ef0 => k_is)
    (case ec0 => k_is)
    (case eo0 => k_is)
    (case ed0 => k_is)
    (case eq0 => rfl)
    (case ep0 => ks_is)
    (case ev0 => k_is)
    (case em0 => k_is)
    (case ek0 => k_is)
    (case ea0 => k_is)
    (case eb0 => k_is)
    (case ez0_1 => k_is)
    (case ez0_1n => rfl)
    (case ey0_ValueError => k_is)
    (case ex0_0 => k_is)
