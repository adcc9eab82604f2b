import PyProof.Rows.All
import Wide.All
import OpenK.AllK
import Wide.FinOn
import HandS.ForMost
import HandS.Exc
import HandS.TryOnly
import HandS.ExcOwn
import HandS.ExcBuiltin
import HandS.WordsExc
import HandS.IsInst
import HandS.Defaults
import HandS.Star
import HandS.Flow
import HandS.Wide
import HandS.Gcd
import HandS.Evl
import HandS.CallSlots
import KE.KExcSuper
import HandS.ExcInit
import HandS.FStr
import HandS.ExcIs
import HandS.ExcField
import KE.KExcIs
import KE.KEqSeq
import PySem.Challenge.RW_metehouse_k16_worst_miss_over_all_lots
set_option Elab.async false
set_option linter.all false
set_option maxRecDepth 100000
set_option maxHeartbeats 4000000
namespace My
open PySem PySem.Spec PyProof.Rows L2 StX
/-! ### rules of my own -/
section
variable {X : Cx}
/-- floor division by any divisor that is not 0, below 2 ^ 9000 in size -/
theorem op_fdivWN : OpR X (binaryOp .FloorDiv) (rI (fun _ j => j ≠ 0 ∧ j.natAbs.log2 < 9000) fun i j => .int (i.fdiv j)) :=
  opI fun _ _ _ _ _ _ _ hc q => floordiv_int hc.1 q (.inl (PyProof.noPylong_of_log2 hc.2))
theorem op_mulG : OpR X (binaryOp .Mult) (rI (fun i j => CMul i j ∨ CMulW i j) fun i j => .int (i * j)) := opI fun _ _ _ _ _ _ _ hc q => mul_int q (hc.elim CMul.ok CMulW.ok)
variable {CX : CXT} {k : Nat} {f : Addr} {sp : Sp} {E : XK} {x : Str} {p pos : Pos} {e : Expr} {es : List Expr} {t : TA}
/-- a call of a def whose promise is told raw -/
theorem pe_callR (F : FnR X.prog X.w X.K X.mg X.base CX k f sp) (hr : Room k X.A) (hg : Gl X x) (hm : X.mg x = some (.ref f)) (hk : PySem.W.keepIn X.K (.ref f) = true) (hx : Passes CX X E)
    (ha : PA X (e :: es) t) (hdb : (x == ("__debug__" : Str)) = false := by decide) (he : starEach (e :: es) X.env = (false, eval e X.env) :: starEach es X.env := by rfl) (hpl : (backTo pos (starEach es X.env)).any (·.1) = false := by rfl) :
    PE X (.Call (.Name x p) (e :: es) [] pos) (fun σ H Q => t σ H fun vs H1 => sp vs H1 Q E) := by
  refine ⟨fun pins s σ H Q I h => ?_⟩
  refine wpAny_Call_Name_kw (ld_glob I hg hm ?_ hdb)
  refine PySem.W.callWith_K (h₀ := X.base) I.ok.mod.kin hk (thn (ha.run pos pins s σ H _ I h) fun us s1 ⟨vs, H1, I1, r, q⟩ => ⟨I1.kIn, ?_⟩) he hpl
  exact wpAny_call (run_fnR F hr hx I1 r q)
theorem pe_callR0 (F : FnR X.prog X.w X.K X.mg X.base CX k f sp) (hr : Room k X.A) (hg : Gl X x) (hm : X.mg x = some (.ref f)) (hk : PySem.W.keepIn X.K (.ref f) = true) (hx : Passes CX X E)
    (hdb : (x == ("__debug__" : Str)) = false := by decide) : PE X (.Call (.Name x p) [] [] pos) (fun σ H Q => sp [] H Q E) := by
  refine ⟨fun pins s σ H Q I h => ?_⟩
  refine wpAny_Call_Name_kw (ld_glob I hg hm ?_ hdb)
  exact PySem.W.callWith_K0 I.kIn hk (wpAny_call (run_fnR (us := []) F hr hx I .nil h))
end
section
variable {P : Program} {w : World} {K : PySem.W.Frag} {mg : Str → Option Value} {base : Heap}
/-- def f(a, .., *v) that lets nothing out -/
theorem Fun.okStar {x qual : Str} {st : Stmt} {f : Addr} {fd : FuncData} {N ps : List Str} {pv : Str} {k : Nat} {sp : Sp} (F : Fun K x qual st f fd) (S : FnScope N (ps ++ [pv]) (defScope st))
    (hb : ∀ (kV doc pm : Value) (an : Option Addr) (cdv ct : Value) (us rest : List Value), us.length = ps.length → bindArgs (PySem.W.fnOf x qual (defArgs st) (defBody st) (defScope st) .none kV doc pm an cdv ct) ⟨us ++ rest, []⟩ = (newTuple rest >>= fun t => pure (ps.zip us ++ [(pv, t)])))
    (hbody : ∀ (cdv : Value) (A : Around) (outer : List Env) (s : Shared) (H : Hp) (vs : List V) (Q : VK) (E : XK), Room k (A.deeper (envOfC qual (defScope st) s.heap.objs.size f cdv)) → sp vs H Q E →
      ∃ t, PSs (cxOf CX0 P w K mg base N qual (defScope st) f cdv A outer s H E).nox (defBody st) t ∧ t { nx := fun _ H' => Q .non H', rt := Q } (start N vs) H) :
    FnR P w K mg base CX0 (k + 1) f (fun vs H Q E => ∃ ws rest, vs = ws ++ rest ∧ ws.length = ps.length ∧ rest.length ≤ sizeLine ∧ ∀ p, H p = Option.none → sp (ws ++ [V.ref p]) (upd H p (.tup rest)) Q E) := by
  obtain ⟨oc, od, kV, doc, pm, an, cdv, ct, osl, rfl, lk, hcd⟩ := F.ex
  refine fn_star lk hcd S cxUp_none (hb kV doc pm an cdv ct) fun A outer s H vs Q E hr hsp => ?_
  obtain ⟨t, h, q⟩ := hbody cdv A outer s H vs Q E hr hsp
  exact ⟨t, h.nox, q⟩
end
/-! ### heaps: what is kept but at some addresses -/
def Keep (M : List Addr) (H H' : Hp) : Prop := ∀ b o, b ∉ M → H b = some o → H' b = some o
theorem Keep.refl (M : List Addr) (H : Hp) : Keep M H H := fun _ _ _ h => h
theorem Keep.trans {M : List Addr} {H H1 H2 : Hp} (a : Keep M H H1) (b : Keep M H1 H2) : Keep M H H2 := fun c o n h => b c o n (a c o n h)
theorem Keep.new {M : List Addr} {H : Hp} {p : Addr} {o : HO} (h : H p = none) : Keep M H (upd H p o) := fun b u _ e => by
  rw [upd_ne (ne_of_none e h)]; exact e
theorem Keep.at {M : List Addr} {H : Hp} {p : Addr} {o : HO} (h : p ∈ M) : Keep M H (upd H p o) := fun b u n e => by
  rw [upd_ne (fun z => n (by rw [z]; exact h))]; exact e
/-- an object that H does not know may change -/
theorem Keep.mut {M : List Addr} {H H' : Hp} {p : Addr} {o : HO} (e : Keep M H H') (h : H p = none) : Keep M H (upd H' p o) := fun b u n hb => by
  rw [upd_ne (ne_of_none hb h)]; exact e b u n hb
theorem Keep.mono {M N : List Addr} {H H' : Hp} (e : Keep M H H') (h : ∀ a ∈ M, a ∈ N) : Keep N H H' := fun b o n hb => e b o (fun z => n (h b z)) hb
theorem Keep.rd {M : List Addr} {H H' : Hp} {a : Addr} {u : HO} (e : Keep M H H') (n : a ∉ M) (h : Rd H a u) : Rd H' a u := by
  rcases h with h | ⟨o, h⟩
  · exact Or.inl (e a _ n h)
  · exact Or.inr ⟨o, e a _ n h⟩
theorem Keep.l {M : List Addr} {K : PySem.W.Frag} {H H' : Hp} {a : Addr} {xs : List V} (e : Keep M H H') (n : a ∉ M) (h : SqL K H a xs) : SqL K H' a xs := by
  rcases h with h | h
  · exact Or.inl (e.rd n h)
  · exact Or.inr h
theorem Keep.t {M : List Addr} {K : PySem.W.Frag} {H H' : Hp} {a : Addr} {xs : List V} (e : Keep M H H') (n : a ∉ M) (h : SqT K H a xs) : SqT K H' a xs := by
  rcases h with h | h
  · exact Or.inl (e.rd n h)
  · exact Or.inr h
theorem Keep.free {M : List Addr} {H H' : Hp} (e : Keep M H H') {l : Addr} (n : l ∉ M) (h : H' l = Option.none) : H l = Option.none := by
  cases q : H l with
  | none => rfl
  | some o => rw [e l o n q] at h; cases h
/-- an address that is untracked later, though tracked addresses stay (M's own, too) -/
theorem ne_free {H : Hp} {a p : Addr} {o : HO} (h : H a = some o) (n : H p = none) : p ≠ a := fun e => by rw [e, h] at n; cases n
theorem sqL_of {K : PySem.W.Frag} {H : Hp} {a : Addr} {xs : List V} (h : H a = some (.lst xs)) : SqL K H a xs := Or.inl (Or.inl h)
theorem sqT_of {K : PySem.W.Frag} {H : Hp} {a : Addr} {xs : List V} (h : H a = some (.tup xs)) : SqT K H a xs := Or.inl (Or.inl h)
theorem le_size {n : Nat} (h : n ≤ 100000) : n ≤ sizeLine := Nat.le_trans h (by decide)
theorem lt_size {n : Nat} (h : n < 100000) : n < sizeLine := Nat.lt_of_lt_of_le h (by decide)
theorem ixN_nn {n j : Nat} (h : j < n) : ixN n (j : Int) = some j := by
  unfold ixN; rw [if_pos (by omega), if_pos (by omega), Int.toNat_natCast]
theorem cxOf_K {CX : CXT} {P : Program} {w : World} {K : PySem.W.Frag} {mg : Str → Option Value} {base : Heap} {N : List Str} {qual : Str} {scope : Scope} {f : Addr} {cd : Value} {A : Around} {outer : List Env} {s : Shared} {H : Hp} {E : XK} :
    (cxOf CX P w K mg base N qual scope f cd A outer s H E).K = K := rfl
/-! ### readings, by the head of their terms -/
section
variable {K : PySem.W.Frag} {σ : L2.St} {H : Hp} {Q : VK} {QA : List V → Hp → Prop} {QB : Bool → Hp → Prop} {QO : Option Int → Hp → Prop} {D : Ends} {ta tb te tc : TE} {t u : TT} {ts tr : TS} {r : R2} {v x y : V} {G : TG} {tas : TA}
theorem r_nxE {a b d : L2.St → Hp → Prop} {c : VK} (k : a σ H) : Ends.nx ⟨a, c, b, d⟩ σ H := k
theorem r_bkE {a b d : L2.St → Hp → Prop} {c : VK} (k : b σ H) : Ends.bk ⟨a, c, b, d⟩ σ H := k
theorem r_ctE {a b d : L2.St → Hp → Prop} {c : VK} (k : d σ H) : Ends.ct ⟨a, c, b, d⟩ σ H := k
theorem r_rtE {a b d : L2.St → Hp → Prop} {c : VK} (k : c v H) : Ends.rt ⟨a, c, b, d⟩ v H := k
theorem r_var {i : Nat} (h : σ[i]? = some (some v)) (k : Q v H) : tVar i σ H Q := ⟨v, h, k⟩
theorem r_c (k : Q v H) : tC v σ H Q := k
theorem r_op (k : ta σ H fun x H1 => tb σ H1 fun y H2 => r x y H2 Q) : tOp r ta tb σ H Q := k
theorem r_un {r : V → Hp → VK → Prop} (k : ta σ H fun x H1 => r x H1 Q) : tUn r ta σ H Q := k
theorem r_I0 {g : Int → Int → V} {i j : Int} (k : Q (g i j) H) : rI0 g (.int i) (.int j) H Q := ⟨i, j, rfl, rfl, k⟩
theorem r_I {C : Int → Int → Prop} {g : Int → Int → V} {i j : Int} (c : C i j) (k : Q (g i j) H) : rI C g (.int i) (.int j) H Q := ⟨i, j, rfl, rfl, c, k⟩
theorem r_U {g : Int → V} {i : Int} (k : Q (g i) H) : rU g (.int i) H Q := ⟨i, rfl, k⟩
theorem dec_int {i j : Int} : decide (V.int i = V.int j) = decide (i = j) := by
  by_cases h : i = j
  · subst h; simp
  · rw [decide_eq_false h, decide_eq_false (fun e => h (V.int.inj e))]
theorem dec_str {i j : Str} : decide (V.str i = V.str j) = decide (i = j) := by
  by_cases h : i = j
  · subst h; simp
  · rw [decide_eq_false h, decide_eq_false (fun e => h (V.str.inj e))]
theorem dec_bl {i j : Bool} : decide (V.bl i = V.bl j) = decide (i = j) := by
  by_cases h : i = j
  · subst h; simp
  · rw [decide_eq_false h, decide_eq_false (fun e => h (V.bl.inj e))]
theorem r_eqI {i j : Int} (k : Q (.bl (decide (i = j))) H) : rEq (.int i) (.int j) H Q := ⟨rfl, by rw [dec_int]; exact k⟩
theorem r_neI {i j : Int} (k : Q (.bl (!decide (i = j))) H) : rNe (.int i) (.int j) H Q := ⟨rfl, by rw [dec_int]; exact k⟩
theorem r_eqS {i j : Str} (k : Q (.bl (decide (i = j))) H) : rEq (.str i) (.str j) H Q := ⟨rfl, by rw [dec_str]; exact k⟩
theorem r_neS {i j : Str} (k : Q (.bl (!decide (i = j))) H) : rNe (.str i) (.str j) H Q := ⟨rfl, by rw [dec_str]; exact k⟩
theorem r_eqB {i j : Bool} (k : Q (.bl (decide (i = j))) H) : rEq (.bl i) (.bl j) H Q := ⟨rfl, by rw [dec_bl]; exact k⟩
theorem r_neB {i j : Bool} (k : Q (.bl (!decide (i = j))) H) : rNe (.bl i) (.bl j) H Q := ⟨rfl, by rw [dec_bl]; exact k⟩
theorem r_test (k : te σ H fun x H' => ∃ k, x = .bl k ∧ QB k H') : tTest te σ H QB := k
theorem r_tB (k : te σ H fun x H' => ∃ k, x = .bl k ∧ QB k H') : tB te σ H QB := k
theorem r_bl {b : Bool} {P : Bool → Prop} (k : P b) : ∃ c, V.bl b = .bl c ∧ P c := ⟨b, rfl, k⟩
theorem r_and (k : t σ H fun c H1 => if c = true then u σ H1 QB else QB false H1) : tAnd t u σ H QB := k
theorem r_or (k : t σ H fun c H1 => if c = true then QB true H1 else u σ H1 QB) : tOr t u σ H QB := k
theorem r_not (k : t σ H fun c H1 => QB (!c) H1) : tNot t σ H QB := k
theorem r_andV (k : ta σ H fun x H1 => ∃ c, x = .bl c ∧ if c = true then tb σ H1 Q else Q (.bl false) H1) : tAndV ta tb σ H Q := k
theorem r_orV (k : ta σ H fun x H1 => ∃ c, x = .bl c ∧ if c = true then Q (.bl true) H1 else tb σ H1 Q) : tOrV ta tb σ H Q := k
theorem r_notV (k : ta σ H fun x H1 => ∃ c, x = .bl c ∧ Q (.bl (!c)) H1) : tNotV ta σ H Q := k
theorem r_if (k : t σ H fun c H1 => if c = true then ta σ H1 Q else tb σ H1 Q) : tIf t ta tb σ H Q := k
theorem r_chain {r' : R2} (k : ta σ H fun x H1 => tb σ H1 fun y H2 => r x y H2 fun z H3 => ∃ k, z = .bl k ∧ (if k = true then tc σ H3 fun w' H4 => r' y w' H4 Q else Q (.bl false) H3)) : tChain r r' ta tb tc σ H Q := k
theorem r_seq (k : ts { D with nx := tr D } σ H) : tSeq ts tr D σ H := k
theorem r_asg (k : te σ H fun x H1 => G x σ H1 D.nx) : tAsg te G D σ H := k
theorem r_gName {i : Nat} {Q : L2.St → Hp → Prop} (k : Q (σ.set i (some v)) H) : gName i v σ H Q := k
theorem r_gName0 {x0 : Option V} {Q : L2.St → Hp → Prop} (k : Q (some v :: σ) H) : gName 0 v (x0 :: σ) H Q := k
theorem r_gName1 {x0 x1 : Option V} {Q : L2.St → Hp → Prop} (k : Q (x0 :: some v :: σ) H) : gName 1 v (x0 :: x1 :: σ) H Q := k
theorem r_gName2 {x0 x1 x2 : Option V} {Q : L2.St → Hp → Prop} (k : Q (x0 :: x1 :: some v :: σ) H) : gName 2 v (x0 :: x1 :: x2 :: σ) H Q := k
theorem r_gName3 {x0 x1 x2 x3 : Option V} {Q : L2.St → Hp → Prop} (k : Q (x0 :: x1 :: x2 :: some v :: σ) H) : gName 3 v (x0 :: x1 :: x2 :: x3 :: σ) H Q := k
theorem r_gName4 {x0 x1 x2 x3 x4 : Option V} {Q : L2.St → Hp → Prop} (k : Q (x0 :: x1 :: x2 :: x3 :: some v :: σ) H) : gName 4 v (x0 :: x1 :: x2 :: x3 :: x4 :: σ) H Q := k
theorem r_gName5 {x0 x1 x2 x3 x4 x5 : Option V} {Q : L2.St → Hp → Prop} (k : Q (x0 :: x1 :: x2 :: x3 :: x4 :: some v :: σ) H) : gName 5 v (x0 :: x1 :: x2 :: x3 :: x4 :: x5 :: σ) H Q := k
theorem r_gName6 {x0 x1 x2 x3 x4 x5 x6 : Option V} {Q : L2.St → Hp → Prop} (k : Q (x0 :: x1 :: x2 :: x3 :: x4 :: x5 :: some v :: σ) H) : gName 6 v (x0 :: x1 :: x2 :: x3 :: x4 :: x5 :: x6 :: σ) H Q := k
theorem r_gName7 {x0 x1 x2 x3 x4 x5 x6 x7 : Option V} {Q : L2.St → Hp → Prop} (k : Q (x0 :: x1 :: x2 :: x3 :: x4 :: x5 :: x6 :: some v :: σ) H) : gName 7 v (x0 :: x1 :: x2 :: x3 :: x4 :: x5 :: x6 :: x7 :: σ) H Q := k
theorem r_gName8 {x0 x1 x2 x3 x4 x5 x6 x7 x8 : Option V} {Q : L2.St → Hp → Prop} (k : Q (x0 :: x1 :: x2 :: x3 :: x4 :: x5 :: x6 :: x7 :: some v :: σ) H) : gName 8 v (x0 :: x1 :: x2 :: x3 :: x4 :: x5 :: x6 :: x7 :: x8 :: σ) H Q := k
theorem r_gName9 {x0 x1 x2 x3 x4 x5 x6 x7 x8 x9 : Option V} {Q : L2.St → Hp → Prop} (k : Q (x0 :: x1 :: x2 :: x3 :: x4 :: x5 :: x6 :: x7 :: x8 :: some v :: σ) H) : gName 9 v (x0 :: x1 :: x2 :: x3 :: x4 :: x5 :: x6 :: x7 :: x8 :: x9 :: σ) H Q := k
theorem r_gName10 {x0 x1 x2 x3 x4 x5 x6 x7 x8 x9 x10 : Option V} {Q : L2.St → Hp → Prop} (k : Q (x0 :: x1 :: x2 :: x3 :: x4 :: x5 :: x6 :: x7 :: x8 :: x9 :: some v :: σ) H) : gName 10 v (x0 :: x1 :: x2 :: x3 :: x4 :: x5 :: x6 :: x7 :: x8 :: x9 :: x10 :: σ) H Q := k
theorem r_gName11 {x0 x1 x2 x3 x4 x5 x6 x7 x8 x9 x10 x11 : Option V} {Q : L2.St → Hp → Prop} (k : Q (x0 :: x1 :: x2 :: x3 :: x4 :: x5 :: x6 :: x7 :: x8 :: x9 :: x10 :: some v :: σ) H) : gName 11 v (x0 :: x1 :: x2 :: x3 :: x4 :: x5 :: x6 :: x7 :: x8 :: x9 :: x10 :: x11 :: σ) H Q := k
theorem r_gName12 {x0 x1 x2 x3 x4 x5 x6 x7 x8 x9 x10 x11 x12 : Option V} {Q : L2.St → Hp → Prop} (k : Q (x0 :: x1 :: x2 :: x3 :: x4 :: x5 :: x6 :: x7 :: x8 :: x9 :: x10 :: x11 :: some v :: σ) H) : gName 12 v (x0 :: x1 :: x2 :: x3 :: x4 :: x5 :: x6 :: x7 :: x8 :: x9 :: x10 :: x11 :: x12 :: σ) H Q := k
theorem r_gName13 {x0 x1 x2 x3 x4 x5 x6 x7 x8 x9 x10 x11 x12 x13 : Option V} {Q : L2.St → Hp → Prop} (k : Q (x0 :: x1 :: x2 :: x3 :: x4 :: x5 :: x6 :: x7 :: x8 :: x9 :: x10 :: x11 :: x12 :: some v :: σ) H) : gName 13 v (x0 :: x1 :: x2 :: x3 :: x4 :: x5 :: x6 :: x7 :: x8 :: x9 :: x10 :: x11 :: x12 :: x13 :: σ) H Q := k
theorem r_gName14 {x0 x1 x2 x3 x4 x5 x6 x7 x8 x9 x10 x11 x12 x13 x14 : Option V} {Q : L2.St → Hp → Prop} (k : Q (x0 :: x1 :: x2 :: x3 :: x4 :: x5 :: x6 :: x7 :: x8 :: x9 :: x10 :: x11 :: x12 :: x13 :: some v :: σ) H) : gName 14 v (x0 :: x1 :: x2 :: x3 :: x4 :: x5 :: x6 :: x7 :: x8 :: x9 :: x10 :: x11 :: x12 :: x13 :: x14 :: σ) H Q := k
theorem r_gName15 {x0 x1 x2 x3 x4 x5 x6 x7 x8 x9 x10 x11 x12 x13 x14 x15 : Option V} {Q : L2.St → Hp → Prop} (k : Q (x0 :: x1 :: x2 :: x3 :: x4 :: x5 :: x6 :: x7 :: x8 :: x9 :: x10 :: x11 :: x12 :: x13 :: x14 :: some v :: σ) H) : gName 15 v (x0 :: x1 :: x2 :: x3 :: x4 :: x5 :: x6 :: x7 :: x8 :: x9 :: x10 :: x11 :: x12 :: x13 :: x14 :: x15 :: σ) H Q := k
theorem r_gName16 {x0 x1 x2 x3 x4 x5 x6 x7 x8 x9 x10 x11 x12 x13 x14 x15 x16 : Option V} {Q : L2.St → Hp → Prop} (k : Q (x0 :: x1 :: x2 :: x3 :: x4 :: x5 :: x6 :: x7 :: x8 :: x9 :: x10 :: x11 :: x12 :: x13 :: x14 :: x15 :: some v :: σ) H) : gName 16 v (x0 :: x1 :: x2 :: x3 :: x4 :: x5 :: x6 :: x7 :: x8 :: x9 :: x10 :: x11 :: x12 :: x13 :: x14 :: x15 :: x16 :: σ) H Q := k
theorem r_gName17 {x0 x1 x2 x3 x4 x5 x6 x7 x8 x9 x10 x11 x12 x13 x14 x15 x16 x17 : Option V} {Q : L2.St → Hp → Prop} (k : Q (x0 :: x1 :: x2 :: x3 :: x4 :: x5 :: x6 :: x7 :: x8 :: x9 :: x10 :: x11 :: x12 :: x13 :: x14 :: x15 :: x16 :: some v :: σ) H) : gName 17 v (x0 :: x1 :: x2 :: x3 :: x4 :: x5 :: x6 :: x7 :: x8 :: x9 :: x10 :: x11 :: x12 :: x13 :: x14 :: x15 :: x16 :: x17 :: σ) H Q := k
theorem r_gName18 {x0 x1 x2 x3 x4 x5 x6 x7 x8 x9 x10 x11 x12 x13 x14 x15 x16 x17 x18 : Option V} {Q : L2.St → Hp → Prop} (k : Q (x0 :: x1 :: x2 :: x3 :: x4 :: x5 :: x6 :: x7 :: x8 :: x9 :: x10 :: x11 :: x12 :: x13 :: x14 :: x15 :: x16 :: x17 :: some v :: σ) H) : gName 18 v (x0 :: x1 :: x2 :: x3 :: x4 :: x5 :: x6 :: x7 :: x8 :: x9 :: x10 :: x11 :: x12 :: x13 :: x14 :: x15 :: x16 :: x17 :: x18 :: σ) H Q := k
theorem r_gName19 {x0 x1 x2 x3 x4 x5 x6 x7 x8 x9 x10 x11 x12 x13 x14 x15 x16 x17 x18 x19 : Option V} {Q : L2.St → Hp → Prop} (k : Q (x0 :: x1 :: x2 :: x3 :: x4 :: x5 :: x6 :: x7 :: x8 :: x9 :: x10 :: x11 :: x12 :: x13 :: x14 :: x15 :: x16 :: x17 :: x18 :: some v :: σ) H) : gName 19 v (x0 :: x1 :: x2 :: x3 :: x4 :: x5 :: x6 :: x7 :: x8 :: x9 :: x10 :: x11 :: x12 :: x13 :: x14 :: x15 :: x16 :: x17 :: x18 :: x19 :: σ) H Q := k
theorem r_ret (k : te σ H D.rt) : tRet te D σ H := k
theorem r_retN (k : D.rt .non H) : tRetN D σ H := k
theorem r_drop (k : te σ H fun _ H1 => D.nx σ H1) : tDrop te D σ H := k
theorem r_ifS (k : t σ H fun b H1 => if b = true then ts D σ H1 else tr D σ H1) : tIfS t ts tr D σ H := k
theorem r_next (k : D.nx σ H) : tNext D σ H := k
theorem r_cont (k : D.ct σ H) : tCont D σ H := k
theorem r_break (k : D.bk σ H) : tBreak D σ H := k
theorem r_cb {r : List V → Hp → VK → Prop} (k : tas σ H fun vs H1 => r vs H1 Q) : tCB r tas σ H Q := k
theorem r_cons (k : ta σ H fun x H1 => tas σ H1 fun xs H2 => QA (x :: xs) H2) : tCons ta tas σ H QA := k
theorem r_nil (k : QA [] H) : tNil σ H QA := k
theorem r_call {sp : Sp} {dvs : List V} {E : XK} (k : tas σ H fun vs H1 => sp (vs ++ dvs) H1 Q E) : tCall sp dvs E tas σ H Q := k
theorem r_lst (k : tas σ H fun xs H1 => xs.length ≤ sizeLine ∧ ∀ p, H1 p = none → Q (.ref p) (upd H1 p (.lst xs))) : tLst tas σ H Q := k
theorem r_tup (k : tas σ H fun xs H1 => xs.length ≤ sizeLine ∧ ∀ p, H1 p = none → Q (.ref p) (upd H1 p (.tup xs))) : tTup tas σ H Q := k
theorem r_ixL {p : Addr} {xs : List V} {i : Int} (h : SqL K H p xs) (h2 : atI xs i = some v) (k : Q v H) : rIxL K (.ref p) (.int i) H Q := ⟨p, xs, i, v, rfl, rfl, h, h2, k⟩
theorem r_ixT {p : Addr} {xs : List V} {i : Int} (h : SqT K H p xs) (h2 : atI xs i = some v) (k : Q v H) : rIxT K (.ref p) (.int i) H Q := ⟨p, xs, i, v, rfl, rfl, h, h2, k⟩
theorem r_gSub {to ti : TE} {s : TSet} {Q : L2.St → Hp → Prop} (k : to σ H fun o H1 => ti σ H1 fun i H2 => s o i v H2 fun H3 => Q σ H3) : gSub to ti s v σ H Q := k
theorem r_setL {p : Addr} {xs : List V} {i : Int} {j : Nat} {Q : Hp → Prop} (h : H p = some (.lst xs)) (h2 : ixN xs.length i = some j) (k : Q (upd H p (.lst (xs.set j v)))) : rSetL (.ref p) (.int i) v H Q := ⟨p, xs, i, j, rfl, rfl, h, h2, k⟩
theorem r_setP0 {p : Addr} {x0 : V} {xs : List V} {Q : Hp → Prop} (h : H p = some (.lst (x0 :: xs))) (k : Q (upd H p (.lst (v :: xs)))) : rSetL (.ref p) (.int 0) v H Q := ⟨p, _, 0, 0, rfl, rfl, h, ixN_nn (j := 0) (by simp), k⟩
theorem r_setP1 {p : Addr} {x0 x1 : V} {xs : List V} {Q : Hp → Prop} (h : H p = some (.lst (x0 :: x1 :: xs))) (k : Q (upd H p (.lst (x0 :: v :: xs)))) : rSetL (.ref p) (.int 1) v H Q := ⟨p, _, 1, 1, rfl, rfl, h, ixN_nn (j := 1) (by simp), k⟩
theorem r_setP2 {p : Addr} {x0 x1 x2 : V} {xs : List V} {Q : Hp → Prop} (h : H p = some (.lst (x0 :: x1 :: x2 :: xs))) (k : Q (upd H p (.lst (x0 :: x1 :: v :: xs)))) : rSetL (.ref p) (.int 2) v H Q := ⟨p, _, 2, 2, rfl, rfl, h, ixN_nn (j := 2) (by simp), k⟩
theorem r_setP3 {p : Addr} {x0 x1 x2 x3 : V} {xs : List V} {Q : Hp → Prop} (h : H p = some (.lst (x0 :: x1 :: x2 :: x3 :: xs))) (k : Q (upd H p (.lst (x0 :: x1 :: x2 :: v :: xs)))) : rSetL (.ref p) (.int 3) v H Q := ⟨p, _, 3, 3, rfl, rfl, h, ixN_nn (j := 3) (by simp), k⟩
theorem r_cut (M : L2.St → Hp → Prop) (h : ts { D with nx := M } σ H) (k : ∀ σ' H', M σ' H' → tr D σ' H') : Evl.tCut ts tr D σ H := ⟨M, h, k⟩
theorem r_sl {r : V → Option Int → Option Int → Hp → VK → Prop} {tl th : TO} (k : te σ H fun x H1 => tl σ H1 fun l H2 => th σ H2 fun u H3 => r x l u H3 Q) : tSl r te tl th σ H Q := k
theorem r_ite {p : Prop} {_i : Decidable p} {A B : Prop} (h1 : p → A) (h2 : ¬ p → B) : if decide p = true then A else B := by
  by_cases h : p
  · rw [if_pos (decide_eq_true h)]; exact h1 h
  · rw [if_neg (by rw [decide_eq_false h]; decide)]; exact h2 h
theorem r_iteN {p : Prop} {_i : Decidable p} {A B : Prop} (h1 : ¬ p → A) (h2 : p → B) : if (!decide p) = true then A else B := by
  by_cases h : p
  · rw [if_neg (by rw [decide_eq_true h]; decide)]; exact h2 h
  · rw [if_pos (by rw [decide_eq_false h]; rfl)]; exact h1 h
theorem r_iteT {p : Prop} [Decidable p] {A B : Prop} (h : p) (k : A) : if decide p = true then A else B := by
  rw [if_pos (decide_eq_true h)]; exact k
theorem r_iteF {p : Prop} [Decidable p] {A B : Prop} (h : ¬ p) (k : B) : if decide p = true then A else B := by
  rw [if_neg (by rw [decide_eq_false h]; decide)]; exact k
theorem r_iteNT {p : Prop} [Decidable p] {A B : Prop} (h : ¬ p) (k : A) : if (!decide p) = true then A else B := by
  rw [if_pos (by rw [decide_eq_false h]; rfl)]; exact k
theorem r_iteNF {p : Prop} [Decidable p] {A B : Prop} (h : p) (k : B) : if (!decide p) = true then A else B := by
  rw [if_neg (by rw [decide_eq_true h]; decide)]; exact k
theorem r_iteb {b : Bool} {A B : Prop} (h1 : b = true → A) (h2 : b = false → B) : if b = true then A else B := by
  cases b with
  | true => rw [if_pos rfl]; exact h1 rfl
  | false => rw [if_neg (by decide)]; exact h2 rfl
theorem r_itebN {b : Bool} {A B : Prop} (h1 : b = false → A) (h2 : b = true → B) : if (!b) = true then A else B := by
  cases b with
  | true => exact (if_neg (by decide : ¬ (!true) = true)).mpr (h2 rfl)
  | false => exact (if_pos (by decide : (!false) = true)).mpr (h1 rfl)
theorem r_int1 {i : Int} {F : Int → Prop} {G : Bool → Prop} (k : F i) : (∃ j, [V.int i] = [.int j] ∧ F j) ∨ ∃ b, [V.int i] = [.bl b] ∧ G b := .inl ⟨i, rfl, k⟩
theorem r_intB {b : Bool} {F : Int → Prop} {G : Bool → Prop} (k : G b) : (∃ j, [V.bl b] = [.int j] ∧ F j) ∨ ∃ c, [V.bl b] = [.bl c] ∧ G c := .inr ⟨b, rfl, k⟩
theorem r_lenL {p : Addr} {xs : List V} {F : List V → Prop} (h : SqL K H p xs) (k : F xs) : ∃ q ys, [V.ref p] = [.ref q] ∧ (SqL K H q ys ∨ SqT K H q ys) ∧ F ys := ⟨p, xs, rfl, .inl h, k⟩
theorem r_lenT {p : Addr} {xs : List V} {F : List V → Prop} (h : SqT K H p xs) (k : F xs) : ∃ q ys, [V.ref p] = [.ref q] ∧ (SqL K H q ys ∨ SqT K H q ys) ∧ F ys := ⟨p, xs, rfl, .inr h, k⟩
theorem abs_if {i : Int} : (if i < 0 then -i else i) = (i.natAbs : Int) := by split <;> omega
theorem max_if {i j : Int} : (if j > i then j else i) = max i j := by split <;> omega
theorem r_in1 {i : Int} {F : Int → Prop} (k : F i) : ∃ j, [V.int i] = [.int j] ∧ F j := ⟨i, rfl, k⟩
theorem r_in2 {i j : Int} {F : Int → Int → Prop} (k : F i j) : ∃ a b, [V.int i, V.int j] = [.int a, .int b] ∧ F a b := ⟨i, j, rfl, k⟩
theorem r_isi {x : V} {T : String} {b : Bool} {ty : String} (ty1 : TyX K H x (.type ty)) (h : kitB ty T = some b) (k : Q (.bl b) H) : rIsi K [x, .ty T] H Q :=
  ⟨x, .ty T, .type ty, .type T, b, rfl, .ty T, ty1, kit_ty h, k⟩
end
/-! ### loops -/
def ForR1 (G : TG) (ts : TS) (D : Ends) (σ : L2.St) (vs : List V) (H : Hp) : Prop := ∃ j : Int, vs = [.int j] ∧ -(2 ^ 62) ≤ j ∧ j < 2 ^ 62 ∧ ∃ W : Nat → Nat → L2.St → Hp → Prop, (∃ m, W 0 m σ H) ∧ ∀ i m σ H, W i m σ H →
  ((Itr 0 j.toNat).stop i H ∧ D.nx σ H) ∨ ((Itr 0 j.toNat).go i H ∧ ∃ N : L2.St → Hp → Prop, (∀ σ' H', N σ' H' → ∃ m', m' < m ∧ W (i + 1) m' σ' H') ∧ ∀ x H', (Itr 0 j.toNat).yld i H x H' → G x σ H' fun σ2 H2 => ts { D with nx := N, ct := N, bk := D.nx } σ2 H2)
def ForR2 (G : TG) (ts : TS) (D : Ends) (σ : L2.St) (vs : List V) (H : Hp) : Prop := ∃ i j : Int, vs = [.int i, .int j] ∧ (-(2 ^ 62) ≤ i ∧ i < 2 ^ 62 ∧ -(2 ^ 62) ≤ j ∧ j < 2 ^ 62) ∧ ∃ W : Nat → Nat → L2.St → Hp → Prop, (∃ m, W 0 m σ H) ∧ ∀ k m σ H, W k m σ H →
  ((Itr i (j - i).toNat).stop k H ∧ D.nx σ H) ∨ ((Itr i (j - i).toNat).go k H ∧ ∃ N : L2.St → Hp → Prop, (∀ σ' H', N σ' H' → ∃ m', m' < m ∧ W (k + 1) m' σ' H') ∧ ∀ x H', (Itr i (j - i).toNat).yld k H x H' → G x σ H' fun σ2 H2 => ts { D with nx := N, ct := N, bk := D.nx } σ2 H2)
def ForL (K : PySem.W.Frag) (G : TG) (ts : TS) (D : Ends) (σ : L2.St) (v : V) (H : Hp) : Prop := ∃ a, v = .ref a ∧ (∃ xs, SqL K H a xs) ∧ ∃ W : Nat → Nat → L2.St → Hp → Prop, (∃ m, W 0 m σ H) ∧ ∀ i m σ H, W i m σ H →
  ((Itl K a).stop i H ∧ D.nx σ H) ∨ ((Itl K a).go i H ∧ ∃ N : L2.St → Hp → Prop, (∀ σ' H', N σ' H' → ∃ m', m' < m ∧ W (i + 1) m' σ' H') ∧ ∀ x H', (Itl K a).yld i H x H' → G x σ H' fun σ2 H2 => ts { D with nx := N, ct := N, bk := D.nx } σ2 H2)
def ForT (K : PySem.W.Frag) (G : TG) (ts : TS) (D : Ends) (σ : L2.St) (v : V) (H : Hp) : Prop := ∃ a, v = .ref a ∧ (∃ xs, SqT K H a xs) ∧ ∃ W : Nat → Nat → L2.St → Hp → Prop, (∃ m, W 0 m σ H) ∧ ∀ i m σ H, W i m σ H →
  ((Itt K a).stop i H ∧ D.nx σ H) ∨ ((Itt K a).go i H ∧ ∃ N : L2.St → Hp → Prop, (∀ σ' H', N σ' H' → ∃ m', m' < m ∧ W (i + 1) m' σ' H') ∧ ∀ x H', (Itt K a).yld i H x H' → G x σ H' fun σ2 H2 => ts { D with nx := N, ct := N, bk := D.nx } σ2 H2)
section
variable {K : PySem.W.Frag} {σ : L2.St} {H : Hp} {Q : VK} {D : Ends} {te tl : TE} {tt c : TT} {ts : TS} {G : TG} {tas : TA} {v : V} {vs : List Nat}
theorem r_forR1 (k : tas σ H fun vs H1 => ForR1 G ts D σ vs H1) : tFor (iRng1 tas) G ts D σ H := k
theorem r_forR2 (k : tas σ H fun vs H1 => ForR2 G ts D σ vs H1) : tFor (iRng2 tas) G ts D σ H := k
theorem r_forL (k : tl σ H fun x H1 => ForL K G ts D σ x H1) : tFor (iList K tl) G ts D σ H := k
theorem r_forT (k : tl σ H fun x H1 => ForT K G ts D σ x H1) : tFor (iTup K tl) G ts D σ H := k
theorem forR1_go {j : Int} (Pv : Nat → L2.St → Hp → Prop) (hb : -(2 ^ 62) ≤ j ∧ j < 2 ^ 62) (h0 : Pv 0 σ H)
    (hs : ∀ (i : Nat) σ' H', (i : Int) < j → Pv i σ' H' → G (.int i) σ' H' fun σ2 H2 => ts { D with nx := Pv (i + 1), ct := Pv (i + 1), bk := D.nx } σ2 H2) (hd : ∀ σ' H', Pv j.toNat σ' H' → D.nx σ' H') : ForR1 G ts D σ [.int j] H :=
  ⟨j, rfl, hb.1, hb.2, for_range (lo := 0) Pv h0 (fun i σ' H' hi p => by rw [Int.zero_add]; exact hs i σ' H' (by omega) p) hd⟩
theorem forR2_go {i j : Int} (Pv : Nat → L2.St → Hp → Prop) (hb : -(2 ^ 62) ≤ i ∧ i < 2 ^ 62 ∧ -(2 ^ 62) ≤ j ∧ j < 2 ^ 62) (h0 : Pv 0 σ H)
    (hs : ∀ (k : Nat) σ' H', i + (k : Int) < j → Pv k σ' H' → G (.int (i + k)) σ' H' fun σ2 H2 => ts { D with nx := Pv (k + 1), ct := Pv (k + 1), bk := D.nx } σ2 H2) (hd : ∀ σ' H', Pv (j - i).toNat σ' H' → D.nx σ' H') : ForR2 G ts D σ [.int i, .int j] H :=
  ⟨i, j, rfl, hb, for_range (lo := i) Pv h0 (fun k σ' H' hi p => hs k σ' H' (by omega) p) hd⟩
theorem forL_go {a : Addr} {xs : List V} (Pv : Nat → L2.St → Hp → Prop) (hx : SqL K H a xs) (h0 : Pv 0 σ H) (hl : ∀ i σ' H', i ≤ xs.length → Pv i σ' H' → SqL K H' a xs)
    (hs : ∀ i x σ' H', xs[i]? = some x → Pv i σ' H' → G x σ' H' fun σ2 H2 => ts { D with nx := Pv (i + 1), ct := Pv (i + 1), bk := D.nx } σ2 H2) (hd : ∀ σ' H', Pv xs.length σ' H' → D.nx σ' H') : ForL K G ts D σ (.ref a) H :=
  ⟨a, rfl, ⟨xs, hx⟩, for_list Pv h0 hl hs hd⟩
theorem forT_go {a : Addr} {xs : List V} (Pv : Nat → L2.St → Hp → Prop) (hx : SqT K H a xs) (h0 : Pv 0 σ H) (hl : ∀ i σ' H', i ≤ xs.length → Pv i σ' H' → SqT K H' a xs)
    (hs : ∀ i x σ' H', xs[i]? = some x → Pv i σ' H' → G x σ' H' fun σ2 H2 => ts { D with nx := Pv (i + 1), ct := Pv (i + 1), bk := D.nx } σ2 H2) (hd : ∀ σ' H', Pv xs.length σ' H' → D.nx σ' H') : ForT K G ts D σ (.ref a) H :=
  ⟨a, rfl, ⟨xs, hx⟩, for_tup Pv h0 hl hs hd⟩
theorem r_while (W : Nat → L2.St → Hp → Prop) {m0 : Nat} (h0 : W m0 σ H)
    (hs : ∀ m σ' H', W m σ' H' → c σ' H' fun b H1 => if b = true then ∃ N : L2.St → Hp → Prop, (∀ σ2 H2, N σ2 H2 → ∃ m', m' < m ∧ W m' σ2 H2) ∧ ts { D with nx := N, ct := N, bk := D.nx } σ' H1 else D.nx σ' H1) : tWhile c ts D σ H := ⟨W, ⟨m0, h0⟩, hs⟩
theorem r_turn {B : L2.St → Hp → Prop} {R : VK} {Bk : L2.St → Hp → Prop} (k : ts { nx := B, rt := R, bk := Bk, ct := B } σ H) :
    ∃ N : L2.St → Hp → Prop, (∀ σ2 H2, N σ2 H2 → B σ2 H2) ∧ ts { nx := N, rt := R, bk := Bk, ct := N } σ H := ⟨_, fun _ _ h => h, k⟩
end
/-! ### comprehensions -/
section
variable {K : PySem.W.Frag} {σ : L2.St} {H : Hp} {Q : VK} {te tl : TE} {tt : TT} {G : TG} {tas : TA} {v : V} {vs : List Nat} {QB : Bool → Hp → Prop}
def CompW (J : It) (G : TG) (tt : TT) (te : TE) (vs : List Nat) (σ : L2.St) (Q : VK) (H1 : Hp) : Prop := ∀ D, H1 D = none → ∃ W : Nat → Nat → Hp → Prop, (∃ m, W 0 m (upd H1 D (.lst []))) ∧ ∀ i m H, W i m H → (J.stop i H ∧ Q (.ref D) H) ∨ (J.go i H ∧ ∃ Nx : Hp → Prop, (∀ H', Nx H' → ∃ m', m' < m ∧ W (i + 1) m' H') ∧
  ∀ x H', J.yld i H x H' → G x (wipe σ vs) H' fun σ2 H2 => wipe σ2 vs = wipe σ vs ∧ tt σ2 H2 fun b H3 => if b = true then te σ2 H3 fun y H4 => ∃ acc, H4 D = some (.lst acc) ∧ acc.length < sizeLine ∧ Nx (upd H4 D (.lst (acc ++ [y]))) else Nx H3)
def CompR1 (G : TG) (tt : TT) (te : TE) (vs : List Nat) (σ : L2.St) (Q : VK) (us : List V) (H1 : Hp) : Prop := ∃ j : Int, us = [.int j] ∧ -(2 ^ 62) ≤ j ∧ j < 2 ^ 62 ∧ CompW (Itr 0 j.toNat) G tt te vs σ Q H1
def CompL (K : PySem.W.Frag) (G : TG) (tt : TT) (te : TE) (vs : List Nat) (σ : L2.St) (Q : VK) (x : V) (H1 : Hp) : Prop := ∃ a, x = .ref a ∧ (∃ xs, SqL K H1 a xs) ∧ CompW (Itl K a) G tt te vs σ Q H1
def CompT (K : PySem.W.Frag) (G : TG) (tt : TT) (te : TE) (vs : List Nat) (σ : L2.St) (Q : VK) (x : V) (H1 : Hp) : Prop := ∃ a, x = .ref a ∧ (∃ xs, SqT K H1 a xs) ∧ CompW (Itt K a) G tt te vs σ Q H1
theorem r_lcR1 (k : tas σ H fun us H1 => CompR1 G tt te vs σ Q us H1) : tLc (iRng1 tas) G tt te vs σ H Q := k
theorem r_lcL (k : tl σ H fun x H1 => CompL K G tt te vs σ Q x H1) : tLc (iList K tl) G tt te vs σ H Q := k
theorem r_lcT (k : tl σ H fun x H1 => CompT K G tt te vs σ Q x H1) : tLc (iTup K tl) G tt te vs σ H Q := k
theorem r_wipe {σ2 : L2.St} {R : Prop} (h : wipe σ2 vs = wipe σ vs) (k : R) : wipe σ2 vs = wipe σ vs ∧ R := ⟨h, k⟩
theorem r_gNameW {i : Nat} {σ' : L2.St} {Q : L2.St → Hp → Prop} (h : wipe σ vs = σ') (k : gName i v σ' H Q) : gName i v (wipe σ vs) H Q := by rw [h]; exact k
theorem r_yes (k : QB true H) : tYes σ H QB := k
/-- the reading of one item, told with the list so far: P of the turn's number, the items made, the heap -/
def CompTurn (G : TG) (tt : TT) (te : TE) (vs : List Nat) (σ : L2.St) (D : Addr) (Nx : List V → Hp → Prop) (acc : List V) (x : V) (H : Hp) : Prop :=
  G x (wipe σ vs) H fun σ2 H2 => wipe σ2 vs = wipe σ vs ∧ tt σ2 H2 fun b H3 => if b = true then te σ2 H3 fun y H4 => H4 D = some (.lst acc) ∧ acc.length < sizeLine ∧ Nx (acc ++ [y]) (upd H4 D (.lst (acc ++ [y]))) else Nx acc H3
theorem lcR1_go {j : Int} (Pv : Addr → Nat → List V → Hp → Prop) (hb : -(2 ^ 62) ≤ j ∧ j < 2 ^ 62) (h0 : ∀ D, H D = none → Pv D 0 [] (upd H D (.lst [])))
    (hs : ∀ D (i : Nat) acc H', (i : Int) < j → H' D = some (.lst acc) → Pv D i acc H' → G (.int i) (wipe σ vs) H' fun σ2 H2 => wipe σ2 vs = wipe σ vs ∧ tt σ2 H2 fun b H3 =>
      if b = true then te σ2 H3 fun y H4 => ∃ acc, H4 D = some (.lst acc) ∧ acc.length < sizeLine ∧ (∃ ac, (upd H4 D (.lst (acc ++ [y]))) D = some (.lst ac) ∧ Pv D (i + 1) ac (upd H4 D (.lst (acc ++ [y])))) else ∃ ac, H3 D = some (.lst ac) ∧ Pv D (i + 1) ac H3)
    (hd : ∀ D acc H', H D = none → H' D = some (.lst acc) → Pv D j.toNat acc H' → Q (.ref D) H') : CompR1 G tt te vs σ Q [.int j] H :=
  ⟨j, rfl, hb.1, hb.2, fun D hD => lc_range (lo := 0) (fun i H' => ∃ acc, H' D = some (.lst acc) ∧ Pv D i acc H') ⟨[], upd_same, h0 D hD⟩ (fun i H' hi ⟨acc, ha, p⟩ => by rw [Int.zero_add]; exact hs D i acc H' (by omega) ha p) fun H' ⟨acc, ha, p⟩ => hd D acc H' hD ha p⟩
theorem lcL_go {a : Addr} {xs : List V} (Pv : Addr → Nat → List V → Hp → Prop) (hx : SqL K H a xs) (h0 : ∀ D, H D = none → Pv D 0 [] (upd H D (.lst []))) (hl : ∀ D i acc H', i ≤ xs.length → Pv D i acc H' → SqL K H' a xs)
    (hs : ∀ D (i : Nat) x acc H', xs[i]? = some x → H' D = some (.lst acc) → Pv D i acc H' → G x (wipe σ vs) H' fun σ2 H2 => wipe σ2 vs = wipe σ vs ∧ tt σ2 H2 fun b H3 =>
      if b = true then te σ2 H3 fun y H4 => ∃ acc, H4 D = some (.lst acc) ∧ acc.length < sizeLine ∧ (∃ ac, (upd H4 D (.lst (acc ++ [y]))) D = some (.lst ac) ∧ Pv D (i + 1) ac (upd H4 D (.lst (acc ++ [y])))) else ∃ ac, H3 D = some (.lst ac) ∧ Pv D (i + 1) ac H3)
    (hd : ∀ D acc H', H D = none → H' D = some (.lst acc) → Pv D xs.length acc H' → Q (.ref D) H') : CompL K G tt te vs σ Q (.ref a) H :=
  ⟨a, rfl, ⟨xs, hx⟩, fun D hD => lc_list (xs := xs) (fun i H' => ∃ acc, H' D = some (.lst acc) ∧ Pv D i acc H') ⟨[], upd_same, h0 D hD⟩ (fun i H' hi ⟨acc, ha, p⟩ => hl D i acc H' hi p) (fun i x H' hi ⟨acc, ha, p⟩ => hs D i x acc H' hi ha p) fun H' ⟨acc, ha, p⟩ => hd D acc H' hD ha p⟩
theorem lcT_go {a : Addr} {xs : List V} (Pv : Addr → Nat → List V → Hp → Prop) (hx : SqT K H a xs) (h0 : ∀ D, H D = none → Pv D 0 [] (upd H D (.lst []))) (hl : ∀ D i acc H', i ≤ xs.length → Pv D i acc H' → SqT K H' a xs)
    (hs : ∀ D (i : Nat) x acc H', xs[i]? = some x → H' D = some (.lst acc) → Pv D i acc H' → G x (wipe σ vs) H' fun σ2 H2 => wipe σ2 vs = wipe σ vs ∧ tt σ2 H2 fun b H3 =>
      if b = true then te σ2 H3 fun y H4 => ∃ acc, H4 D = some (.lst acc) ∧ acc.length < sizeLine ∧ (∃ ac, (upd H4 D (.lst (acc ++ [y]))) D = some (.lst ac) ∧ Pv D (i + 1) ac (upd H4 D (.lst (acc ++ [y])))) else ∃ ac, H3 D = some (.lst ac) ∧ Pv D (i + 1) ac H3)
    (hd : ∀ D acc H', H D = none → H' D = some (.lst acc) → Pv D xs.length acc H' → Q (.ref D) H') : CompT K G tt te vs σ Q (.ref a) H :=
  ⟨a, rfl, ⟨xs, hx⟩, fun D hD => lc_tup (xs := xs) (fun i H' => ∃ acc, H' D = some (.lst acc) ∧ Pv D i acc H') ⟨[], upd_same, h0 D hD⟩ (fun i H' hi ⟨acc, ha, p⟩ => hl D i acc H' hi p) (fun i x H' hi ⟨acc, ha, p⟩ => hs D i x acc H' hi ha p) fun H' ⟨acc, ha, p⟩ => hd D acc H' hD ha p⟩
/-- an item is kept: behind te, the list is known -/
theorem lc_put {D : Addr} {acc : List V} {y : V} {P : List V → List V → Prop} {H4 : Hp} (h : H4 D = some (.lst acc)) (hz : acc.length < sizeLine) (k : P acc (acc ++ [y])) :
    ∃ acc, H4 D = some (.lst acc) ∧ acc.length < sizeLine ∧ (∃ ac, (upd H4 D (.lst (acc ++ [y]))) D = some (.lst ac) ∧ P acc ac) := ⟨acc, h, hz, _, upd_same, k⟩
end
/-! ### lists, displays -/
section
variable {K : PySem.W.Frag} {H : Hp} {Q : VK}
theorem Keep.out {M : List Addr} {H H' : Hp} {a : Addr} {o : HO} (h : Keep M H H') (n : a ∉ M) (e : H a = some o) : H' a = some o := h a o n e
theorem getD_all {p : Int → Prop} {P : List Int} {i : Nat} (h : ∀ x ∈ P, p x) (hi : i < P.length) : p (P.getD i 0) := by
  rw [List.getD_eq_getElem?_getD, List.getElem?_eq_getElem hi]; exact h _ (List.getElem_mem hi)
theorem r_slL {a : Addr} {xs : List V} {lo hi : Option Int} (h : SqL K H a xs) (k : ∀ p, H p = none → Q (.ref p) (upd H p (.lst (cutV xs lo hi)))) : rSlL K (.ref a) lo hi H Q := ⟨a, xs, rfl, h, k⟩
theorem r_cat {l b : Addr} {xs zs : List V} (h : H l = some (.lst xs)) (h2 : H b = some (.lst zs)) (hz : xs.length + zs.length ≤ sizeLine) (k : ∀ p, H p = none → Q (.ref p) (upd H p (.lst (xs ++ zs)))) : rCat (.ref l) (.ref b) H Q :=
  ⟨l, b, xs, zs, rfl, rfl, h, h2, hz, k⟩
theorem r_listL {p : Addr} {xs : List V} {F : List V → Prop} (h : SqL K H p xs) (k : F xs) : ∃ q ys, [V.ref p] = [.ref q] ∧ (SqL K H q ys ∨ SqT K H q ys) ∧ F ys := ⟨p, xs, rfl, .inl h, k⟩
theorem r_tPart {te : TE} {σ : L2.St} {QO : Option Int → Hp → Prop} (k : te σ H fun v H1 => ∃ i, v = .int i ∧ QO (some i) H1) : tPart te σ H QO := k
theorem r_noPart {σ : L2.St} {QO : Option Int → Hp → Prop} (k : QO none H) : tNoPart σ H QO := k
theorem r_gcd {a b : Int} (k : Q (.int ((Nat.gcd a.natAbs b.natAbs : Nat) : Int)) H) : rGcd [.int a, .int b] H Q := ⟨a, b, rfl, k⟩
theorem r_iteNT1 {A B : Prop} (k : B) : if (!true) = true then A else B := by rw [if_neg (by decide)]; exact k
theorem r_iteNF1 {A B : Prop} (k : A) : if (!false) = true then A else B := by rw [if_pos (by decide)]; exact k
theorem kit_ii : kitB "int" "int" = some true := by decide +kernel
theorem kit_ib : kitB "int" "bool" = some false := by decide +kernel
theorem kit_bi : kitB "bool" "int" = some true := by decide +kernel
theorem kit_bb : kitB "bool" "bool" = some true := by decide +kernel
theorem kit_tt : kitB "tuple" "tuple" = some true := by decide +kernel
theorem kit_ss : kitB "str" "str" = some true := by decide +kernel
theorem kit_ll : kitB "list" "list" = some true := by decide +kernel
theorem kit_dd : kitB "dict" "dict" = some true := by decide +kernel
theorem kit_nt : kitB "NoneType" "tuple" = some false := by decide +kernel
theorem kit_ni : kitB "NoneType" "int" = some false := by decide +kernel
theorem kit_is : kitB "int" "str" = some false := by decide +kernel
theorem kit_si : kitB "str" "int" = some false := by decide +kernel
theorem kit_it : kitB "int" "tuple" = some false := by decide +kernel
theorem mulw {i j : Int} (a b : Nat) (ha : i.natAbs < 2 ^ a) (hb : j.natAbs < 2 ^ b) (h0 : 0 < a := by decide) (h1 : 0 < b := by decide) (h : a + b ≤ 1000000 := by decide) : CMul i j ∨ CMulW i j := .inr (wide_mul ha hb h0 h1 h)
theorem r_callSD {sp : Sp} {dvs : List V} {E : L2.St → XK} {tas : TA} {σ : L2.St} (k : tas σ H fun vs H1 => sp (vs ++ dvs) H1 Q (E σ)) : tCallSD sp dvs E tas σ H Q := k
theorem exm_ZD {K : PySem.W.Frag} : PySem.W.exmOne K (.type "ZeroDivisionError") (.type "ZeroDivisionError") = some true := by kernel_rfl
theorem r_par {i j : Nat} {ta : TA} {D : Ends} {σ : L2.St} (k : ta σ H fun vs H1 => ∃ v w, vs = [v, w] ∧ gName i v σ H1 fun σ1 H2 => gName j w σ1 H2 D.nx) : tPar i j ta D σ H := k
theorem r_exP {x y : V} {F : V → V → Prop} (k : F x y) : ∃ v w, [x, y] = [v, w] ∧ F v w := ⟨x, y, rfl, k⟩
theorem r_bm {T : String} {r : V → List V → Hp → VK → Prop} {to : TE} {ta : TA} {σ : L2.St} (k : to σ H fun x H1 => tyV K T x H1 ∧ ta σ H1 fun xs H2 => r x xs H2 Q) : tBM K T r to ta σ H Q := k
theorem r_tyL {p : Addr} {xs : List V} {R : Prop} (h : SqL K H p xs) (k : R) : tyV K "list" (.ref p) H ∧ R := ⟨.inl ⟨rfl, xs, h⟩, k⟩
theorem r_app {l : Addr} {xs : List V} {y : V} (h : H l = some (.lst xs)) (hz : xs.length < sizeLine) (k : Q .non (upd H l (.lst (xs ++ [y])))) : rAppend (.ref l) [y] H Q := ⟨l, xs, y, rfl, rfl, h, hz, k⟩
theorem r_exI {i : Int} {F : Int → Prop} (k : F i) : ∃ j, V.int i = .int j ∧ F j := ⟨i, rfl, k⟩
end
theorem start_cc {n : Str} {N : List Str} {v : V} {vs : List V} : L2.start (n :: N) (v :: vs) = some v :: L2.start N vs := by
  unfold L2.start
  rw [List.map_cons, List.length_cons, List.length_cons, Nat.add_sub_add_right, List.cons_append]
theorem start_cn {n : Str} {N : List Str} : L2.start (n :: N) [] = none :: L2.start N [] := rfl
theorem start_nn : L2.start [] [] = [] := rfl
theorem atI_map {P : List Int} {i : Int} (h0 : 0 ≤ i) (h1 : i < P.length) : atI (P.map V.int) i = some (.int (P.getD i.toNat 0)) := by
  obtain ⟨n, rfl⟩ : ∃ n : Nat, i = n := ⟨i.toNat, by omega⟩
  refine atI_nat ?_
  have h2 : n < P.length := by omega
  rw [List.getElem?_map, List.getElem?_eq_getElem h2, Int.toNat_natCast, List.getD_eq_getElem?_getD, List.getElem?_eq_getElem h2]; rfl
theorem ixN_of {n : Nat} {i : Int} (h0 : 0 ≤ i) (h1 : i < n) : ixN n i = some i.toNat := by
  unfold ixN; rw [if_pos h0, if_pos h1]
/-- sizes of ints -/
theorem log2_of {i : Int} {n : Nat} (h : i.natAbs < 2 ^ n) (h0 : 0 < n) : i.natAbs.log2 < n := PySem.Flt.log2_lt_of h0 h
theorem log_ok {j : Int} (n : Nat) (h : j.natAbs < 2 ^ n) (h0 : 0 < n := by decide) (h9 : n ≤ 9000 := by decide) : j.natAbs.log2 < 9000 := Nat.lt_of_lt_of_le (log2_of h h0) h9
theorem cmulw {i j : Int} (a b : Nat) (ha : i.natAbs < 2 ^ a) (hb : j.natAbs < 2 ^ b) (h0 : 0 < a := by decide) (h1 : 0 < b := by decide) (h : a + b ≤ 1000000 := by decide) : CMulW i j := wide_mul ha hb h0 h1 h
/-! ### == of flat rows -/
def fdV : V → PyData
  | .bl b => .bool b
  | .int i => .int i
  | .str x => .str x
  | _ => .none
def flatV : V → Bool
  | .non => true
  | .bl _ => true
  | .int _ => true
  | .str x => PyData.canLay0 (.str x)
  | _ => false
theorem dp_flat {K : PySem.W.Frag} {H : Hp} : ∀ {v : V}, flatV v = true → Dp K H v (fdV v)
  | .non, _ => .non
  | .bl b, _ => .bl b
  | .int i, _ => .int i
  | .str x, _ => .str x
theorem dp_flats {K : PySem.W.Frag} {H : Hp} : ∀ {xs : List V}, xs.all flatV = true → DpAll K H xs (xs.map fdV)
  | [], _ => .nil
  | v :: xs, h => by
    rw [List.all_cons, Bool.and_eq_true] at h
    exact .cons (dp_flat h.1) (dp_flats h.2)
theorem flat_lay : ∀ {v : V}, flatV v = true → (fdV v).canLay0 = true ∧ (fdV v).depth = 0
  | .non, _ => by simp [fdV, PyData.canLay0, PyData.depth]
  | .bl b, _ => by simp [fdV, PyData.canLay0, PyData.depth]
  | .int i, _ => by simp [fdV, PyData.canLay0, PyData.depth]
  | .str x, h => ⟨h, by simp [fdV, PyData.depth]⟩
theorem flats_lay : ∀ {xs : List V}, xs.all flatV = true → PyData.canLayAll0 (xs.map fdV) = true ∧ PyData.depthAll (xs.map fdV) = 0
  | [], _ => by simp [PyData.canLayAll0, PyData.depthAll]
  | v :: xs, h => by
    rw [List.all_cons, Bool.and_eq_true] at h
    have a := flat_lay h.1
    have b := flats_lay h.2
    simp [PyData.canLayAll0, PyData.depthAll, a.1, a.2, b.1, b.2]
theorem shaped_flat {xs : List V} (h : xs.all flatV = true) : SeqAt.shaped (.list (xs.map fdV)) = true ∧ SeqAt.shaped (.tuple (xs.map fdV)) = true := by
  have b := flats_lay h
  constructor <;> simp [SeqAt.shaped, PyData.canLay0, PyData.depth, b.1, b.2]
theorem eqv_flat : ∀ {v : V}, flatV v = true → PyData.eqv (fdV v) (fdV v) = true
  | .non, _ => by simp [fdV, PyData.eqv]
  | .bl b, _ => by simp [fdV, PyData.eqv]
  | .int i, _ => by simp [fdV, PyData.eqv]
  | .str x, _ => by simp [fdV, PyData.eqv]
theorem eqv_flats : ∀ {xs : List V}, xs.all flatV = true → PyData.eqvAll (xs.map fdV) (xs.map fdV) = true
  | [], _ => by simp [PyData.eqvAll]
  | v :: xs, h => by
    rw [List.all_cons, Bool.and_eq_true] at h
    simp [PyData.eqvAll, eqv_flat h.1, eqv_flats h.2]
section
variable {K : PySem.W.Frag} {H : Hp} {Q : VK} {p q : Addr} {xs ys : List V} {b : Bool}
theorem eqvL {xs ys : List PyData} : PyData.eqv (.list xs) (.list ys) = PyData.eqvAll xs ys := by simp [PyData.eqv]
theorem eqvT {xs ys : List PyData} : PyData.eqv (.tuple xs) (.tuple ys) = PyData.eqvAll xs ys := by simp [PyData.eqv]
theorem r_eqL (hp : SqL K H p xs) (hq : SqL K H q ys) (fx : xs.all flatV = true) (fy : ys.all flatV = true) (hb : PyData.eqvAll (xs.map fdV) (ys.map fdV) = b) (k : Q (.bl b) H) : rEqD K (.ref p) (.ref q) H Q :=
  ⟨_, _, .lst hp (dp_flats fx), .lst hq (dp_flats fy), (shaped_flat fx).1, (shaped_flat fy).1, by rw [eqvL, hb]; exact k⟩
theorem r_eqT (hp : SqT K H p xs) (hq : SqT K H q ys) (fx : xs.all flatV = true) (fy : ys.all flatV = true) (hb : PyData.eqvAll (xs.map fdV) (ys.map fdV) = b) (k : Q (.bl b) H) : rEqD K (.ref p) (.ref q) H Q :=
  ⟨_, _, .tup hp (dp_flats fx), .tup hq (dp_flats fy), (shaped_flat fx).2, (shaped_flat fy).2, by rw [eqvT, hb]; exact k⟩
theorem r_neL (hp : SqL K H p xs) (hq : SqL K H q ys) (fx : xs.all flatV = true) (fy : ys.all flatV = true) (hb : PyData.eqvAll (xs.map fdV) (ys.map fdV) = b) (k : Q (.bl (!b)) H) : rNeD K (.ref p) (.ref q) H Q :=
  ⟨_, _, .lst hp (dp_flats fx), .lst hq (dp_flats fy), (shaped_flat fx).1, (shaped_flat fy).1, by rw [eqvL, hb]; exact k⟩
theorem r_neT (hp : SqT K H p xs) (hq : SqT K H q ys) (fx : xs.all flatV = true) (fy : ys.all flatV = true) (hb : PyData.eqvAll (xs.map fdV) (ys.map fdV) = b) (k : Q (.bl (!b)) H) : rNeD K (.ref p) (.ref q) H Q :=
  ⟨_, _, .tup hp (dp_flats fx), .tup hq (dp_flats fy), (shaped_flat fx).2, (shaped_flat fy).2, by rw [eqvT, hb]; exact k⟩
end
/-! ### rules whose reading names K, told for a context that hides it (a comprehension, an except suite) -/
section
variable {X : Cx} {K : PySem.W.Frag}
theorem ix_listK (hK : X.K = K) : IxR X (rIxL K) := by subst hK; exact ix_list
theorem ix_tupK (hK : X.K = K) : IxR X (rIxT K) := by subst hK; exact ix_tup
theorem op_in_seqK (hK : X.K = K) : OpR X (compareOp .In) (rIn K false) := by subst hK; exact op_in_seq
theorem op_notIn_seqK (hK : X.K = K) : OpR X (compareOp .NotIn) (rIn K true) := by subst hK; exact op_notIn_seq
theorem call_len_seqK (hK : X.K = K) : CallR X (.builtin "len") (fun xs H Q => ∃ p ys, xs = [.ref p] ∧ (SqL K H p ys ∨ SqT K H p ys) ∧ Q (.int ys.length) H) := by subst hK; exact call_len_seq
theorem call_isiK (hK : X.K = K) : CallR X (.builtin "isinstance") (rIsi K) := by subst hK; exact call_isi
end
section
variable {H : Hp}
def rIsN : R2 := fun x y H Q => y = .non ∧ Q (.bl (decide (x = .non))) H
def rNoN : R2 := fun x y H Q => y = .non ∧ Q (.bl (!decide (x = .non))) H
theorem op_isNc {X : Cx} : OpR X (compareOp .Is) rIsN := op_isN
theorem op_notNc {X : Cx} : OpR X (compareOp .IsNot) rNoN := op_notN
theorem r_isN {Q : VK} (k : Q (.bl true) H) : rIsN (V.non) .non H Q := ⟨rfl, by rw [decide_eq_true rfl]; exact k⟩
theorem r_noN {Q : VK} (k : Q (.bl false) H) : rNoN (V.non) .non H Q := ⟨rfl, by rw [decide_eq_true rfl]; exact k⟩
theorem r_isI {i : Int} {Q : VK} (k : Q (.bl false) H) : rIsN (.int i) .non H Q := ⟨rfl, by rw [decide_eq_false (fun e => by cases e)]; exact k⟩
theorem r_noI {i : Int} {Q : VK} (k : Q (.bl true) H) : rNoN (.int i) .non H Q := ⟨rfl, by rw [decide_eq_false (fun e => by cases e)]; exact k⟩
theorem r_isR {p : Addr} {Q : VK} (k : Q (.bl false) H) : rIsN (.ref p) .non H Q := ⟨rfl, by rw [decide_eq_false (fun e => by cases e)]; exact k⟩
theorem r_noR {p : Addr} {Q : VK} (k : Q (.bl true) H) : rNoN (.ref p) .non H Q := ⟨rfl, by rw [decide_eq_false (fun e => by cases e)]; exact k⟩
theorem r_isS {x : Str} {Q : VK} (k : Q (.bl false) H) : rIsN (.str x) .non H Q := ⟨rfl, by rw [decide_eq_false (fun e => by cases e)]; exact k⟩
theorem r_noS {x : Str} {Q : VK} (k : Q (.bl true) H) : rNoN (.str x) .non H Q := ⟨rfl, by rw [decide_eq_false (fun e => by cases e)]; exact k⟩
theorem r_isB {b : Bool} {Q : VK} (k : Q (.bl false) H) : rIsN (.bl b) .non H Q := ⟨rfl, by rw [decide_eq_false (fun e => by cases e)]; exact k⟩
theorem r_noB {b : Bool} {Q : VK} (k : Q (.bl true) H) : rNoN (.bl b) .non H Q := ⟨rfl, by rw [decide_eq_false (fun e => by cases e)]; exact k⟩
theorem r_inL {K : PySem.W.Frag} {x : V} {p : Addr} {xs : List V} {Q : VK} (h : SqL K H p xs) (fx : L2.flatV x = true) (fs : xs.all L2.flatV = true) (k : Q (.bl (inV x xs)) H) : rIn K false x (.ref p) H Q := ⟨p, xs, rfl, .inl h, fx, fs, by simpa using k⟩
theorem r_ninL {K : PySem.W.Frag} {x : V} {p : Addr} {xs : List V} {Q : VK} (h : SqL K H p xs) (fx : L2.flatV x = true) (fs : xs.all L2.flatV = true) (k : Q (.bl (!inV x xs)) H) : rIn K true x (.ref p) H Q := ⟨p, xs, rfl, .inl h, fx, fs, by simpa using k⟩
theorem r_iteTT {A B : Prop} (k : A) : if true = true then A else B := by rw [if_pos rfl]; exact k
theorem r_iteFF {A B : Prop} (k : B) : if false = true then A else B := by rw [if_neg (by decide)]; exact k
end
/-! ### an own error over ValueError (through own classes) whose __init__ says super().__init__(a text), then stores its arguments -/
namespace Er
open PySem.W PySem.Calls PySem.HandSPX
section
variable {prog : Program} {w : World} {A : Around} {E : Value → Shared → Prop} {s : Shared} {K : Frag} {mg : Str → Option Value} {base : Heap} {m : Str → Option Value}
/-- what the written part says of the class at C: its __init__ at fI, the cell of __class__ at cc, the code at cda -/
structure Txt (P : Program) (K : Frag) (mg : Str → Option Value) (C fI cc cda : Addr) : Prop where
  cls : ∃ nm q N bs bm sn sub ab col dd k0 k1 k2 k3 k5, K.lookup C = some (excClassObj nm q C N bs bm true sn sub ab col dd k0 k1 k2 k3 k5 "ValueError.__new__") ∧ refsVE bm = true
  sa : findIn K (.ref C) "__setattr__" = some (some (.builtin "object.__setattr__"))
  iC : findIn K (.ref C) "__init__" = some (some (.ref fI))
  tI : typeIn K (.ref fI) = some (.type "function")
  cell : ∃ cl cld csl, K.lookup cc = some ⟨cl, cld, .cell (some (.ref C)), csl⟩
  code : ∃ ccl cdd vs ccs tf, K.lookup cda = some ⟨ccl, cdd, .fields vs, ccs⟩ ∧ vs[2]? = some (.str P.main.file tf)
  sup : ks_superIn K C C "__init__" = some (some (.builtin "ValueError.__init__"))
  supB : subIn K (.ref C) (.type "ValueError") = some true
  self : mroIn K C (.ref C) = some true
  opq : nsIn K cStatics "thirdparty.any" = some none
  mS : mg "super" = none
  top : (P.main.scope.names.lookup ("super" : Str)).isSome = false
theorem clsIn_of {C N : Addr} {nm q : Str} {bs bm : List Value} {hd : Bool} {sn : List Str} {sub : List Value} {ab : Bool} {col : Option Bool} {dd : Option Addr} {k0 k1 k2 k3 k5 : Option Value} {nw : String}
    (hC : K.lookup C = some (excClassObj nm q C N bs bm hd sn sub ab col dd k0 k1 k2 k3 k5 nw)) :
    clsIn K C = some { name := nm, bases := bs, mro := .ref C :: bm, ns := N, qualname := q, hasDict := hd, slotNames := sn, subclasses := sub, abstract := ab, collection := col, hasDel := false } := by
  unfold clsIn; rw [hC] <;> rfl
theorem call_mw {u e t0 C N : Addr} {nm q : Str} {bs bm : List Value} {hdct : Bool} {sn : List Str} {sub : List Value} {ab : Bool} {col : Option Bool} {dd : Option Addr} {k0 k1 k2 k3 k5 : Option Value} {h : Heap} {g : Array GenState} {d : Drawn} {t : Nat} {os : OsState} {rest : List Value} {Q : Value → Shared → Prop}
    (hC : h.get? C = some (excClassObj nm q C N bs bm hdct sn sub ab col dd k0 k1 k2 k3 k5 "ValueError.__new__")) (he : h.get? e = some (excObj C t0 none .none)) (hu : h.get? u = some (kxs_mw "ValueError.__init__" e)) (hrest : rest.length ≤ sizeLine)
    (hq : ∀ h' t1, (∀ b o, b ≠ e → h.get? b = some o → h'.get? b = some o) → h'.get? e = some (excObj C t1 none .none) → Q .none ⟨h', g, d, t, os⟩) :
    wpAny (model prog w) A (call (.ref u) rest) Q E ⟨h, g, d, t, os⟩ := by
  refine wpAny_call (codeAny_of_tree ?_)
  show wpAny _ A.in1 (callAny (.ref u) ⟨rest, []⟩) _ _ _
  simp only [callAny]
  refine wpAny_bind (wpAny_load hu ?_)
  simp only [kxs_mw, show (Value.type "method-wrapper" == Value.type "method" || Value.type "method-wrapper" == Value.type "builtin_function_or_method" || Value.type "method-wrapper" == Value.type "method-wrapper") = true by decide, if_true]
  refine KFB.if_so (by decide) ?_
  refine wpAny_bind (check_bound_init F.excBase_ValueError.toExcCallFacts hC he rfl ?_)
  refine wpAny_bind (wpAny_pure (wpAny_pure ?_))
  refine ⟨plainId_quiet F.excBase_ValueError.init.plain _, codeAny_builtin F.excBase_ValueError.initEntry ?_⟩
  exact exc_init_tree (cls := .ref C) (t0 := t0) (dv := none) (c2 := .none) (c3 := .none) (b4 := .bool false) he hrest fun h' k e' _ => hq h' _ k e'
theorem super_stmt {pl : Sem Bool} {C fI cc cda L x t0 : Addr} {fd : FuncData} {oc : Value} {od : Option Addr} {osl : Array (Option Value)} {ar : Arg} {q : Str} {scope : Scope} {body : List Stmt} {msg : Expr} {p0 p1 p2 p3 p4 : Pos} {Q : Flow → Shared → Prop}
    (T : Txt prog K mg C fI cc cda) (Mo : Mod K mg base) (kb : ∀ b o, base.get? b = some o → s.heap.get? b = some o)
    (hf : K.lookup fI = some ⟨oc, od, .func fd, osl⟩) (hp : (fd.params.posonlyargs ++ fd.params.args).head? = some ar) (har : ar.arg = "self")
    (hks : scope.names.lookup ("super" : Str) = some .globalImplicit) (hkc : scope.names.lookup ("__class__" : Str) = some .free) (hka : scope.names.lookup ("self" : Str) = some .local) (hk : scope.kind = .function)
    (hns : s.heap.Ns L m) (hv : m "self" = some (.ref x)) (hx : s.heap.get? x = some (excO C t0))
    (hmsg : ∀ (s' : Shared) (Q' : Value → Shared → Prop), s'.heap.Ns L m → (∀ (z : Str) tk n, Q' (.str z tk) { s' with toks := n }) → wpAny (model prog w) A (eval msg (ksEnv q scope L fI (.ref cda) cc)) Q' E s')
    (hq : ∀ h' tk t1, (∀ b o, b ≠ x → s.heap.get? b = some o → h'.get? b = some o) → h'.get? x = some (excO C t1) → Q .next { s with heap := h', toks := tk })
    (hin : interactive (ksEnv q scope L fI (.ref cda) cc) = false := by rfl)
    (he : starEach [msg] (ksEnv q scope L fI (.ref cda) cc) = (false, eval msg (ksEnv q scope L fI (.ref cda) cc)) :: starEach [] (ksEnv q scope L fI (.ref cda) cc) := by rfl)
    (hsw : swapsWith (.Call (.Attribute (.Call (.Name "super" p0) [] [] p1) "__init__" p2) [msg] [] p3) none p4.line (ksEnv q scope L fI (.ref cda) cc) = pure false := by rfl)
    (hmc : eval (.Call (.Attribute (.Call (.Name "super" p0) [] [] p1) "__init__" p2) [msg] [] p3) (ksEnv q scope L fI (.ref cda) cc) = (do
      let ov ← attributeBase (.Call (.Name "super" p0) [] [] p1) "__init__" (ksEnv q scope L fI (.ref cda) cc) (eval (.Call (.Name "super" p0) [] [] p1) (ksEnv q scope L fI (.ref cda) cc))
      standAt p2.atName
      let (f, first) ← holding [ov] (getMethod ov "__init__" pl)
      callWith p3 f first (backTo p3 (starEach [msg] (ksEnv q scope L fI (.ref cda) cc))) []) := by rfl) :
    PySem.wpAt (model prog w) A (.func body (ksEnv q scope L fI (.ref cda) cc)) (exec (.Expr (.Call (.Attribute (.Call (.Name "super" p0) [] [] p1) "__init__" p2) [msg] [] p3) p4) (ksEnv q scope L fI (.ref cda) cc)) Q E s := by
  obtain ⟨nm, q0, N, bs, bm, sn, sub, ab, col, dd, k0, k1, k2, k3, k5, hC, hbm⟩ := T.cls
  obtain ⟨cl, cld, csl, hcell⟩ := T.cell
  obtain ⟨ccl, cdd, vs, ccs, tf, hcode, hvs⟩ := T.code
  obtain ⟨mb, hb1, hb2⟩ := Mo.blt
  have X : K.In s.heap := Mo.kin.keeps kb
  have hcl := clsIn_of hC
  have hss : alongIn K "__init__" (((Value.ref C :: bm).dropWhile (· != .ref C)).drop 1) = some (some (.builtin "ValueError.__init__")) := by
    have z := T.sup
    unfold ks_superIn at z
    rw [hcl] at z
    exact z
  have Ix : InstAt s.heap x (excO C t0) C none := ⟨hx, rfl, rfl, trivial⟩
  have hxC : x ≠ C := ks_ne X Ix hcl
  obtain ⟨hh, g, d, t, os⟩ := s
  refine ks_wpAt_Expr_any (ks_wpAt_MethodCall (pl := pl) ?_ hmc) hin hsw
  refine ks_wpAt_super_base (env := ksEnv q scope L fI (.ref cda) cc) hks hkc rfl rfl (X _ _ hf) rfl hp rfl (X _ _ hcode) rfl hvs (beq_self_eq_true _) T.top ?_
  refine ks_loadName_global hk hks (loadGlobal_builtin (env := ksEnv q scope L fI (.ref cda) cc) (Mo.glob.keeps kb) T.mS (hb1.keeps kb) ((hb2 _ (by decide)).trans (by decide +kernel : bootBuiltins "super" = some (.type "super"))) ⟨rfl, ?_⟩)
  refine wpAny_loadName_free hk hkc rfl ⟨_, X _ _ hcell, rfl⟩ ?_
  rw [har]
  refine wpAny_loadName_local hk hka hns hv ?_
  refine ks_wpAny_isType_cls (X _ _ hC) rfl ⟨rfl, ?_⟩
  refine ks_wpAny_call_super (X _ _ hC) rfl hx rfl (fun c e => by cases e) (looks_mroIn X T.self) (fun h1 e1 kk1 => ?_)
  have X1 : K.In h1 := X.keeps kk1
  have hx1 := kk1 _ _ hx
  have I1 : InstAt h1 x (excO C t0) C none := ⟨hx1, rfl, rfl, trivial⟩
  refine kxs_getMethod kxs_ValueError e1 (looks_opaque X1 T.opq) (l₀ := .ref C :: bm) (fun A Q E s k q => wpAny_bind ((looks_clsIn X1 hcl) A _ E s k (wpAny_pure q))) rfl X1 hss (I1.type.andThen (looks_subIn X1 T.supB)) hxC rfl ?_
  have hns1 : (h1.push (kxs_mw "ValueError.__init__" x)).Ns L m := hns.keeps fun b o e => Heap.get?_push_of_some _ (kk1 b o e)
  rw [he]
  refine kxs_callWith (i := "ValueError.__init__") (x := x) rfl (evalArgs_plain (Calls.spliced_cons (hmsg _ _ hns1 fun z tk n => Calls.spliced_nil ⟨?_, ?_⟩)))
  · exact Heap.get?_push_size _ rfl
  · refine call_mw (Heap.get?_push_of_some _ (X1 _ _ hC)) (Heap.get?_push_of_some _ hx1) (Heap.get?_push_size _ rfl) (show 1 ≤ sizeLine by decide) fun h' t1 k e => ?_
    exact hq h' _ t1 (fun b o hb ho => k b o hb (Heap.get?_push_of_some _ (kk1 b o ho))) e
end
/-! ### the text -/
def TxE (prog : Program) (w : World) (env : Env) (m : Str → Option Value) (e : Expr) : Prop := ∀ (A : Around) (E : Value → Shared → Prop) (s : Shared) (Q : Value → Shared → Prop), s.heap.Ns env.locals m →
  (∀ (z : Str) tk n, z.length ≤ 100000 → Q (.str z tk) { s with toks := n }) → wpAny (model prog w) A (eval e env) Q E s
/-- what {x!r} is written of -/
def MsgV (v : Value) : Prop := (∃ i t, v = .int i t ∧ i.natAbs.log2 < 1920) ∨ ∃ y t, v = .str y t ∧ (reprText y).length ≤ 100000
section
variable {prog : Program} {w : World} {env : Env} {m : Str → Option Value}
theorem small_size {n : Nat} (h : n ≤ 100000) : n ≤ sizeLine := Nat.le_trans h (by decide)
theorem tx_const {z : Str} {k : Nat} {pos : Pos} (h : z.length ≤ 100000) : TxE prog w env m (.Constant (.str z) k pos) := fun A E s Q _ q => by
  rw [eval_Constant]
  exact wpAny_mkText (q z _ _ h)
theorem ld_name {A : Around} {E : Value → Shared → Prop} {s : Shared} {Q : Value → Shared → Prop} {x : Str} {p : Pos} {v : Value} (hn : s.heap.Ns env.locals m) (hv : m x = some v) (hk : env.scope.kind = .function) (hl : env.kindOf x = some .local) (h : Q v s) (hd : (x == ("__debug__" : Str)) = false := by decide) :
    wpAny (model prog w) A (eval (.Name x p) env) Q E s := wpAny_Name (wpAny_loadName_local hk hl hn hv h) hd
theorem tx_repr {x : Str} {p pos : Pos} {v : Value} (hv : m x = some v) (ok : MsgV v) (hk : env.scope.kind = .function) (hl : env.kindOf x = some .local) (hd : (x == ("__debug__" : Str)) = false := by decide) : TxE prog w env m (.FormattedValue (.Name x p) 114 none pos) := fun A E s Q hn q => by
  refine wpAny_FormattedValue_repr (ld_name hn hv hk hl ?_ hd)
  rcases ok with ⟨i, t, rfl, hz⟩ | ⟨y, t, rfl, hz⟩
  · have hl : (Str.ofString (toString i)).length ≤ 100000 := by
      have e := int_text_length_le (k := 1920) (by decide) hz
      rw [PySem.ofString_length]; omega
    exact pyReprObj_int hz (wpAny_formatField_str (q _ _ _ hl) (q _ _ _ hl) (small_size hl))
  · exact pyReprObj_str (wpAny_formatField_str (q _ _ _ hz) (q _ _ _ hz) (small_size hz)) (small_size hz)
inductive TxP (prog : Program) (w : World) (env : Env) (m : Str → Option Value) : List Expr → Prop where
  | nil : TxP prog w env m []
  | cons {e : Expr} {es : List Expr} (h : TxE prog w env m e) (r : TxP prog w env m es) : TxP prog w env m (e :: es)
theorem txp_run {es : List Expr} (h : TxP prog w env m es) : ∀ (A : Around) (E : Value → Shared → Prop) (acc : Str) (s : Shared) (R : Str → Shared → Prop), acc.length + 100000 * es.length ≤ sizeLine → s.heap.Ns env.locals m →
    (∀ out n, out.length ≤ sizeLine → R out { s with toks := n }) → Joins (model prog w) A E (evalEach es env) acc R s := by
  induction h with
  | nil =>
    intro A E acc s R hz hn k
    have e0 : evalEach [] env = [] := by first | rfl | simp [evalEach]
    rw [e0]
    exact k acc s.toks (by simpa using hz)
  | @cons e es he r ih =>
    intro A E acc s R hz hn k
    have e0 : evalEach (e :: es) env = eval e env :: evalEach es env := by first | rfl | simp [evalEach]
    rw [e0]
    rw [List.length_cons] at hz
    refine he A E s _ hn fun z tk n hl => ⟨z, tk, rfl, ?_, ?_⟩
    · rw [Str.length_append]; omega
    · refine ih A E (acc ++ z) { s with toks := n } R (by rw [Str.length_append]; omega) hn fun out n' ho => ?_
      exact k out n' ho
theorem tx_joined {v1 v2 : Expr} {rest : List Expr} {pos : Pos} {A : Around} {E : Value → Shared → Prop} {s : Shared} {Q : Value → Shared → Prop} (h : TxP prog w env m (v1 :: v2 :: rest)) (hz : 100000 * (v1 :: v2 :: rest).length ≤ sizeLine) (hn : s.heap.Ns env.locals m)
    (q : ∀ (z : Str) tk n, Q (.str z tk) { s with toks := n }) : wpAny (model prog w) A (eval (.JoinedStr (v1 :: v2 :: rest) pos) env) Q E s :=
  wpAny_JoinedStr (txp_run h A E Str.empty s _ (by rw [show Str.empty.length = 0 from rfl, Nat.zero_add]; exact hz) hn fun out n ho => ⟨ho, q out _ _⟩)
end
/-! ### __init__ of one argument -/
/-- the text of def __init__(self, f): super().__init__(msg); self.f = f -/
structure Sh1 (prog : Program) (w : World) (st : Stmt) (f : Str) : Prop where
  body : ∃ (msg : Expr) (p0 p1 p2 p3 p4 q1 q2 q3 q4 : Pos) (pl : Sem Bool), defBody st = [.Expr (.Call (.Attribute (.Call (.Name "super" p0) [] [] p1) "__init__" p2) [msg] [] p3) p4, .Assign [.Attribute (.Name "self" q1) f q2] (.Name f q3) q4] ∧
    (∀ (q : Str) (L fI cda cc : Addr) (m : Str → Option Value) (v : Value) (A : Around) (E : Value → Shared → Prop) (s : Shared) (Q : Value → Shared → Prop), m f = some v → MsgV v → s.heap.Ns L m → (∀ (z : Str) tk n, Q (.str z tk) { s with toks := n }) →
      wpAny (model prog w) A (eval msg (ksEnv q (defScope st) L fI (.ref cda) cc)) Q E s) ∧
    (∀ (q : Str) (L fI cda cc : Addr), interactive (ksEnv q (defScope st) L fI (.ref cda) cc) = false ∧ starEach [msg] (ksEnv q (defScope st) L fI (.ref cda) cc) = (false, eval msg (ksEnv q (defScope st) L fI (.ref cda) cc)) :: starEach [] (ksEnv q (defScope st) L fI (.ref cda) cc) ∧
      swapsWith (.Call (.Attribute (.Call (.Name "super" p0) [] [] p1) "__init__" p2) [msg] [] p3) none p4.line (ksEnv q (defScope st) L fI (.ref cda) cc) = pure false ∧
      eval (.Call (.Attribute (.Call (.Name "super" p0) [] [] p1) "__init__" p2) [msg] [] p3) (ksEnv q (defScope st) L fI (.ref cda) cc) = (do
        let ov ← attributeBase (.Call (.Name "super" p0) [] [] p1) "__init__" (ksEnv q (defScope st) L fI (.ref cda) cc) (eval (.Call (.Name "super" p0) [] [] p1) (ksEnv q (defScope st) L fI (.ref cda) cc))
        standAt p2.atName
        let (f, first) ← holding [ov] (getMethod ov "__init__" pl)
        callWith p3 f first (backTo p3 (starEach [msg] (ksEnv q (defScope st) L fI (.ref cda) cc))) []) ∧
      swapsWith (.Name f q3) (some (.Attribute (.Name "self" q1) f q2)) q4.line (ksEnv q (defScope st) L fI (.ref cda) cc) = pure false)
  head : ∃ ar, ((defArgs st).posonlyargs ++ (defArgs st).args).head? = some ar ∧ ar.arg = "self"
  ks : (defScope st).names.lookup ("super" : Str) = some .globalImplicit
  kc : (defScope st).names.lookup ("__class__" : Str) = some .free
  ka : (defScope st).names.lookup ("self" : Str) = some .local
  kf : (defScope st).names.lookup f = some .local
  fd : (f == ("__debug__" : Str)) = false
  fs : (("self" : Str) == f) = false
  k : (defScope st).kind = .function
  co : (defScope st).isCoroutine = false
  gen : (defScope st).isGenerator = false
  nocell : ∀ x ∈ (defScope st).names, x.2 ≠ .cell
  binds : ∀ (s : Shared) (x : Addr) (v : Value) (qual : Str) (doc pm : Value) (an : Option Addr) (cda cc : Addr) (ct : Value), BindsTo s (ksFn "__init__" qual (defArgs st) (defBody st) (defScope st) .none .none doc pm an (.ref cda) ct cc) ⟨[.ref x, v], []⟩ [("self", .ref x), (f, v)]
/-- what __init__ leaves of a fresh exception at x -/
structure IEnd (h h' : Heap) (x C dx t1 : Addr) (mA : Str → Option Value) : Prop where
  keep : ∀ b o, b ≠ x → h.get? b = some o → h'.get? b = some o
  obj : h'.get? x = some { cls := .ref C, dict := some dx, data := .fields #[.ref t1, .none, .none, .none, .bool false, .none] }
  dbig : h.objs.size ≤ dx
  dne : dx ≠ x
  ns : h'.Ns1 dx mA
section
variable {prog : Program} {w : World} {A : Around} {E : Value → Shared → Prop} {R : Result → Shared → Prop} {s : Shared} {K : Frag} {mg : Str → Option Value} {base : Heap}
theorem init1 {C fI cc cda x t0 : Addr} {st : Stmt} {f qual : Str} {oc doc pm ct : Value} {od an : Option Addr} {osl : Array (Option Value)} {v : Value} (S : Sh1 prog w st f) (T : Txt prog K mg C fI cc cda) (Mo : Mod K mg base) (kb : ∀ b o, base.get? b = some o → s.heap.get? b = some o)
    (hf : K.lookup fI = some ⟨oc, od, .func (ksFn "__init__" qual (defArgs st) (defBody st) (defScope st) .none .none doc pm an (.ref cda) ct cc), osl⟩) (hcd : codeIn K (.ref cda) qual = true) (noN : findIn K (.ref C) f = some none)
    (hx : s.heap.get? x = some (excO C t0)) (hnx : K.lookup x = none) (hroom : A.depth < recursionLimit) (ok : MsgV v)
    (hq : ∀ h' tk dx t1, IEnd s.heap h' x C dx t1 (fun y => if y = f then some v else none) → R (.ok (.ret .none)) { s with heap := h', toks := tk }) :
    codeAny (model prog w) A (.call (.ref fI) ⟨[.ref x, v], []⟩) R s := by
  obtain ⟨msg, p0, p1, p2, p3, p4, q1, q2, q3, q4, pl, hb, hmsg, hev⟩ := S.body
  obtain ⟨ar, har, hself⟩ := S.head
  obtain ⟨nm, q0, N, bs, bm, sn, sub, ab, col, dd, k0, k1, k2, k3, k5, hC, hbm⟩ := T.cls
  have hcl := clsIn_of hC
  have X : K.In s.heap := Mo.kin.keeps kb
  refine ks_codeAny_call_defAt (fd := ksFn "__init__" qual (defArgs st) (defBody st) (defScope st) .none .none doc pm an (.ref cda) ct cc) (body := defBody st) (binds := [("self", .ref x), (f, v)]) hroom (X _ _ hf) rfl (Mo.nolimit.keeps kb) (codeRec_of X hcd) rfl (S.binds s x v qual doc pm an cda cc ct) S.nocell (fun y hy => ?_) (fun h1 hns k1 => ?_) S.co S.gen S.k
  · rcases List.mem_cons.mp hy with rfl | hy
    · exact S.ka
    · rw [List.mem_singleton.mp hy]; exact S.kf
  · have hx1 := k1 _ _ hx
    have kb1 : ∀ b o, base.get? b = some o → h1.get? b = some o := fun b o e => k1 b o (kb b o e)
    obtain ⟨e0, e1, e2, e3, e4⟩ := hev qual s.heap.objs.size fI cda cc
    have hv1 : (fun y => List.lookup y [(("self" : Str), Value.ref x), (f, v)].reverse) "self" = some (.ref x) := by
      show List.lookup ("self" : Str) ([(f, v), (("self" : Str), Value.ref x)] : List (Str × Value)) = _
      simp [List.lookup, S.fs]
    have hv2 : (fun y => List.lookup y [(("self" : Str), Value.ref x), (f, v)].reverse) f = some v := by
      show List.lookup f ([(f, v), (("self" : Str), Value.ref x)] : List (Str × Value)) = _
      simp [List.lookup]
    show PySem.wpAt (model prog w) (A.deeper (ksEnv qual (defScope st) s.heap.objs.size fI (.ref cda) cc)) (.func (defBody st) (ksEnv qual (defScope st) s.heap.objs.size fI (.ref cda) cc)) (execs (defBody st) (ksEnv qual (defScope st) s.heap.objs.size fI (.ref cda) cc)) _ _ _
    generalize hbb : defBody st = bb at hb ⊢
    rw [hb]
    refine ks_wpAt_execs_cons (super_stmt (pl := pl) T Mo kb1 hf har hself S.ks S.kc S.ka S.k hns hv1 hx1 (fun s' Q' hn q => hmsg _ _ _ _ _ _ v _ _ _ _ hv2 ok hn q) (fun h2 tk2 t1 k2 hx2 => ?_) e0 e1 e2 e3)
    refine wpAt_of_wpAny ?_
    have hL : s.heap.objs.size ≠ x := Nat.ne_of_gt (Heap.lt_size hx)
    obtain ⟨oL, es, ep, hoL, hr⟩ := hns
    have hns2 : h2.Ns s.heap.objs.size (fun y => List.lookup y [(("self" : Str), Value.ref x), (f, v)].reverse) := ⟨oL, es, ep, k2 _ _ hL hoL, hr⟩
    have X2 : K.In h2 := fun b o e => k2 b o (fun z => by rw [z, hnx] at e; cases e) (k1 b o (X _ _ e))
    refine wpAny_execs_cons (plainObj_wpAny_Assign_Attribute ?_ e4)
    refine ld_name (v := v) hns2 hv2 S.k S.kf (ld_name (v := .ref x) hns2 hv1 S.k S.ka ?_) S.fd
    refine set_plain X2 (ox := excO C t1) (od := none) ⟨hx2, rfl, rfl, trivial⟩ T.sa ?_
    refine PySem.HandSPX.exc_osa X2 hx2 hcl (show refsVE (.ref C :: bm) = true from hbm) rfl noN (fun h3 tk3 dx k3 dn dne hx3 hn3 => ?_)
    have z : s.heap.objs.size ≤ h2.objs.size := Nat.le_of_lt (Heap.lt_size (k2 _ _ hL hoL))
    exact wpAny_execs_nil (hq h3 _ dx t1 ⟨fun b o hb e => k3 b o hb (k2 b o hb (k1 b o e)), hx3, Nat.le_trans z dn, dne, hn3⟩)
/-- a made error: its own dict d holds the field -/
structure Made (h h' : Heap) (e C d : Addr) (mA : Str → Option Value) : Prop where
  keep : ∀ b o, h.get? b = some o → h'.get? b = some o
  new : h.objs.size ≤ e
  obj : ∃ oe vs, h'.get? e = some oe ∧ oe.cls = .ref C ∧ oe.dict = some d ∧ oe.data = .fields vs ∧ vs[1]? = some .none
  dbig : h.objs.size ≤ d
  dne : d ≠ e
  ns : h'.Ns1 d mA
/-- all that is told of an own error class of one argument -/
structure Cls1 (prog : Program) (w : World) (K : Frag) (mg : Str → Option Value) (cn f : Str) (C : Addr) : Prop where
  ex : ∃ (fI cc cda : Addr) (st : Stmt) (qual : Str) (oc doc pm ct : Value) (od an : Option Addr) (osl : Array (Option Value)), Sh1 prog w st f ∧ Txt prog K mg C fI cc cda ∧
    K.lookup fI = some ⟨oc, od, .func (ksFn "__init__" qual (defArgs st) (defBody st) (defScope st) .none .none doc pm an (.ref cda) ct cc), osl⟩ ∧ codeIn K (.ref cda) qual = true
  gC : mg cn = some (.ref C)
  kC : keepIn K (.ref C) = true
  noN : findIn K (.ref C) f = some none
  exC : subIn K (.ref C) (.type "BaseException") = some true
  tyC : typeIn K (.ref C) = some (.type "type")
theorem one_size (v : Value) : [v].length ≤ sizeLine := by
  rw [sizeLine_eq]
  exact (by decide : 1 ≤ 16777216)
theorem made1 {cn f : Str} {C : Addr} {v : Value} (Z : Cls1 prog w K mg cn f C) (Mo : Mod K mg base) (kb : ∀ b o, base.get? b = some o → s.heap.get? b = some o) (hroom : A.depth + 1 < recursionLimit) (ok : MsgV v)
    (hq : ∀ h' tk e d, Made s.heap h' e C d (fun y => if y = f then some v else none) → R (.ok (.ret (.ref e))) { s with heap := h', toks := tk }) :
    codeAny (model prog w) A (.call (.ref C) ⟨[v], []⟩) R s := by
  obtain ⟨fI, cc, cda, st, qual, oc, doc, pm, ct, od, an, osl, S, T, hf, hcd⟩ := Z.ex
  obtain ⟨nm, q, N, bs, bm, sn, sub, ab, col, dd, k0, k1, k2, k3, k5, hC, hbm⟩ := T.cls
  have X : K.In s.heap := Mo.kin.keeps kb
  obtain ⟨hp, g, dr, tk, os⟩ := s
  have k : ∀ b o, hp.get? b = some o → ((hp.push (kdv_tup [v])).push (excO C hp.objs.size)).get? b = some o := fun b o e => Heap.get?_push_of_some _ (Heap.get?_push_of_some _ e)
  have hget : ((hp.push (kdv_tup [v])).push (excO C hp.objs.size)).get? (hp.objs.size + 1) = some (excO C hp.objs.size) := by heap_get
  have hnx : K.lookup (hp.objs.size + 1) = none := by
    cases e : K.lookup (hp.objs.size + 1) with
    | none => rfl
    | some o =>
      have z : hp.get? (hp.objs.size + 1) = some o := X _ _ e
      exact absurd (Nat.lt_of_succ_lt (Heap.lt_size z)) (Nat.lt_irrefl _)
  refine PySem.HandSPX.call_own F.excBase_ValueError (fun X => PySem.HandSPX.refsVE_contains X bm hbm) (X _ _ hC) (looks_findIn X T.iC) (fun self => bind_fn X self T.tI) (one_size v) ?_
  refine init1 (s := ⟨(hp.push (kdv_tup [v])).push (excO C hp.objs.size), g, dr, tk, os⟩) S T Mo (fun b o e => k b o (kb b o e)) hf hcd Z.noN hget hnx ?_ ok fun h' tk' dx t1 ⟨k', hx, dn, dne, hns⟩ => ?_
  · show A.depth + 1 < recursionLimit
    exact hroom
  · have old : ∀ b o, hp.get? b = some o → h'.get? b = some o := fun b o e => k' b o (Nat.ne_of_lt (Nat.lt_succ_of_lt (Heap.lt_size e))) (k b o e)
    have z : hp.objs.size + 1 + 1 ≤ dx := by
      first
        | (simpa only [Heap.size_push] using dn)
        | exact dn
        | (have q := dn; rw [Heap.size_push, Heap.size_push] at q; exact q)
    exact ⟨rfl, hq h' tk' (hp.objs.size + 1) dx ⟨old, Nat.le_succ _, ⟨_, _, hx, rfl, rfl, rfl, rfl⟩, Nat.le_trans (Nat.le_trans (Nat.le_succ _) (Nat.le_succ _)) z, dne, hns⟩⟩
end
theorem relO_one {f : Str} {v : V} {v' : Value} (r : RelV v v') (g : Str) : RelO (List.lookup g [(f, v)]) (if g = f then some v' else none) := by
  by_cases hw : g = f
  · subst hw
    rw [if_pos rfl]
    have q : List.lookup g [(g, v)] = some v := by simp [List.lookup]
    rw [q]
    exact r
  · rw [if_neg hw]
    have qw : (g == f) = false := by simpa using hw
    have q2 : List.lookup g [(f, v)] = none := by simp [List.lookup, qw]
    rw [q2]
    trivial
/-- what may be written in the message: ints below 2 ^ 1920, short texts -/
def MsgA (v : V) : Prop := (∃ i, v = .int i ∧ i.natAbs.log2 < 1920) ∨ ∃ y, v = .str y ∧ (reprText y).length ≤ 100000
theorem MsgA.v {v : V} {u : Value} (h : MsgA v) (r : RelV v u) : MsgV u := by
  rcases h with ⟨i, rfl, h⟩ | ⟨y, rfl, h⟩
  · obtain ⟨t, rfl⟩ := r; exact .inl ⟨i, t, rfl, h⟩
  · obtain ⟨t, rfl⟩ := r; exact .inr ⟨y, t, rfl, h⟩
section
variable {X : Cx} {C : Addr}
/-- the error of one argument, made -/
def tMk1 (C : Addr) (f : Str) (ta : TA) : L2.St → Hp → XK → Prop := fun σ H Q => ta σ H fun vs H1 => ∃ v, vs = [v] ∧ MsgA v ∧ ∀ d, H1 d = none → Q (.ref C) (some d) (upd H1 d (.xd [(f, v)]))
theorem pmk1 {cn f : Str} {a : Expr} {ta : TA} {p pos : Pos} {k : Nat} (Z : Cls1 X.prog X.w X.K X.mg cn f C) (hr : Room k X.A) (ha : PA X [a] ta) (hg : Gl X cn := by rfl) (hdb : (cn == ("__debug__" : Str)) = false := by decide)
    (he : starEach (a :: []) X.env = (false, eval a X.env) :: starEach [] X.env := by rfl) (hpl : (backTo pos (starEach [] X.env)).any (·.1) = false := by rfl) :
    PMk X (.Call (.Name cn p) [a] [] pos) (tMk1 C f ta) := by
  intro pins s σ H Q I h
  refine wpAny_Call_Name_kw (ld_glob I hg Z.gC ?_ hdb)
  refine PySem.W.callWith_K (h₀ := X.base) I.ok.mod.kin Z.kC (thn (ha.run pos pins s σ H _ I h) fun us s1 hh => ?_) he hpl
  obtain ⟨vs, H1, I1, r1, v, ev, hok, q1⟩ := hh
  subst ev
  refine ⟨I1.kIn, ?_⟩
  cases r1 with
  | cons rv rn =>
    rename_i v' us'
    cases rn
    show wpAny _ _ (call (.ref C) [v']) _ _ _
    have hbk := I1.bk
    obtain ⟨hp, g, dr, tk, os⟩ := s1
    refine wpAny_call (made1 Z I1.mod hbk (by have := hr.dp; omega) (hok.v rv) fun h' tk' e d M => ?_)
    show MkP X pins σ Q (.ref e) ⟨h', g, dr, tk', os⟩
    obtain ⟨oe, fv, hoe, hc, hd, hdat, h1⟩ := M.obj
    have hns := M.ns
    obtain ⟨G', g1, g2⟩ := restrict h' fun b => decide (b ≠ e)
    have gk : ∀ b, b ≠ e → G'.get? b = h'.get? b := fun b hb => g1 b (decide_eq_true hb)
    have ge : G'.get? e = none := g2 e (by simp)
    have old : ∀ b o, hp.get? b = some o → G'.get? b = some o := fun b o q => (gk b (Nat.ne_of_lt (Nat.lt_of_lt_of_le (Heap.lt_size q) M.new))).trans (M.keep b o q)
    have ob : ObjOk X.prog X.w (upd H1 d (.xd [(f, v)])) G' d (.xd [(f, v)]) :=
      ⟨_, hns.at (fun o q => (gk d M.dne).trans q), fun g => relO_one rv g⟩
    have J : Inv X pins σ (upd H1 d (.xd [(f, v)])) ⟨G', g, dr, tk', os⟩ := I1.laid (t' := tk') old M.dbig ob
    refine ⟨e, oe, fv, ⟨G', g, dr, tk', os⟩, _, .ref C, some d, rfl, J, fun b o q => ?_, ge, hoe, ⟨hc, hd⟩, hdat, h1, ?_, rfl, I1.bare, raises_own Z.exC Z.tyC, q1 d (I1.hok.fresh M.dbig)⟩
    · by_cases hb : b = e
      · have q' : G'.get? b = some o := q
        rw [hb, ge] at q'; cases q'
      · exact (gk b hb).symm.trans q
    · rw [upd_ne (Ne.symm M.dne)]
      exact I1.hok.fresh M.new
/-- raise C(e) -/
def tRaise1 (C : Addr) (f : Str) (W : WX) (ta : TA) : TS := fun _ σ H => tMk1 C f ta σ H fun cls d H' => W cls d σ H'
theorem ps_raise1 {cn f : Str} {a : Expr} {ta : TA} {W : WX} {p pos pos2 : Pos} {k : Nat} (hc : X.calm = true) (Z : Cls1 X.prog X.w X.K X.mg cn f C) (hr : Room k X.A) (tk : Takes X W) (ha : PA X [a] ta) (hg : Gl X cn := by rfl) (hdb : (cn == ("__debug__" : Str)) = false := by decide)
    (he : starEach (a :: []) X.env = (false, eval a X.env) :: starEach [] X.env := by rfl) (hpl : (backTo pos (starEach [] X.env)).any (·.1) = false := by rfl) :
    PS X (.Raise (some (.Call (.Name cn p) [a] [] pos)) none pos2) (tRaise1 C f W ta) := ps_raise hc tk (pmk1 Z hr ha hg hdb he hpl)
end
theorem r_raise1 {C : Addr} {f : Str} {W : WX} {ta : TA} {D : Ends} {σ : L2.St} {H : Hp} (k : ta σ H fun vs H1 => ∃ v, vs = [v] ∧ MsgA v ∧ ∀ d, H1 d = none → W (.ref C) (some d) σ (upd H1 d (.xd [(f, v)]))) : tRaise1 C f W ta D σ H := k
theorem r_msgI {i : Int} {F : V → Prop} (h : i.natAbs < 2 ^ 1000) (k : F (.int i)) : ∃ v, [V.int i] = [v] ∧ MsgA v ∧ F v := ⟨_, rfl, .inl ⟨i, rfl, Nat.lt_trans (log2_of h (by decide)) (by decide)⟩, k⟩
theorem r_xf {a C : Addr} {cls : Value} {d : Option Addr} {f : Str} {te : TE} {σ : L2.St} {H : Hp} {Q : VK}
    (k : te σ H fun x H1 => x = .ref a ∧ cls = .ref C ∧ ∃ (dd : Addr) (fs : List (Str × V)) (v : V), d = some dd ∧ H1 dd = some (.xd fs) ∧ fs.lookup f = some v ∧ Q v H1) : tXf a cls d C f te σ H Q := k
theorem r_xfE {a C dd : Addr} {f : Str} {H : Hp} {fs : List (Str × V)} {v : V} {Q : V → Prop} (hd : H dd = some (.xd fs)) (hv : fs.lookup f = some v) (k : Q v) :
    V.ref a = .ref a ∧ Value.ref C = .ref C ∧ ∃ (dd' : Addr) (fs : List (Str × V)) (v : V), some dd = some dd' ∧ H dd' = some (.xd fs) ∧ fs.lookup f = some v ∧ Q v := ⟨rfl, rfl, dd, fs, v, rfl, hd, hv, k⟩
theorem kit_self {K : PySem.W.Frag} {C : Addr} : PySem.W.kitOne K (.ref C) (.ref C) = some true := by
  unfold PySem.W.kitOne
  rw [if_pos (beq_self_eq_true _)]
theorem kit_refs {K : PySem.W.Frag} {C D : Addr} {b : Bool} (hdct : PySem.W.hasDictIn K D = true) (ht : PySem.W.typeIn K (.ref D) = some (.type "type")) (h4 : PySem.W.subIn K (.ref C) (.ref D) = some b) (hq : (Value.ref C == Value.ref D) = false) : PySem.W.kitOne K (.ref C) (.ref D) = some b := by
  obtain ⟨cd, hc, _⟩ := PySem.W.any_some hdct
  have e2 : ((PySem.W.clsIn K D).isSome && PySem.W.typeIn K (.ref D) == some (.type "type")) = true := by rw [hc, ht] <;> rfl
  unfold PySem.W.kitOne
  rw [if_neg (by rw [hq]; decide)]
  show (if ((PySem.W.clsIn K D).isSome && PySem.W.typeIn K (.ref D) == some (.type "type")) = true then PySem.W.subIn K (.ref C) (.ref D) else none) = some b
  rw [if_pos e2]
  exact h4
theorem kit_typ {K : PySem.W.Frag} {C : Addr} {T : String} {b : Bool} (hm : PySem.W.kitMeta T = true) (h4 : PySem.W.subIn K (.ref C) (.type T) = some b) : PySem.W.kitOne K (.ref C) (.type T) = some b := by
  unfold PySem.W.kitOne
  rw [if_neg (by show ¬ (Value.ref C == Value.type T) = true; intro z; cases (beq_iff_eq.mp z))]
  show (if PySem.W.kitMeta T = true then PySem.W.subIn K (.ref C) (.type T) else none) = some b
  rw [if_pos hm]
  exact h4
/-- the comparison within an except suite -/
theorem op_eqDK {X : Cx} {K : PySem.W.Frag} (hK : X.K = K) (hu : X.A.units + 64 < cLine) : OpR X (compareOp .Eq) (rEqD K) := by subst hK; exact op_eqD hu
theorem op_neDK {X : Cx} {K : PySem.W.Frag} (hK : X.K = K) (hu : X.A.units + 64 < cLine) : OpR X (compareOp .NotEq) (rNeD K) := by subst hK; exact op_neD hu
/-! ### isinstance(e, c), e a caught error of an own class with its dict -/
def rIsD (K : PySem.W.Frag) (a : Addr) (cls : Value) (d : Option Addr) : List V → Hp → VK → Prop := fun xs H Q => ∃ (D dd : Addr) (fs : List (Str × V)) (c : V) (cv : Value) (b : Bool), cls = .ref D ∧ d = some dd ∧ ExcC K D ∧ xs = [.ref a, c] ∧ H dd = some (.xd fs) ∧ (∀ u, RelV c u → u = cv) ∧ PySem.W.kitOne K (.ref D) cv = some b ∧ Q (.bl b) H
theorem call_isD {X : Cx} {a : Addr} {cls : Value} {d : Option Addr} {oe : Obj} {pn : List (Addr × Obj)} (hz : Zc cls d oe) (hf : ∃ vs, oe.data = .fields vs) : CallR (X.suite a ((a, oe) :: pn)) (.builtin "isinstance") (rIsD X.K a cls d) := by
  intro pins s σ H xs us Q I r h
  obtain ⟨D, dd, fs, c, cv, b, rfl, rfl, C, rfl, hdd, hcv, e, q⟩ := h
  cases r with
  | cons rx rr =>
    cases rr with
    | cons rt rr =>
      cases rr
      cases rx
      have ec := hcv _ rt
      subst ec
      obtain ⟨hget, _⟩ := I.pin (a, oe) (List.mem_append.mpr (.inl List.mem_cons_self))
      obtain ⟨vs, hv⟩ := hf
      have hx : ObjOk X.prog X.w H s.heap dd (.xd fs) := I.hok dd _ hdd
      obtain ⟨mA, ⟨od, es, ep, ho, hr⟩, hl⟩ := hx
      have J : PySem.W.InstAt s.heap a oe D (some od) := by
        refine ⟨hget, hz.1, by unfold PySem.W.notCls; rw [hv] <;> rfl, ?_⟩
        rw [hz.2]; exact ho
      obtain ⟨cd, hcd, _⟩ := PySem.W.any_some C.hd
      exact PySem.W.kia_one (PySem.W.kitx_exc (by rw [hcd]; rfl) C.hg C.hk C.hs C.ha C.hn C.ht C.hm) I.kIn J e (fun z => nomatch z) fun tk => ⟨.bl b, H, I.kept (t' := tk) fun _ _ z => z, rfl, q⟩
theorem r_isD {K : PySem.W.Frag} {a D dd : Addr} {fs : List (Str × V)} {c : V} {cv : Value} {b : Bool} {H : Hp} {Q : VK} (C : ExcC K D) (hd : H dd = some (.xd fs)) (hc : ∀ u, RelV c u → u = cv) (hk : PySem.W.kitOne K (.ref D) cv = some b) (k : Q (.bl b) H) :
    rIsD K a (.ref D) (some dd) [.ref a, c] H Q := ⟨D, dd, fs, c, cv, b, rfl, rfl, C, rfl, hd, hc, hk, k⟩
end Er
namespace Rk
/-- v stands at place i of the sorted list -/
def isAt (xs : List Int) (i : Nat) (v : Int) : Prop := xs.countP (fun x => decide (x < v)) ≤ i ∧ i < xs.countP (fun x => decide (x ≤ v))
theorem countP_le_of {α : Type} {p q : α → Bool} : ∀ {l : List α}, (∀ x ∈ l, p x = true → q x = true) → l.countP p ≤ l.countP q
  | [], _ => Nat.le_refl _
  | a :: l, h => by
    have ih := countP_le_of (l := l) fun x hx => h x (List.mem_cons_of_mem _ hx)
    have ha := h a List.mem_cons_self
    rw [List.countP_cons, List.countP_cons]
    by_cases hp : p a = true
    · rw [if_pos hp, if_pos (ha hp)]; omega
    · rw [if_neg hp]; omega
theorem countP_zero {α : Type} {p : α → Bool} {l : List α} (h : ∀ x ∈ l, p x = false) : l.countP p = 0 := by
  rw [List.countP_eq_zero]; intro x hx; rw [h x hx]; decide
theorem countP_all {α : Type} {p : α → Bool} {l : List α} (h : ∀ x ∈ l, p x = true) : l.countP p = l.length := List.countP_eq_length.mpr h
theorem sorted_get {ys : List Int} (h : ys.Pairwise (· ≤ ·)) {i j : Nat} {v w : Int} (hv : ys[i]? = some v) (hw : ys[j]? = some w) (hij : i ≤ j) : v ≤ w := by
  obtain ⟨hi, rfl⟩ := List.getElem?_eq_some_iff.mp hv
  obtain ⟨hj, rfl⟩ := List.getElem?_eq_some_iff.mp hw
  rcases Nat.lt_or_eq_of_le hij with h1 | h1
  · exact List.pairwise_iff_getElem.mp h i j hi hj h1
  · subst h1; exact Int.le_refl _
theorem sorted_at {ys : List Int} (h : ys.Pairwise (· ≤ ·)) {i : Nat} {v : Int} (hv : ys[i]? = some v) : isAt ys i v := by
  have hi : i < ys.length := (List.getElem?_eq_some_iff.mp hv).1
  constructor
  · have e : ys.countP (fun x => decide (x < v)) = (ys.take i).countP (fun x => decide (x < v)) + (ys.drop i).countP (fun x => decide (x < v)) := by
      rw [← List.countP_append, List.take_append_drop]
    have z : (ys.drop i).countP (fun x => decide (x < v)) = 0 := countP_zero fun x hx => by
      obtain ⟨j, hj⟩ := List.getElem?_of_mem hx
      rw [List.getElem?_drop] at hj
      have := sorted_get h hv hj (Nat.le_add_right _ _)
      exact decide_eq_false (by omega)
    have l := List.countP_le_length (p := fun x => decide (x < v)) (l := ys.take i)
    rw [List.length_take] at l
    omega
  · have e : ys.countP (fun x => decide (x ≤ v)) = (ys.take (i + 1)).countP (fun x => decide (x ≤ v)) + (ys.drop (i + 1)).countP (fun x => decide (x ≤ v)) := by
      rw [← List.countP_append, List.take_append_drop]
    have z : (ys.take (i + 1)).countP (fun x => decide (x ≤ v)) = (ys.take (i + 1)).length := countP_all fun x hx => by
      obtain ⟨j, hj⟩ := List.getElem?_of_mem hx
      have hj2 : j < i + 1 := by
        have := (List.getElem?_eq_some_iff.mp hj).1
        rw [List.length_take] at this; omega
      rw [List.getElem?_take_of_lt hj2] at hj
      exact decide_eq_true (sorted_get h hj hv (by omega))
    rw [List.length_take] at z
    omega
theorem isAt_perm {xs ys : List Int} (p : ys.Perm xs) {i : Nat} {v : Int} (h : isAt ys i v) : isAt xs i v := by
  unfold isAt at *
  rw [p.countP_eq, p.countP_eq] at h; exact h
theorem isAt_unique {xs : List Int} {i : Nat} {v w : Int} (h : isAt xs i v) (k : isAt xs i w) : v = w := by
  have key : ∀ {a b : Int}, isAt xs i a → isAt xs i b → ¬ a < b := fun {a b} ha hb hab => by
    have := countP_le_of (l := xs) (p := fun x => decide (x ≤ a)) (q := fun x => decide (x < b)) fun x _ hx => decide_eq_true (by have := of_decide_eq_true hx; omega)
    have h1 := ha.2
    have h2 := hb.1
    omega
  have h1 := key h k
  have h2 := key k h
  omega
/-! ### the misses -/
theorem miss_above {ps : List (Int × Int)} {level a s : Int} {place liars : Nat} (hl : ps.countP (fun p => !decide (p.2 - level ≤ p.1 ∧ level - p.2 ≤ p.1)) ≤ liars)
    (ha : isAt (ps.map (·.2)) place a) (hs : isAt (ps.map (·.1)) (place + liars) s) : a - level ≤ s := by
  refine Int.not_lt.mp fun h => ?_
  have h1 := ha.1
  have h2 := hs.2
  rw [List.countP_map] at h1 h2
  have h3 : ps.countP ((fun x => decide (x ≤ s)) ∘ (·.1)) ≤ ps.countP ((fun x => decide (x < a)) ∘ (·.2)) + ps.countP (fun p => !decide (p.2 - level ≤ p.1 ∧ level - p.2 ≤ p.1)) := by
    clear h1 h2 hl ha hs
    induction ps with
    | nil => simp
    | cons p r ih =>
      rw [List.countP_cons, List.countP_cons, List.countP_cons]
      by_cases c1 : p.1 ≤ s
      · by_cases c2 : p.2 < a
        · rw [if_pos (by exact decide_eq_true c1), if_pos (by exact decide_eq_true c2)]
          split <;> omega
        · have c3 : ¬ (p.2 - level ≤ p.1 ∧ level - p.2 ≤ p.1) := by omega
          rw [if_pos (by exact decide_eq_true c1), if_pos (c := (!decide _) = true) (by rw [decide_eq_false c3]; rfl)]
          split <;> omega
      · rw [if_neg (by intro z; exact c1 (of_decide_eq_true z))]
        split <;> split <;> omega
  omega
theorem miss_below {ps : List (Int × Int)} {level a s : Int} {place liars : Nat} (hl : ps.countP (fun p => !decide (p.2 - level ≤ p.1 ∧ level - p.2 ≤ p.1)) ≤ liars) (hn : place < ps.length)
    (ha : isAt (ps.map (·.2)) place a) (hs : isAt (ps.map (·.1)) (ps.length - 1 - place + liars) s) : level - a ≤ s := by
  refine Int.not_lt.mp fun h => ?_
  have h1 := ha.2
  have h2 := hs.2
  rw [List.countP_map] at h1 h2
  have h3 : ps.countP ((fun x => decide (x ≤ s)) ∘ (·.1)) + ps.countP ((fun x => decide (x ≤ a)) ∘ (·.2)) ≤ ps.length + ps.countP (fun p => !decide (p.2 - level ≤ p.1 ∧ level - p.2 ≤ p.1)) := by
    clear h1 h2 hl ha hs hn
    induction ps with
    | nil => simp
    | cons p r ih =>
      rw [List.countP_cons, List.countP_cons, List.countP_cons, List.length_cons]
      by_cases c1 : p.1 ≤ s
      · by_cases c2 : p.2 ≤ a
        · have c3 : ¬ (p.2 - level ≤ p.1 ∧ level - p.2 ≤ p.1) := by omega
          rw [if_pos (c := ((fun x => decide (x ≤ s)) ∘ (·.1)) p = true) (by exact decide_eq_true c1), if_pos (c := ((fun x => decide (x ≤ a)) ∘ (·.2)) p = true) (by exact decide_eq_true c2), if_pos (c := (!decide _) = true) (by rw [decide_eq_false c3]; rfl)]
          omega
        · rw [if_neg (c := ((fun x => decide (x ≤ a)) ∘ (·.2)) p = true) (by intro z; exact c2 (of_decide_eq_true z))]
          split <;> split <;> omega
      · rw [if_neg (c := ((fun x => decide (x ≤ s)) ∘ (·.1)) p = true) (by intro z; exact c1 (of_decide_eq_true z))]
        split <;> split <;> omega
  omega
end Rk
namespace Rk
/-- all choices of at most so many of the first n, as the law lists them -/
def ch (liars : Nat) : Nat → List (List Nat)
  | 0 => [[]]
  | k + 1 => (ch liars k).flatMap fun row => if row.length < liars then [row, row ++ [k]] else [row]
theorem ch_ok {liars : Nat} : ∀ {n : Nat} {row : List Nat}, row ∈ ch liars n → row.length ≤ liars ∧ (∀ i ∈ row, i < n) ∧ (List.range n).filter (fun i => row.contains i) = row
  | 0, row, h => by
    have e : row = [] := List.mem_singleton.mp h
    subst e; exact ⟨Nat.zero_le _, by simp, rfl⟩
  | k + 1, row', h => by
    obtain ⟨row, hr, hm⟩ := List.mem_flatMap.mp h
    obtain ⟨h1, h2, h3⟩ := ch_ok hr
    have hk : row.contains k = false := by
      rw [Bool.eq_false_iff]; intro z
      exact Nat.lt_irrefl _ (h2 k (List.contains_iff_mem.mp z))
    have same : row' = row → row'.length ≤ liars ∧ (∀ i ∈ row', i < k + 1) ∧ (List.range (k + 1)).filter (fun i => row'.contains i) = row' := fun e => by
      subst e
      refine ⟨h1, fun i hi => Nat.lt_succ_of_lt (h2 i hi), ?_⟩
      rw [List.range_succ, List.filter_append, h3, List.filter_cons, hk]
      simp
    split at hm
    · rename_i hlt
      rcases List.mem_cons.mp hm with e | hm
      · exact same e
      · have e := List.mem_singleton.mp hm
        subst e
        refine ⟨by rw [List.length_append]; simp; omega, fun i hi => ?_, ?_⟩
        · rcases List.mem_append.mp hi with hi | hi
          · exact Nat.lt_succ_of_lt (h2 i hi)
          · rw [List.mem_singleton.mp hi]; exact Nat.lt_succ_self _
        · rw [List.range_succ, List.filter_append]
          have e1 : (List.range k).filter (fun i => (row ++ [k]).contains i) = (List.range k).filter (fun i => row.contains i) := List.filter_congr fun i hi => by
            have : i < k := List.mem_range.mp hi
            rw [Bool.eq_iff_iff, List.contains_iff_mem, List.contains_iff_mem, List.mem_append, List.mem_singleton]
            exact ⟨fun z => z.elim id (fun z => absurd z (by omega)), .inl⟩
          rw [e1, h3]
          simp
    · exact same (List.mem_singleton.mp hm)
theorem ch_has {liars : Nat} (q : Nat → Bool) : ∀ {n : Nat}, ((List.range n).filter q).length ≤ liars → (List.range n).filter q ∈ ch liars n
  | 0, _ => List.mem_singleton.mpr rfl
  | k + 1, h => by
    have e : (List.range (k + 1)).filter q = (List.range k).filter q ++ (if q k = true then [k] else []) := by
      rw [List.range_succ, List.filter_append]; simp [List.filter_cons]
    rw [e, List.length_append] at h
    have ih := ch_has (liars := liars) q (n := k) (by omega)
    refine List.mem_flatMap.mpr ⟨_, ih, ?_⟩
    rw [e]
    by_cases hq : q k = true
    · rw [if_pos hq] at h ⊢
      have h' : ((List.range k).filter q).length < liars := by
        rw [List.length_singleton] at h; omega
      rw [if_pos h']
      simp
    · rw [if_neg hq, List.append_nil]
      split <;> simp
theorem count_split {f : Nat → Bool} {j : Nat} : ∀ {I : List Nat}, I.Nodup → j ∈ I → I.countP f = (I.filter fun i => !(i == j)).countP f + (if f j = true then 1 else 0)
  | [], _, h => by simp at h
  | a :: r, hn, h => by
    have hn' := List.nodup_cons.mp hn
    by_cases e : a = j
    · subst e
      have z : (r.filter fun i => !(i == a)) = r := List.filter_eq_self.mpr fun i hi => by
        have : i ≠ a := fun z => hn'.1 (z ▸ hi)
        simp [this]
      rw [List.filter_cons, List.countP_cons]
      simp [z]
    · have hr : j ∈ r := by
        rcases List.mem_cons.mp h with z | z
        · exact absurd z.symm e
        · exact z
      have ih := count_split (f := f) hn'.2 hr
      rw [List.filter_cons, if_pos (by simp [e]), List.countP_cons, List.countP_cons, ih]
      omega
theorem exists_min {f : Nat → Int} : ∀ {I : List Nat}, I ≠ [] → ∃ j ∈ I, ∀ i ∈ I, f j ≤ f i
  | [], h => absurd rfl h
  | [a], _ => ⟨a, List.mem_cons_self, fun i hi => by rw [List.mem_singleton.mp hi]; exact Int.le_refl _⟩
  | a :: b :: r, _ => by
    obtain ⟨j, hj, hm⟩ := exists_min (f := f) (I := b :: r) (by simp)
    by_cases h : f a ≤ f j
    · refine ⟨a, List.mem_cons_self, fun i hi => ?_⟩
      rcases List.mem_cons.mp hi with e | hi
      · rw [e]; exact Int.le_refl _
      · exact Int.le_trans h (hm i hi)
    · refine ⟨j, List.mem_cons_of_mem _ hj, fun i hi => ?_⟩
      rcases List.mem_cons.mp hi with e | hi
      · rw [e]; omega
      · exact hm i hi
theorem remove {f : Nat → Int} {t : Nat} {s : Int} : ∀ (L : Nat) {I : List Nat}, I.Nodup → isAt (I.map f) (t + L) s → ∃ q : Nat → Bool, (I.filter q).length = L ∧ isAt ((I.filter fun i => !q i).map f) t s
  | 0, I, _, h => ⟨fun _ => false, by simp, by
    have e : (I.filter fun i => !(fun _ => false) i) = I := List.filter_eq_self.mpr fun _ _ => rfl
    rw [e]; exact h⟩
  | L + 1, I, hn, h => by
    have hne : I ≠ [] := fun e => by
      subst e; have := h.2; simp at this
    obtain ⟨j, hj, hm⟩ := exists_min (f := f) hne
    have h1 := h.1
    have h2 := h.2
    rw [List.countP_map] at h1 h2
    have e1 := count_split (f := (fun x => decide (x < s)) ∘ f) hn hj
    have e2 := count_split (f := (fun x => decide (x ≤ s)) ∘ f) hn hj
    have h' : isAt ((I.filter fun i => !(i == j)).map f) (t + L) s := by
      unfold isAt
      rw [List.countP_map, List.countP_map]
      constructor
      · by_cases c : f j < s
        · rw [if_pos (c := ((fun x => decide (x < s)) ∘ f) j = true) (decide_eq_true c)] at e1; omega
        · have z : (I.filter fun i => !(i == j)).countP ((fun x => decide (x < s)) ∘ f) = 0 := countP_zero fun i hi => by
            have := hm i (List.mem_filter.mp hi).1
            exact decide_eq_false (by omega)
          omega
      · by_cases c : f j ≤ s
        · rw [if_pos (c := ((fun x => decide (x ≤ s)) ∘ f) j = true) (decide_eq_true c)] at e2; omega
        · rw [if_neg (c := ((fun x => decide (x ≤ s)) ∘ f) j = true) (fun z => c (of_decide_eq_true z))] at e2; omega
    obtain ⟨q, hq1, hq2⟩ := remove L (List.Pairwise.filter _ hn) h'
    refine ⟨fun i => i == j || q i, ?_, ?_⟩
    · rw [← List.countP_eq_length_filter, count_split (f := fun i => i == j || q i) hn hj]
      simp only [beq_self_eq_true, Bool.true_or, if_true]
      rw [← List.countP_eq_length_filter] at hq1
      have : (I.filter fun i => !(i == j)).countP (fun i => i == j || q i) = (I.filter fun i => !(i == j)).countP q := List.countP_congr fun i hi => by
        have := (List.mem_filter.mp hi).2
        simp at this
        simp [this]
      rw [this, hq1]
    · have e : (I.filter fun i => !(i == j || q i)) = ((I.filter fun i => !(i == j)).filter fun i => !q i) := by
        rw [List.filter_filter]
        exact List.filter_congr fun i _ => by cases (i == j) <;> cases q i <;> rfl
      rw [e]; exact hq2
/-- what is left when the row lies -/
def kept (n : Nat) (f : Nat → Int) (row : List Nat) : List Int := ((List.range n).filter fun i => !row.contains i).map f
theorem kept_len {n : Nat} {f : Nat → Int} {row : List Nat} (h : (List.range n).filter (fun i => row.contains i) = row) : (kept n f row).length + row.length = n := by
  unfold kept
  rw [List.length_map]
  have e := List.length_eq_countP_add_countP (fun i => row.contains i) (l := List.range n)
  rw [List.length_range, List.countP_eq_length_filter, List.countP_eq_length_filter, h] at e
  have e2 : (List.range n).filter (fun i => !row.contains i) = (List.range n).filter (fun a => decide ¬(row.contains a = true)) := List.filter_congr fun i _ => by cases row.contains i <;> rfl
  rw [e2]; omega
theorem kept_count {n : Nat} {f : Nat → Int} {row : List Nat} (h : (List.range n).filter (fun i => row.contains i) = row) (p : Int → Bool) : ((List.range n).map f).countP p ≤ (kept n f row).countP p + row.length := by
  unfold kept
  rw [List.countP_map, List.countP_map]
  have e : (List.range n).countP (p ∘ f) = ((List.range n).filter fun i => row.contains i).countP (p ∘ f) + ((List.range n).filter fun i => !row.contains i).countP (p ∘ f) := by
    generalize List.range n = I
    induction I with
    | nil => rfl
    | cons a r ih =>
      rw [List.countP_cons, ih, List.filter_cons, List.filter_cons]
      cases hc : row.contains a <;> simp [hc, List.countP_cons] <;> omega
  have l := List.countP_le_length (p := p ∘ f) (l := (List.range n).filter fun i => row.contains i)
  rw [h] at e l
  omega
def topMax : Option Int → Option Int → Option Int
  | some a, some b => some (max a b)
  | _, _ => none
/-- what one choice gives at place t -/
def CaseAt (n : Nat) (f : Nat → Int) (t : Nat) (row : List Nat) (c : Option Int) : Prop := (t < (kept n f row).length → ∃ v, c = some v ∧ isAt (kept n f row) t v) ∧ (¬ t < (kept n f row).length → c = none)
theorem fold_none : ∀ {cs : List (Option Int)} {c : Option Int}, (c = none ∨ none ∈ cs) → cs.foldl topMax c = none
  | [], c, h => by
    rcases h with h | h
    · exact h
    · simp at h
  | d :: cs, c, h => by
    refine fold_none (cs := cs) (c := topMax c d) ?_
    rcases h with h | h
    · subst h; exact .inl rfl
    · rcases List.mem_cons.mp h with h | h
      · left; subst h; cases c <;> rfl
      · exact .inr h
theorem fold_some {s : Int} : ∀ {cs : List (Option Int)} {v : Int}, v ≤ s → (∀ c ∈ cs, ∃ u, c = some u ∧ u ≤ s) → ∃ r, cs.foldl topMax (some v) = some r ∧ v ≤ r ∧ r ≤ s ∧ ∀ u, some u ∈ cs → u ≤ r
  | [], v, hv, _ => ⟨v, rfl, Int.le_refl _, hv, fun u h => by simp at h⟩
  | d :: cs, v, hv, h => by
    obtain ⟨u, rfl, hu⟩ := h d List.mem_cons_self
    obtain ⟨r, h1, h2, h3, h4⟩ := fold_some (cs := cs) (v := max v u) (by omega) fun c hc => h c (List.mem_cons_of_mem _ hc)
    refine ⟨r, h1, by omega, h3, fun x hx => ?_⟩
    rcases List.mem_cons.mp hx with e | hx
    · have := Option.some.inj e; omega
    · exact h4 x hx
theorem over_some {n : Nat} {f : Nat → Int} {liars t : Nat} {s : Int} {c : Option Int} {cs : List (Option Int)} (g : List Nat → Option Int) (hg : ∀ row ∈ ch liars n, CaseAt n f t row (g row)) (hcs : (ch liars n).map g = c :: cs)
    (ht : t + liars < n) (hs : isAt ((List.range n).map f) (t + liars) s) : cs.foldl topMax c = some s := by
  have all : ∀ d ∈ c :: cs, ∃ u, d = some u ∧ u ≤ s := fun d hd => by
    rw [← hcs] at hd
    obtain ⟨row, hr, rfl⟩ := List.mem_map.mp hd
    obtain ⟨h1, h2, h3⟩ := ch_ok hr
    have hl := kept_len (f := f) h3
    obtain ⟨v, hv, ha⟩ := (hg row hr).1 (by omega)
    refine ⟨v, hv, Int.not_lt.mp fun hlt => ?_⟩
    have k1 := kept_count (f := f) h3 (fun x => decide (x ≤ s))
    have k2 := countP_le_of (l := kept n f row) (p := fun x => decide (x ≤ s)) (q := fun x => decide (x < v)) fun x _ hx => decide_eq_true (by have := of_decide_eq_true hx; omega)
    have k3 := ha.1
    have k4 := hs.2
    omega
  have one : some s ∈ c :: cs := by
    obtain ⟨q, hq1, hq2⟩ := remove (f := f) liars List.nodup_range hs
    have hr := ch_has q (n := n) (by rw [hq1]; exact Nat.le_refl _)
    obtain ⟨h1, h2, h3⟩ := ch_ok hr
    have ek : kept n f ((List.range n).filter q) = ((List.range n).filter fun i => !q i).map f := by
      unfold kept
      congr 1
      refine List.filter_congr fun i hi => ?_
      congr 1
      rw [Bool.eq_iff_iff, List.contains_iff_mem, List.mem_filter]
      exact ⟨fun z => z.2, fun z => ⟨hi, z⟩⟩
    have hl := kept_len (f := f) h3
    obtain ⟨v, hv, ha⟩ := (hg _ hr).1 (by omega)
    rw [ek] at ha
    have e := isAt_unique ha hq2
    subst e
    rw [← hcs, ← hv]
    exact List.mem_map.mpr ⟨_, hr, rfl⟩
  obtain ⟨u, rfl, hu⟩ := all c List.mem_cons_self
  obtain ⟨r, h1, h2, h3, h4⟩ := fold_some (cs := cs) hu fun d hd => all d (List.mem_cons_of_mem _ hd)
  rw [h1]
  rcases List.mem_cons.mp one with e | e
  · have := Option.some.inj e; congr 1; omega
  · have := h4 s e; congr 1; omega
theorem over_none {n : Nat} {f : Nat → Int} {liars t : Nat} {c : Option Int} {cs : List (Option Int)} (g : List Nat → Option Int) (hg : ∀ row ∈ ch liars n, CaseAt n f t row (g row)) (hcs : (ch liars n).map g = c :: cs)
    (hn : liars ≤ n) (ht : n ≤ t + liars) : cs.foldl topMax c = none := by
  have e0 : (List.range n).filter (fun i => decide (i < liars)) = List.range liars := by
    obtain ⟨d, rfl⟩ := Nat.exists_eq_add_of_le hn
    rw [List.range_add, List.filter_append, List.filter_eq_self.mpr (fun i hi => decide_eq_true (List.mem_range.mp hi)), List.filter_eq_nil_iff.mpr fun i hi => by
      obtain ⟨j, _, rfl⟩ := List.mem_map.mp hi
      simp, List.append_nil]
  have hr := ch_has (liars := liars) (fun i => decide (i < liars)) (n := n) (by rw [e0, List.length_range]; exact Nat.le_refl _)
  rw [e0] at hr
  obtain ⟨h1, h2, h3⟩ := ch_ok hr
  have hl := kept_len (f := f) h3
  rw [List.length_range] at hl
  have z := (hg _ hr).2 (by omega)
  have m : (none : Option Int) ∈ c :: cs := by
    rw [← hcs, ← z]
    exact List.mem_map.mpr ⟨_, hr, rfl⟩
  refine fold_none ?_
  rcases List.mem_cons.mp m with e | e
  · exact .inl e.symm
  · exact .inr e
end Rk
namespace Rk
theorem case_unique {n : Nat} {f : Nat → Int} {t : Nat} {row : List Nat} {c d : Option Int} (hc : CaseAt n f t row c) (hd : CaseAt n f t row d) : c = d := by
  by_cases h : t < (kept n f row).length
  · obtain ⟨v, rfl, hv⟩ := hc.1 h
    obtain ⟨w, rfl, hw⟩ := hd.1 h
    rw [isAt_unique hv hw]
  · rw [hc.2 h, hd.2 h]
def sortI (l : List Int) : List Int := l.mergeSort (fun a b => decide (a ≤ b))
theorem sortI_sorted (l : List Int) : (sortI l).Pairwise (· ≤ ·) := by
  have h := List.pairwise_mergeSort (le := fun a b : Int => decide (a ≤ b)) (fun a b c h1 h2 => by simp at *; omega) (fun a b => by simp; omega) l
  exact h.imp fun h => of_decide_eq_true h
theorem sortI_perm (l : List Int) : (sortI l).Perm l := List.mergeSort_perm _ _
def caseG (n : Nat) (f : Nat → Int) (t : Nat) (row : List Nat) : Option Int := (sortI (kept n f row))[t]?
theorem caseG_at {n : Nat} {f : Nat → Int} {t : Nat} {row : List Nat} : CaseAt n f t row (caseG n f t row) := by
  have hl := (sortI_perm (kept n f row)).length_eq
  constructor
  · intro h
    have h' : t < (sortI (kept n f row)).length := by omega
    exact ⟨_, List.getElem?_eq_getElem h', isAt_perm (sortI_perm _) (sorted_at (sortI_sorted _) (List.getElem?_eq_getElem h'))⟩
  · intro h
    exact List.getElem?_eq_none (by omega)
def foldT : List (Option Int) → Option Int
  | [] => none
  | c :: cs => cs.foldl topMax c
theorem foldT_one {c : Option Int} : foldT [c] = c := rfl
theorem foldT_app : ∀ {xs : List (Option Int)} {y : Option Int}, xs ≠ [] → foldT (xs ++ [y]) = topMax (foldT xs) y
  | [], _, h => absurd rfl h
  | c :: cs, y, _ => by
    show (cs ++ [y]).foldl topMax c = topMax (cs.foldl topMax c) y
    rw [List.foldl_append]; rfl
theorem ch_ne (liars : Nat) : ∀ n, ch liars n ≠ []
  | 0 => by simp [ch]
  | n + 1 => by
    intro h
    have h0 := ch_ne liars n
    cases e : ch liars n with
    | nil => exact h0 e
    | cons a r =>
      have h1 : (ch liars n).flatMap (fun row => if row.length < liars then [row, row ++ [n]] else [row]) = [] := h
      rw [e, List.flatMap_cons] at h1
      have h2 := (List.append_eq_nil_iff.mp h1).1
      split at h2 <;> simp at h2
theorem range_get (ns : List Int) : (List.range ns.length).map (fun i => ns.getD i 0) = ns := by
  apply List.ext_getElem?
  intro i
  rw [List.getElem?_map]
  by_cases h : i < ns.length
  · rw [List.getElem?_range h, List.getElem?_eq_getElem h]
    show some (ns.getD i 0) = _
    rw [List.getD_eq_getElem?_getD, List.getElem?_eq_getElem h]; rfl
  · rw [List.getElem?_eq_none (by rw [List.length_range]; omega), List.getElem?_eq_none (by omega)]; rfl
theorem over_eq {ns ns' : List Int} {liars t : Nat} (pm : ns'.Perm ns) (pw : ns'.Pairwise (· ≤ ·)) (hl : liars ≤ ns.length) :
    foldT ((ch liars ns.length).map (caseG ns.length (fun i => ns.getD i 0) t)) = ns'[t + liars]? := by
  have hle := pm.length_eq
  cases e : (ch liars ns.length).map (caseG ns.length (fun i => ns.getD i 0) t) with
  | nil => exact absurd (List.map_eq_nil_iff.mp e) (ch_ne _ _)
  | cons c cs =>
    show cs.foldl topMax c = _
    by_cases h : t + liars < ns.length
    · have h' : t + liars < ns'.length := by omega
      rw [List.getElem?_eq_getElem h']
      refine over_some (caseG ns.length (fun i => ns.getD i 0) t) (fun row _ => caseG_at) e h ?_
      rw [range_get]
      exact isAt_perm pm (sorted_at pw (List.getElem?_eq_getElem h'))
    · rw [List.getElem?_eq_none (by omega)]
      exact over_none (caseG ns.length (fun i => ns.getD i 0) t) (fun row _ => caseG_at) e hl (by omega)
end Rk
def topS (i : Nat) : Stmt := PySem.Challenge.pw_metehouse_k16_worst_miss_over_all_lots.main.body.getD i (.Pass ⟨0, 0, 0, 0⟩)
abbrev s_entry_at : Stmt := topS 5
theorem sc_entry_at : FnScope ["numbers", "position"] ["numbers", "position"] (defScope s_entry_at) := ⟨rfl, rfl, rfl, by decide +kernel, rfl, by decide +kernel, by decide +kernel⟩
abbrev s_worst_miss : Stmt := topS 6
theorem sc_worst_miss : FnScope ["radii", "place", "liars", "radius", "size", "ordered"] ["radii", "place", "liars"] (defScope s_worst_miss) := ⟨rfl, rfl, rfl, by decide +kernel, rfl, by decide +kernel, by decide +kernel⟩
abbrev s_w_is_integer : Stmt := topS 8
theorem sc_w_is_integer : FnScope ["_law_thing"] ["_law_thing"] (defScope s_w_is_integer) := ⟨rfl, rfl, rfl, by decide +kernel, rfl, by decide +kernel, by decide +kernel⟩
abbrev s_w_mixed : Stmt := topS 9
theorem sc_w_mixed : FnScope ["_law_cell", "_law_count", "_law_mixed_here"] ["_law_cell", "_law_count"] (defScope s_w_mixed) := ⟨rfl, rfl, rfl, by decide +kernel, rfl, by decide +kernel, by decide +kernel⟩
abbrev s_w_draw : Stmt := topS 10
theorem sc_w_draw : FnScope ["_law_bag_here", "_law_size", "_law_cell", "_law_rest"] ["_law_bag_here", "_law_size"] (defScope s_w_draw) := ⟨rfl, rfl, rfl, by decide +kernel, rfl, by decide +kernel, by decide +kernel⟩
abbrev s_w_bag : Stmt := topS 11
theorem sc_w_bag : FnScope ["_law_script", "_law_cell"] ["_law_script"] (defScope s_w_bag) := ⟨rfl, rfl, rfl, by decide +kernel, rfl, by decide +kernel, by decide +kernel⟩
abbrev s_w_zigzag : Stmt := topS 12
theorem sc_w_zigzag : FnScope ["_law_number_here"] ["_law_number_here"] (defScope s_w_zigzag) := ⟨rfl, rfl, rfl, by decide +kernel, rfl, by decide +kernel, by decide +kernel⟩
abbrev s_w_number : Stmt := topS 13
theorem sc_w_number : FnScope ["_law_bag_here", "_law_size", "_law_shift", "_law_great", "_law_way", "_law_number_here"] ["_law_bag_here", "_law_size", "_law_shift", "_law_great"] (defScope s_w_number) := ⟨rfl, rfl, rfl, by decide +kernel, rfl, by decide +kernel, by decide +kernel⟩
abbrev s_w_radii : Stmt := topS 14
theorem sc_w_radii : FnScope ["_law_bag_here", "_law_many", "_law_radii_here", "_law_great", "_law_k"] ["_law_bag_here"] (defScope s_w_radii) := ⟨rfl, rfl, rfl, by decide +kernel, rfl, by decide +kernel, by decide +kernel⟩
abbrev s_w_choices : Stmt := topS 15
theorem sc_w_choices : FnScope ["_law_many", "_law_liars", "_law_rows", "_law_k", "_law_longer", "_law_row"] ["_law_many", "_law_liars"] (defScope s_w_choices) := ⟨rfl, rfl, rfl, by decide +kernel, rfl, by decide +kernel, by decide +kernel⟩
abbrev s_w_greatest : Stmt := topS 16
theorem sc_w_greatest : FnScope ["_law_first", "_law_second"] ["_law_first", "_law_second"] (defScope s_w_greatest) := ⟨rfl, rfl, rfl, by decide +kernel, rfl, by decide +kernel, by decide +kernel⟩
abbrev s_w_case : Stmt := topS 17
theorem sc_w_case : FnScope ["_law_radii_here", "_law_place", "_law_lying", "_law_honest", "_law_k", "_law_above", "_law_below"] ["_law_radii_here", "_law_place", "_law_lying"] (defScope s_w_case) := ⟨rfl, rfl, rfl, by decide +kernel, rfl, by decide +kernel, by decide +kernel⟩
abbrev s_w_over_all : Stmt := topS 18
theorem sc_w_over_all : FnScope ["_law_radii_here", "_law_place", "_law_liars", "_law_found", "_law_lying", "_law_case_here"] ["_law_radii_here", "_law_place", "_law_liars"] (defScope s_w_over_all) := ⟨rfl, rfl, rfl, by decide +kernel, rfl, by decide +kernel, by decide +kernel⟩
abbrev s_w_entry_is : Stmt := topS 19
theorem sc_w_entry_is : FnScope ["_law_worth", "_law_radii_here", "_law_at", "_law_less", "_law_one"] ["_law_worth", "_law_radii_here", "_law_at"] (defScope s_w_entry_is) := ⟨rfl, rfl, rfl, by decide +kernel, rfl, by decide +kernel, by decide +kernel⟩
abbrev s_w_misses_fit : Stmt := topS 20
theorem sc_w_misses_fit : FnScope ["_law_bag_here", "_law_radii_here", "_law_place", "_law_liars", "_law_bounds", "_law_level", "_law_turn", "_law_readings", "_law_lies", "_law_one", "_law_way", "_law_far", "_law_answer"] ["_law_bag_here", "_law_radii_here", "_law_place", "_law_liars", "_law_bounds"] (defScope s_w_misses_fit) := ⟨rfl, rfl, rfl, by decide +kernel, rfl, by decide +kernel, by decide +kernel⟩
abbrev s_w_ask : Stmt := topS 21
theorem sc_w_ask : FnScope ["_law_radii_here", "_law_place", "_law_liars", "e", "_law_kinds"] ["_law_radii_here", "_law_place", "_law_liars"] (defScope s_w_ask) := ⟨rfl, rfl, rfl, by decide +kernel, rfl, by decide +kernel, by decide +kernel⟩
abbrev s_w_refusal : Stmt := topS 22
theorem sc_w_refusal : FnScope ["_law_radii_here", "_law_place", "_law_liars", "_law_one"] ["_law_radii_here", "_law_place", "_law_liars"] (defScope s_w_refusal) := ⟨rfl, rfl, rfl, by decide +kernel, rfl, by decide +kernel, by decide +kernel⟩
abbrev s_w_asked : Stmt := topS 23
theorem sc_w_asked : FnScope ["_law_bag_here", "_law_radii_here", "_law_place", "_law_liars", "_law_handed", "_law_due", "_law_outcome", "_law_above", "_law_below", "_law_worth"] ["_law_bag_here", "_law_radii_here", "_law_place", "_law_liars"] (defScope s_w_asked) := ⟨rfl, rfl, rfl, by decide +kernel, rfl, by decide +kernel, by decide +kernel⟩
abbrev s_w_spot : Stmt := topS 24
theorem sc_w_spot : FnScope ["_law_bag_here", "_law_size", "_law_shift"] ["_law_bag_here", "_law_size", "_law_shift"] (defScope s_w_spot) := ⟨rfl, rfl, rfl, by decide +kernel, rfl, by decide +kernel, by decide +kernel⟩
abbrev s_law : Stmt := topS 25
theorem sc_law : FnScope ["_law_script", "_law_bag_here", "_law_radii_here", "_law_many", "_law_turn", "_law_place", "_law_liars", "_law_spoilt", "_law_at"] ["_law_script"] (defScope s_law) := ⟨rfl, rfl, rfl, by decide +kernel, rfl, by decide +kernel, by decide +kernel⟩
abbrev PG : Program := PySem.Challenge.pw_metehouse_k16_worst_miss_over_all_lots
abbrev s_BadNumber_init : Stmt := inClass (topS 2) 0
theorem sh_BadNumber {w : World} : Er.Sh1 PG w s_BadNumber_init "number" := by
  refine ⟨⟨_, _, _, _, _, _, _, _, _, _, _, rfl, fun q L fI cda cc m v A E s Q hm hv hn k => ?_, fun q L fI cda cc => ⟨rfl, rfl, rfl, rfl, rfl⟩⟩, ⟨_, rfl, rfl⟩, rfl, rfl, rfl, rfl, by decide, by decide, rfl, rfl, rfl, by decide +kernel, fun s x v qual doc pm an cda cc ct => .of_eq rfl⟩
  exact Er.tx_joined (.cons (Er.tx_repr hm hv rfl rfl) (.cons (Er.tx_const (by decide)) .nil)) (by decide) hn k
abbrev s_BadLimit_init : Stmt := inClass (topS 3) 0
theorem sh_BadLimit {w : World} : Er.Sh1 PG w s_BadLimit_init "limit" := by
  refine ⟨⟨_, _, _, _, _, _, _, _, _, _, _, rfl, fun q L fI cda cc m v A E s Q hm hv hn k => ?_, fun q L fI cda cc => ⟨rfl, rfl, rfl, rfl, rfl⟩⟩, ⟨_, rfl, rfl⟩, rfl, rfl, rfl, rfl, by decide, by decide, rfl, rfl, rfl, by decide +kernel, fun s x v qual doc pm an cda cc ct => .of_eq rfl⟩
  exact Er.tx_joined (.cons (Er.tx_repr hm hv rfl rfl) (.cons (Er.tx_const (by decide)) .nil)) (by decide) hn k
/-- what the top has written -/
structure Tx (K : PySem.W.Frag) (mg : Str → Option Value) : Type where
  f_entry_at : Addr
  fd_entry_at : FuncData
  F_entry_at : Fun K "entry_at" "entry_at" s_entry_at f_entry_at fd_entry_at
  g_entry_at : mg "entry_at" = some (.ref f_entry_at)
  b_entry_at : Binds K fd_entry_at ["numbers", "position"] []
  f_worst_miss : Addr
  fd_worst_miss : FuncData
  F_worst_miss : Fun K "worst_miss" "worst_miss" s_worst_miss f_worst_miss fd_worst_miss
  g_worst_miss : mg "worst_miss" = some (.ref f_worst_miss)
  b_worst_miss : Binds K fd_worst_miss ["radii", "place", "liars"] []
  f_w_is_integer : Addr
  fd_w_is_integer : FuncData
  F_w_is_integer : Fun K "_law_is_integer" "_law_is_integer" s_w_is_integer f_w_is_integer fd_w_is_integer
  g_w_is_integer : mg "_law_is_integer" = some (.ref f_w_is_integer)
  b_w_is_integer : Binds K fd_w_is_integer ["_law_thing"] []
  f_w_mixed : Addr
  fd_w_mixed : FuncData
  F_w_mixed : Fun K "_law_mixed" "_law_mixed" s_w_mixed f_w_mixed fd_w_mixed
  g_w_mixed : mg "_law_mixed" = some (.ref f_w_mixed)
  b_w_mixed : Binds K fd_w_mixed ["_law_cell", "_law_count"] []
  f_w_draw : Addr
  fd_w_draw : FuncData
  F_w_draw : Fun K "_law_draw" "_law_draw" s_w_draw f_w_draw fd_w_draw
  g_w_draw : mg "_law_draw" = some (.ref f_w_draw)
  b_w_draw : Binds K fd_w_draw ["_law_bag_here", "_law_size"] []
  f_w_bag : Addr
  fd_w_bag : FuncData
  F_w_bag : Fun K "_law_bag" "_law_bag" s_w_bag f_w_bag fd_w_bag
  g_w_bag : mg "_law_bag" = some (.ref f_w_bag)
  b_w_bag : Binds K fd_w_bag ["_law_script"] []
  f_w_zigzag : Addr
  fd_w_zigzag : FuncData
  F_w_zigzag : Fun K "_law_zigzag" "_law_zigzag" s_w_zigzag f_w_zigzag fd_w_zigzag
  g_w_zigzag : mg "_law_zigzag" = some (.ref f_w_zigzag)
  b_w_zigzag : Binds K fd_w_zigzag ["_law_number_here"] []
  f_w_number : Addr
  fd_w_number : FuncData
  F_w_number : Fun K "_law_number" "_law_number" s_w_number f_w_number fd_w_number
  g_w_number : mg "_law_number" = some (.ref f_w_number)
  b_w_number : Binds K fd_w_number ["_law_bag_here", "_law_size", "_law_shift", "_law_great"] []
  f_w_radii : Addr
  fd_w_radii : FuncData
  F_w_radii : Fun K "_law_radii" "_law_radii" s_w_radii f_w_radii fd_w_radii
  g_w_radii : mg "_law_radii" = some (.ref f_w_radii)
  b_w_radii : Binds K fd_w_radii ["_law_bag_here"] []
  f_w_choices : Addr
  fd_w_choices : FuncData
  F_w_choices : Fun K "_law_choices" "_law_choices" s_w_choices f_w_choices fd_w_choices
  g_w_choices : mg "_law_choices" = some (.ref f_w_choices)
  b_w_choices : Binds K fd_w_choices ["_law_many", "_law_liars"] []
  f_w_greatest : Addr
  fd_w_greatest : FuncData
  F_w_greatest : Fun K "_law_greatest" "_law_greatest" s_w_greatest f_w_greatest fd_w_greatest
  g_w_greatest : mg "_law_greatest" = some (.ref f_w_greatest)
  b_w_greatest : Binds K fd_w_greatest ["_law_first", "_law_second"] []
  f_w_case : Addr
  fd_w_case : FuncData
  F_w_case : Fun K "_law_case" "_law_case" s_w_case f_w_case fd_w_case
  g_w_case : mg "_law_case" = some (.ref f_w_case)
  b_w_case : Binds K fd_w_case ["_law_radii_here", "_law_place", "_law_lying"] []
  f_w_over_all : Addr
  fd_w_over_all : FuncData
  F_w_over_all : Fun K "_law_over_all" "_law_over_all" s_w_over_all f_w_over_all fd_w_over_all
  g_w_over_all : mg "_law_over_all" = some (.ref f_w_over_all)
  b_w_over_all : Binds K fd_w_over_all ["_law_radii_here", "_law_place", "_law_liars"] []
  f_w_entry_is : Addr
  fd_w_entry_is : FuncData
  F_w_entry_is : Fun K "_law_entry_is" "_law_entry_is" s_w_entry_is f_w_entry_is fd_w_entry_is
  g_w_entry_is : mg "_law_entry_is" = some (.ref f_w_entry_is)
  b_w_entry_is : Binds K fd_w_entry_is ["_law_worth", "_law_radii_here", "_law_at"] []
  f_w_misses_fit : Addr
  fd_w_misses_fit : FuncData
  F_w_misses_fit : Fun K "_law_misses_fit" "_law_misses_fit" s_w_misses_fit f_w_misses_fit fd_w_misses_fit
  g_w_misses_fit : mg "_law_misses_fit" = some (.ref f_w_misses_fit)
  b_w_misses_fit : Binds K fd_w_misses_fit ["_law_bag_here", "_law_radii_here", "_law_place", "_law_liars", "_law_bounds"] []
  f_w_ask : Addr
  fd_w_ask : FuncData
  F_w_ask : Fun K "_law_ask" "_law_ask" s_w_ask f_w_ask fd_w_ask
  g_w_ask : mg "_law_ask" = some (.ref f_w_ask)
  b_w_ask : Binds K fd_w_ask ["_law_radii_here", "_law_place", "_law_liars"] []
  f_w_refusal : Addr
  fd_w_refusal : FuncData
  F_w_refusal : Fun K "_law_refusal" "_law_refusal" s_w_refusal f_w_refusal fd_w_refusal
  g_w_refusal : mg "_law_refusal" = some (.ref f_w_refusal)
  b_w_refusal : Binds K fd_w_refusal ["_law_radii_here", "_law_place", "_law_liars"] []
  f_w_asked : Addr
  fd_w_asked : FuncData
  F_w_asked : Fun K "_law_asked" "_law_asked" s_w_asked f_w_asked fd_w_asked
  g_w_asked : mg "_law_asked" = some (.ref f_w_asked)
  b_w_asked : Binds K fd_w_asked ["_law_bag_here", "_law_radii_here", "_law_place", "_law_liars"] []
  f_w_spot : Addr
  fd_w_spot : FuncData
  F_w_spot : Fun K "_law_spot" "_law_spot" s_w_spot f_w_spot fd_w_spot
  g_w_spot : mg "_law_spot" = some (.ref f_w_spot)
  b_w_spot : Binds K fd_w_spot ["_law_bag_here", "_law_size", "_law_shift"] []
  f_law : Addr
  fd_law : FuncData
  F_law : Fun K "law" "law" s_law f_law fd_law
  g_law : mg "law" = some (.ref f_law)
  b_law : Binds K fd_law ["_law_script"] []
  C_BadNumber : Addr
  gC_BadNumber : mg "BadNumber" = some (.ref C_BadNumber)
  C_BadLimit : Addr
  gC_BadLimit : mg "BadLimit" = some (.ref C_BadLimit)
  C_MeteError : Addr
  gC_MeteError : mg "MeteError" = some (.ref C_MeteError)
  Z_BadNumber : ∀ w, Er.Cls1 PG w K mg "BadNumber" "number" C_BadNumber
  X_BadNumber : ExcC K C_BadNumber
  xf_BadNumber : XfC K C_BadNumber
  Z_BadLimit : ∀ w, Er.Cls1 PG w K mg "BadLimit" "limit" C_BadLimit
  X_BadLimit : ExcC K C_BadLimit
  xf_BadLimit : XfC K C_BadLimit
  kit_BadNumber_BadNumber : PySem.W.kitOne K (.ref C_BadNumber) (.ref C_BadNumber) = some true
  kit_BadNumber_BadLimit : PySem.W.kitOne K (.ref C_BadNumber) (.ref C_BadLimit) = some false
  kit_BadNumber_ValueError : PySem.W.kitOne K (.ref C_BadNumber) (.type "ValueError") = some true
  kit_BadLimit_BadNumber : PySem.W.kitOne K (.ref C_BadLimit) (.ref C_BadNumber) = some false
  kit_BadLimit_BadLimit : PySem.W.kitOne K (.ref C_BadLimit) (.ref C_BadLimit) = some true
  kit_BadLimit_ValueError : PySem.W.kitOne K (.ref C_BadLimit) (.type "ValueError") = some true
  exm_BadNumber_MeteError : PySem.W.exmOne K (.ref C_BadNumber) (.ref C_MeteError) = some true
  exm_BadLimit_MeteError : PySem.W.exmOne K (.ref C_BadLimit) (.ref C_MeteError) = some true
  m_len : mg "len" = none
  m_range : mg "range" = none
  m_isinstance : mg "isinstance" = none
  m_int : mg "int" = none
  m_bool : mg "bool" = none
  m_list : mg "list" = none
  m_tuple : mg "tuple" = none
  m_abs : mg "abs" = none
  m_max : mg "max" = none
  m_sorted : mg "sorted" = none
  m_ValueError : mg "ValueError" = none
local macro_rules | `(tactic| walk_at "st") => `(tactic| first
  | (with_reducible refine r_seq ?_)
  | (with_reducible refine r_asg ?_)
  | (with_reducible refine r_ifS ?_)
  | (with_reducible refine r_ret ?_)
  | (with_reducible refine r_next ?_)
  | (with_reducible refine r_drop ?_)
  | (with_reducible refine r_retN ?_)
  | (with_reducible refine r_cont ?_)
  | (with_reducible refine r_break ?_)
  | (with_reducible refine r_op ?_)
  | (with_reducible refine r_un ?_)
  | ((with_reducible refine' r_var ?h1 ?_); (case h1 => exact rfl))
  | (with_reducible refine r_c ?_)
  | (with_reducible refine r_I0 ?_)
  | (with_reducible refine r_eqI ?_)
  | (with_reducible refine r_neI ?_)
  | (with_reducible refine r_eqS ?_)
  | (with_reducible refine r_neS ?_)
  | (with_reducible refine r_eqB ?_)
  | (with_reducible refine r_neB ?_)
  | (with_reducible refine r_U ?_)
  | (with_reducible refine r_test ?_)
  | (with_reducible refine r_tB ?_)
  | (with_reducible refine r_bl ?_)
  | (with_reducible refine r_and ?_)
  | (with_reducible refine r_or ?_)
  | (with_reducible refine r_not ?_)
  | (with_reducible refine r_andV ?_)
  | (with_reducible refine r_orV ?_)
  | (with_reducible refine r_notV ?_)
  | (with_reducible refine r_if ?_)
  | (with_reducible refine r_chain ?_)
  | (with_reducible refine r_gName0 ?_)
  | (with_reducible refine r_gName1 ?_)
  | (with_reducible refine r_gName2 ?_)
  | (with_reducible refine r_gName3 ?_)
  | (with_reducible refine r_gName4 ?_)
  | (with_reducible refine r_gName5 ?_)
  | (with_reducible refine r_gName6 ?_)
  | (with_reducible refine r_gName7 ?_)
  | (with_reducible refine r_gName8 ?_)
  | (with_reducible refine r_gName9 ?_)
  | (with_reducible refine r_gName10 ?_)
  | (with_reducible refine r_gName11 ?_)
  | (with_reducible refine r_gName12 ?_)
  | (with_reducible refine r_gName13 ?_)
  | (with_reducible refine r_gName14 ?_)
  | (with_reducible refine r_gName15 ?_)
  | (with_reducible refine r_gName16 ?_)
  | (with_reducible refine r_gName17 ?_)
  | (with_reducible refine r_gName18 ?_)
  | (with_reducible refine r_gName19 ?_)
  | (with_reducible refine r_cb ?_)
  | (with_reducible refine r_cons ?_)
  | (with_reducible refine r_nil ?_)
  | ((with_reducible refine r_call ?_); try simp only [List.cons_append, List.nil_append])
  | ((with_reducible refine r_callSD ?_); try simp only [List.cons_append, List.nil_append])
  | (with_reducible refine r_gSub ?_)
  | (with_reducible refine r_sl ?_)
  | (with_reducible refine r_lst ?_)
  | (with_reducible refine r_tup ?_)
  | (with_reducible refine r_int1 ?_)
  | (with_reducible refine r_intB ?_)
  | ((with_reducible refine r_in1 ?_); try simp only [abs_if])
  | ((with_reducible refine r_in2 ?_); try simp only [max_if])
  | (with_reducible refine r_forR1 ?_)
  | (with_reducible refine r_forR2 ?_)
  | (with_reducible refine r_forL ?_)
  | (with_reducible refine r_forT ?_)
  | (with_reducible refine r_lcR1 ?_)
  | (with_reducible refine r_lcL ?_)
  | (with_reducible refine r_lcT ?_)
  | (with_reducible refine r_yes ?_)
  | (with_reducible refine r_tPart ?_)
  | (with_reducible refine r_noPart ?_)
  | (with_reducible refine r_exI ?_)
  | (with_reducible refine r_par ?_)
  | (with_reducible refine Er.r_raise1 ?_)
  | (with_reducible refine r_isN ?_)
  | (with_reducible refine r_isI ?_)
  | (with_reducible refine r_isR ?_)
  | (with_reducible refine r_isS ?_)
  | (with_reducible refine r_noN ?_)
  | (with_reducible refine r_noI ?_)
  | (with_reducible refine r_noR ?_)
  | (with_reducible refine r_noS ?_)
  | (with_reducible refine r_isB ?_)
  | (with_reducible refine r_noB ?_)
  | (with_reducible refine r_iteTT ?_)
  | (with_reducible refine r_iteFF ?_)
  | (with_reducible refine Er.r_xf ?_)
  | (with_reducible refine r_bm ?_)
  | ((with_reducible refine' r_tyL ?h1 ?_); (case h1 => walk_at "sq"))
  | ((with_reducible refine' r_app ?h1 ?h2 ?_); (case h1 => walk_at "hp"); (case h2 => exact lt_size (by simp only [List.length_map, List.length_append, List.length_cons, List.length_nil]; omega)))
  | (with_reducible refine r_exP ?_)
  | (with_reducible refine r_iteT rfl ?_)
  | (with_reducible refine r_iteNF rfl ?_)
  | ((with_reducible refine' r_ixL ?h1 ?h2 ?_); (case h1 => walk_at "sq"); (case h2 => walk_at "at"))
  | ((with_reducible refine' r_ixT ?h1 ?h2 ?_); (case h1 => walk_at "sq"); (case h2 => walk_at "at"))
  | (with_reducible refine r_lenL (sqL_of (by assumption)) ?_)
  | (with_reducible refine r_lenT (sqT_of (by assumption)) ?_)
  | ((with_reducible refine' r_lenL ?h1 ?_); (case h1 => walk_at "sq"))
  | ((with_reducible refine' r_lenT ?h1 ?_); (case h1 => walk_at "sq"))
  | ((with_reducible refine' r_setP0 ?h1 ?_); (case h1 => walk_at "hp"); try simp only [upd_upd])
  | ((with_reducible refine' r_setP1 ?h1 ?_); (case h1 => walk_at "hp"); try simp only [upd_upd])
  | ((with_reducible refine' r_setP2 ?h1 ?_); (case h1 => walk_at "hp"); try simp only [upd_upd])
  | ((with_reducible refine' r_setP3 ?h1 ?_); (case h1 => walk_at "hp"); try simp only [upd_upd])
  | ((with_reducible refine' r_setL ?h1 ?h2 ?_); (case h1 => walk_at "hp"); (case h2 => walk_at "ix"))
  | ((with_reducible refine r_I ?h1 ?_); (case h1 => walk_at "side"); try simp only [Int.reduceToNat, Int.reducePow])
  | ((with_reducible refine r_iteT ?h1 ?_); (case h1 => walk_at "dec"))
  | ((with_reducible refine r_iteF ?h1 ?_); (case h1 => walk_at "dec"))
  | ((with_reducible refine r_iteNT ?h1 ?_); (case h1 => walk_at "dec"))
  | ((with_reducible refine r_iteNF ?h1 ?_); (case h1 => walk_at "dec"))
  | ((with_reducible refine' r_gNameW ?h1 ?_); (case h1 => (simp only [L2.wipe, List.map_cons, List.map_nil, List.set_cons_zero, List.set_cons_succ]; try exact rfl)))
  | ((with_reducible refine r_wipe ?h1 ?_); (case h1 => rfl))
  | (with_reducible refine iteT ?_)
  | (with_reducible refine r_iteNT1 ?_)
  | (with_reducible refine r_iteNF1 ?_)
  | (with_reducible refine r_gcd ?_)
  | ((with_reducible refine' r_isi ?h1 ?h2 ?_); (case h1 => first | exact .base (.int _) | exact .base (.bl _) | exact .base (.str _) | exact .base .non | exact .base (.tup (by walk_at "hp")) | exact .base (.lst (by walk_at "hp")) | exact .base (.dK (by walk_at "hp"))); (case h2 => first | (with_reducible exact kit_ii) | (with_reducible exact kit_ib) | (with_reducible exact kit_tt) | (with_reducible exact kit_ss) | (with_reducible exact kit_ll) | (with_reducible exact kit_bb) | (with_reducible exact kit_bi) | (with_reducible exact kit_dd) | (with_reducible exact kit_nt) | (with_reducible exact kit_ni) | (with_reducible exact kit_is) | (with_reducible exact kit_si) | (with_reducible exact kit_it)))
  | (with_reducible refine iteF ?_)
  | ((with_reducible refine And.intro ?h1 ?_); (case h1 => exact le_size (by simp only [List.length_cons, List.length_nil]; omega)))
  | (with_reducible refine r_nxE ?_)
  | (with_reducible refine r_bkE ?_)
  | (with_reducible refine r_ctE ?_)
  | (with_reducible refine r_rtE ?_))
local macro_rules | `(tactic| walk_at "sts") => `(tactic| repeat walk_at "st")
local macro_rules | `(tactic| walk_at "hp") => `(tactic| first | assumption | exact upd_same | (rw [upd_ne (by walk_at "ne")]; walk_at "hp") | exact Keep.out (by assumption) (by walk_at "nin") (by walk_at "hp"))
local macro_rules | `(tactic| walk_at "nin") => `(tactic| (simp only [List.mem_cons, List.not_mem_nil, or_false, not_false_eq_true]; first | done | walk_at "ne"))
local macro_rules | `(tactic| walk_at "ne") => `(tactic| first | assumption | (apply Ne.symm; assumption) | exact ne_free (by assumption) (by assumption) | exact (ne_free (by assumption) (by assumption)).symm)
local macro_rules | `(tactic| walk_at "sq") => `(tactic| first | assumption | exact sqL_of (by walk_at "hp") | exact sqT_of (by walk_at "hp") | exact Keep.l (by assumption) (by walk_at "nin") (by walk_at "sq") | exact Keep.t (by assumption) (by walk_at "nin") (by walk_at "sq"))
local macro_rules | `(tactic| walk_at "at") => `(tactic| first
  | exact atI_nat (j := 0) rfl | exact atI_nat (j := 1) rfl | exact atI_nat (j := 2) rfl | exact atI_nat (j := 3) rfl | exact atI_nat (j := 4) rfl | exact atI_nat (j := 5) rfl
  | (refine atI_map ?_ ?_ <;> omega) | assumption)
local macro_rules | `(tactic| walk_at "ix") => `(tactic| first | exact ixN_of (by decide) (by simp; omega) | exact ixN_of (by omega) (by simp; omega))
local macro_rules | `(tactic| walk_at "side") => `(tactic| first | omega | decide | exact .inl (by omega) | exact .inr (by omega) | exact ⟨by omega, by omega⟩ | exact .inl (.inl (by omega)) | exact .inl (.inr (by omega)) | (exact ⟨by decide, by decide, by decide⟩) | (exact ⟨by omega, by decide⟩))
local macro_rules | `(tactic| walk_at "start") => `(tactic| simp only [start_cc, start_cn, start_nn, cxOf_K])
local macro_rules | `(tactic| walk_at "dec") => `(tactic| first | omega | (simp only [List.length_cons, List.length_nil, List.length_map, List.length_append]; omega))
/-! ### the bag -/
def BagAt (a l : Addr) (H : Hp) : Prop := ∃ (car pos cnt : Int) (sc : List Int), H a = some (.lst [.ref l, .int car, .int pos, .int cnt]) ∧ H l = some (.lst (sc.map V.int)) ∧ 0 ≤ car ∧ 0 ≤ pos
def spMixed : Sp := fun vs H Q _ => ∃ c n : Int, vs = [.int c, .int n] ∧ ∀ r, Q (.int r) H
def spDraw : Sp := fun vs H Q _ => ∃ (a l : Addr) (n : Int), vs = [.ref a, .int n] ∧ BagAt a l H ∧ 0 < n ∧ n < 2 ^ 200 ∧ ∀ (r : Int) (H' : Hp), 0 ≤ r → r < n → Keep [a] H H' → BagAt a l H' → Q (.int r) H'
section
variable {Q : VK} {E : XK} {H : Hp}
theorem r_draw {a l : Addr} {n : Int} (hp : BagAt a l H) (h0 : 0 < n) (h1 : n < 2 ^ 200) (k : ∀ (r : Int) (H' : Hp), 0 ≤ r → r < n → Keep [a] H H' → BagAt a l H' → Q (.int r) H') : spDraw [.ref a, .int n] H Q E := ⟨a, l, n, rfl, hp, h0, h1, k⟩
end
theorem dp_ints {K : PySem.W.Frag} {H : Hp} : ∀ ns : List Int, DpAll K H (ns.map V.int) (ns.map PyData.int)
  | [] => .nil
  | n :: ns => .cons (.int n) (dp_ints ns)
section
variable {w : World} {K : PySem.W.Frag} {mg : Str → Option Value} {base : Heap}
theorem ok_mixed (T : Tx K mg) : FnOk PG w K mg base CX0 1 T.f_w_mixed T.fd_w_mixed ["_law_cell", "_law_count"] spMixed := by
  refine T.F_w_mixed.ok sc_w_mixed (fun vs H Q E h => ?_) (fun cdv A outer s H vs Q E hr h => ?_)
  · obtain ⟨a, b, rfl, _⟩ := h; rfl
  · obtain ⟨a, b, rfl, q⟩ := h
    refine ⟨_, (pss_cons (ps_set (i := 2) sc_w_mixed.nd rfl (Or.inl rfl) (pe_op op_mod (pe_callTy call_int1 (by rfl) T.m_int (by decide +kernel) (pa_cons (pe_op op_add (pe_op op_add (pe_op op_mul (pv 0) pe_int) (pe_op op_mul (pv 1) pe_int)) pe_int) pa_nil)) pe_int))
    (pss_cons (ps_set (i := 2) sc_w_mixed.nd rfl (Or.inl rfl) (pe_op op_mod (pe_callTy call_int1 (by rfl) T.m_int (by decide +kernel) (pa_cons (pe_op op_add (pe_op op_add (pe_op op_mulG (pv 2) (pv 2)) (pe_op op_mul (pv 1) pe_int)) pe_int) pa_nil)) pe_int))
    (pss_one (ps_ret (pe_op op_fdiv (pe_op op_mod (pe_callTy call_int1 (by rfl) T.m_int (by decide +kernel) (pa_cons (pe_op op_mulG (pv 2) (pe_op op_add (pv 2) pe_int)) pa_nil)) pe_int) pe_int))))), ?_⟩
    walk_at "start"
    walk_at "sts"
    exact q _
theorem eqv_ints : ∀ ns ms : List Int, PyData.eqvAll (ns.map PyData.int) (ms.map PyData.int) = decide (ns = ms)
  | [], [] => by simp [PyData.eqvAll]
  | [], _ :: _ => by simp [PyData.eqvAll]
  | _ :: _, [] => by simp [PyData.eqvAll]
  | a :: r, b :: t => by
    simp only [List.map_cons, PyData.eqvAll, PyData.eqv, eqv_ints r t]
    by_cases h : a = b <;> by_cases h' : r = t <;> simp [h, h']
theorem r_eqInts {K : PySem.W.Frag} {H : Hp} {Q : VK} {p q : Addr} {ns ms : List Int} (hp : SqL K H p (ns.map V.int)) (hq : SqL K H q (ms.map V.int)) (k : Q (.bl (decide (ns = ms))) H) : rEqD K (.ref p) (.ref q) H Q :=
  ⟨.list (ns.map PyData.int), .list (ms.map PyData.int), .lst hp (dp_ints ns), .lst hq (dp_ints ms), PySem.W.ke_shaped_ints _, PySem.W.ke_shaped_ints _, by rw [show PyData.eqv (.list (ns.map PyData.int)) (.list (ms.map PyData.int)) = PyData.eqvAll (ns.map PyData.int) (ms.map PyData.int) by simp [PyData.eqv], eqv_ints]; exact k⟩
theorem r_neInts {K : PySem.W.Frag} {H : Hp} {Q : VK} {p q : Addr} {ns ms : List Int} (hp : SqL K H p (ns.map V.int)) (hq : SqL K H q (ms.map V.int)) (k : Q (.bl (!decide (ns = ms))) H) : rNeD K (.ref p) (.ref q) H Q :=
  ⟨.list (ns.map PyData.int), .list (ms.map PyData.int), .lst hp (dp_ints ns), .lst hq (dp_ints ms), PySem.W.ke_shaped_ints _, PySem.W.ke_shaped_ints _, by rw [show PyData.eqv (.list (ns.map PyData.int)) (.list (ms.map PyData.int)) = PyData.eqvAll (ns.map PyData.int) (ms.map PyData.int) by simp [PyData.eqv], eqv_ints]; exact k⟩
theorem ok_draw (T : Tx K mg) (G_w_mixed : FnOk PG w K mg base CX0 1 T.f_w_mixed T.fd_w_mixed ["_law_cell", "_law_count"] spMixed) : FnOk PG w K mg base CX0 2 T.f_w_draw T.fd_w_draw ["_law_bag_here", "_law_size"] spDraw := by
  refine T.F_w_draw.ok sc_w_draw (fun vs H Q E h => ?_) (fun cdv A outer s H vs Q E hr h => ?_)
  · obtain ⟨a, l, b, rfl, _⟩ := h; rfl
  · obtain ⟨a, l, n, rfl, ⟨car, pos, cnt, sc, ha, hl, hcar, hpos⟩, hn0, hn1, q⟩ := h
    have hla : l ≠ a := by rintro rfl; rw [ha] at hl; cases sc <;> simp at hl
    refine ⟨_, (Evl.pss_cut (ps_if (PW.pt (pw_and (pt_cmpR op_eq (pe_ix ix_list (pv 0) pe_int (fun _ _ => rfl)) pe_int (nomark _)) (pw_and1 (pt_cmpR op_lt (pe_ix ix_list (pv 0) pe_int (fun _ _ => rfl)) (pe_callB call_len_seq (by rfl) T.m_len PySem.boot_len (pa_cons (pe_ix ix_list (pv 0) pe_int (fun _ _ => rfl)) pa_nil)) (nomark _)))))
    (pss_cons (ps_set (i := 2) sc_w_draw.nd rfl (Or.inl rfl) (pe_ix ix_list (pe_ix ix_list (pv 0) pe_int (fun _ _ => rfl)) (pe_ix ix_list (pv 0) pe_int (fun _ _ => rfl)) (fun _ _ => rfl)))
    (pss_cons (ps_asg (pe_op op_add (pe_ix ix_list (pv 0) pe_int (fun _ _ => rfl)) pe_int) (pg_sub (pv 0) pe_int set_list))
    (pss_cons (ps_if (pt_cmpR op_lt (pe_callB call_abs (by rfl) T.m_abs (by decide +kernel) (pa_cons (pv 2) pa_nil)) (pe_op op_pow pe_int pe_int) (nomark _))
    (pss_cons (ps_asg (pe_op op_add (pe_ix ix_list (pv 0) pe_int (fun _ _ => rfl)) pe_int) (pg_sub (pv 0) pe_int set_list))
    (pss_one (ps_ret (pe_op op_mod (pe_callTy call_int1 (by rfl) T.m_int (by decide +kernel) (pa_cons (pe_call G_w_mixed (hr.mono (by decide)) rfl T.g_w_mixed T.F_w_mixed.kp T.b_w_mixed .nil pass0 (pa_cons (pv 2) (pa_cons (pe_ix ix_list (pv 0) pe_int (fun _ _ => rfl)) pa_nil))) pa_nil)) (pv 1)))))
    pss_nil)
    (pss_one (ps_asg (pe_callB call_abs (by rfl) T.m_abs (by decide +kernel) (pa_cons (pv 2) pa_nil)) (pg_sub (pv 0) pe_int set_list))))))
    pss_nil)
    (pss_cons (ps_if (pt_cmpR op_gt (pe_ix ix_list (pv 0) pe_int (fun _ _ => rfl)) pe_int (nomark _))
    (pss_cons (ps_set (i := 3) sc_w_draw.nd rfl (Or.inl rfl) (pe_callTy call_int1 (by rfl) T.m_int (by decide +kernel) (pa_cons (pe_ix ix_list (pv 0) pe_int (fun _ _ => rfl)) pa_nil)))
    (pss_cons (ps_asg (pe_op op_fdivWN (pv 3) (pv 1)) (pg_sub (pv 0) pe_int set_list))
    (pss_one (ps_ret (pe_op op_mod (pe_callTy call_int1 (by rfl) T.m_int (by decide +kernel) (pa_cons (pv 3) pa_nil)) (pv 1))))))
    pss_nil)
    (pss_cons (ps_if (pt_cmpR (op_eqD hr.units) (pe_ix ix_list (pv 0) pe_int (fun _ _ => rfl)) (pe_lst pa_nil) (nomark _))
    (pss_one (ps_ret pe_int))
    pss_nil)
    (pss_cons (ps_asg (pe_op op_add (pe_ix ix_list (pv 0) pe_int (fun _ _ => rfl)) pe_int) (pg_sub (pv 0) pe_int set_list))
    (pss_cons (ps_set (i := 2) sc_w_draw.nd rfl (Or.inl rfl) (pe_ix ix_list (pe_ix ix_list (pv 0) pe_int (fun _ _ => rfl)) (pe_op op_mod (pe_callTy call_int1 (by rfl) T.m_int (by decide +kernel) (pa_cons (pe_ix ix_list (pv 0) pe_int (fun _ _ => rfl)) pa_nil)) (pe_callB call_len_seq (by rfl) T.m_len PySem.boot_len (pa_cons (pe_ix ix_list (pv 0) pe_int (fun _ _ => rfl)) pa_nil))) (fun _ _ => rfl)))
    (pss_cons (ps_if (pt_cmpR op_ge (pe_callB call_abs (by rfl) T.m_abs (by decide +kernel) (pa_cons (pv 2) pa_nil)) (pe_op op_pow pe_int pe_int) (nomark _))
    (pss_one (ps_ret pe_int))
    pss_nil)
    (pss_one (ps_ret (pe_op op_mod (pe_callTy call_int1 (by rfl) T.m_int (by decide +kernel) (pa_cons (pe_call G_w_mixed (hr.mono (by decide)) rfl T.g_w_mixed T.F_w_mixed.kp T.b_w_mixed .nil pass0 (pa_cons (pv 2) (pa_cons (pe_ix ix_list (pv 0) pe_int (fun _ _ => rfl)) pa_nil))) pa_nil)) (pv 1)))))))))), ?_⟩
    walk_at "start"
    walk_at "sts"
    refine r_cut (fun σ' H' => ∃ (car pos cnt : Int) (x y : Option V), σ' = [some (.ref a), some (.int n), x, y] ∧ H' a = some (.lst [.ref l, .int car, .int pos, .int cnt]) ∧ H' l = some (.lst (sc.map V.int)) ∧ Keep [a] H H' ∧ 0 ≤ car ∧ 0 ≤ pos) ?_ ?_
    · walk_at "sts"
      refine r_ite (fun c1 => ?_) (fun c1 => ?_)
      · walk_at "sts"
        refine r_ite (fun c2 => ?_) (fun c2 => ?_)
        · walk_at "sts"
          simp only [List.length_map] at c2
          refine r_ixL (sqL_of hl) (atI_map hpos (by omega)) ?_
          walk_at "sts"
          have hl' : ∀ o, upd H a o l = some (.lst (sc.map V.int)) := fun o => by rw [upd_ne hla]; exact hl
          generalize sc.getD pos.toNat 0 = cell
          generalize (1000000000000000000 : Int) = big
          refine r_ite (fun c3 => ?_) (fun c3 => ?_)
          · walk_at "sts"
            refine ⟨_, _, rfl, fun r => ?_⟩
            walk_at "sts"
            exact q _ _ (Int.emod_nonneg _ (by omega)) (Int.emod_lt_of_pos _ hn0) (Keep.at (by simp)) ⟨car, _, _, sc, upd_same, hl' _, hcar, by omega⟩
          · walk_at "sts"
            exact ⟨_, _, _, _, _, rfl, upd_same, hl' _, Keep.at (by simp), by omega, by omega⟩
        · walk_at "sts"
          exact ⟨car, pos, cnt, _, _, rfl, ha, hl, Keep.refl _ _, hcar, hpos⟩
      · walk_at "sts"
        exact ⟨car, pos, cnt, _, _, rfl, ha, hl, Keep.refl _ _, hcar, hpos⟩
    · rintro σ' H' ⟨car, pos, cnt, x, y, rfl, ha, hl, k1, hcar, hpos⟩
      have hl' : ∀ o, upd H' a o l = some (.lst (sc.map V.int)) := fun o => by rw [upd_ne hla]; exact hl
      walk_at "sts"
      refine r_ite (fun c1 => ?_) (fun c1 => ?_)
      · walk_at "sts"
        refine r_I ⟨by omega, log_ok 200 (by omega)⟩ ?_
        walk_at "sts"
        exact q _ _ (Int.emod_nonneg _ (by omega)) (Int.emod_lt_of_pos _ hn0) (k1.trans (Keep.at (by simp))) ⟨_, _, _, sc, upd_same, hl' _, Int.fdiv_nonneg (by omega) (by omega), hpos⟩
      walk_at "sts"
      intro p hp
      have hl2 : upd H' p (.lst []) l = some (.lst (sc.map V.int)) := by rw [upd_ne (ne_of_none hl hp)]; exact hl
      have ha2 : upd H' p (.lst []) a = some (.lst [.ref l, .int car, .int pos, .int cnt]) := by rw [upd_ne (ne_of_none ha hp)]; exact ha
      have k2 : Keep [a] H (upd H' p (.lst [])) := k1.trans (Keep.new hp)
      refine r_eqInts (ns := sc) (ms := []) (sqL_of hl2) (sqL_of upd_same) ?_
      generalize upd H' p (.lst []) = H2 at hl2 ha2 k2 ⊢
      have hl' : ∀ o, upd H2 a o l = some (.lst (sc.map V.int)) := fun o => by rw [upd_ne hla]; exact hl2
      walk_at "sts"
      refine r_ite (fun c2 => ?_) (fun c2 => ?_)
      · walk_at "sts"
        exact q _ _ (by omega) hn0 k2 ⟨_, _, _, sc, ha2, hl2, hcar, hpos⟩
      have hsc : 0 < sc.length := List.length_pos_iff.mpr c2
      walk_at "sts"
      simp only [List.length_map]
      refine r_I (by omega) ?_
      refine r_ixL (sqL_of (hl' _)) (atI_map (Int.emod_nonneg _ (by omega)) (Int.emod_lt_of_pos _ (by omega))) ?_
      walk_at "sts"
      refine r_ite (fun c3 => ?_) (fun c3 => ?_)
      · walk_at "sts"
        exact q _ _ (by omega) hn0 (k2.trans (Keep.at (by simp))) ⟨_, _, _, sc, upd_same, hl' _, hcar, hpos⟩
      · walk_at "sts"
        refine ⟨_, _, rfl, fun r => ?_⟩
        walk_at "sts"
        exact q _ _ (Int.emod_nonneg _ (by omega)) (Int.emod_lt_of_pos _ hn0) (k2.trans (Keep.at (by simp))) ⟨_, _, _, sc, upd_same, hl' _, hcar, hpos⟩
end
theorem BagAt.new {a l p : Addr} {o : HO} {H : Hp} (h : BagAt a l H) (n : H p = none) : BagAt a l (upd H p o) := by
  obtain ⟨car, pos, cnt, sc, ha, hl, h0, h1⟩ := h
  exact ⟨car, pos, cnt, sc, by rw [upd_ne (ne_of_none ha n)]; exact ha, by rw [upd_ne (ne_of_none hl n)]; exact hl, h0, h1⟩
theorem BagAt.keep {a l : Addr} {H H' : Hp} (h : BagAt a l H) (k : Keep [] H H') : BagAt a l H' := by
  obtain ⟨car, pos, cnt, sc, ha, hl, h0, h1⟩ := h
  exact ⟨car, pos, cnt, sc, k _ _ (by simp) ha, k _ _ (by simp) hl, h0, h1⟩
theorem BagAt.ne {a l p : Addr} {H : Hp} (h : BagAt a l H) (n : H p = none) : p ≠ a ∧ p ≠ l := by
  obtain ⟨car, pos, cnt, sc, ha, hl, h0, h1⟩ := h
  exact ⟨ne_free ha n, ne_free hl n⟩
theorem BagAt.put {a l p : Addr} {o : HO} {H : Hp} (h : BagAt a l H) (n : p ≠ a ∧ p ≠ l) : BagAt a l (upd H p o) := by
  obtain ⟨car, pos, cnt, sc, ha, hl, h0, h1⟩ := h
  exact ⟨car, pos, cnt, sc, by rw [upd_ne n.1.symm]; exact ha, by rw [upd_ne n.2.symm]; exact hl, h0, h1⟩
def spZig : Sp := fun vs H Q _ => ∃ n : Int, vs = [.int n] ∧ 0 ≤ n ∧ ∀ r : Int, r.natAbs * 2 ≤ n.natAbs + 1 → Q (.int r) H
def spNumber : Sp := fun vs H Q _ => ∃ (a l : Addr) (sz sh : Int), vs = [.ref a, .int sz, .int sh, .int (10 ^ 30)] ∧ BagAt a l H ∧ 0 < sz ∧ sz < 100 ∧ ∀ (r : Int) (H' : Hp), r.natAbs < 10 ^ 30 → Keep [a] H H' → BagAt a l H' → Q (.int r) H'
def spRadii : Sp := fun vs H Q _ => ∃ (a l : Addr), vs = [.ref a] ∧ BagAt a l H ∧ ∀ (p : Addr) (ns : List Int) (H' : Hp), ns.length ≤ 40 → (∀ x ∈ ns, 0 ≤ x ∧ x < 10 ^ 30) → Keep [a] H H' → BagAt a l H' → H p = none → H' p = some (.lst (ns.map V.int)) → Q (.ref p) H'
def spBag (K : PySem.W.Frag) : Sp := fun vs H Q _ => ∃ (a : Addr) (ns : List Int), vs = [.ref a] ∧ SqL K H a (ns.map V.int) ∧ ns.length ≤ 63 ∧ ∀ (p l : Addr) (H' : Hp), Keep [] H H' → H p = none → BagAt p l H' → Q (.ref p) H'
section
variable {Q : VK} {E : XK} {H : Hp}
theorem r_zig {n : Int} (h : 0 ≤ n) (k : ∀ r : Int, r.natAbs * 2 ≤ n.natAbs + 1 → Q (.int r) H) : spZig [.int n] H Q E := ⟨n, rfl, h, k⟩
theorem r_number {a l : Addr} {sz sh : Int} (hp : BagAt a l H) (h0 : 0 < sz) (h1 : sz < 100) (k : ∀ (r : Int) (H' : Hp), r.natAbs < 10 ^ 30 → Keep [a] H H' → BagAt a l H' → Q (.int r) H') : spNumber [.ref a, .int sz, .int sh, .int (10 ^ 30)] H Q E := ⟨a, l, sz, sh, rfl, hp, h0, h1, k⟩
end
section
variable {w : World} {K : PySem.W.Frag} {mg : Str → Option Value} {base : Heap}
theorem ok_zigzag (T : Tx K mg) : FnOk PG w K mg base CX0 1 T.f_w_zigzag T.fd_w_zigzag ["_law_number_here"] spZig := by
  refine T.F_w_zigzag.ok sc_w_zigzag (fun vs H Q E h => ?_) (fun cdv A outer s H vs Q E hr h => ?_)
  · obtain ⟨a, rfl, _⟩ := h; rfl
  · obtain ⟨n, rfl, hn, q⟩ := h
    refine ⟨_, (pss_cons (ps_if (pt_cmpR op_eq (pe_op op_mod (pe_callTy call_int1 (by rfl) T.m_int (by decide +kernel) (pa_cons (pv 0) pa_nil)) pe_int) pe_int (nomark _))
    (pss_one (ps_ret (pe_op op_fdiv (pe_op op_add (pv 0) pe_int) pe_int)))
    pss_nil)
    (pss_one (ps_ret (pe_op op_sub pe_int (pe_op op_fdiv (pv 0) pe_int))))), ?_⟩
    walk_at "start"
    walk_at "sts"
    refine r_ite (fun c => ?_) (fun c => ?_)
    · walk_at "sts"
      exact q _ (by omega)
    · walk_at "sts"
      exact q _ (by omega)
theorem ok_number (T : Tx K mg) (G_w_draw : FnOk PG w K mg base CX0 2 T.f_w_draw T.fd_w_draw ["_law_bag_here", "_law_size"] spDraw) (G_w_zigzag : FnOk PG w K mg base CX0 1 T.f_w_zigzag T.fd_w_zigzag ["_law_number_here"] spZig) :
    FnOk PG w K mg base CX0 3 T.f_w_number T.fd_w_number ["_law_bag_here", "_law_size", "_law_shift", "_law_great"] spNumber := by
  refine T.F_w_number.ok sc_w_number (fun vs H Q E h => ?_) (fun cdv A outer s H vs Q E hr h => ?_)
  · obtain ⟨a, l, b, c, rfl, _⟩ := h; rfl
  · obtain ⟨a, l, sz, sh, rfl, hp, h0, h1, q⟩ := h
    refine ⟨_, (pss_cons (ps_set (i := 4) sc_w_number.nd rfl (Or.inl rfl) (pe_call G_w_draw (hr.mono (by decide)) rfl T.g_w_draw T.F_w_draw.kp T.b_w_draw .nil pass0 (pa_cons (pv 0) (pa_cons pe_int pa_nil))))
    (pss_cons (ps_if (pt_cmpR op_eq (pv 4) pe_int (nomark _))
    (pss_one (ps_ret (pe_call G_w_zigzag (hr.mono (by decide)) rfl T.g_w_zigzag T.F_w_zigzag.kp T.b_w_zigzag .nil pass0 (pa_cons (pe_call G_w_draw (hr.mono (by decide)) rfl T.g_w_draw T.F_w_draw.kp T.b_w_draw .nil pass0 (pa_cons (pv 0) (pa_cons (pe_op op_sub (pe_op op_mul pe_int (pv 3)) pe_int) pa_nil))) pa_nil))))
    pss_nil)
    (pss_cons (ps_if (pt_cmpR op_eq (pv 4) pe_int (nomark _))
    (pss_cons (ps_set (i := 5) sc_w_number.nd rfl (Or.inl rfl) (pe_op op_sub (pe_op op_sub (pv 3) pe_int) (pe_call G_w_draw (hr.mono (by decide)) rfl T.g_w_draw T.F_w_draw.kp T.b_w_draw .nil pass0 (pa_cons (pv 0) (pa_cons pe_int pa_nil)))))
    (pss_one (ps_ret (pe_ifExp (pt_cmpR op_eq (pe_call G_w_draw (hr.mono (by decide)) rfl T.g_w_draw T.F_w_draw.kp T.b_w_draw .nil pass0 (pa_cons (pv 0) (pa_cons pe_int pa_nil))) pe_int (nomark _)) (pv 5) (pe_op op_sub pe_int (pv 5))))))
    pss_nil)
    (pss_one (ps_ret (pe_call G_w_zigzag (hr.mono (by decide)) rfl T.g_w_zigzag T.F_w_zigzag.kp T.b_w_zigzag .nil pass0 (pa_cons (pe_op op_mod (pe_callTy call_int1 (by rfl) T.m_int (by decide +kernel) (pa_cons (pe_op op_add (pe_call G_w_draw (hr.mono (by decide)) rfl T.g_w_draw T.F_w_draw.kp T.b_w_draw .nil pass0 (pa_cons (pv 0) (pa_cons (pv 1) pa_nil))) (pv 2)) pa_nil)) (pv 1)) pa_nil))))))), ?_⟩
    walk_at "start"
    walk_at "sts"
    refine r_draw hp (by omega) (by omega) fun r1 H1 a1 b1 k1 p1 => ?_
    walk_at "sts"
    refine r_ite (fun c => ?_) (fun c => ?_)
    · walk_at "sts"
      refine r_draw p1 (by omega) (by omega) fun r2 H2 a2 b2 k2 p2 => ?_
      walk_at "sts"
      refine r_zig a2 fun r hr => ?_
      exact q _ _ (by omega) (k1.trans k2) p2
    walk_at "sts"
    refine r_ite (fun c => ?_) (fun c => ?_)
    · walk_at "sts"
      refine r_draw p1 (by omega) (by omega) fun r2 H2 a2 b2 k2 p2 => ?_
      walk_at "sts"
      refine r_draw p2 (by omega) (by omega) fun r3 H3 a3 b3 k3 p3 => ?_
      walk_at "sts"
      refine r_ite (fun c => ?_) (fun c => ?_)
      · walk_at "sts"
        exact q _ _ (by omega) (k1.trans (k2.trans k3)) p3
      · walk_at "sts"
        exact q _ _ (by omega) (k1.trans (k2.trans k3)) p3
    walk_at "sts"
    refine r_draw p1 (by omega) (by omega) fun r2 H2 a2 b2 k2 p2 => ?_
    walk_at "sts"
    refine r_zig (Int.emod_nonneg _ (by omega)) fun r hr => ?_
    have := Int.emod_lt_of_pos (r2 + sh) h0
    have := Int.emod_nonneg (r2 + sh) (show sz ≠ 0 by omega)
    exact q _ _ (by omega) (k1.trans k2) p2
theorem ok_bag (T : Tx K mg) : FnOk PG w K mg base CX0 1 T.f_w_bag T.fd_w_bag ["_law_script"] (spBag K) := by
  refine T.F_w_bag.ok sc_w_bag (fun vs H Q E h => ?_) (fun cdv A outer s H vs Q E hr h => ?_)
  · obtain ⟨a, ns, rfl, _⟩ := h; rfl
  · obtain ⟨a, ns, rfl, hs, hl, q⟩ := h
    refine ⟨_, (pss_one (ps_ret (pe_lst (pa_cons (pe_lc (own := [("_law_cell", 1)]) (g := gName 1) (tt := tYes) rfl sc_w_bag.nd (pi_list (pe_slice sl_list (pv 0) po_none (po_some pe_int))) (blkOk_by (own := [("_law_cell", 1)]) (N := ["_law_script", "_law_cell"]) (sc := defScope s_w_bag) (by decide +kernel)) (fun _ _ _ _ _ => pg_name (i := 1) sc_w_bag.nd rfl (Or.inl rfl)) (fun _ _ _ _ _ => pts_nil) (fun _ _ _ _ _ => (pe_callTy call_int1 (by rfl) T.m_int (by decide +kernel) (pa_cons (pv 1) pa_nil)))) (pa_cons pe_int (pa_cons pe_int (pa_cons pe_int pa_nil))))))), ?_⟩
    walk_at "start"
    walk_at "sts"
    refine r_slL hs (fun p2 hp2 => ?_)
    have e : cutV (ns.map V.int) none (some 63) = ns.map V.int := by
      unfold cutV
      rw [show HT.sIx (ns.map V.int).length (ns.map V.int).length (some 63) = min 63 (ns.map V.int).length from HT.sIx_nat _ _ 63, HT.sIx_none, List.length_map, Nat.min_eq_right hl, Nat.sub_zero, List.drop_zero]
      exact List.take_of_length_le (by rw [List.length_map]; exact Nat.le_refl _)
    rw [e]
    refine lcL_go (fun D i acc H' => acc = (ns.take i).map V.int ∧ i ≤ ns.length ∧ D ≠ p2 ∧ H D = none ∧ H' p2 = some (.lst (ns.map V.int)) ∧ Keep [] H H') (sqL_of upd_same) (fun D hD => ?_) (fun D i acc H' hi ⟨_, _, _, _, h3, _⟩ => sqL_of h3) (fun D i x acc H' hx hD => ?_) (fun D acc H' hD hD' => ?_)
    · have k := (Keep.new (M := []) (o := .lst (ns.map V.int)) hp2)
      exact ⟨by rw [List.take_zero]; rfl, Nat.zero_le _, ne_free upd_same hD, k.free (by simp) hD, by rw [upd_ne (ne_of_none upd_same hD)]; exact upd_same, k.trans (Keep.new hD)⟩
    · rintro ⟨rfl, hi, hne, hDn, h3, k3⟩
      rw [List.getElem?_map] at hx
      obtain ⟨z, hz, rfl⟩ := Option.map_eq_some_iff.mp hx
      have hiz := (List.getElem?_eq_some_iff.mp hz).1
      walk_at "sts"
      refine ⟨_, hD, lt_size (by rw [List.length_map, List.length_take]; omega), _, upd_same, ?_, by omega, hne, hDn, ?_, k3.mut hDn⟩
      · rw [List.take_add_one, hz]; simp
      · rw [upd_ne hne.symm]; exact h3
    · rintro ⟨rfl, hi, hne, hDn, h3, k3⟩
      walk_at "sts"
      intro p hp
      refine q p D _ (k3.trans (Keep.new hp)) (k3.free (by simp) hp) ⟨0, 0, 0, ns.take (ns.map V.int).length, upd_same, ?_, by omega, by omega⟩
      rw [upd_ne (ne_of_none hD' hp), hD']
theorem ok_radii (T : Tx K mg) (G_w_draw : FnOk PG w K mg base CX0 2 T.f_w_draw T.fd_w_draw ["_law_bag_here", "_law_size"] spDraw) (G_w_number : FnOk PG w K mg base CX0 3 T.f_w_number T.fd_w_number ["_law_bag_here", "_law_size", "_law_shift", "_law_great"] spNumber) :
    FnOk PG w K mg base CX0 4 T.f_w_radii T.fd_w_radii ["_law_bag_here"] spRadii := by
  refine T.F_w_radii.ok sc_w_radii (fun vs H Q E h => ?_) (fun cdv A outer s H vs Q E hr h => ?_)
  · obtain ⟨a, l, rfl, _⟩ := h; rfl
  · obtain ⟨a, l, rfl, hp, q⟩ := h
    refine ⟨_, (pss_cons (ps_set (i := 1) sc_w_radii.nd rfl (Or.inl rfl) (pe_op op_mod (pe_callTy call_int1 (by rfl) T.m_int (by decide +kernel) (pa_cons (pe_op op_add (pe_call G_w_draw (hr.mono (by decide)) rfl T.g_w_draw T.F_w_draw.kp T.b_w_draw .nil pass0 (pa_cons (pv 0) (pa_cons pe_int pa_nil))) pe_int) pa_nil)) pe_int))
    (Evl.pss_cut (ps_if (pt_cmpR op_eq (pe_call G_w_draw (hr.mono (by decide)) rfl T.g_w_draw T.F_w_draw.kp T.b_w_draw .nil pass0 (pa_cons (pv 0) (pa_cons pe_int pa_nil))) pe_int (nomark _))
    (pss_one (ps_set (i := 1) sc_w_radii.nd rfl (Or.inl rfl) (pe_op op_add pe_int (pe_call G_w_draw (hr.mono (by decide)) rfl T.g_w_draw T.F_w_draw.kp T.b_w_draw .nil pass0 (pa_cons (pv 0) (pa_cons pe_int pa_nil))))))
    pss_nil)
    (pss_cons (ps_par (i := 2) (j := 3) (by rfl) sc_w_radii.nd rfl rfl (by decide) rfl rfl (pa_cons (pe_lst pa_nil) (pa_cons (pe_cmpR op_eq (pe_call G_w_draw (hr.mono (by decide)) rfl T.g_w_draw T.F_w_draw.kp T.b_w_draw .nil pass0 (pa_cons (pv 0) (pa_cons pe_int pa_nil))) pe_int (nomark _)) pa_nil)) (by rfl))
    (pss_cons (ps_for PassesOwn.never rfl (pi_range1 rfl T.m_range (pa_cons (pv 1) pa_nil)) (pg_name (i := 4) sc_w_radii.nd rfl (Or.inl rfl))
    (pss_one (ps_if (PW.pt (pw_and (pt_val (pv 3)) (pw_and1 (pt_cmpR op_eq (pe_call G_w_draw (hr.mono (by decide)) rfl T.g_w_draw T.F_w_draw.kp T.b_w_draw .nil pass0 (pa_cons (pv 0) (pa_cons pe_int pa_nil))) pe_int (nomark _)))))
    (pss_one (ps_expr (pe_bm PySem.F.plainAttrs_list PySem.F.slot_list_append PySem.F.type_list_append mt_append (pv 2) (pa_cons (pe_callB call_abs (by rfl) T.m_abs (by decide +kernel) (pa_cons (pe_call G_w_number (hr.mono (by decide)) rfl T.g_w_number T.F_w_number.kp T.b_w_number .nil pass0 (pa_cons (pv 0) (pa_cons pe_int (pa_cons pe_int (pa_cons (pe_op op_pow pe_int pe_int) pa_nil))))) pa_nil)) pa_nil))))
    (pss_one (ps_expr (pe_bm PySem.F.plainAttrs_list PySem.F.slot_list_append PySem.F.type_list_append mt_append (pv 2) (pa_cons (pe_op op_mod (pe_callTy call_int1 (by rfl) T.m_int (by decide +kernel) (pa_cons (pe_op op_add (pe_op op_add (pe_call G_w_draw (hr.mono (by decide)) rfl T.g_w_draw T.F_w_draw.kp T.b_w_draw .nil pass0 (pa_cons (pv 0) (pa_cons pe_int pa_nil))) (pe_op op_mul pe_int (pv 4))) pe_int) pa_nil)) pe_int) pa_nil)))))))
    (pss_one (ps_ret (pv 2))))))), ?_⟩
    walk_at "start"
    walk_at "sts"
    refine r_draw hp (by omega) (by omega) fun r1 H1 a1 b1 k1 p1 => ?_
    walk_at "sts"
    refine r_cut (fun σ' H' => ∃ m : Int, σ' = [some (.ref a), some (.int m), none, none, none] ∧ 0 ≤ m ∧ m ≤ 40 ∧ Keep [a] H H' ∧ BagAt a l H') ?_ ?_
    · walk_at "sts"
      refine r_draw p1 (by omega) (by omega) fun r2 H2 a2 b2 k2 p2 => ?_
      walk_at "sts"
      refine r_ite (fun c => ?_) (fun c => ?_)
      · walk_at "sts"
        refine r_draw p2 (by omega) (by omega) fun r3 H3 a3 b3 k3 p3 => ?_
        walk_at "sts"
        exact ⟨_, rfl, by omega, by omega, k1.trans (k2.trans k3), p3⟩
      · walk_at "sts"
        exact ⟨_, rfl, by omega, by omega, k1.trans k2, p2⟩
    · rintro σ' H1 ⟨m, rfl, m0, m1, k1, p1⟩
      walk_at "sts"
      intro l2 hl2
      walk_at "sts"
      refine r_draw (p1.new hl2) (by omega) (by omega) fun r2 H2 a2 b2 k2 p2 => ?_
      walk_at "sts"
      have n2 := p1.ne hl2
      refine forR1_go (fun i σ' H' => ∃ (ns : List Int) (x : Option V), σ' = [some (.ref a), some (.int m), some (.ref l2), some (.bl (decide (r2 = 3))), x] ∧ ns.length = i ∧ (∀ x ∈ ns, 0 ≤ x ∧ x < 10 ^ 30) ∧ H' l2 = some (.lst (ns.map V.int)) ∧ Keep [a] H H' ∧ BagAt a l H') (by omega) ?_ ?_ ?_
      · exact ⟨[], _, rfl, rfl, by simp, k2 _ _ (by simpa using n2.1) upd_same, k1.trans ((Keep.new hl2).trans k2), p2⟩
      · rintro i σ' H' hi ⟨ns, x, rfl, rfl, hb, hl', k', p'⟩
        walk_at "sts"
        have hno : H l2 = none := k1.free (by simpa using n2.1) hl2
        refine r_ite (fun c1 => ?_) (fun c1 => ?_)
        · walk_at "sts"
          refine r_draw p' (by omega) (by omega) fun r3 H3 a3 b3 k3 p3 => ?_
          have hl3 := k3 _ _ (by simpa using n2.1) hl'
          walk_at "sts"
          refine r_ite (fun c2 => ?_) (fun c2 => ?_)
          · walk_at "sts"
            refine r_number p3 (by omega) (by omega) fun r4 H4 z4 k4 p4 => ?_
            have hl4 := k4 _ _ (by simpa using n2.1) hl3
            walk_at "sts"
            refine ⟨ns ++ [(r4.natAbs : Int)], _, rfl, by rw [List.length_append]; rfl, ?_, by rw [upd_same, List.map_append]; rfl, (k'.trans (k3.trans k4)).mut hno, p4.put n2⟩
            rintro y hy
            rcases List.mem_append.mp hy with hy | hy
            · exact hb y hy
            · rw [List.mem_singleton.mp hy]; omega
          · walk_at "sts"
            refine r_draw p3 (by omega) (by omega) fun r4 H4 a4 b4 k4 p4 => ?_
            have hl4 := k4 _ _ (by simpa using n2.1) hl3
            walk_at "sts"
            refine ⟨ns ++ [(r4 + 2 * ns.length + 1) % 6], _, rfl, by rw [List.length_append]; rfl, ?_, by rw [upd_same, List.map_append]; rfl, ((k'.trans k3).trans k4).mut hno, p4.put n2⟩
            rintro y hy
            rcases List.mem_append.mp hy with hy | hy
            · exact hb y hy
            · rw [List.mem_singleton.mp hy]; omega
        · walk_at "sts"
          refine r_draw p' (by omega) (by omega) fun r4 H4 a4 b4 k4 p4 => ?_
          have hl4 := k4 _ _ (by simpa using n2.1) hl'
          walk_at "sts"
          refine ⟨ns ++ [(r4 + 2 * ns.length + 1) % 6], _, rfl, by rw [List.length_append]; rfl, ?_, by rw [upd_same, List.map_append]; rfl, (k'.trans k4).mut hno, p4.put n2⟩
          rintro y hy
          rcases List.mem_append.mp hy with hy | hy
          · exact hb y hy
          · rw [List.mem_singleton.mp hy]; omega
      · rintro σ' H' ⟨ns, x, rfl, hl, hb, hl', k', p'⟩
        walk_at "sts"
        exact q _ _ _ (by omega) hb k' p' (k1.free (by simpa using n2.1) hl2) hl'
end
/-! ### the program -/
def oV : Option Int → V
  | some v => .int v
  | none => .non
def oD : Option Int → PyData
  | some v => .int v
  | none => .none
/-- what is refused of a question: BadNumber of a number (true), BadLimit of a number (false) -/
def dueOf (ns : List Int) (place liars : Int) : Option (Bool × Int) :=
  match ns.find? (fun y => decide (y < 0)) with
  | some x => some (true, x)
  | none => if 0 ≤ place ∧ place < ns.length then (if 0 ≤ liars ∧ liars ≤ ns.length then none else some (false, liars)) else some (true, place)
theorem find_at : ∀ {ns : List Int} {i : Nat} {x : Int}, ns[i]? = some x → x < 0 → (∀ y ∈ ns.take i, 0 ≤ y) → ns.find? (fun y => decide (y < 0)) = some x
  | [], _, _, h, _, _ => by simp at h
  | a :: r, 0, x, h, hx, _ => by
    have e : a = x := by simpa using h
    subst e; simp [List.find?, hx]
  | a :: r, i + 1, x, h, hx, hy => by
    have ha : ¬ a < 0 := by have := hy a (by simp); omega
    rw [List.find?_cons_of_neg (by simpa using ha)]
    exact find_at (i := i) (by simpa using h) hx fun y h => hy y (by simp [h])
theorem find_no {ns : List Int} (h : ∀ y ∈ ns, 0 ≤ y) : ns.find? (fun y => decide (y < 0)) = none := by
  rw [List.find?_eq_none]; intro y hy; have := h y hy; simp; omega
theorem take_all {p : Int → Prop} {ns : List Int} (h : ∀ y ∈ ns.take ns.length, p y) : ∀ y ∈ ns, p y := by rwa [List.take_length] at h
theorem take_next {p : Int → Prop} {ns : List Int} {i : Nat} {x : Int} (hx : ns[i]? = some x) (h : ∀ y ∈ ns.take i, p y) (hp : p x) : ∀ y ∈ ns.take (i + 1), p y := by
  intro y hy
  rw [List.take_add_one, hx] at hy
  rcases List.mem_append.mp hy with hy | hy
  · exact h y hy
  · have : y = x := by simpa using hy
    rw [this]; exact hp
theorem map_int {ns : List Int} {i : Nat} {x : V} (h : (ns.map V.int)[i]? = some x) : ∃ y, ns[i]? = some y ∧ x = .int y := by
  rw [List.getElem?_map] at h
  obtain ⟨y, hy, rfl⟩ := Option.map_eq_some_iff.mp h
  exact ⟨y, hy, rfl⟩
def spEntry (K : PySem.W.Frag) : Sp := fun vs H Q _ => ∃ (p : Addr) (ns : List Int) (at_ : Int), vs = [.ref p, .int at_] ∧ SqL K H p (ns.map V.int) ∧ 0 ≤ at_ ∧ Q (oV ns[at_.toNat]?) H
/-- what worst_miss tells: the two places of the sorted list -/
def spWm (K : PySem.W.Frag) (CN CL : Addr) : Sp := fun vs H Q E => ∃ (p : Addr) (ns : List Int) (place liars : Int), vs = [.ref p, .int place, .int liars] ∧ SqL K H p (ns.map V.int) ∧ ns.length < 64 ∧ (∀ x ∈ ns, x.natAbs < 2 ^ 200) ∧ place.natAbs < 2 ^ 200 ∧ liars.natAbs < 2 ^ 200 ∧
  (∀ v, dueOf ns place liars = some (true, v) → ∀ d, H d = none → E (.ref CN) (some d) (upd H d (.xd [("number", .int v)]))) ∧
  (∀ v, dueOf ns place liars = some (false, v) → ∀ d, H d = none → E (.ref CL) (some d) (upd H d (.xd [("limit", .int v)]))) ∧
  (dueOf ns place liars = none → ∀ (ns' : List Int) (q : Addr) (H' : Hp), ns'.Perm ns → ns'.Pairwise (· ≤ ·) → Keep [] H H' → H q = none → H' q = some (.tup [oV ns'[(place + liars).toNat]?, oV ns'[((ns.length : Int) - 1 - place + liars).toNat]?]) → Q (.ref q) H')
section
variable {w : World} {K : PySem.W.Frag} {mg : Str → Option Value} {base : Heap}
theorem ok_entry (T : Tx K mg) : FnOk PG w K mg base CX0 1 T.f_entry_at T.fd_entry_at ["numbers", "position"] (spEntry K) := by
  refine T.F_entry_at.ok sc_entry_at (fun vs H Q E h => ?_) (fun cdv A outer s H vs Q E hr h => ?_)
  · obtain ⟨a, ns, i, rfl, _⟩ := h; rfl
  · obtain ⟨p, ns, i, rfl, hp, hi, q⟩ := h
    refine ⟨_, (pss_one (ps_ret (pe_ifExp (pt_cmpR op_lt (pv 1) (pe_callB call_len_seq (by rfl) T.m_len PySem.boot_len (pa_cons (pv 0) pa_nil)) (nomark _)) (pe_ix ix_list (pv 0) (pv 1) (fun _ _ => rfl)) pe_non))), ?_⟩
    walk_at "start"
    walk_at "sts"
    simp only [List.length_map]
    refine r_ite (fun c => ?_) (fun c => ?_)
    · walk_at "sts"
      rw [List.getElem?_eq_getElem (by omega)] at q
      rw [List.getD_eq_getElem?_getD, List.getElem?_eq_getElem (by omega)]
      exact q
    · walk_at "sts"
      rw [List.getElem?_eq_none (by omega)] at q
      exact q
theorem ok_wm (T : Tx K mg) (G_entry_at : FnOk PG w K mg base CX0 1 T.f_entry_at T.fd_entry_at ["numbers", "position"] (spEntry K)) :
    FnOk PG w K mg base (L2.CX PG w) 2 T.f_worst_miss T.fd_worst_miss ["radii", "place", "liars"] (spWm K T.C_BadNumber T.C_BadLimit) := by
  refine T.F_worst_miss.okX sc_worst_miss (fun vs H Q E h => ?_) (fun cdv A outer s H vs Q E hr h => ?_)
  · obtain ⟨p, ns, i, j, rfl, _⟩ := h; rfl
  · obtain ⟨p, ns, place, liars, rfl, hp, hl, hb, hb1, hb2, qN, qL, q_⟩ := h
    have tk0 : Takes (cxOf (L2.CX PG w) PG w K mg base ["radii", "place", "liars", "radius", "size", "ordered"] "worst_miss" (defScope s_worst_miss) T.f_worst_miss cdv A outer s H E) (fun cls d _ H => E cls d H) := takes_of rfl rfl rfl rfl
    have big : (2 : Nat) ^ 200 ≤ 2 ^ 1000 := Nat.pow_le_pow_right (by decide) (by decide)
    refine ⟨_, (pss_cons (ps_for (passes_of rfl) rfl (pi_list (pv 0)) (pg_name (i := 3) sc_worst_miss.nd rfl (Or.inl rfl))
    (pss_one (ps_if (pt_cmpR op_lt (pv 3) pe_int (nomark _))
    (pss_one (Er.ps_raise1 rfl (T.Z_BadNumber w) hr tk0 (pa_cons (pv 3) pa_nil)))
    pss_nil)))
    (pss_cons (ps_set (i := 4) sc_worst_miss.nd rfl (Or.inl rfl) (pe_callB call_len_seq (by rfl) T.m_len PySem.boot_len (pa_cons (pv 0) pa_nil)))
    (pss_cons (ps_if (pt_not (pt_chain op_le op_lt pe_int (pv 1) (pv 4)))
    (pss_one (Er.ps_raise1 rfl (T.Z_BadNumber w) hr tk0 (pa_cons (pv 1) pa_nil)))
    pss_nil)
    (pss_cons (ps_if (pt_not (pt_chain op_le op_le pe_int (pv 2) (pv 4)))
    (pss_one (Er.ps_raise1 rfl (T.Z_BadLimit w) hr tk0 (pa_cons (pv 2) pa_nil)))
    pss_nil)
    (pss_cons (ps_set (i := 5) sc_worst_miss.nd rfl (Or.inl rfl) (pe_callB cr_sorted (by rfl) T.m_sorted (by decide +kernel) (pa_cons (pv 0) pa_nil)))
    (pss_one (ps_ret (pe_tup (pa_cons (pe_call G_entry_at (hr.mono (by decide)) rfl T.g_entry_at T.F_entry_at.kp T.b_entry_at .nil pass0 (pa_cons (pv 5) (pa_cons (pe_op op_add (pv 1) (pv 2)) pa_nil))) (pa_cons (pe_call G_entry_at (hr.mono (by decide)) rfl T.g_entry_at T.F_entry_at.kp T.b_entry_at .nil pass0 (pa_cons (pv 5) (pa_cons (pe_op op_add (pe_op op_sub (pe_op op_sub (pv 4) pe_int) (pv 1)) (pv 2)) pa_nil))) pa_nil)))))))))), ?_⟩
    walk_at "start"
    walk_at "sts"
    refine forL_go (fun i σ' H' => ∃ x : Option V, σ' = [some (.ref p), some (.int place), some (.int liars), x, none, none] ∧ H' = H ∧ ∀ y ∈ ns.take i, 0 ≤ y) hp ⟨_, rfl, rfl, by simp⟩ (fun i σ' H' _ h => by obtain ⟨_, _, rfl, _⟩ := h; exact hp) ?_ ?_
    · rintro i x σ' H' hx ⟨z, rfl, rfl, hy⟩
      obtain ⟨y, hy', rfl⟩ := map_int hx
      walk_at "sts"
      refine r_ite (fun c => ?_) (fun c => ?_)
      · walk_at "sts"
        refine Er.r_msgI (Nat.lt_of_lt_of_le (hb y (List.mem_of_getElem? hy')) big) fun d hd => ?_
        exact qN y (by unfold dueOf; rw [find_at hy' c hy]) d hd
      · walk_at "sts"
        exact ⟨_, rfl, rfl, take_next hy' hy (by omega)⟩
    · rintro σ' H' ⟨z, rfl, rfl, hy⟩
      rw [List.length_map] at hy
      have hf := find_no (take_all hy)
      walk_at "sts"
      simp only [List.length_map]
      refine r_ite (fun c1 => ?_) (fun c1 => ?_)
      · walk_at "sts"
        refine r_iteN (fun c2 => ?_) (fun c2 => ?_)
        · walk_at "sts"
          refine Er.r_msgI (Nat.lt_of_lt_of_le hb1 big) fun d hd => ?_
          exact qN place (by unfold dueOf; rw [hf]; exact if_neg fun z => c2 z.2) d hd
        walk_at "sts"
        refine r_ite (fun c3 => ?_) (fun c3 => ?_)
        · walk_at "sts"
          refine r_iteN (fun c4 => ?_) (fun c4 => ?_)
          · walk_at "sts"
            refine Er.r_msgI (Nat.lt_of_lt_of_le hb2 big) fun d hd => ?_
            exact qL liars (by unfold dueOf; rw [hf]; exact (if_pos ⟨c1, c2⟩).trans (if_neg fun z => c4 z.2)) d hd
          walk_at "sts"
          refine ⟨_, _, rfl, hp, hl, fun ns' l pm pw nl => ?_⟩
          walk_at "sts"
          refine ⟨l, ns', _, rfl, sqL_of upd_same, by omega, ?_⟩
          walk_at "sts"
          refine ⟨l, ns', _, rfl, sqL_of upd_same, by omega, ?_⟩
          walk_at "sts"
          intro q hq
          exact q_ (by unfold dueOf; rw [hf]; exact (if_pos ⟨c1, c2⟩).trans (if_pos ⟨c3, c4⟩)) ns' q _ pm pw ((Keep.new nl).trans (Keep.new hq)) ((Keep.new (M := []) nl).free (by simp) hq) upd_same
        · walk_at "sts"
          refine Er.r_msgI (Nat.lt_of_lt_of_le hb2 big) fun d hd => ?_
          exact qL liars (by unfold dueOf; rw [hf]; exact (if_pos ⟨c1, c2⟩).trans (if_neg fun z => c3 z.1)) d hd
      · walk_at "sts"
        refine Er.r_msgI (Nat.lt_of_lt_of_le hb1 big) fun d hd => ?_
        exact qN place (by unfold dueOf; rw [hf]; exact if_neg fun z => c1 z.1) d hd
end
def dueT : Bool × Int → List V
  | (true, v) => [.str "number", .int v]
  | (false, v) => [.str "limit", .int v]
def dueL : Option (Bool × Int) → List V
  | none => []
  | some d => dueT d
def spRefusal (K : PySem.W.Frag) : Sp := fun vs H Q _ => ∃ (p : Addr) (ns : List Int) (place liars : Int), vs = [.ref p, .int place, .int liars] ∧ SqL K H p (ns.map V.int) ∧ ∀ (q : Addr) (H' : Hp), Keep [] H H' → H q = none → H' q = some (.tup (dueL (dueOf ns place liars))) → Q (.ref q) H'
def spAsk (K : PySem.W.Frag) : Sp := fun vs H Q _ => ∃ (p : Addr) (ns : List Int) (place liars : Int), vs = [.ref p, .int place, .int liars] ∧ SqL K H p (ns.map V.int) ∧ ns.length < 64 ∧ (∀ x ∈ ns, x.natAbs < 2 ^ 200) ∧ place.natAbs < 2 ^ 200 ∧ liars.natAbs < 2 ^ 200 ∧
  (∀ d, dueOf ns place liars = some d → ∀ (q : Addr) (H' : Hp), Keep [] H H' → H q = none → H' q = some (.tup (dueT d)) → Q (.ref q) H') ∧
  (dueOf ns place liars = none → ∀ (ns' : List Int) (t q : Addr) (H' : Hp), ns'.Perm ns → ns'.Pairwise (· ≤ ·) → Keep [] H H' → H q = none → H' t = some (.tup [oV ns'[(place + liars).toNat]?, oV ns'[((ns.length : Int) - 1 - place + liars).toNat]?]) → H' q = some (.tup [.str "told", .ref t]) → Q (.ref q) H')
section
variable {w : World} {K : PySem.W.Frag} {mg : Str → Option Value} {base : Heap}
theorem ok_refusal (T : Tx K mg) : FnOk PG w K mg base CX0 1 T.f_w_refusal T.fd_w_refusal ["_law_radii_here", "_law_place", "_law_liars"] (spRefusal K) := by
  refine T.F_w_refusal.ok sc_w_refusal (fun vs H Q E h => ?_) (fun cdv A outer s H vs Q E hr h => ?_)
  · obtain ⟨p, ns, i, j, rfl, _⟩ := h; rfl
  · obtain ⟨p, ns, place, liars, rfl, hp, q⟩ := h
    refine ⟨_, (pss_cons (ps_for PassesOwn.never rfl (pi_list (pv 0)) (pg_name (i := 3) sc_w_refusal.nd rfl (Or.inl rfl))
    (pss_one (ps_if (pt_cmpR op_lt (pv 3) pe_int (nomark _))
    (pss_one (ps_ret (pe_tup (pa_cons pe_str (pa_cons (pv 3) pa_nil)))))
    pss_nil)))
    (pss_cons (ps_if (pt_not (pt_chain op_le op_lt pe_int (pv 1) (pe_callB call_len_seq (by rfl) T.m_len PySem.boot_len (pa_cons (pv 0) pa_nil))))
    (pss_one (ps_ret (pe_tup (pa_cons pe_str (pa_cons (pv 1) pa_nil)))))
    pss_nil)
    (pss_one (ps_ret (pe_ifExp (pt_chain op_le op_le pe_int (pv 2) (pe_callB call_len_seq (by rfl) T.m_len PySem.boot_len (pa_cons (pv 0) pa_nil))) (pe_tup pa_nil) (pe_tup (pa_cons pe_str (pa_cons (pv 2) pa_nil)))))))), ?_⟩
    walk_at "start"
    walk_at "sts"
    refine forL_go (fun i σ' H' => ∃ x : Option V, σ' = [some (.ref p), some (.int place), some (.int liars), x] ∧ H' = H ∧ ∀ y ∈ ns.take i, 0 ≤ y) hp ⟨_, rfl, rfl, by simp⟩ (fun i σ' H' _ h => by obtain ⟨_, _, rfl, _⟩ := h; exact hp) ?_ ?_
    · rintro i x σ' H' hx ⟨z, rfl, rfl, hy⟩
      obtain ⟨y, hy', rfl⟩ := map_int hx
      walk_at "sts"
      refine r_ite (fun c => ?_) (fun c => ?_)
      · walk_at "sts"
        intro t ht
        exact q t _ (Keep.new ht) ht (by rw [upd_same]; unfold dueOf; rw [find_at hy' c hy]; rfl)
      · walk_at "sts"
        exact ⟨_, rfl, rfl, take_next hy' hy (by omega)⟩
    · rintro σ' H' ⟨z, rfl, rfl, hy⟩
      rw [List.length_map] at hy
      have hf := find_no (take_all hy)
      walk_at "sts"
      simp only [List.length_map]
      refine r_ite (fun c1 => ?_) (fun c1 => ?_)
      · walk_at "sts"
        simp only [List.length_map]
        refine r_iteN (fun c2 => ?_) (fun c2 => ?_)
        · walk_at "sts"
          intro t ht
          exact q t _ (Keep.new ht) ht (by rw [upd_same]; unfold dueOf; rw [hf]; rw [show (if 0 ≤ place ∧ place < (ns.length : Int) then (if 0 ≤ liars ∧ liars ≤ (ns.length : Int) then none else some (false, liars)) else some (true, place)) = some (true, place) from if_neg fun z => c2 z.2]; rfl)
        walk_at "sts"
        refine r_ite (fun c3 => ?_) (fun c3 => ?_)
        · walk_at "sts"
          simp only [List.length_map]
          refine r_ite (fun c4 => ?_) (fun c4 => ?_)
          · walk_at "sts"
            intro t ht
            exact q t _ (Keep.new ht) ht (by rw [upd_same]; unfold dueOf; rw [hf]; rw [show (if 0 ≤ place ∧ place < (ns.length : Int) then (if 0 ≤ liars ∧ liars ≤ (ns.length : Int) then none else some (false, liars)) else some (true, place)) = none from (if_pos ⟨c1, c2⟩).trans (if_pos ⟨c3, c4⟩)]; rfl)
          · walk_at "sts"
            intro t ht
            exact q t _ (Keep.new ht) ht (by rw [upd_same]; unfold dueOf; rw [hf]; rw [show (if 0 ≤ place ∧ place < (ns.length : Int) then (if 0 ≤ liars ∧ liars ≤ (ns.length : Int) then none else some (false, liars)) else some (true, place)) = some (false, liars) from (if_pos ⟨c1, c2⟩).trans (if_neg fun z => c4 z.2)]; rfl)
        · walk_at "sts"
          intro t ht
          exact q t _ (Keep.new ht) ht (by rw [upd_same]; unfold dueOf; rw [hf]; rw [show (if 0 ≤ place ∧ place < (ns.length : Int) then (if 0 ≤ liars ∧ liars ≤ (ns.length : Int) then none else some (false, liars)) else some (true, place)) = some (false, liars) from (if_pos ⟨c1, c2⟩).trans (if_neg fun z => c3 z.1)]; rfl)
      · walk_at "sts"
        intro t ht
        exact q t _ (Keep.new ht) ht (by rw [upd_same]; unfold dueOf; rw [hf]; rw [show (if 0 ≤ place ∧ place < (ns.length : Int) then (if 0 ≤ liars ∧ liars ≤ (ns.length : Int) then none else some (false, liars)) else some (true, place)) = some (true, place) from if_neg fun z => c1 z.1]; rfl)
theorem ok_ask (T : Tx K mg) (G_worst_missX : FnOk PG w K mg base (L2.CX PG w) 2 T.f_worst_miss T.fd_worst_miss ["radii", "place", "liars"] (spWm K T.C_BadNumber T.C_BadLimit)) :
    FnOk PG w K mg base CX0 3 T.f_w_ask T.fd_w_ask ["_law_radii_here", "_law_place", "_law_liars"] (spAsk K) := by
  refine T.F_w_ask.ok sc_w_ask (fun vs H Q E h => ?_) (fun cdv A outer s H vs Q E hr h => ?_)
  · obtain ⟨p, ns, i, j, rfl, _⟩ := h; rfl
  · obtain ⟨p, ns, place, liars, rfl, hp, hl, hb, hb1, hb2, qE, q⟩ := h
    refine ⟨_, (pss_one (ps_try_as (i := 3) (Wout := fun _ _ _ _ => False) rfl rfl sc_w_ask.nd rfl rfl ⟨rfl, by decide, Or.inl T.gC_MeteError⟩ takes0 (fun W pn xe tk _ => (pss_one (ps_ret (pe_tup (pa_cons pe_str (pa_cons (pe_callSD G_worst_missX (hr.mono (by decide)) rfl T.g_worst_miss T.F_worst_miss.kp T.b_worst_miss .nil (fun σ => passAt tk σ) (pa_cons (pv 0) (pa_cons (pv 1) (pa_cons (pv 2) pa_nil)))) pa_nil)))))) (fun a oe cls d pn hz hf => (pss_cons (ps_set (i := 4) sc_w_ask.nd rfl (Or.inl rfl) (pe_lst (pa_cons (pe_callB (Er.call_isD hz hf) (by rfl) T.m_isinstance (by decide +kernel) (pa_cons (pv 3) (pa_cons (pe_glob (v := .ref T.C_BadNumber) rfl T.gC_BadNumber rfl) pa_nil))) (pa_cons (pe_callB (Er.call_isD hz hf) (by rfl) T.m_isinstance (by decide +kernel) (pa_cons (pv 3) (pa_cons (pe_glob (v := .ref T.C_BadLimit) rfl T.gC_BadLimit rfl) pa_nil))) (pa_cons (pe_callB (Er.call_isD hz hf) (by rfl) T.m_isinstance (by decide +kernel) (pa_cons (pv 3) (pa_cons (pe_bltn (v := .ty "ValueError") (by rfl) T.m_ValueError boot_ValueError rfl) pa_nil))) pa_nil)))))
    (pss_cons (ps_if (pt_cmpR (Er.op_eqDK (K := K) rfl hr.units) (pv 4) (pe_lst (pa_cons pe_bl (pa_cons pe_bl (pa_cons pe_bl pa_nil)))) (nomark _))
    (pss_one (ps_ret (pe_tup (pa_cons pe_str (pa_cons (pe_xf T.xf_BadNumber (T.Z_BadNumber w).noN hz hf (pv 3)) pa_nil)))))
    pss_nil)
    (pss_cons (ps_if (pt_cmpR (Er.op_eqDK (K := K) rfl hr.units) (pv 4) (pe_lst (pa_cons pe_bl (pa_cons pe_bl (pa_cons pe_bl pa_nil)))) (nomark _))
    (pss_one (ps_ret (pe_tup (pa_cons pe_str (pa_cons (pe_xf T.xf_BadLimit (T.Z_BadLimit w).noN hz hf (pv 3)) pa_nil)))))
    pss_nil)
    (pss_one (ps_ret (pe_tup (pa_cons pe_str pa_nil)))))))))), ?_⟩
    walk_at "start"
    walk_at "sts"
    refine ⟨p, ns, place, liars, rfl, hp, hl, hb, hb1, hb2, ?_, ?_, ?_⟩
    · intro v hv d hd
      refine ⟨true, T.exm_BadNumber_MeteError, fun _ a ha => ?_, fun z => nomatch z⟩
      have hd' : upd H d (.xd [("number", .int v)]) d = some (.xd [("number", .int v)]) := upd_same
      have k1 : Keep [] H (upd H d (.xd [("number", .int v)])) := Keep.new hd
      generalize upd H d (.xd [("number", .int v)]) = H1 at hd' k1 ha ⊢
      simp only [List.set_cons_succ, List.set_cons_zero]
      walk_at "sts"
      refine Er.r_isD T.X_BadNumber hd' (fun u r => r) T.kit_BadNumber_BadNumber ?_
      walk_at "sts"
      refine Er.r_isD T.X_BadNumber hd' (fun u r => r) T.kit_BadNumber_BadLimit ?_
      walk_at "sts"
      refine Er.r_isD T.X_BadNumber hd' (fun u r => r) T.kit_BadNumber_ValueError ?_
      walk_at "sts"
      intro l hl
      walk_at "sts"
      intro m hm
      have k2 := (Keep.new (M := []) (o := .lst [.bl true, .bl false, .bl true]) hl)
      refine r_eqL (b := true) (sqL_of (by rw [upd_ne (ne_of_none upd_same hm)]; exact upd_same)) (sqL_of upd_same) rfl rfl (by decide) ?_
      walk_at "sts"
      refine Er.r_xfE (by rw [upd_ne (ne_of_none (k2 _ _ (by simp) hd') hm)]; exact k2 _ _ (by simp) hd') rfl ?_
      walk_at "sts"
      intro u hu
      have k3 := k1.trans (k2.trans (Keep.new (o := .lst [.bl true, .bl false, .bl true]) hm))
      exact qE _ hv u _ (k3.trans (Keep.new hu)) (k3.free (by simp) hu) upd_same
    · intro v hv d hd
      refine ⟨true, T.exm_BadLimit_MeteError, fun _ a ha => ?_, fun z => nomatch z⟩
      have hd' : upd H d (.xd [("limit", .int v)]) d = some (.xd [("limit", .int v)]) := upd_same
      have k1 : Keep [] H (upd H d (.xd [("limit", .int v)])) := Keep.new hd
      generalize upd H d (.xd [("limit", .int v)]) = H1 at hd' k1 ha ⊢
      simp only [List.set_cons_succ, List.set_cons_zero]
      walk_at "sts"
      refine Er.r_isD T.X_BadLimit hd' (fun u r => r) T.kit_BadLimit_BadNumber ?_
      walk_at "sts"
      refine Er.r_isD T.X_BadLimit hd' (fun u r => r) T.kit_BadLimit_BadLimit ?_
      walk_at "sts"
      refine Er.r_isD T.X_BadLimit hd' (fun u r => r) T.kit_BadLimit_ValueError ?_
      walk_at "sts"
      intro l hl
      walk_at "sts"
      intro m hm
      have k2 := (Keep.new (M := []) (o := .lst [.bl false, .bl true, .bl true]) hl)
      refine r_eqL (b := false) (sqL_of (by rw [upd_ne (ne_of_none upd_same hm)]; exact upd_same)) (sqL_of upd_same) rfl rfl (by decide) ?_
      walk_at "sts"
      intro m2 hm2
      refine r_eqL (b := true) (sqL_of (by rw [upd_ne (ne_of_none (by rw [upd_ne (ne_of_none upd_same hm)]; exact upd_same) hm2), upd_ne (ne_of_none upd_same hm)]; exact upd_same)) (sqL_of upd_same) rfl rfl (by decide) ?_
      have k3 := k2.trans ((Keep.new (o := .lst [.bl true, .bl false, .bl true]) hm).trans (Keep.new (o := .lst [.bl false, .bl true, .bl true]) hm2))
      walk_at "sts"
      refine Er.r_xfE (k3 _ _ (by simp) hd') rfl ?_
      walk_at "sts"
      intro u hu
      have k4 := k1.trans k3
      exact qE _ hv u _ (k4.trans (Keep.new hu)) (k4.free (by simp) hu) upd_same
    · intro e ns' t H' pm pw k1 nt ht
      walk_at "sts"
      intro u hu
      exact q e ns' t u _ pm pw (k1.trans (Keep.new hu)) (k1.free (by simp) hu) (by rw [upd_ne (ne_of_none ht hu)]; exact ht) upd_same
end
/-! ### rows of rows -/
def rowV (c : List Nat) : List V := c.map fun k => V.int (k : Nat)
def RowsAt (M : List Addr) (H : Hp) : List V → List (List Nat) → Prop
  | [], [] => True
  | r :: rs, c :: cs => (∃ a, r = .ref a ∧ a ∉ M ∧ H a = some (.lst (rowV c))) ∧ RowsAt M H rs cs
  | [], _ :: _ => False
  | _ :: _, [] => False
theorem RowsAt.len {M : List Addr} {H : Hp} : ∀ {rs : List V} {cs : List (List Nat)}, RowsAt M H rs cs → rs.length = cs.length
  | [], [], _ => rfl
  | r :: rs, c :: cs, h => by rw [List.length_cons, List.length_cons, RowsAt.len h.2]
theorem RowsAt.app {M : List Addr} {H : Hp} : ∀ {rs rs' : List V} {cs cs' : List (List Nat)}, RowsAt M H rs cs → RowsAt M H rs' cs' → RowsAt M H (rs ++ rs') (cs ++ cs')
  | [], _, [], _, _, k => k
  | r :: rs, _, c :: cs, _, h, k => ⟨h.1, RowsAt.app h.2 k⟩
theorem RowsAt.keep {M : List Addr} {H H' : Hp} (e : Keep M H H') : ∀ {rs : List V} {cs : List (List Nat)}, RowsAt M H rs cs → RowsAt M H' rs cs
  | [], [], _ => trivial
  | r :: rs, c :: cs, ⟨⟨a, h1, h2, h3⟩, h⟩ => ⟨⟨a, h1, h2, e _ _ h2 h3⟩, RowsAt.keep e h⟩
theorem RowsAt.free {M : List Addr} {H : Hp} {D : Addr} (hD : H D = none) : ∀ {rs : List V} {cs : List (List Nat)}, RowsAt M H rs cs → RowsAt (D :: M) H rs cs
  | [], [], _ => trivial
  | r :: rs, c :: cs, ⟨⟨a, h1, h2, h3⟩, h⟩ => ⟨⟨a, h1, fun z => by
      rcases List.mem_cons.mp z with z | z
      · rw [z, hD] at h3; cases h3
      · exact h2 z, h3⟩, RowsAt.free hD h⟩
theorem RowsAt.sub {M N : List Addr} {H : Hp} (hs : ∀ a ∈ N, a ∈ M) : ∀ {rs : List V} {cs : List (List Nat)}, RowsAt M H rs cs → RowsAt N H rs cs
  | [], [], _ => trivial
  | r :: rs, c :: cs, ⟨⟨a, h1, h2, h3⟩, h⟩ => ⟨⟨a, h1, fun z => h2 (hs a z), h3⟩, RowsAt.sub hs h⟩
theorem RowsAt.get {M : List Addr} {H : Hp} : ∀ {rs : List V} {cs : List (List Nat)} {i : Nat} {r : V}, RowsAt M H rs cs → rs[i]? = some r → ∃ a c, r = .ref a ∧ cs[i]? = some c ∧ a ∉ M ∧ H a = some (.lst (rowV c))
  | r :: rs, c :: cs, 0, x, ⟨⟨a, h1, h2, h3⟩, h⟩, e => by
    have : r = x := by simpa using e
    subst this; exact ⟨a, c, h1, rfl, h2, h3⟩
  | r :: rs, c :: cs, i + 1, x, h, e => by
    obtain ⟨a, d, h1, h2, h3⟩ := RowsAt.get (i := i) h.2 (by simpa using e)
    exact ⟨a, d, h1, by simpa using h2, h3⟩
def chF (liars : Int) (k : Nat) (row : List Nat) : List (List Nat) := if (row.length : Int) < liars then [row, row ++ [k]] else [row]
theorem chF_len {liars : Int} {k : Nat} {row : List Nat} : (chF liars k row).length ≤ 2 := by
  unfold chF; split <;> simp
theorem flat_len {α β : Type} {f : α → List β} (h : ∀ x, (f x).length ≤ 2) : ∀ xs : List α, (xs.flatMap f).length ≤ 2 * xs.length
  | [] => by simp
  | x :: xs => by
    rw [List.flatMap_cons, List.length_append, List.length_cons]
    have := flat_len h xs
    have := h x
    omega
def chs (liars : Int) : Nat → List (List Nat)
  | 0 => [[]]
  | k + 1 => (chs liars k).flatMap (chF liars k)
theorem chs_len {liars : Int} : ∀ n, (chs liars n).length ≤ 2 ^ n
  | 0 => by simp [chs]
  | n + 1 => by
    have a := flat_len (fun x => chF_len (liars := liars) (k := n) (row := x)) (chs liars n)
    have b := chs_len (liars := liars) n
    rw [Nat.pow_succ]
    show ((chs liars n).flatMap (chF liars n)).length ≤ _
    omega
theorem chs_ch {liars : Nat} : ∀ n, chs liars n = Rk.ch liars n
  | 0 => rfl
  | n + 1 => by
    show (chs liars n).flatMap (chF liars n) = (Rk.ch liars n).flatMap _
    rw [chs_ch n]
    congr 1
    funext row
    unfold chF
    by_cases h : row.length < liars
    · rw [if_pos (by omega), if_pos h]
    · rw [if_neg (by omega), if_neg h]
theorem chs_row {liars : Int} : ∀ {n : Nat} {c : List Nat}, c ∈ chs liars n → c.length ≤ n
  | 0, c, h => by rw [List.mem_singleton.mp h]; simp
  | n + 1, c, h => by
    obtain ⟨d, hd, hc⟩ := List.mem_flatMap.mp h
    have := chs_row hd
    unfold chF at hc
    split at hc
    · rcases List.mem_cons.mp hc with e | e
      · rw [e]; omega
      · rw [List.mem_singleton.mp e, List.length_append]; simp; omega
    · rw [List.mem_singleton.mp hc]; omega
theorem take_flat {α β : Type} {f : α → List β} {xs : List α} {i : Nat} {x : α} (h : xs[i]? = some x) : (xs.take (i + 1)).flatMap f = (xs.take i).flatMap f ++ f x := by
  rw [List.take_add_one, h, List.flatMap_append]; simp
theorem rowV_len {c : List Nat} : (rowV c).length = c.length := List.length_map _
theorem rowV_flat : ∀ c : List Nat, (rowV c).all L2.flatV = true
  | [] => rfl
  | k :: c => by
    show (L2.flatV (V.int k) && (rowV c).all L2.flatV) = true
    rw [rowV_flat c]; rfl
theorem in_row {i : Nat} : ∀ {c : List Nat}, inV (V.int i) (rowV c) = c.contains i
  | [] => rfl
  | k :: c => by
    show (eqV (V.int k) (V.int i) || inV (V.int i) (rowV c)) = _
    rw [in_row (c := c), List.contains_cons]
    congr 1
    show ((k : Int) == (i : Int)) = (i == k)
    by_cases h : i = k
    · subst h; simp
    · rw [beq_eq_false_iff_ne.mpr h, beq_eq_false_iff_ne.mpr (by omega)]
def spChoices : Sp := fun vs H Q _ => ∃ (n : Nat) (liars : Int), vs = [.int n, .int liars] ∧ n ≤ 7 ∧ ∀ (p : Addr) (rs : List V) (H' : Hp), Keep [] H H' → H p = none → H' p = some (.lst rs) → RowsAt [] H' rs (chs liars n) → Q (.ref p) H'
section
variable {w : World} {K : PySem.W.Frag} {mg : Str → Option Value} {base : Heap}
theorem ok_choices (T : Tx K mg) : FnOk PG w K mg base CX0 1 T.f_w_choices T.fd_w_choices ["_law_many", "_law_liars"] spChoices := by
  refine T.F_w_choices.ok sc_w_choices (fun vs H Q E h => ?_) (fun cdv A outer s H vs Q E hr h => ?_)
  · obtain ⟨n, l, rfl, _⟩ := h; rfl
  · obtain ⟨n, liars, rfl, hn, q⟩ := h
    refine ⟨_, (pss_cons (ps_set (i := 2) sc_w_choices.nd rfl (Or.inl rfl) (pe_lst (pa_cons (pe_lst pa_nil) pa_nil)))
    (pss_cons (ps_for PassesOwn.never rfl (pi_range1 rfl T.m_range (pa_cons (pv 0) pa_nil)) (pg_name (i := 3) sc_w_choices.nd rfl (Or.inl rfl))
    (pss_cons (ps_set (i := 4) sc_w_choices.nd rfl (Or.inl rfl) (pe_lst pa_nil))
    (pss_cons (ps_for PassesOwn.never rfl (pi_list (pv 2)) (pg_name (i := 5) sc_w_choices.nd rfl (Or.inl rfl))
    (pss_cons (ps_expr (pe_bm PySem.F.plainAttrs_list PySem.F.slot_list_append PySem.F.type_list_append mt_append (pv 4) (pa_cons (pv 5) pa_nil)))
    (pss_one (ps_if (pt_cmpR op_lt (pe_callB call_len_seq (by rfl) T.m_len PySem.boot_len (pa_cons (pv 5) pa_nil)) (pv 1) (nomark _))
    (pss_one (ps_expr (pe_bm PySem.F.plainAttrs_list PySem.F.slot_list_append PySem.F.type_list_append mt_append (pv 4) (pa_cons (pe_op op_cat (pv 5) (pe_lst (pa_cons (pv 3) pa_nil))) pa_nil))))
    pss_nil))))
    (pss_one (ps_set (i := 2) sc_w_choices.nd rfl (Or.inl rfl) (pe_callTy call_list_of (by rfl) T.m_list (by decide +kernel) (pa_cons (pv 4) pa_nil)))))))
    (pss_one (ps_ret (pv 2))))), ?_⟩
    walk_at "start"
    walk_at "sts"
    intro p0 h0
    walk_at "sts"
    intro p1 h1
    walk_at "sts"
    refine forR1_go (fun i σ' H' => ∃ (p : Addr) (rs : List V) (x y z : Option V), σ' = [some (.int n), some (.int liars), some (.ref p), x, y, z] ∧ i ≤ n ∧ Keep [] H H' ∧ H p = none ∧ H' p = some (.lst rs) ∧ RowsAt [] H' rs (chs liars i)) (by omega) ?_ ?_ ?_
    · refine ⟨p1, [.ref p0], _, _, _, rfl, by omega, (Keep.new h0).trans (Keep.new h1), (Keep.new (M := []) (o := .lst []) h0).free (by simp) h1, upd_same, ⟨⟨p0, rfl, by simp, ?_⟩, trivial⟩⟩
      rw [upd_ne (ne_of_none upd_same h1)]; exact upd_same
    · rintro i σ' H' hi ⟨p, rs, x, y, z, rfl, hi', k1, hp0, hp, hrs⟩
      walk_at "sts"
      intro D hD
      walk_at "sts"
      have kD : Keep [] H' (upd H' D (.lst [])) := Keep.new hD
      have hDn : H D = none := k1.free (by simp) hD
      refine forL_go (fun j σ2 H2 => ∃ (z : Option V) (acc : List V), σ2 = [some (.int n), some (.int liars), some (.ref p), some (.int i), some (.ref D), z] ∧ H2 D = some (.lst acc) ∧ Keep [] H' H2 ∧ RowsAt [D] H2 acc (((chs liars i).take j).flatMap (chF liars i)) ∧ j ≤ rs.length) (xs := rs)
        (sqL_of (kD _ _ (by simp) hp)) ⟨_, [], rfl, upd_same, kD, trivial, Nat.zero_le _⟩ (fun j σ2 H2 _ h => by obtain ⟨_, _, _, _, k2, _⟩ := h; exact sqL_of (k2 _ _ (by simp) hp)) ?_ ?_
      · rintro j r σ2 H2 hr ⟨z, acc, rfl, hacc, k2, hra, hj⟩
        obtain ⟨a, c, rfl, hc, _, ha⟩ := hrs.get hr
        have hjl := (List.getElem?_eq_some_iff.mp hr).1
        have cl := chs_len (liars := liars) i
        have c7 : 2 ^ i ≤ 2 ^ 7 := Nat.pow_le_pow_right (by decide) (by omega)
        have hal := hra.len
        have hfl := flat_len (fun x => chF_len (liars := liars) (k := i) (row := x)) ((chs liars i).take j)
        rw [List.length_take] at hfl
        have haD : a ≠ D := ne_of_none ha hD
        have ha2 := k2 _ _ (by simp) ha
        have hcr := chs_row (List.mem_of_getElem? hc)
        have hDn2 : ∀ o, Keep [] H' (upd H2 D o) := fun o => k2.mut hD
        walk_at "sts"
        refine r_app hacc (lt_size (by omega)) ?_
        have ha3 : upd H2 D (.lst (acc ++ [.ref a])) a = some (.lst (rowV c)) := by rw [upd_ne haD]; exact ha2
        have hra3 : RowsAt [D] (upd H2 D (.lst (acc ++ [.ref a]))) (acc ++ [.ref a]) (((chs liars i).take j).flatMap (chF liars i) ++ [c]) := (hra.keep (Keep.at (by simp))).app ⟨⟨a, rfl, by simpa using haD, ha3⟩, trivial⟩
        have hacc3 : upd H2 D (.lst (acc ++ [.ref a])) D = some (.lst (acc ++ [.ref a])) := upd_same
        have k3 := hDn2 (.lst (acc ++ [.ref a]))
        generalize upd H2 D (.lst (acc ++ [.ref a])) = H3 at ha3 hra3 hacc3 k3 ⊢
        walk_at "sts"
        simp only [rowV_len]
        refine r_ite (fun cc => ?_) (fun cc => ?_)
        · walk_at "sts"
          intro m hm
          have ha4 : upd H3 m (.lst [.int i]) a = some (.lst (rowV c)) := by rw [upd_ne (ne_of_none ha3 hm)]; exact ha3
          refine r_cat ha4 upd_same (le_size (by rw [rowV_len]; simp; omega)) (fun r2 hr2 => ?_)
          have k4 : Keep [] H3 (upd (upd H3 m (.lst [.int i])) r2 (.lst (rowV c ++ [.int i]))) := (Keep.new hm).trans (Keep.new hr2)
          have hacc4 := k4 _ _ (by simp) hacc3
          have hr2' : upd (upd H3 m (.lst [.int i])) r2 (.lst (rowV c ++ [.int i])) r2 = some (.lst (rowV (c ++ [i]))) := by rw [upd_same]; unfold rowV; rw [List.map_append]; rfl
          have n2 : r2 ≠ D := ne_free ((Keep.new (M := []) (o := .lst [.int i]) hm) _ _ (by simp) hacc3) hr2
          have hra4 := hra3.keep (k4.mono (N := [D]) (by simp))
          have k5 := k3.trans k4
          generalize upd (upd H3 m (.lst [.int i])) r2 (.lst (rowV c ++ [.int i])) = H4 at k4 hacc4 hr2' hra4 k5 ⊢
          walk_at "sts"
          refine ⟨_, _, rfl, upd_same, k5.mut hD, ?_, by omega⟩
          rw [take_flat hc, show chF liars i c = [c] ++ [c ++ [i]] by unfold chF; rw [if_pos cc]; rfl, ← List.append_assoc]
          exact (hra4.keep (Keep.at (by simp))).app ⟨⟨r2, rfl, by simpa using n2, by rw [upd_ne n2]; exact hr2'⟩, trivial⟩
        · walk_at "sts"
          refine ⟨_, _, rfl, hacc3, k3, ?_, by omega⟩
          rw [take_flat hc, show chF liars i c = [c] by unfold chF; rw [if_neg cc]]
          exact hra3
      · rintro σ2 H2 ⟨z, acc, rfl, hacc, k2, hra, hj⟩
        walk_at "sts"
        intro l hl
        walk_at "sts"
        have k4 := (k1.trans k2).trans (Keep.new (o := .lst acc) hl)
        refine ⟨l, acc, _, _, _, rfl, by omega, k4, (k1.trans k2).free (by simp) hl, upd_same, ?_⟩
        rw [hrs.len, List.take_length] at hra
        exact (hra.keep (Keep.new hl)).sub (by simp)
    · rintro σ' H' ⟨p, rs, x, y, z, rfl, hi', k1, hp0, hp, hrs⟩
      walk_at "sts"
      exact q p rs H' k1 hp0 hp hrs
def spGreatest : Sp := fun vs H Q _ => ∃ a b : Option Int, vs = [oV a, oV b] ∧ Q (oV (Rk.topMax a b)) H
theorem ok_greatest (T : Tx K mg) : FnOk PG w K mg base CX0 1 T.f_w_greatest T.fd_w_greatest ["_law_first", "_law_second"] spGreatest := by
  refine T.F_w_greatest.ok sc_w_greatest (fun vs H Q E h => ?_) (fun cdv A outer s H vs Q E hr h => ?_)
  · obtain ⟨n, l, rfl, _⟩ := h; rfl
  · obtain ⟨a, b, rfl, q⟩ := h
    refine ⟨_, (pss_cons (ps_if (PW.pt (pw_or (pt_cmpR op_isNc (pv 0) pe_non (nomark _)) (pw_or1 (pt_cmpR op_isNc (pv 1) pe_non (nomark _)))))
    (pss_one (ps_ret pe_non))
    pss_nil)
    (pss_one (ps_ret (pe_callB (call_max2 rfl) (by rfl) T.m_max (by decide +kernel) (pa_cons (pv 0) (pa_cons (pv 1) pa_nil)))))), ?_⟩
    walk_at "start"
    cases a <;> cases b
    · simp only [oV]
      walk_at "sts"
      exact q
    · simp only [oV]
      walk_at "sts"
      exact q
    · simp only [oV]
      walk_at "sts"
      exact q
    · rename_i x y
      simp only [oV]
      walk_at "sts"
      exact q
/-- a choice's answer: the sorted rest's entry at t -/
def spCase (K : PySem.W.Frag) : Sp := fun vs H Q _ => ∃ (p l : Addr) (ns : List Int) (place : Int) (c : List Nat), vs = [.ref p, .int place, .ref l] ∧ SqL K H p (ns.map V.int) ∧ SqL K H l (rowV c) ∧ ns.length < 64 ∧ 0 ≤ place ∧ place < ns.length ∧ (∀ i ∈ c, i < ns.length) ∧ (List.range ns.length).filter (fun i => c.contains i) = c ∧
  ∀ (a b : Option Int) (q : Addr) (H' : Hp), Rk.CaseAt ns.length (fun i => ns.getD i 0) place.toNat c a → Rk.CaseAt ns.length (fun i => ns.getD i 0) (ns.length - 1 - place.toNat) c b → Keep [] H H' → H q = none → H' q = some (.tup [oV a, oV b]) → Q (.ref q) H'
theorem ok_case (T : Tx K mg) : FnOk PG w K mg base CX0 1 T.f_w_case T.fd_w_case ["_law_radii_here", "_law_place", "_law_lying"] (spCase K) := by
  refine T.F_w_case.ok sc_w_case (fun vs H Q E h => ?_) (fun cdv A outer s H vs Q E hr h => ?_)
  · obtain ⟨p, l, ns, place, c, rfl, _⟩ := h; rfl
  · obtain ⟨p, l, ns, place, c, rfl, hp, hl, h64, hp0, hp1, hc1, hc2, q⟩ := h
    have hkl := Rk.kept_len (n := ns.length) (f := fun i => ns.getD i 0) hc2
    refine ⟨_, (pss_cons (ps_set (i := 3) sc_w_case.nd rfl (Or.inl rfl) (pe_callB cr_sorted (by rfl) T.m_sorted (by decide +kernel) (pa_cons (pe_lc (own := [("_law_k", 4)]) (g := gName 4)  rfl sc_w_case.nd (pi_range1 rfl T.m_range (pa_cons (pe_callB call_len_seq (by rfl) T.m_len PySem.boot_len (pa_cons (pv 0) pa_nil)) pa_nil)) (blkOk_by (own := [("_law_k", 4)]) (N := ["_law_radii_here", "_law_place", "_law_lying", "_law_honest", "_law_k", "_law_above", "_law_below"]) (sc := defScope s_w_case) (by decide +kernel)) (fun _ _ _ _ _ => pg_name (i := 4) sc_w_case.nd rfl (Or.inl rfl)) (fun _ _ _ _ _ => pts_one (pt_cmpR (op_notIn_seqK (K := K) rfl) (pv 4) (pv 2) (by rfl))) (fun _ _ _ _ _ => (pe_ix (ix_listK (K := K) rfl) (pv 0) (pv 4) (fun _ _ => rfl)))) pa_nil)))
    (pss_cons (ps_set (i := 5) sc_w_case.nd rfl (Or.inl rfl) (pe_ifExp (pt_cmpR op_lt (pv 1) (pe_callB call_len_seq (by rfl) T.m_len PySem.boot_len (pa_cons (pv 3) pa_nil)) (nomark _)) (pe_ix ix_list (pv 3) (pv 1) (fun _ _ => rfl)) pe_non))
    (pss_cons (ps_set (i := 6) sc_w_case.nd rfl (Or.inl rfl) (pe_ifExp (pt_cmpR op_ge (pv 1) (pe_callB call_len_seq (by rfl) T.m_len PySem.boot_len (pa_cons (pv 2) pa_nil)) (nomark _)) (pe_ix ix_list (pv 3) (pe_op op_sub (pe_op op_sub (pe_callB call_len_seq (by rfl) T.m_len PySem.boot_len (pa_cons (pv 3) pa_nil)) pe_int) (pe_op op_sub (pv 1) (pe_callB call_len_seq (by rfl) T.m_len PySem.boot_len (pa_cons (pv 2) pa_nil)))) (fun _ _ => rfl)) pe_non))
    (pss_one (ps_ret (pe_tup (pa_cons (pv 5) (pa_cons (pv 6) pa_nil)))))))), ?_⟩
    walk_at "start"
    walk_at "sts"
    refine lcR1_go (fun D i acc H' => acc = (((List.range i).filter fun j => !c.contains j).map fun j => V.int (ns.getD j 0)) ∧ i ≤ ns.length ∧ H D = none ∧ Keep [] H H') (by rw [List.length_map]; omega) (fun D hD => ?_) (fun D i acc H' hi hD => ?_) (fun D acc H' hD hD' => ?_)
    · exact ⟨rfl, Nat.zero_le _, hD, Keep.new hD⟩
    · rintro ⟨rfl, hi', hDn, k1⟩
      rw [List.length_map] at hi
      have hpi := k1.l (by simp) hp
      have hli := k1.l (by simp) hl
      have hlen : ((List.range i).filter fun j => !c.contains j).length ≤ i := by
        have := List.length_filter_le (fun j => !c.contains j) (List.range i)
        rwa [List.length_range] at this
      walk_at "sts"
      refine r_ninL hli rfl (rowV_flat c) ?_
      rw [in_row]
      walk_at "sts"
      cases hc : c.contains i
      · walk_at "sts"
        refine ⟨_, hD, lt_size (by rw [List.length_map]; omega), _, upd_same, ?_, by omega, hDn, k1.mut hDn⟩
        rw [List.range_succ, List.filter_append, List.map_append, List.filter_cons, List.filter_nil, hc]
        simp
      · walk_at "sts"
        refine ⟨_, hD, ?_, by omega, hDn, k1⟩
        rw [List.range_succ, List.filter_append, List.map_append, List.filter_cons, List.filter_nil, hc]
        simp
    · rintro ⟨rfl, hi', hDn, k1⟩
      have ek : ((List.range (Int.toNat (List.map V.int ns).length)).filter fun j => !c.contains j).map (fun j => V.int (ns.getD j 0)) = (Rk.kept ns.length (fun i => ns.getD i 0) c).map V.int := by
        rw [List.length_map, Int.toNat_natCast]
        unfold Rk.kept
        rw [List.map_map]; rfl
      rw [ek] at hD'
      walk_at "sts"
      refine ⟨_, _, rfl, sqL_of hD', by omega, fun ns' l2 pm pw hl2 => ?_⟩
      have hle := pm.length_eq
      have k2 := k1.trans (Keep.new (o := .lst (ns'.map V.int)) hl2)
      have nl2 := k1.free (by simp) hl2
      have el2 : upd H' l2 (.lst (ns'.map V.int)) l2 = some (.lst (ns'.map V.int)) := upd_same
      generalize upd H' l2 (.lst (ns'.map V.int)) = H2 at k2 el2 ⊢
      have hlc := k2.l (by simp) hl
      have yes : ∀ t : Nat, t < ns'.length → Rk.CaseAt ns.length (fun i => ns.getD i 0) t c (some (ns'.getD t 0)) := fun t ht => by
        have e : ns'[t]? = some (ns'.getD t 0) := by rw [List.getD_eq_getElem?_getD, List.getElem?_eq_getElem ht]; rfl
        exact ⟨fun _ => ⟨_, rfl, Rk.isAt_perm pm (Rk.sorted_at pw e)⟩, fun z => absurd (by omega) z⟩
      have no : ∀ t : Nat, ¬ t < ns'.length → Rk.CaseAt ns.length (fun i => ns.getD i 0) t c none := fun t ht => ⟨fun z => absurd z (by omega), fun _ => rfl⟩
      have fin : ∀ (a b : Option Int), Rk.CaseAt ns.length (fun i => ns.getD i 0) place.toNat c a → Rk.CaseAt ns.length (fun i => ns.getD i 0) (ns.length - 1 - place.toNat) c b → ∀ p, H2 p = none → Q (.ref p) (upd H2 p (.tup [oV a, oV b])) := fun a b ca cb p hp' => q a b p _ ca cb (k2.trans (Keep.new hp')) (k2.free (by simp) hp') upd_same
      walk_at "sts"
      simp only [List.length_map, rowV_len]
      refine r_ite (fun c1 => ?_) (fun c1 => ?_)
      · walk_at "sts"
        simp only [List.length_map, rowV_len]
        refine r_ite (fun c2 => ?_) (fun c2 => ?_)
        · walk_at "sts"
          simp only [List.length_map, rowV_len]
          refine r_ixL (sqL_of el2) (atI_map (by omega) (by omega)) ?_
          walk_at "sts"
          intro p2 hp2
          refine fin (some _) (some _) (yes _ (by omega)) ?_ p2 hp2
          have e : ((ns'.length : Int) - 1 - (place - c.length)).toNat = ns.length - 1 - place.toNat := by omega
          rw [e]
          exact yes _ (by omega)
        · walk_at "sts"
          intro p2 hp2
          exact fin (some _) none (yes _ (by omega)) (no _ (by omega)) p2 hp2
      · walk_at "sts"
        simp only [List.length_map, rowV_len]
        refine r_ite (fun c2 => ?_) (fun c2 => ?_)
        · walk_at "sts"
          simp only [List.length_map, rowV_len]
          refine r_ixL (sqL_of el2) (atI_map (by omega) (by omega)) ?_
          walk_at "sts"
          intro p2 hp2
          refine fin none (some _) (no _ (by omega)) ?_ p2 hp2
          have e : ((ns'.length : Int) - 1 - (place - c.length)).toNat = ns.length - 1 - place.toNat := by omega
          rw [e]
          exact yes _ (by omega)
        · walk_at "sts"
          intro p2 hp2
          exact fin none none (no _ (by omega)) (no _ (by omega)) p2 hp2
def spOver (K : PySem.W.Frag) : Sp := fun vs H Q _ => ∃ (p : Addr) (ns : List Int) (place : Int) (liars : Nat), vs = [.ref p, .int place, .int liars] ∧ SqL K H p (ns.map V.int) ∧ ns.length ≤ 7 ∧ 0 ≤ place ∧ place < ns.length ∧
  ∀ (q : Addr) (H' : Hp), Keep [] H H' → H' q = some (.tup [oV (Rk.foldT ((Rk.ch liars ns.length).map (Rk.caseG ns.length (fun i => ns.getD i 0) place.toNat))), oV (Rk.foldT ((Rk.ch liars ns.length).map (Rk.caseG ns.length (fun i => ns.getD i 0) (ns.length - 1 - place.toNat))))]) → Q (.ref q) H'
theorem ok_over (T : Tx K mg) (G_w_choices : FnOk PG w K mg base CX0 1 T.f_w_choices T.fd_w_choices ["_law_many", "_law_liars"] spChoices) (G_w_case : FnOk PG w K mg base CX0 1 T.f_w_case T.fd_w_case ["_law_radii_here", "_law_place", "_law_lying"] (spCase K)) (G_w_greatest : FnOk PG w K mg base CX0 1 T.f_w_greatest T.fd_w_greatest ["_law_first", "_law_second"] spGreatest) :
    FnOk PG w K mg base CX0 2 T.f_w_over_all T.fd_w_over_all ["_law_radii_here", "_law_place", "_law_liars"] (spOver K) := by
  refine T.F_w_over_all.ok sc_w_over_all (fun vs H Q E h => ?_) (fun cdv A outer s H vs Q E hr h => ?_)
  · obtain ⟨p, ns, place, liars, rfl, _⟩ := h; rfl
  · obtain ⟨p, ns, place, liars, rfl, hp, h7, hp0, hp1, q⟩ := h
    refine ⟨_, (pss_cons (ps_set (i := 3) sc_w_over_all.nd rfl (Or.inl rfl) pe_non)
    (pss_cons (ps_for PassesOwn.never rfl (pi_list (pe_call G_w_choices (hr.mono (by decide)) rfl T.g_w_choices T.F_w_choices.kp T.b_w_choices .nil pass0 (pa_cons (pe_callB call_len_seq (by rfl) T.m_len PySem.boot_len (pa_cons (pv 0) pa_nil)) (pa_cons (pv 2) pa_nil)))) (pg_name (i := 4) sc_w_over_all.nd rfl (Or.inl rfl))
    (pss_cons (ps_set (i := 5) sc_w_over_all.nd rfl (Or.inl rfl) (pe_call G_w_case (hr.mono (by decide)) rfl T.g_w_case T.F_w_case.kp T.b_w_case .nil pass0 (pa_cons (pv 0) (pa_cons (pv 1) (pa_cons (pv 4) pa_nil)))))
    (pss_one (ps_if (pt_cmpR op_isNc (pv 3) pe_non (nomark _))
    (pss_one (ps_set (i := 3) sc_w_over_all.nd rfl (Or.inl rfl) (pv 5)))
    (pss_one (ps_set (i := 3) sc_w_over_all.nd rfl (Or.inl rfl) (pe_tup (pa_cons (pe_call G_w_greatest (hr.mono (by decide)) rfl T.g_w_greatest T.F_w_greatest.kp T.b_w_greatest .nil pass0 (pa_cons (pe_ix ix_tup (pv 3) pe_int (fun _ _ => rfl)) (pa_cons (pe_ix ix_tup (pv 5) pe_int (fun _ _ => rfl)) pa_nil))) (pa_cons (pe_call G_w_greatest (hr.mono (by decide)) rfl T.g_w_greatest T.F_w_greatest.kp T.b_w_greatest .nil pass0 (pa_cons (pe_ix ix_tup (pv 3) pe_int (fun _ _ => rfl)) (pa_cons (pe_ix ix_tup (pv 5) pe_int (fun _ _ => rfl)) pa_nil))) pa_nil)))))))))
    (pss_one (ps_ret (pv 3))))), ?_⟩
    walk_at "start"
    walk_at "sts"
    simp only [List.length_map]
    refine ⟨ns.length, liars, rfl, h7, fun l rs H1 k1 nl el hrs => ?_⟩
    rw [chs_ch] at hrs
    generalize hF : (fun i => ns.getD i 0) = F
    rw [hF] at q
    refine forL_go (fun i σ' H' => ∃ (x y z : Option V), σ' = [some (.ref p), some (.int place), some (.int liars), x, y, z] ∧ i ≤ rs.length ∧ Keep [] H1 H' ∧ (i = 0 → x = some .non) ∧
      (0 < i → ∃ t, x = some (.ref t) ∧ H' t = some (.tup [oV (Rk.foldT (((Rk.ch liars ns.length).take i).map (Rk.caseG ns.length F place.toNat))), oV (Rk.foldT (((Rk.ch liars ns.length).take i).map (Rk.caseG ns.length F (ns.length - 1 - place.toNat))))]))) (xs := rs) (sqL_of el) ?_ (fun i σ' H' _ h => by obtain ⟨_, _, _, _, _, k2, _⟩ := h; exact sqL_of (k2 _ _ (by simp) el)) ?_ ?_
    · exact ⟨_, _, _, rfl, Nat.zero_le _, Keep.refl _ _, fun _ => rfl, fun z => absurd z (by omega)⟩
    · rintro i r σ' H' hr ⟨x, y, z, rfl, hi, k2, h0, h1⟩
      obtain ⟨a, c, rfl, hc, _, ha⟩ := hrs.get hr
      have hil := (List.getElem?_eq_some_iff.mp hr).1
      obtain ⟨c1, c2, c3⟩ := Rk.ch_ok (List.mem_of_getElem? hc)
      walk_at "sts"
      refine ⟨p, a, ns, place, c, rfl, k2.l (by simp) (k1.l (by simp) hp), sqL_of (k2 _ _ (by simp) ha), by omega, hp0, hp1, c2, c3, fun va vb t H3 hva hvb k3 nt et => ?_⟩
      have hA := Rk.case_unique hva (Rk.caseG_at (n := ns.length) (f := fun i => ns.getD i 0) (t := place.toNat) (row := c))
      have hB := Rk.case_unique hvb (Rk.caseG_at (n := ns.length) (f := fun i => ns.getD i 0) (t := ns.length - 1 - place.toNat) (row := c))
      rw [hF] at hA hB
      have tk : ∀ g : List Nat → Option Int, ((Rk.ch liars ns.length).take (i + 1)).map g = ((Rk.ch liars ns.length).take i).map g ++ [g c] := fun g => by
        rw [List.take_add_one, hc, List.map_append]; rfl
      walk_at "sts"
      rcases Nat.eq_zero_or_pos i with e0 | e0
      · have ex := h0 e0
        subst ex
        subst e0
        walk_at "sts"
        refine ⟨_, _, _, rfl, by omega, k2.trans k3, fun z => absurd z (by omega), fun _ => ⟨t, rfl, ?_⟩⟩
        rw [tk, tk, et, hA, hB]; rfl
      · obtain ⟨t0, ex, e1⟩ := h1 e0
        subst ex
        have e1' := k3 _ _ (by simp) e1
        have hcl : 0 < (Rk.ch liars ns.length).length := List.length_pos_iff.mpr (Rk.ch_ne _ _)
        have hne : ∀ g : List Nat → Option Int, ((Rk.ch liars ns.length).take i).map g ≠ [] := fun g z => by
          have := congrArg List.length z
          rw [List.length_map, List.length_take] at this
          simp only [List.length_nil] at this
          omega
        walk_at "sts"
        refine ⟨_, _, rfl, ?_⟩
        walk_at "sts"
        refine ⟨_, _, rfl, ?_⟩
        walk_at "sts"
        intro u hu
        refine ⟨_, _, _, rfl, by omega, (k2.trans k3).trans (Keep.new hu), fun z => absurd z (by omega), fun _ => ⟨u, rfl, ?_⟩⟩
        rw [tk, tk, Rk.foldT_app (hne _), Rk.foldT_app (hne _), upd_same, hA, hB]
    · rintro σ' H' ⟨x, y, z, rfl, hi, k2, h0, h1⟩
      have hle := hrs.len
      have hne := Rk.ch_ne liars ns.length
      have : 0 < rs.length := by rw [hle]; exact List.length_pos_iff.mpr hne
      obtain ⟨t, rfl, ht⟩ := h1 this
      rw [hle, List.take_length] at ht
      walk_at "sts"
      exact q t H' (k1.trans k2) ht
end
def spEntryIs (K : PySem.W.Frag) : Sp := fun vs H Q _ => ∃ (o : Option Int) (p : Addr) (ns ns' : List Int) (i : Nat), vs = [oV o, .ref p, .int i] ∧ SqL K H p (ns.map V.int) ∧ ns.length < 64 ∧ ns'.Perm ns ∧ ns'.Pairwise (· ≤ ·) ∧ ns'[i]? = o ∧ ∀ H', Keep [] H H' → Q (.bl true) H'
def spIsInt : Sp := fun vs H Q _ => ∃ v : Int, vs = [.int v] ∧ Q (.bl true) H
section
variable {w : World} {K : PySem.W.Frag} {mg : Str → Option Value} {base : Heap}
theorem ok_isInt (T : Tx K mg) : FnOk PG w K mg base CX0 1 T.f_w_is_integer T.fd_w_is_integer ["_law_thing"] spIsInt := by
  refine T.F_w_is_integer.ok sc_w_is_integer (fun vs H Q E h => ?_) (fun cdv A outer s H vs Q E hr h => ?_)
  · obtain ⟨v, rfl, _⟩ := h; rfl
  · obtain ⟨v, rfl, q⟩ := h
    refine ⟨_, (pss_one (ps_ret (pe_and (pe_callB call_isi (by rfl) T.m_isinstance (by decide +kernel) (pa_cons (pv 0) (pa_cons (pe_bltn (v := .ty "int") (by rfl) T.m_int (by decide +kernel) rfl) pa_nil))) (pe_one (pe_not (pe_callB call_isi (by rfl) T.m_isinstance (by decide +kernel) (pa_cons (pv 0) (pa_cons (pe_bltn (v := .ty "bool") (by rfl) T.m_bool (by decide +kernel) rfl) pa_nil)))))))), ?_⟩
    walk_at "start"
    walk_at "sts"
    exact q
/-- a comprehension over ints with a test by <, told by its list -/
theorem filter_next {ns : List Int} {i : Nat} {x : Int} {f : Int → Bool} (h : ns[i]? = some x) : (ns.take (i + 1)).filter f = (ns.take i).filter f ++ (if f x = true then [x] else []) := by
  rw [List.take_add_one, h, List.filter_append]
  congr 1
  show List.filter f [x] = _
  rw [List.filter_cons, List.filter_nil]
theorem ok_entryIs (T : Tx K mg) : FnOk PG w K mg base CX0 1 T.f_w_entry_is T.fd_w_entry_is ["_law_worth", "_law_radii_here", "_law_at"] (spEntryIs K) := by
  refine T.F_w_entry_is.ok sc_w_entry_is (fun vs H Q E h => ?_) (fun cdv A outer s H vs Q E hr h => ?_)
  · obtain ⟨o, p, ns, ns', i, rfl, _⟩ := h; rfl
  · obtain ⟨o, p, ns, ns', i, rfl, hp, h64, pm, pw, ho, q⟩ := h
    have hle := pm.length_eq
    refine ⟨_, (pss_cons (ps_if (PW.pt (pw_or (pt_cmpR op_isNc (pv 0) pe_non (nomark _)) (pw_or1 (pt_cmpR op_ge (pv 2) (pe_callB call_len_seq (by rfl) T.m_len PySem.boot_len (pa_cons (pv 1) pa_nil)) (nomark _)))))
    (pss_one (ps_ret (pe_and (pe_cmpR op_isNc (pv 0) pe_non (nomark _)) (pe_one (pe_cmpR op_ge (pv 2) (pe_callB call_len_seq (by rfl) T.m_len PySem.boot_len (pa_cons (pv 1) pa_nil)) (nomark _))))))
    pss_nil)
    (pss_cons (ps_set (i := 3) sc_w_entry_is.nd rfl (Or.inl rfl) (pe_callB call_len_seq (by rfl) T.m_len PySem.boot_len (pa_cons (pe_lc (own := [("_law_one", 4)]) (g := gName 4)  rfl sc_w_entry_is.nd (pi_list (pv 1)) (blkOk_by (own := [("_law_one", 4)]) (N := ["_law_worth", "_law_radii_here", "_law_at", "_law_less", "_law_one"]) (sc := defScope s_w_entry_is) (by decide +kernel)) (fun _ _ _ _ _ => pg_name (i := 4) sc_w_entry_is.nd rfl (Or.inl rfl)) (fun _ _ _ _ _ => pts_one (pt_cmpR op_lt (pv 4) (pv 0) (nomark _))) (fun _ _ _ _ _ => (pv 4))) pa_nil)))
    (pss_one (ps_ret (pe_chain op_le op_lt (pv 3) (pv 2) (pe_callB call_len_seq (by rfl) T.m_len PySem.boot_len (pa_cons (pe_lc (own := [("_law_one", 4)]) (g := gName 4)  rfl sc_w_entry_is.nd (pi_list (pv 1)) (blkOk_by (own := [("_law_one", 4)]) (N := ["_law_worth", "_law_radii_here", "_law_at", "_law_less", "_law_one"]) (sc := defScope s_w_entry_is) (by decide +kernel)) (fun _ _ _ _ _ => pg_name (i := 4) sc_w_entry_is.nd rfl (Or.inl rfl)) (fun _ _ _ _ _ => pts_one (pt_cmpR op_le (pv 4) (pv 0) (nomark _))) (fun _ _ _ _ _ => (pv 4))) pa_nil))))))), ?_⟩
    walk_at "start"
    cases o with
    | none =>
      have hi : ns.length ≤ i := by rw [← hle]; exact List.getElem?_eq_none_iff.mp ho
      simp only [oV]
      walk_at "sts"
      simp only [List.length_map]
      rw [decide_eq_true (by omega : (ns.length : Int) ≤ i)]
      exact q H (Keep.refl _ _)
    | some v =>
      have hi : i < ns.length := by have := (List.getElem?_eq_some_iff.mp ho).1; omega
      have hat := Rk.isAt_perm pm (Rk.sorted_at pw ho)
      simp only [oV]
      walk_at "sts"
      refine lcL_go (fun D j acc H' => acc = (((ns.take j).filter fun x => decide (x < v)).map V.int) ∧ j ≤ ns.length ∧ H D = none ∧ Keep [] H H') hp (fun D hD => ?_) (fun D j acc H' _ ⟨_, _, _, k⟩ => k.l (by simp) hp) (fun D j x acc H' hx hD => ?_) (fun D acc H1 hD hD' => ?_)
      · exact ⟨rfl, Nat.zero_le _, hD, Keep.new hD⟩
      · rintro ⟨rfl, hj, hDn, k1⟩
        obtain ⟨y, hy, rfl⟩ := map_int hx
        have hjl := (List.getElem?_eq_some_iff.mp hy).1
        have hlen := List.length_filter_le (fun x => decide (x < v)) (ns.take j)
        rw [List.length_take] at hlen
        walk_at "sts"
        refine r_ite (fun c => ?_) (fun c => ?_)
        · walk_at "sts"
          refine ⟨_, hD, lt_size (by rw [List.length_map]; omega), _, upd_same, ?_, by omega, hDn, k1.mut hDn⟩
          rw [filter_next hy, if_pos (decide_eq_true c), List.map_append]; rfl
        · refine ⟨_, hD, ?_, by omega, hDn, k1⟩
          rw [filter_next hy, if_neg (by simpa using c), List.append_nil]
      · rintro ⟨rfl, hj, hDn, k1⟩
        rw [List.length_map, List.take_length] at hD'
        walk_at "sts"
        simp only [List.length_map]
        rw [← List.countP_eq_length_filter]
        have h1 := hat.1
        have h2 := hat.2
        refine r_ite (fun _ => ?_) (fun c => absurd (by omega) c)
        walk_at "sts"
        refine lcL_go (fun D j acc H' => acc = (((ns.take j).filter fun x => decide (x ≤ v)).map V.int) ∧ j ≤ ns.length ∧ H1 D = none ∧ Keep [] H1 H') (k1.l (by simp) hp) (fun D hD => ?_) (fun D j acc H' _ ⟨_, _, _, k⟩ => k.l (by simp) (k1.l (by simp) hp)) (fun D j x acc H' hx hD => ?_) (fun D acc H2 hD hD' => ?_)
        · exact ⟨rfl, Nat.zero_le _, hD, Keep.new hD⟩
        · rintro ⟨rfl, hj, hDn, k1⟩
          obtain ⟨y, hy, rfl⟩ := map_int hx
          have hjl := (List.getElem?_eq_some_iff.mp hy).1
          have hlen := List.length_filter_le (fun x => decide (x ≤ v)) (ns.take j)
          rw [List.length_take] at hlen
          walk_at "sts"
          refine r_ite (fun c => ?_) (fun c => ?_)
          · walk_at "sts"
            refine ⟨_, hD, lt_size (by rw [List.length_map]; omega), _, upd_same, ?_, by omega, hDn, k1.mut hDn⟩
            rw [filter_next hy, if_pos (decide_eq_true c), List.map_append]; rfl
          · refine ⟨_, hD, ?_, by omega, hDn, k1⟩
            rw [filter_next hy, if_neg (by simpa using c), List.append_nil]
        · rintro ⟨rfl, hj, hDn, k2⟩
          rw [List.length_map, List.take_length] at hD'
          walk_at "sts"
          simp only [List.length_map]
          rw [← List.countP_eq_length_filter, decide_eq_true (by omega)]
          exact q _ (k1.trans k2)
end
theorem BagAt.neI {a l p : Addr} {H : Hp} {ns : List Int} (h : BagAt a l H) (hp : H p = some (.lst (ns.map V.int))) : p ≠ a := by
  obtain ⟨car, pos, cnt, sc, ha, hl, h0, h1⟩ := h
  rintro rfl
  rw [ha] at hp; cases ns <;> simp at hp
theorem BagAt.neT {a l p : Addr} {H : Hp} {xs : List V} (h : BagAt a l H) (hp : H p = some (.tup xs)) : p ≠ a := by
  obtain ⟨car, pos, cnt, sc, ha, hl, h0, h1⟩ := h
  rintro rfl
  rw [ha] at hp; cases hp
def bad (level : Int) (p : Int × Int) : Bool := !decide (p.2 - level ≤ p.1 ∧ level - p.2 ≤ p.1)
def spMiss : Sp := fun vs H Q _ => ∃ (a l p q : Addr) (ns ns' : List Int) (place : Int) (liars : Nat), vs = [.ref a, .ref p, .int place, .int liars, .ref q] ∧ BagAt a l H ∧ H p = some (.lst (ns.map V.int)) ∧ ns.length < 64 ∧ (∀ x ∈ ns, 0 ≤ x ∧ x < 10 ^ 30) ∧ 0 ≤ place ∧ place < ns.length ∧ ns'.Perm ns ∧ ns'.Pairwise (· ≤ ·) ∧
  H q = some (.tup [oV ns'[(place + liars).toNat]?, oV ns'[((ns.length : Int) - 1 - place + liars).toNat]?]) ∧ ∀ H', Keep [a] H H' → BagAt a l H' → Q (.bl true) H'
/-- within the readings' loop, behind i of them -/
def MissIn (a l p q D : Addr) (ns : List Int) (place : Int) (liars : Nat) (level : Int) (t : Nat) (H : Hp) (i : Nat) (σ' : L2.St) (H' : Hp) : Prop :=
  ∃ (ps : List (Int × Int)) (rs : List Int) (lies : Nat) (x4 x5 x6 x7 : Option V), σ' = [some (.ref a), some (.ref p), some (.int place), some (.int liars), some (.ref q), some (.int level), some (.int t), some (.ref D), some (.int lies), x4, x5, x6, x7] ∧ Keep [a] H H' ∧ BagAt a l H' ∧ H' D = some (.lst (rs.map V.int)) ∧
    ps.map (·.1) = ns.take i ∧ ps.map (·.2) = rs ∧ ps.countP (bad level) ≤ lies ∧ lies ≤ liars ∧ i ≤ ns.length
section
variable {w : World} {K : PySem.W.Frag} {mg : Str → Option Value} {base : Heap}
theorem pair_app {ps : List (Int × Int)} {ns rs : List Int} {i : Nat} {x y level : Int} {k : Nat} (h1 : ps.map (·.1) = ns.take i) (h2 : ps.map (·.2) = rs) (h3 : ps.countP (bad level) ≤ k) (hx : ns[i]? = some x) (m : Nat) (hm : (if bad level (x, y) = true then 1 else 0) ≤ m) :
    ∃ ps' : List (Int × Int), ps'.map (·.1) = ns.take (i + 1) ∧ ps'.map (·.2) = rs ++ [y] ∧ ps'.countP (bad level) ≤ k + m := by
  refine ⟨ps ++ [(x, y)], ?_, ?_, ?_⟩
  · rw [List.map_append, h1, List.take_add_one, hx]; rfl
  · rw [List.map_append, h2]; rfl
  · rw [List.countP_append, List.countP_cons, List.countP_nil]; omega
theorem not_bad {level x y : Int} (h1 : y - level ≤ x) (h2 : level - y ≤ x) : (if bad level (x, y) = true then 1 else 0) ≤ 0 := by
  unfold bad
  rw [decide_eq_true ⟨h1, h2⟩]; simp
theorem any_bad {level x y : Int} : (if bad level (x, y) = true then 1 else 0) ≤ 1 := by split <;> omega
theorem ok_miss (T : Tx K mg) (G_w_draw : FnOk PG w K mg base CX0 2 T.f_w_draw T.fd_w_draw ["_law_bag_here", "_law_size"] spDraw) (G_w_zigzag : FnOk PG w K mg base CX0 1 T.f_w_zigzag T.fd_w_zigzag ["_law_number_here"] spZig)
    (G_w_number : FnOk PG w K mg base CX0 3 T.f_w_number T.fd_w_number ["_law_bag_here", "_law_size", "_law_shift", "_law_great"] spNumber) :
    FnOk PG w K mg base CX0 4 T.f_w_misses_fit T.fd_w_misses_fit ["_law_bag_here", "_law_radii_here", "_law_place", "_law_liars", "_law_bounds"] spMiss := by
  refine T.F_w_misses_fit.ok sc_w_misses_fit (fun vs H Q E h => ?_) (fun cdv A outer s H vs Q E hr h => ?_)
  · obtain ⟨a, l, p, q, ns, ns', place, liars, rfl, _⟩ := h; rfl
  · obtain ⟨a, l, p, q, ns, ns', place, liars, rfl, hb, hp, h64, hns, hp0, hp1, pm, pw, hq, k⟩ := h
    have npa := hb.neI hp
    have nqa := hb.neT hq
    have hle := pm.length_eq
    refine ⟨_, (pss_cons (ps_set (i := 5) sc_w_misses_fit.nd rfl (Or.inl rfl) (pe_call G_w_number (hr.mono (by decide)) rfl T.g_w_number T.F_w_number.kp T.b_w_number .nil pass0 (pa_cons (pv 0) (pa_cons pe_int (pa_cons pe_int (pa_cons (pe_op op_pow pe_int pe_int) pa_nil))))))
    (pss_cons (ps_for PassesOwn.never rfl (pi_range1 rfl T.m_range (pa_cons pe_int pa_nil)) (pg_name (i := 6) sc_w_misses_fit.nd rfl (Or.inl rfl))
    (pss_cons (ps_par (i := 7) (j := 8) (by rfl) sc_w_misses_fit.nd rfl rfl (by decide) rfl rfl (pa_cons (pe_lst pa_nil) (pa_cons pe_int pa_nil)) (by rfl))
    (pss_cons (ps_for PassesOwn.never rfl (pi_list (pv 1)) (pg_name (i := 9) sc_w_misses_fit.nd rfl (Or.inl rfl))
    (pss_cons (ps_set (i := 10) sc_w_misses_fit.nd rfl (Or.inl rfl) (pe_call G_w_draw (hr.mono (by decide)) rfl T.g_w_draw T.F_w_draw.kp T.b_w_draw .nil pass0 (pa_cons (pv 0) (pa_cons pe_int pa_nil))))
    (pss_one (ps_if (PW.pt (pw_and (pt_cmpR op_eq (pv 10) pe_int (nomark _)) (pw_and1 (pt_cmpR op_lt (pv 8) (pv 3) (nomark _)))))
    (pss_cons (ps_set (i := 8) sc_w_misses_fit.nd rfl (Or.inl rfl) (pe_op op_add (pv 8) pe_int))
    (pss_cons (ps_set (i := 11) sc_w_misses_fit.nd rfl (Or.inl rfl) (pe_op op_add (pe_op op_add (pv 9) pe_int) (pe_call G_w_draw (hr.mono (by decide)) rfl T.g_w_draw T.F_w_draw.kp T.b_w_draw .nil pass0 (pa_cons (pv 0) (pa_cons (pe_op op_pow pe_int pe_int) pa_nil)))))
    (pss_one (ps_expr (pe_bm PySem.F.plainAttrs_list PySem.F.slot_list_append PySem.F.type_list_append mt_append (pv 7) (pa_cons (pe_ifExp (pt_cmpR op_eq (pe_call G_w_draw (hr.mono (by decide)) rfl T.g_w_draw T.F_w_draw.kp T.b_w_draw .nil pass0 (pa_cons (pv 0) (pa_cons pe_int pa_nil))) pe_int (nomark _)) (pe_op op_add (pv 5) (pv 11)) (pe_op op_sub (pv 5) (pv 11))) pa_nil))))))
    (pss_one (ps_if (pt_cmpR op_eq (pv 10) pe_int (nomark _))
    (pss_one (ps_expr (pe_bm PySem.F.plainAttrs_list PySem.F.slot_list_append PySem.F.type_list_append mt_append (pv 7) (pa_cons (pe_op op_add (pv 5) (pe_call G_w_zigzag (hr.mono (by decide)) rfl T.g_w_zigzag T.F_w_zigzag.kp T.b_w_zigzag .nil pass0 (pa_cons (pe_call G_w_draw (hr.mono (by decide)) rfl T.g_w_draw T.F_w_draw.kp T.b_w_draw .nil pass0 (pa_cons (pv 0) (pa_cons (pe_op op_add (pe_op op_mul pe_int (pv 9)) pe_int) pa_nil))) pa_nil))) pa_nil))))
    (pss_one (ps_expr (pe_bm PySem.F.plainAttrs_list PySem.F.slot_list_append PySem.F.type_list_append mt_append (pv 7) (pa_cons (pe_ifExp (pt_cmpR op_eq (pv 10) pe_int (nomark _)) (pe_op op_add (pv 5) (pv 9)) (pe_op op_sub (pv 5) (pv 9))) pa_nil))))))))))
    (pss_cons (ps_set (i := 12) sc_w_misses_fit.nd rfl (Or.inl rfl) (pe_ix ix_list (pe_callB cr_sorted (by rfl) T.m_sorted (by decide +kernel) (pa_cons (pv 7) pa_nil)) (pv 2) (fun _ _ => rfl)))
    (pss_one (ps_if (PW.pt (pw_or (PW.pt (pw_and (pt_cmpR op_notNc (pe_ix ix_tup (pv 4) pe_int (fun _ _ => rfl)) pe_non (nomark _)) (pw_and1 (pt_cmpR op_gt (pe_op op_sub (pv 12) (pv 5)) (pe_ix ix_tup (pv 4) pe_int (fun _ _ => rfl)) (nomark _))))) (pw_or1 (PW.pt (pw_and (pt_cmpR op_notNc (pe_ix ix_tup (pv 4) pe_int (fun _ _ => rfl)) pe_non (nomark _)) (pw_and1 (pt_cmpR op_gt (pe_op op_sub (pv 5) (pv 12)) (pe_ix ix_tup (pv 4) pe_int (fun _ _ => rfl)) (nomark _))))))))
    (pss_one (ps_ret pe_bl))
    pss_nil))))))
    (pss_one (ps_ret pe_bl)))), ?_⟩
    walk_at "start"
    walk_at "sts"
    refine r_number hb (by omega) (by omega) fun level H1 hlv k1 b1 => ?_
    walk_at "sts"
    refine forR1_go (fun t σ' H' => ∃ (x1 x2 x3 x4 x5 x6 x7 x8 : Option V), σ' = [some (.ref a), some (.ref p), some (.int place), some (.int liars), some (.ref q), some (.int level), x1, x2, x3, x4, x5, x6, x7] ∧ Keep [a] H H' ∧ BagAt a l H') (by omega) ⟨_, _, _, _, _, _, _, none, rfl, k1, b1⟩ ?_ ?_
    · rintro t σ' H2 ht ⟨x1, x2, x3, x4, x5, x6, x7, x8, rfl, k2, b2⟩
      walk_at "sts"
      intro D hD
      walk_at "sts"
      have hDn : H D = none := k2.free (by simp; exact (b2.ne hD).1) hD
      have nD := b2.ne hD
      have hp2 := k2 _ _ (by simpa using npa) hp
      have hq2 := k2 _ _ (by simpa using nqa) hq
      have npD : p ≠ D := ne_of_none hp2 hD
      have nqD : q ≠ D := ne_of_none hq2 hD
      refine forL_go (MissIn a l p q D ns place liars level t H) (xs := ns.map V.int) (sqL_of (by rw [upd_ne npD]; exact hp2)) ?_ (fun i σ' H' _ h => by obtain ⟨_, _, _, _, _, _, _, _, k3, _⟩ := h; exact sqL_of (k3 _ _ (by simpa using npa) hp)) ?_ ?_
      · exact ⟨[], [], 0, _, _, _, _, rfl, k2.trans (Keep.new hD), b2.new hD, upd_same, rfl, rfl, by simp, by omega, by omega⟩
      · rintro i x σ' H3 hx ⟨ps, rs, lies, x4, x5, x6, x7, rfl, k3, b3, hD3, hm1, hm2, hm3, hm4, hi⟩
        obtain ⟨one, ho, rfl⟩ := map_int hx
        have hil := (List.getElem?_eq_some_iff.mp ho).1
        obtain ⟨o0, o1⟩ := hns one (List.mem_of_getElem? ho)
        have hrl : rs.length = i := by
          have h1 := congrArg List.length hm1
          have h2 := congrArg List.length hm2
          rw [List.length_map] at h1 h2
          rw [List.length_take] at h1
          omega
        have fin : ∀ (y : Int) (m : Nat) (H5 : Hp) (x4 x5 x6 x7 : Option V), (if bad level (one, y) = true then 1 else 0) ≤ m → lies + m ≤ liars → Keep [a] H H5 → BagAt a l H5 →
            MissIn a l p q D ns place liars level t H (i + 1) [some (.ref a), some (.ref p), some (.int place), some (.int liars), some (.ref q), some (.int level), some (.int t), some (.ref D), some (.int ((lies + m : Nat) : Int)), x4, x5, x6, x7] (upd H5 D (.lst (rs.map V.int ++ [.int y]))) :=
          fun y m H5 x4 x5 x6 x7 hb hl k5 b5 => by
            obtain ⟨ps', e1, e2, e3⟩ := pair_app hm1 hm2 hm3 ho m hb
            exact ⟨ps', rs ++ [y], lies + m, x4, x5, x6, x7, rfl, k5.mut hDn, b5.put nD, by rw [upd_same, List.map_append]; rfl, e1, e2, e3, hl, by omega⟩
        walk_at "sts"
        refine r_draw b3 (by omega) (by omega) fun way H4 a4 c4 k4 b4 => ?_
        have hD4 := k4 _ _ (by simpa using nD.1) hD3
        have k4' := k3.trans k4
        walk_at "sts"
        refine r_ite (fun cw => ?_) (fun cw => ?_)
        · walk_at "sts"
          refine r_ite (fun cl => ?_) (fun cl => ?_)
          · walk_at "sts"
            refine r_draw b4 (by omega) (by omega) fun far H5 a5 c5 k5 b5 => ?_
            have hD5 := k5 _ _ (by simpa using nD.1) hD4
            walk_at "sts"
            refine r_draw b5 (by omega) (by omega) fun sg H6 a6 c6 k6 b6 => ?_
            have hD6 := k6 _ _ (by simpa using nD.1) hD5
            walk_at "sts"
            refine r_ite (fun cs => ?_) (fun cs => ?_)
            · walk_at "sts"
              exact fin _ 1 H6 _ _ _ _ any_bad (by omega) (k4'.trans (k5.trans k6)) b6
            · walk_at "sts"
              exact fin _ 1 H6 _ _ _ _ any_bad (by omega) (k4'.trans (k5.trans k6)) b6
          · walk_at "sts"
            exact fin _ 0 H4 _ _ _ _ (not_bad (by omega) (by omega)) (by omega) k4' b4
        · walk_at "sts"
          refine r_ite (fun c2 => ?_) (fun c2 => ?_)
          · walk_at "sts"
            refine r_draw b4 (by omega) (by omega) fun n5 H5 a5 c5 k5 b5 => ?_
            have hD5 := k5 _ _ (by simpa using nD.1) hD4
            walk_at "sts"
            refine r_zig a5 fun z hz => ?_
            walk_at "sts"
            exact fin _ 0 H5 _ _ _ _ (not_bad (by omega) (by omega)) (by omega) (k4'.trans k5) b5
          · walk_at "sts"
            refine r_ite (fun c3 => ?_) (fun c3 => ?_)
            · walk_at "sts"
              exact fin _ 0 H4 _ _ _ _ (not_bad (by omega) (by omega)) (by omega) k4' b4
            · walk_at "sts"
              exact fin _ 0 H4 _ _ _ _ (not_bad (by omega) (by omega)) (by omega) k4' b4
      · rintro σ' H3 ⟨ps, rs, lies, x4, x5, x6, x7, rfl, k3, b3, hD3, hm1, hm2, hm3, hm4, hi⟩
        have hps : ps.map (·.1) = ns := by rw [hm1, List.length_map, List.take_length]
        have hpl : ps.length = ns.length := by have := congrArg List.length hps; rwa [List.length_map] at this
        have hrl : rs.length = ns.length := by have := congrArg List.length hm2; rw [List.length_map] at this; omega
        walk_at "sts"
        refine ⟨D, rs, rfl, sqL_of hD3, by omega, fun rs' D2 pm2 pw2 hD2 => ?_⟩
        have hl2 := pm2.length_eq
        have q3 := k3 _ _ (by simpa using nqa) hq
        have hans : Rk.isAt (ps.map (·.2)) place.toNat (rs'.getD place.toNat 0) := by
          rw [hm2]
          refine Rk.isAt_perm pm2 (Rk.sorted_at pw2 ?_)
          rw [List.getD_eq_getElem?_getD, List.getElem?_eq_getElem (by omega)]; rfl
        have hA : ∀ s, ns'[(place + liars).toNat]? = some s → rs'.getD place.toNat 0 - level ≤ s := fun s hs => by
          refine Rk.miss_above (liars := liars) (Nat.le_trans hm3 hm4) hans ?_
          rw [hps]
          have e : (place + liars).toNat = place.toNat + liars := by omega
          rw [e] at hs
          exact Rk.isAt_perm pm (Rk.sorted_at pw hs)
        have hB : ∀ s, ns'[((ns.length : Int) - 1 - place + liars).toNat]? = some s → level - rs'.getD place.toNat 0 ≤ s := fun s hs => by
          refine Rk.miss_below (liars := liars) (place := place.toNat) (Nat.le_trans hm3 hm4) (by omega) hans ?_
          rw [hps, hpl]
          have e : ((ns.length : Int) - 1 - place + liars).toNat = ns.length - 1 - place.toNat + liars := by omega
          rw [e] at hs
          exact Rk.isAt_perm pm (Rk.sorted_at pw hs)
        have k4 := k3.trans (Keep.new (o := .lst (rs'.map V.int)) hD2)
        have b4 := b3.new (o := .lst (rs'.map V.int)) hD2
        have q4 := k4 _ _ (by simpa using nqa) hq
        have el : upd H3 D2 (.lst (rs'.map V.int)) D2 = some (.lst (rs'.map V.int)) := upd_same
        generalize upd H3 D2 (.lst (rs'.map V.int)) = H4 at k4 b4 q4 el ⊢
        generalize ns'[(place + liars).toNat]? = oA at hA q4
        generalize ns'[((ns.length : Int) - 1 - place + liars).toNat]? = oB at hB q4
        walk_at "sts"
        generalize rs'.getD place.toNat 0 = ans at hA hB ⊢
        cases oA with
        | none =>
          simp only [oV] at q4
          cases oB with
          | none =>
            simp only [oV] at q4 ⊢
            walk_at "sts"
            exact ⟨_, _, _, _, _, _, _, none, rfl, k4, b4⟩
          | some sB =>
            have := hB sB rfl
            simp only [oV] at q4 ⊢
            walk_at "sts"
            exact ⟨_, _, _, _, _, _, _, none, rfl, k4, b4⟩
        | some sA =>
          have := hA sA rfl
          simp only [oV] at q4
          cases oB with
          | none =>
            simp only [oV] at q4 ⊢
            walk_at "sts"
            exact ⟨_, _, _, _, _, _, _, none, rfl, k4, b4⟩
          | some sB =>
            have := hB sB rfl
            simp only [oV] at q4 ⊢
            walk_at "sts"
            exact ⟨_, _, _, _, _, _, _, none, rfl, k4, b4⟩
    · rintro σ' H2 ⟨x1, x2, x3, x4, x5, x6, x7, x8, rfl, k2, b2⟩
      walk_at "sts"
      exact k H2 k2 b2
end
def spSpot : Sp := fun vs H Q _ => ∃ (a l : Addr) (sz sh : Int), vs = [.ref a, .int sz, .int sh] ∧ BagAt a l H ∧ 0 < sz ∧ sz < 100 ∧ ∀ (r : Int) (H' : Hp), r.natAbs < 10 ^ 30 → Keep [a] H H' → BagAt a l H' → Q (.int r) H'
def spAsked : Sp := fun vs H Q _ => ∃ (a l p : Addr) (ns : List Int) (place liars : Int), vs = [.ref a, .ref p, .int place, .int liars] ∧ BagAt a l H ∧ H p = some (.lst (ns.map V.int)) ∧ ns.length ≤ 40 ∧ (∀ x ∈ ns, x.natAbs < 10 ^ 30) ∧ place.natAbs < 10 ^ 30 ∧ liars.natAbs < 10 ^ 30 ∧ ∀ H', Keep [a] H H' → BagAt a l H' → Q (.bl true) H'
theorem due_none {ns : List Int} {place liars : Int} (h : dueOf ns place liars = none) : (∀ x ∈ ns, 0 ≤ x) ∧ 0 ≤ place ∧ place < ns.length ∧ 0 ≤ liars ∧ liars ≤ ns.length := by
  unfold dueOf at h
  cases e : ns.find? (fun y => decide (y < 0)) with
  | some x => rw [e] at h; cases h
  | none =>
    rw [e] at h
    have h1 : ∀ x ∈ ns, 0 ≤ x := fun x hx => by
      have := List.find?_eq_none.mp e x hx
      simp at this; exact this
    refine ⟨h1, ?_⟩
    by_cases c1 : 0 ≤ place ∧ place < (ns.length : Int)
    · by_cases c2 : 0 ≤ liars ∧ liars ≤ (ns.length : Int)
      · exact ⟨c1.1, c1.2, c2.1, c2.2⟩
      · have : (none : Option (Bool × Int)) = some (false, liars) := h.symm.trans ((if_pos c1).trans (if_neg c2))
        cases this
    · have : (none : Option (Bool × Int)) = some (true, place) := h.symm.trans (if_neg c1)
      cases this
theorem dueT_flat : ∀ d : Bool × Int, (dueT d).all flatV = true
  | (true, v) => by
    show (PyData.canLay0 (.str "number") && (true && true)) = true
    decide +kernel
  | (false, v) => by
    show (PyData.canLay0 (.str "limit") && (true && true)) = true
    decide +kernel
section
variable {w : World} {K : PySem.W.Frag} {mg : Str → Option Value} {base : Heap}
theorem ok_spot (T : Tx K mg) (G_w_draw : FnOk PG w K mg base CX0 2 T.f_w_draw T.fd_w_draw ["_law_bag_here", "_law_size"] spDraw)
    (G_w_number : FnOk PG w K mg base CX0 3 T.f_w_number T.fd_w_number ["_law_bag_here", "_law_size", "_law_shift", "_law_great"] spNumber) :
    FnOk PG w K mg base CX0 4 T.f_w_spot T.fd_w_spot ["_law_bag_here", "_law_size", "_law_shift"] spSpot := by
  refine T.F_w_spot.ok sc_w_spot (fun vs H Q E h => ?_) (fun cdv A outer s H vs Q E hr h => ?_)
  · obtain ⟨a, l, p, q, rfl, _⟩ := h; rfl
  · obtain ⟨a, l, sz, sh, rfl, hb, h0, h1, k⟩ := h
    refine ⟨_, (pss_cons (ps_if (pt_cmpR op_eq (pe_call G_w_draw (hr.mono (by decide)) rfl T.g_w_draw T.F_w_draw.kp T.b_w_draw .nil pass0 (pa_cons (pv 0) (pa_cons pe_int pa_nil))) pe_int (nomark _))
    (pss_one (ps_ret (pe_call G_w_number (hr.mono (by decide)) rfl T.g_w_number T.F_w_number.kp T.b_w_number .nil pass0 (pa_cons (pv 0) (pa_cons pe_int (pa_cons pe_int (pa_cons (pe_op op_pow pe_int pe_int) pa_nil)))))))
    pss_nil)
    (pss_one (ps_ret (pe_op op_sub (pe_op op_mod (pe_callTy call_int1 (by rfl) T.m_int (by decide +kernel) (pa_cons (pe_op op_add (pe_op op_add (pe_call G_w_draw (hr.mono (by decide)) rfl T.g_w_draw T.F_w_draw.kp T.b_w_draw .nil pass0 (pa_cons (pv 0) (pa_cons (pv 1) pa_nil))) pe_int) (pv 2)) pa_nil)) (pv 1)) pe_int)))), ?_⟩
    walk_at "start"
    walk_at "sts"
    refine r_draw hb (by omega) (by omega) fun r1 H1 a1 c1 k1 b1 => ?_
    walk_at "sts"
    refine r_ite (fun c => ?_) (fun c => ?_)
    · walk_at "sts"
      refine r_number b1 (by omega) (by omega) fun r H2 hr k2 b2 => ?_
      exact k r H2 hr (k1.trans k2) b2
    · walk_at "sts"
      refine r_draw b1 (by omega) (by omega) fun r2 H2 a2 c2 k2 b2 => ?_
      walk_at "sts"
      have := Int.emod_nonneg (r2 + 1 + sh) (show sz ≠ 0 by omega)
      have := Int.emod_lt_of_pos (r2 + 1 + sh) h0
      exact k _ H2 (by omega) (k1.trans k2) b2
theorem ok_asked (T : Tx K mg) (G_w_refusal : FnOk PG w K mg base CX0 1 T.f_w_refusal T.fd_w_refusal ["_law_radii_here", "_law_place", "_law_liars"] (spRefusal K))
    (G_w_ask : FnOk PG w K mg base CX0 3 T.f_w_ask T.fd_w_ask ["_law_radii_here", "_law_place", "_law_liars"] (spAsk K))
    (G_w_is_integer : FnOk PG w K mg base CX0 1 T.f_w_is_integer T.fd_w_is_integer ["_law_thing"] spIsInt)
    (G_w_over_all : FnOk PG w K mg base CX0 2 T.f_w_over_all T.fd_w_over_all ["_law_radii_here", "_law_place", "_law_liars"] (spOver K))
    (G_w_entry_is : FnOk PG w K mg base CX0 1 T.f_w_entry_is T.fd_w_entry_is ["_law_worth", "_law_radii_here", "_law_at"] (spEntryIs K))
    (G_w_misses_fit : FnOk PG w K mg base CX0 4 T.f_w_misses_fit T.fd_w_misses_fit ["_law_bag_here", "_law_radii_here", "_law_place", "_law_liars", "_law_bounds"] spMiss) :
    FnOk PG w K mg base CX0 5 T.f_w_asked T.fd_w_asked ["_law_bag_here", "_law_radii_here", "_law_place", "_law_liars"] spAsked := by
  refine T.F_w_asked.ok sc_w_asked (fun vs H Q E h => ?_) (fun cdv A outer s H vs Q E hr h => ?_)
  · obtain ⟨a, l, p, ns, i, j, rfl, _⟩ := h; rfl
  · obtain ⟨a, l, p, ns, place, liars, rfl, hb, hp, h40, hns, hpl, hli, k⟩ := h
    have npa := hb.neI hp
    refine ⟨_, (pss_cons (ps_par (i := 4) (j := 5) (by rfl) sc_w_asked.nd rfl rfl (by decide) rfl rfl (pa_cons (pe_callTy call_list_of (by rfl) T.m_list (by decide +kernel) (pa_cons (pv 1) pa_nil)) (pa_cons (pe_call G_w_refusal (hr.mono (by decide)) rfl T.g_w_refusal T.F_w_refusal.kp T.b_w_refusal .nil pass0 (pa_cons (pv 1) (pa_cons (pv 2) (pa_cons (pv 3) pa_nil)))) pa_nil)) (by rfl))
    (pss_cons (ps_set (i := 6) sc_w_asked.nd rfl (Or.inl rfl) (pe_call G_w_ask (hr.mono (by decide)) rfl T.g_w_ask T.F_w_ask.kp T.b_w_ask .nil pass0 (pa_cons (pv 4) (pa_cons (pv 2) (pa_cons (pv 3) pa_nil)))))
    (pss_cons (ps_if (pt_cmpR (op_neD hr.units) (pv 4) (pv 1) (nomark _))
    (pss_one (ps_ret pe_bl))
    pss_nil)
    (pss_cons (ps_if (pt_cmpR (op_neD hr.units) (pv 5) (pe_tup pa_nil) (nomark _))
    (pss_one (ps_ret (pe_cmpR (op_eqD hr.units) (pv 6) (pv 5) (nomark _))))
    pss_nil)
    (pss_cons (ps_if (PW.pt (pw_or (pt_cmpR op_ne (pe_ix ix_tup (pv 6) pe_int (fun _ _ => rfl)) pe_str (nomark _)) (pw_or (pt_not (pt_val (pe_callB call_isi (by rfl) T.m_isinstance (by decide +kernel) (pa_cons (pe_ix ix_tup (pv 6) pe_int (fun _ _ => rfl)) (pa_cons (pe_bltn (v := .ty "tuple") (by rfl) T.m_tuple (by decide +kernel) rfl) pa_nil))))) (pw_or1 (pt_cmpR op_ne (pe_callB call_len_seq (by rfl) T.m_len PySem.boot_len (pa_cons (pe_ix ix_tup (pv 6) pe_int (fun _ _ => rfl)) pa_nil)) pe_int (nomark _))))))
    (pss_one (ps_ret pe_bl))
    pss_nil)
    (pss_cons (ps_par (i := 7) (j := 8) (by rfl) sc_w_asked.nd rfl rfl (by decide) rfl rfl (pa_cons (pe_ix ix_tup (pe_ix ix_tup (pv 6) pe_int (fun _ _ => rfl)) pe_int (fun _ _ => rfl)) (pa_cons (pe_ix ix_tup (pe_ix ix_tup (pv 6) pe_int (fun _ _ => rfl)) pe_int (fun _ _ => rfl)) pa_nil)) (by rfl))
    (pss_cons (ps_for PassesOwn.never rfl (pi_tup (pe_tup (pa_cons (pv 7) (pa_cons (pv 8) pa_nil)))) (pg_name (i := 9) sc_w_asked.nd rfl (Or.inl rfl))
    (pss_one (ps_if (PW.pt (pw_and (pt_cmpR op_notNc (pv 9) pe_non (nomark _)) (pw_and1 (pt_not (pt_val (pe_call G_w_is_integer (hr.mono (by decide)) rfl T.g_w_is_integer T.F_w_is_integer.kp T.b_w_is_integer .nil pass0 (pa_cons (pv 9) pa_nil)))))))
    (pss_one (ps_ret pe_bl))
    pss_nil)))
    (pss_cons (ps_if (PW.pt (pw_and (pt_cmpR op_le (pe_callB call_len_seq (by rfl) T.m_len PySem.boot_len (pa_cons (pv 1) pa_nil)) pe_int (nomark _)) (pw_and1 (pt_cmpR (op_neD hr.units) (pe_tup (pa_cons (pv 7) (pa_cons (pv 8) pa_nil))) (pe_call G_w_over_all (hr.mono (by decide)) rfl T.g_w_over_all T.F_w_over_all.kp T.b_w_over_all .nil pass0 (pa_cons (pv 1) (pa_cons (pv 2) (pa_cons (pv 3) pa_nil)))) (nomark _)))))
    (pss_one (ps_ret pe_bl))
    pss_nil)
    (pss_cons (ps_if (PW.pt (pw_or (pt_not (pt_val (pe_call G_w_entry_is (hr.mono (by decide)) rfl T.g_w_entry_is T.F_w_entry_is.kp T.b_w_entry_is .nil pass0 (pa_cons (pv 7) (pa_cons (pv 1) (pa_cons (pe_op op_add (pv 2) (pv 3)) pa_nil)))))) (pw_or1 (pt_not (pt_val (pe_call G_w_entry_is (hr.mono (by decide)) rfl T.g_w_entry_is T.F_w_entry_is.kp T.b_w_entry_is .nil pass0 (pa_cons (pv 8) (pa_cons (pv 1) (pa_cons (pe_op op_add (pe_op op_sub (pe_op op_sub (pe_callB call_len_seq (by rfl) T.m_len PySem.boot_len (pa_cons (pv 1) pa_nil)) pe_int) (pv 2)) (pv 3)) pa_nil)))))))))
    (pss_one (ps_ret pe_bl))
    pss_nil)
    (pss_one (ps_ret (pe_call G_w_misses_fit (hr.mono (by decide)) rfl T.g_w_misses_fit T.F_w_misses_fit.kp T.b_w_misses_fit .nil pass0 (pa_cons (pv 0) (pa_cons (pv 1) (pa_cons (pv 2) (pa_cons (pv 3) (pa_cons (pe_tup (pa_cons (pv 7) (pa_cons (pv 8) pa_nil))) pa_nil))))))))))))))))), ?_⟩
    walk_at "start"
    walk_at "sts"
    intro h hh
    have k1 : Keep [] H (upd H h (.lst (ns.map V.int))) := Keep.new hh
    have eh : upd H h (.lst (ns.map V.int)) h = some (.lst (ns.map V.int)) := upd_same
    generalize upd H h (.lst (ns.map V.int)) = H1 at k1 eh ⊢
    walk_at "sts"
    refine ⟨p, ns, place, liars, rfl, sqL_of (k1 _ _ (by simp) hp), fun q H2 k2 nq eq => ?_⟩
    walk_at "sts"
    have k12 := k1.trans k2
    have eh2 := k2 _ _ (by simp) eh
    have bigN : ∀ x : Int, x.natAbs < 10 ^ 30 → x.natAbs < 2 ^ 200 := fun x hx => by omega
    refine ⟨h, ns, place, liars, rfl, sqL_of eh2, by omega, fun x hx => bigN x (hns x hx), bigN _ hpl, bigN _ hli, fun d hd t H3 k3 nt et => ?_, fun hd ns' u t H3 pm pw k3 nt eu et => ?_⟩
    · rw [hd] at eq
      have k123 := k12.trans k3
      walk_at "sts"
      refine r_neInts (sqL_of (k3 _ _ (by simp) eh2)) (sqL_of (k123 _ _ (by simp) hp)) ?_
      rw [decide_eq_true rfl]
      walk_at "sts"
      intro e he
      have ef := dueT_flat d
      refine r_neT (b := false) (sqT_of (by rw [upd_ne (ne_of_none (k3 _ _ (by simp) eq) he)]; exact k3 _ _ (by simp) eq)) (sqT_of upd_same) ef rfl (by cases d with | mk b v => cases b <;> rfl) ?_
      walk_at "sts"
      refine r_eqT (b := true) (sqT_of (by rw [upd_ne (ne_of_none et he)]; exact et)) (sqT_of (by rw [upd_ne (ne_of_none (k3 _ _ (by simp) eq) he)]; exact k3 _ _ (by simp) eq)) ef ef (eqv_flats ef) ?_
      exact k _ ((k123.trans (Keep.new he)).mono (by simp)) (hb.keep (k123.trans (Keep.new he)))
    · rw [hd] at eq
      obtain ⟨d1, d2, d3, d4, d5⟩ := due_none hd
      obtain ⟨L, rfl⟩ : ∃ L : Nat, liars = (L : Int) := ⟨liars.toNat, by omega⟩
      have k123 := k12.trans k3
      have hle := pm.length_eq
      walk_at "sts"
      refine r_neInts (sqL_of (k3 _ _ (by simp) eh2)) (sqL_of (k123 _ _ (by simp) hp)) ?_
      rw [decide_eq_true rfl]
      walk_at "sts"
      intro e he
      refine r_neT (b := true) (sqT_of (by rw [upd_ne (ne_of_none (k3 _ _ (by simp) eq) he)]; exact k3 _ _ (by simp) eq)) (sqT_of upd_same) rfl rfl rfl ?_
      have k4 := k123.trans (Keep.new (o := .tup []) he)
      have et4 : upd H3 e (.tup []) t = some (.tup [.str "told", .ref u]) := by rw [upd_ne (ne_of_none et he)]; exact et
      have eu4 : upd H3 e (.tup []) u = some (.tup [oV ns'[(place + L).toNat]?, oV ns'[((ns.length : Int) - 1 - place + L).toNat]?]) := by rw [upd_ne (ne_of_none eu he)]; exact eu
      have b4 := hb.keep k4
      have hp4 := k4 _ _ (by simp) hp
      generalize upd H3 e (.tup []) = H4 at k4 et4 eu4 b4 hp4 ⊢
      generalize hoA : ns'[(place + L).toNat]? = oA at eu4
      generalize hoB : ns'[((ns.length : Int) - 1 - place + L).toNat]? = oB at eu4
      walk_at "sts"
      intro v5 hv5
      have k5 := k4.trans (Keep.new (o := .tup [oV oA, oV oB]) hv5)
      have b5 := b4.new (o := .tup [oV oA, oV oB]) hv5
      have e5 : upd H4 v5 (.tup [oV oA, oV oB]) v5 = some (.tup [oV oA, oV oB]) := upd_same
      have hp5 := k5 _ _ (by simp) hp
      clear hp4 et4 eu4 b4 k4 et eu eq nt k3 k2 nq
      generalize upd H4 v5 (.tup [oV oA, oV oB]) = H5 at k5 b5 e5 hp5 ⊢
      have fA : ∀ o : Option Int, flatV (oV o) = true := fun o => by cases o <;> rfl
      have fAB : [oV oA, oV oB].all flatV = true := by rw [List.all_cons, List.all_cons, fA, fA]; rfl
      refine forT_go (fun i σ' H' => ∃ x : Option V, σ' = [some (.ref a), some (.ref p), some (.int place), some (.int L), some (.ref h), some (.ref q), some (.ref t), some (oV oA), some (oV oB), x] ∧ H' = H5) (xs := [oV oA, oV oB]) (sqT_of e5) ⟨_, rfl, rfl⟩ (fun i σ' H' _ hz => by obtain ⟨_, _, rfl⟩ := hz; exact sqT_of e5) ?_ ?_
      · rintro i x σ' H' hx ⟨y, rfl, rfl⟩
        have ho : ∃ o : Option Int, x = oV o := by
          match i, hx with
          | 0, hx => exact ⟨oA, by simpa using hx.symm⟩
          | 1, hx => exact ⟨oB, by simpa using hx.symm⟩
        obtain ⟨o, rfl⟩ := ho
        cases o with
        | none =>
          simp only [oV]
          walk_at "sts"
          exact ⟨_, rfl, rfl⟩
        | some z =>
          simp only [oV]
          walk_at "sts"
          refine ⟨z, rfl, ?_⟩
          walk_at "sts"
          exact ⟨_, rfl, rfl⟩
      · rintro σ' H' ⟨y, rfl, rfl⟩
        walk_at "st"
        walk_at "st"
        walk_at "sts"
        try simp only [List.length_map]
        refine r_ite (fun c7 => ?_) (fun c7 => ?_)
        · walk_at "sts"
          intro v6 hv6
          have k6 := k5.trans (Keep.new (o := .tup [oV oA, oV oB]) hv6)
          have e6 : upd H' v6 (.tup [oV oA, oV oB]) v6 = some (.tup [oV oA, oV oB]) := upd_same
          generalize upd H' v6 (.tup [oV oA, oV oB]) = H6 at k6 e6 ⊢
          have p6 := k6 _ _ (by simp) hp
          walk_at "sts"
          refine ⟨p, ns, place, L, rfl, sqL_of p6, by omega, d2, d3, fun q2 H7 k7 eq7 => ?_⟩
          rw [Rk.over_eq pm pw (by omega), Rk.over_eq pm pw (by omega), show place.toNat + L = (place + L).toNat by omega, show ns.length - 1 - place.toNat + L = ((ns.length : Int) - 1 - place + L).toNat by omega, hoA, hoB] at eq7
          refine r_neT (b := true) (sqT_of (k7 _ _ (by simp) e6)) (sqT_of eq7) fAB fAB (eqv_flats fAB) ?_
          have k67 := k6.trans k7
          have bR := hb.keep k67
          have pR := k67 _ _ (by simp) hp
          walk_at "sts"
          refine ⟨oA, p, ns, ns', (place + L).toNat, by rw [Int.toNat_of_nonneg (by omega)]; rfl, sqL_of pR, by omega, pm, pw, hoA, fun H8 k8 => ?_⟩
          have p8 := k8 _ _ (by simp) pR
          have k8' := (k67).trans k8
          walk_at "sts"
          try simp only [List.length_map]
          refine ⟨oB, p, ns, ns', ((ns.length : Int) - 1 - place + L).toNat, by rw [Int.toNat_of_nonneg (by omega)]; rfl, sqL_of p8, by omega, pm, pw, hoB, fun H9 k9 => ?_⟩
          have p9 := k9 _ _ (by simp) p8
          have k9' := k8'.trans k9
          walk_at "sts"
          intro v9 hv9
          have kE := k9'.trans (Keep.new (o := .tup [oV oA, oV oB]) hv9)
          refine ⟨a, l, p, v9, ns, ns', place, L, rfl, hb.keep kE, kE _ _ (by simp) hp, by omega, fun x hx => ⟨d1 x hx, by have := hns x hx; have := d1 x hx; omega⟩, d2, d3, pm, pw, by rw [hoA, hoB]; exact upd_same, fun H10 k10 b10 => ?_⟩
          exact k H10 ((kE.mono (by simp)).trans k10) b10
        · walk_at "sts"
          have bR := hb.keep k5
          have pR := k5 _ _ (by simp) hp
          walk_at "sts"
          refine ⟨oA, p, ns, ns', (place + L).toNat, by rw [Int.toNat_of_nonneg (by omega)]; rfl, sqL_of pR, by omega, pm, pw, hoA, fun H8 k8 => ?_⟩
          have p8 := k8 _ _ (by simp) pR
          have k8' := (k5).trans k8
          walk_at "sts"
          try simp only [List.length_map]
          refine ⟨oB, p, ns, ns', ((ns.length : Int) - 1 - place + L).toNat, by rw [Int.toNat_of_nonneg (by omega)]; rfl, sqL_of p8, by omega, pm, pw, hoB, fun H9 k9 => ?_⟩
          have p9 := k9 _ _ (by simp) p8
          have k9' := k8'.trans k9
          walk_at "sts"
          intro v9 hv9
          have kE := k9'.trans (Keep.new (o := .tup [oV oA, oV oB]) hv9)
          refine ⟨a, l, p, v9, ns, ns', place, L, rfl, hb.keep kE, kE _ _ (by simp) hp, by omega, fun x hx => ⟨d1 x hx, by have := hns x hx; have := d1 x hx; omega⟩, d2, d3, pm, pw, by rw [hoA, hoB]; exact upd_same, fun H10 k10 b10 => ?_⟩
          exact k H10 ((kE.mono (by simp)).trans k10) b10
end
def spLaw (K : PySem.W.Frag) : Sp := fun vs H Q _ => ∃ (a : Addr) (ns : List Int), vs = [.ref a] ∧ SqL K H a (ns.map V.int) ∧ ns.length ≤ 63 ∧ ∀ H', Q (.bl true) H'
theorem r_spot {Q : VK} {E : XK} {H : Hp} {a l : Addr} {sz sh : Int} (hp : BagAt a l H) (h0 : 0 < sz) (h1 : sz < 100) (k : ∀ (r : Int) (H' : Hp), r.natAbs < 10 ^ 30 → Keep [a] H H' → BagAt a l H' → Q (.int r) H') : spSpot [.ref a, .int sz, .int sh] H Q E := ⟨a, l, sz, sh, rfl, hp, h0, h1, k⟩
theorem r_asked {Q : VK} {E : XK} {H : Hp} {a l p : Addr} {ns : List Int} {place liars : Int} (hb : BagAt a l H) (hp : H p = some (.lst (ns.map V.int))) (h40 : ns.length ≤ 40) (hns : ∀ x ∈ ns, x.natAbs < 10 ^ 30) (h1 : place.natAbs < 10 ^ 30) (h2 : liars.natAbs < 10 ^ 30)
    (k : ∀ H', Keep [a] H H' → BagAt a l H' → Q (.bl true) H') : spAsked [.ref a, .ref p, .int place, .int liars] H Q E := ⟨a, l, p, ns, place, liars, rfl, hb, hp, h40, hns, h1, h2, k⟩
section
variable {w : World} {K : PySem.W.Frag} {mg : Str → Option Value} {base : Heap}
theorem ok_law (T : Tx K mg) (G_w_bag : FnOk PG w K mg base CX0 1 T.f_w_bag T.fd_w_bag ["_law_script"] (spBag K)) (G_w_draw : FnOk PG w K mg base CX0 2 T.f_w_draw T.fd_w_draw ["_law_bag_here", "_law_size"] spDraw)
    (G_w_radii : FnOk PG w K mg base CX0 4 T.f_w_radii T.fd_w_radii ["_law_bag_here"] spRadii)
    (G_w_spot : FnOk PG w K mg base CX0 4 T.f_w_spot T.fd_w_spot ["_law_bag_here", "_law_size", "_law_shift"] spSpot)
    (G_w_asked : FnOk PG w K mg base CX0 5 T.f_w_asked T.fd_w_asked ["_law_bag_here", "_law_radii_here", "_law_place", "_law_liars"] spAsked) :
    FnOk PG w K mg base CX0 6 T.f_law T.fd_law ["_law_script"] (spLaw K) := by
  refine T.F_law.ok sc_law (fun vs H Q E h => ?_) (fun cdv A outer s H vs Q E hr h => ?_)
  · obtain ⟨a, ns, rfl, _⟩ := h; rfl
  · obtain ⟨c, sc, rfl, hs, hl, k⟩ := h
    refine ⟨_, (pss_cons (ps_set (i := 1) sc_law.nd rfl (Or.inl rfl) (pe_call G_w_bag (hr.mono (by decide)) rfl T.g_w_bag T.F_w_bag.kp T.b_w_bag .nil pass0 (pa_cons (pv 0) pa_nil)))
    (pss_cons (ps_set (i := 2) sc_law.nd rfl (Or.inl rfl) (pe_call G_w_radii (hr.mono (by decide)) rfl T.g_w_radii T.F_w_radii.kp T.b_w_radii .nil pass0 (pa_cons (pv 1) pa_nil)))
    (pss_cons (ps_set (i := 3) sc_law.nd rfl (Or.inl rfl) (pe_callB call_len_seq (by rfl) T.m_len PySem.boot_len (pa_cons (pv 2) pa_nil)))
    (pss_cons (ps_for PassesOwn.never rfl (pi_range1 rfl T.m_range (pa_cons pe_int pa_nil)) (pg_name (i := 4) sc_law.nd rfl (Or.inl rfl))
    (pss_cons (ps_par (i := 5) (j := 6) (by rfl) sc_law.nd rfl rfl (by decide) rfl rfl (pa_cons (pe_call G_w_spot (hr.mono (by decide)) rfl T.g_w_spot T.F_w_spot.kp T.b_w_spot .nil pass0 (pa_cons (pv 1) (pa_cons (pe_op op_add (pv 3) pe_int) (pa_cons pe_int pa_nil)))) (pa_cons (pe_call G_w_spot (hr.mono (by decide)) rfl T.g_w_spot T.F_w_spot.kp T.b_w_spot .nil pass0 (pa_cons (pv 1) (pa_cons (pe_op op_add (pv 3) pe_int) (pa_cons (pv 4) pa_nil)))) pa_nil)) (by rfl))
    (pss_cons (ps_if (pt_not (pt_val (pe_call G_w_asked (hr.mono (by decide)) rfl T.g_w_asked T.F_w_asked.kp T.b_w_asked .nil pass0 (pa_cons (pv 1) (pa_cons (pv 2) (pa_cons (pv 5) (pa_cons (pv 6) pa_nil)))))))
    (pss_one (ps_ret pe_bl))
    pss_nil)
    (pss_one (ps_if (PW.pt (pw_or (pt_not (pt_val (pe_call G_w_asked (hr.mono (by decide)) rfl T.g_w_asked T.F_w_asked.kp T.b_w_asked .nil pass0 (pa_cons (pv 1) (pa_cons (pv 2) (pa_cons (pv 5) (pa_cons pe_int pa_nil))))))) (pw_or1 (pt_not (pt_val (pe_call G_w_asked (hr.mono (by decide)) rfl T.g_w_asked T.F_w_asked.kp T.b_w_asked .nil pass0 (pa_cons (pv 1) (pa_cons (pv 2) (pa_cons (pe_un un_neg pe_int) (pa_cons (pv 6) pa_nil))))))))))
    (pss_one (ps_ret pe_bl))
    pss_nil)))))
    (pss_cons (ps_set (i := 7) sc_law.nd rfl (Or.inl rfl) (pe_callTy call_list_of (by rfl) T.m_list (by decide +kernel) (pa_cons (pv 2) pa_nil)))
    (pss_cons (ps_for PassesOwn.never rfl (pi_range1 rfl T.m_range (pa_cons (pe_op op_mod (pe_callTy call_int1 (by rfl) T.m_int (by decide +kernel) (pa_cons (pe_op op_add (pe_call G_w_draw (hr.mono (by decide)) rfl T.g_w_draw T.F_w_draw.kp T.b_w_draw .nil pass0 (pa_cons (pv 1) (pa_cons pe_int pa_nil))) pe_int) pa_nil)) pe_int) pa_nil)) (pg_name (i := 4) sc_law.nd rfl (Or.inl rfl))
    (pss_one (ps_if (pt_cmpR (op_neD hr.units) (pv 7) (pe_lst pa_nil) (nomark _))
    (pss_cons (ps_set (i := 8) sc_law.nd rfl (Or.inl rfl) (pe_call G_w_draw (hr.mono (by decide)) rfl T.g_w_draw T.F_w_draw.kp T.b_w_draw .nil pass0 (pa_cons (pv 1) (pa_cons (pv 3) pa_nil))))
    (pss_cons (ps_asg (pe_op op_sub (pe_op op_sub pe_int pe_int) (pe_call G_w_draw (hr.mono (by decide)) rfl T.g_w_draw T.F_w_draw.kp T.b_w_draw .nil pass0 (pa_cons (pv 1) (pa_cons pe_int pa_nil)))) (pg_sub (pv 7) (pv 8) set_list))
    (pss_one (ps_if (pt_cmpR op_eq (pe_call G_w_draw (hr.mono (by decide)) rfl T.g_w_draw T.F_w_draw.kp T.b_w_draw .nil pass0 (pa_cons (pv 1) (pa_cons pe_int pa_nil))) pe_int (nomark _))
    (pss_one (ps_asg (pe_op op_sub pe_int (pe_op op_pow pe_int pe_int)) (pg_sub (pv 7) (pv 8) set_list)))
    pss_nil))))
    pss_nil)))
    (pss_cons (ps_par (i := 5) (j := 6) (by rfl) sc_law.nd rfl rfl (by decide) rfl rfl (pa_cons (pe_call G_w_spot (hr.mono (by decide)) rfl T.g_w_spot T.F_w_spot.kp T.b_w_spot .nil pass0 (pa_cons (pv 1) (pa_cons (pe_op op_add (pv 3) pe_int) (pa_cons pe_int pa_nil)))) (pa_cons (pe_call G_w_spot (hr.mono (by decide)) rfl T.g_w_spot T.F_w_spot.kp T.b_w_spot .nil pass0 (pa_cons (pv 1) (pa_cons (pe_op op_add (pv 3) pe_int) (pa_cons pe_int pa_nil)))) pa_nil)) (by rfl))
    (pss_one (ps_ret (pe_call G_w_asked (hr.mono (by decide)) rfl T.g_w_asked T.F_w_asked.kp T.b_w_asked .nil pass0 (pa_cons (pv 1) (pa_cons (pv 7) (pa_cons (pv 5) (pa_cons (pv 6) pa_nil)))))))))))))), ?_⟩
    walk_at "start"
    walk_at "sts"
    refine ⟨c, sc, rfl, hs, hl, fun a l H1 k1 n1 b1 => ?_⟩
    walk_at "sts"
    refine ⟨a, l, rfl, b1, fun p ns H2 hn hb k2 b2 n2 e2 => ?_⟩
    have hns : ∀ x ∈ ns, x.natAbs < 10 ^ 30 := fun x hx => by have := hb x hx; omega
    have npa := b2.neI e2
    walk_at "sts"
    try simp only [List.length_map]
    refine forR1_go (fun i σ' H' => ∃ (x1 x2 x3 x4 x5 : Option V), σ' = [some (.ref c), some (.ref a), some (.ref p), some (.int ns.length), x1, x2, x3, x4, x5] ∧ BagAt a l H' ∧ H' p = some (.lst (ns.map V.int))) (by omega) ⟨_, _, _, _, _, rfl, b2, e2⟩ ?_ ?_
    · rintro i σ' H3 hi ⟨x1, x2, x3, x4, x5, rfl, b3, e3⟩
      walk_at "sts"
      refine r_spot b3 (by omega) (by omega) fun place H4 z4 k4 b4 => ?_
      have e4 := k4 _ _ (by simpa using npa) e3
      walk_at "sts"
      refine r_spot b4 (by omega) (by omega) fun liars H5 z5 k5 b5 => ?_
      have e5 := k5 _ _ (by simpa using npa) e4
      walk_at "sts"
      refine r_asked b5 e5 hn hns z4 z5 fun H6 k6 b6 => ?_
      have e6 := k6 _ _ (by simpa using npa) e5
      walk_at "sts"
      refine r_asked b6 e6 hn hns z4 (by decide) fun H7 k7 b7 => ?_
      have e7 := k7 _ _ (by simpa using npa) e6
      walk_at "sts"
      refine r_asked b7 e7 hn hns (by decide) z5 fun H8 k8 b8 => ?_
      have e8 := k8 _ _ (by simpa using npa) e7
      walk_at "sts"
      exact ⟨_, _, _, _, _, rfl, b8, e8⟩
    · rintro σ' H3 ⟨x1, x2, x3, x4, x5, rfl, b3, e3⟩
      walk_at "sts"
      intro s2 hs2
      walk_at "sts"
      have n2 := b3.ne hs2
      have e4 : upd H3 s2 (.lst (ns.map V.int)) s2 = some (.lst (ns.map V.int)) := upd_same
      have b4 := b3.new (o := .lst (ns.map V.int)) hs2
      generalize upd H3 s2 (.lst (ns.map V.int)) = H4 at e4 b4 ⊢
      refine r_draw b4 (by omega) (by omega) fun r H5 a5 c5 k5 b5 => ?_
      have e5 := k5 _ _ (by simpa using n2.1) e4
      walk_at "sts"
      have := Int.emod_nonneg (r + 1) (show (3 : Int) ≠ 0 by decide)
      have := Int.emod_lt_of_pos (r + 1) (show (0 : Int) < 3 by decide)
      refine forR1_go (fun i σ' H' => ∃ (ms : List Int) (x1 x2 x3 x5 : Option V), σ' = [some (.ref c), some (.ref a), some (.ref p), some (.int ns.length), x1, x2, x3, some (.ref s2), x5] ∧ BagAt a l H' ∧ H' s2 = some (.lst (ms.map V.int)) ∧ ms.length = ns.length ∧ ∀ x ∈ ms, x.natAbs < 10 ^ 30) (by omega) ⟨ns, _, _, _, _, rfl, b5, e5, rfl, hns⟩ ?_ ?_
      · rintro i σ' H6 hi ⟨ms, x1, x2, x3, x5, rfl, b6, e6, hm, hms⟩
        walk_at "sts"
        intro e he
        have e7 : upd H6 e (.lst []) s2 = some (.lst (ms.map V.int)) := by rw [upd_ne (ne_of_none e6 he)]; exact e6
        refine r_neInts (ns := ms) (ms := []) (sqL_of e7) (sqL_of upd_same) ?_
        have b7 := b6.new (o := .lst []) he
        generalize upd H6 e (.lst []) = H7 at e7 b7 ⊢
        walk_at "sts"
        refine r_iteN (fun c1 => ?_) (fun c1 => ?_)
        · have hml : 0 < ms.length := List.length_pos_iff.mpr c1
          have set_ok : ∀ (j : Nat) (v : Int), v.natAbs < 10 ^ 30 → ∀ xs : List Int, (∀ x ∈ xs, x.natAbs < 10 ^ 30) → ∀ x ∈ xs.set j v, x.natAbs < 10 ^ 30 := fun j v hv xs hxs x hx => by
            rcases List.mem_or_eq_of_mem_set hx with z | z
            · exact hxs x z
            · rw [z]; exact hv
          walk_at "sts"
          refine r_draw b7 (by omega) (by omega) fun at_ H8 a8 c8 k8 b8 => ?_
          have e8 := k8 _ _ (by simpa using n2.1) e7
          walk_at "sts"
          refine r_draw b8 (by omega) (by omega) fun r9 H9 a9 c9 k9 b9 => ?_
          have e9 := k9 _ _ (by simpa using n2.1) e8
          walk_at "sts"
          rw [← List.map_set]
          have e10 : upd H9 s2 (.lst ((ms.set at_.toNat (0 - 1 - r9)).map V.int)) s2 = some (.lst ((ms.set at_.toNat (0 - 1 - r9)).map V.int)) := upd_same
          have b10 := b9.put (o := .lst ((ms.set at_.toNat (0 - 1 - r9)).map V.int)) n2
          have h10 := set_ok at_.toNat (0 - 1 - r9) (by omega) ms hms
          have l10 : (ms.set at_.toNat (0 - 1 - r9)).length = ns.length := by rw [List.length_set]; exact hm
          generalize upd H9 s2 (.lst ((ms.set at_.toNat (0 - 1 - r9)).map V.int)) = H10 at e10 b10 ⊢
          generalize ms.set at_.toNat (0 - 1 - r9) = ms2 at e10 h10 l10
          walk_at "sts"
          refine r_draw b10 (by omega) (by omega) fun r11 H11 a11 c11 k11 b11 => ?_
          have e11 := k11 _ _ (by simpa using n2.1) e10
          walk_at "sts"
          refine r_ite (fun c2 => ?_) (fun c2 => ?_)
          · walk_at "sts"
            rw [← List.map_set]
            exact ⟨ms2.set at_.toNat (1 - 1000000000000000000000000000000), _, _, _, _, rfl, b11.put n2, upd_same, by rw [List.length_set]; exact l10, set_ok _ _ (by decide) ms2 h10⟩
          · walk_at "sts"
            exact ⟨ms2, _, _, _, _, rfl, b11, e11, l10, h10⟩
        · walk_at "sts"
          exact ⟨ms, _, _, _, _, rfl, b7, e7, hm, hms⟩
      · rintro σ' H6 ⟨ms, x1, x2, x3, x5, rfl, b6, e6, hm, hms⟩
        walk_at "sts"
        refine r_spot b6 (by omega) (by omega) fun place H7 z7 k7 b7 => ?_
        have e7 := k7 _ _ (by simpa using n2.1) e6
        walk_at "sts"
        refine r_spot b7 (by omega) (by omega) fun liars H8 z8 k8 b8 => ?_
        have e8 := k8 _ _ (by simpa using n2.1) e7
        walk_at "sts"
        refine r_asked b8 e8 (by omega) hms z7 z8 fun H9 k9 b9 => ?_
        exact k H9
end
theorem law_of {w : World} {K : PySem.W.Frag} {mg : Str → Option Value} {base : Heap} (T : Tx K mg) : FnOk PG w K mg base CX0 6 T.f_law T.fd_law ["_law_script"] (spLaw K) := by
  have gm := ok_mixed (w := w) (base := base) T
  have gd := ok_draw T gm
  have gz := ok_zigzag (w := w) (base := base) T
  have gn := ok_number T gd gz
  have gw := ok_wm T (ok_entry (w := w) (base := base) T)
  have go := ok_over T (ok_choices (w := w) (base := base) T) (ok_case (w := w) (base := base) T) (ok_greatest (w := w) (base := base) T)
  have ga := ok_asked T (ok_refusal (w := w) (base := base) T) (ok_ask T gw) (ok_isInt (w := w) (base := base) T) go (ok_entryIs (w := w) (base := base) T) (ok_miss T gd gz gn)
  exact ok_law T (ok_bag (w := w) (base := base) T) gd (ok_radii T gd gn) (ok_spot T gd gn) ga
theorem all_mk {w : World} {K : PySem.W.Frag} {h : Heap} {mg : Str → Option Value} {fa : Addr} (X : K.In h) (G : h.Ns mainGlobals mg) (hfa : mg "law" = some (.ref fa))
    {f0 : Addr} {od0 an0 : Option Addr} {sl0 : Array (Option Value)} {oc0 kV0 dc0 pm0 cd0 ct0 : Value} {f1 : Addr} {od1 an1 : Option Addr} {sl1 : Array (Option Value)} {oc1 kV1 dc1 pm1 cd1 ct1 : Value} {f2 : Addr} {od2 an2 : Option Addr} {sl2 : Array (Option Value)} {oc2 kV2 dc2 pm2 cd2 ct2 : Value} {f3 : Addr} {od3 an3 : Option Addr} {sl3 : Array (Option Value)} {oc3 kV3 dc3 pm3 cd3 ct3 : Value} {f4 : Addr} {od4 an4 : Option Addr} {sl4 : Array (Option Value)} {oc4 kV4 dc4 pm4 cd4 ct4 : Value} {f5 : Addr} {od5 an5 : Option Addr} {sl5 : Array (Option Value)} {oc5 kV5 dc5 pm5 cd5 ct5 : Value} {f6 : Addr} {od6 an6 : Option Addr} {sl6 : Array (Option Value)} {oc6 kV6 dc6 pm6 cd6 ct6 : Value} {f7 : Addr} {od7 an7 : Option Addr} {sl7 : Array (Option Value)} {oc7 kV7 dc7 pm7 cd7 ct7 : Value} {f8 : Addr} {od8 an8 : Option Addr} {sl8 : Array (Option Value)} {oc8 kV8 dc8 pm8 cd8 ct8 : Value} {f9 : Addr} {od9 an9 : Option Addr} {sl9 : Array (Option Value)} {oc9 kV9 dc9 pm9 cd9 ct9 : Value} {f10 : Addr} {od10 an10 : Option Addr} {sl10 : Array (Option Value)} {oc10 kV10 dc10 pm10 cd10 ct10 : Value} {f11 : Addr} {od11 an11 : Option Addr} {sl11 : Array (Option Value)} {oc11 kV11 dc11 pm11 cd11 ct11 : Value} {f12 : Addr} {od12 an12 : Option Addr} {sl12 : Array (Option Value)} {oc12 kV12 dc12 pm12 cd12 ct12 : Value} {f13 : Addr} {od13 an13 : Option Addr} {sl13 : Array (Option Value)} {oc13 kV13 dc13 pm13 cd13 ct13 : Value} {f14 : Addr} {od14 an14 : Option Addr} {sl14 : Array (Option Value)} {oc14 kV14 dc14 pm14 cd14 ct14 : Value} {f15 : Addr} {od15 an15 : Option Addr} {sl15 : Array (Option Value)} {oc15 kV15 dc15 pm15 cd15 ct15 : Value} {f16 : Addr} {od16 an16 : Option Addr} {sl16 : Array (Option Value)} {oc16 kV16 dc16 pm16 cd16 ct16 : Value} {f17 : Addr} {od17 an17 : Option Addr} {sl17 : Array (Option Value)} {oc17 kV17 dc17 pm17 cd17 ct17 : Value} {f18 : Addr} {od18 an18 : Option Addr} {sl18 : Array (Option Value)} {oc18 kV18 dc18 pm18 cd18 ct18 : Value} {f19 : Addr} {od19 an19 : Option Addr} {sl19 : Array (Option Value)} {oc19 kV19 dc19 pm19 cd19 ct19 : Value} {C_BadNumber : Addr} {C_BadLimit : Addr} {C_MeteError : Addr} {fE0 NE0 ccE0 cdaE0 : Addr} {nmE0 qE0 : Str} {bsE0 bmE0 : List Value} {snE0 : List Str} {subE0 : List Value} {abE0 : Bool} {colE0 : Option Bool} {ddE0 : Option Addr} {m0E0 m1E0 m2E0 m3E0 m5E0 : Option Value} {ocE0 docE0 pmE0 ctE0 clE0 cclE0 : Value} {odE0 anE0 cldE0 cddE0 : Option Addr} {oslE0 cslE0 ccsE0 : Array (Option Value)} {vsE0 : Array Value} {tfE0 : Tok} {fE1 NE1 ccE1 cdaE1 : Addr} {nmE1 qE1 : Str} {bsE1 bmE1 : List Value} {snE1 : List Str} {subE1 : List Value} {abE1 : Bool} {colE1 : Option Bool} {ddE1 : Option Addr} {m0E1 m1E1 m2E1 m3E1 m5E1 : Option Value} {ocE1 docE1 pmE1 ctE1 clE1 cclE1 : Value} {odE1 anE1 cldE1 cddE1 : Option Addr} {oslE1 cslE1 ccsE1 : Array (Option Value)} {vsE1 : Array Value} {tfE1 : Tok}
    (a0 : PySem.W.nsIn K mainGlobals "entry_at" = some (some (.ref f0)))
    (l0 : K.lookup f0 = some ⟨oc0, od0, .func (PySem.W.fnOf "entry_at" "entry_at" (defArgs s_entry_at) (defBody s_entry_at) (defScope s_entry_at) .none kV0 dc0 pm0 an0 cd0 ct0), sl0⟩)
    (c0 : PySem.W.codeIn K cd0 "entry_at" = true)
    (k0 : PySem.W.keepIn K (.ref f0) = true)
    (a1 : PySem.W.nsIn K mainGlobals "worst_miss" = some (some (.ref f1)))
    (l1 : K.lookup f1 = some ⟨oc1, od1, .func (PySem.W.fnOf "worst_miss" "worst_miss" (defArgs s_worst_miss) (defBody s_worst_miss) (defScope s_worst_miss) .none kV1 dc1 pm1 an1 cd1 ct1), sl1⟩)
    (c1 : PySem.W.codeIn K cd1 "worst_miss" = true)
    (k1 : PySem.W.keepIn K (.ref f1) = true)
    (a2 : PySem.W.nsIn K mainGlobals "_law_is_integer" = some (some (.ref f2)))
    (l2 : K.lookup f2 = some ⟨oc2, od2, .func (PySem.W.fnOf "_law_is_integer" "_law_is_integer" (defArgs s_w_is_integer) (defBody s_w_is_integer) (defScope s_w_is_integer) .none kV2 dc2 pm2 an2 cd2 ct2), sl2⟩)
    (c2 : PySem.W.codeIn K cd2 "_law_is_integer" = true)
    (k2 : PySem.W.keepIn K (.ref f2) = true)
    (a3 : PySem.W.nsIn K mainGlobals "_law_mixed" = some (some (.ref f3)))
    (l3 : K.lookup f3 = some ⟨oc3, od3, .func (PySem.W.fnOf "_law_mixed" "_law_mixed" (defArgs s_w_mixed) (defBody s_w_mixed) (defScope s_w_mixed) .none kV3 dc3 pm3 an3 cd3 ct3), sl3⟩)
    (c3 : PySem.W.codeIn K cd3 "_law_mixed" = true)
    (k3 : PySem.W.keepIn K (.ref f3) = true)
    (a4 : PySem.W.nsIn K mainGlobals "_law_draw" = some (some (.ref f4)))
    (l4 : K.lookup f4 = some ⟨oc4, od4, .func (PySem.W.fnOf "_law_draw" "_law_draw" (defArgs s_w_draw) (defBody s_w_draw) (defScope s_w_draw) .none kV4 dc4 pm4 an4 cd4 ct4), sl4⟩)
    (c4 : PySem.W.codeIn K cd4 "_law_draw" = true)
    (k4 : PySem.W.keepIn K (.ref f4) = true)
    (a5 : PySem.W.nsIn K mainGlobals "_law_bag" = some (some (.ref f5)))
    (l5 : K.lookup f5 = some ⟨oc5, od5, .func (PySem.W.fnOf "_law_bag" "_law_bag" (defArgs s_w_bag) (defBody s_w_bag) (defScope s_w_bag) .none kV5 dc5 pm5 an5 cd5 ct5), sl5⟩)
    (c5 : PySem.W.codeIn K cd5 "_law_bag" = true)
    (k5 : PySem.W.keepIn K (.ref f5) = true)
    (a6 : PySem.W.nsIn K mainGlobals "_law_zigzag" = some (some (.ref f6)))
    (l6 : K.lookup f6 = some ⟨oc6, od6, .func (PySem.W.fnOf "_law_zigzag" "_law_zigzag" (defArgs s_w_zigzag) (defBody s_w_zigzag) (defScope s_w_zigzag) .none kV6 dc6 pm6 an6 cd6 ct6), sl6⟩)
    (c6 : PySem.W.codeIn K cd6 "_law_zigzag" = true)
    (k6 : PySem.W.keepIn K (.ref f6) = true)
    (a7 : PySem.W.nsIn K mainGlobals "_law_number" = some (some (.ref f7)))
    (l7 : K.lookup f7 = some ⟨oc7, od7, .func (PySem.W.fnOf "_law_number" "_law_number" (defArgs s_w_number) (defBody s_w_number) (defScope s_w_number) .none kV7 dc7 pm7 an7 cd7 ct7), sl7⟩)
    (c7 : PySem.W.codeIn K cd7 "_law_number" = true)
    (k7 : PySem.W.keepIn K (.ref f7) = true)
    (a8 : PySem.W.nsIn K mainGlobals "_law_radii" = some (some (.ref f8)))
    (l8 : K.lookup f8 = some ⟨oc8, od8, .func (PySem.W.fnOf "_law_radii" "_law_radii" (defArgs s_w_radii) (defBody s_w_radii) (defScope s_w_radii) .none kV8 dc8 pm8 an8 cd8 ct8), sl8⟩)
    (c8 : PySem.W.codeIn K cd8 "_law_radii" = true)
    (k8 : PySem.W.keepIn K (.ref f8) = true)
    (a9 : PySem.W.nsIn K mainGlobals "_law_choices" = some (some (.ref f9)))
    (l9 : K.lookup f9 = some ⟨oc9, od9, .func (PySem.W.fnOf "_law_choices" "_law_choices" (defArgs s_w_choices) (defBody s_w_choices) (defScope s_w_choices) .none kV9 dc9 pm9 an9 cd9 ct9), sl9⟩)
    (c9 : PySem.W.codeIn K cd9 "_law_choices" = true)
    (k9 : PySem.W.keepIn K (.ref f9) = true)
    (a10 : PySem.W.nsIn K mainGlobals "_law_greatest" = some (some (.ref f10)))
    (l10 : K.lookup f10 = some ⟨oc10, od10, .func (PySem.W.fnOf "_law_greatest" "_law_greatest" (defArgs s_w_greatest) (defBody s_w_greatest) (defScope s_w_greatest) .none kV10 dc10 pm10 an10 cd10 ct10), sl10⟩)
    (c10 : PySem.W.codeIn K cd10 "_law_greatest" = true)
    (k10 : PySem.W.keepIn K (.ref f10) = true)
    (a11 : PySem.W.nsIn K mainGlobals "_law_case" = some (some (.ref f11)))
    (l11 : K.lookup f11 = some ⟨oc11, od11, .func (PySem.W.fnOf "_law_case" "_law_case" (defArgs s_w_case) (defBody s_w_case) (defScope s_w_case) .none kV11 dc11 pm11 an11 cd11 ct11), sl11⟩)
    (c11 : PySem.W.codeIn K cd11 "_law_case" = true)
    (k11 : PySem.W.keepIn K (.ref f11) = true)
    (a12 : PySem.W.nsIn K mainGlobals "_law_over_all" = some (some (.ref f12)))
    (l12 : K.lookup f12 = some ⟨oc12, od12, .func (PySem.W.fnOf "_law_over_all" "_law_over_all" (defArgs s_w_over_all) (defBody s_w_over_all) (defScope s_w_over_all) .none kV12 dc12 pm12 an12 cd12 ct12), sl12⟩)
    (c12 : PySem.W.codeIn K cd12 "_law_over_all" = true)
    (k12 : PySem.W.keepIn K (.ref f12) = true)
    (a13 : PySem.W.nsIn K mainGlobals "_law_entry_is" = some (some (.ref f13)))
    (l13 : K.lookup f13 = some ⟨oc13, od13, .func (PySem.W.fnOf "_law_entry_is" "_law_entry_is" (defArgs s_w_entry_is) (defBody s_w_entry_is) (defScope s_w_entry_is) .none kV13 dc13 pm13 an13 cd13 ct13), sl13⟩)
    (c13 : PySem.W.codeIn K cd13 "_law_entry_is" = true)
    (k13 : PySem.W.keepIn K (.ref f13) = true)
    (a14 : PySem.W.nsIn K mainGlobals "_law_misses_fit" = some (some (.ref f14)))
    (l14 : K.lookup f14 = some ⟨oc14, od14, .func (PySem.W.fnOf "_law_misses_fit" "_law_misses_fit" (defArgs s_w_misses_fit) (defBody s_w_misses_fit) (defScope s_w_misses_fit) .none kV14 dc14 pm14 an14 cd14 ct14), sl14⟩)
    (c14 : PySem.W.codeIn K cd14 "_law_misses_fit" = true)
    (k14 : PySem.W.keepIn K (.ref f14) = true)
    (a15 : PySem.W.nsIn K mainGlobals "_law_ask" = some (some (.ref f15)))
    (l15 : K.lookup f15 = some ⟨oc15, od15, .func (PySem.W.fnOf "_law_ask" "_law_ask" (defArgs s_w_ask) (defBody s_w_ask) (defScope s_w_ask) .none kV15 dc15 pm15 an15 cd15 ct15), sl15⟩)
    (c15 : PySem.W.codeIn K cd15 "_law_ask" = true)
    (k15 : PySem.W.keepIn K (.ref f15) = true)
    (a16 : PySem.W.nsIn K mainGlobals "_law_refusal" = some (some (.ref f16)))
    (l16 : K.lookup f16 = some ⟨oc16, od16, .func (PySem.W.fnOf "_law_refusal" "_law_refusal" (defArgs s_w_refusal) (defBody s_w_refusal) (defScope s_w_refusal) .none kV16 dc16 pm16 an16 cd16 ct16), sl16⟩)
    (c16 : PySem.W.codeIn K cd16 "_law_refusal" = true)
    (k16 : PySem.W.keepIn K (.ref f16) = true)
    (a17 : PySem.W.nsIn K mainGlobals "_law_asked" = some (some (.ref f17)))
    (l17 : K.lookup f17 = some ⟨oc17, od17, .func (PySem.W.fnOf "_law_asked" "_law_asked" (defArgs s_w_asked) (defBody s_w_asked) (defScope s_w_asked) .none kV17 dc17 pm17 an17 cd17 ct17), sl17⟩)
    (c17 : PySem.W.codeIn K cd17 "_law_asked" = true)
    (k17 : PySem.W.keepIn K (.ref f17) = true)
    (a18 : PySem.W.nsIn K mainGlobals "_law_spot" = some (some (.ref f18)))
    (l18 : K.lookup f18 = some ⟨oc18, od18, .func (PySem.W.fnOf "_law_spot" "_law_spot" (defArgs s_w_spot) (defBody s_w_spot) (defScope s_w_spot) .none kV18 dc18 pm18 an18 cd18 ct18), sl18⟩)
    (c18 : PySem.W.codeIn K cd18 "_law_spot" = true)
    (k18 : PySem.W.keepIn K (.ref f18) = true)
    (a19 : PySem.W.nsIn K mainGlobals "law" = some (some (.ref f19)))
    (l19 : K.lookup f19 = some ⟨oc19, od19, .func (PySem.W.fnOf "law" "law" (defArgs s_law) (defBody s_law) (defScope s_law) .none kV19 dc19 pm19 an19 cd19 ct19), sl19⟩)
    (c19 : PySem.W.codeIn K cd19 "law" = true)
    (k19 : PySem.W.keepIn K (.ref f19) = true)
    (z0 : PySem.W.nsIn K mainGlobals "len" = some none)
    (z1 : PySem.W.nsIn K mainGlobals "range" = some none)
    (z2 : PySem.W.nsIn K mainGlobals "isinstance" = some none)
    (z3 : PySem.W.nsIn K mainGlobals "int" = some none)
    (z4 : PySem.W.nsIn K mainGlobals "bool" = some none)
    (z5 : PySem.W.nsIn K mainGlobals "list" = some none)
    (z6 : PySem.W.nsIn K mainGlobals "tuple" = some none)
    (z7 : PySem.W.nsIn K mainGlobals "abs" = some none)
    (z8 : PySem.W.nsIn K mainGlobals "max" = some none)
    (z9 : PySem.W.nsIn K mainGlobals "sorted" = some none)
    (z10 : PySem.W.nsIn K mainGlobals "ValueError" = some none)
    (es0 : PySem.W.specialIn K (.builtin "object.__class__") "__get__" = some (some (.builtin "getset_descriptor.__get__")))
    (es1 : PySem.W.takesIn K (.builtin "object.__class__") = some true)
    (es2 : PySem.W.nsIn K cStatics "thirdparty.any" = some none)
    (es3 : PySem.W.nsIn K mainGlobals "super" = some none)
    (eC0 : PySem.W.nsIn K mainGlobals "BadNumber" = some (some (.ref C_BadNumber)))
    (eB0 : PySem.W.subIn K (.ref C_BadNumber) (.type "BaseException") = some true)
    (eH0 : PySem.W.hasDictIn K C_BadNumber = true)
    (eT0 : PySem.W.typeIn K (.ref C_BadNumber) = some (.type "type"))
    (eC1 : PySem.W.nsIn K mainGlobals "BadLimit" = some (some (.ref C_BadLimit)))
    (eB1 : PySem.W.subIn K (.ref C_BadLimit) (.type "BaseException") = some true)
    (eH1 : PySem.W.hasDictIn K C_BadLimit = true)
    (eT1 : PySem.W.typeIn K (.ref C_BadLimit) = some (.type "type"))
    (eC2 : PySem.W.nsIn K mainGlobals "MeteError" = some (some (.ref C_MeteError)))
    (eB2 : PySem.W.subIn K (.ref C_MeteError) (.type "BaseException") = some true)
    (eH2 : PySem.W.hasDictIn K C_MeteError = true)
    (eT2 : PySem.W.typeIn K (.ref C_MeteError) = some (.type "type"))
    (eL0 : K.lookup C_BadNumber = some (PySem.excClassObj nmE0 qE0 C_BadNumber NE0 bsE0 bmE0 true snE0 subE0 abE0 colE0 ddE0 m0E0 m1E0 m2E0 m3E0 m5E0 "ValueError.__new__"))
    (eR0 : PySem.HandSPX.refsVE bmE0 = true)
    (eS0 : PySem.W.findIn K (.ref C_BadNumber) "__setattr__" = some (some (.builtin "object.__setattr__")))
    (eG0 : PySem.W.findIn K (.ref C_BadNumber) "__getattribute__" = some (some (.builtin "BaseException.__getattribute__")))
    (eg0 : PySem.W.findIn K (.ref C_BadNumber) "__getattr__" = some none)
    (en0 : PySem.W.findIn K (.ref C_BadNumber) "number" = some none)
    (eI0 : PySem.W.findIn K (.ref C_BadNumber) "__init__" = some (some (.ref fE0)))
    (et0 : PySem.W.typeIn K (.ref fE0) = some (.type "function"))
    (ef0 : K.lookup fE0 = some ⟨ocE0, odE0, .func (PySem.W.ksFn "__init__" "BadNumber.__init__" (defArgs s_BadNumber_init) (defBody s_BadNumber_init) (defScope s_BadNumber_init) .none .none docE0 pmE0 anE0 (.ref cdaE0) ctE0 ccE0), oslE0⟩)
    (ec0 : PySem.W.codeIn K (.ref cdaE0) "BadNumber.__init__" = true)
    (eo0 : K.lookup ccE0 = some ⟨clE0, cldE0, .cell (some (.ref C_BadNumber)), cslE0⟩)
    (ed0 : K.lookup cdaE0 = some ⟨cclE0, cddE0, .fields vsE0, ccsE0⟩)
    (eq0 : vsE0[2]? = some (.str PG.main.file tfE0))
    (ep0 : PySem.W.ks_superIn K C_BadNumber C_BadNumber "__init__" = some (some (.builtin "ValueError.__init__")))
    (ev0 : PySem.W.subIn K (.ref C_BadNumber) (.type "ValueError") = some true)
    (em0 : PySem.W.mroIn K C_BadNumber (.ref C_BadNumber) = some true)
    (ek0 : PySem.W.keepIn K (.ref C_BadNumber) = true)
    (ea0 : PySem.W.findIn K (.ref C_BadNumber) "__class__" = some (some (.builtin "object.__class__")))
    (eb0 : PySem.W.mroIn K C_BadNumber (.type "object") = some true)
    (eL1 : K.lookup C_BadLimit = some (PySem.excClassObj nmE1 qE1 C_BadLimit NE1 bsE1 bmE1 true snE1 subE1 abE1 colE1 ddE1 m0E1 m1E1 m2E1 m3E1 m5E1 "ValueError.__new__"))
    (eR1 : PySem.HandSPX.refsVE bmE1 = true)
    (eS1 : PySem.W.findIn K (.ref C_BadLimit) "__setattr__" = some (some (.builtin "object.__setattr__")))
    (eG1 : PySem.W.findIn K (.ref C_BadLimit) "__getattribute__" = some (some (.builtin "BaseException.__getattribute__")))
    (eg1 : PySem.W.findIn K (.ref C_BadLimit) "__getattr__" = some none)
    (en1 : PySem.W.findIn K (.ref C_BadLimit) "limit" = some none)
    (eI1 : PySem.W.findIn K (.ref C_BadLimit) "__init__" = some (some (.ref fE1)))
    (et1 : PySem.W.typeIn K (.ref fE1) = some (.type "function"))
    (ef1 : K.lookup fE1 = some ⟨ocE1, odE1, .func (PySem.W.ksFn "__init__" "BadLimit.__init__" (defArgs s_BadLimit_init) (defBody s_BadLimit_init) (defScope s_BadLimit_init) .none .none docE1 pmE1 anE1 (.ref cdaE1) ctE1 ccE1), oslE1⟩)
    (ec1 : PySem.W.codeIn K (.ref cdaE1) "BadLimit.__init__" = true)
    (eo1 : K.lookup ccE1 = some ⟨clE1, cldE1, .cell (some (.ref C_BadLimit)), cslE1⟩)
    (ed1 : K.lookup cdaE1 = some ⟨cclE1, cddE1, .fields vsE1, ccsE1⟩)
    (eq1 : vsE1[2]? = some (.str PG.main.file tfE1))
    (ep1 : PySem.W.ks_superIn K C_BadLimit C_BadLimit "__init__" = some (some (.builtin "ValueError.__init__")))
    (ev1 : PySem.W.subIn K (.ref C_BadLimit) (.type "ValueError") = some true)
    (em1 : PySem.W.mroIn K C_BadLimit (.ref C_BadLimit) = some true)
    (ek1 : PySem.W.keepIn K (.ref C_BadLimit) = true)
    (ea1 : PySem.W.findIn K (.ref C_BadLimit) "__class__" = some (some (.builtin "object.__class__")))
    (eb1 : PySem.W.mroIn K C_BadLimit (.type "object") = some true)
    (ez0_1 : PySem.W.subIn K (.ref C_BadNumber) (.ref C_BadLimit) = some false)
    (ez0_1n : (Value.ref C_BadNumber == Value.ref C_BadLimit) = false)
    (ey0_ValueError : PySem.W.subIn K (.ref C_BadNumber) (.type "ValueError") = some true)
    (ez1_0 : PySem.W.subIn K (.ref C_BadLimit) (.ref C_BadNumber) = some false)
    (ez1_0n : (Value.ref C_BadLimit == Value.ref C_BadNumber) = false)
    (ey1_ValueError : PySem.W.subIn K (.ref C_BadLimit) (.type "ValueError") = some true)
    (ex0_2 : PySem.W.subIn K (.ref C_BadNumber) (.ref C_MeteError) = some true)
    (ex1_2 : PySem.W.subIn K (.ref C_BadLimit) (.ref C_MeteError) = some true) :
    ∃ fd : FuncData, (∀ (s : Shared) (v : Value), BindsTo s fd ⟨[v], []⟩ [("_law_script", v)]) ∧ ∀ base : Heap, K.In base → base.Ns mainGlobals mg → FnOk PG w K mg base CX0 6 fa fd ["_law_script"] (spLaw K) := by
  have F0 := fun_mk (st := s_entry_at) l0 c0 k0
  have F1 := fun_mk (st := s_worst_miss) l1 c1 k1
  have F2 := fun_mk (st := s_w_is_integer) l2 c2 k2
  have F3 := fun_mk (st := s_w_mixed) l3 c3 k3
  have F4 := fun_mk (st := s_w_draw) l4 c4 k4
  have F5 := fun_mk (st := s_w_bag) l5 c5 k5
  have F6 := fun_mk (st := s_w_zigzag) l6 c6 k6
  have F7 := fun_mk (st := s_w_number) l7 c7 k7
  have F8 := fun_mk (st := s_w_radii) l8 c8 k8
  have F9 := fun_mk (st := s_w_choices) l9 c9 k9
  have F10 := fun_mk (st := s_w_greatest) l10 c10 k10
  have F11 := fun_mk (st := s_w_case) l11 c11 k11
  have F12 := fun_mk (st := s_w_over_all) l12 c12 k12
  have F13 := fun_mk (st := s_w_entry_is) l13 c13 k13
  have F14 := fun_mk (st := s_w_misses_fit) l14 c14 k14
  have F15 := fun_mk (st := s_w_ask) l15 c15 k15
  have F16 := fun_mk (st := s_w_refusal) l16 c16 k16
  have F17 := fun_mk (st := s_w_asked) l17 c17 k17
  have F18 := fun_mk (st := s_w_spot) l18 c18 k18
  have F19 := fun_mk (st := s_law) l19 c19 k19
  have e := hfa.symm.trans (PySem.W.mg_of X G a19)
  cases e
  let T : Tx K mg := {
    f_entry_at := f0, fd_entry_at := _, F_entry_at := F0,
    g_entry_at := PySem.W.mg_of X G a0,
    b_entry_at := F0.binds (ps := ["numbers", "position"]) fun _ _ _ _ _ _ us hl => match us, hl with | [_, _], _ => rfl,
    f_worst_miss := f1, fd_worst_miss := _, F_worst_miss := F1,
    g_worst_miss := PySem.W.mg_of X G a1,
    b_worst_miss := F1.binds (ps := ["radii", "place", "liars"]) fun _ _ _ _ _ _ us hl => match us, hl with | [_, _, _], _ => rfl,
    f_w_is_integer := f2, fd_w_is_integer := _, F_w_is_integer := F2,
    g_w_is_integer := PySem.W.mg_of X G a2,
    b_w_is_integer := F2.binds (ps := ["_law_thing"]) fun _ _ _ _ _ _ us hl => match us, hl with | [_], _ => rfl,
    f_w_mixed := f3, fd_w_mixed := _, F_w_mixed := F3,
    g_w_mixed := PySem.W.mg_of X G a3,
    b_w_mixed := F3.binds (ps := ["_law_cell", "_law_count"]) fun _ _ _ _ _ _ us hl => match us, hl with | [_, _], _ => rfl,
    f_w_draw := f4, fd_w_draw := _, F_w_draw := F4,
    g_w_draw := PySem.W.mg_of X G a4,
    b_w_draw := F4.binds (ps := ["_law_bag_here", "_law_size"]) fun _ _ _ _ _ _ us hl => match us, hl with | [_, _], _ => rfl,
    f_w_bag := f5, fd_w_bag := _, F_w_bag := F5,
    g_w_bag := PySem.W.mg_of X G a5,
    b_w_bag := F5.binds (ps := ["_law_script"]) fun _ _ _ _ _ _ us hl => match us, hl with | [_], _ => rfl,
    f_w_zigzag := f6, fd_w_zigzag := _, F_w_zigzag := F6,
    g_w_zigzag := PySem.W.mg_of X G a6,
    b_w_zigzag := F6.binds (ps := ["_law_number_here"]) fun _ _ _ _ _ _ us hl => match us, hl with | [_], _ => rfl,
    f_w_number := f7, fd_w_number := _, F_w_number := F7,
    g_w_number := PySem.W.mg_of X G a7,
    b_w_number := F7.binds (ps := ["_law_bag_here", "_law_size", "_law_shift", "_law_great"]) fun _ _ _ _ _ _ us hl => match us, hl with | [_, _, _, _], _ => rfl,
    f_w_radii := f8, fd_w_radii := _, F_w_radii := F8,
    g_w_radii := PySem.W.mg_of X G a8,
    b_w_radii := F8.binds (ps := ["_law_bag_here"]) fun _ _ _ _ _ _ us hl => match us, hl with | [_], _ => rfl,
    f_w_choices := f9, fd_w_choices := _, F_w_choices := F9,
    g_w_choices := PySem.W.mg_of X G a9,
    b_w_choices := F9.binds (ps := ["_law_many", "_law_liars"]) fun _ _ _ _ _ _ us hl => match us, hl with | [_, _], _ => rfl,
    f_w_greatest := f10, fd_w_greatest := _, F_w_greatest := F10,
    g_w_greatest := PySem.W.mg_of X G a10,
    b_w_greatest := F10.binds (ps := ["_law_first", "_law_second"]) fun _ _ _ _ _ _ us hl => match us, hl with | [_, _], _ => rfl,
    f_w_case := f11, fd_w_case := _, F_w_case := F11,
    g_w_case := PySem.W.mg_of X G a11,
    b_w_case := F11.binds (ps := ["_law_radii_here", "_law_place", "_law_lying"]) fun _ _ _ _ _ _ us hl => match us, hl with | [_, _, _], _ => rfl,
    f_w_over_all := f12, fd_w_over_all := _, F_w_over_all := F12,
    g_w_over_all := PySem.W.mg_of X G a12,
    b_w_over_all := F12.binds (ps := ["_law_radii_here", "_law_place", "_law_liars"]) fun _ _ _ _ _ _ us hl => match us, hl with | [_, _, _], _ => rfl,
    f_w_entry_is := f13, fd_w_entry_is := _, F_w_entry_is := F13,
    g_w_entry_is := PySem.W.mg_of X G a13,
    b_w_entry_is := F13.binds (ps := ["_law_worth", "_law_radii_here", "_law_at"]) fun _ _ _ _ _ _ us hl => match us, hl with | [_, _, _], _ => rfl,
    f_w_misses_fit := f14, fd_w_misses_fit := _, F_w_misses_fit := F14,
    g_w_misses_fit := PySem.W.mg_of X G a14,
    b_w_misses_fit := F14.binds (ps := ["_law_bag_here", "_law_radii_here", "_law_place", "_law_liars", "_law_bounds"]) fun _ _ _ _ _ _ us hl => match us, hl with | [_, _, _, _, _], _ => rfl,
    f_w_ask := f15, fd_w_ask := _, F_w_ask := F15,
    g_w_ask := PySem.W.mg_of X G a15,
    b_w_ask := F15.binds (ps := ["_law_radii_here", "_law_place", "_law_liars"]) fun _ _ _ _ _ _ us hl => match us, hl with | [_, _, _], _ => rfl,
    f_w_refusal := f16, fd_w_refusal := _, F_w_refusal := F16,
    g_w_refusal := PySem.W.mg_of X G a16,
    b_w_refusal := F16.binds (ps := ["_law_radii_here", "_law_place", "_law_liars"]) fun _ _ _ _ _ _ us hl => match us, hl with | [_, _, _], _ => rfl,
    f_w_asked := f17, fd_w_asked := _, F_w_asked := F17,
    g_w_asked := PySem.W.mg_of X G a17,
    b_w_asked := F17.binds (ps := ["_law_bag_here", "_law_radii_here", "_law_place", "_law_liars"]) fun _ _ _ _ _ _ us hl => match us, hl with | [_, _, _, _], _ => rfl,
    f_w_spot := f18, fd_w_spot := _, F_w_spot := F18,
    g_w_spot := PySem.W.mg_of X G a18,
    b_w_spot := F18.binds (ps := ["_law_bag_here", "_law_size", "_law_shift"]) fun _ _ _ _ _ _ us hl => match us, hl with | [_, _, _], _ => rfl,
    f_law := fa, fd_law := _, F_law := F19,
    g_law := PySem.W.mg_of X G a19,
    b_law := F19.binds (ps := ["_law_script"]) fun _ _ _ _ _ _ us hl => match us, hl with | [_], _ => rfl,
    m_len := PySem.W.mg_none_of X G z0,
    m_range := PySem.W.mg_none_of X G z1,
    m_isinstance := PySem.W.mg_none_of X G z2,
    m_int := PySem.W.mg_none_of X G z3,
    m_bool := PySem.W.mg_none_of X G z4,
    m_list := PySem.W.mg_none_of X G z5,
    m_tuple := PySem.W.mg_none_of X G z6,
    m_abs := PySem.W.mg_none_of X G z7,
    m_max := PySem.W.mg_none_of X G z8,
    m_sorted := PySem.W.mg_none_of X G z9,
    m_ValueError := PySem.W.mg_none_of X G z10,
    C_BadNumber := C_BadNumber, gC_BadNumber := PySem.W.mg_of X G eC0,
    C_BadLimit := C_BadLimit, gC_BadLimit := PySem.W.mg_of X G eC1,
    C_MeteError := C_MeteError, gC_MeteError := PySem.W.mg_of X G eC2,
    Z_BadNumber := fun w => ⟨⟨fE0, ccE0, cdaE0, _, _, _, _, _, _, _, _, _, sh_BadNumber, ⟨⟨_, _, _, _, _, _, _, _, _, _, _, _, _, _, _, eL0, eR0⟩, eS0, eI0, et0, ⟨_, _, _, eo0⟩, ⟨_, _, _, _, _, ed0, eq0⟩, ep0, ev0, em0, es2, PySem.W.mg_none_of X G es3, rfl⟩, ef0, ec0⟩, PySem.W.mg_of X G eC0, ek0, en0, eB0, eT0⟩,
    X_BadNumber := ⟨eG0, eg0, eB0, eH0, ea0, es0, es1, eb0⟩,
    xf_BadNumber := ⟨eG0, eg0, eB0, eH0⟩,
    Z_BadLimit := fun w => ⟨⟨fE1, ccE1, cdaE1, _, _, _, _, _, _, _, _, _, sh_BadLimit, ⟨⟨_, _, _, _, _, _, _, _, _, _, _, _, _, _, _, eL1, eR1⟩, eS1, eI1, et1, ⟨_, _, _, eo1⟩, ⟨_, _, _, _, _, ed1, eq1⟩, ep1, ev1, em1, es2, PySem.W.mg_none_of X G es3, rfl⟩, ef1, ec1⟩, PySem.W.mg_of X G eC1, ek1, en1, eB1, eT1⟩,
    X_BadLimit := ⟨eG1, eg1, eB1, eH1, ea1, es0, es1, eb1⟩,
    xf_BadLimit := ⟨eG1, eg1, eB1, eH1⟩,
    kit_BadNumber_BadNumber := Er.kit_self,
    kit_BadNumber_BadLimit := Er.kit_refs eH1 eT1 ez0_1 ez0_1n,
    kit_BadNumber_ValueError := Er.kit_typ (by decide +kernel) ey0_ValueError,
    kit_BadLimit_BadNumber := Er.kit_refs eH0 eT0 ez1_0 ez1_0n,
    kit_BadLimit_BadLimit := Er.kit_self,
    kit_BadLimit_ValueError := Er.kit_typ (by decide +kernel) ey1_ValueError,
    exm_BadNumber_MeteError := PySem.W.exm_ref eB2 eH2 eT2 ex0_2,
    exm_BadLimit_MeteError := PySem.W.exm_ref eB2 eH2 eT2 ex1_2 }
  refine ⟨T.fd_law, fun s v => .of_eq rfl, fun base _ _ => ?_⟩
  exact law_of T
end My
open PySem PySem.W PyProof.Rows
set_option maxHeartbeats 0 in
theorem PySem.Challenge.cw_metehouse_k16_worst_miss_over_all_lots_holds : PySem.Challenge.rw_metehouse_k16_worst_miss_over_all_lots.Holds := by
  w_on; o_law; k_head; (case hw => w_witness2)
  k_fill
  refine L2.walk_of (l := PySem.Challenge.rw_metehouse_k16_worst_miss_over_all_lots) (n := 63) (k := 6) (x := "_law_script") (CX := fun _ => L2.CX0) (sp := fun w => My.spLaw _) rfl (by decide) rfl ⟨rfl, by decide, by decide⟩ (fun w h Y => PySem.W.kIn_of Y) ?F (fun _ _ a ns hl _ hS => ⟨a, ns, rfl, hS, hl, fun _ => rfl⟩) (fun _ _ _ _ _ h => h)
  case F =>
    intro w mg fa h KX G hmg
    refine' My.all_mk KX G hmg ?a0 ?l0 ?c0 ?k0 ?a1 ?l1 ?c1 ?k1 ?a2 ?l2 ?c2 ?k2 ?a3 ?l3 ?c3 ?k3 ?a4 ?l4 ?c4 ?k4 ?a5 ?l5 ?c5 ?k5 ?a6 ?l6 ?c6 ?k6 ?a7 ?l7 ?c7 ?k7 ?a8 ?l8 ?c8 ?k8 ?a9 ?l9 ?c9 ?k9 ?a10 ?l10 ?c10 ?k10 ?a11 ?l11 ?c11 ?k11 ?a12 ?l12 ?c12 ?k12 ?a13 ?l13 ?c13 ?k13 ?a14 ?l14 ?c14 ?k14 ?a15 ?l15 ?c15 ?k15 ?a16 ?l16 ?c16 ?k16 ?a17 ?l17 ?c17 ?k17 ?a18 ?l18 ?c18 ?k18 ?a19 ?l19 ?c19 ?k19 ?z0 ?z1 ?z2 ?z3 ?z4 ?z5 ?z6 ?z7 ?z8 ?z9 ?z10 ?es0 ?es1 ?es2 ?es3 ?eC0 ?eB0 ?eH0 ?eT0 ?eC1 ?eB1 ?eH1 ?eT1 ?eC2 ?eB2 ?eH2 ?eT2 ?eL0 ?eR0 ?eS0 ?eG0 ?eg0 ?en0 ?eI0 ?et0 ?ef0 ?ec0 ?eo0 ?ed0 ?eq0 ?ep0 ?ev0 ?em0 ?ek0 ?ea0 ?eb0 ?eL1 ?eR1 ?eS1 ?eG1 ?eg1 ?en1 ?eI1 ?et1 ?ef1 ?ec1 ?eo1 ?ed1 ?eq1 ?ep1 ?ev1 ?em1 ?ek1 ?ea1 ?eb1 ?ez0_1 ?ez0_1n ?ey0_ValueError ?ez1_0 ?ez1_0n ?ey1_ValueError ?ex0_2 ?ex1_2
    (case a0 => k_is)
    (case l0 => k_is)
    (case c0 => k_is)
    (case k0 => k_is)
    (case a1 => k_is)
    (case l1 => k_is)
    (case c1 => k_is)
    (case k1 => k_is)
    (case a2 => k_is)
    (case l2 => k_is)
    (case c2 => k_is)
    (case k2 => k_is)
    (case a3 => k_is)
    (case l3 => k_is)
    (case c3 => k_is)
    (case k3 => k_is)
    (case a4 => k_is)
    (case l4 => k_is)
    (case c4 => k_is)
    (case k4 => k_is)
    (case a5 => k_is)
    (case l5 => k_is)
    (case c5 => k_is)
    (case k5 => k_is)
    (case a6 => k_is)
    (case l6 => k_is)
    (case c6 => k_is)
    (case k6 => k_is)
    (case a7 => k_is)
    (case l7 => k_is)
    (case c7 => k_is)
    (case k7 => k_is)
    (case a8 => k_is)
    (case l8 => k_is)
    (case c8 => k_is)
    (case k8 => k_is)
    (case a9 => k_is)
    (case l9 => k_is)
    (case c9 => k_is)
    (case k9 => k_is)
    (case a10 => k_is)
    (case l10 => k_is)
    (case c10 => k_is)
    (case k10 => k_is)
    (case a11 => k_is)
    (case l11 => k_is)
    (case c11 => k_is)
    (case k11 => k_is)
    (case a12 => k_is)
    (case l12 => k_is)
    (case c12 => k_is)
    (case k12 => k_is)
    (case a13 => k_is)
    (case l13 => k_is)
    (case c13 => k_is)
    (case k13 => k_is)
    (case a14 => k_is)
    (case l14 => k_is)
    (case c14 => k_is)
    (case k14 => k_is)
    (case a15 => k_is)
    (case l15 => k_is)
    (case c15 => k_is)
    (case k15 => k_is)
    (case a16 => k_is)
    (case l16 => k_is)
    (case c16 => k_is)
    (case k16 => k_is)
    (case a17 => k_is)
    (case l17 => k_is)
    (case c17 => k_is)
    (case k17 => k_is)
    (case a18 => k_is)
    (case l18 => k_is)
    (case c18 => k_is)
    (case k18 => k_is)
    (case a19 => k_is)
    (case l19 => k_is)
    (case c19 => k_is)
    (case k19 => k_is)
    (case z0 => k_is)
    (case z1 => k_is)
    (case z2 => k_is)
    (case z3 => k_is)
    (case z4 => k_is)
    (case z5 => k_is)
    (case z6 => k_is)
    (case z7 => k_is)
    (case z8 => k_is)
    (case z9 => k_is)
    (case z10 => k_is)
    (case es0 => k_is)
    (case es1 => k_is)
    (case es2 => k_is)
    (case es3 => k_is)
    (case eC0 => k_is)
    (case eB0 => k_is)
    (case eH0 => k_is)
    (case eT0 => k_is)
    (case eC1 => k_is)
    (case eB1 => k_is)
    (case eH1 => k_is)
    (case eT1 => k_is)
    (case eC2 => k_is)
    (case eB2 => k_is)
    (case eH2 => k_is)
    (case eT2 => k_is)
    (case eL0 => k_is)
    (case eR0 => decide +kernel)
    (case eS0 => k_is)
    (case eG0 => k_is)
    (case eg0 => k_is)
    (case en0 => k_is)
    (case eI0 => k_is)
    (case et0 => k_is)
    (case ef0 => k_is)
    (case ec0 => k_is)
    (case eo0 => k_is)
    (case ed0 => k_is)
    (case eq0 => rfl)
    (case ep0 => ks_is)
    (case ev0 => k_is)
    (case em0 => k_is)
    (case ek0 => k_is)
    (case ea0 => k_is)
    (case eb0 => k_is)
    (case eL1 => k_is)
    (case eR1 => decide +kernel)
    (case eS1 => k_is)
    (case eG1 => k_is)
    (case eg1 => k_is)
    (case en1 => k_is)
    (case eI1 => k_is)
    (case et1 => k_is)
    (case ef1 => k_is)
    (case ec1 => k_is)
    (case eo1 => k_is)
    (case ed1 => k_is)
    (case eq1 => rfl)
    (case ep1 => ks_is)
    (case ev1 => k_is)
    (case em1 => k_is)
    (case ek1 => k_is)
    (case ea1 => k_is)
    (case eb1 => k_is)
    (case ez0_1 => k_is)
    (case ez0_1n => rfl)
    (case ey0_ValueError => k_is)
    (case ez1_0 => k_is)
    (case ez1_0n => rfl)
    (case ey1_ValueError => k_is)
    (case ex0_2 => k_is)
    (case ex1_2 => k_is)
