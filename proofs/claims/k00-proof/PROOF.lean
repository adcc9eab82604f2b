import PyProof.Rows.All
import Wide.All
import OpenK.AllK
import Wide.FinOn
import HandS.ForMost
import HandS.Exc
import HandS.TryOnly
import HandS.ExcOwn
import HandS.ExcBuiltin
import HandS.WordsExc
import HandS.IsInst
import HandS.Defaults
import HandS.Star
import HandS.Flow
import HandS.Wide
import HandS.Gcd
import HandS.Evl
import HandS.CallSlots
import PySem.Challenge.RW_metehouse_k00_ratios
set_option Elab.async false
set_option linter.all false
set_option maxRecDepth 100000
set_option maxHeartbeats 4000000
namespace My
open PySem PySem.Spec PyProof.Rows L2 StX
/-! ### rules of my own -/
section
variable {X : Cx}
/-- floor division by any divisor that is not 0, below 2 ^ 9000 in size -/
theorem op_fdivWN : OpR X (binaryOp .FloorDiv) (rI (fun _ j => j ≠ 0 ∧ j.natAbs.log2 < 9000) fun i j => .int (i.fdiv j)) :=
  opI fun _ _ _ _ _ _ _ hc q => floordiv_int hc.1 q (.inl (PyProof.noPylong_of_log2 hc.2))
theorem op_mulG : OpR X (binaryOp .Mult) (rI (fun i j => CMul i j ∨ CMulW i j) fun i j => .int (i * j)) := opI fun _ _ _ _ _ _ _ hc q => mul_int q (hc.elim CMul.ok CMulW.ok)
variable {CX : CXT} {k : Nat} {f : Addr} {sp : Sp} {E : XK} {x : Str} {p pos : Pos} {e : Expr} {es : List Expr} {t : TA}
/-- a call of a def whose promise is told raw -/
theorem pe_callR (F : FnR X.prog X.w X.K X.mg X.base CX k f sp) (hr : Room k X.A) (hg : Gl X x) (hm : X.mg x = some (.ref f)) (hk : PySem.W.keepIn X.K (.ref f) = true) (hx : Passes CX X E)
    (ha : PA X (e :: es) t) (hdb : (x == ("__debug__" : Str)) = false := by decide) (he : starEach (e :: es) X.env = (false, eval e X.env) :: starEach es X.env := by rfl) (hpl : (backTo pos (starEach es X.env)).any (·.1) = false := by rfl) :
    PE X (.Call (.Name x p) (e :: es) [] pos) (fun σ H Q => t σ H fun vs H1 => sp vs H1 Q E) := by
  refine ⟨fun pins s σ H Q I h => ?_⟩
  refine wpAny_Call_Name_kw (ld_glob I hg hm ?_ hdb)
  refine PySem.W.callWith_K (h₀ := X.base) I.ok.mod.kin hk (thn (ha.run pos pins s σ H _ I h) fun us s1 ⟨vs, H1, I1, r, q⟩ => ⟨I1.kIn, ?_⟩) he hpl
  exact wpAny_call (run_fnR F hr hx I1 r q)
theorem pe_callR0 (F : FnR X.prog X.w X.K X.mg X.base CX k f sp) (hr : Room k X.A) (hg : Gl X x) (hm : X.mg x = some (.ref f)) (hk : PySem.W.keepIn X.K (.ref f) = true) (hx : Passes CX X E)
    (hdb : (x == ("__debug__" : Str)) = false := by decide) : PE X (.Call (.Name x p) [] [] pos) (fun σ H Q => sp [] H Q E) := by
  refine ⟨fun pins s σ H Q I h => ?_⟩
  refine wpAny_Call_Name_kw (ld_glob I hg hm ?_ hdb)
  exact PySem.W.callWith_K0 I.kIn hk (wpAny_call (run_fnR (us := []) F hr hx I .nil h))
end
section
variable {P : Program} {w : World} {K : PySem.W.Frag} {mg : Str → Option Value} {base : Heap}
/-- def f(a, .., *v) that lets nothing out -/
theorem Fun.okStar {x qual : Str} {st : Stmt} {f : Addr} {fd : FuncData} {N ps : List Str} {pv : Str} {k : Nat} {sp : Sp} (F : Fun K x qual st f fd) (S : FnScope N (ps ++ [pv]) (defScope st))
    (hb : ∀ (kV doc pm : Value) (an : Option Addr) (cdv ct : Value) (us rest : List Value), us.length = ps.length → bindArgs (PySem.W.fnOf x qual (defArgs st) (defBody st) (defScope st) .none kV doc pm an cdv ct) ⟨us ++ rest, []⟩ = (newTuple rest >>= fun t => pure (ps.zip us ++ [(pv, t)])))
    (hbody : ∀ (cdv : Value) (A : Around) (outer : List Env) (s : Shared) (H : Hp) (vs : List V) (Q : VK) (E : XK), Room k (A.deeper (envOfC qual (defScope st) s.heap.objs.size f cdv)) → sp vs H Q E →
      ∃ t, PSs (cxOf CX0 P w K mg base N qual (defScope st) f cdv A outer s H E).nox (defBody st) t ∧ t { nx := fun _ H' => Q .non H', rt := Q } (start N vs) H) :
    FnR P w K mg base CX0 (k + 1) f (fun vs H Q E => ∃ ws rest, vs = ws ++ rest ∧ ws.length = ps.length ∧ rest.length ≤ sizeLine ∧ ∀ p, H p = Option.none → sp (ws ++ [V.ref p]) (upd H p (.tup rest)) Q E) := by
  obtain ⟨oc, od, kV, doc, pm, an, cdv, ct, osl, rfl, lk, hcd⟩ := F.ex
  refine fn_star lk hcd S cxUp_none (hb kV doc pm an cdv ct) fun A outer s H vs Q E hr hsp => ?_
  obtain ⟨t, h, q⟩ := hbody cdv A outer s H vs Q E hr hsp
  exact ⟨t, h.nox, q⟩
end
/-! ### heaps: what is kept but at some addresses -/
def Keep (M : List Addr) (H H' : Hp) : Prop := ∀ b o, b ∉ M → H b = some o → H' b = some o
theorem Keep.refl (M : List Addr) (H : Hp) : Keep M H H := fun _ _ _ h => h
theorem Keep.trans {M : List Addr} {H H1 H2 : Hp} (a : Keep M H H1) (b : Keep M H1 H2) : Keep M H H2 := fun c o n h => b c o n (a c o n h)
theorem Keep.new {M : List Addr} {H : Hp} {p : Addr} {o : HO} (h : H p = none) : Keep M H (upd H p o) := fun b u _ e => by
  rw [upd_ne (ne_of_none e h)]; exact e
theorem Keep.at {M : List Addr} {H : Hp} {p : Addr} {o : HO} (h : p ∈ M) : Keep M H (upd H p o) := fun b u n e => by
  rw [upd_ne (fun z => n (by rw [z]; exact h))]; exact e
/-- an object that H does not know may change -/
theorem Keep.mut {M : List Addr} {H H' : Hp} {p : Addr} {o : HO} (e : Keep M H H') (h : H p = none) : Keep M H (upd H' p o) := fun b u n hb => by
  rw [upd_ne (ne_of_none hb h)]; exact e b u n hb
theorem Keep.mono {M N : List Addr} {H H' : Hp} (e : Keep M H H') (h : ∀ a ∈ M, a ∈ N) : Keep N H H' := fun b o n hb => e b o (fun z => n (h b z)) hb
theorem Keep.rd {M : List Addr} {H H' : Hp} {a : Addr} {u : HO} (e : Keep M H H') (n : a ∉ M) (h : Rd H a u) : Rd H' a u := by
  rcases h with h | ⟨o, h⟩
  · exact Or.inl (e a _ n h)
  · exact Or.inr ⟨o, e a _ n h⟩
theorem Keep.l {M : List Addr} {K : PySem.W.Frag} {H H' : Hp} {a : Addr} {xs : List V} (e : Keep M H H') (n : a ∉ M) (h : SqL K H a xs) : SqL K H' a xs := by
  rcases h with h | h
  · exact Or.inl (e.rd n h)
  · exact Or.inr h
theorem Keep.t {M : List Addr} {K : PySem.W.Frag} {H H' : Hp} {a : Addr} {xs : List V} (e : Keep M H H') (n : a ∉ M) (h : SqT K H a xs) : SqT K H' a xs := by
  rcases h with h | h
  · exact Or.inl (e.rd n h)
  · exact Or.inr h
theorem Keep.free {M : List Addr} {H H' : Hp} (e : Keep M H H') {l : Addr} (n : l ∉ M) (h : H' l = Option.none) : H l = Option.none := by
  cases q : H l with
  | none => rfl
  | some o => rw [e l o n q] at h; cases h
/-- an address that is untracked later, though tracked addresses stay (M's own, too) -/
theorem ne_free {H : Hp} {a p : Addr} {o : HO} (h : H a = some o) (n : H p = none) : p ≠ a := fun e => by rw [e, h] at n; cases n
theorem sqL_of {K : PySem.W.Frag} {H : Hp} {a : Addr} {xs : List V} (h : H a = some (.lst xs)) : SqL K H a xs := Or.inl (Or.inl h)
theorem sqT_of {K : PySem.W.Frag} {H : Hp} {a : Addr} {xs : List V} (h : H a = some (.tup xs)) : SqT K H a xs := Or.inl (Or.inl h)
theorem le_size {n : Nat} (h : n ≤ 100000) : n ≤ sizeLine := Nat.le_trans h (by decide)
theorem lt_size {n : Nat} (h : n < 100000) : n < sizeLine := Nat.lt_of_lt_of_le h (by decide)
theorem ixN_nn {n j : Nat} (h : j < n) : ixN n (j : Int) = some j := by
  unfold ixN; rw [if_pos (by omega), if_pos (by omega), Int.toNat_natCast]
theorem cxOf_K {CX : CXT} {P : Program} {w : World} {K : PySem.W.Frag} {mg : Str → Option Value} {base : Heap} {N : List Str} {qual : Str} {scope : Scope} {f : Addr} {cd : Value} {A : Around} {outer : List Env} {s : Shared} {H : Hp} {E : XK} :
    (cxOf CX P w K mg base N qual scope f cd A outer s H E).K = K := rfl
/-! ### readings, by the head of their terms -/
section
variable {K : PySem.W.Frag} {σ : L2.St} {H : Hp} {Q : VK} {QA : List V → Hp → Prop} {QB : Bool → Hp → Prop} {QO : Option Int → Hp → Prop} {D : Ends} {ta tb te tc : TE} {t u : TT} {ts tr : TS} {r : R2} {v x y : V} {G : TG} {tas : TA}
theorem r_nxE {a b d : L2.St → Hp → Prop} {c : VK} (k : a σ H) : Ends.nx ⟨a, c, b, d⟩ σ H := k
theorem r_bkE {a b d : L2.St → Hp → Prop} {c : VK} (k : b σ H) : Ends.bk ⟨a, c, b, d⟩ σ H := k
theorem r_ctE {a b d : L2.St → Hp → Prop} {c : VK} (k : d σ H) : Ends.ct ⟨a, c, b, d⟩ σ H := k
theorem r_rtE {a b d : L2.St → Hp → Prop} {c : VK} (k : c v H) : Ends.rt ⟨a, c, b, d⟩ v H := k
theorem r_var {i : Nat} (h : σ[i]? = some (some v)) (k : Q v H) : tVar i σ H Q := ⟨v, h, k⟩
theorem r_c (k : Q v H) : tC v σ H Q := k
theorem r_op (k : ta σ H fun x H1 => tb σ H1 fun y H2 => r x y H2 Q) : tOp r ta tb σ H Q := k
theorem r_un {r : V → Hp → VK → Prop} (k : ta σ H fun x H1 => r x H1 Q) : tUn r ta σ H Q := k
theorem r_I0 {g : Int → Int → V} {i j : Int} (k : Q (g i j) H) : rI0 g (.int i) (.int j) H Q := ⟨i, j, rfl, rfl, k⟩
theorem r_I {C : Int → Int → Prop} {g : Int → Int → V} {i j : Int} (c : C i j) (k : Q (g i j) H) : rI C g (.int i) (.int j) H Q := ⟨i, j, rfl, rfl, c, k⟩
theorem r_U {g : Int → V} {i : Int} (k : Q (g i) H) : rU g (.int i) H Q := ⟨i, rfl, k⟩
theorem dec_int {i j : Int} : decide (V.int i = V.int j) = decide (i = j) := by
  by_cases h : i = j
  · subst h; simp
  · rw [decide_eq_false h, decide_eq_false (fun e => h (V.int.inj e))]
theorem dec_str {i j : Str} : decide (V.str i = V.str j) = decide (i = j) := by
  by_cases h : i = j
  · subst h; simp
  · rw [decide_eq_false h, decide_eq_false (fun e => h (V.str.inj e))]
theorem dec_bl {i j : Bool} : decide (V.bl i = V.bl j) = decide (i = j) := by
  by_cases h : i = j
  · subst h; simp
  · rw [decide_eq_false h, decide_eq_false (fun e => h (V.bl.inj e))]
theorem r_eqI {i j : Int} (k : Q (.bl (decide (i = j))) H) : rEq (.int i) (.int j) H Q := ⟨rfl, by rw [dec_int]; exact k⟩
theorem r_neI {i j : Int} (k : Q (.bl (!decide (i = j))) H) : rNe (.int i) (.int j) H Q := ⟨rfl, by rw [dec_int]; exact k⟩
theorem r_eqS {i j : Str} (k : Q (.bl (decide (i = j))) H) : rEq (.str i) (.str j) H Q := ⟨rfl, by rw [dec_str]; exact k⟩
theorem r_neS {i j : Str} (k : Q (.bl (!decide (i = j))) H) : rNe (.str i) (.str j) H Q := ⟨rfl, by rw [dec_str]; exact k⟩
theorem r_eqB {i j : Bool} (k : Q (.bl (decide (i = j))) H) : rEq (.bl i) (.bl j) H Q := ⟨rfl, by rw [dec_bl]; exact k⟩
theorem r_neB {i j : Bool} (k : Q (.bl (!decide (i = j))) H) : rNe (.bl i) (.bl j) H Q := ⟨rfl, by rw [dec_bl]; exact k⟩
theorem r_test (k : te σ H fun x H' => ∃ k, x = .bl k ∧ QB k H') : tTest te σ H QB := k
theorem r_tB (k : te σ H fun x H' => ∃ k, x = .bl k ∧ QB k H') : tB te σ H QB := k
theorem r_bl {b : Bool} {P : Bool → Prop} (k : P b) : ∃ c, V.bl b = .bl c ∧ P c := ⟨b, rfl, k⟩
theorem r_and (k : t σ H fun c H1 => if c = true then u σ H1 QB else QB false H1) : tAnd t u σ H QB := k
theorem r_or (k : t σ H fun c H1 => if c = true then QB true H1 else u σ H1 QB) : tOr t u σ H QB := k
theorem r_not (k : t σ H fun c H1 => QB (!c) H1) : tNot t σ H QB := k
theorem r_andV (k : ta σ H fun x H1 => ∃ c, x = .bl c ∧ if c = true then tb σ H1 Q else Q (.bl false) H1) : tAndV ta tb σ H Q := k
theorem r_orV (k : ta σ H fun x H1 => ∃ c, x = .bl c ∧ if c = true then Q (.bl true) H1 else tb σ H1 Q) : tOrV ta tb σ H Q := k
theorem r_notV (k : ta σ H fun x H1 => ∃ c, x = .bl c ∧ Q (.bl (!c)) H1) : tNotV ta σ H Q := k
theorem r_if (k : t σ H fun c H1 => if c = true then ta σ H1 Q else tb σ H1 Q) : tIf t ta tb σ H Q := k
theorem r_chain {r' : R2} (k : ta σ H fun x H1 => tb σ H1 fun y H2 => r x y H2 fun z H3 => ∃ k, z = .bl k ∧ (if k = true then tc σ H3 fun w' H4 => r' y w' H4 Q else Q (.bl false) H3)) : tChain r r' ta tb tc σ H Q := k
theorem r_seq (k : ts { D with nx := tr D } σ H) : tSeq ts tr D σ H := k
theorem r_asg (k : te σ H fun x H1 => G x σ H1 D.nx) : tAsg te G D σ H := k
theorem r_gName {i : Nat} {Q : L2.St → Hp → Prop} (k : Q (σ.set i (some v)) H) : gName i v σ H Q := k
theorem r_gName0 {x0 : Option V} {Q : L2.St → Hp → Prop} (k : Q (some v :: σ) H) : gName 0 v (x0 :: σ) H Q := k
theorem r_gName1 {x0 x1 : Option V} {Q : L2.St → Hp → Prop} (k : Q (x0 :: some v :: σ) H) : gName 1 v (x0 :: x1 :: σ) H Q := k
theorem r_gName2 {x0 x1 x2 : Option V} {Q : L2.St → Hp → Prop} (k : Q (x0 :: x1 :: some v :: σ) H) : gName 2 v (x0 :: x1 :: x2 :: σ) H Q := k
theorem r_gName3 {x0 x1 x2 x3 : Option V} {Q : L2.St → Hp → Prop} (k : Q (x0 :: x1 :: x2 :: some v :: σ) H) : gName 3 v (x0 :: x1 :: x2 :: x3 :: σ) H Q := k
theorem r_gName4 {x0 x1 x2 x3 x4 : Option V} {Q : L2.St → Hp → Prop} (k : Q (x0 :: x1 :: x2 :: x3 :: some v :: σ) H) : gName 4 v (x0 :: x1 :: x2 :: x3 :: x4 :: σ) H Q := k
theorem r_gName5 {x0 x1 x2 x3 x4 x5 : Option V} {Q : L2.St → Hp → Prop} (k : Q (x0 :: x1 :: x2 :: x3 :: x4 :: some v :: σ) H) : gName 5 v (x0 :: x1 :: x2 :: x3 :: x4 :: x5 :: σ) H Q := k
theorem r_gName6 {x0 x1 x2 x3 x4 x5 x6 : Option V} {Q : L2.St → Hp → Prop} (k : Q (x0 :: x1 :: x2 :: x3 :: x4 :: x5 :: some v :: σ) H) : gName 6 v (x0 :: x1 :: x2 :: x3 :: x4 :: x5 :: x6 :: σ) H Q := k
theorem r_gName7 {x0 x1 x2 x3 x4 x5 x6 x7 : Option V} {Q : L2.St → Hp → Prop} (k : Q (x0 :: x1 :: x2 :: x3 :: x4 :: x5 :: x6 :: some v :: σ) H) : gName 7 v (x0 :: x1 :: x2 :: x3 :: x4 :: x5 :: x6 :: x7 :: σ) H Q := k
theorem r_gName8 {x0 x1 x2 x3 x4 x5 x6 x7 x8 : Option V} {Q : L2.St → Hp → Prop} (k : Q (x0 :: x1 :: x2 :: x3 :: x4 :: x5 :: x6 :: x7 :: some v :: σ) H) : gName 8 v (x0 :: x1 :: x2 :: x3 :: x4 :: x5 :: x6 :: x7 :: x8 :: σ) H Q := k
theorem r_gName9 {x0 x1 x2 x3 x4 x5 x6 x7 x8 x9 : Option V} {Q : L2.St → Hp → Prop} (k : Q (x0 :: x1 :: x2 :: x3 :: x4 :: x5 :: x6 :: x7 :: x8 :: some v :: σ) H) : gName 9 v (x0 :: x1 :: x2 :: x3 :: x4 :: x5 :: x6 :: x7 :: x8 :: x9 :: σ) H Q := k
theorem r_gName10 {x0 x1 x2 x3 x4 x5 x6 x7 x8 x9 x10 : Option V} {Q : L2.St → Hp → Prop} (k : Q (x0 :: x1 :: x2 :: x3 :: x4 :: x5 :: x6 :: x7 :: x8 :: x9 :: some v :: σ) H) : gName 10 v (x0 :: x1 :: x2 :: x3 :: x4 :: x5 :: x6 :: x7 :: x8 :: x9 :: x10 :: σ) H Q := k
theorem r_gName11 {x0 x1 x2 x3 x4 x5 x6 x7 x8 x9 x10 x11 : Option V} {Q : L2.St → Hp → Prop} (k : Q (x0 :: x1 :: x2 :: x3 :: x4 :: x5 :: x6 :: x7 :: x8 :: x9 :: x10 :: some v :: σ) H) : gName 11 v (x0 :: x1 :: x2 :: x3 :: x4 :: x5 :: x6 :: x7 :: x8 :: x9 :: x10 :: x11 :: σ) H Q := k
theorem r_gName12 {x0 x1 x2 x3 x4 x5 x6 x7 x8 x9 x10 x11 x12 : Option V} {Q : L2.St → Hp → Prop} (k : Q (x0 :: x1 :: x2 :: x3 :: x4 :: x5 :: x6 :: x7 :: x8 :: x9 :: x10 :: x11 :: some v :: σ) H) : gName 12 v (x0 :: x1 :: x2 :: x3 :: x4 :: x5 :: x6 :: x7 :: x8 :: x9 :: x10 :: x11 :: x12 :: σ) H Q := k
theorem r_gName13 {x0 x1 x2 x3 x4 x5 x6 x7 x8 x9 x10 x11 x12 x13 : Option V} {Q : L2.St → Hp → Prop} (k : Q (x0 :: x1 :: x2 :: x3 :: x4 :: x5 :: x6 :: x7 :: x8 :: x9 :: x10 :: x11 :: x12 :: some v :: σ) H) : gName 13 v (x0 :: x1 :: x2 :: x3 :: x4 :: x5 :: x6 :: x7 :: x8 :: x9 :: x10 :: x11 :: x12 :: x13 :: σ) H Q := k
theorem r_gName14 {x0 x1 x2 x3 x4 x5 x6 x7 x8 x9 x10 x11 x12 x13 x14 : Option V} {Q : L2.St → Hp → Prop} (k : Q (x0 :: x1 :: x2 :: x3 :: x4 :: x5 :: x6 :: x7 :: x8 :: x9 :: x10 :: x11 :: x12 :: x13 :: some v :: σ) H) : gName 14 v (x0 :: x1 :: x2 :: x3 :: x4 :: x5 :: x6 :: x7 :: x8 :: x9 :: x10 :: x11 :: x12 :: x13 :: x14 :: σ) H Q := k
theorem r_gName15 {x0 x1 x2 x3 x4 x5 x6 x7 x8 x9 x10 x11 x12 x13 x14 x15 : Option V} {Q : L2.St → Hp → Prop} (k : Q (x0 :: x1 :: x2 :: x3 :: x4 :: x5 :: x6 :: x7 :: x8 :: x9 :: x10 :: x11 :: x12 :: x13 :: x14 :: some v :: σ) H) : gName 15 v (x0 :: x1 :: x2 :: x3 :: x4 :: x5 :: x6 :: x7 :: x8 :: x9 :: x10 :: x11 :: x12 :: x13 :: x14 :: x15 :: σ) H Q := k
theorem r_gName16 {x0 x1 x2 x3 x4 x5 x6 x7 x8 x9 x10 x11 x12 x13 x14 x15 x16 : Option V} {Q : L2.St → Hp → Prop} (k : Q (x0 :: x1 :: x2 :: x3 :: x4 :: x5 :: x6 :: x7 :: x8 :: x9 :: x10 :: x11 :: x12 :: x13 :: x14 :: x15 :: some v :: σ) H) : gName 16 v (x0 :: x1 :: x2 :: x3 :: x4 :: x5 :: x6 :: x7 :: x8 :: x9 :: x10 :: x11 :: x12 :: x13 :: x14 :: x15 :: x16 :: σ) H Q := k
theorem r_gName17 {x0 x1 x2 x3 x4 x5 x6 x7 x8 x9 x10 x11 x12 x13 x14 x15 x16 x17 : Option V} {Q : L2.St → Hp → Prop} (k : Q (x0 :: x1 :: x2 :: x3 :: x4 :: x5 :: x6 :: x7 :: x8 :: x9 :: x10 :: x11 :: x12 :: x13 :: x14 :: x15 :: x16 :: some v :: σ) H) : gName 17 v (x0 :: x1 :: x2 :: x3 :: x4 :: x5 :: x6 :: x7 :: x8 :: x9 :: x10 :: x11 :: x12 :: x13 :: x14 :: x15 :: x16 :: x17 :: σ) H Q := k
theorem r_gName18 {x0 x1 x2 x3 x4 x5 x6 x7 x8 x9 x10 x11 x12 x13 x14 x15 x16 x17 x18 : Option V} {Q : L2.St → Hp → Prop} (k : Q (x0 :: x1 :: x2 :: x3 :: x4 :: x5 :: x6 :: x7 :: x8 :: x9 :: x10 :: x11 :: x12 :: x13 :: x14 :: x15 :: x16 :: x17 :: some v :: σ) H) : gName 18 v (x0 :: x1 :: x2 :: x3 :: x4 :: x5 :: x6 :: x7 :: x8 :: x9 :: x10 :: x11 :: x12 :: x13 :: x14 :: x15 :: x16 :: x17 :: x18 :: σ) H Q := k
theorem r_gName19 {x0 x1 x2 x3 x4 x5 x6 x7 x8 x9 x10 x11 x12 x13 x14 x15 x16 x17 x18 x19 : Option V} {Q : L2.St → Hp → Prop} (k : Q (x0 :: x1 :: x2 :: x3 :: x4 :: x5 :: x6 :: x7 :: x8 :: x9 :: x10 :: x11 :: x12 :: x13 :: x14 :: x15 :: x16 :: x17 :: x18 :: some v :: σ) H) : gName 19 v (x0 :: x1 :: x2 :: x3 :: x4 :: x5 :: x6 :: x7 :: x8 :: x9 :: x10 :: x11 :: x12 :: x13 :: x14 :: x15 :: x16 :: x17 :: x18 :: x19 :: σ) H Q := k
theorem r_ret (k : te σ H D.rt) : tRet te D σ H := k
theorem r_retN (k : D.rt .non H) : tRetN D σ H := k
theorem r_drop (k : te σ H fun _ H1 => D.nx σ H1) : tDrop te D σ H := k
theorem r_ifS (k : t σ H fun b H1 => if b = true then ts D σ H1 else tr D σ H1) : tIfS t ts tr D σ H := k
theorem r_next (k : D.nx σ H) : tNext D σ H := k
theorem r_cont (k : D.ct σ H) : tCont D σ H := k
theorem r_break (k : D.bk σ H) : tBreak D σ H := k
theorem r_cb {r : List V → Hp → VK → Prop} (k : tas σ H fun vs H1 => r vs H1 Q) : tCB r tas σ H Q := k
theorem r_cons (k : ta σ H fun x H1 => tas σ H1 fun xs H2 => QA (x :: xs) H2) : tCons ta tas σ H QA := k
theorem r_nil (k : QA [] H) : tNil σ H QA := k
theorem r_call {sp : Sp} {dvs : List V} {E : XK} (k : tas σ H fun vs H1 => sp (vs ++ dvs) H1 Q E) : tCall sp dvs E tas σ H Q := k
theorem r_lst (k : tas σ H fun xs H1 => xs.length ≤ sizeLine ∧ ∀ p, H1 p = none → Q (.ref p) (upd H1 p (.lst xs))) : tLst tas σ H Q := k
theorem r_tup (k : tas σ H fun xs H1 => xs.length ≤ sizeLine ∧ ∀ p, H1 p = none → Q (.ref p) (upd H1 p (.tup xs))) : tTup tas σ H Q := k
theorem r_ixL {p : Addr} {xs : List V} {i : Int} (h : SqL K H p xs) (h2 : atI xs i = some v) (k : Q v H) : rIxL K (.ref p) (.int i) H Q := ⟨p, xs, i, v, rfl, rfl, h, h2, k⟩
theorem r_ixT {p : Addr} {xs : List V} {i : Int} (h : SqT K H p xs) (h2 : atI xs i = some v) (k : Q v H) : rIxT K (.ref p) (.int i) H Q := ⟨p, xs, i, v, rfl, rfl, h, h2, k⟩
theorem r_gSub {to ti : TE} {s : TSet} {Q : L2.St → Hp → Prop} (k : to σ H fun o H1 => ti σ H1 fun i H2 => s o i v H2 fun H3 => Q σ H3) : gSub to ti s v σ H Q := k
theorem r_setL {p : Addr} {xs : List V} {i : Int} {j : Nat} {Q : Hp → Prop} (h : H p = some (.lst xs)) (h2 : ixN xs.length i = some j) (k : Q (upd H p (.lst (xs.set j v)))) : rSetL (.ref p) (.int i) v H Q := ⟨p, xs, i, j, rfl, rfl, h, h2, k⟩
theorem r_setP0 {p : Addr} {x0 : V} {xs : List V} {Q : Hp → Prop} (h : H p = some (.lst (x0 :: xs))) (k : Q (upd H p (.lst (v :: xs)))) : rSetL (.ref p) (.int 0) v H Q := ⟨p, _, 0, 0, rfl, rfl, h, ixN_nn (j := 0) (by simp), k⟩
theorem r_setP1 {p : Addr} {x0 x1 : V} {xs : List V} {Q : Hp → Prop} (h : H p = some (.lst (x0 :: x1 :: xs))) (k : Q (upd H p (.lst (x0 :: v :: xs)))) : rSetL (.ref p) (.int 1) v H Q := ⟨p, _, 1, 1, rfl, rfl, h, ixN_nn (j := 1) (by simp), k⟩
theorem r_setP2 {p : Addr} {x0 x1 x2 : V} {xs : List V} {Q : Hp → Prop} (h : H p = some (.lst (x0 :: x1 :: x2 :: xs))) (k : Q (upd H p (.lst (x0 :: x1 :: v :: xs)))) : rSetL (.ref p) (.int 2) v H Q := ⟨p, _, 2, 2, rfl, rfl, h, ixN_nn (j := 2) (by simp), k⟩
theorem r_setP3 {p : Addr} {x0 x1 x2 x3 : V} {xs : List V} {Q : Hp → Prop} (h : H p = some (.lst (x0 :: x1 :: x2 :: x3 :: xs))) (k : Q (upd H p (.lst (x0 :: x1 :: x2 :: v :: xs)))) : rSetL (.ref p) (.int 3) v H Q := ⟨p, _, 3, 3, rfl, rfl, h, ixN_nn (j := 3) (by simp), k⟩
theorem r_cut (M : L2.St → Hp → Prop) (h : ts { D with nx := M } σ H) (k : ∀ σ' H', M σ' H' → tr D σ' H') : Evl.tCut ts tr D σ H := ⟨M, h, k⟩
theorem r_sl {r : V → Option Int → Option Int → Hp → VK → Prop} {tl th : TO} (k : te σ H fun x H1 => tl σ H1 fun l H2 => th σ H2 fun u H3 => r x l u H3 Q) : tSl r te tl th σ H Q := k
theorem r_ite {p : Prop} [Decidable p] {A B : Prop} (h1 : p → A) (h2 : ¬ p → B) : if decide p = true then A else B := by
  by_cases h : p
  · rw [if_pos (decide_eq_true h)]; exact h1 h
  · rw [if_neg (by rw [decide_eq_false h]; decide)]; exact h2 h
theorem r_iteN {p : Prop} [Decidable p] {A B : Prop} (h1 : ¬ p → A) (h2 : p → B) : if (!decide p) = true then A else B := by
  by_cases h : p
  · rw [if_neg (by rw [decide_eq_true h]; decide)]; exact h2 h
  · rw [if_pos (by rw [decide_eq_false h]; rfl)]; exact h1 h
theorem r_iteT {p : Prop} [Decidable p] {A B : Prop} (h : p) (k : A) : if decide p = true then A else B := by
  rw [if_pos (decide_eq_true h)]; exact k
theorem r_iteF {p : Prop} [Decidable p] {A B : Prop} (h : ¬ p) (k : B) : if decide p = true then A else B := by
  rw [if_neg (by rw [decide_eq_false h]; decide)]; exact k
theorem r_iteNT {p : Prop} [Decidable p] {A B : Prop} (h : ¬ p) (k : A) : if (!decide p) = true then A else B := by
  rw [if_pos (by rw [decide_eq_false h]; rfl)]; exact k
theorem r_iteNF {p : Prop} [Decidable p] {A B : Prop} (h : p) (k : B) : if (!decide p) = true then A else B := by
  rw [if_neg (by rw [decide_eq_true h]; decide)]; exact k
theorem r_iteb {b : Bool} {A B : Prop} (h1 : b = true → A) (h2 : b = false → B) : if b = true then A else B := by
  cases b with
  | true => rw [if_pos rfl]; exact h1 rfl
  | false => rw [if_neg (by decide)]; exact h2 rfl
theorem r_itebN {b : Bool} {A B : Prop} (h1 : b = false → A) (h2 : b = true → B) : if (!b) = true then A else B := by
  cases b with
  | true => exact (if_neg (by decide : ¬ (!true) = true)).mpr (h2 rfl)
  | false => exact (if_pos (by decide : (!false) = true)).mpr (h1 rfl)
theorem r_int1 {i : Int} {F : Int → Prop} {G : Bool → Prop} (k : F i) : (∃ j, [V.int i] = [.int j] ∧ F j) ∨ ∃ b, [V.int i] = [.bl b] ∧ G b := .inl ⟨i, rfl, k⟩
theorem r_intB {b : Bool} {F : Int → Prop} {G : Bool → Prop} (k : G b) : (∃ j, [V.bl b] = [.int j] ∧ F j) ∨ ∃ c, [V.bl b] = [.bl c] ∧ G c := .inr ⟨b, rfl, k⟩
theorem r_lenL {p : Addr} {xs : List V} {F : List V → Prop} (h : SqL K H p xs) (k : F xs) : ∃ q ys, [V.ref p] = [.ref q] ∧ (SqL K H q ys ∨ SqT K H q ys) ∧ F ys := ⟨p, xs, rfl, .inl h, k⟩
theorem r_lenT {p : Addr} {xs : List V} {F : List V → Prop} (h : SqT K H p xs) (k : F xs) : ∃ q ys, [V.ref p] = [.ref q] ∧ (SqL K H q ys ∨ SqT K H q ys) ∧ F ys := ⟨p, xs, rfl, .inr h, k⟩
theorem abs_if {i : Int} : (if i < 0 then -i else i) = (i.natAbs : Int) := by split <;> omega
theorem max_if {i j : Int} : (if j > i then j else i) = max i j := by split <;> omega
theorem r_in1 {i : Int} {F : Int → Prop} (k : F i) : ∃ j, [V.int i] = [.int j] ∧ F j := ⟨i, rfl, k⟩
theorem r_in2 {i j : Int} {F : Int → Int → Prop} (k : F i j) : ∃ a b, [V.int i, V.int j] = [.int a, .int b] ∧ F a b := ⟨i, j, rfl, k⟩
theorem r_isi {x : V} {T : String} {b : Bool} {ty : String} (ty1 : TyX K H x (.type ty)) (h : kitB ty T = some b) (k : Q (.bl b) H) : rIsi K [x, .ty T] H Q :=
  ⟨x, .ty T, .type ty, .type T, b, rfl, .ty T, ty1, kit_ty h, k⟩
end
/-! ### loops -/
def ForR1 (G : TG) (ts : TS) (D : Ends) (σ : L2.St) (vs : List V) (H : Hp) : Prop := ∃ j : Int, vs = [.int j] ∧ -(2 ^ 62) ≤ j ∧ j < 2 ^ 62 ∧ ∃ W : Nat → Nat → L2.St → Hp → Prop, (∃ m, W 0 m σ H) ∧ ∀ i m σ H, W i m σ H →
  ((Itr 0 j.toNat).stop i H ∧ D.nx σ H) ∨ ((Itr 0 j.toNat).go i H ∧ ∃ N : L2.St → Hp → Prop, (∀ σ' H', N σ' H' → ∃ m', m' < m ∧ W (i + 1) m' σ' H') ∧ ∀ x H', (Itr 0 j.toNat).yld i H x H' → G x σ H' fun σ2 H2 => ts { D with nx := N, ct := N, bk := D.nx } σ2 H2)
def ForR2 (G : TG) (ts : TS) (D : Ends) (σ : L2.St) (vs : List V) (H : Hp) : Prop := ∃ i j : Int, vs = [.int i, .int j] ∧ (-(2 ^ 62) ≤ i ∧ i < 2 ^ 62 ∧ -(2 ^ 62) ≤ j ∧ j < 2 ^ 62) ∧ ∃ W : Nat → Nat → L2.St → Hp → Prop, (∃ m, W 0 m σ H) ∧ ∀ k m σ H, W k m σ H →
  ((Itr i (j - i).toNat).stop k H ∧ D.nx σ H) ∨ ((Itr i (j - i).toNat).go k H ∧ ∃ N : L2.St → Hp → Prop, (∀ σ' H', N σ' H' → ∃ m', m' < m ∧ W (k + 1) m' σ' H') ∧ ∀ x H', (Itr i (j - i).toNat).yld k H x H' → G x σ H' fun σ2 H2 => ts { D with nx := N, ct := N, bk := D.nx } σ2 H2)
def ForL (K : PySem.W.Frag) (G : TG) (ts : TS) (D : Ends) (σ : L2.St) (v : V) (H : Hp) : Prop := ∃ a, v = .ref a ∧ (∃ xs, SqL K H a xs) ∧ ∃ W : Nat → Nat → L2.St → Hp → Prop, (∃ m, W 0 m σ H) ∧ ∀ i m σ H, W i m σ H →
  ((Itl K a).stop i H ∧ D.nx σ H) ∨ ((Itl K a).go i H ∧ ∃ N : L2.St → Hp → Prop, (∀ σ' H', N σ' H' → ∃ m', m' < m ∧ W (i + 1) m' σ' H') ∧ ∀ x H', (Itl K a).yld i H x H' → G x σ H' fun σ2 H2 => ts { D with nx := N, ct := N, bk := D.nx } σ2 H2)
def ForT (K : PySem.W.Frag) (G : TG) (ts : TS) (D : Ends) (σ : L2.St) (v : V) (H : Hp) : Prop := ∃ a, v = .ref a ∧ (∃ xs, SqT K H a xs) ∧ ∃ W : Nat → Nat → L2.St → Hp → Prop, (∃ m, W 0 m σ H) ∧ ∀ i m σ H, W i m σ H →
  ((Itt K a).stop i H ∧ D.nx σ H) ∨ ((Itt K a).go i H ∧ ∃ N : L2.St → Hp → Prop, (∀ σ' H', N σ' H' → ∃ m', m' < m ∧ W (i + 1) m' σ' H') ∧ ∀ x H', (Itt K a).yld i H x H' → G x σ H' fun σ2 H2 => ts { D with nx := N, ct := N, bk := D.nx } σ2 H2)
section
variable {K : PySem.W.Frag} {σ : L2.St} {H : Hp} {Q : VK} {D : Ends} {te tl : TE} {tt c : TT} {ts : TS} {G : TG} {tas : TA} {v : V} {vs : List Nat}
theorem r_forR1 (k : tas σ H fun vs H1 => ForR1 G ts D σ vs H1) : tFor (iRng1 tas) G ts D σ H := k
theorem r_forR2 (k : tas σ H fun vs H1 => ForR2 G ts D σ vs H1) : tFor (iRng2 tas) G ts D σ H := k
theorem r_forL (k : tl σ H fun x H1 => ForL K G ts D σ x H1) : tFor (iList K tl) G ts D σ H := k
theorem r_forT (k : tl σ H fun x H1 => ForT K G ts D σ x H1) : tFor (iTup K tl) G ts D σ H := k
theorem forR1_go {j : Int} (Pv : Nat → L2.St → Hp → Prop) (hb : -(2 ^ 62) ≤ j ∧ j < 2 ^ 62) (h0 : Pv 0 σ H)
    (hs : ∀ (i : Nat) σ' H', (i : Int) < j → Pv i σ' H' → G (.int i) σ' H' fun σ2 H2 => ts { D with nx := Pv (i + 1), ct := Pv (i + 1), bk := D.nx } σ2 H2) (hd : ∀ σ' H', Pv j.toNat σ' H' → D.nx σ' H') : ForR1 G ts D σ [.int j] H :=
  ⟨j, rfl, hb.1, hb.2, for_range (lo := 0) Pv h0 (fun i σ' H' hi p => by rw [Int.zero_add]; exact hs i σ' H' (by omega) p) hd⟩
theorem forR2_go {i j : Int} (Pv : Nat → L2.St → Hp → Prop) (hb : -(2 ^ 62) ≤ i ∧ i < 2 ^ 62 ∧ -(2 ^ 62) ≤ j ∧ j < 2 ^ 62) (h0 : Pv 0 σ H)
    (hs : ∀ (k : Nat) σ' H', i + (k : Int) < j → Pv k σ' H' → G (.int (i + k)) σ' H' fun σ2 H2 => ts { D with nx := Pv (k + 1), ct := Pv (k + 1), bk := D.nx } σ2 H2) (hd : ∀ σ' H', Pv (j - i).toNat σ' H' → D.nx σ' H') : ForR2 G ts D σ [.int i, .int j] H :=
  ⟨i, j, rfl, hb, for_range (lo := i) Pv h0 (fun k σ' H' hi p => hs k σ' H' (by omega) p) hd⟩
theorem forL_go {a : Addr} {xs : List V} (Pv : Nat → L2.St → Hp → Prop) (hx : SqL K H a xs) (h0 : Pv 0 σ H) (hl : ∀ i σ' H', i ≤ xs.length → Pv i σ' H' → SqL K H' a xs)
    (hs : ∀ i x σ' H', xs[i]? = some x → Pv i σ' H' → G x σ' H' fun σ2 H2 => ts { D with nx := Pv (i + 1), ct := Pv (i + 1), bk := D.nx } σ2 H2) (hd : ∀ σ' H', Pv xs.length σ' H' → D.nx σ' H') : ForL K G ts D σ (.ref a) H :=
  ⟨a, rfl, ⟨xs, hx⟩, for_list Pv h0 hl hs hd⟩
theorem forT_go {a : Addr} {xs : List V} (Pv : Nat → L2.St → Hp → Prop) (hx : SqT K H a xs) (h0 : Pv 0 σ H) (hl : ∀ i σ' H', i ≤ xs.length → Pv i σ' H' → SqT K H' a xs)
    (hs : ∀ i x σ' H', xs[i]? = some x → Pv i σ' H' → G x σ' H' fun σ2 H2 => ts { D with nx := Pv (i + 1), ct := Pv (i + 1), bk := D.nx } σ2 H2) (hd : ∀ σ' H', Pv xs.length σ' H' → D.nx σ' H') : ForT K G ts D σ (.ref a) H :=
  ⟨a, rfl, ⟨xs, hx⟩, for_tup Pv h0 hl hs hd⟩
theorem r_while (W : Nat → L2.St → Hp → Prop) {m0 : Nat} (h0 : W m0 σ H)
    (hs : ∀ m σ' H', W m σ' H' → c σ' H' fun b H1 => if b = true then ∃ N : L2.St → Hp → Prop, (∀ σ2 H2, N σ2 H2 → ∃ m', m' < m ∧ W m' σ2 H2) ∧ ts { D with nx := N, ct := N, bk := D.nx } σ' H1 else D.nx σ' H1) : tWhile c ts D σ H := ⟨W, ⟨m0, h0⟩, hs⟩
theorem r_turn {B : L2.St → Hp → Prop} {R : VK} {Bk : L2.St → Hp → Prop} (k : ts { nx := B, rt := R, bk := Bk, ct := B } σ H) :
    ∃ N : L2.St → Hp → Prop, (∀ σ2 H2, N σ2 H2 → B σ2 H2) ∧ ts { nx := N, rt := R, bk := Bk, ct := N } σ H := ⟨_, fun _ _ h => h, k⟩
end
/-! ### comprehensions -/
section
variable {K : PySem.W.Frag} {σ : L2.St} {H : Hp} {Q : VK} {te tl : TE} {tt : TT} {G : TG} {tas : TA} {v : V} {vs : List Nat} {QB : Bool → Hp → Prop}
def CompW (J : It) (G : TG) (tt : TT) (te : TE) (vs : List Nat) (σ : L2.St) (Q : VK) (H1 : Hp) : Prop := ∀ D, H1 D = none → ∃ W : Nat → Nat → Hp → Prop, (∃ m, W 0 m (upd H1 D (.lst []))) ∧ ∀ i m H, W i m H → (J.stop i H ∧ Q (.ref D) H) ∨ (J.go i H ∧ ∃ Nx : Hp → Prop, (∀ H', Nx H' → ∃ m', m' < m ∧ W (i + 1) m' H') ∧
  ∀ x H', J.yld i H x H' → G x (wipe σ vs) H' fun σ2 H2 => wipe σ2 vs = wipe σ vs ∧ tt σ2 H2 fun b H3 => if b = true then te σ2 H3 fun y H4 => ∃ acc, H4 D = some (.lst acc) ∧ acc.length < sizeLine ∧ Nx (upd H4 D (.lst (acc ++ [y]))) else Nx H3)
def CompR1 (G : TG) (tt : TT) (te : TE) (vs : List Nat) (σ : L2.St) (Q : VK) (us : List V) (H1 : Hp) : Prop := ∃ j : Int, us = [.int j] ∧ -(2 ^ 62) ≤ j ∧ j < 2 ^ 62 ∧ CompW (Itr 0 j.toNat) G tt te vs σ Q H1
def CompL (K : PySem.W.Frag) (G : TG) (tt : TT) (te : TE) (vs : List Nat) (σ : L2.St) (Q : VK) (x : V) (H1 : Hp) : Prop := ∃ a, x = .ref a ∧ (∃ xs, SqL K H1 a xs) ∧ CompW (Itl K a) G tt te vs σ Q H1
def CompT (K : PySem.W.Frag) (G : TG) (tt : TT) (te : TE) (vs : List Nat) (σ : L2.St) (Q : VK) (x : V) (H1 : Hp) : Prop := ∃ a, x = .ref a ∧ (∃ xs, SqT K H1 a xs) ∧ CompW (Itt K a) G tt te vs σ Q H1
theorem r_lcR1 (k : tas σ H fun us H1 => CompR1 G tt te vs σ Q us H1) : tLc (iRng1 tas) G tt te vs σ H Q := k
theorem r_lcL (k : tl σ H fun x H1 => CompL K G tt te vs σ Q x H1) : tLc (iList K tl) G tt te vs σ H Q := k
theorem r_lcT (k : tl σ H fun x H1 => CompT K G tt te vs σ Q x H1) : tLc (iTup K tl) G tt te vs σ H Q := k
theorem r_wipe {σ2 : L2.St} {R : Prop} (h : wipe σ2 vs = wipe σ vs) (k : R) : wipe σ2 vs = wipe σ vs ∧ R := ⟨h, k⟩
theorem r_gNameW {i : Nat} {σ' : L2.St} {Q : L2.St → Hp → Prop} (h : wipe σ vs = σ') (k : gName i v σ' H Q) : gName i v (wipe σ vs) H Q := by rw [h]; exact k
theorem r_yes (k : QB true H) : tYes σ H QB := k
/-- the reading of one item, told with the list so far: P of the turn's number, the items made, the heap -/
def CompTurn (G : TG) (tt : TT) (te : TE) (vs : List Nat) (σ : L2.St) (D : Addr) (Nx : List V → Hp → Prop) (acc : List V) (x : V) (H : Hp) : Prop :=
  G x (wipe σ vs) H fun σ2 H2 => wipe σ2 vs = wipe σ vs ∧ tt σ2 H2 fun b H3 => if b = true then te σ2 H3 fun y H4 => H4 D = some (.lst acc) ∧ acc.length < sizeLine ∧ Nx (acc ++ [y]) (upd H4 D (.lst (acc ++ [y]))) else Nx acc H3
theorem lcR1_go {j : Int} (Pv : Addr → Nat → List V → Hp → Prop) (hb : -(2 ^ 62) ≤ j ∧ j < 2 ^ 62) (h0 : ∀ D, H D = none → Pv D 0 [] (upd H D (.lst [])))
    (hs : ∀ D (i : Nat) acc H', (i : Int) < j → H' D = some (.lst acc) → Pv D i acc H' → G (.int i) (wipe σ vs) H' fun σ2 H2 => wipe σ2 vs = wipe σ vs ∧ tt σ2 H2 fun b H3 =>
      if b = true then te σ2 H3 fun y H4 => ∃ acc, H4 D = some (.lst acc) ∧ acc.length < sizeLine ∧ (∃ ac, (upd H4 D (.lst (acc ++ [y]))) D = some (.lst ac) ∧ Pv D (i + 1) ac (upd H4 D (.lst (acc ++ [y])))) else ∃ ac, H3 D = some (.lst ac) ∧ Pv D (i + 1) ac H3)
    (hd : ∀ D acc H', H D = none → H' D = some (.lst acc) → Pv D j.toNat acc H' → Q (.ref D) H') : CompR1 G tt te vs σ Q [.int j] H :=
  ⟨j, rfl, hb.1, hb.2, fun D hD => lc_range (lo := 0) (fun i H' => ∃ acc, H' D = some (.lst acc) ∧ Pv D i acc H') ⟨[], upd_same, h0 D hD⟩ (fun i H' hi ⟨acc, ha, p⟩ => by rw [Int.zero_add]; exact hs D i acc H' (by omega) ha p) fun H' ⟨acc, ha, p⟩ => hd D acc H' hD ha p⟩
theorem lcL_go {a : Addr} {xs : List V} (Pv : Addr → Nat → List V → Hp → Prop) (hx : SqL K H a xs) (h0 : ∀ D, H D = none → Pv D 0 [] (upd H D (.lst []))) (hl : ∀ D i acc H', i ≤ xs.length → Pv D i acc H' → SqL K H' a xs)
    (hs : ∀ D (i : Nat) x acc H', xs[i]? = some x → H' D = some (.lst acc) → Pv D i acc H' → G x (wipe σ vs) H' fun σ2 H2 => wipe σ2 vs = wipe σ vs ∧ tt σ2 H2 fun b H3 =>
      if b = true then te σ2 H3 fun y H4 => ∃ acc, H4 D = some (.lst acc) ∧ acc.length < sizeLine ∧ (∃ ac, (upd H4 D (.lst (acc ++ [y]))) D = some (.lst ac) ∧ Pv D (i + 1) ac (upd H4 D (.lst (acc ++ [y])))) else ∃ ac, H3 D = some (.lst ac) ∧ Pv D (i + 1) ac H3)
    (hd : ∀ D acc H', H D = none → H' D = some (.lst acc) → Pv D xs.length acc H' → Q (.ref D) H') : CompL K G tt te vs σ Q (.ref a) H :=
  ⟨a, rfl, ⟨xs, hx⟩, fun D hD => lc_list (xs := xs) (fun i H' => ∃ acc, H' D = some (.lst acc) ∧ Pv D i acc H') ⟨[], upd_same, h0 D hD⟩ (fun i H' hi ⟨acc, ha, p⟩ => hl D i acc H' hi p) (fun i x H' hi ⟨acc, ha, p⟩ => hs D i x acc H' hi ha p) fun H' ⟨acc, ha, p⟩ => hd D acc H' hD ha p⟩
theorem lcT_go {a : Addr} {xs : List V} (Pv : Addr → Nat → List V → Hp → Prop) (hx : SqT K H a xs) (h0 : ∀ D, H D = none → Pv D 0 [] (upd H D (.lst []))) (hl : ∀ D i acc H', i ≤ xs.length → Pv D i acc H' → SqT K H' a xs)
    (hs : ∀ D (i : Nat) x acc H', xs[i]? = some x → H' D = some (.lst acc) → Pv D i acc H' → G x (wipe σ vs) H' fun σ2 H2 => wipe σ2 vs = wipe σ vs ∧ tt σ2 H2 fun b H3 =>
      if b = true then te σ2 H3 fun y H4 => ∃ acc, H4 D = some (.lst acc) ∧ acc.length < sizeLine ∧ (∃ ac, (upd H4 D (.lst (acc ++ [y]))) D = some (.lst ac) ∧ Pv D (i + 1) ac (upd H4 D (.lst (acc ++ [y])))) else ∃ ac, H3 D = some (.lst ac) ∧ Pv D (i + 1) ac H3)
    (hd : ∀ D acc H', H D = none → H' D = some (.lst acc) → Pv D xs.length acc H' → Q (.ref D) H') : CompT K G tt te vs σ Q (.ref a) H :=
  ⟨a, rfl, ⟨xs, hx⟩, fun D hD => lc_tup (xs := xs) (fun i H' => ∃ acc, H' D = some (.lst acc) ∧ Pv D i acc H') ⟨[], upd_same, h0 D hD⟩ (fun i H' hi ⟨acc, ha, p⟩ => hl D i acc H' hi p) (fun i x H' hi ⟨acc, ha, p⟩ => hs D i x acc H' hi ha p) fun H' ⟨acc, ha, p⟩ => hd D acc H' hD ha p⟩
/-- an item is kept: behind te, the list is known -/
theorem lc_put {D : Addr} {acc : List V} {y : V} {P : List V → List V → Prop} {H4 : Hp} (h : H4 D = some (.lst acc)) (hz : acc.length < sizeLine) (k : P acc (acc ++ [y])) :
    ∃ acc, H4 D = some (.lst acc) ∧ acc.length < sizeLine ∧ (∃ ac, (upd H4 D (.lst (acc ++ [y]))) D = some (.lst ac) ∧ P acc ac) := ⟨acc, h, hz, _, upd_same, k⟩
end
/-! ### lists, displays -/
section
variable {K : PySem.W.Frag} {H : Hp} {Q : VK}
theorem Keep.out {M : List Addr} {H H' : Hp} {a : Addr} {o : HO} (h : Keep M H H') (n : a ∉ M) (e : H a = some o) : H' a = some o := h a o n e
theorem getD_all {p : Int → Prop} {P : List Int} {i : Nat} (h : ∀ x ∈ P, p x) (hi : i < P.length) : p (P.getD i 0) := by
  rw [List.getD_eq_getElem?_getD, List.getElem?_eq_getElem hi]; exact h _ (List.getElem_mem hi)
theorem r_slL {a : Addr} {xs : List V} {lo hi : Option Int} (h : SqL K H a xs) (k : ∀ p, H p = none → Q (.ref p) (upd H p (.lst (cutV xs lo hi)))) : rSlL K (.ref a) lo hi H Q := ⟨a, xs, rfl, h, k⟩
theorem r_cat {l b : Addr} {xs zs : List V} (h : H l = some (.lst xs)) (h2 : H b = some (.lst zs)) (hz : xs.length + zs.length ≤ sizeLine) (k : ∀ p, H p = none → Q (.ref p) (upd H p (.lst (xs ++ zs)))) : rCat (.ref l) (.ref b) H Q :=
  ⟨l, b, xs, zs, rfl, rfl, h, h2, hz, k⟩
theorem r_listL {p : Addr} {xs : List V} {F : List V → Prop} (h : SqL K H p xs) (k : F xs) : ∃ q ys, [V.ref p] = [.ref q] ∧ (SqL K H q ys ∨ SqT K H q ys) ∧ F ys := ⟨p, xs, rfl, .inl h, k⟩
theorem r_tPart {te : TE} {σ : L2.St} {QO : Option Int → Hp → Prop} (k : te σ H fun v H1 => ∃ i, v = .int i ∧ QO (some i) H1) : tPart te σ H QO := k
theorem r_noPart {σ : L2.St} {QO : Option Int → Hp → Prop} (k : QO none H) : tNoPart σ H QO := k
theorem r_gcd {a b : Int} (k : Q (.int ((Nat.gcd a.natAbs b.natAbs : Nat) : Int)) H) : rGcd [.int a, .int b] H Q := ⟨a, b, rfl, k⟩
theorem r_iteNT1 {A B : Prop} (k : B) : if (!true) = true then A else B := by rw [if_neg (by decide)]; exact k
theorem r_iteNF1 {A B : Prop} (k : A) : if (!false) = true then A else B := by rw [if_pos (by decide)]; exact k
theorem kit_ii : kitB "int" "int" = some true := by decide +kernel
theorem kit_ib : kitB "int" "bool" = some false := by decide +kernel
theorem kit_bi : kitB "bool" "int" = some true := by decide +kernel
theorem kit_bb : kitB "bool" "bool" = some true := by decide +kernel
theorem kit_tt : kitB "tuple" "tuple" = some true := by decide +kernel
theorem kit_ss : kitB "str" "str" = some true := by decide +kernel
theorem kit_ll : kitB "list" "list" = some true := by decide +kernel
theorem kit_dd : kitB "dict" "dict" = some true := by decide +kernel
theorem kit_nt : kitB "NoneType" "tuple" = some false := by decide +kernel
theorem kit_ni : kitB "NoneType" "int" = some false := by decide +kernel
theorem kit_is : kitB "int" "str" = some false := by decide +kernel
theorem kit_si : kitB "str" "int" = some false := by decide +kernel
theorem kit_it : kitB "int" "tuple" = some false := by decide +kernel
theorem mulw {i j : Int} (a b : Nat) (ha : i.natAbs < 2 ^ a) (hb : j.natAbs < 2 ^ b) (h0 : 0 < a := by decide) (h1 : 0 < b := by decide) (h : a + b ≤ 1000000 := by decide) : CMul i j ∨ CMulW i j := .inr (wide_mul ha hb h0 h1 h)
theorem r_callSD {sp : Sp} {dvs : List V} {E : L2.St → XK} {tas : TA} {σ : L2.St} (k : tas σ H fun vs H1 => sp (vs ++ dvs) H1 Q (E σ)) : tCallSD sp dvs E tas σ H Q := k
theorem exm_ZD {K : PySem.W.Frag} : PySem.W.exmOne K (.type "ZeroDivisionError") (.type "ZeroDivisionError") = some true := by kernel_rfl
theorem r_exI {i : Int} {F : Int → Prop} (k : F i) : ∃ j, V.int i = .int j ∧ F j := ⟨i, rfl, k⟩
end
theorem start_cc {n : Str} {N : List Str} {v : V} {vs : List V} : L2.start (n :: N) (v :: vs) = some v :: L2.start N vs := by
  unfold L2.start
  rw [List.map_cons, List.length_cons, List.length_cons, Nat.add_sub_add_right, List.cons_append]
theorem start_cn {n : Str} {N : List Str} : L2.start (n :: N) [] = none :: L2.start N [] := rfl
theorem start_nn : L2.start [] [] = [] := rfl
theorem atI_map {P : List Int} {i : Int} (h0 : 0 ≤ i) (h1 : i < P.length) : atI (P.map V.int) i = some (.int (P.getD i.toNat 0)) := by
  obtain ⟨n, rfl⟩ : ∃ n : Nat, i = n := ⟨i.toNat, by omega⟩
  refine atI_nat ?_
  have h2 : n < P.length := by omega
  rw [List.getElem?_map, List.getElem?_eq_getElem h2, Int.toNat_natCast, List.getD_eq_getElem?_getD, List.getElem?_eq_getElem h2]; rfl
theorem ixN_of {n : Nat} {i : Int} (h0 : 0 ≤ i) (h1 : i < n) : ixN n i = some i.toNat := by
  unfold ixN; rw [if_pos h0, if_pos h1]
/-- sizes of ints -/
theorem log2_of {i : Int} {n : Nat} (h : i.natAbs < 2 ^ n) (h0 : 0 < n) : i.natAbs.log2 < n := PySem.Flt.log2_lt_of h0 h
theorem log_ok {j : Int} (n : Nat) (h : j.natAbs < 2 ^ n) (h0 : 0 < n := by decide) (h9 : n ≤ 9000 := by decide) : j.natAbs.log2 < 9000 := Nat.lt_of_lt_of_le (log2_of h h0) h9
theorem cmulw {i j : Int} (a b : Nat) (ha : i.natAbs < 2 ^ a) (hb : j.natAbs < 2 ^ b) (h0 : 0 < a := by decide) (h1 : 0 < b := by decide) (h : a + b ≤ 1000000 := by decide) : CMulW i j := wide_mul ha hb h0 h1 h
def topS (i : Nat) : Stmt := PySem.Challenge.pw_metehouse_k00_ratios.main.body.getD i (.Pass ⟨0, 0, 0, 0⟩)
abbrev s_common : Stmt := topS 2
theorem sc_common : FnScope ["numbers", "found", "number"] ["numbers"] (defScope s_common) := ⟨rfl, rfl, rfl, by decide +kernel, rfl, by decide +kernel, by decide +kernel⟩
abbrev s_ratio : Stmt := topS 3
theorem sc_ratio : FnScope ["top", "bottom", "divisor"] ["top", "bottom"] (defScope s_ratio) := ⟨rfl, rfl, rfl, by decide +kernel, rfl, by decide +kernel, by decide +kernel⟩
abbrev s_compare : Stmt := topS 4
theorem sc_compare : FnScope ["first", "second", "left", "right"] ["first", "second"] (defScope s_compare) := ⟨rfl, rfl, rfl, by decide +kernel, rfl, by decide +kernel, by decide +kernel⟩
abbrev s_plus : Stmt := topS 5
theorem sc_plus : FnScope ["first", "second"] ["first", "second"] (defScope s_plus) := ⟨rfl, rfl, rfl, by decide +kernel, rfl, by decide +kernel, by decide +kernel⟩
abbrev s_times : Stmt := topS 6
theorem sc_times : FnScope ["first", "second"] ["first", "second"] (defScope s_times) := ⟨rfl, rfl, rfl, by decide +kernel, rfl, by decide +kernel, by decide +kernel⟩
abbrev s_w_pot : Stmt := topS 8
theorem sc_w_pot : FnScope ["_law_script"] ["_law_script"] (defScope s_w_pot) := ⟨rfl, rfl, rfl, by decide +kernel, rfl, by decide +kernel, by decide +kernel⟩
abbrev s_w_take : Stmt := topS 9
theorem sc_w_take : FnScope ["_law_pot_here", "_law_size", "_law_cell", "_law_mixed"] ["_law_pot_here", "_law_size"] (defScope s_w_take) := ⟨rfl, rfl, rfl, by decide +kernel, rfl, by decide +kernel, by decide +kernel⟩
abbrev s_w_whole : Stmt := topS 10
theorem sc_w_whole : FnScope ["_law_found"] ["_law_found"] (defScope s_w_whole) := ⟨rfl, rfl, rfl, by decide +kernel, rfl, by decide +kernel, by decide +kernel⟩
abbrev s_w_number : Stmt := topS 11
theorem sc_w_number : FnScope ["_law_pot_here", "_law_way", "_law_sign_here", "_law_edge", "_law_large"] ["_law_pot_here"] (defScope s_w_number) := ⟨rfl, rfl, rfl, by decide +kernel, rfl, by decide +kernel, by decide +kernel⟩
abbrev s_w_short : Stmt := topS 12
theorem sc_w_short : FnScope ["_law_pot_here", "_law_sign_here"] ["_law_pot_here"] (defScope s_w_short) := ⟨rfl, rfl, rfl, by decide +kernel, rfl, by decide +kernel, by decide +kernel⟩
abbrev s_w_row : Stmt := topS 13
theorem sc_w_row : FnScope ["_law_pot_here", "_law_many", "_law_k", "_law_factor"] ["_law_pot_here", "_law_many"] (defScope s_w_row) := ⟨rfl, rfl, rfl, by decide +kernel, rfl, by decide +kernel, by decide +kernel⟩
abbrev s_w_gcd : Stmt := topS 14
theorem sc_w_gcd : FnScope ["_law_first", "_law_second", "_law_rest"] ["_law_first", "_law_second"] (defScope s_w_gcd) := ⟨rfl, rfl, rfl, by decide +kernel, rfl, by decide +kernel, by decide +kernel⟩
abbrev s_w_lowest : Stmt := topS 15
theorem sc_w_lowest : FnScope ["_law_top", "_law_bottom", "_law_part"] ["_law_top", "_law_bottom"] (defScope s_w_lowest) := ⟨rfl, rfl, rfl, by decide +kernel, rfl, by decide +kernel, by decide +kernel⟩
abbrev s_w_pair_is : Stmt := topS 16
theorem sc_w_pair_is : FnScope ["_law_found", "_law_pair"] ["_law_found", "_law_pair"] (defScope s_w_pair_is) := ⟨rfl, rfl, rfl, by decide +kernel, rfl, by decide +kernel, by decide +kernel⟩
abbrev s_w_common : Stmt := topS 17
theorem sc_w_common : FnScope ["_law_row_here"] ["_law_row_here"] (defScope s_w_common) := ⟨rfl, rfl, rfl, by decide +kernel, rfl, by decide +kernel, by decide +kernel⟩
abbrev s_w_common_right : Stmt := topS 18
theorem sc_w_common_right : FnScope ["_law_pot_here", "_law_row_here", "_law_due", "_law_number_here", "_law_found"] ["_law_pot_here"] (defScope s_w_common_right) := ⟨rfl, rfl, rfl, by decide +kernel, rfl, by decide +kernel, by decide +kernel⟩
abbrev s_w_refused : Stmt := topS 19
theorem sc_w_refused : FnScope ["_law_top"] ["_law_top"] (defScope s_w_refused) := ⟨rfl, rfl, rfl, by decide +kernel, rfl, by decide +kernel, by decide +kernel⟩
abbrev s_w_ratio_right : Stmt := topS 20
theorem sc_w_ratio_right : FnScope ["_law_pot_here", "_law_row_here"] ["_law_pot_here"] (defScope s_w_ratio_right) := ⟨rfl, rfl, rfl, by decide +kernel, rfl, by decide +kernel, by decide +kernel⟩
abbrev s_w_two_ratios : Stmt := topS 21
theorem sc_w_two_ratios : FnScope ["_law_pot_here", "_law_first", "_law_times_as_fine", "_law_top"] ["_law_pot_here"] (defScope s_w_two_ratios) := ⟨rfl, rfl, rfl, by decide +kernel, rfl, by decide +kernel, by decide +kernel⟩
abbrev s_w_sign : Stmt := topS 22
theorem sc_w_sign : FnScope ["_law_number_here"] ["_law_number_here"] (defScope s_w_sign) := ⟨rfl, rfl, rfl, by decide +kernel, rfl, by decide +kernel, by decide +kernel⟩
abbrev s_w_two_right : Stmt := topS 23
theorem sc_w_two_right : FnScope ["_law_first", "_law_second", "_law_due", "_law_found", "_law_top"] ["_law_first", "_law_second"] (defScope s_w_two_right) := ⟨rfl, rfl, rfl, by decide +kernel, rfl, by decide +kernel, by decide +kernel⟩
abbrev s_law : Stmt := topS 24
theorem sc_law : FnScope ["_law_script", "_law_pot_here", "_law_pair", "_law_negative"] ["_law_script"] (defScope s_law) := ⟨rfl, rfl, rfl, by decide +kernel, rfl, by decide +kernel, by decide +kernel⟩
/-- what the top has written -/
structure Tx (K : PySem.W.Frag) (mg : Str → Option Value) : Type where
  f_common : Addr
  fd_common : FuncData
  F_common : Fun K "common" "common" s_common f_common fd_common
  g_common : mg "common" = some (.ref f_common)
  f_ratio : Addr
  fd_ratio : FuncData
  F_ratio : FunD K "ratio" "ratio" (defArgs s_ratio) (defBody s_ratio) (defScope s_ratio) [V.int (1)] [] f_ratio fd_ratio
  g_ratio : mg "ratio" = some (.ref f_ratio)
  b1_ratio : ∃ ds, Vals (List.drop 0 [V.int (1)]) ds ∧ Binds K fd_ratio ["top", "bottom"] ds
  b2_ratio : ∃ ds, Vals (List.drop 1 [V.int (1)]) ds ∧ Binds K fd_ratio ["top", "bottom"] ds
  f_compare : Addr
  fd_compare : FuncData
  F_compare : Fun K "compare" "compare" s_compare f_compare fd_compare
  g_compare : mg "compare" = some (.ref f_compare)
  b_compare : Binds K fd_compare ["first", "second"] []
  f_plus : Addr
  fd_plus : FuncData
  F_plus : Fun K "plus" "plus" s_plus f_plus fd_plus
  g_plus : mg "plus" = some (.ref f_plus)
  b_plus : Binds K fd_plus ["first", "second"] []
  f_times : Addr
  fd_times : FuncData
  F_times : Fun K "times" "times" s_times f_times fd_times
  g_times : mg "times" = some (.ref f_times)
  b_times : Binds K fd_times ["first", "second"] []
  f_w_pot : Addr
  fd_w_pot : FuncData
  F_w_pot : Fun K "_law_pot" "_law_pot" s_w_pot f_w_pot fd_w_pot
  g_w_pot : mg "_law_pot" = some (.ref f_w_pot)
  b_w_pot : Binds K fd_w_pot ["_law_script"] []
  f_w_take : Addr
  fd_w_take : FuncData
  F_w_take : Fun K "_law_take" "_law_take" s_w_take f_w_take fd_w_take
  g_w_take : mg "_law_take" = some (.ref f_w_take)
  b_w_take : Binds K fd_w_take ["_law_pot_here", "_law_size"] []
  f_w_whole : Addr
  fd_w_whole : FuncData
  F_w_whole : Fun K "_law_whole" "_law_whole" s_w_whole f_w_whole fd_w_whole
  g_w_whole : mg "_law_whole" = some (.ref f_w_whole)
  b_w_whole : Binds K fd_w_whole ["_law_found"] []
  f_w_number : Addr
  fd_w_number : FuncData
  F_w_number : Fun K "_law_number" "_law_number" s_w_number f_w_number fd_w_number
  g_w_number : mg "_law_number" = some (.ref f_w_number)
  b_w_number : Binds K fd_w_number ["_law_pot_here"] []
  f_w_short : Addr
  fd_w_short : FuncData
  F_w_short : Fun K "_law_short" "_law_short" s_w_short f_w_short fd_w_short
  g_w_short : mg "_law_short" = some (.ref f_w_short)
  b_w_short : Binds K fd_w_short ["_law_pot_here"] []
  f_w_row : Addr
  fd_w_row : FuncData
  F_w_row : Fun K "_law_row" "_law_row" s_w_row f_w_row fd_w_row
  g_w_row : mg "_law_row" = some (.ref f_w_row)
  b_w_row : Binds K fd_w_row ["_law_pot_here", "_law_many"] []
  f_w_gcd : Addr
  fd_w_gcd : FuncData
  F_w_gcd : Fun K "_law_gcd" "_law_gcd" s_w_gcd f_w_gcd fd_w_gcd
  g_w_gcd : mg "_law_gcd" = some (.ref f_w_gcd)
  b_w_gcd : Binds K fd_w_gcd ["_law_first", "_law_second"] []
  f_w_lowest : Addr
  fd_w_lowest : FuncData
  F_w_lowest : Fun K "_law_lowest" "_law_lowest" s_w_lowest f_w_lowest fd_w_lowest
  g_w_lowest : mg "_law_lowest" = some (.ref f_w_lowest)
  b_w_lowest : Binds K fd_w_lowest ["_law_top", "_law_bottom"] []
  f_w_pair_is : Addr
  fd_w_pair_is : FuncData
  F_w_pair_is : Fun K "_law_pair_is" "_law_pair_is" s_w_pair_is f_w_pair_is fd_w_pair_is
  g_w_pair_is : mg "_law_pair_is" = some (.ref f_w_pair_is)
  b_w_pair_is : Binds K fd_w_pair_is ["_law_found", "_law_pair"] []
  f_w_common : Addr
  fd_w_common : FuncData
  F_w_common : Fun K "_law_common" "_law_common" s_w_common f_w_common fd_w_common
  g_w_common : mg "_law_common" = some (.ref f_w_common)
  b_w_common : Binds K fd_w_common ["_law_row_here"] []
  f_w_common_right : Addr
  fd_w_common_right : FuncData
  F_w_common_right : Fun K "_law_common_right" "_law_common_right" s_w_common_right f_w_common_right fd_w_common_right
  g_w_common_right : mg "_law_common_right" = some (.ref f_w_common_right)
  b_w_common_right : Binds K fd_w_common_right ["_law_pot_here"] []
  f_w_refused : Addr
  fd_w_refused : FuncData
  F_w_refused : Fun K "_law_refused" "_law_refused" s_w_refused f_w_refused fd_w_refused
  g_w_refused : mg "_law_refused" = some (.ref f_w_refused)
  b_w_refused : Binds K fd_w_refused ["_law_top"] []
  f_w_ratio_right : Addr
  fd_w_ratio_right : FuncData
  F_w_ratio_right : Fun K "_law_ratio_right" "_law_ratio_right" s_w_ratio_right f_w_ratio_right fd_w_ratio_right
  g_w_ratio_right : mg "_law_ratio_right" = some (.ref f_w_ratio_right)
  b_w_ratio_right : Binds K fd_w_ratio_right ["_law_pot_here"] []
  f_w_two_ratios : Addr
  fd_w_two_ratios : FuncData
  F_w_two_ratios : Fun K "_law_two_ratios" "_law_two_ratios" s_w_two_ratios f_w_two_ratios fd_w_two_ratios
  g_w_two_ratios : mg "_law_two_ratios" = some (.ref f_w_two_ratios)
  b_w_two_ratios : Binds K fd_w_two_ratios ["_law_pot_here"] []
  f_w_sign : Addr
  fd_w_sign : FuncData
  F_w_sign : Fun K "_law_sign" "_law_sign" s_w_sign f_w_sign fd_w_sign
  g_w_sign : mg "_law_sign" = some (.ref f_w_sign)
  b_w_sign : Binds K fd_w_sign ["_law_number_here"] []
  f_w_two_right : Addr
  fd_w_two_right : FuncData
  F_w_two_right : Fun K "_law_two_right" "_law_two_right" s_w_two_right f_w_two_right fd_w_two_right
  g_w_two_right : mg "_law_two_right" = some (.ref f_w_two_right)
  b_w_two_right : Binds K fd_w_two_right ["_law_first", "_law_second"] []
  f_law : Addr
  fd_law : FuncData
  F_law : Fun K "law" "law" s_law f_law fd_law
  g_law : mg "law" = some (.ref f_law)
  b_law : Binds K fd_law ["_law_script"] []
  m_len : mg "len" = none
  m_range : mg "range" = none
  m_isinstance : mg "isinstance" = none
  m_int : mg "int" = none
  m_bool : mg "bool" = none
  m_list : mg "list" = none
  m_tuple : mg "tuple" = none
  m_abs : mg "abs" = none
  m_max : mg "max" = none
  m_ZeroDivisionError : mg "ZeroDivisionError" = none
  m_gcd : mg "gcd" = some (.builtin "math.gcd")
/-
(pss_cons (ps_asg (pe_op op_add (pe_ix ix_list (pv 0) pe_int (fun _ _ => rfl)) pe_int) (pg_sub (pv 0) pe_int set_list))
    (pss_cons (ps_if (PW.pt (pw_and (pt_cmpR op_eq (pe_ix ix_list (pv 0) pe_int (fun _ _ => rfl)) pe_int (nomark _)) (pw_and1 (pt_cmpR op_lt (pe_ix ix_list (pv 0) pe_int (fun _ _ => rfl)) (pe_callB call_len_seq (by rfl) T.m_len PySem.boot_len (pa_cons (pv 0) pa_nil)) (nomark _)))))
    (pss_cons (ps_set (i := 2) sc_w_take.nd rfl (Or.inl rfl) (pe_callTy call_int1 (by rfl) T.m_int (by decide +kernel) (pa_cons (pe_ix ix_list (pv 0) (pe_ix ix_list (pv 0) pe_int (fun _ _ => rfl)) (fun _ _ => rfl)) pa_nil)))
    (pss_cons (ps_asg (pe_op op_add (pe_ix ix_list (pv 0) pe_int (fun _ _ => rfl)) pe_int) (pg_sub (pv 0) pe_int set_list))
    (pss_one (ps_if (pt_cmpR op_ge (pv 2) (pe_op op_pow pe_int pe_int) (nomark _))
    (pss_one (ps_asg (pe_op op_sub (pv 2) (pe_op op_pow pe_int pe_int)) (pg_sub (pv 0) pe_int set_list)))
    (pss_one (ps_asg (pe_op op_mod (pe_callTy call_int1 (by rfl) T.m_int (by decide +kernel) (pa_cons (pe_op op_add (pe_op op_add (pe_op op_mul (pe_ix ix_list (pv 0) pe_int (fun _ _ => rfl)) pe_int) (pe_op op_mul (pv 2) pe_int)) pe_int) pa_nil)) pe_int) (pg_sub (pv 0) pe_int set_list)))))))
    pss_nil)
    (pss_cons (ps_if (pt_cmpR op_gt (pe_ix ix_list (pv 0) pe_int (fun _ _ => rfl)) pe_int (nomark _))
    (pss_cons (ps_set (i := 2) sc_w_take.nd rfl (Or.inl rfl) (pe_callTy call_int1 (by rfl) T.m_int (by decide +kernel) (pa_cons (pe_ix ix_list (pv 0) pe_int (fun _ _ => rfl)) pa_nil)))
    (pss_cons (ps_asg (pe_op op_fdivWN (pv 2) (pv 1)) (pg_sub (pv 0) pe_int set_list))
    (pss_one (ps_ret (pe_op op_mod (pe_callTy call_int1 (by rfl) T.m_int (by decide +kernel) (pa_cons (pv 2) pa_nil)) (pv 1))))))
    pss_nil)
    (pss_cons (ps_set (i := 3) sc_w_take.nd rfl (Or.inl rfl) (pe_op op_mod (pe_callTy call_int1 (by rfl) T.m_int (by decide +kernel) (pa_cons (pe_op op_mulW (pe_ix ix_list (pv 0) pe_int (fun _ _ => rfl)) (pe_op op_add (pe_op op_mul (pe_ix ix_list (pv 0) pe_int (fun _ _ => rfl)) pe_int) pe_int)) pa_nil)) pe_int))
    (pss_cons (ps_set (i := 3) sc_w_take.nd rfl (Or.inl rfl) (pe_op op_mod (pe_callTy call_int1 (by rfl) T.m_int (by decide +kernel) (pa_cons (pe_op op_mulW (pv 3) (pe_op op_add (pe_op op_add (pv 3) (pe_op op_mul (pe_ix ix_list (pv 0) pe_int (fun _ _ => rfl)) pe_int)) pe_int)) pa_nil)) pe_int))
    (pss_one (ps_ret (pe_op op_mod (pe_callTy call_int1 (by rfl) T.m_int (by decide +kernel) (pa_cons (pe_op op_add (pe_op op_fdiv (pv 3) pe_int) (pe_ix ix_list (pv 0) pe_int (fun _ _ => rfl))) pa_nil)) (pv 1)))))))))
(pss_cons (ps_set (i := 1) sc_w_number.nd rfl (Or.inl rfl) (pe_call G_w_take (hr.mono (by decide)) rfl T.g_w_take T.F_w_take.kp T.b_w_take .nil pass0 (pa_cons (pv 0) (pa_cons pe_int pa_nil))))
    (pss_cons (ps_set (i := 2) sc_w_number.nd rfl (Or.inl rfl) (pe_op op_sub pe_int (pe_op op_mul pe_int (pe_call G_w_take (hr.mono (by decide)) rfl T.g_w_take T.F_w_take.kp T.b_w_take .nil pass0 (pa_cons (pv 0) (pa_cons pe_int pa_nil))))))
    (pss_cons (ps_if (pt_cmpR op_eq (pv 1) pe_int (nomark _))
    (pss_one (ps_ret (pe_op op_mulW (pv 2) (pe_call G_w_take (hr.mono (by decide)) rfl T.g_w_take T.F_w_take.kp T.b_w_take .nil pass0 (pa_cons (pv 0) (pa_cons pe_int pa_nil))))))
    pss_nil)
    (pss_cons (ps_if (pt_cmpR op_eq (pv 1) pe_int (nomark _))
    (pss_one (ps_ret (pe_op op_mulW (pv 2) (pe_call G_w_take (hr.mono (by decide)) rfl T.g_w_take T.F_w_take.kp T.b_w_take .nil pass0 (pa_cons (pv 0) (pa_cons pe_int pa_nil))))))
    pss_nil)
    (pss_cons (ps_if (pt_cmpR op_eq (pv 1) pe_int (nomark _))
    (pss_cons (ps_set (i := 3) sc_w_number.nd rfl (Or.inl rfl) (pe_ix ix_list (pe_lst (pa_cons pe_int (pa_cons (pe_op op_pow pe_int pe_int) (pa_cons (pe_op op_add (pe_op op_pow pe_int pe_int) pe_int) (pa_cons (pe_op op_pow pe_int pe_int) (pa_cons (pe_op op_pow pe_int pe_int) (pa_cons (pe_op op_pow pe_int pe_int) pa_nil))))))) (pe_call G_w_take (hr.mono (by decide)) rfl T.g_w_take T.F_w_take.kp T.b_w_take .nil pass0 (pa_cons (pv 0) (pa_cons pe_int pa_nil))) (fun _ _ => rfl)))
    (pss_one (ps_ret (pe_op op_mulW (pv 2) (pe_op op_sub (pe_op op_sub (pv 3) pe_int) (pe_call G_w_take (hr.mono (by decide)) rfl T.g_w_take T.F_w_take.kp T.b_w_take .nil pass0 (pa_cons (pv 0) (pa_cons pe_int pa_nil))))))))
    pss_nil)
    (pss_cons (ps_set (i := 4) sc_w_number.nd rfl (Or.inl rfl) (pe_op op_add (pe_op op_mulW (pe_call G_w_take (hr.mono (by decide)) rfl T.g_w_take T.F_w_take.kp T.b_w_take .nil pass0 (pa_cons (pv 0) (pa_cons (pe_op op_pow pe_int pe_int) pa_nil))) (pe_op op_pow pe_int pe_int)) (pe_op op_mul (pe_call G_w_take (hr.mono (by decide)) rfl T.g_w_take T.F_w_take.kp T.b_w_take .nil pass0 (pa_cons (pv 0) (pa_cons (pe_op op_pow pe_int pe_int) pa_nil))) (pe_op op_pow pe_int pe_int))))
    (pss_one (ps_ret (pe_op op_mulW (pv 2) (pe_op op_add (pv 4) (pe_call G_w_take (hr.mono (by decide)) rfl T.g_w_take T.F_w_take.kp T.b_w_take .nil pass0 (pa_cons (pv 0) (pa_cons (pe_op op_pow pe_int pe_int) pa_nil)))))))))))))
(pss_cons (ps_if (pt_cmpR op_eq (pe_call G_w_take (hr.mono (by decide)) rfl T.g_w_take T.F_w_take.kp T.b_w_take .nil pass0 (pa_cons (pv 0) (pa_cons pe_int pa_nil))) pe_int (nomark _))
    (pss_one (ps_ret (pe_lc (own := [("_law_k", 2)]) (g := gName 2) (tt := tYes) rfl sc_w_row.nd (pi_range1 rfl T.m_range (pa_cons (pv 1) pa_nil)) (blkOk_by (own := [("_law_k", 2)]) (N := ["_law_pot_here", "_law_many", "_law_k", "_law_factor"]) (sc := defScope s_w_row) (by decide +kernel)) (fun _ _ _ _ _ => pg_name (i := 2) sc_w_row.nd rfl (Or.inl rfl)) (fun _ _ _ _ _ => pts_nil) (fun _ _ _ _ _ => (pe_call G_w_number (hr.mono (by decide)) rfl T.g_w_number T.F_w_number.kp T.b_w_number .nil pass0 (pa_cons (pv 0) pa_nil))))))
    pss_nil)
    (pss_cons (ps_set (i := 3) sc_w_row.nd rfl (Or.inr rfl) (pe_op op_add pe_int (pe_call G_w_take (hr.mono (by decide)) rfl T.g_w_take T.F_w_take.kp T.b_w_take .nil pass0 (pa_cons (pv 0) (pa_cons (pe_op op_pow pe_int pe_int) pa_nil)))))
    (pss_one (ps_ret (pe_lc (own := [("_law_k", 2)]) (g := gName 2) (tt := tYes) rfl sc_w_row.nd (pi_range1 rfl T.m_range (pa_cons (pv 1) pa_nil)) (blkOk_by (own := [("_law_k", 2)]) (N := ["_law_pot_here", "_law_many", "_law_k", "_law_factor"]) (sc := defScope s_w_row) (by decide +kernel)) (fun _ _ _ _ _ => pg_name (i := 2) sc_w_row.nd rfl (Or.inl rfl)) (fun _ _ _ _ _ => pts_nil) (fun _ _ _ _ _ => (pe_op op_mulW (pv 3) (pe_call G_w_short (hr.mono (by decide)) rfl T.g_w_short T.F_w_short.kp T.b_w_short .nil pass0 (pa_cons (pv 0) pa_nil)))))))))
(pss_cons (ps_if (PW.pt (pw_or (pt_not (pt_val (pe_callB call_isi (by rfl) T.m_isinstance (by decide +kernel) (pa_cons (pv 0) (pa_cons (pe_bltn (v := .ty "tuple") (by rfl) T.m_tuple (by decide +kernel) rfl) pa_nil))))) (pw_or1 (pt_cmpR op_ne (pe_callB call_len_seq (by rfl) T.m_len PySem.boot_len (pa_cons (pv 0) pa_nil)) pe_int (nomark _)))))
    (pss_one (ps_ret pe_bl))
    pss_nil)
    (pss_cons (ps_if (PW.pt (pw_or (pt_not (pt_val (pe_call G_w_whole (hr.mono (by decide)) rfl T.g_w_whole T.F_w_whole.kp T.b_w_whole .nil pass0 (pa_cons (pe_ix ix_tup (pv 0) pe_int (fun _ _ => rfl)) pa_nil)))) (pw_or1 (pt_not (pt_val (pe_call G_w_whole (hr.mono (by decide)) rfl T.g_w_whole T.F_w_whole.kp T.b_w_whole .nil pass0 (pa_cons (pe_ix ix_tup (pv 0) pe_int (fun _ _ => rfl)) pa_nil)))))))
    (pss_one (ps_ret pe_bl))
    pss_nil)
    (pss_one (ps_ret (pe_and (pe_cmpR op_eq (pe_ix ix_tup (pv 0) pe_int (fun _ _ => rfl)) (pe_ix ix_tup (pv 1) pe_int (fun _ _ => rfl)) (nomark _)) (pe_one (pe_cmpR op_eq (pe_ix ix_tup (pv 0) pe_int (fun _ _ => rfl)) (pe_ix ix_tup (pv 1) pe_int (fun _ _ => rfl)) (nomark _))))))))
(pss_cons (ps_set (i := 2) sc_w_two_right.nd rfl (Or.inl rfl) (pe_call G_w_sign (hr.mono (by decide)) rfl T.g_w_sign T.F_w_sign.kp T.b_w_sign .nil pass0 (pa_cons (pe_op op_sub (pe_op op_mulW (pe_ix ix_tup (pv 0) pe_int (fun _ _ => rfl)) (pe_ix ix_tup (pv 1) pe_int (fun _ _ => rfl))) (pe_op op_mulW (pe_ix ix_tup (pv 1) pe_int (fun _ _ => rfl)) (pe_ix ix_tup (pv 0) pe_int (fun _ _ => rfl)))) pa_nil)))
    (pss_cons (ps_set (i := 3) sc_w_two_right.nd rfl (Or.inl rfl) (pe_call G_compare (hr.mono (by decide)) rfl T.g_compare T.F_compare.kp T.b_compare .nil pass0 (pa_cons (pv 0) (pa_cons (pv 1) pa_nil))))
    (pss_cons (ps_if (PW.pt (pw_or (pt_not (pt_val (pe_call G_w_whole (hr.mono (by decide)) rfl T.g_w_whole T.F_w_whole.kp T.b_w_whole .nil pass0 (pa_cons (pv 3) pa_nil)))) (pw_or1 (pt_cmpR op_ne (pv 3) (pv 2) (nomark _)))))
    (pss_one (ps_ret pe_bl))
    pss_nil)
    (pss_cons (ps_set (i := 4) sc_w_two_right.nd rfl (Or.inl rfl) (pe_op op_add (pe_op op_mulW (pe_ix ix_tup (pv 0) pe_int (fun _ _ => rfl)) (pe_ix ix_tup (pv 1) pe_int (fun _ _ => rfl))) (pe_op op_mulW (pe_ix ix_tup (pv 1) pe_int (fun _ _ => rfl)) (pe_ix ix_tup (pv 0) pe_int (fun _ _ => rfl)))))
    (pss_cons (ps_if (pt_not (pt_val (pe_call G_w_pair_is (hr.mono (by decide)) rfl T.g_w_pair_is T.F_w_pair_is.kp T.b_w_pair_is .nil pass0 (pa_cons (pe_call G_plus (hr.mono (by decide)) rfl T.g_plus T.F_plus.kp T.b_plus .nil pass0 (pa_cons (pv 0) (pa_cons (pv 1) pa_nil))) (pa_cons (pe_call G_w_lowest (hr.mono (by decide)) rfl T.g_w_lowest T.F_w_lowest.kp T.b_w_lowest .nil pass0 (pa_cons (pv 4) (pa_cons (pe_op op_mulW (pe_ix ix_tup (pv 0) pe_int (fun _ _ => rfl)) (pe_ix ix_tup (pv 1) pe_int (fun _ _ => rfl))) pa_nil))) pa_nil)))))
    (pss_one (ps_ret pe_bl))
    pss_nil)
    (pss_one (ps_ret (pe_call G_w_pair_is (hr.mono (by decide)) rfl T.g_w_pair_is T.F_w_pair_is.kp T.b_w_pair_is .nil pass0 (pa_cons (pe_call G_times (hr.mono (by decide)) rfl T.g_times T.F_times.kp T.b_times .nil pass0 (pa_cons (pv 0) (pa_cons (pv 1) pa_nil))) (pa_cons (pe_call G_w_lowest (hr.mono (by decide)) rfl T.g_w_lowest T.F_w_lowest.kp T.b_w_lowest .nil pass0 (pa_cons (pe_op op_mulW (pe_ix ix_tup (pv 0) pe_int (fun _ _ => rfl)) (pe_ix ix_tup (pv 1) pe_int (fun _ _ => rfl))) (pa_cons (pe_op op_mulW (pe_ix ix_tup (pv 0) pe_int (fun _ _ => rfl)) (pe_ix ix_tup (pv 1) pe_int (fun _ _ => rfl))) pa_nil))) pa_nil))))))))))
-/
local macro_rules | `(tactic| walk_at "st") => `(tactic| first
  | (with_reducible refine r_seq ?_)
  | (with_reducible refine r_asg ?_)
  | (with_reducible refine r_ifS ?_)
  | (with_reducible refine r_ret ?_)
  | (with_reducible refine r_next ?_)
  | (with_reducible refine r_drop ?_)
  | (with_reducible refine r_retN ?_)
  | (with_reducible refine r_cont ?_)
  | (with_reducible refine r_break ?_)
  | (with_reducible refine r_op ?_)
  | (with_reducible refine r_un ?_)
  | ((with_reducible refine' r_var ?h1 ?_); (case h1 => exact rfl))
  | (with_reducible refine r_c ?_)
  | (with_reducible refine r_I0 ?_)
  | (with_reducible refine r_eqI ?_)
  | (with_reducible refine r_neI ?_)
  | (with_reducible refine r_eqS ?_)
  | (with_reducible refine r_neS ?_)
  | (with_reducible refine r_eqB ?_)
  | (with_reducible refine r_neB ?_)
  | (with_reducible refine r_U ?_)
  | (with_reducible refine r_test ?_)
  | (with_reducible refine r_tB ?_)
  | (with_reducible refine r_bl ?_)
  | (with_reducible refine r_and ?_)
  | (with_reducible refine r_or ?_)
  | (with_reducible refine r_not ?_)
  | (with_reducible refine r_andV ?_)
  | (with_reducible refine r_orV ?_)
  | (with_reducible refine r_notV ?_)
  | (with_reducible refine r_if ?_)
  | (with_reducible refine r_chain ?_)
  | (with_reducible refine r_gName0 ?_)
  | (with_reducible refine r_gName1 ?_)
  | (with_reducible refine r_gName2 ?_)
  | (with_reducible refine r_gName3 ?_)
  | (with_reducible refine r_gName4 ?_)
  | (with_reducible refine r_gName5 ?_)
  | (with_reducible refine r_gName6 ?_)
  | (with_reducible refine r_gName7 ?_)
  | (with_reducible refine r_gName8 ?_)
  | (with_reducible refine r_gName9 ?_)
  | (with_reducible refine r_gName10 ?_)
  | (with_reducible refine r_gName11 ?_)
  | (with_reducible refine r_gName12 ?_)
  | (with_reducible refine r_gName13 ?_)
  | (with_reducible refine r_gName14 ?_)
  | (with_reducible refine r_gName15 ?_)
  | (with_reducible refine r_gName16 ?_)
  | (with_reducible refine r_gName17 ?_)
  | (with_reducible refine r_gName18 ?_)
  | (with_reducible refine r_gName19 ?_)
  | (with_reducible refine r_cb ?_)
  | (with_reducible refine r_cons ?_)
  | (with_reducible refine r_nil ?_)
  | ((with_reducible refine r_call ?_); try simp only [List.cons_append, List.nil_append])
  | ((with_reducible refine r_callSD ?_); try simp only [List.cons_append, List.nil_append])
  | (with_reducible refine r_gSub ?_)
  | (with_reducible refine r_sl ?_)
  | (with_reducible refine r_lst ?_)
  | (with_reducible refine r_tup ?_)
  | (with_reducible refine r_int1 ?_)
  | (with_reducible refine r_intB ?_)
  | ((with_reducible refine r_in1 ?_); try simp only [abs_if])
  | ((with_reducible refine r_in2 ?_); try simp only [max_if])
  | (with_reducible refine r_forR1 ?_)
  | (with_reducible refine r_forR2 ?_)
  | (with_reducible refine r_forL ?_)
  | (with_reducible refine r_forT ?_)
  | (with_reducible refine r_lcR1 ?_)
  | (with_reducible refine r_lcL ?_)
  | (with_reducible refine r_lcT ?_)
  | (with_reducible refine r_yes ?_)
  | (with_reducible refine r_tPart ?_)
  | (with_reducible refine r_noPart ?_)
  | (with_reducible refine r_exI ?_)
  | (with_reducible refine r_iteT rfl ?_)
  | (with_reducible refine r_iteNF rfl ?_)
  | ((with_reducible refine' r_ixL ?h1 ?h2 ?_); (case h1 => walk_at "sq"); (case h2 => walk_at "at"))
  | ((with_reducible refine' r_ixT ?h1 ?h2 ?_); (case h1 => walk_at "sq"); (case h2 => walk_at "at"))
  | ((with_reducible refine' r_lenL ?h1 ?_); (case h1 => walk_at "sq"))
  | ((with_reducible refine' r_lenT ?h1 ?_); (case h1 => walk_at "sq"))
  | ((with_reducible refine' r_setP0 ?h1 ?_); (case h1 => walk_at "hp"); try simp only [upd_upd])
  | ((with_reducible refine' r_setP1 ?h1 ?_); (case h1 => walk_at "hp"); try simp only [upd_upd])
  | ((with_reducible refine' r_setP2 ?h1 ?_); (case h1 => walk_at "hp"); try simp only [upd_upd])
  | ((with_reducible refine' r_setP3 ?h1 ?_); (case h1 => walk_at "hp"); try simp only [upd_upd])
  | ((with_reducible refine' r_setL ?h1 ?h2 ?_); (case h1 => walk_at "hp"); (case h2 => walk_at "ix"))
  | ((with_reducible refine r_I ?h1 ?_); (case h1 => walk_at "side"); try simp only [Int.reduceToNat, Int.reducePow])
  | ((with_reducible refine r_iteT ?h1 ?_); (case h1 => walk_at "dec"))
  | ((with_reducible refine r_iteF ?h1 ?_); (case h1 => walk_at "dec"))
  | ((with_reducible refine r_iteNT ?h1 ?_); (case h1 => walk_at "dec"))
  | ((with_reducible refine r_iteNF ?h1 ?_); (case h1 => walk_at "dec"))
  | ((with_reducible refine' r_gNameW ?h1 ?_); (case h1 => (simp only [L2.wipe, List.map_cons, List.map_nil, List.set_cons_zero, List.set_cons_succ]; try exact rfl)))
  | ((with_reducible refine r_wipe ?h1 ?_); (case h1 => rfl))
  | (with_reducible refine iteT ?_)
  | (with_reducible refine r_iteNT1 ?_)
  | (with_reducible refine r_iteNF1 ?_)
  | (with_reducible refine r_gcd ?_)
  | ((with_reducible refine' r_isi ?h1 ?h2 ?_); (case h1 => first | exact .base (.int _) | exact .base (.bl _) | exact .base (.str _) | exact .base .non | exact .base (.tup (by walk_at "hp")) | exact .base (.lst (by walk_at "hp")) | exact .base (.dK (by walk_at "hp"))); (case h2 => first | exact kit_ii | exact kit_ib | exact kit_tt | exact kit_ss | exact kit_ll | exact kit_bb | exact kit_bi | exact kit_dd | exact kit_nt | exact kit_ni | exact kit_is | exact kit_si | exact kit_it))
  | (with_reducible refine iteF ?_)
  | ((with_reducible refine And.intro ?h1 ?_); (case h1 => exact le_size (by simp only [List.length_cons, List.length_nil]; omega)))
  | (with_reducible refine r_nxE ?_)
  | (with_reducible refine r_bkE ?_)
  | (with_reducible refine r_ctE ?_)
  | (with_reducible refine r_rtE ?_))
local macro_rules | `(tactic| walk_at "sts") => `(tactic| repeat walk_at "st")
local macro_rules | `(tactic| walk_at "hp") => `(tactic| first | assumption | exact upd_same | (rw [upd_ne (by walk_at "ne")]; walk_at "hp") | exact Keep.out (by assumption) (by walk_at "nin") (by walk_at "hp"))
local macro_rules | `(tactic| walk_at "nin") => `(tactic| (simp only [List.mem_cons, List.not_mem_nil, or_false, not_false_eq_true]; try walk_at "ne"))
local macro_rules | `(tactic| walk_at "ne") => `(tactic| first | assumption | (apply Ne.symm; assumption) | exact ne_free (by assumption) (by assumption) | exact (ne_free (by assumption) (by assumption)).symm)
local macro_rules | `(tactic| walk_at "sq") => `(tactic| first | assumption | exact sqL_of (by walk_at "hp") | exact sqT_of (by walk_at "hp") | exact Keep.l (by assumption) (by walk_at "nin") (by walk_at "sq") | exact Keep.t (by assumption) (by walk_at "nin") (by walk_at "sq"))
local macro_rules | `(tactic| walk_at "at") => `(tactic| first
  | exact atI_nat (j := 0) rfl | exact atI_nat (j := 1) rfl | exact atI_nat (j := 2) rfl | exact atI_nat (j := 3) rfl | exact atI_nat (j := 4) rfl | exact atI_nat (j := 5) rfl
  | (refine atI_map ?_ ?_ <;> omega) | assumption)
local macro_rules | `(tactic| walk_at "ix") => `(tactic| first | exact ixN_of (by decide) (by simp; omega) | exact ixN_of (by omega) (by simp; omega))
local macro_rules | `(tactic| walk_at "side") => `(tactic| first | omega | decide | exact .inl (by omega) | exact .inr (by omega) | exact ⟨by omega, by omega⟩ | exact .inl (.inl (by omega)) | exact .inl (.inr (by omega)) | (exact ⟨by decide, by decide, by decide⟩) | (exact ⟨by omega, by decide⟩))
local macro_rules | `(tactic| walk_at "start") => `(tactic| simp only [start_cc, start_cn, start_nn, cxOf_K])
local macro_rules | `(tactic| walk_at "dec") => `(tactic| first | omega | (simp only [List.length_cons, List.length_nil, List.length_map, List.length_append]; omega))
/-! ### the pot -/
def Pot (P : List V) : Prop := ∃ (pos car cnt mix : Int) (sc : List Int), P = V.int pos :: V.int car :: V.int cnt :: V.int mix :: sc.map V.int ∧ 4 ≤ pos ∧ 0 ≤ car ∧ 0 ≤ mix ∧ mix < 2147483647 ∧ sc.length ≤ 63
def PotAt (a : Addr) (H : Hp) : Prop := ∃ P, H a = some (.lst P) ∧ Pot P
theorem pot_at {x0 x1 x2 x3 : V} {sc : List Int} {i : Int} (h : 4 ≤ i) (h2 : i < sc.length + 4) : atI (x0 :: x1 :: x2 :: x3 :: sc.map V.int) i = some (.int (sc.getD (i.toNat - 4) 0)) := by
  obtain ⟨n, rfl⟩ : ∃ n : Nat, i = ((n + 4 : Nat) : Int) := ⟨i.toNat - 4, by omega⟩
  refine atI_nat ?_
  have h3 : n < sc.length := by omega
  have e : ((n + 4 : Nat) : Int).toNat - 4 = n := by omega
  rw [e, List.getElem?_cons_succ, List.getElem?_cons_succ, List.getElem?_cons_succ, List.getElem?_cons_succ, List.getElem?_map, List.getElem?_eq_getElem h3, List.getD_eq_getElem?_getD, List.getElem?_eq_getElem h3]
  rfl
def spTake : Sp := fun vs H Q _ => ∃ (a : Addr) (n : Int), vs = [.ref a, .int n] ∧ PotAt a H ∧ 0 < n ∧ n < 2 ^ 200 ∧ ∀ (r : Int) (H' : Hp), 0 ≤ r → r < n → Keep [a] H H' → PotAt a H' → Q (.int r) H'
section
variable {P : Program} {w : World} {K : PySem.W.Frag} {mg : Str → Option Value} {base : Heap}
theorem ok_take (T : Tx K mg) : FnOk P w K mg base CX0 1 T.f_w_take T.fd_w_take ["_law_pot_here", "_law_size"] spTake := by
  refine T.F_w_take.ok sc_w_take (fun vs H Q E h => ?_) (fun cdv A outer s H vs Q E hr h => ?_)
  · obtain ⟨a, n, rfl, _⟩ := h; rfl
  · obtain ⟨a, n, rfl, ⟨P0, hP, pos, car, cnt, mix, sc, rfl, h4, hcar, hm0, hm1, hsc⟩, hn0, hn1, q⟩ := h
    refine ⟨_, (pss_cons (ps_asg (pe_op op_add (pe_ix ix_list (pv 0) pe_int (fun _ _ => rfl)) pe_int) (pg_sub (pv 0) pe_int set_list))
    (Evl.pss_cut (ps_if (PW.pt (pw_and (pt_cmpR op_eq (pe_ix ix_list (pv 0) pe_int (fun _ _ => rfl)) pe_int (nomark _)) (pw_and1 (pt_cmpR op_lt (pe_ix ix_list (pv 0) pe_int (fun _ _ => rfl)) (pe_callB call_len_seq (by rfl) T.m_len PySem.boot_len (pa_cons (pv 0) pa_nil)) (nomark _)))))
    (pss_cons (ps_set (i := 2) sc_w_take.nd rfl (Or.inl rfl) (pe_callTy call_int1 (by rfl) T.m_int (by decide +kernel) (pa_cons (pe_ix ix_list (pv 0) (pe_ix ix_list (pv 0) pe_int (fun _ _ => rfl)) (fun _ _ => rfl)) pa_nil)))
    (pss_cons (ps_asg (pe_op op_add (pe_ix ix_list (pv 0) pe_int (fun _ _ => rfl)) pe_int) (pg_sub (pv 0) pe_int set_list))
    (pss_one (ps_if (pt_cmpR op_ge (pv 2) (pe_op op_pow pe_int pe_int) (nomark _))
    (pss_one (ps_asg (pe_op op_sub (pv 2) (pe_op op_pow pe_int pe_int)) (pg_sub (pv 0) pe_int set_list)))
    (pss_one (ps_asg (pe_op op_mod (pe_callTy call_int1 (by rfl) T.m_int (by decide +kernel) (pa_cons (pe_op op_add (pe_op op_add (pe_op op_mul (pe_ix ix_list (pv 0) pe_int (fun _ _ => rfl)) pe_int) (pe_op op_mul (pv 2) pe_int)) pe_int) pa_nil)) pe_int) (pg_sub (pv 0) pe_int set_list)))))))
    pss_nil)
    (pss_cons (ps_if (pt_cmpR op_gt (pe_ix ix_list (pv 0) pe_int (fun _ _ => rfl)) pe_int (nomark _))
    (pss_cons (ps_set (i := 2) sc_w_take.nd rfl (Or.inl rfl) (pe_callTy call_int1 (by rfl) T.m_int (by decide +kernel) (pa_cons (pe_ix ix_list (pv 0) pe_int (fun _ _ => rfl)) pa_nil)))
    (pss_cons (ps_asg (pe_op op_fdivWN (pv 2) (pv 1)) (pg_sub (pv 0) pe_int set_list))
    (pss_one (ps_ret (pe_op op_mod (pe_callTy call_int1 (by rfl) T.m_int (by decide +kernel) (pa_cons (pv 2) pa_nil)) (pv 1))))))
    pss_nil)
    (pss_cons (ps_set (i := 3) sc_w_take.nd rfl (Or.inl rfl) (pe_op op_mod (pe_callTy call_int1 (by rfl) T.m_int (by decide +kernel) (pa_cons (pe_op op_mulG (pe_ix ix_list (pv 0) pe_int (fun _ _ => rfl)) (pe_op op_add (pe_op op_mul (pe_ix ix_list (pv 0) pe_int (fun _ _ => rfl)) pe_int) pe_int)) pa_nil)) pe_int))
    (pss_cons (ps_set (i := 3) sc_w_take.nd rfl (Or.inl rfl) (pe_op op_mod (pe_callTy call_int1 (by rfl) T.m_int (by decide +kernel) (pa_cons (pe_op op_mulG (pv 3) (pe_op op_add (pe_op op_add (pv 3) (pe_op op_mul (pe_ix ix_list (pv 0) pe_int (fun _ _ => rfl)) pe_int)) pe_int)) pa_nil)) pe_int))
    (pss_one (ps_ret (pe_op op_mod (pe_callTy call_int1 (by rfl) T.m_int (by decide +kernel) (pa_cons (pe_op op_add (pe_op op_fdiv (pv 3) pe_int) (pe_ix ix_list (pv 0) pe_int (fun _ _ => rfl))) pa_nil)) (pv 1))))))))), ?_⟩
    walk_at "start"
    walk_at "sts"
    refine r_cut (fun σ' H' => ∃ (pos car cnt mix : Int) (x : Option V), σ' = [some (.ref a), some (.int n), x, none] ∧ H' = upd H a (.lst (V.int pos :: V.int car :: V.int cnt :: V.int mix :: sc.map V.int)) ∧ 4 ≤ pos ∧ 0 ≤ car ∧ 0 ≤ mix ∧ mix < 2147483647) ?_ ?_
    · walk_at "sts"
      refine r_ite (fun c1 => ?_) (fun c1 => ?_)
      · walk_at "sts"
        refine r_ite (fun c2 => ?_) (fun c2 => ?_)
        · walk_at "sts"
          simp only [List.length_cons, List.length_map] at c2
          refine r_ixL (sqL_of upd_same) (pot_at h4 (by omega)) ?_
          walk_at "sts"
          refine r_ite (fun c3 => ?_) (fun c3 => ?_)
          · walk_at "sts"
            exact ⟨_, _, _, _, _, rfl, rfl, by omega, by omega, hm0, hm1⟩
          · walk_at "sts"
            exact ⟨_, _, _, _, _, rfl, rfl, by omega, by omega, Int.emod_nonneg _ (by decide), Int.emod_lt_of_pos _ (by decide)⟩
        · walk_at "sts"
          exact ⟨_, _, _, _, _, rfl, rfl, h4, hcar, hm0, hm1⟩
      · walk_at "sts"
        exact ⟨_, _, _, _, _, rfl, rfl, h4, hcar, hm0, hm1⟩
    · rintro σ' H' ⟨pos, car, cnt, mix, x, rfl, rfl, h4, hcar, hm0, hm1⟩
      walk_at "sts"
      refine r_ite (fun c1 => ?_) (fun c1 => ?_)
      · walk_at "sts"
        refine r_I ⟨by omega, log_ok 200 (by omega)⟩ ?_
        walk_at "sts"
        exact q _ _ (Int.emod_nonneg _ (by omega)) (Int.emod_lt_of_pos _ hn0) (Keep.at (by simp)) ⟨_, upd_same, pos, _, cnt, mix, sc, rfl, h4, Int.fdiv_nonneg (by omega) (by omega), hm0, hm1, hsc⟩
      · walk_at "sts"
        exact q _ _ (Int.emod_nonneg _ (by omega)) (Int.emod_lt_of_pos _ hn0) (Keep.at (by simp)) ⟨_, upd_same, pos, car, cnt, mix, sc, rfl, h4, hcar, hm0, hm1, hsc⟩
end
theorem PotAt.new {a p : Addr} {o : HO} {H : Hp} (h : PotAt a H) (n : H p = none) : PotAt a (upd H p o) := by
  obtain ⟨P, hP, hp⟩ := h
  exact ⟨P, by rw [upd_ne (ne_of_none hP n)]; exact hP, hp⟩
theorem PotAt.put {a p : Addr} {o : HO} {H : Hp} (h : PotAt a H) (n : p ≠ a) : PotAt a (upd H p o) := by
  obtain ⟨P, hP, hp⟩ := h
  exact ⟨P, by rw [upd_ne n.symm]; exact hP, hp⟩
theorem PotAt.ne' {a p : Addr} {xs : List V} {H : Hp} (h : PotAt a H) (h2 : H p = some (.lst xs)) (n : ¬ Pot xs) : p ≠ a := by
  obtain ⟨P, hP, hp⟩ := h
  rintro rfl
  rw [hP] at h2; cases h2; exact n hp
theorem PotAt.ne {a p : Addr} {H : Hp} (h : PotAt a H) (n : H p = none) : p ≠ a := by
  obtain ⟨P, hP, _⟩ := h
  exact ne_free hP n
section
variable {Q : VK} {E : XK} {H : Hp}
theorem r_take {a : Addr} {n : Int} (hp : PotAt a H) (h0 : 0 < n) (h1 : n < 2 ^ 200) (k : ∀ (r : Int) (H' : Hp), 0 ≤ r → r < n → Keep [a] H H' → PotAt a H' → Q (.int r) H') : spTake [.ref a, .int n] H Q E := ⟨a, n, rfl, hp, h0, h1, k⟩
/-- a def of the pot that gives an int below m in size -/
def spPotInt (m : Nat) : Sp := fun vs H Q _ => ∃ a : Addr, vs = [.ref a] ∧ PotAt a H ∧ ∀ (r : Int) (H' : Hp), r.natAbs < m → Keep [a] H H' → PotAt a H' → Q (.int r) H'
theorem r_potInt {m : Nat} {a : Addr} (hp : PotAt a H) (k : ∀ (r : Int) (H' : Hp), r.natAbs < m → Keep [a] H H' → PotAt a H' → Q (.int r) H') : spPotInt m [.ref a] H Q E := ⟨a, rfl, hp, k⟩
def spRow : Sp := fun vs H Q _ => ∃ (a : Addr) (n : Int), vs = [.ref a, .int n] ∧ PotAt a H ∧ 0 ≤ n ∧ n < 100 ∧ ∀ (p : Addr) (ns : List Int) (H' : Hp), ns.length = n.toNat → (∀ x ∈ ns, x.natAbs < 10 ^ 30) → Keep [a] H H' → PotAt a H' → H p = none → H' p = some (.lst (ns.map V.int)) → Q (.ref p) H'
def spPot (K : PySem.W.Frag) : Sp := fun vs H Q _ => ∃ (a : Addr) (ns : List Int), vs = [.ref a] ∧ SqL K H a (ns.map V.int) ∧ ns.length ≤ 63 ∧ ∀ (p : Addr) (H' : Hp), Keep [] H H' → H p = none → PotAt p H' → Q (.ref p) H'
def spGcd : Sp := fun vs H Q _ => ∃ a b : Int, vs = [.int a, .int b] ∧ Q (.int ((Nat.gcd a.natAbs b.natAbs : Nat) : Int)) H
/-- the divisor with the bottom's sign, and the pair in lowest terms -/
def dv (t b : Int) : Int := if b < 0 then -((Nat.gcd t.natAbs b.natAbs : Nat) : Int) else ((Nat.gcd t.natAbs b.natAbs : Nat) : Int)
def lowT (t b : Int) : Int := t.fdiv (dv t b)
def lowB (t b : Int) : Int := b.fdiv (dv t b)
def spLow : Sp := fun vs H Q _ => ∃ t b : Int, vs = [.int t, .int b] ∧ b ≠ 0 ∧ b.natAbs < 2 ^ 8000 ∧ ∀ (p : Addr) (H' : Hp), Keep [] H H' → H p = none → H' p = some (.tup [.int (lowT t b), .int (lowB t b)]) → Q (.ref p) H'
end
theorem gcd_pos {t b : Int} (h : b ≠ 0) : 0 < Nat.gcd t.natAbs b.natAbs := Nat.gcd_pos_of_pos_right _ (by omega)
theorem gcd_le {t b : Int} (h : b ≠ 0) : Nat.gcd t.natAbs b.natAbs ≤ b.natAbs := Nat.gcd_le_right _ (by omega)
theorem dv_ne {t b : Int} (h : b ≠ 0) : dv t b ≠ 0 := by
  have := gcd_pos (t := t) h
  unfold dv; split <;> omega
theorem dv_abs {t b : Int} : (dv t b).natAbs = Nat.gcd t.natAbs b.natAbs := by
  unfold dv; split <;> omega
theorem pow_mono {n : Nat} (a b : Nat) (h : n < 2 ^ a) (hab : a ≤ b := by decide) : n < 2 ^ b := Nat.lt_of_lt_of_le h (Nat.pow_le_pow_right (by decide) hab)
section
variable {P : Program} {w : World} {K : PySem.W.Frag} {mg : Str → Option Value} {base : Heap}
theorem ok_gcd (T : Tx K mg) : FnOk P w K mg base CX0 1 T.f_w_gcd T.fd_w_gcd ["_law_first", "_law_second"] spGcd := by
  refine T.F_w_gcd.ok sc_w_gcd (fun vs H Q E h => ?_) (fun cdv A outer s H vs Q E hr h => ?_)
  · obtain ⟨a, b, rfl, _⟩ := h; rfl
  · obtain ⟨a, b, rfl, q⟩ := h
    refine ⟨_, (pss_cons (ps_set (i := 0) sc_w_gcd.nd rfl (Or.inl rfl) (pe_callB call_abs (by rfl) T.m_abs (by decide +kernel) (pa_cons (pv 0) pa_nil)))
    (pss_cons (ps_set (i := 1) sc_w_gcd.nd rfl (Or.inl rfl) (pe_callB call_abs (by rfl) T.m_abs (by decide +kernel) (pa_cons (pv 1) pa_nil)))
    (pss_cons (ps_while PassesOwn.never (pt_cmpR op_gt (pv 1) pe_int (nomark _))
    (pss_cons (ps_set (i := 2) sc_w_gcd.nd rfl (Or.inl rfl) (pe_op op_mod (pe_callTy call_int1 (by rfl) T.m_int (by decide +kernel) (pa_cons (pv 0) pa_nil)) (pv 1)))
    (pss_cons (ps_set (i := 0) sc_w_gcd.nd rfl (Or.inl rfl) (pv 1))
    (pss_one (ps_set (i := 1) sc_w_gcd.nd rfl (Or.inl rfl) (pv 2))))))
    (pss_one (ps_ret (pv 0)))))), ?_⟩
    walk_at "start"
    walk_at "sts"
    refine r_while (fun m σ' H' => ∃ (x y : Nat) (z : Option V), σ' = [some (.int x), some (.int y), z] ∧ H' = H ∧ m = y ∧ Nat.gcd x y = Nat.gcd a.natAbs b.natAbs) (m0 := b.natAbs) ⟨_, _, _, rfl, rfl, rfl, rfl⟩ ?_
    rintro m σ' H' ⟨x, y, z, rfl, rfl, rfl, hg⟩
    walk_at "sts"
    refine r_ite (fun c => r_turn ?_) (fun c => ?_)
    · walk_at "sts"
      have hy : 0 < m := by omega
      refine ⟨x % m, Nat.mod_lt _ hy, m, x % m, _, by rw [Int.natCast_emod], rfl, rfl, ?_⟩
      rw [← hg, Nat.gcd_comm m (x % m), ← Nat.gcd_rec, Nat.gcd_comm]
    · walk_at "sts"
      have hy : m = 0 := by omega
      subst hy
      rw [← hg, Nat.gcd_zero_right] at q
      exact q
theorem ok_lowest (T : Tx K mg) (G_w_gcd : FnOk P w K mg base CX0 1 T.f_w_gcd T.fd_w_gcd ["_law_first", "_law_second"] spGcd) : FnOk P w K mg base CX0 2 T.f_w_lowest T.fd_w_lowest ["_law_top", "_law_bottom"] spLow := by
  refine T.F_w_lowest.ok sc_w_lowest (fun vs H Q E h => ?_) (fun cdv A outer s H vs Q E hr h => ?_)
  · obtain ⟨a, b, rfl, _⟩ := h; rfl
  · obtain ⟨t, b, rfl, hb, hz, q⟩ := h
    refine ⟨_, (pss_cons (ps_set (i := 2) sc_w_lowest.nd rfl (Or.inl rfl) (pe_call G_w_gcd (hr.mono (by decide)) rfl T.g_w_gcd T.F_w_gcd.kp T.b_w_gcd .nil pass0 (pa_cons (pv 0) (pa_cons (pv 1) pa_nil))))
    (pss_cons (ps_if (pt_cmpR op_lt (pv 1) pe_int (nomark _))
    (pss_one (ps_set (i := 2) sc_w_lowest.nd rfl (Or.inl rfl) (pe_un un_neg (pv 2))))
    pss_nil)
    (pss_one (ps_ret (pe_tup (pa_cons (pe_op op_fdivWN (pv 0) (pv 2)) (pa_cons (pe_op op_fdivWN (pv 1) (pv 2)) pa_nil))))))), ?_⟩
    walk_at "start"
    walk_at "sts"
    refine ⟨_, _, rfl, ?_⟩
    walk_at "sts"
    have hl : (dv t b).natAbs.log2 < 9000 := log_ok 8000 (by rw [dv_abs]; exact Nat.lt_of_le_of_lt (gcd_le hb) hz)
    have hn := dv_ne (t := t) hb
    refine r_ite (fun c => ?_) (fun c => ?_)
    · have e : dv t b = -((Nat.gcd t.natAbs b.natAbs : Nat) : Int) := by unfold dv; rw [if_pos c]
      rw [e] at hl hn
      walk_at "sts"
      intro p hp
      refine q p _ (Keep.new hp) hp ?_
      rw [upd_same]; unfold lowT lowB; rw [e]
    · have e : dv t b = ((Nat.gcd t.natAbs b.natAbs : Nat) : Int) := by unfold dv; rw [if_neg c]
      rw [e] at hl hn
      walk_at "sts"
      intro p hp
      refine q p _ (Keep.new hp) hp ?_
      rw [upd_same]; unfold lowT lowB; rw [e]
theorem ok_pot (T : Tx K mg) : FnOk P w K mg base CX0 1 T.f_w_pot T.fd_w_pot ["_law_script"] (spPot K) := by
  refine T.F_w_pot.ok sc_w_pot (fun vs H Q E h => ?_) (fun cdv A outer s H vs Q E hr h => ?_)
  · obtain ⟨a, ns, rfl, _⟩ := h; rfl
  · obtain ⟨a, ns, rfl, hs, hl, q⟩ := h
    refine ⟨_, (pss_one (ps_ret (pe_op op_cat (pe_lst (pa_cons pe_int (pa_cons pe_int (pa_cons pe_int (pa_cons pe_int pa_nil))))) (pe_callTy call_list_of (by rfl) T.m_list (by decide +kernel) (pa_cons (pe_slice sl_list (pv 0) po_none (po_some pe_int)) pa_nil))))), ?_⟩
    walk_at "start"
    walk_at "sts"
    intro p hp
    walk_at "sts"
    refine r_slL (Keep.l (Keep.new (M := []) hp) (by simp) hs) (fun p2 hp2 => ?_)
    walk_at "sts"
    intro p3 hp3
    have n2 : p ≠ p2 := ne_of_none (o := .lst [.int 4, .int 0, .int 0, .int 0]) upd_same hp2
    have n3 : p ≠ p3 := by
      refine ne_of_none (o := .lst [.int 4, .int 0, .int 0, .int 0]) ?_ hp3
      rw [upd_ne n2]; exact upd_same
    have e : cutV (ns.map V.int) none (some 63) = ns.map V.int := by
      unfold cutV
      rw [show HT.sIx (ns.map V.int).length (ns.map V.int).length (some 63) = min 63 (ns.map V.int).length from HT.sIx_nat _ _ 63, HT.sIx_none, List.length_map, Nat.min_eq_right hl, Nat.sub_zero, List.drop_zero]
      exact List.take_of_length_le (by rw [List.length_map]; exact Nat.le_refl _)
    refine r_cat (by rw [upd_ne n3, upd_ne n2]; exact upd_same) upd_same (le_size (by rw [e, List.length_map]; simp only [List.length_cons, List.length_nil]; omega)) (fun p4 hp4 => ?_)
    have k3 : Keep [] H (upd (upd (upd H p (.lst [.int 4, .int 0, .int 0, .int 0])) p2 (.lst (cutV (ns.map V.int) none (some 63)))) p3 (.lst (cutV (ns.map V.int) none (some 63)))) := ((Keep.new hp).trans (Keep.new hp2)).trans (Keep.new hp3)
    refine q p4 _ (k3.trans (Keep.new hp4)) (k3.free (by simp) hp4) ⟨_, upd_same, 4, 0, 0, 0, ns, ?_, by decide, by decide, by decide, by decide, hl⟩
    rw [e]; rfl
theorem sgn_abs {s x : Int} (h0 : 0 ≤ s) (h1 : s < 2) : ((1 - 2 * s) * x).natAbs = x.natAbs := by
  have h : s = 0 ∨ s = 1 := by omega
  rcases h with rfl | rfl <;> omega
theorem ok_number (T : Tx K mg) (G_w_take : FnOk P w K mg base CX0 1 T.f_w_take T.fd_w_take ["_law_pot_here", "_law_size"] spTake) : FnOk P w K mg base CX0 2 T.f_w_number T.fd_w_number ["_law_pot_here"] (spPotInt (10 ^ 30)) := by
  refine T.F_w_number.ok sc_w_number (fun vs H Q E h => ?_) (fun cdv A outer s H vs Q E hr h => ?_)
  · obtain ⟨a, rfl, _⟩ := h; rfl
  · obtain ⟨a, rfl, hp, q⟩ := h
    refine ⟨_, (pss_cons (ps_set (i := 1) sc_w_number.nd rfl (Or.inl rfl) (pe_call G_w_take (hr.mono (by decide)) rfl T.g_w_take T.F_w_take.kp T.b_w_take .nil pass0 (pa_cons (pv 0) (pa_cons pe_int pa_nil))))
    (pss_cons (ps_set (i := 2) sc_w_number.nd rfl (Or.inl rfl) (pe_op op_sub pe_int (pe_op op_mul pe_int (pe_call G_w_take (hr.mono (by decide)) rfl T.g_w_take T.F_w_take.kp T.b_w_take .nil pass0 (pa_cons (pv 0) (pa_cons pe_int pa_nil))))))
    (pss_cons (ps_if (pt_cmpR op_eq (pv 1) pe_int (nomark _))
    (pss_one (ps_ret (pe_op op_mulG (pv 2) (pe_call G_w_take (hr.mono (by decide)) rfl T.g_w_take T.F_w_take.kp T.b_w_take .nil pass0 (pa_cons (pv 0) (pa_cons pe_int pa_nil))))))
    pss_nil)
    (pss_cons (ps_if (pt_cmpR op_eq (pv 1) pe_int (nomark _))
    (pss_one (ps_ret (pe_op op_mulG (pv 2) (pe_call G_w_take (hr.mono (by decide)) rfl T.g_w_take T.F_w_take.kp T.b_w_take .nil pass0 (pa_cons (pv 0) (pa_cons pe_int pa_nil))))))
    pss_nil)
    (pss_cons (ps_if (pt_cmpR op_eq (pv 1) pe_int (nomark _))
    (pss_cons (ps_set (i := 3) sc_w_number.nd rfl (Or.inl rfl) (pe_ix ix_list (pe_lst (pa_cons pe_int (pa_cons (pe_op op_pow pe_int pe_int) (pa_cons (pe_op op_add (pe_op op_pow pe_int pe_int) pe_int) (pa_cons (pe_op op_pow pe_int pe_int) (pa_cons (pe_op op_pow pe_int pe_int) (pa_cons (pe_op op_pow pe_int pe_int) pa_nil))))))) (pe_call G_w_take (hr.mono (by decide)) rfl T.g_w_take T.F_w_take.kp T.b_w_take .nil pass0 (pa_cons (pv 0) (pa_cons pe_int pa_nil))) (fun _ _ => rfl)))
    (pss_one (ps_ret (pe_op op_mulG (pv 2) (pe_op op_sub (pe_op op_sub (pv 3) pe_int) (pe_call G_w_take (hr.mono (by decide)) rfl T.g_w_take T.F_w_take.kp T.b_w_take .nil pass0 (pa_cons (pv 0) (pa_cons pe_int pa_nil))))))))
    pss_nil)
    (pss_cons (ps_set (i := 4) sc_w_number.nd rfl (Or.inl rfl) (pe_op op_add (pe_op op_mulG (pe_call G_w_take (hr.mono (by decide)) rfl T.g_w_take T.F_w_take.kp T.b_w_take .nil pass0 (pa_cons (pv 0) (pa_cons (pe_op op_pow pe_int pe_int) pa_nil))) (pe_op op_pow pe_int pe_int)) (pe_op op_mul (pe_call G_w_take (hr.mono (by decide)) rfl T.g_w_take T.F_w_take.kp T.b_w_take .nil pass0 (pa_cons (pv 0) (pa_cons (pe_op op_pow pe_int pe_int) pa_nil))) (pe_op op_pow pe_int pe_int))))
    (pss_one (ps_ret (pe_op op_mulG (pv 2) (pe_op op_add (pv 4) (pe_call G_w_take (hr.mono (by decide)) rfl T.g_w_take T.F_w_take.kp T.b_w_take .nil pass0 (pa_cons (pv 0) (pa_cons (pe_op op_pow pe_int pe_int) pa_nil))))))))))))), ?_⟩
    walk_at "start"
    walk_at "sts"
    refine r_take hp (by omega) (by omega) fun r1 H1 a1 b1 k1 p1 => ?_
    walk_at "sts"
    refine r_take p1 (by omega) (by omega) fun r2 H2 a2 b2 k2 p2 => ?_
    walk_at "sts"
    refine r_ite (fun c1 => ?_) (fun c1 => ?_)
    · walk_at "sts"
      refine r_take p2 (by omega) (by omega) fun r3 H3 a3 b3 k3 p3 => ?_
      walk_at "sts"
      exact q _ _ (by rw [sgn_abs a2 b2]; omega) (k1.trans (k2.trans k3)) p3
    walk_at "sts"
    refine r_ite (fun c2 => ?_) (fun c2 => ?_)
    · walk_at "sts"
      refine r_take p2 (by omega) (by omega) fun r3 H3 a3 b3 k3 p3 => ?_
      walk_at "sts"
      exact q _ _ (by rw [sgn_abs a2 b2]; omega) (k1.trans (k2.trans k3)) p3
    walk_at "sts"
    refine r_ite (fun c3 => ?_) (fun c3 => ?_)
    · walk_at "sts"
      intro l hl
      walk_at "sts"
      refine r_take (p2.new hl) (by omega) (by omega) fun r3 H3 a3 b3 k3 p3 => ?_
      have el : H3 l = some (.lst ([2, 10 ^ 9, 2 ^ 53 + 3, 10 ^ 18, 10 ^ 29, 10 ^ 30].map V.int)) := k3 l _ (by simp; exact p2.ne hl) upd_same
      walk_at "sts"
      have hb := getD_all (p := fun x => 2 ≤ x ∧ x ≤ 10 ^ 30) (P := [2, 10 ^ 9, 2 ^ 53 + 3, 10 ^ 18, 10 ^ 29, 10 ^ 30]) (i := r3.toNat) (by decide) (by show r3.toNat < 6; omega)
      generalize List.getD [2, 10 ^ 9, 2 ^ 53 + 3, 10 ^ 18, 10 ^ 29, 10 ^ 30] r3.toNat (0 : Int) = ed at hb ⊢
      walk_at "sts"
      refine r_take p3 (by omega) (by omega) fun r4 H4 a4 b4 k4 p4 => ?_
      walk_at "sts"
      exact q _ _ (by rw [sgn_abs a2 b2]; omega) (k1.trans (k2.trans ((Keep.new hl).trans (k3.trans k4)))) p4
    walk_at "sts"
    refine r_take p2 (by omega) (by omega) fun r3 H3 a3 b3 k3 p3 => ?_
    walk_at "sts"
    refine r_take p3 (by omega) (by omega) fun r4 H4 a4 b4 k4 p4 => ?_
    walk_at "sts"
    refine r_take p4 (by omega) (by omega) fun r5 H5 a5 b5 k5 p5 => ?_
    walk_at "sts"
    exact q _ _ (by rw [sgn_abs a2 b2]; omega) (k1.trans (k2.trans (k3.trans (k4.trans k5)))) p5
theorem ok_short (T : Tx K mg) (G_w_take : FnOk P w K mg base CX0 1 T.f_w_take T.fd_w_take ["_law_pot_here", "_law_size"] spTake) : FnOk P w K mg base CX0 2 T.f_w_short T.fd_w_short ["_law_pot_here"] (spPotInt (10 ^ 10)) := by
  refine T.F_w_short.ok sc_w_short (fun vs H Q E h => ?_) (fun cdv A outer s H vs Q E hr h => ?_)
  · obtain ⟨a, rfl, _⟩ := h; rfl
  · obtain ⟨a, rfl, hp, q⟩ := h
    refine ⟨_, (pss_cons (ps_set (i := 1) sc_w_short.nd rfl (Or.inl rfl) (pe_op op_sub pe_int (pe_op op_mul pe_int (pe_call G_w_take (hr.mono (by decide)) rfl T.g_w_take T.F_w_take.kp T.b_w_take .nil pass0 (pa_cons (pv 0) (pa_cons pe_int pa_nil))))))
    (pss_cons (ps_if (pt_cmpR op_eq (pe_call G_w_take (hr.mono (by decide)) rfl T.g_w_take T.F_w_take.kp T.b_w_take .nil pass0 (pa_cons (pv 0) (pa_cons pe_int pa_nil))) pe_int (nomark _))
    (pss_one (ps_ret (pe_op op_mulG (pv 1) (pe_call G_w_take (hr.mono (by decide)) rfl T.g_w_take T.F_w_take.kp T.b_w_take .nil pass0 (pa_cons (pv 0) (pa_cons pe_int pa_nil))))))
    pss_nil)
    (pss_one (ps_ret (pe_op op_mulG (pv 1) (pe_call G_w_take (hr.mono (by decide)) rfl T.g_w_take T.F_w_take.kp T.b_w_take .nil pass0 (pa_cons (pv 0) (pa_cons (pe_op op_pow pe_int pe_int) pa_nil)))))))), ?_⟩
    walk_at "start"
    walk_at "sts"
    refine r_take hp (by omega) (by omega) fun r1 H1 a1 b1 k1 p1 => ?_
    walk_at "sts"
    refine r_take p1 (by omega) (by omega) fun r2 H2 a2 b2 k2 p2 => ?_
    walk_at "sts"
    refine r_ite (fun c1 => ?_) (fun c1 => ?_)
    · walk_at "sts"
      refine r_take p2 (by omega) (by omega) fun r3 H3 a3 b3 k3 p3 => ?_
      walk_at "sts"
      exact q _ _ (by rw [sgn_abs a1 b1]; omega) (k1.trans (k2.trans k3)) p3
    · walk_at "sts"
      refine r_take p2 (by omega) (by omega) fun r3 H3 a3 b3 k3 p3 => ?_
      walk_at "sts"
      exact q _ _ (by rw [sgn_abs a1 b1]; omega) (k1.trans (k2.trans k3)) p3
theorem ok_row (T : Tx K mg) (G_w_take : FnOk P w K mg base CX0 1 T.f_w_take T.fd_w_take ["_law_pot_here", "_law_size"] spTake) (G_w_number : FnOk P w K mg base CX0 2 T.f_w_number T.fd_w_number ["_law_pot_here"] (spPotInt (10 ^ 30)))
    (G_w_short : FnOk P w K mg base CX0 2 T.f_w_short T.fd_w_short ["_law_pot_here"] (spPotInt (10 ^ 10))) : FnOk P w K mg base CX0 3 T.f_w_row T.fd_w_row ["_law_pot_here", "_law_many"] spRow := by
  refine T.F_w_row.ok sc_w_row (fun vs H Q E h => ?_) (fun cdv A outer s H vs Q E hr h => ?_)
  · obtain ⟨a, n, rfl, _⟩ := h; rfl
  · obtain ⟨a, n, rfl, hp, hn0, hn1, q⟩ := h
    refine ⟨_, (pss_cons (ps_if (pt_cmpR op_eq (pe_call G_w_take (hr.mono (by decide)) rfl T.g_w_take T.F_w_take.kp T.b_w_take .nil pass0 (pa_cons (pv 0) (pa_cons pe_int pa_nil))) pe_int (nomark _))
    (pss_one (ps_ret (pe_lc (own := [("_law_k", 2)]) (g := gName 2) (tt := tYes) rfl sc_w_row.nd (pi_range1 rfl T.m_range (pa_cons (pv 1) pa_nil)) (blkOk_by (own := [("_law_k", 2)]) (N := ["_law_pot_here", "_law_many", "_law_k", "_law_factor"]) (sc := defScope s_w_row) (by decide +kernel)) (fun _ _ _ _ _ => pg_name (i := 2) sc_w_row.nd rfl (Or.inl rfl)) (fun _ _ _ _ _ => pts_nil) (fun _ _ _ _ _ => (pe_call G_w_number (hr.mono (by decide)) rfl T.g_w_number T.F_w_number.kp T.b_w_number .nil pass0 (pa_cons (pv 0) pa_nil))))))
    pss_nil)
    (pss_cons (ps_set (i := 3) sc_w_row.nd rfl (Or.inr rfl) (pe_op op_add pe_int (pe_call G_w_take (hr.mono (by decide)) rfl T.g_w_take T.F_w_take.kp T.b_w_take .nil pass0 (pa_cons (pv 0) (pa_cons (pe_op op_pow pe_int pe_int) pa_nil)))))
    (pss_one (ps_ret (pe_lc (own := [("_law_k", 2)]) (g := gName 2) (tt := tYes) rfl sc_w_row.nd (pi_range1 rfl T.m_range (pa_cons (pv 1) pa_nil)) (blkOk_by (own := [("_law_k", 2)]) (N := ["_law_pot_here", "_law_many", "_law_k", "_law_factor"]) (sc := defScope s_w_row) (by decide +kernel)) (fun _ _ _ _ _ => pg_name (i := 2) sc_w_row.nd rfl (Or.inl rfl)) (fun _ _ _ _ _ => pts_nil) (fun _ _ _ _ _ => (pe_op op_mulG (pv 3) (pe_call G_w_short (hr.mono (by decide)) rfl T.g_w_short T.F_w_short.kp T.b_w_short .nil pass0 (pa_cons (pv 0) pa_nil))))))))), ?_⟩
    walk_at "start"
    walk_at "sts"
    refine r_take hp (by omega) (by omega) fun r1 H1 a1 b1 k1 p1 => ?_
    walk_at "sts"
    refine r_ite (fun c1 => ?_) (fun c1 => ?_)
    · walk_at "sts"
      refine lcR1_go (fun D i acc H' => Keep [a] H1 H' ∧ PotAt a H' ∧ D ≠ a ∧ H1 D = none ∧ ∃ ns : List Int, acc = ns.map V.int ∧ ns.length = i ∧ ∀ x ∈ ns, x.natAbs < 10 ^ 30) (by omega) (fun D hD => ⟨Keep.new hD, p1.new hD, p1.ne hD, hD, [], rfl, rfl, by simp⟩) ?_ ?_
      · rintro D i acc H' hi hD ⟨k2, p2, hne, hfr, ns, rfl, hl, hb⟩
        walk_at "sts"
        refine r_potInt p2 fun r H2 hr k3 p3 => ?_
        refine lc_put (Keep.out k3 (by simpa using hne) hD) (lt_size (by rw [List.length_map]; omega)) ?_
        refine ⟨(k2.trans k3).mut hfr, p3.put hne, hne, hfr, ns ++ [r], by simp, by simp [hl], ?_⟩
        intro x hx
        rcases List.mem_append.mp hx with hx | hx
        · exact hb x hx
        · rw [List.mem_singleton.mp hx]; exact hr
      · rintro D acc H' hD hD' ⟨k2, p2, hne, hfr, ns, rfl, hl, hb⟩
        exact q D ns H' hl hb (k1.trans k2) p2 (k1.free (by simpa using hne) hD) hD'
    walk_at "sts"
    refine r_take p1 (by omega) (by omega) fun r2 H2 a2 b2 k2 p2 => ?_
    walk_at "sts"
    refine lcR1_go (fun D i acc H' => Keep [a] H2 H' ∧ PotAt a H' ∧ D ≠ a ∧ H2 D = none ∧ ∃ ns : List Int, acc = ns.map V.int ∧ ns.length = i ∧ ∀ x ∈ ns, x.natAbs < 10 ^ 30) (by omega) (fun D hD => ⟨Keep.new hD, p2.new hD, p2.ne hD, hD, [], rfl, rfl, by simp⟩) ?_ ?_
    · rintro D i acc H' hi hD ⟨k3, p3, hne, hfr, ns, rfl, hl, hb⟩
      walk_at "sts"
      refine r_potInt p3 fun r H3 hr k4 p4 => ?_
      walk_at "sts"
      refine lc_put (Keep.out k4 (by simpa using hne) hD) (lt_size (by rw [List.length_map]; omega)) ?_
      refine ⟨(k3.trans k4).mut hfr, p4.put hne, hne, hfr, ns ++ [(1 + r2) * r], by simp, by simp [hl], ?_⟩
      intro x hx
      rcases List.mem_append.mp hx with hx | hx
      · exact hb x hx
      · rw [List.mem_singleton.mp hx, Int.natAbs_mul]
        exact Nat.lt_of_lt_of_le (Nat.mul_lt_mul'' (show (1 + r2).natAbs < 10 ^ 10 by omega) hr) (by decide)
    · rintro D acc H' hD hD' ⟨k3, p3, hne, hfr, ns, rfl, hl, hb⟩
      exact q D ns H' hl hb (k1.trans (k2.trans k3)) p3 ((k1.trans k2).free (by simpa using hne) hD) hD'
end
section
variable {Q : VK} {E : XK} {H : Hp}
theorem r_low {t b : Int} (hb : b ≠ 0) (hz : b.natAbs < 2 ^ 8000) (k : ∀ (p : Addr) (H' : Hp), Keep [] H H' → H p = none → H' p = some (.tup [.int (lowT t b), .int (lowB t b)]) → Q (.ref p) H') : spLow [.int t, .int b] H Q E := ⟨t, b, rfl, hb, hz, k⟩
def spTwo (f : Int → Int → Int → Int → Int × Int) : Sp := fun vs H Q _ => ∃ (p q : Addr) (a b c d : Int), vs = [.ref p, .ref q] ∧ H p = some (.tup [.int a, .int b]) ∧ H q = some (.tup [.int c, .int d]) ∧ b ≠ 0 ∧ d ≠ 0 ∧ a.natAbs < 2 ^ 1000 ∧ b.natAbs < 2 ^ 1000 ∧ c.natAbs < 2 ^ 1000 ∧ d.natAbs < 2 ^ 1000 ∧
  ∀ (r : Addr) (H' : Hp), Keep [] H H' → H r = none → H' r = some (.tup [.int (lowT (f a b c d).1 (f a b c d).2), .int (lowB (f a b c d).1 (f a b c d).2)]) → Q (.ref r) H'
def fPlus (a b c d : Int) : Int × Int := (a * d + c * b, b * d)
def fTimes (a b c d : Int) : Int × Int := (a * c, b * d)
theorem r_two {f : Int → Int → Int → Int → Int × Int} {p q : Addr} {a b c d : Int} (hp : H p = some (.tup [.int a, .int b])) (hq : H q = some (.tup [.int c, .int d])) (hb : b ≠ 0) (hd : d ≠ 0) (za : a.natAbs < 2 ^ 1000) (zb : b.natAbs < 2 ^ 1000) (zc : c.natAbs < 2 ^ 1000) (zd : d.natAbs < 2 ^ 1000)
  (k : ∀ (r : Addr) (H' : Hp), Keep [] H H' → H r = none → H' r = some (.tup [.int (lowT (f a b c d).1 (f a b c d).2), .int (lowB (f a b c d).1 (f a b c d).2)]) → Q (.ref r) H') : spTwo f [.ref p, .ref q] H Q E := ⟨p, q, a, b, c, d, rfl, hp, hq, hb, hd, za, zb, zc, zd, k⟩
def spCmp : Sp := fun vs H Q _ => ∃ (p q : Addr) (a b c d : Int), vs = [.ref p, .ref q] ∧ H p = some (.tup [.int a, .int b]) ∧ H q = some (.tup [.int c, .int d]) ∧ a.natAbs < 2 ^ 1000 ∧ b.natAbs < 2 ^ 1000 ∧ c.natAbs < 2 ^ 1000 ∧ d.natAbs < 2 ^ 1000 ∧
  Q (.int (if a * d = c * b then 0 else if a * d < c * b then -1 else 1)) H
theorem r_cmp {p q : Addr} {a b c d : Int} (hp : H p = some (.tup [.int a, .int b])) (hq : H q = some (.tup [.int c, .int d])) (za : a.natAbs < 2 ^ 1000) (zb : b.natAbs < 2 ^ 1000) (zc : c.natAbs < 2 ^ 1000) (zd : d.natAbs < 2 ^ 1000)
  (k : Q (.int (if a * d = c * b then 0 else if a * d < c * b then -1 else 1)) H) : spCmp [.ref p, .ref q] H Q E := ⟨p, q, a, b, c, d, rfl, hp, hq, za, zb, zc, zd, k⟩
def spWhole : Sp := fun vs H Q _ => ∃ i : Int, vs = [.int i] ∧ Q (.bl true) H
def spSign : Sp := fun vs H Q _ => ∃ i : Int, vs = [.int i] ∧ Q (.int ((if decide (0 < i) = true then 1 else 0) - (if decide (i < 0) = true then 1 else 0))) H
def spPairIs : Sp := fun vs H Q _ => ∃ (p q : Addr) (a b : Int), vs = [.ref p, .ref q] ∧ H p = some (.tup [.int a, .int b]) ∧ H q = some (.tup [.int a, .int b]) ∧ Q (.bl true) H
def gcdAll (ns : List Int) : Int := ns.foldl (fun g x => ((Nat.gcd g.natAbs x.natAbs : Nat) : Int)) 0
def spComm : Sp := fun vs H Q _ => ∃ (p : Addr) (ns : List Int), vs = [.ref p] ∧ H p = some (.tup (ns.map V.int)) ∧ Q (.int (gcdAll ns)) H
def spLComm : Sp := fun vs H Q _ => ∃ (p : Addr) (ns : List Int), vs = [.ref p] ∧ H p = some (.lst (ns.map V.int)) ∧ ns.length ≤ 6 ∧ ∀ H', Keep [] H H' → Q (.int (gcdAll ns)) H'
def spRatX : Sp := fun vs H _ E => ∃ t : Int, vs = [.int t, .int 0] ∧ E (.type "ZeroDivisionError") none H
theorem r_pairIs {p q : Addr} {a b : Int} (hp : H p = some (.tup [.int a, .int b])) (hq : H q = some (.tup [.int a, .int b])) (k : Q (.bl true) H) : spPairIs [.ref p, .ref q] H Q E := ⟨p, q, a, b, rfl, hp, hq, k⟩
theorem r_whole {i : Int} (k : Q (.bl true) H) : spWhole [.int i] H Q E := ⟨i, rfl, k⟩
end
section
variable {P : Program} {w : World} {K : PySem.W.Frag} {mg : Str → Option Value} {base : Heap}
theorem ok_ratio (T : Tx K mg) : FnOk P w K mg base CX0 1 T.f_ratio T.fd_ratio ["top", "bottom"] spLow := by
  refine T.F_ratio.ok sc_ratio (fun vs H Q E h => ?_) (fun cdv A outer s H vs Q E hr h => ?_)
  · obtain ⟨a, b, rfl, _⟩ := h; rfl
  · obtain ⟨t, b, rfl, hb, hz, q⟩ := h
    refine ⟨_, PSs.nox (pss_cons (ps_if (pt_cmpR op_eq (pv 1) pe_int (nomark _))
    (pss_one ps_never)
    pss_nil)
    (pss_cons (ps_set (i := 2) sc_ratio.nd rfl (Or.inl rfl) (pe_callBfun cr_gcd rfl T.m_gcd (pa_cons (pv 0) (pa_cons (pv 1) pa_nil))))
    (pss_cons (ps_if (pt_cmpR op_lt (pv 1) pe_int (nomark _))
    (pss_one (ps_set (i := 2) sc_ratio.nd rfl (Or.inl rfl) (pe_un un_neg (pv 2))))
    pss_nil)
    (pss_one (ps_ret (pe_tup (pa_cons (pe_op op_fdivWN (pv 0) (pv 2)) (pa_cons (pe_op op_fdivWN (pv 1) (pv 2)) pa_nil)))))))), ?_⟩
    walk_at "start"
    walk_at "sts"
    have hl : (dv t b).natAbs.log2 < 9000 := log_ok 8000 (by rw [dv_abs]; exact Nat.lt_of_le_of_lt (gcd_le hb) hz)
    have hn := dv_ne (t := t) hb
    refine r_ite (fun c => ?_) (fun c => ?_)
    · have e : dv t b = -((Nat.gcd t.natAbs b.natAbs : Nat) : Int) := by unfold dv; rw [if_pos c]
      rw [e] at hl hn
      walk_at "sts"
      intro p hp
      refine q p _ (Keep.new hp) hp ?_
      rw [upd_same]; unfold lowT lowB; rw [e]
    · have e : dv t b = ((Nat.gcd t.natAbs b.natAbs : Nat) : Int) := by unfold dv; rw [if_neg c]
      rw [e] at hl hn
      walk_at "sts"
      intro p hp
      refine q p _ (Keep.new hp) hp ?_
      rw [upd_same]; unfold lowT lowB; rw [e]
theorem ok_compare (T : Tx K mg) : FnOk P w K mg base CX0 1 T.f_compare T.fd_compare ["first", "second"] spCmp := by
  refine T.F_compare.ok sc_compare (fun vs H Q E h => ?_) (fun cdv A outer s H vs Q E hr h => ?_)
  · obtain ⟨p, q, a, b, c, d, rfl, _⟩ := h; rfl
  · obtain ⟨p, q, a, b, c, d, rfl, hp, hq, za, zb, zc, zd, k⟩ := h
    refine ⟨_, (pss_cons (ps_set (i := 2) sc_compare.nd rfl (Or.inl rfl) (pe_op op_mulG (pe_ix ix_tup (pv 0) pe_int (fun _ _ => rfl)) (pe_ix ix_tup (pv 1) pe_int (fun _ _ => rfl))))
    (pss_cons (ps_set (i := 3) sc_compare.nd rfl (Or.inl rfl) (pe_op op_mulG (pe_ix ix_tup (pv 1) pe_int (fun _ _ => rfl)) (pe_ix ix_tup (pv 0) pe_int (fun _ _ => rfl))))
    (pss_cons (ps_if (pt_cmpR op_eq (pv 2) (pv 3) (nomark _))
    (pss_one (ps_ret pe_int))
    pss_nil)
    (pss_one (ps_ret (pe_ifExp (pt_cmpR op_lt (pv 2) (pv 3) (nomark _)) (pe_un un_neg pe_int) pe_int)))))), ?_⟩
    walk_at "start"
    walk_at "sts"
    refine r_I (mulw 1000 1000 za zd) ?_
    walk_at "sts"
    refine r_I (mulw 1000 1000 zc zb) ?_
    walk_at "sts"
    refine r_ite (fun c1 => ?_) (fun c1 => ?_)
    · walk_at "sts"
      rw [if_pos c1] at k; exact k
    walk_at "sts"
    rw [if_neg c1] at k
    refine r_ite (fun c2 => ?_) (fun c2 => ?_)
    · walk_at "sts"
      rw [if_pos c2] at k; exact k
    · walk_at "sts"
      rw [if_neg c2] at k; exact k
theorem ok_plus (T : Tx K mg) (G_ratio : FnOk P w K mg base CX0 1 T.f_ratio T.fd_ratio ["top", "bottom"] spLow) : FnOk P w K mg base CX0 2 T.f_plus T.fd_plus ["first", "second"] (spTwo fPlus) := by
  refine T.F_plus.ok sc_plus (fun vs H Q E h => ?_) (fun cdv A outer s H vs Q E hr h => ?_)
  · obtain ⟨p, q, a, b, c, d, rfl, _⟩ := h; rfl
  · obtain ⟨p, q, a, b, c, d, rfl, hp, hq, hb, hd, za, zb, zc, zd, k⟩ := h
    refine ⟨_, (pss_one (ps_ret (pe_call G_ratio (hr.mono (by decide)) rfl T.g_ratio T.F_ratio.kp T.b2_ratio.choose_spec.2 T.b2_ratio.choose_spec.1 pass0 (pa_cons (pe_op op_add (pe_op op_mulG (pe_ix ix_tup (pv 0) pe_int (fun _ _ => rfl)) (pe_ix ix_tup (pv 1) pe_int (fun _ _ => rfl))) (pe_op op_mulG (pe_ix ix_tup (pv 1) pe_int (fun _ _ => rfl)) (pe_ix ix_tup (pv 0) pe_int (fun _ _ => rfl)))) (pa_cons (pe_op op_mulG (pe_ix ix_tup (pv 0) pe_int (fun _ _ => rfl)) (pe_ix ix_tup (pv 1) pe_int (fun _ _ => rfl))) pa_nil))))), ?_⟩
    walk_at "start"
    walk_at "sts"
    refine r_I (mulw 1000 1000 za zd) ?_
    walk_at "sts"
    refine r_I (mulw 1000 1000 zc zb) ?_
    walk_at "sts"
    refine r_I (mulw 1000 1000 zb zd) ?_
    walk_at "sts"
    exact r_low (Int.mul_ne_zero hb hd) (pow_mono 2000 8000 (wide_lt zb zd)) k
theorem ok_times (T : Tx K mg) (G_ratio : FnOk P w K mg base CX0 1 T.f_ratio T.fd_ratio ["top", "bottom"] spLow) : FnOk P w K mg base CX0 2 T.f_times T.fd_times ["first", "second"] (spTwo fTimes) := by
  refine T.F_times.ok sc_times (fun vs H Q E h => ?_) (fun cdv A outer s H vs Q E hr h => ?_)
  · obtain ⟨p, q, a, b, c, d, rfl, _⟩ := h; rfl
  · obtain ⟨p, q, a, b, c, d, rfl, hp, hq, hb, hd, za, zb, zc, zd, k⟩ := h
    refine ⟨_, (pss_one (ps_ret (pe_call G_ratio (hr.mono (by decide)) rfl T.g_ratio T.F_ratio.kp T.b2_ratio.choose_spec.2 T.b2_ratio.choose_spec.1 pass0 (pa_cons (pe_op op_mulG (pe_ix ix_tup (pv 0) pe_int (fun _ _ => rfl)) (pe_ix ix_tup (pv 1) pe_int (fun _ _ => rfl))) (pa_cons (pe_op op_mulG (pe_ix ix_tup (pv 0) pe_int (fun _ _ => rfl)) (pe_ix ix_tup (pv 1) pe_int (fun _ _ => rfl))) pa_nil))))), ?_⟩
    walk_at "start"
    walk_at "sts"
    refine r_I (mulw 1000 1000 za zc) ?_
    walk_at "sts"
    refine r_I (mulw 1000 1000 zb zd) ?_
    walk_at "sts"
    exact r_low (Int.mul_ne_zero hb hd) (pow_mono 2000 8000 (wide_lt zb zd)) k
theorem ok_whole (T : Tx K mg) : FnOk P w K mg base CX0 1 T.f_w_whole T.fd_w_whole ["_law_found"] spWhole := by
  refine T.F_w_whole.ok sc_w_whole (fun vs H Q E h => ?_) (fun cdv A outer s H vs Q E hr h => ?_)
  · obtain ⟨i, rfl, _⟩ := h; rfl
  · obtain ⟨i, rfl, k⟩ := h
    refine ⟨_, (pss_one (ps_ret (pe_and (pe_callB call_isi (by rfl) T.m_isinstance (by decide +kernel) (pa_cons (pv 0) (pa_cons (pe_bltn (v := .ty "int") (by rfl) T.m_int (by decide +kernel) rfl) pa_nil))) (pe_one (pe_not (pe_callB call_isi (by rfl) T.m_isinstance (by decide +kernel) (pa_cons (pv 0) (pa_cons (pe_bltn (v := .ty "bool") (by rfl) T.m_bool (by decide +kernel) rfl) pa_nil)))))))), ?_⟩
    walk_at "start"
    walk_at "sts"
    exact k
theorem ok_sign (T : Tx K mg) : FnOk P w K mg base CX0 1 T.f_w_sign T.fd_w_sign ["_law_number_here"] spSign := by
  refine T.F_w_sign.ok sc_w_sign (fun vs H Q E h => ?_) (fun cdv A outer s H vs Q E hr h => ?_)
  · obtain ⟨i, rfl, _⟩ := h; rfl
  · obtain ⟨i, rfl, k⟩ := h
    refine ⟨_, (pss_one (ps_ret (pe_op op_sub (pe_callTy call_int1 (by rfl) T.m_int (by decide +kernel) (pa_cons (pe_cmpR op_gt (pv 0) pe_int (nomark _)) pa_nil)) (pe_callTy call_int1 (by rfl) T.m_int (by decide +kernel) (pa_cons (pe_cmpR op_lt (pv 0) pe_int (nomark _)) pa_nil))))), ?_⟩
    walk_at "start"
    walk_at "sts"
    exact k
theorem ok_pairIs (T : Tx K mg) (G_w_whole : FnOk P w K mg base CX0 1 T.f_w_whole T.fd_w_whole ["_law_found"] spWhole) : FnOk P w K mg base CX0 2 T.f_w_pair_is T.fd_w_pair_is ["_law_found", "_law_pair"] spPairIs := by
  refine T.F_w_pair_is.ok sc_w_pair_is (fun vs H Q E h => ?_) (fun cdv A outer s H vs Q E hr h => ?_)
  · obtain ⟨p, q, a, b, rfl, _⟩ := h; rfl
  · obtain ⟨p, q, a, b, rfl, hp, hq, k⟩ := h
    refine ⟨_, (pss_cons (ps_if (PW.pt (pw_or (pt_not (pt_val (pe_callB call_isi (by rfl) T.m_isinstance (by decide +kernel) (pa_cons (pv 0) (pa_cons (pe_bltn (v := .ty "tuple") (by rfl) T.m_tuple (by decide +kernel) rfl) pa_nil))))) (pw_or1 (pt_cmpR op_ne (pe_callB call_len_seq (by rfl) T.m_len PySem.boot_len (pa_cons (pv 0) pa_nil)) pe_int (nomark _)))))
    (pss_one (ps_ret pe_bl))
    pss_nil)
    (pss_cons (ps_if (PW.pt (pw_or (pt_not (pt_val (pe_call G_w_whole (hr.mono (by decide)) rfl T.g_w_whole T.F_w_whole.kp T.b_w_whole .nil pass0 (pa_cons (pe_ix ix_tup (pv 0) pe_int (fun _ _ => rfl)) pa_nil)))) (pw_or1 (pt_not (pt_val (pe_call G_w_whole (hr.mono (by decide)) rfl T.g_w_whole T.F_w_whole.kp T.b_w_whole .nil pass0 (pa_cons (pe_ix ix_tup (pv 0) pe_int (fun _ _ => rfl)) pa_nil)))))))
    (pss_one (ps_ret pe_bl))
    pss_nil)
    (pss_one (ps_ret (pe_and (pe_cmpR op_eq (pe_ix ix_tup (pv 0) pe_int (fun _ _ => rfl)) (pe_ix ix_tup (pv 1) pe_int (fun _ _ => rfl)) (nomark _)) (pe_one (pe_cmpR op_eq (pe_ix ix_tup (pv 0) pe_int (fun _ _ => rfl)) (pe_ix ix_tup (pv 1) pe_int (fun _ _ => rfl)) (nomark _)))))))), ?_⟩
    walk_at "start"
    walk_at "sts"
    refine r_whole ?_
    walk_at "sts"
    refine r_whole ?_
    walk_at "sts"
    rw [decide_eq_true rfl]
    exact k
theorem ok_common (T : Tx K mg) : FnR P w K mg base CX0 1 T.f_common (fun vs H Q E => ∃ ws rest, vs = ws ++ rest ∧ ws.length = 0 ∧ rest.length ≤ sizeLine ∧ ∀ p, H p = Option.none → spComm (ws ++ [V.ref p]) (upd H p (.tup rest)) Q E) := by
  refine My.Fun.okStar (ps := []) T.F_common sc_common (fun _ _ _ _ _ _ us rest hl => ?_) (fun cdv A outer s H vs Q E hr h => ?_)
  · match us, hl with
    | [], _ => cases rest <;> rfl
  · obtain ⟨p, ns, rfl, hp, k⟩ := h
    refine ⟨_, (pss_cons (ps_set (i := 1) sc_common.nd rfl (Or.inl rfl) pe_int)
    (pss_cons (ps_for PassesOwn.never rfl (pi_tup (pv 0)) (pg_name (i := 2) sc_common.nd rfl (Or.inl rfl))
    (pss_one (ps_set (i := 1) sc_common.nd rfl (Or.inl rfl) (pe_callBfun cr_gcd rfl T.m_gcd (pa_cons (pv 1) (pa_cons (pv 2) pa_nil))))))
    (pss_one (ps_ret (pv 1))))), ?_⟩
    walk_at "start"
    walk_at "sts"
    refine forT_go (fun i σ' H' => ∃ z, σ' = [some (.ref p), some (.int (gcdAll (ns.take i))), z] ∧ H' = H) (sqT_of hp) ⟨_, rfl, rfl⟩ (fun i σ' H' _ h => by obtain ⟨z, _, rfl⟩ := h; exact sqT_of hp) ?_ ?_
    · rintro i x σ' H' hx ⟨z, rfl, rfl⟩
      obtain ⟨y, hy, rfl⟩ : ∃ y, ns[i]? = some y ∧ V.int y = x := by
        rw [List.getElem?_map] at hx
        cases e : ns[i]? with
        | none => rw [e] at hx; cases hx
        | some y => rw [e] at hx; exact ⟨y, rfl, Option.some.inj hx⟩
      walk_at "sts"
      refine ⟨some (.int y), ?_, rfl⟩
      rw [List.take_add_one, hy]
      unfold gcdAll
      rw [List.foldl_append]; rfl
    · rintro σ' H' ⟨z, rfl, rfl⟩
      walk_at "sts"
      rw [List.length_map, List.take_length]
      exact k
theorem ok_lcommon (T : Tx K mg) (G_common : FnR P w K mg base CX0 1 T.f_common (fun vs H Q E => ∃ ws rest, vs = ws ++ rest ∧ ws.length = 0 ∧ rest.length ≤ sizeLine ∧ ∀ p, H p = Option.none → spComm (ws ++ [V.ref p]) (upd H p (.tup rest)) Q E)) :
    FnOk P w K mg base CX0 2 T.f_w_common T.fd_w_common ["_law_row_here"] spLComm := by
  refine T.F_w_common.ok sc_w_common (fun vs H Q E h => ?_) (fun cdv A outer s H vs Q E hr h => ?_)
  · obtain ⟨p, ns, rfl, _⟩ := h; rfl
  · obtain ⟨p, ns, rfl, hp, hl, k⟩ := h
    refine ⟨_, (pss_cons (ps_if (pt_cmpR op_eq (pe_callB call_len_seq (by rfl) T.m_len PySem.boot_len (pa_cons (pv 0) pa_nil)) pe_int (nomark _))
    (pss_one (ps_ret (pe_callR0 G_common (hr.mono (by decide)) rfl T.g_common T.F_common.kp pass0)))
    pss_nil)
    (pss_cons (ps_if (pt_cmpR op_eq (pe_callB call_len_seq (by rfl) T.m_len PySem.boot_len (pa_cons (pv 0) pa_nil)) pe_int (nomark _))
    (pss_one (ps_ret (pe_callR G_common (hr.mono (by decide)) rfl T.g_common T.F_common.kp pass0 (pa_cons (pe_ix ix_list (pv 0) pe_int (fun _ _ => rfl)) pa_nil))))
    pss_nil)
    (pss_cons (ps_if (pt_cmpR op_eq (pe_callB call_len_seq (by rfl) T.m_len PySem.boot_len (pa_cons (pv 0) pa_nil)) pe_int (nomark _))
    (pss_one (ps_ret (pe_callR G_common (hr.mono (by decide)) rfl T.g_common T.F_common.kp pass0 (pa_cons (pe_ix ix_list (pv 0) pe_int (fun _ _ => rfl)) (pa_cons (pe_ix ix_list (pv 0) pe_int (fun _ _ => rfl)) pa_nil)))))
    pss_nil)
    (pss_cons (ps_if (pt_cmpR op_eq (pe_callB call_len_seq (by rfl) T.m_len PySem.boot_len (pa_cons (pv 0) pa_nil)) pe_int (nomark _))
    (pss_one (ps_ret (pe_callR G_common (hr.mono (by decide)) rfl T.g_common T.F_common.kp pass0 (pa_cons (pe_ix ix_list (pv 0) pe_int (fun _ _ => rfl)) (pa_cons (pe_ix ix_list (pv 0) pe_int (fun _ _ => rfl)) (pa_cons (pe_ix ix_list (pv 0) pe_int (fun _ _ => rfl)) pa_nil))))))
    pss_nil)
    (pss_cons (ps_if (pt_cmpR op_eq (pe_callB call_len_seq (by rfl) T.m_len PySem.boot_len (pa_cons (pv 0) pa_nil)) pe_int (nomark _))
    (pss_one (ps_ret (pe_callR G_common (hr.mono (by decide)) rfl T.g_common T.F_common.kp pass0 (pa_cons (pe_ix ix_list (pv 0) pe_int (fun _ _ => rfl)) (pa_cons (pe_ix ix_list (pv 0) pe_int (fun _ _ => rfl)) (pa_cons (pe_ix ix_list (pv 0) pe_int (fun _ _ => rfl)) (pa_cons (pe_ix ix_list (pv 0) pe_int (fun _ _ => rfl)) pa_nil)))))))
    pss_nil)
    (pss_cons (ps_if (pt_cmpR op_eq (pe_callB call_len_seq (by rfl) T.m_len PySem.boot_len (pa_cons (pv 0) pa_nil)) pe_int (nomark _))
    (pss_one (ps_ret (pe_callR G_common (hr.mono (by decide)) rfl T.g_common T.F_common.kp pass0 (pa_cons (pe_ix ix_list (pv 0) pe_int (fun _ _ => rfl)) (pa_cons (pe_ix ix_list (pv 0) pe_int (fun _ _ => rfl)) (pa_cons (pe_ix ix_list (pv 0) pe_int (fun _ _ => rfl)) (pa_cons (pe_ix ix_list (pv 0) pe_int (fun _ _ => rfl)) (pa_cons (pe_ix ix_list (pv 0) pe_int (fun _ _ => rfl)) pa_nil))))))))
    pss_nil)
    (pss_one (ps_ret (pe_callR G_common (hr.mono (by decide)) rfl T.g_common T.F_common.kp pass0 (pa_cons (pe_ix ix_list (pv 0) pe_int (fun _ _ => rfl)) (pa_cons (pe_ix ix_list (pv 0) pe_int (fun _ _ => rfl)) (pa_cons (pe_ix ix_list (pv 0) pe_int (fun _ _ => rfl)) (pa_cons (pe_ix ix_list (pv 0) pe_int (fun _ _ => rfl)) (pa_cons (pe_ix ix_list (pv 0) pe_int (fun _ _ => rfl)) (pa_cons (pe_ix ix_list (pv 0) pe_int (fun _ _ => rfl)) pa_nil))))))))))))))), ?_⟩
    walk_at "start"
    walk_at "sts"
    have fin : ∀ (H1 : Hp) (rest : List V), Keep [] H H1 → rest = ns.map V.int → ∃ ws rest', rest = ws ++ rest' ∧ ws.length = 0 ∧ rest'.length ≤ sizeLine ∧ ∀ p, H1 p = Option.none → spComm (ws ++ [V.ref p]) (upd H1 p (.tup rest')) Q E0 := fun H1 rest k1 e =>
      ⟨[], rest, rfl, rfl, le_size (by rw [e, List.length_map]; omega), fun p hp => ⟨p, ns, rfl, by rw [upd_same, e], k _ (k1.trans (Keep.new hp))⟩⟩
    rcases ns with _ | ⟨x0, _ | ⟨x1, _ | ⟨x2, _ | ⟨x3, _ | ⟨x4, _ | ⟨x5, _ | ⟨x6, r⟩⟩⟩⟩⟩⟩⟩
    all_goals simp only [List.map_cons, List.map_nil, List.length_cons, List.length_nil] at hl hp fin ⊢
    · walk_at "sts"; exact fin H _ (Keep.refl _ _) rfl
    · walk_at "sts"; exact fin H _ (Keep.refl _ _) rfl
    · walk_at "sts"; exact fin H _ (Keep.refl _ _) rfl
    · walk_at "sts"; exact fin H _ (Keep.refl _ _) rfl
    · walk_at "sts"; exact fin H _ (Keep.refl _ _) rfl
    · walk_at "sts"; exact fin H _ (Keep.refl _ _) rfl
    · walk_at "sts"; exact fin H _ (Keep.refl _ _) rfl
    · omega
end
local macro_rules | `(tactic| walk_at "nin") => `(tactic| (simp only [List.mem_cons, List.not_mem_nil, or_false, not_false_eq_true]; first | done | walk_at "ne"))
theorem PotAt.keep {a : Addr} {H H' : Hp} (h : PotAt a H) (k : Keep [] H H') : PotAt a H' := by
  obtain ⟨P, hP, hp⟩ := h
  exact ⟨P, k _ _ (by simp) hP, hp⟩
def spBool : Sp := fun vs H Q _ => ∃ a : Addr, vs = [.ref a] ∧ PotAt a H ∧ ∀ H' : Hp, Keep [a] H H' → PotAt a H' → Q (.bl true) H'
def spRefused : Sp := fun vs H Q _ => ∃ t : Int, vs = [.int t] ∧ Q (.bl true) H
def spTwoRat : Sp := fun vs H Q _ => ∃ a : Addr, vs = [.ref a] ∧ PotAt a H ∧ ∀ (l p q : Addr) (x y z v : Int) (H' : Hp), Keep [a] H H' → PotAt a H' → H' l = some (.lst [.ref p, .ref q]) → H' p = some (.tup [.int x, .int y]) → H' q = some (.tup [.int z, .int v]) →
  y ≠ 0 → v ≠ 0 → x.natAbs < 2 ^ 900 → y.natAbs < 2 ^ 900 → z.natAbs < 2 ^ 900 → v.natAbs < 2 ^ 900 → Q (.ref l) H'
def spTwoRight : Sp := fun vs H Q _ => ∃ (p q : Addr) (a b c d : Int), vs = [.ref p, .ref q] ∧ H p = some (.tup [.int a, .int b]) ∧ H q = some (.tup [.int c, .int d]) ∧ b ≠ 0 ∧ d ≠ 0 ∧ a.natAbs < 2 ^ 1000 ∧ b.natAbs < 2 ^ 1000 ∧ c.natAbs < 2 ^ 1000 ∧ d.natAbs < 2 ^ 1000 ∧
  ∀ H', Keep [] H H' → Q (.bl true) H'
def spLaw (K : PySem.W.Frag) : Sp := fun vs H Q _ => ∃ (a : Addr) (ns : List Int), vs = [.ref a] ∧ SqL K H a (ns.map V.int) ∧ ns.length ≤ 63 ∧ ∀ H', Q (.bl true) H'
section
variable {Q : VK} {E : XK} {H : Hp}
theorem r_row {a : Addr} {n : Int} (hp : PotAt a H) (h0 : 0 ≤ n) (h1 : n < 100) (k : ∀ (p : Addr) (ns : List Int) (H' : Hp), ns.length = n.toNat → (∀ x ∈ ns, x.natAbs < 10 ^ 30) → Keep [a] H H' → PotAt a H' → H p = none → H' p = some (.lst (ns.map V.int)) → Q (.ref p) H') : spRow [.ref a, .int n] H Q E := ⟨a, n, rfl, hp, h0, h1, k⟩
theorem r_bool {a : Addr} (hp : PotAt a H) (k : ∀ H' : Hp, Keep [a] H H' → PotAt a H' → Q (.bl true) H') : spBool [.ref a] H Q E := ⟨a, rfl, hp, k⟩
end
theorem sgn_cmp {x y : Int} : (if x = y then (0 : Int) else if x < y then -1 else 1) = (if decide (0 < x - y) = true then 1 else 0) - (if decide (x - y < 0) = true then 1 else 0) := by
  simp only [decide_eq_true_eq]
  split
  · rw [if_neg (by omega), if_neg (by omega)]; rfl
  · split
    · rw [if_neg (by omega), if_pos (by omega)]; rfl
    · rw [if_pos (by omega), if_neg (by omega)]; rfl
theorem lowT_one {x : Int} : lowT x 1 = x := by
  unfold lowT dv
  rw [if_neg (by decide), show (1 : Int).natAbs = 1 from rfl, Nat.gcd_one_right]
  exact Int.fdiv_one x
theorem lowB_one {x : Int} : lowB x 1 = 1 := by
  unfold lowB dv
  rw [if_neg (by decide), show (1 : Int).natAbs = 1 from rfl, Nat.gcd_one_right]
  rfl
theorem natAbs_fdiv_le {x g : Int} (hg : g ≠ 0) (hd : g ∣ x) : (x.fdiv g).natAbs ≤ x.natAbs := by
  obtain ⟨k, rfl⟩ := hd
  rw [Int.mul_fdiv_cancel_left _ hg, Int.natAbs_mul]
  exact Nat.le_mul_of_pos_left _ (by omega)
theorem dv_dvd_t {t b : Int} : dv t b ∣ t := by
  have h : ((Nat.gcd t.natAbs b.natAbs : Nat) : Int) ∣ t := Int.ofNat_dvd_left.mpr (Nat.gcd_dvd_left _ _)
  unfold dv; split
  · exact (Int.neg_dvd).mpr h
  · exact h
theorem dv_dvd_b {t b : Int} : dv t b ∣ b := by
  have h : ((Nat.gcd t.natAbs b.natAbs : Nat) : Int) ∣ b := Int.ofNat_dvd_left.mpr (Nat.gcd_dvd_right _ _)
  unfold dv; split
  · exact (Int.neg_dvd).mpr h
  · exact h
theorem lowT_le {t b : Int} (h : b ≠ 0) : (lowT t b).natAbs ≤ t.natAbs := natAbs_fdiv_le (dv_ne h) dv_dvd_t
theorem lowB_le {t b : Int} (h : b ≠ 0) : (lowB t b).natAbs ≤ b.natAbs := natAbs_fdiv_le (dv_ne h) dv_dvd_b
theorem lowB_ne {t b : Int} (h : b ≠ 0) : lowB t b ≠ 0 := by
  intro e
  have hd := dv_ne (t := t) h
  have h2 : b = dv t b * lowB t b := by
    unfold lowB
    rw [Int.mul_comm]; exact (Int.fdiv_mul_cancel dv_dvd_b).symm
  rw [e, Int.mul_zero] at h2
  exact h h2
section
variable {Q : VK} {E : XK} {H : Hp}
theorem r_twoRight {p q : Addr} {a b c d : Int} (hp : H p = some (.tup [.int a, .int b])) (hq : H q = some (.tup [.int c, .int d])) (hb : b ≠ 0) (hd : d ≠ 0) (za : a.natAbs < 2 ^ 900) (zb : b.natAbs < 2 ^ 900) (zc : c.natAbs < 2 ^ 900) (zd : d.natAbs < 2 ^ 900)
  (k : ∀ H', Keep [] H H' → Q (.bl true) H') : spTwoRight [.ref p, .ref q] H Q E := ⟨p, q, a, b, c, d, rfl, hp, hq, hb, hd, pow_mono 900 1000 za, pow_mono 900 1000 zb, pow_mono 900 1000 zc, pow_mono 900 1000 zd, k⟩
end
section
variable {P : Program} {w : World} {K : PySem.W.Frag} {mg : Str → Option Value} {base : Heap}
theorem ok_ratioX (T : Tx K mg) : FnOk P w K mg base (L2.CX P w) 1 T.f_ratio T.fd_ratio ["top", "bottom"] spRatX := by
  refine T.F_ratio.ok sc_ratio (fun vs H Q E h => ?_) (fun cdv A outer s H vs Q E hr h => ?_)
  · obtain ⟨a, rfl, _⟩ := h; rfl
  · obtain ⟨t, rfl, q⟩ := h
    have tk0 : Takes (cxOf (L2.CX P w) P w K mg base ["top", "bottom", "divisor"] "ratio" (defScope s_ratio) T.f_ratio cdv A outer s H E) (fun cls d _ H => E cls d H) := takes_of rfl rfl rfl rfl
    refine ⟨_, (pss_cons (ps_if (pt_cmpR op_eq (pv 1) pe_int (nomark _))
    (pss_one (ps_raiseB rfl tk0 exb_ZeroDivisionError rfl T.m_ZeroDivisionError boot_ZeroDivisionError))
    pss_nil)
    (pss_cons (ps_set (i := 2) sc_ratio.nd rfl (Or.inl rfl) (pe_callBfun cr_gcd rfl T.m_gcd (pa_cons (pv 0) (pa_cons (pv 1) pa_nil))))
    (pss_cons (ps_if (pt_cmpR op_lt (pv 1) pe_int (nomark _))
    (pss_one (ps_set (i := 2) sc_ratio.nd rfl (Or.inl rfl) (pe_un un_neg (pv 2))))
    pss_nil)
    (pss_one (ps_ret (pe_tup (pa_cons (pe_op op_fdivWN (pv 0) (pv 2)) (pa_cons (pe_op op_fdivWN (pv 1) (pv 2)) pa_nil)))))))), ?_⟩
    walk_at "start"
    walk_at "sts"
    exact q
theorem ok_refused (T : Tx K mg) (G_ratioX : FnOk P w K mg base (L2.CX P w) 1 T.f_ratio T.fd_ratio ["top", "bottom"] spRatX) : FnOk P w K mg base CX0 2 T.f_w_refused T.fd_w_refused ["_law_top"] spRefused := by
  refine T.F_w_refused.ok sc_w_refused (fun vs H Q E h => ?_) (fun cdv A outer s H vs Q E hr h => ?_)
  · obtain ⟨a, rfl, _⟩ := h; rfl
  · obtain ⟨t, rfl, k⟩ := h
    refine ⟨_, (pss_cons (ps_try_only (tb := fun W => tDrop (tCallSD spRatX [] (WE W) (tCons (tVar 0) (tCons (tC (.int 0)) tNil)))) (ts := fun _ _ _ => tRet (tC (.bl true))) (Wout := fun _ _ _ _ => False) rfl rfl (names_blt rfl T.m_ZeroDivisionError boot_ZeroDivisionError) takes0 (fun W pn xe tk _ => pss_one (ps_expr (pe_callSD G_ratioX (hr.mono (by decide)) rfl T.g_ratio T.F_ratio.kp T.b2_ratio.choose_spec.2 T.b2_ratio.choose_spec.1 (fun σ => passAt tk σ) (pa_cons (pv 0) (pa_cons pe_int pa_nil))))) (fun a oe cls d pn _ _ => pss_one (ps_ret pe_bl)))
    (pss_one (ps_ret pe_bl))), ?_⟩
    walk_at "start"
    walk_at "sts"
    exact ⟨t, rfl, true, exm_ZD, fun _ _ _ => k, fun z => nomatch z⟩
section
variable (T : Tx K mg) (G_w_take : FnOk P w K mg base CX0 1 T.f_w_take T.fd_w_take ["_law_pot_here", "_law_size"] spTake)
  (G_w_pot : FnOk P w K mg base CX0 1 T.f_w_pot T.fd_w_pot ["_law_script"] (spPot K))
  (G_w_number : FnOk P w K mg base CX0 2 T.f_w_number T.fd_w_number ["_law_pot_here"] (spPotInt (10 ^ 30)))
  (G_w_short : FnOk P w K mg base CX0 2 T.f_w_short T.fd_w_short ["_law_pot_here"] (spPotInt (10 ^ 10)))
  (G_w_row : FnOk P w K mg base CX0 3 T.f_w_row T.fd_w_row ["_law_pot_here", "_law_many"] spRow)
  (G_w_gcd : FnOk P w K mg base CX0 1 T.f_w_gcd T.fd_w_gcd ["_law_first", "_law_second"] spGcd)
  (G_w_lowest : FnOk P w K mg base CX0 2 T.f_w_lowest T.fd_w_lowest ["_law_top", "_law_bottom"] spLow)
  (G_w_common : FnOk P w K mg base CX0 2 T.f_w_common T.fd_w_common ["_law_row_here"] spLComm)
  (G_w_whole : FnOk P w K mg base CX0 1 T.f_w_whole T.fd_w_whole ["_law_found"] spWhole)
  (G_w_sign : FnOk P w K mg base CX0 1 T.f_w_sign T.fd_w_sign ["_law_number_here"] spSign)
  (G_w_pair_is : FnOk P w K mg base CX0 2 T.f_w_pair_is T.fd_w_pair_is ["_law_found", "_law_pair"] spPairIs)
  (G_w_refused : FnOk P w K mg base CX0 2 T.f_w_refused T.fd_w_refused ["_law_top"] spRefused)
  (G_ratio : FnOk P w K mg base CX0 1 T.f_ratio T.fd_ratio ["top", "bottom"] spLow)
  (G_compare : FnOk P w K mg base CX0 1 T.f_compare T.fd_compare ["first", "second"] spCmp)
  (G_plus : FnOk P w K mg base CX0 2 T.f_plus T.fd_plus ["first", "second"] (spTwo fPlus))
  (G_times : FnOk P w K mg base CX0 2 T.f_times T.fd_times ["first", "second"] (spTwo fTimes))
include G_w_take G_w_row G_w_gcd G_w_common G_w_whole in
theorem ok_common_right : FnOk P w K mg base CX0 4 T.f_w_common_right T.fd_w_common_right ["_law_pot_here"] spBool := by
  refine T.F_w_common_right.ok sc_w_common_right (fun vs H Q E h => ?_) (fun cdv A outer s H vs Q E hr h => ?_)
  · obtain ⟨a, rfl, _⟩ := h; rfl
  · obtain ⟨a, rfl, hp, k⟩ := h
    refine ⟨_, (pss_cons (ps_set (i := 1) sc_w_common_right.nd rfl (Or.inl rfl) (pe_call G_w_row (hr.mono (by decide)) rfl T.g_w_row T.F_w_row.kp T.b_w_row .nil pass0 (pa_cons (pv 0) (pa_cons (pe_call G_w_take (hr.mono (by decide)) rfl T.g_w_take T.F_w_take.kp T.b_w_take .nil pass0 (pa_cons (pv 0) (pa_cons pe_int pa_nil))) pa_nil))))
    (pss_cons (ps_set (i := 2) sc_w_common_right.nd rfl (Or.inl rfl) pe_int)
    (pss_cons (ps_for PassesOwn.never rfl (pi_list (pv 1)) (pg_name (i := 3) sc_w_common_right.nd rfl (Or.inl rfl))
    (pss_one (ps_set (i := 2) sc_w_common_right.nd rfl (Or.inl rfl) (pe_call G_w_gcd (hr.mono (by decide)) rfl T.g_w_gcd T.F_w_gcd.kp T.b_w_gcd .nil pass0 (pa_cons (pv 2) (pa_cons (pv 3) pa_nil))))))
    (pss_cons (ps_set (i := 4) sc_w_common_right.nd rfl (Or.inl rfl) (pe_call G_w_common (hr.mono (by decide)) rfl T.g_w_common T.F_w_common.kp T.b_w_common .nil pass0 (pa_cons (pv 1) pa_nil)))
    (pss_one (ps_ret (pe_and (pe_call G_w_whole (hr.mono (by decide)) rfl T.g_w_whole T.F_w_whole.kp T.b_w_whole .nil pass0 (pa_cons (pv 4) pa_nil)) (pe_one (pe_cmpR op_eq (pv 4) (pv 2) (nomark _)))))))))), ?_⟩
    walk_at "start"
    walk_at "sts"
    refine r_take hp (by omega) (by omega) fun r1 H1 a1 b1 k1 p1 => ?_
    walk_at "sts"
    refine r_row p1 (by omega) (by omega) fun l ns H2 hl hb k2 p2 nl el => ?_
    walk_at "sts"
    refine forL_go (fun i σ' H' => ∃ z, σ' = [some (.ref a), some (.ref l), some (.int (gcdAll (ns.take i))), z, none] ∧ H' = H2) (sqL_of el) ⟨_, rfl, rfl⟩ (fun i σ' H' _ h => by obtain ⟨z, _, rfl⟩ := h; exact sqL_of el) ?_ ?_
    · rintro i x σ' H' hx ⟨z, rfl, rfl⟩
      obtain ⟨y, hy, rfl⟩ : ∃ y, ns[i]? = some y ∧ V.int y = x := by
        rw [List.getElem?_map] at hx
        cases e : ns[i]? with
        | none => rw [e] at hx; cases hx
        | some y => rw [e] at hx; exact ⟨y, rfl, Option.some.inj hx⟩
      walk_at "sts"
      refine ⟨_, _, rfl, ?_⟩
      walk_at "sts"
      refine ⟨some (.int y), ?_, rfl⟩
      rw [List.take_add_one, hy]
      unfold gcdAll
      rw [List.foldl_append]; rfl
    · rintro σ' H' ⟨z, rfl, rfl⟩
      walk_at "sts"
      refine ⟨l, ns, rfl, el, by omega, fun H3 k3 => ?_⟩
      walk_at "sts"
      refine r_whole ?_
      walk_at "sts"
      rw [List.length_map, List.take_length, decide_eq_true rfl]
      exact k H3 ((k1.trans k2).trans (k3.mono (by simp))) (p2.keep k3)
include G_w_row G_w_lowest G_w_pair_is G_w_refused G_ratio in
theorem ok_ratio_right : FnOk P w K mg base CX0 4 T.f_w_ratio_right T.fd_w_ratio_right ["_law_pot_here"] spBool := by
  refine T.F_w_ratio_right.ok sc_w_ratio_right (fun vs H Q E h => ?_) (fun cdv A outer s H vs Q E hr h => ?_)
  · obtain ⟨a, rfl, _⟩ := h; rfl
  · obtain ⟨a, rfl, hp, k⟩ := h
    refine ⟨_, (pss_cons (ps_set (i := 1) sc_w_ratio_right.nd rfl (Or.inl rfl) (pe_call G_w_row (hr.mono (by decide)) rfl T.g_w_row T.F_w_row.kp T.b_w_row .nil pass0 (pa_cons (pv 0) (pa_cons pe_int pa_nil))))
    (Evl.pss_cut (ps_if (PW.pt (pw_and (pt_cmpR op_ne (pe_ix ix_list (pv 1) pe_int (fun _ _ => rfl)) pe_int (nomark _)) (pw_and1 (pt_not (pt_val (pe_call G_w_pair_is (hr.mono (by decide)) rfl T.g_w_pair_is T.F_w_pair_is.kp T.b_w_pair_is .nil pass0 (pa_cons (pe_call G_ratio (hr.mono (by decide)) rfl T.g_ratio T.F_ratio.kp T.b2_ratio.choose_spec.2 T.b2_ratio.choose_spec.1 pass0 (pa_cons (pe_ix ix_list (pv 1) pe_int (fun _ _ => rfl)) (pa_cons (pe_ix ix_list (pv 1) pe_int (fun _ _ => rfl)) pa_nil))) (pa_cons (pe_call G_w_lowest (hr.mono (by decide)) rfl T.g_w_lowest T.F_w_lowest.kp T.b_w_lowest .nil pass0 (pa_cons (pe_ix ix_list (pv 1) pe_int (fun _ _ => rfl)) (pa_cons (pe_ix ix_list (pv 1) pe_int (fun _ _ => rfl)) pa_nil))) pa_nil))))))))
    (pss_one (ps_ret pe_bl))
    pss_nil)
    (Evl.pss_cut (ps_if (PW.pt (pw_and (pt_cmpR op_ne (pe_ix ix_list (pv 1) pe_int (fun _ _ => rfl)) pe_int (nomark _)) (pw_and1 (pt_not (pt_val (pe_call G_w_pair_is (hr.mono (by decide)) rfl T.g_w_pair_is T.F_w_pair_is.kp T.b_w_pair_is .nil pass0 (pa_cons (pe_call G_ratio (hr.mono (by decide)) rfl T.g_ratio T.F_ratio.kp T.b2_ratio.choose_spec.2 T.b2_ratio.choose_spec.1 pass0 (pa_cons (pe_ix ix_list (pv 1) pe_int (fun _ _ => rfl)) (pa_cons (pe_ix ix_list (pv 1) pe_int (fun _ _ => rfl)) pa_nil))) (pa_cons (pe_call G_w_lowest (hr.mono (by decide)) rfl T.g_w_lowest T.F_w_lowest.kp T.b_w_lowest .nil pass0 (pa_cons (pe_ix ix_list (pv 1) pe_int (fun _ _ => rfl)) (pa_cons (pe_ix ix_list (pv 1) pe_int (fun _ _ => rfl)) pa_nil))) pa_nil))))))))
    (pss_one (ps_ret pe_bl))
    pss_nil)
    (Evl.pss_cut (ps_if (pt_not (pt_val (pe_call G_w_pair_is (hr.mono (by decide)) rfl T.g_w_pair_is T.F_w_pair_is.kp T.b_w_pair_is .nil pass0 (pa_cons (pe_call G_ratio (hr.mono (by decide)) rfl T.g_ratio T.F_ratio.kp T.b1_ratio.choose_spec.2 T.b1_ratio.choose_spec.1 pass0 (pa_cons (pe_ix ix_list (pv 1) pe_int (fun _ _ => rfl)) pa_nil)) (pa_cons (pe_tup (pa_cons (pe_ix ix_list (pv 1) pe_int (fun _ _ => rfl)) (pa_cons pe_int pa_nil))) pa_nil)))))
    (pss_one (ps_ret pe_bl))
    pss_nil)
    (pss_one (ps_ret (pe_and (pe_call G_w_refused (hr.mono (by decide)) rfl T.g_w_refused T.F_w_refused.kp T.b_w_refused .nil pass0 (pa_cons (pe_ix ix_list (pv 1) pe_int (fun _ _ => rfl)) pa_nil)) (pe_and (pe_call G_w_refused (hr.mono (by decide)) rfl T.g_w_refused T.F_w_refused.kp T.b_w_refused .nil pass0 (pa_cons (pe_ix ix_list (pv 1) pe_int (fun _ _ => rfl)) pa_nil)) (pe_one (pe_call G_w_refused (hr.mono (by decide)) rfl T.g_w_refused T.F_w_refused.kp T.b_w_refused .nil pass0 (pa_cons pe_int pa_nil))))))))))), ?_⟩
    walk_at "start"
    walk_at "sts"
    refine r_row hp (by omega) (by omega) fun l ns H2 hl hb k2 p2 nl el => ?_
    obtain ⟨x, y, rfl⟩ : ∃ x y, ns = [x, y] := by
      match ns, hl with
      | [x, y], _ => exact ⟨x, y, rfl⟩
    have hx : x.natAbs < 10 ^ 30 := hb x (by simp)
    have hy : y.natAbs < 10 ^ 30 := hb y (by simp)
    simp only [List.map_cons, List.map_nil] at el
    walk_at "sts"
    have zx : x.natAbs < 2 ^ 200 := by omega
    have zy : y.natAbs < 2 ^ 200 := by omega
    refine r_cut (fun σ' H' => σ' = [some (.ref a), some (.ref l)] ∧ Keep [a] H H' ∧ PotAt a H' ∧ H' l = some (.lst [.int x, .int y]) ∧ l ≠ a) ?_ ?_
    · walk_at "sts"
      have hla := hp.ne nl
      refine r_iteN (fun c => ?_) (fun c => ?_)
      · walk_at "sts"
        refine r_low c (pow_mono 200 8000 zy) fun p H3 k3 n3 e3 => ?_
        walk_at "sts"
        refine r_low c (pow_mono 200 8000 zy) fun q H4 k4 n4 e4 => ?_
        walk_at "sts"
        refine r_pairIs (k4 _ _ (by simp) e3) e4 ?_
        walk_at "sts"
        exact ⟨rfl, (k2.trans (k3.mono (by simp))).trans (k4.mono (by simp)), (p2.keep k3).keep k4, k4 _ _ (by simp) (k3 _ _ (by simp) el), hla⟩
      · walk_at "sts"
        exact ⟨rfl, k2, p2, el, hla⟩
    rintro σ' H' ⟨rfl, k2', p2', el', hla⟩
    clear k2 p2 el nl
    refine r_cut (fun σ' H' => σ' = [some (.ref a), some (.ref l)] ∧ Keep [a] H H' ∧ PotAt a H' ∧ H' l = some (.lst [.int x, .int y])) ?_ ?_
    · walk_at "sts"
      refine r_iteN (fun c => ?_) (fun c => ?_)
      · walk_at "sts"
        refine r_low c (pow_mono 200 8000 zx) fun p H3 k3 n3 e3 => ?_
        walk_at "sts"
        refine r_low c (pow_mono 200 8000 zx) fun q H4 k4 n4 e4 => ?_
        walk_at "sts"
        refine r_pairIs (k4 _ _ (by simp) e3) e4 ?_
        walk_at "sts"
        exact ⟨rfl, (k2'.trans (k3.mono (by simp))).trans (k4.mono (by simp)), (p2'.keep k3).keep k4, k4 _ _ (by simp) (k3 _ _ (by simp) el')⟩
      · walk_at "sts"
        exact ⟨rfl, k2', p2', el'⟩
    rintro σ' H5 ⟨rfl, k5, p5, e5⟩
    clear k2' p2' el' H'
    refine r_cut (fun σ' H' => σ' = [some (.ref a), some (.ref l)] ∧ Keep [a] H H' ∧ PotAt a H' ∧ H' l = some (.lst [.int x, .int y])) ?_ ?_
    · walk_at "sts"
      refine r_low (b := 1) (by decide) (by decide +kernel) fun p H3 k3 n3 e3 => ?_
      rw [lowT_one, lowB_one] at e3
      walk_at "sts"
      intro q hq
      walk_at "sts"
      refine r_pairIs (by rw [upd_ne (ne_of_none e3 hq)]; exact e3) upd_same ?_
      walk_at "sts"
      exact ⟨rfl, (k5.trans (k3.mono (by simp))).trans (Keep.new hq), (p5.keep k3).new hq, by rw [upd_ne (ne_of_none (k3 _ _ (by simp) e5) hq)]; exact k3 _ _ (by simp) e5⟩
    rintro σ' H6 ⟨rfl, k6, p6, e6⟩
    walk_at "sts"
    refine ⟨_, rfl, ?_⟩
    walk_at "sts"
    refine ⟨_, rfl, ?_⟩
    walk_at "sts"
    refine ⟨_, rfl, ?_⟩
    walk_at "sts"
    exact k H6 k6 p6
include G_w_take G_w_number G_w_short G_w_lowest in
theorem ok_two_ratios : FnOk P w K mg base CX0 3 T.f_w_two_ratios T.fd_w_two_ratios ["_law_pot_here"] spTwoRat := by
  refine T.F_w_two_ratios.ok sc_w_two_ratios (fun vs H Q E h => ?_) (fun cdv A outer s H vs Q E hr h => ?_)
  · obtain ⟨a, rfl, _⟩ := h; rfl
  · obtain ⟨a, rfl, hp, k⟩ := h
    refine ⟨_, (pss_cons (ps_if (pt_cmpR op_eq (pe_call G_w_take (hr.mono (by decide)) rfl T.g_w_take T.F_w_take.kp T.b_w_take .nil pass0 (pa_cons (pv 0) (pa_cons pe_int pa_nil))) pe_int (nomark _))
    (pss_cons (ps_set (i := 1) sc_w_two_ratios.nd rfl (Or.inl rfl) (pe_call G_w_lowest (hr.mono (by decide)) rfl T.g_w_lowest T.F_w_lowest.kp T.b_w_lowest .nil pass0 (pa_cons (pe_call G_w_number (hr.mono (by decide)) rfl T.g_w_number T.F_w_number.kp T.b_w_number .nil pass0 (pa_cons (pv 0) pa_nil)) (pa_cons (pe_callB (call_max2 rfl) (by rfl) T.m_max (by decide +kernel) (pa_cons pe_int (pa_cons (pe_callB call_abs (by rfl) T.m_abs (by decide +kernel) (pa_cons (pe_call G_w_number (hr.mono (by decide)) rfl T.g_w_number T.F_w_number.kp T.b_w_number .nil pass0 (pa_cons (pv 0) pa_nil)) pa_nil)) pa_nil))) pa_nil))))
    (pss_one (ps_ret (pe_lst (pa_cons (pv 1) (pa_cons (pe_call G_w_lowest (hr.mono (by decide)) rfl T.g_w_lowest T.F_w_lowest.kp T.b_w_lowest .nil pass0 (pa_cons (pe_call G_w_number (hr.mono (by decide)) rfl T.g_w_number T.F_w_number.kp T.b_w_number .nil pass0 (pa_cons (pv 0) pa_nil)) (pa_cons (pe_callB (call_max2 rfl) (by rfl) T.m_max (by decide +kernel) (pa_cons pe_int (pa_cons (pe_callB call_abs (by rfl) T.m_abs (by decide +kernel) (pa_cons (pe_call G_w_number (hr.mono (by decide)) rfl T.g_w_number T.F_w_number.kp T.b_w_number .nil pass0 (pa_cons (pv 0) pa_nil)) pa_nil)) pa_nil))) pa_nil))) pa_nil))))))
    pss_nil)
    (pss_cons (ps_set (i := 1) sc_w_two_ratios.nd rfl (Or.inl rfl) (pe_call G_w_lowest (hr.mono (by decide)) rfl T.g_w_lowest T.F_w_lowest.kp T.b_w_lowest .nil pass0 (pa_cons (pe_call G_w_short (hr.mono (by decide)) rfl T.g_w_short T.F_w_short.kp T.b_w_short .nil pass0 (pa_cons (pv 0) pa_nil)) (pa_cons (pe_callB (call_max2 rfl) (by rfl) T.m_max (by decide +kernel) (pa_cons pe_int (pa_cons (pe_callB call_abs (by rfl) T.m_abs (by decide +kernel) (pa_cons (pe_call G_w_short (hr.mono (by decide)) rfl T.g_w_short T.F_w_short.kp T.b_w_short .nil pass0 (pa_cons (pv 0) pa_nil)) pa_nil)) pa_nil))) pa_nil))))
    (pss_cons (ps_set (i := 2) sc_w_two_ratios.nd rfl (Or.inl rfl) (pe_op op_add pe_int (pe_call G_w_take (hr.mono (by decide)) rfl T.g_w_take T.F_w_take.kp T.b_w_take .nil pass0 (pa_cons (pv 0) (pa_cons (pe_op op_pow pe_int pe_int) pa_nil)))))
    (pss_cons (ps_set (i := 3) sc_w_two_ratios.nd rfl (Or.inl rfl) (pe_op op_sub (pe_op op_add (pe_op op_mulG (pe_ix ix_tup (pv 1) pe_int (fun _ _ => rfl)) (pv 2)) (pe_call G_w_take (hr.mono (by decide)) rfl T.g_w_take T.F_w_take.kp T.b_w_take .nil pass0 (pa_cons (pv 0) (pa_cons pe_int pa_nil)))) pe_int))
    (pss_one (ps_ret (pe_lst (pa_cons (pv 1) (pa_cons (pe_call G_w_lowest (hr.mono (by decide)) rfl T.g_w_lowest T.F_w_lowest.kp T.b_w_lowest .nil pass0 (pa_cons (pv 3) (pa_cons (pe_op op_mulG (pe_ix ix_tup (pv 1) pe_int (fun _ _ => rfl)) (pv 2)) pa_nil))) pa_nil))))))))), ?_⟩
    walk_at "start"
    walk_at "sts"
    refine r_take hp (by omega) (by omega) fun r1 H1 a1 b1 k1 p1 => ?_
    walk_at "sts"
    refine r_ite (fun c => ?_) (fun c => ?_)
    · walk_at "sts"
      refine r_potInt p1 fun t1 H2 z2 k2 p2 => ?_
      walk_at "sts"
      refine r_potInt p2 fun t2 H3 z3 k3 p3 => ?_
      walk_at "sts"
      have m2 : max 1 (t2.natAbs : Int) ≠ 0 := by omega
      have y2 : (max 1 (t2.natAbs : Int)).natAbs < 2 ^ 200 := by omega
      refine r_low m2 (pow_mono 200 8000 y2) fun q1 H4 k4 n4 e4 => ?_
      walk_at "sts"
      have p4 := p3.keep k4
      refine r_potInt p4 fun t3 H5 z5 k5 p5 => ?_
      walk_at "sts"
      refine r_potInt p5 fun t4 H6 z6 k6 p6 => ?_
      walk_at "sts"
      have m4 : max 1 (t4.natAbs : Int) ≠ 0 := by omega
      have y4 : (max 1 (t4.natAbs : Int)).natAbs < 2 ^ 200 := by omega
      refine r_low m4 (pow_mono 200 8000 y4) fun q2 H7 k7 n7 e7 => ?_
      walk_at "sts"
      intro l hl
      have nq : q1 ≠ a := p3.ne n4
      have e4' : H7 q1 = some (.tup [.int (lowT t1 (max 1 (t2.natAbs : Int))), .int (lowB t1 (max 1 (t2.natAbs : Int)))]) := k7 _ _ (by simp) (k6 _ _ (by simpa using nq) (k5 _ _ (by simpa using nq) e4))
      exact k l q1 q2 _ _ _ _ _ ((((((k1.trans k2).trans k3).trans (k4.mono (by simp))).trans (k5.trans k6)).trans (k7.mono (by simp))).trans (Keep.new hl)) ((p6.keep k7).new hl) upd_same
        (by rw [upd_ne (ne_of_none e4' hl)]; exact e4') (by rw [upd_ne (ne_of_none e7 hl)]; exact e7) (lowB_ne m2) (lowB_ne m4)
        (pow_mono 200 900 (Nat.lt_of_le_of_lt (lowT_le m2) (by omega))) (pow_mono 200 900 (Nat.lt_of_le_of_lt (lowB_le m2) y2)) (pow_mono 200 900 (Nat.lt_of_le_of_lt (lowT_le m4) (by omega))) (pow_mono 200 900 (Nat.lt_of_le_of_lt (lowB_le m4) y4))
    · walk_at "sts"
      refine r_potInt p1 fun t1 H2 z2 k2 p2 => ?_
      walk_at "sts"
      refine r_potInt p2 fun t2 H3 z3 k3 p3 => ?_
      walk_at "sts"
      have m2 : max 1 (t2.natAbs : Int) ≠ 0 := by omega
      have y2 : (max 1 (t2.natAbs : Int)).natAbs < 2 ^ 200 := by omega
      refine r_low m2 (pow_mono 200 8000 y2) fun q1 H4 k4 n4 e4 => ?_
      walk_at "sts"
      have p4 := p3.keep k4
      have w1 : (lowT t1 (max 1 (t2.natAbs : Int))).natAbs < 2 ^ 200 := Nat.lt_of_le_of_lt (lowT_le m2) (by omega)
      have w2 : (lowB t1 (max 1 (t2.natAbs : Int))).natAbs < 2 ^ 200 := Nat.lt_of_le_of_lt (lowB_le m2) y2
      have w3 := lowB_ne (t := t1) m2
      generalize lowT t1 (max 1 (t2.natAbs : Int)) = x1 at *
      generalize lowB t1 (max 1 (t2.natAbs : Int)) = x2 at *
      refine r_take p4 (by omega) (by omega) fun r5 H5 a5 b5 k5 p5 => ?_
      have nq : q1 ≠ a := p3.ne n4
      have e5 := k5 _ _ (by simpa using nq) e4
      walk_at "sts"
      have w4 : (100000 + r5).natAbs < 2 ^ 200 := by omega
      have w5 := wide_lt w1 w4
      have w6 := wide_lt w2 w4
      have w7 : 100000 + r5 ≠ 0 := by omega
      have w8 : x2 * (100000 + r5) ≠ 0 := Int.mul_ne_zero w3 w7
      refine r_take p5 (by omega) (by omega) fun r6 H6 a6 b6 k6 p6 => ?_
      have e6 := k6 _ _ (by simpa using nq) e5
      walk_at "sts"
      have w9 : (x1 * (100000 + r5) + r6 - 1).natAbs < 2 ^ 401 := by
        have e : (2 : Nat) ^ (200 + 200) = 2 ^ 400 := rfl
        rw [e] at w5
        generalize x1 * (100000 + r5) = z at w5 ⊢
        have h2 : (2 : Nat) ^ 401 = 2 ^ 400 + 2 ^ 400 := by rw [Nat.pow_succ]; omega
        have h3 : 2 < (2 : Nat) ^ 400 := Nat.lt_of_lt_of_le (by decide : 2 < 2 ^ 2) (Nat.pow_le_pow_right (by decide) (by decide))
        rw [h2]
        generalize (2 : Nat) ^ 400 = N at *
        omega
      refine r_low w8 (pow_mono 400 8000 w6) fun q2 H7 k7 n7 e7 => ?_
      walk_at "sts"
      intro l hl
      have e8 := k7 _ _ (by simp) e6
      exact k l q1 q2 _ _ _ _ _ ((((((k1.trans k2).trans k3).trans (k4.mono (by simp))).trans (k5.trans k6)).trans (k7.mono (by simp))).trans (Keep.new hl)) ((p6.keep k7).new hl) upd_same
        (by rw [upd_ne (ne_of_none e8 hl)]; exact e8) (by rw [upd_ne (ne_of_none e7 hl)]; exact e7) w3 (lowB_ne w8)
        (pow_mono 200 900 w1) (pow_mono 200 900 w2) (pow_mono 401 900 (Nat.lt_of_le_of_lt (lowT_le w8) w9)) (pow_mono 400 900 (Nat.lt_of_le_of_lt (lowB_le w8) w6))
include G_w_sign G_compare G_w_whole G_w_pair_is G_plus G_times G_w_lowest in
theorem ok_two_right : FnOk P w K mg base CX0 4 T.f_w_two_right T.fd_w_two_right ["_law_first", "_law_second"] spTwoRight := by
  refine T.F_w_two_right.ok sc_w_two_right (fun vs H Q E h => ?_) (fun cdv A outer s H vs Q E hr h => ?_)
  · obtain ⟨p, q, a, b, c, d, rfl, _⟩ := h; rfl
  · obtain ⟨p, q, a, b, c, d, rfl, hp, hq, hb, hd, za, zb, zc, zd, k⟩ := h
    refine ⟨_, (pss_cons (ps_set (i := 2) sc_w_two_right.nd rfl (Or.inl rfl) (pe_call G_w_sign (hr.mono (by decide)) rfl T.g_w_sign T.F_w_sign.kp T.b_w_sign .nil pass0 (pa_cons (pe_op op_sub (pe_op op_mulG (pe_ix ix_tup (pv 0) pe_int (fun _ _ => rfl)) (pe_ix ix_tup (pv 1) pe_int (fun _ _ => rfl))) (pe_op op_mulG (pe_ix ix_tup (pv 1) pe_int (fun _ _ => rfl)) (pe_ix ix_tup (pv 0) pe_int (fun _ _ => rfl)))) pa_nil)))
    (pss_cons (ps_set (i := 3) sc_w_two_right.nd rfl (Or.inl rfl) (pe_call G_compare (hr.mono (by decide)) rfl T.g_compare T.F_compare.kp T.b_compare .nil pass0 (pa_cons (pv 0) (pa_cons (pv 1) pa_nil))))
    (pss_cons (ps_if (PW.pt (pw_or (pt_not (pt_val (pe_call G_w_whole (hr.mono (by decide)) rfl T.g_w_whole T.F_w_whole.kp T.b_w_whole .nil pass0 (pa_cons (pv 3) pa_nil)))) (pw_or1 (pt_cmpR op_ne (pv 3) (pv 2) (nomark _)))))
    (pss_one (ps_ret pe_bl))
    pss_nil)
    (pss_cons (ps_set (i := 4) sc_w_two_right.nd rfl (Or.inl rfl) (pe_op op_add (pe_op op_mulG (pe_ix ix_tup (pv 0) pe_int (fun _ _ => rfl)) (pe_ix ix_tup (pv 1) pe_int (fun _ _ => rfl))) (pe_op op_mulG (pe_ix ix_tup (pv 1) pe_int (fun _ _ => rfl)) (pe_ix ix_tup (pv 0) pe_int (fun _ _ => rfl)))))
    (pss_cons (ps_if (pt_not (pt_val (pe_call G_w_pair_is (hr.mono (by decide)) rfl T.g_w_pair_is T.F_w_pair_is.kp T.b_w_pair_is .nil pass0 (pa_cons (pe_call G_plus (hr.mono (by decide)) rfl T.g_plus T.F_plus.kp T.b_plus .nil pass0 (pa_cons (pv 0) (pa_cons (pv 1) pa_nil))) (pa_cons (pe_call G_w_lowest (hr.mono (by decide)) rfl T.g_w_lowest T.F_w_lowest.kp T.b_w_lowest .nil pass0 (pa_cons (pv 4) (pa_cons (pe_op op_mulG (pe_ix ix_tup (pv 0) pe_int (fun _ _ => rfl)) (pe_ix ix_tup (pv 1) pe_int (fun _ _ => rfl))) pa_nil))) pa_nil)))))
    (pss_one (ps_ret pe_bl))
    pss_nil)
    (pss_one (ps_ret (pe_call G_w_pair_is (hr.mono (by decide)) rfl T.g_w_pair_is T.F_w_pair_is.kp T.b_w_pair_is .nil pass0 (pa_cons (pe_call G_times (hr.mono (by decide)) rfl T.g_times T.F_times.kp T.b_times .nil pass0 (pa_cons (pv 0) (pa_cons (pv 1) pa_nil))) (pa_cons (pe_call G_w_lowest (hr.mono (by decide)) rfl T.g_w_lowest T.F_w_lowest.kp T.b_w_lowest .nil pass0 (pa_cons (pe_op op_mulG (pe_ix ix_tup (pv 0) pe_int (fun _ _ => rfl)) (pe_ix ix_tup (pv 1) pe_int (fun _ _ => rfl))) (pa_cons (pe_op op_mulG (pe_ix ix_tup (pv 0) pe_int (fun _ _ => rfl)) (pe_ix ix_tup (pv 1) pe_int (fun _ _ => rfl))) pa_nil))) pa_nil)))))))))), ?_⟩
    walk_at "start"
    walk_at "sts"
    refine r_I (mulw 1000 1000 za zd) ?_
    walk_at "sts"
    refine r_I (mulw 1000 1000 zc zb) ?_
    walk_at "sts"
    refine ⟨_, rfl, ?_⟩
    walk_at "sts"
    refine r_cmp hp hq za zb zc zd ?_
    walk_at "sts"
    refine r_whole ?_
    walk_at "sts"
    refine r_iteNF sgn_cmp ?_
    walk_at "sts"
    refine r_I (mulw 1000 1000 za zd) ?_
    walk_at "sts"
    refine r_I (mulw 1000 1000 zc zb) ?_
    walk_at "sts"
    refine r_two hp hq hb hd za zb zc zd fun p1 H1 k1 n1 e1 => ?_
    have hbd : b * d ≠ 0 := Int.mul_ne_zero hb hd
    have zbd : (b * d).natAbs < 2 ^ 8000 := pow_mono 2000 8000 (wide_lt zb zd)
    have hp1 := k1 _ _ (by simp) hp
    have hq1 := k1 _ _ (by simp) hq
    walk_at "sts"
    refine r_I (mulw 1000 1000 zb zd) ?_
    walk_at "sts"
    refine r_low hbd zbd fun p2 H2 k2 n2 e2 => ?_
    walk_at "sts"
    refine r_pairIs (k2 _ _ (by simp) e1) e2 ?_
    have hp2 := k2 _ _ (by simp) hp1
    have hq2 := k2 _ _ (by simp) hq1
    walk_at "sts"
    refine r_two hp2 hq2 hb hd za zb zc zd fun p3 H3 k3 n3 e3 => ?_
    have hp3 := k3 _ _ (by simp) hp2
    have hq3 := k3 _ _ (by simp) hq2
    walk_at "sts"
    refine r_I (mulw 1000 1000 za zc) ?_
    walk_at "sts"
    refine r_I (mulw 1000 1000 zb zd) ?_
    walk_at "sts"
    refine r_low hbd zbd fun p4 H4 k4 n4 e4 => ?_
    walk_at "sts"
    refine r_pairIs (k4 _ _ (by simp) e3) e4 ?_
    exact k H4 ((k1.trans k2).trans (k3.trans k4))
end
section
variable (T : Tx K mg) 
  (G_w_pot : FnOk P w K mg base CX0 1 T.f_w_pot T.fd_w_pot ["_law_script"] (spPot K))
  (G_w_common_right : FnOk P w K mg base CX0 4 T.f_w_common_right T.fd_w_common_right ["_law_pot_here"] spBool)
  (G_w_ratio_right : FnOk P w K mg base CX0 4 T.f_w_ratio_right T.fd_w_ratio_right ["_law_pot_here"] spBool)
  (G_w_two_ratios : FnOk P w K mg base CX0 3 T.f_w_two_ratios T.fd_w_two_ratios ["_law_pot_here"] spTwoRat)
  (G_w_two_right : FnOk P w K mg base CX0 4 T.f_w_two_right T.fd_w_two_right ["_law_first", "_law_second"] spTwoRight)
include G_w_pot G_w_common_right G_w_ratio_right G_w_two_ratios G_w_two_right in
theorem ok_law : FnOk P w K mg base CX0 5 T.f_law T.fd_law ["_law_script"] (spLaw K) := by
  refine T.F_law.ok sc_law (fun vs H Q E h => ?_) (fun cdv A outer s H vs Q E hr h => ?_)
  · obtain ⟨a, ns, rfl, _⟩ := h; rfl
  · obtain ⟨a, ns, rfl, hs, hl, k⟩ := h
    refine ⟨_, (pss_cons (ps_set (i := 1) sc_law.nd rfl (Or.inl rfl) (pe_call G_w_pot (hr.mono (by decide)) rfl T.g_w_pot T.F_w_pot.kp T.b_w_pot .nil pass0 (pa_cons (pv 0) pa_nil)))
    (pss_cons (ps_if (PW.pt (pw_or (pt_not (pt_val (pe_call G_w_common_right (hr.mono (by decide)) rfl T.g_w_common_right T.F_w_common_right.kp T.b_w_common_right .nil pass0 (pa_cons (pv 1) pa_nil)))) (pw_or1 (pt_not (pt_val (pe_call G_w_ratio_right (hr.mono (by decide)) rfl T.g_w_ratio_right T.F_w_ratio_right.kp T.b_w_ratio_right .nil pass0 (pa_cons (pv 1) pa_nil)))))))
    (pss_one (ps_ret pe_bl))
    pss_nil)
    (pss_cons (ps_set (i := 2) sc_law.nd rfl (Or.inl rfl) (pe_call G_w_two_ratios (hr.mono (by decide)) rfl T.g_w_two_ratios T.F_w_two_ratios.kp T.b_w_two_ratios .nil pass0 (pa_cons (pv 1) pa_nil)))
    (pss_cons (ps_set (i := 3) sc_law.nd rfl (Or.inl rfl) (pe_tup (pa_cons (pe_un un_neg (pe_ix ix_tup (pe_ix ix_list (pv 2) pe_int (fun _ _ => rfl)) pe_int (fun _ _ => rfl))) (pa_cons (pe_ix ix_tup (pe_ix ix_list (pv 2) pe_int (fun _ _ => rfl)) pe_int (fun _ _ => rfl)) pa_nil))))
    (pss_cons (ps_if (PW.pt (pw_or (pt_not (pt_val (pe_call G_w_two_right (hr.mono (by decide)) rfl T.g_w_two_right T.F_w_two_right.kp T.b_w_two_right .nil pass0 (pa_cons (pe_ix ix_list (pv 2) pe_int (fun _ _ => rfl)) (pa_cons (pe_ix ix_list (pv 2) pe_int (fun _ _ => rfl)) pa_nil))))) (pw_or1 (pt_not (pt_val (pe_call G_w_two_right (hr.mono (by decide)) rfl T.g_w_two_right T.F_w_two_right.kp T.b_w_two_right .nil pass0 (pa_cons (pe_ix ix_list (pv 2) pe_int (fun _ _ => rfl)) (pa_cons (pe_ix ix_list (pv 2) pe_int (fun _ _ => rfl)) pa_nil))))))))
    (pss_one (ps_ret pe_bl))
    pss_nil)
    (pss_one (ps_ret (pe_and (pe_call G_w_two_right (hr.mono (by decide)) rfl T.g_w_two_right T.F_w_two_right.kp T.b_w_two_right .nil pass0 (pa_cons (pe_ix ix_list (pv 2) pe_int (fun _ _ => rfl)) (pa_cons (pe_ix ix_list (pv 2) pe_int (fun _ _ => rfl)) pa_nil))) (pe_one (pe_call G_w_two_right (hr.mono (by decide)) rfl T.g_w_two_right T.F_w_two_right.kp T.b_w_two_right .nil pass0 (pa_cons (pe_ix ix_list (pv 2) pe_int (fun _ _ => rfl)) (pa_cons (pv 3) pa_nil)))))))))))), ?_⟩
    walk_at "start"
    walk_at "sts"
    refine ⟨a, ns, rfl, hs, hl, fun p H1 k1 n1 p1 => ?_⟩
    walk_at "sts"
    refine r_bool p1 fun H2 k2 p2 => ?_
    walk_at "sts"
    refine r_bool p2 fun H3 k3 p3 => ?_
    walk_at "sts"
    refine ⟨p, rfl, p3, fun l q1 q2 x y z v H4 k4 p4 el e1 e2 hy hv zx zy zz zv => ?_⟩
    walk_at "sts"
    intro q3 h3
    have el' : (upd H4 q3 (.tup [.int (-x), .int y])) l = some (.lst [.ref q1, .ref q2]) := by rw [upd_ne (ne_of_none el h3)]; exact el
    have e1' : (upd H4 q3 (.tup [.int (-x), .int y])) q1 = some (.tup [.int x, .int y]) := by rw [upd_ne (ne_of_none e1 h3)]; exact e1
    have e2' : (upd H4 q3 (.tup [.int (-x), .int y])) q2 = some (.tup [.int z, .int v]) := by rw [upd_ne (ne_of_none e2 h3)]; exact e2
    have e3' : (upd H4 q3 (.tup [.int (-x), .int y])) q3 = some (.tup [.int (-x), .int y]) := upd_same
    generalize upd H4 q3 (.tup [.int (-x), .int y]) = H5 at el' e1' e2' e3' ⊢
    walk_at "sts"
    refine r_twoRight e1' e2' hy hv zx zy zz zv fun H6 k6 => ?_
    have el6 := k6 _ _ (by simp) el'
    have e16 := k6 _ _ (by simp) e1'
    have e26 := k6 _ _ (by simp) e2'
    have e36 := k6 _ _ (by simp) e3'
    walk_at "sts"
    refine r_twoRight e26 e16 hv hy zz zv zx zy fun H7 k7 => ?_
    have el7 := k7 _ _ (by simp) el6
    have e17 := k7 _ _ (by simp) e16
    have e37 := k7 _ _ (by simp) e36
    walk_at "sts"
    refine r_twoRight e17 e17 hy hy zx zy zx zy fun H8 k8 => ?_
    have el8 := k8 _ _ (by simp) el7
    have e18 := k8 _ _ (by simp) e17
    have e38 := k8 _ _ (by simp) e37
    walk_at "sts"
    refine r_twoRight e18 e38 hy hy zx zy (by rw [Int.natAbs_neg]; exact zx) zy fun H9 k9 => ?_
    exact k H9
end
end
theorem law_of {P : Program} {w : World} {K : PySem.W.Frag} {mg : Str → Option Value} {base : Heap} (T : Tx K mg) : FnOk P w K mg base CX0 5 T.f_law T.fd_law ["_law_script"] (spLaw K) := by
  have gt := ok_take (P := P) (w := w) (base := base) T
  have gn := ok_number T gt
  have gs := ok_short T gt
  have gr := ok_row T gt gn gs
  have gg := ok_gcd (P := P) (w := w) (base := base) T
  have gl := ok_lowest T gg
  have ga := ok_ratio (P := P) (w := w) (base := base) T
  have gc := ok_common (P := P) (w := w) (base := base) T
  have gw := ok_whole (P := P) (w := w) (base := base) T
  have gp := ok_pairIs T gw
  have gx := ok_refused T (ok_ratioX (P := P) (w := w) (base := base) T)
  exact ok_law T (ok_pot T) (ok_common_right T gt gr gg (ok_lcommon T gc) gw) (ok_ratio_right T gr gl gp gx ga) (ok_two_ratios T gt gn gs gl)
    (ok_two_right T gl gw (ok_sign T) gp (ok_compare T) (ok_plus T ga) (ok_times T ga))
theorem all_mk {l : PySem.W.OpenLaw} {w : World} {K : PySem.W.Frag} {h : Heap} {mg : Str → Option Value} {fa : Addr} (X : K.In h) (G : h.Ns mainGlobals mg) (hfa : mg "law" = some (.ref fa))
    {f0 : Addr} {od0 an0 : Option Addr} {sl0 : Array (Option Value)} {oc0 kV0 dc0 pm0 cd0 ct0 : Value} {f1 : Addr} {od1 an1 : Option Addr} {sl1 : Array (Option Value)} {oc1 kV1 dc1 pm1 cd1 ct1 : Value} {T1 : Addr} {ocT1 : Value} {odT1 : Option Addr} {nT1 : Nat} {slT1 : Array (Option Value)} {tT1_0 : Tok} {f2 : Addr} {od2 an2 : Option Addr} {sl2 : Array (Option Value)} {oc2 kV2 dc2 pm2 cd2 ct2 : Value} {f3 : Addr} {od3 an3 : Option Addr} {sl3 : Array (Option Value)} {oc3 kV3 dc3 pm3 cd3 ct3 : Value} {f4 : Addr} {od4 an4 : Option Addr} {sl4 : Array (Option Value)} {oc4 kV4 dc4 pm4 cd4 ct4 : Value} {f5 : Addr} {od5 an5 : Option Addr} {sl5 : Array (Option Value)} {oc5 kV5 dc5 pm5 cd5 ct5 : Value} {f6 : Addr} {od6 an6 : Option Addr} {sl6 : Array (Option Value)} {oc6 kV6 dc6 pm6 cd6 ct6 : Value} {f7 : Addr} {od7 an7 : Option Addr} {sl7 : Array (Option Value)} {oc7 kV7 dc7 pm7 cd7 ct7 : Value} {f8 : Addr} {od8 an8 : Option Addr} {sl8 : Array (Option Value)} {oc8 kV8 dc8 pm8 cd8 ct8 : Value} {f9 : Addr} {od9 an9 : Option Addr} {sl9 : Array (Option Value)} {oc9 kV9 dc9 pm9 cd9 ct9 : Value} {f10 : Addr} {od10 an10 : Option Addr} {sl10 : Array (Option Value)} {oc10 kV10 dc10 pm10 cd10 ct10 : Value} {f11 : Addr} {od11 an11 : Option Addr} {sl11 : Array (Option Value)} {oc11 kV11 dc11 pm11 cd11 ct11 : Value} {f12 : Addr} {od12 an12 : Option Addr} {sl12 : Array (Option Value)} {oc12 kV12 dc12 pm12 cd12 ct12 : Value} {f13 : Addr} {od13 an13 : Option Addr} {sl13 : Array (Option Value)} {oc13 kV13 dc13 pm13 cd13 ct13 : Value} {f14 : Addr} {od14 an14 : Option Addr} {sl14 : Array (Option Value)} {oc14 kV14 dc14 pm14 cd14 ct14 : Value} {f15 : Addr} {od15 an15 : Option Addr} {sl15 : Array (Option Value)} {oc15 kV15 dc15 pm15 cd15 ct15 : Value} {f16 : Addr} {od16 an16 : Option Addr} {sl16 : Array (Option Value)} {oc16 kV16 dc16 pm16 cd16 ct16 : Value} {f17 : Addr} {od17 an17 : Option Addr} {sl17 : Array (Option Value)} {oc17 kV17 dc17 pm17 cd17 ct17 : Value} {f18 : Addr} {od18 an18 : Option Addr} {sl18 : Array (Option Value)} {oc18 kV18 dc18 pm18 cd18 ct18 : Value} {f19 : Addr} {od19 an19 : Option Addr} {sl19 : Array (Option Value)} {oc19 kV19 dc19 pm19 cd19 ct19 : Value} {f20 : Addr} {od20 an20 : Option Addr} {sl20 : Array (Option Value)} {oc20 kV20 dc20 pm20 cd20 ct20 : Value} {f21 : Addr} {od21 an21 : Option Addr} {sl21 : Array (Option Value)} {oc21 kV21 dc21 pm21 cd21 ct21 : Value}
    (a0 : PySem.W.nsIn K mainGlobals "common" = some (some (.ref f0)))
    (l0 : K.lookup f0 = some ⟨oc0, od0, .func (PySem.W.fnOf "common" "common" (defArgs s_common) (defBody s_common) (defScope s_common) .none kV0 dc0 pm0 an0 cd0 ct0), sl0⟩)
    (c0 : PySem.W.codeIn K cd0 "common" = true)
    (k0 : PySem.W.keepIn K (.ref f0) = true)
    (a1 : PySem.W.nsIn K mainGlobals "ratio" = some (some (.ref f1)))
    (l1 : K.lookup f1 = some ⟨oc1, od1, .func (PySem.W.fnOf "ratio" "ratio" (defArgs s_ratio) (defBody s_ratio) (defScope s_ratio) (.ref T1) kV1 dc1 pm1 an1 cd1 ct1), sl1⟩)
    (c1 : PySem.W.codeIn K cd1 "ratio" = true)
    (k1 : PySem.W.keepIn K (.ref f1) = true)
    (d1 : K.lookup T1 = some ⟨ocT1, odT1, .seq #[.int (1) tT1_0] nT1, slT1⟩)
    (a2 : PySem.W.nsIn K mainGlobals "compare" = some (some (.ref f2)))
    (l2 : K.lookup f2 = some ⟨oc2, od2, .func (PySem.W.fnOf "compare" "compare" (defArgs s_compare) (defBody s_compare) (defScope s_compare) .none kV2 dc2 pm2 an2 cd2 ct2), sl2⟩)
    (c2 : PySem.W.codeIn K cd2 "compare" = true)
    (k2 : PySem.W.keepIn K (.ref f2) = true)
    (a3 : PySem.W.nsIn K mainGlobals "plus" = some (some (.ref f3)))
    (l3 : K.lookup f3 = some ⟨oc3, od3, .func (PySem.W.fnOf "plus" "plus" (defArgs s_plus) (defBody s_plus) (defScope s_plus) .none kV3 dc3 pm3 an3 cd3 ct3), sl3⟩)
    (c3 : PySem.W.codeIn K cd3 "plus" = true)
    (k3 : PySem.W.keepIn K (.ref f3) = true)
    (a4 : PySem.W.nsIn K mainGlobals "times" = some (some (.ref f4)))
    (l4 : K.lookup f4 = some ⟨oc4, od4, .func (PySem.W.fnOf "times" "times" (defArgs s_times) (defBody s_times) (defScope s_times) .none kV4 dc4 pm4 an4 cd4 ct4), sl4⟩)
    (c4 : PySem.W.codeIn K cd4 "times" = true)
    (k4 : PySem.W.keepIn K (.ref f4) = true)
    (a5 : PySem.W.nsIn K mainGlobals "_law_pot" = some (some (.ref f5)))
    (l5 : K.lookup f5 = some ⟨oc5, od5, .func (PySem.W.fnOf "_law_pot" "_law_pot" (defArgs s_w_pot) (defBody s_w_pot) (defScope s_w_pot) .none kV5 dc5 pm5 an5 cd5 ct5), sl5⟩)
    (c5 : PySem.W.codeIn K cd5 "_law_pot" = true)
    (k5 : PySem.W.keepIn K (.ref f5) = true)
    (a6 : PySem.W.nsIn K mainGlobals "_law_take" = some (some (.ref f6)))
    (l6 : K.lookup f6 = some ⟨oc6, od6, .func (PySem.W.fnOf "_law_take" "_law_take" (defArgs s_w_take) (defBody s_w_take) (defScope s_w_take) .none kV6 dc6 pm6 an6 cd6 ct6), sl6⟩)
    (c6 : PySem.W.codeIn K cd6 "_law_take" = true)
    (k6 : PySem.W.keepIn K (.ref f6) = true)
    (a7 : PySem.W.nsIn K mainGlobals "_law_whole" = some (some (.ref f7)))
    (l7 : K.lookup f7 = some ⟨oc7, od7, .func (PySem.W.fnOf "_law_whole" "_law_whole" (defArgs s_w_whole) (defBody s_w_whole) (defScope s_w_whole) .none kV7 dc7 pm7 an7 cd7 ct7), sl7⟩)
    (c7 : PySem.W.codeIn K cd7 "_law_whole" = true)
    (k7 : PySem.W.keepIn K (.ref f7) = true)
    (a8 : PySem.W.nsIn K mainGlobals "_law_number" = some (some (.ref f8)))
    (l8 : K.lookup f8 = some ⟨oc8, od8, .func (PySem.W.fnOf "_law_number" "_law_number" (defArgs s_w_number) (defBody s_w_number) (defScope s_w_number) .none kV8 dc8 pm8 an8 cd8 ct8), sl8⟩)
    (c8 : PySem.W.codeIn K cd8 "_law_number" = true)
    (k8 : PySem.W.keepIn K (.ref f8) = true)
    (a9 : PySem.W.nsIn K mainGlobals "_law_short" = some (some (.ref f9)))
    (l9 : K.lookup f9 = some ⟨oc9, od9, .func (PySem.W.fnOf "_law_short" "_law_short" (defArgs s_w_short) (defBody s_w_short) (defScope s_w_short) .none kV9 dc9 pm9 an9 cd9 ct9), sl9⟩)
    (c9 : PySem.W.codeIn K cd9 "_law_short" = true)
    (k9 : PySem.W.keepIn K (.ref f9) = true)
    (a10 : PySem.W.nsIn K mainGlobals "_law_row" = some (some (.ref f10)))
    (l10 : K.lookup f10 = some ⟨oc10, od10, .func (PySem.W.fnOf "_law_row" "_law_row" (defArgs s_w_row) (defBody s_w_row) (defScope s_w_row) .none kV10 dc10 pm10 an10 cd10 ct10), sl10⟩)
    (c10 : PySem.W.codeIn K cd10 "_law_row" = true)
    (k10 : PySem.W.keepIn K (.ref f10) = true)
    (a11 : PySem.W.nsIn K mainGlobals "_law_gcd" = some (some (.ref f11)))
    (l11 : K.lookup f11 = some ⟨oc11, od11, .func (PySem.W.fnOf "_law_gcd" "_law_gcd" (defArgs s_w_gcd) (defBody s_w_gcd) (defScope s_w_gcd) .none kV11 dc11 pm11 an11 cd11 ct11), sl11⟩)
    (c11 : PySem.W.codeIn K cd11 "_law_gcd" = true)
    (k11 : PySem.W.keepIn K (.ref f11) = true)
    (a12 : PySem.W.nsIn K mainGlobals "_law_lowest" = some (some (.ref f12)))
    (l12 : K.lookup f12 = some ⟨oc12, od12, .func (PySem.W.fnOf "_law_lowest" "_law_lowest" (defArgs s_w_lowest) (defBody s_w_lowest) (defScope s_w_lowest) .none kV12 dc12 pm12 an12 cd12 ct12), sl12⟩)
    (c12 : PySem.W.codeIn K cd12 "_law_lowest" = true)
    (k12 : PySem.W.keepIn K (.ref f12) = true)
    (a13 : PySem.W.nsIn K mainGlobals "_law_pair_is" = some (some (.ref f13)))
    (l13 : K.lookup f13 = some ⟨oc13, od13, .func (PySem.W.fnOf "_law_pair_is" "_law_pair_is" (defArgs s_w_pair_is) (defBody s_w_pair_is) (defScope s_w_pair_is) .none kV13 dc13 pm13 an13 cd13 ct13), sl13⟩)
    (c13 : PySem.W.codeIn K cd13 "_law_pair_is" = true)
    (k13 : PySem.W.keepIn K (.ref f13) = true)
    (a14 : PySem.W.nsIn K mainGlobals "_law_common" = some (some (.ref f14)))
    (l14 : K.lookup f14 = some ⟨oc14, od14, .func (PySem.W.fnOf "_law_common" "_law_common" (defArgs s_w_common) (defBody s_w_common) (defScope s_w_common) .none kV14 dc14 pm14 an14 cd14 ct14), sl14⟩)
    (c14 : PySem.W.codeIn K cd14 "_law_common" = true)
    (k14 : PySem.W.keepIn K (.ref f14) = true)
    (a15 : PySem.W.nsIn K mainGlobals "_law_common_right" = some (some (.ref f15)))
    (l15 : K.lookup f15 = some ⟨oc15, od15, .func (PySem.W.fnOf "_law_common_right" "_law_common_right" (defArgs s_w_common_right) (defBody s_w_common_right) (defScope s_w_common_right) .none kV15 dc15 pm15 an15 cd15 ct15), sl15⟩)
    (c15 : PySem.W.codeIn K cd15 "_law_common_right" = true)
    (k15 : PySem.W.keepIn K (.ref f15) = true)
    (a16 : PySem.W.nsIn K mainGlobals "_law_refused" = some (some (.ref f16)))
    (l16 : K.lookup f16 = some ⟨oc16, od16, .func (PySem.W.fnOf "_law_refused" "_law_refused" (defArgs s_w_refused) (defBody s_w_refused) (defScope s_w_refused) .none kV16 dc16 pm16 an16 cd16 ct16), sl16⟩)
    (c16 : PySem.W.codeIn K cd16 "_law_refused" = true)
    (k16 : PySem.W.keepIn K (.ref f16) = true)
    (a17 : PySem.W.nsIn K mainGlobals "_law_ratio_right" = some (some (.ref f17)))
    (l17 : K.lookup f17 = some ⟨oc17, od17, .func (PySem.W.fnOf "_law_ratio_right" "_law_ratio_right" (defArgs s_w_ratio_right) (defBody s_w_ratio_right) (defScope s_w_ratio_right) .none kV17 dc17 pm17 an17 cd17 ct17), sl17⟩)
    (c17 : PySem.W.codeIn K cd17 "_law_ratio_right" = true)
    (k17 : PySem.W.keepIn K (.ref f17) = true)
    (a18 : PySem.W.nsIn K mainGlobals "_law_two_ratios" = some (some (.ref f18)))
    (l18 : K.lookup f18 = some ⟨oc18, od18, .func (PySem.W.fnOf "_law_two_ratios" "_law_two_ratios" (defArgs s_w_two_ratios) (defBody s_w_two_ratios) (defScope s_w_two_ratios) .none kV18 dc18 pm18 an18 cd18 ct18), sl18⟩)
    (c18 : PySem.W.codeIn K cd18 "_law_two_ratios" = true)
    (k18 : PySem.W.keepIn K (.ref f18) = true)
    (a19 : PySem.W.nsIn K mainGlobals "_law_sign" = some (some (.ref f19)))
    (l19 : K.lookup f19 = some ⟨oc19, od19, .func (PySem.W.fnOf "_law_sign" "_law_sign" (defArgs s_w_sign) (defBody s_w_sign) (defScope s_w_sign) .none kV19 dc19 pm19 an19 cd19 ct19), sl19⟩)
    (c19 : PySem.W.codeIn K cd19 "_law_sign" = true)
    (k19 : PySem.W.keepIn K (.ref f19) = true)
    (a20 : PySem.W.nsIn K mainGlobals "_law_two_right" = some (some (.ref f20)))
    (l20 : K.lookup f20 = some ⟨oc20, od20, .func (PySem.W.fnOf "_law_two_right" "_law_two_right" (defArgs s_w_two_right) (defBody s_w_two_right) (defScope s_w_two_right) .none kV20 dc20 pm20 an20 cd20 ct20), sl20⟩)
    (c20 : PySem.W.codeIn K cd20 "_law_two_right" = true)
    (k20 : PySem.W.keepIn K (.ref f20) = true)
    (a21 : PySem.W.nsIn K mainGlobals "law" = some (some (.ref f21)))
    (l21 : K.lookup f21 = some ⟨oc21, od21, .func (PySem.W.fnOf "law" "law" (defArgs s_law) (defBody s_law) (defScope s_law) .none kV21 dc21 pm21 an21 cd21 ct21), sl21⟩)
    (c21 : PySem.W.codeIn K cd21 "law" = true)
    (k21 : PySem.W.keepIn K (.ref f21) = true)
    (z0 : PySem.W.nsIn K mainGlobals "len" = some none)
    (z1 : PySem.W.nsIn K mainGlobals "range" = some none)
    (z2 : PySem.W.nsIn K mainGlobals "isinstance" = some none)
    (z3 : PySem.W.nsIn K mainGlobals "int" = some none)
    (z4 : PySem.W.nsIn K mainGlobals "bool" = some none)
    (z5 : PySem.W.nsIn K mainGlobals "list" = some none)
    (z6 : PySem.W.nsIn K mainGlobals "tuple" = some none)
    (z7 : PySem.W.nsIn K mainGlobals "abs" = some none)
    (z8 : PySem.W.nsIn K mainGlobals "max" = some none)
    (z9 : PySem.W.nsIn K mainGlobals "ZeroDivisionError" = some none)
    (z10 : PySem.W.nsIn K mainGlobals "gcd" = some (some (.builtin "math.gcd"))) :
    ∃ fd : FuncData, (∀ (s : Shared) (v : Value), BindsTo s fd ⟨[v], []⟩ [("_law_script", v)]) ∧ ∀ base : Heap, K.In base → base.Ns mainGlobals mg → FnOk l.prog w K mg base CX0 5 fa fd ["_law_script"] (spLaw K) := by
  have F0 := fun_mk (st := s_common) l0 c0 k0
  have FD1 : FunD K "ratio" "ratio" (defArgs s_ratio) (defBody s_ratio) (defScope s_ratio) [V.int (1)] [] f1 _ := ⟨⟨_, _, _, _, _, _, _, _, _, _, rfl, l1, c1, Or.inr ⟨by simp, T1, _, _, _, rfl, d1, rfl, (.cons ⟨_, rfl⟩ .nil)⟩, Or.inl rfl⟩, k1⟩
  have F2 := fun_mk (st := s_compare) l2 c2 k2
  have F3 := fun_mk (st := s_plus) l3 c3 k3
  have F4 := fun_mk (st := s_times) l4 c4 k4
  have F5 := fun_mk (st := s_w_pot) l5 c5 k5
  have F6 := fun_mk (st := s_w_take) l6 c6 k6
  have F7 := fun_mk (st := s_w_whole) l7 c7 k7
  have F8 := fun_mk (st := s_w_number) l8 c8 k8
  have F9 := fun_mk (st := s_w_short) l9 c9 k9
  have F10 := fun_mk (st := s_w_row) l10 c10 k10
  have F11 := fun_mk (st := s_w_gcd) l11 c11 k11
  have F12 := fun_mk (st := s_w_lowest) l12 c12 k12
  have F13 := fun_mk (st := s_w_pair_is) l13 c13 k13
  have F14 := fun_mk (st := s_w_common) l14 c14 k14
  have F15 := fun_mk (st := s_w_common_right) l15 c15 k15
  have F16 := fun_mk (st := s_w_refused) l16 c16 k16
  have F17 := fun_mk (st := s_w_ratio_right) l17 c17 k17
  have F18 := fun_mk (st := s_w_two_ratios) l18 c18 k18
  have F19 := fun_mk (st := s_w_sign) l19 c19 k19
  have F20 := fun_mk (st := s_w_two_right) l20 c20 k20
  have F21 := fun_mk (st := s_law) l21 c21 k21
  have e := hfa.symm.trans (PySem.W.mg_of X G a21)
  cases e
  let T : Tx K mg := {
    f_common := f0, fd_common := _, F_common := F0,
    g_common := PySem.W.mg_of X G a0,
    f_ratio := f1, fd_ratio := _, F_ratio := FD1,
    g_ratio := PySem.W.mg_of X G a1,
    b1_ratio := FD1.binds1 (ps := ["top", "bottom"]) 1 0 (by simp) rfl fun _ _ _ _ _ _ _ us its h1 h2 => match us, its, h1, h2 with | [_], [_], _, _ => ⟨_, rfl, rfl⟩,
    b2_ratio := FD1.binds1 (ps := ["top", "bottom"]) 2 1 (by simp) rfl fun _ _ _ _ _ _ _ us its h1 h2 => match us, its, h1, h2 with | [_, _], [_], _, _ => ⟨_, rfl, rfl⟩,
    f_compare := f2, fd_compare := _, F_compare := F2,
    g_compare := PySem.W.mg_of X G a2,
    b_compare := F2.binds (ps := ["first", "second"]) fun _ _ _ _ _ _ us hl => match us, hl with | [_, _], _ => rfl,
    f_plus := f3, fd_plus := _, F_plus := F3,
    g_plus := PySem.W.mg_of X G a3,
    b_plus := F3.binds (ps := ["first", "second"]) fun _ _ _ _ _ _ us hl => match us, hl with | [_, _], _ => rfl,
    f_times := f4, fd_times := _, F_times := F4,
    g_times := PySem.W.mg_of X G a4,
    b_times := F4.binds (ps := ["first", "second"]) fun _ _ _ _ _ _ us hl => match us, hl with | [_, _], _ => rfl,
    f_w_pot := f5, fd_w_pot := _, F_w_pot := F5,
    g_w_pot := PySem.W.mg_of X G a5,
    b_w_pot := F5.binds (ps := ["_law_script"]) fun _ _ _ _ _ _ us hl => match us, hl with | [_], _ => rfl,
    f_w_take := f6, fd_w_take := _, F_w_take := F6,
    g_w_take := PySem.W.mg_of X G a6,
    b_w_take := F6.binds (ps := ["_law_pot_here", "_law_size"]) fun _ _ _ _ _ _ us hl => match us, hl with | [_, _], _ => rfl,
    f_w_whole := f7, fd_w_whole := _, F_w_whole := F7,
    g_w_whole := PySem.W.mg_of X G a7,
    b_w_whole := F7.binds (ps := ["_law_found"]) fun _ _ _ _ _ _ us hl => match us, hl with | [_], _ => rfl,
    f_w_number := f8, fd_w_number := _, F_w_number := F8,
    g_w_number := PySem.W.mg_of X G a8,
    b_w_number := F8.binds (ps := ["_law_pot_here"]) fun _ _ _ _ _ _ us hl => match us, hl with | [_], _ => rfl,
    f_w_short := f9, fd_w_short := _, F_w_short := F9,
    g_w_short := PySem.W.mg_of X G a9,
    b_w_short := F9.binds (ps := ["_law_pot_here"]) fun _ _ _ _ _ _ us hl => match us, hl with | [_], _ => rfl,
    f_w_row := f10, fd_w_row := _, F_w_row := F10,
    g_w_row := PySem.W.mg_of X G a10,
    b_w_row := F10.binds (ps := ["_law_pot_here", "_law_many"]) fun _ _ _ _ _ _ us hl => match us, hl with | [_, _], _ => rfl,
    f_w_gcd := f11, fd_w_gcd := _, F_w_gcd := F11,
    g_w_gcd := PySem.W.mg_of X G a11,
    b_w_gcd := F11.binds (ps := ["_law_first", "_law_second"]) fun _ _ _ _ _ _ us hl => match us, hl with | [_, _], _ => rfl,
    f_w_lowest := f12, fd_w_lowest := _, F_w_lowest := F12,
    g_w_lowest := PySem.W.mg_of X G a12,
    b_w_lowest := F12.binds (ps := ["_law_top", "_law_bottom"]) fun _ _ _ _ _ _ us hl => match us, hl with | [_, _], _ => rfl,
    f_w_pair_is := f13, fd_w_pair_is := _, F_w_pair_is := F13,
    g_w_pair_is := PySem.W.mg_of X G a13,
    b_w_pair_is := F13.binds (ps := ["_law_found", "_law_pair"]) fun _ _ _ _ _ _ us hl => match us, hl with | [_, _], _ => rfl,
    f_w_common := f14, fd_w_common := _, F_w_common := F14,
    g_w_common := PySem.W.mg_of X G a14,
    b_w_common := F14.binds (ps := ["_law_row_here"]) fun _ _ _ _ _ _ us hl => match us, hl with | [_], _ => rfl,
    f_w_common_right := f15, fd_w_common_right := _, F_w_common_right := F15,
    g_w_common_right := PySem.W.mg_of X G a15,
    b_w_common_right := F15.binds (ps := ["_law_pot_here"]) fun _ _ _ _ _ _ us hl => match us, hl with | [_], _ => rfl,
    f_w_refused := f16, fd_w_refused := _, F_w_refused := F16,
    g_w_refused := PySem.W.mg_of X G a16,
    b_w_refused := F16.binds (ps := ["_law_top"]) fun _ _ _ _ _ _ us hl => match us, hl with | [_], _ => rfl,
    f_w_ratio_right := f17, fd_w_ratio_right := _, F_w_ratio_right := F17,
    g_w_ratio_right := PySem.W.mg_of X G a17,
    b_w_ratio_right := F17.binds (ps := ["_law_pot_here"]) fun _ _ _ _ _ _ us hl => match us, hl with | [_], _ => rfl,
    f_w_two_ratios := f18, fd_w_two_ratios := _, F_w_two_ratios := F18,
    g_w_two_ratios := PySem.W.mg_of X G a18,
    b_w_two_ratios := F18.binds (ps := ["_law_pot_here"]) fun _ _ _ _ _ _ us hl => match us, hl with | [_], _ => rfl,
    f_w_sign := f19, fd_w_sign := _, F_w_sign := F19,
    g_w_sign := PySem.W.mg_of X G a19,
    b_w_sign := F19.binds (ps := ["_law_number_here"]) fun _ _ _ _ _ _ us hl => match us, hl with | [_], _ => rfl,
    f_w_two_right := f20, fd_w_two_right := _, F_w_two_right := F20,
    g_w_two_right := PySem.W.mg_of X G a20,
    b_w_two_right := F20.binds (ps := ["_law_first", "_law_second"]) fun _ _ _ _ _ _ us hl => match us, hl with | [_, _], _ => rfl,
    f_law := fa, fd_law := _, F_law := F21,
    g_law := PySem.W.mg_of X G a21,
    b_law := F21.binds (ps := ["_law_script"]) fun _ _ _ _ _ _ us hl => match us, hl with | [_], _ => rfl,
    m_len := PySem.W.mg_none_of X G z0,
    m_range := PySem.W.mg_none_of X G z1,
    m_isinstance := PySem.W.mg_none_of X G z2,
    m_int := PySem.W.mg_none_of X G z3,
    m_bool := PySem.W.mg_none_of X G z4,
    m_list := PySem.W.mg_none_of X G z5,
    m_tuple := PySem.W.mg_none_of X G z6,
    m_abs := PySem.W.mg_none_of X G z7,
    m_max := PySem.W.mg_none_of X G z8,
    m_ZeroDivisionError := PySem.W.mg_none_of X G z9,
    m_gcd := PySem.W.mg_of X G z10 }
  refine ⟨T.fd_law, fun s v => .of_eq rfl, fun base _ _ => ?_⟩
  exact law_of T
end My
open PySem PySem.W PyProof.Rows
set_option maxHeartbeats 0 in
theorem PySem.Challenge.cw_metehouse_k00_ratios_holds : PySem.Challenge.rw_metehouse_k00_ratios.Holds := by
  w_on; o_law; k_head; (case hw => w_witness2)
  k_fill
  refine L2.walk_of (l := PySem.Challenge.rw_metehouse_k00_ratios) (n := 63) (k := 5) (x := "_law_script") (CX := fun _ => L2.CX0) (sp := fun w => My.spLaw _) rfl (by decide) rfl ⟨rfl, by decide, by decide⟩ (fun w h Y => PySem.W.kIn_of Y) ?F (fun _ _ a ns hl _ hS => ⟨a, ns, rfl, hS, hl, fun _ => rfl⟩) (fun _ _ _ _ _ h => h)
  case F =>
    intro w mg fa h KX G hmg
    refine' My.all_mk KX G hmg ?a0 ?l0 ?c0 ?k0 ?a1 ?l1 ?c1 ?k1 ?d1 ?a2 ?l2 ?c2 ?k2 ?a3 ?l3 ?c3 ?k3 ?a4 ?l4 ?c4 ?k4 ?a5 ?l5 ?c5 ?k5 ?a6 ?l6 ?c6 ?k6 ?a7 ?l7 ?c7 ?k7 ?a8 ?l8 ?c8 ?k8 ?a9 ?l9 ?c9 ?k9 ?a10 ?l10 ?c10 ?k10 ?a11 ?l11 ?c11 ?k11 ?a12 ?l12 ?c12 ?k12 ?a13 ?l13 ?c13 ?k13 ?a14 ?l14 ?c14 ?k14 ?a15 ?l15 ?c15 ?k15 ?a16 ?l16 ?c16 ?k16 ?a17 ?l17 ?c17 ?k17 ?a18 ?l18 ?c18 ?k18 ?a19 ?l19 ?c19 ?k19 ?a20 ?l20 ?c20 ?k20 ?a21 ?l21 ?c21 ?k21 ?z0 ?z1 ?z2 ?z3 ?z4 ?z5 ?z6 ?z7 ?z8 ?z9 ?z10
    (case a0 => k_is)
    (case l0 => k_is)
    (case c0 => k_is)
    (case k0 => k_is)
    (case a1 => k_is)
    (case l1 => k_is)
    (case c1 => k_is)
    (case k1 => k_is)
    (case d1 => k_is)
    (case a2 => k_is)
    (case l2 => k_is)
    (case c2 => k_is)
    (case k2 => k_is)
    (case a3 => k_is)
    (case l3 => k_is)
    (case c3 => k_is)
    (case k3 => k_is)
    (case a4 => k_is)
    (case l4 => k_is)
    (case c4 => k_is)
    (case k4 => k_is)
    (case a5 => k_is)
    (case l5 => k_is)
    (case c5 => k_is)
    (case k5 => k_is)
    (case a6 => k_is)
    (case l6 => k_is)
    (case c6 => k_is)
    (case k6 => k_is)
    (case a7 => k_is)
    (case l7 => k_is)
    (case c7 => k_is)
    (case k7 => k_is)
    (case a8 => k_is)
    (case l8 => k_is)
    (case c8 => k_is)
    (case k8 => k_is)
    (case a9 => k_is)
    (case l9 => k_is)
    (case c9 => k_is)
    (case k9 => k_is)
    (case a10 => k_is)
    (case l10 => k_is)
    (case c10 => k_is)
    (case k10 => k_is)
    (case a11 => k_is)
    (case l11 => k_is)
    (case c11 => k_is)
    (case k11 => k_is)
    (case a12 => k_is)
    (case l12 => k_is)
    (case c12 => k_is)
    (case k12 => k_is)
    (case a13 => k_is)
    (case l13 => k_is)
    (case c13 => k_is)
    (case k13 => k_is)
    (case a14 => k_is)
    (case l14 => k_is)
    (case c14 => k_is)
    (case k14 => k_is)
    (case a15 => k_is)
    (case l15 => k_is)
    (case c15 => k_is)
    (case k15 => k_is)
    (case a16 => k_is)
    (case l16 => k_is)
    (case c16 => k_is)
    (case k16 => k_is)
    (case a17 => k_is)
    (case l17 => k_is)
    (case c17 => k_is)
    (case k17 => k_is)
    (case a18 => k_is)
    (case l18 => k_is)
    (case c18 => k_is)
    (case k18 => k_is)
    (case a19 => k_is)
    (case l19 => k_is)
    (case c19 => k_is)
    (case k19 => k_is)
    (case a20 => k_is)
    (case l20 => k_is)
    (case c20 => k_is)
    (case k20 => k_is)
    (case a21 => k_is)
    (case l21 => k_is)
    (case c21 => k_is)
    (case k21 => k_is)
    (case z0 => k_is)
    (case z1 => k_is)
    (case z2 => k_is)
    (case z3 => k_is)
    (case z4 => k_is)
    (case z5 => k_is)
    (case z6 => k_is)
    (case z7 => k_is)
    (case z8 => k_is)
    (case z9 => k_is)
    (case z10 => k_is)
