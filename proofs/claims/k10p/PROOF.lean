import PyProof.Rows.All
import Wide.All
import OpenK.AllK
import Wide.FinOn
import HandS.ForMost
import HandS.Wide
import HandS.SortInts
import HandS.IsInst
import HandS.Style
import HandS.TupAny
import HandS.FStr
import HandS.Defaults
import HandS.TryOnly
import HandS.HotCalls
import HandS.ExcInit
import HandS.ExcIs
import HandS.ExcField
import HandS.WordsExc
import KE.KExcIs
import HandS.Gcd
import KE.KMathGC
import PySem.Challenge.RW_hedgejoin_k10_groups_that_cross
import HandS.Comp
import HandS.SortKw
import HandS.Deep
import KE.DatumOrd
import HandS.Property
import HandS.DictComp
import HandS.Iter
import KE.GoesMore
import HandS.SetFor
import HandS.Strs
import PyProof.Rows.SetFrom
import HandS.Text
import KE.KStrOpen
import HandS.Head0
import HandS.Head1
import HandS.Head2
import HandS.HeadEnd
import HandS.HeadHook1
import HandS.HeadHook2
import HandS.HeadHook3
import HandS.HeadHook4
import HandS.MakeKwOnly
import PyProof.StrLawsRepr
set_option Elab.async false
set_option linter.all false
set_option maxRecDepth 100000
namespace Z
open PySem PySem.Spec PyProof.Rows L2

/-- the built-in names that a module does not bind -/
structure Blt (mg : Str → Option Value) : Prop where
  len : mg "len" = none
  list : mg "list" = none
  tuple : mg "tuple" = none
  int : mg "int" = none
  range : mg "range" = none
  isinstance : mg "isinstance" = none
  sorted : mg "sorted" = none
  all : mg "all" = none
  any : mg "any" = none
  str : mg "str" = none
  bool : mg "bool" = none
  enumerate : mg "enumerate" = none
  zip : mg "zip" = none
  max : mg "max" = none
  min : mg "min" = none
  set : mg "set" = none
  ValueError : mg "ValueError" = none
  sum : mg "sum" = none

/-- a def that stands under its name -/
structure Dn (K : PySem.W.Frag) (mg : Str → Option Value) (x : Str) (st : Stmt) : Prop where
  ex : ∃ (f : Addr) (fd : FuncData), Fun K x x st f fd ∧ mg x = some (.ref f)
/-- a def that keeps its promise -/
structure Cl (P : Program) (w : World) (K : PySem.W.Frag) (mg : Str → Option Value) (base : Heap) (k : Nat) (x : Str) (sp : Sp) : Prop where
  ex : ∃ (f : Addr) (fd : FuncData) (ps : List Str), FnOk P w K mg base CX0 k f fd ps sp ∧ mg x = some (.ref f) ∧ PySem.W.keepIn K (.ref f) = true ∧ Binds K fd ps []
def BindO (x : Str) (st : Stmt) (ps : List Str) : Prop := ∀ (kV doc pm : Value) (an : Option Addr) (cdv ct : Value) (us : List Value), us.length = ps.length →
  bindArgs (PySem.W.fnOf x x (defArgs st) (defBody st) (defScope st) .none kV doc pm an cdv ct) ⟨us, []⟩ = pure (ps.zip us)
section
variable {P : Program} {w : World} {K : PySem.W.Frag} {mg : Str → Option Value} {base : Heap}
theorem cl_of {x : Str} {st : Stmt} {N ps : List Str} {k : Nat} {sp : Sp} (D : Dn K mg x st) (S : FnScope N ps (defScope st)) (b : BindO x st ps) (len : ∀ vs H Q E, sp vs H Q E → vs.length = ps.length)
    (body : ∀ (f : Addr) (cdv : Value) (A : Around) (outer : List Env) (s : Shared) (H : Hp) (vs : List V) (Q : VK) (E : XK), Room k (A.deeper (envOfC x (defScope st) s.heap.objs.size f cdv)) → sp vs H Q E →
      ∃ t, PSs (cxOf CX0 P w K mg base N x (defScope st) f cdv A outer s H E).nox (defBody st) t ∧ t { nx := fun _ H' => Q .non H', rt := Q } (start N vs) H) : Cl P w K mg base (k + 1) x sp := by
  obtain ⟨f, fd, F, hm⟩ := D.ex
  exact ⟨f, fd, ps, F.ok S len (body f), hm, F.kp, F.binds b⟩
theorem Cl.mono {x : Str} {j k : Nat} {sp : Sp} (c : Cl P w K mg base j x sp) (h : j ≤ k) : Cl P w K mg base k x sp := by
  obtain ⟨f, fd, ps, F, a⟩ := c.ex
  exact ⟨f, fd, ps, F.mono h, a⟩
end
/-- its call, as a reading -/
def tCl (sp : Sp) (t : TA) : TE := fun σ H Q => t σ H fun vs H1 => sp vs H1 Q E0
section
variable {X : Cx} {k j : Nat} {x : Str} {sp : Sp} {p pos : Pos} {e : Expr} {es : List Expr} {t : TA}
theorem pe_cl (c : Cl X.prog X.w X.K X.mg X.base k x sp) (hr : Room j X.A) (hk : k ≤ j) (hg : Gl X x) (ha : PA X (e :: es) t)
    (d : (x == ("__debug__" : Str)) = false := by decide) (h1 : starEach (e :: es) X.env = (false, eval e X.env) :: starEach es X.env := by rfl) (h2 : (backTo pos (starEach es X.env)).any (·.1) = false := by rfl) :
    PE X (.Call (.Name x p) (e :: es) [] pos) (tCl sp t) := by
  obtain ⟨f, fd, ps, F, hm, kp, b⟩ := c.ex
  have z := pe_call (pos := pos) F (hr.mono hk) hg hm kp b .nil (E := E0) pass0 ha d h1 h2 (p := p)
  refine ⟨fun pins s σ H Q I h => z.run pins s σ H Q I ?_⟩
  have e : tCall sp [] E0 t = tCl sp t := by
    funext σ H Q
    simp only [tCall, tCl, List.append_nil]
  rw [e]
  exact h
end

/-! ### defs with keyword-only defaults, calls with keywords -/
/-- a def that stands under its name, kws its keyword-only defaults -/
structure Dk (K : PySem.W.Frag) (mg : Str → Option Value) (x : Str) (st : Stmt) (kws : List (Str × V)) : Prop where
  ex : ∃ (f : Addr) (fd : FuncData), FunD K x x (defArgs st) (defBody st) (defScope st) [] kws f fd ∧ mg x = some (.ref f)
structure Fk (P : Program) (w : World) (K : PySem.W.Frag) (mg : Str → Option Value) (base : Heap) (k : Nat) (x : Str) (st : Stmt) (kws : List (Str × V)) (ps : List Str) (sp : Sp) : Prop where
  ex : ∃ (f : Addr) (fd : FuncData), FnOk P w K mg base CX0 k f fd ps sp ∧ mg x = some (.ref f) ∧ FunD K x x (defArgs st) (defBody st) (defScope st) [] kws f fd
/-- a call by n values, the defaults dvs behind them -/
structure Cd (P : Program) (w : World) (K : PySem.W.Frag) (mg : Str → Option Value) (base : Heap) (k : Nat) (x : Str) (dvs : List V) (sp : Sp) : Prop where
  ex : ∃ (f : Addr) (fd : FuncData) (ps : List Str) (ds : List Value), FnOk P w K mg base CX0 k f fd ps sp ∧ mg x = some (.ref f) ∧ PySem.W.keepIn K (.ref f) = true ∧ Binds K fd ps ds ∧ Vals dvs ds
/-- a call by n values and the keywords ks -/
structure Ck (P : Program) (w : World) (K : PySem.W.Frag) (mg : Str → Option Value) (base : Heap) (k : Nat) (x : Str) (n : Nat) (ks : List Str) (gV : List V → List V → List V) (sp : Sp) : Prop where
  ex : ∃ (f : Addr) (fd : FuncData) (ps : List Str) (g : List Value → List Value → List Value), FnOk P w K mg base CX0 k f fd ps sp ∧ mg x = some (.ref f) ∧ PySem.W.keepIn K (.ref f) = true ∧ KBn K fd ps n ks g gV
section
variable {P : Program} {w : World} {K : PySem.W.Frag} {mg : Str → Option Value} {base : Heap}
theorem fk_of {x : Str} {st : Stmt} {kws : List (Str × V)} {N ps : List Str} {k : Nat} {sp : Sp} (D : Dk K mg x st kws) (S : FnScope N ps (defScope st)) (len : ∀ vs H Q E, sp vs H Q E → vs.length = ps.length)
    (body : ∀ (f : Addr) (cdv : Value) (A : Around) (outer : List Env) (s : Shared) (H : Hp) (vs : List V) (Q : VK) (E : XK), Room k (A.deeper (envOfC x (defScope st) s.heap.objs.size f cdv)) → sp vs H Q E →
      ∃ t, PSs (cxOf CX0 P w K mg base N x (defScope st) f cdv A outer s H E).nox (defBody st) t ∧ t { nx := fun _ H' => Q .non H', rt := Q } (start N vs) H) : Fk P w K mg base (k + 1) x st kws ps sp := by
  obtain ⟨f, fd, F, hm⟩ := D.ex
  exact ⟨f, fd, F.ok S len fun cdv A outer s H vs Q E hr h => (body f cdv A outer s H vs Q E hr h).imp fun t z => ⟨z.1.nox, z.2⟩, hm, F⟩
theorem Fk.cd {x : Str} {st : Stmt} {kws : List (Str × V)} {ps : List Str} {k : Nat} {sp : Sp} (F : Fk P w K mg base k x st kws ps sp) (n : Nat) (hk : kws ≠ []) (hn : n + kws.length = ps.length)
    (h : ∀ (D : Addr) (doc pm : Value) (an : Option Addr) (cdv ct : Value) (us ks : List Value), us.length = n → ks.length = kws.length →
      KwChain D ((kws.map (·.1)).zip ks) (bindArgs (PySem.W.fnOf x x (defArgs st) (defBody st) (defScope st) .none (.ref D) doc pm an cdv ct) ⟨us, []⟩) (ps.zip (us ++ ks))) : Cd P w K mg base k x (kws.map (·.2)) sp := by
  obtain ⟨f, fd, Fn, hm, FD⟩ := F.ex
  obtain ⟨ds, v, b⟩ := FD.binds0 n hk hn h
  exact ⟨f, fd, ps, ds, Fn, hm, FD.kp, b, v⟩
/-- every keyword-only parameter is named -/
theorem Fk.ck {x : Str} {st : Stmt} {kws : List (Str × V)} {ps : List Str} {k : Nat} {sp : Sp} (F : Fk P w K mg base k x st kws ps sp) (n : Nat) (ks : List Str) (g : {α : Type} → List α → List α → List α)
    (hg : ∀ {vs : List V} {us : List Value} {zs : List V} {ws : List Value}, Vals vs us → Vals zs ws → Vals (g vs zs) (g us ws))
    (h : ∀ (kV doc pm : Value) (an : Option Addr) (cdv ct : Value) (us ws : List Value), us.length = n → ws.length = ks.length →
      bindArgs (PySem.W.fnOf x x (defArgs st) (defBody st) (defScope st) .none kV doc pm an cdv ct) ⟨us, ks.zip ws⟩ = pure (ps.zip (g us ws))) : Ck P w K mg base k x n ks g sp := by
  obtain ⟨f, fd, Fn, hm, FD⟩ := F.ex
  obtain ⟨oc, od, dV, kV, doc, pm, an, cdv, ct, osl, rfl, lk, hcd, hD, hK⟩ := id FD.ex
  rcases hD with ⟨_, rfl⟩ | ⟨e, _⟩
  · exact ⟨f, _, ps, g, Fn, hm, FD.kp, ⟨fun s us ws X l1 l2 => .of_eq (h kV doc pm an cdv ct us ws l1 l2), hg⟩⟩
  · exact absurd rfl e
/-- the same of a def without defaults -/
theorem ck_of {x : Str} {st : Stmt} {N ps : List Str} {k : Nat} {sp : Sp} (D : Dn K mg x st) (c : ∀ (f : Addr) (fd : FuncData), Fun K x x st f fd → FnOk P w K mg base CX0 k f fd ps sp) (n : Nat) (ks : List Str) (g : {α : Type} → List α → List α → List α)
    (hg : ∀ {vs : List V} {us : List Value} {zs : List V} {ws : List Value}, Vals vs us → Vals zs ws → Vals (g vs zs) (g us ws))
    (h : ∀ (kV doc pm : Value) (an : Option Addr) (cdv ct : Value) (us ws : List Value), us.length = n → ws.length = ks.length →
      bindArgs (PySem.W.fnOf x x (defArgs st) (defBody st) (defScope st) .none kV doc pm an cdv ct) ⟨us, ks.zip ws⟩ = pure (ps.zip (g us ws))) : Ck P w K mg base k x n ks g sp := by
  obtain ⟨f, fd, F, hm⟩ := D.ex
  have Fn := c f fd F
  obtain ⟨oc, od, kV, doc, pm, an, cdv, ct, osl, rfl, lk, hcd⟩ := id F.ex
  exact ⟨f, _, ps, g, Fn, hm, F.kp, ⟨fun s us ws X l1 l2 => .of_eq (h kV doc pm an cdv ct us ws l1 l2), hg⟩⟩
end
def tCd (sp : Sp) (dvs : List V) (t : TA) : TE := fun σ H Q => t σ H fun vs H1 => sp (vs ++ dvs) H1 Q E0
def tCk (n m : Nat) (sp : Sp) (g : List V → List V → List V) (t tk : TA) : TE := fun σ H Q => t σ H fun vs H1 => tk σ H1 fun zs H2 => vs.length = n ∧ zs.length = m ∧ sp (g vs zs) H2 Q E0
section
variable {X : Cx} {k j n : Nat} {x : Str} {sp : Sp} {p pos : Pos} {e : Expr} {es : List Expr} {t tk : TA} {dvs : List V} {ks : List Str} {gV : List V → List V → List V} {kws : List Keyword}
theorem pe_cd (c : Cd X.prog X.w X.K X.mg X.base k x dvs sp) (hr : Room j X.A) (hk : k ≤ j) (hg : Gl X x) (ha : PA X (e :: es) t)
    (d : (x == ("__debug__" : Str)) = false := by decide) (h1 : starEach (e :: es) X.env = (false, eval e X.env) :: starEach es X.env := by rfl) (h2 : (backTo pos (starEach es X.env)).any (·.1) = false := by rfl) :
    PE X (.Call (.Name x p) (e :: es) [] pos) (tCd sp dvs t) := by
  obtain ⟨f, fd, ps, ds, F, hm, kp, b, v⟩ := c.ex
  exact pe_call (pos := pos) F (hr.mono hk) hg hm kp b v (E := E0) pass0 ha d h1 h2 (p := p)
theorem pe_ck (c : Ck X.prog X.w X.K X.mg X.base k x n ks gV sp) (hr : Room j X.A) (hk : k ≤ j) (hg : Gl X x) (ha : PA X (e :: es) t) (hkw : PK X kws tk)
    (h1 : (backToKw pos (keywordEach kws X.env)).all (·.1.isSome) = true := by rfl) (h2 : (backToKw pos (keywordEach kws X.env)).filterMap (·.1) = ks := by rfl)
    (d : (x == ("__debug__" : Str)) = false := by decide) (h3 : starEach (e :: es) X.env = (false, eval e X.env) :: starEach es X.env := by rfl)
    (h4 : ((backTo pos (starEach (e :: es) X.env)).any (·.1) || (backToKw pos (keywordEach kws X.env)).any (·.1.isNone)) = false := by rfl) :
    PE X (.Call (.Name x p) (e :: es) kws pos) (tCk n ks.length sp gV t tk) := by
  obtain ⟨f, fd, ps, g, F, hm, kp, b⟩ := c.ex
  exact pe_callN (pos := pos) F (hr.mono hk) hg hm kp b (E := E0) pass0 ha hkw h1 h2 d h3 h4 (p := p)
theorem pe_ck0 (c : Ck X.prog X.w X.K X.mg X.base k x 0 ks gV sp) (hr : Room j X.A) (hk : k ≤ j) (hg : Gl X x) (hkw : PK X kws tk)
    (h1 : (backToKw pos (keywordEach kws X.env)).all (·.1.isSome) = true := by rfl) (h2 : (backToKw pos (keywordEach kws X.env)).filterMap (·.1) = ks := by rfl)
    (d : (x == ("__debug__" : Str)) = false := by decide) (h4 : (backToKw pos (keywordEach kws X.env)).any (·.1.isNone) = false := by rfl) :
    PE X (.Call (.Name x p) [] kws pos) (tCk 0 ks.length sp gV tNil tk) := by
  obtain ⟨f, fd, ps, g, F, hm, kp, b⟩ := c.ex
  refine ⟨fun pins s σ H Q I q => ?_⟩
  refine wpAny_Call_Name_kw (ld_glob I hg hm ?_ d)
  refine PySem.W.callWith_KW0 (h₀ := X.base) I.ok.mod.kin kp h1 (thn (hkw.run pos pins s σ H _ I q) fun ws s2 ⟨zs, H2, I2, rz, l1, l2, q2⟩ => ⟨I2.kIn, ?_⟩) h4
  rw [h2]
  exact run_fnN F (hr.mono hk) b (E := E0) pass0 I2 .nil rz l1 l2 q2
end

/-! ### heaps: all stays but at S -/
def But (S : Addr → Prop) (H H' : Hp) : Prop := ∀ b o, ¬ S b → H b = some o → H' b = some o
theorem But.refl {S : Addr → Prop} (H : Hp) : But S H H := fun _ _ _ h => h
theorem But.trans {S : Addr → Prop} {H H1 H2 : Hp} (a : But S H H1) (b : But S H1 H2) : But S H H2 := fun c o n h => b c o n (a c o n h)
theorem But.of {S : Addr → Prop} {H H1 : Hp} (a : Same H H1) : But S H H1 := fun c o _ h => a c o h
theorem But.new {S : Addr → Prop} {H : Hp} {p : Addr} {o : HO} (h : H p = none) : But S H (upd H p o) := fun b u _ e => by
  rw [upd_ne (ne_of_none e h)]
  exact e
theorem But.at {S : Addr → Prop} {H H1 : Hp} {p : Addr} {o : HO} (a : But S H H1) (h : S p ∨ H p = none) : But S H (upd H1 p o) := fun b u n e => by
  rw [upd_ne (fun z => by
    subst z
    rcases h with h | h
    · exact n h
    · rw [e] at h
      cases h)]
  exact a b u n e
theorem But.sql {S : Addr → Prop} {K : PySem.W.Frag} {H H' : Hp} {a : Addr} {xs : List V} (e : But S H H') (n : ¬ S a) (h : SqL K H a xs) : SqL K H' a xs := by
  rcases h with (h | ⟨o, h⟩) | h
  · exact .inl (.inl (e _ _ n h))
  · exact .inl (.inr ⟨o, e _ _ n h⟩)
  · exact .inr h
theorem But.sqt {S : Addr → Prop} {K : PySem.W.Frag} {H H' : Hp} {a : Addr} {xs : List V} (e : But S H H') (n : ¬ S a) (h : SqT K H a xs) : SqT K H' a xs := by
  rcases h with (h | ⟨o, h⟩) | h
  · exact .inl (.inl (e _ _ n h))
  · exact .inl (.inr ⟨o, e _ _ n h⟩)
  · exact .inr h
theorem But.free {S : Addr → Prop} {H H' : Hp} (e : But S H H') {l : Addr} (n : ¬ S l) (h : H' l = none) : H l = none := by
  cases q : H l with
  | none => rfl
  | some o =>
    rw [e l o n q] at h
    cases h
theorem But.mono {S S' : Addr → Prop} {H H' : Hp} (e : But S H H') (h : ∀ a, S a → S' a) : But S' H H' := fun b o n q => e b o (fun z => n (h b z)) q
theorem same_new {H : Hp} {p : Addr} {o : HO} (h : H p = none) : Same H (upd H p o) := fun b x e => by
  rw [upd_ne (ne_of_none e h)]
  exact e
theorem some_inj {v w : V} : (some (some v) = some (some w)) = (v = w) := by simp
theorem sz_of {n : Nat} (h : n ≤ 100000) : n ≤ sizeLine := Nat.le_trans h (by decide)
theorem sz_lt {n : Nat} (h : n < 100000) : n < sizeLine := Nat.lt_of_lt_of_le h (by decide)

/-! ### a reading, laid open -/
theorem cmul_r {i j : Int} (h1 : -(2 ^ 64) < j) (h2 : j < 2 ^ 64) : CMul i j ↔ True := ⟨fun _ => trivial, fun _ => .inr ⟨h1, h2⟩⟩
theorem cdiv_ok {i j : Int} (h1 : 0 < j) (h2 : j < 2 ^ 64) : CDivW i j := wide_div (b := 64) h1 (by omega) (by decide) (by decide)
theorem cdiv_l {i j : Int} (h1 : 0 < j) (h2 : j < 2 ^ 64) : CDivW i j ↔ True := ⟨fun _ => trivial, fun _ => cdiv_ok h1 h2⟩
theorem cpow_l {i j : Int} (h1 : 0 ≤ j) (h2 : j ≤ 1000000) (h3 : i.natAbs < 2 ^ 64) : CPow i j ↔ True := ⟨fun _ => trivial, fun _ => ⟨h1, h2, h3⟩⟩
theorem scal_ii {i j : Int} : (scal (.int i) (.int j) = true) ↔ True := ⟨fun _ => trivial, fun _ => rfl⟩
theorem scal_bb {i j : Bool} : (scal (.bl i) (.bl j) = true) ↔ True := ⟨fun _ => trivial, fun _ => rfl⟩
theorem scal_ss {i j : Str} : (scal (.str i) (.str j) = true) ↔ True := ⟨fun _ => trivial, fun _ => rfl⟩
theorem callr_imp {X : Cx} {f : Value} {r r' : List V → Hp → VK → Prop} (c : CallR X f r) (h : ∀ xs H Q, r' xs H Q → r xs H Q) : CallR X f r' := fun pins s σ H xs us Q I rv q => c pins s σ H xs us Q I rv (h xs H Q q)
/-- int(n) of an int -/
def rIntI : List V → Hp → VK → Prop := fun xs H Q => ∃ i, xs = [.int i] ∧ Q (.int i) H
theorem call_intI {X : Cx} : CallR X (.type "int") rIntI := callr_imp call_int1 fun _ _ _ ⟨i, e, q⟩ => .inl ⟨i, e, q⟩
/-- the items of a tracked list or tuple -/
def seqAt : Option HO → Option (List V)
  | some (.lst xs) => some xs
  | some (.tup xs) => some xs
  | _ => none
theorem seqAt_lst {xs : List V} : seqAt (some (.lst xs)) = some xs := rfl
theorem seqAt_tup {xs : List V} : seqAt (some (.tup xs)) = some xs := rfl
theorem seq_or {K : PySem.W.Frag} {H : Hp} {p : Addr} {xs : List V} (h : seqAt (H p) = some xs) : SqL K H p xs ∨ SqT K H p xs := by
  cases e : H p with
  | none =>
    rw [e] at h
    cases h
  | some o =>
    rw [e] at h
    cases o with
    | lst ys =>
      cases h
      exact .inl (SqL.of e)
    | tup ys =>
      cases h
      exact .inr (SqT.of e)
    | _ => cases h
theorem seq_some {H : Hp} {p : Addr} {xs : List V} (h : seqAt (H p) = some xs) : ∃ o, H p = some o ∧ seqAt (some o) = some xs := by
  cases e : H p with
  | none =>
    rw [e] at h
    cases h
  | some o =>
    rw [e] at h
    exact ⟨o, rfl, h⟩
theorem But.seqAt {S : Addr → Prop} {H H' : Hp} {p : Addr} {xs : List V} (b : But S H H') (n : ¬ S p) (h : seqAt (H p) = some xs) : seqAt (H' p) = some xs := by
  obtain ⟨o, e, h'⟩ := seq_some h
  rw [b p o n e]
  exact h'
theorem same_seq {H H' : Hp} {p : Addr} {xs : List V} (b : Same H H') (h : seqAt (H p) = some xs) : seqAt (H' p) = some xs := by
  obtain ⟨o, e, h'⟩ := seq_some h
  rw [b p o e]
  exact h'
/-- len of a list, of a tuple -/
def rLenQ : List V → Hp → VK → Prop := fun xs H Q => ∃ p, xs = [.ref p] ∧ ∃ ys, seqAt (H p) = some ys ∧ Q (.int ys.length) H
theorem call_lenQ {X : Cx} : CallR X (.builtin "len") rLenQ := callr_imp call_len_seq fun _ _ _ ⟨p, e, ys, h, q⟩ => ⟨p, ys, e, seq_or h, q⟩
/-- len of a text -/
def rLenS : List V → Hp → VK → Prop := fun xs H Q => ∃ z, xs = [.str z] ∧ z.length ≤ sizeLine ∧ Q (.int z.length) H
theorem call_lenS {X : Cx} : CallR X (.builtin "len") rLenS := callr_imp call_len_str fun _ _ _ ⟨z, e, h, q⟩ => ⟨z, e, h, q⟩
/-- list(xs), tuple(xs) -/
def rListQ : List V → Hp → VK → Prop := fun xs H Q => ∃ p, xs = [.ref p] ∧ ∃ ys, seqAt (H p) = some ys ∧ ∀ l, H l = none → Q (.ref l) (upd H l (.lst ys))
theorem call_listQ {X : Cx} : CallR X (.type "list") rListQ := callr_imp call_list_of fun _ _ _ ⟨p, e, ys, h, q⟩ => ⟨p, ys, e, seq_or h, q⟩
def rListF (K : PySem.W.Frag) : List V → Hp → VK → Prop := fun xs H Q => ∃ p, xs = [.ref p] ∧ ∃ ys, SqL K H p ys ∧ ∀ l, H l = none → Q (.ref l) (upd H l (.lst ys))
theorem call_listF {X : Cx} : CallR X (.type "list") (rListF X.K) := callr_imp call_list_of fun _ _ _ ⟨p, e, ys, h, q⟩ => ⟨p, ys, e, .inl h, q⟩
def rTupL : List V → Hp → VK → Prop := fun xs H Q => ∃ p, xs = [.ref p] ∧ ∃ ys, H p = some (.lst ys) ∧ ∀ l, H l = none → Q (.ref l) (upd H l (.tup ys))
theorem call_tupL {X : Cx} : CallR X (.type "tuple") rTupL := callr_imp call_tuple_of fun _ _ _ ⟨p, e, ys, h, q⟩ => ⟨p, ys, e, .inl ⟨SqL.of h, q⟩⟩
/-- tuple(xs) of either: a new tuple, or itself -/
def rTupQ : List V → Hp → VK → Prop := fun xs H Q => ∃ p, xs = [.ref p] ∧ ∃ ys, (H p = some (.lst ys) ∧ ∀ l, H l = none → Q (.ref l) (upd H l (.tup ys))) ∨ (H p = some (.tup ys) ∧ Q (.ref p) H)
theorem call_tupQ {X : Cx} : CallR X (.type "tuple") rTupQ := callr_imp call_tuple_of fun _ _ _ ⟨p, e, ys, h⟩ => ⟨p, ys, e, h.elim (fun h => .inl ⟨SqL.of h.1, h.2⟩) fun h => .inr ⟨SqT.of h.1, h.2⟩⟩
/-- xs[i], by the object and the place -/
def rAtQ : R2 := fun x y H Q => ∃ p, x = .ref p ∧ ∃ i, y = .int i ∧ ∃ xs, seqAt (H p) = some xs ∧ ∃ v, atI xs i = some v ∧ Q v H
theorem ixr_imp {X : Cx} {r r' : R2} (c : IxR X r) (h : ∀ x y H Q, r' x y H Q → r x y H Q) : IxR X r' := fun value slice pins s σ H x y v u Q I rx ry q e => c value slice pins s σ H x y v u Q I rx ry (h x y H Q q) e
theorem at_seq {X : Cx} : IxR X rAtQ := ixr_imp ix_seq fun _ _ _ _ ⟨p, e, i, e', xs, h, v, a, q⟩ => (seq_or (K := X.K) h).elim (fun h => .inl ⟨p, xs, i, v, e, e', h, a, q⟩) fun h => .inr (.inl ⟨p, xs, i, v, e, e', h, a, q⟩)
/-- xs[i] = v -/
def rPutL : V → V → V → Hp → (Hp → Prop) → Prop := fun o i v H Q => ∃ p, o = .ref p ∧ ∃ k, i = .int k ∧ ∃ xs, H p = some (.lst xs) ∧ ∃ j, ixN xs.length k = some j ∧ Q (upd H p (.lst (xs.set j v)))
theorem put_list {X : Cx} : PSet X rPutL := fun pins s σ H o i v ov iv u Q I ro ri rv ⟨p, e, k, e', xs, h, j, hj, q⟩ => set_list pins s σ H o i v ov iv u Q I ro ri rv ⟨p, xs, k, j, e, e', h, hj, q⟩
theorem at_0 {α : Type} {x : α} {r : List α} : atI (x :: r) 0 = some x := atI_nat (j := 0) rfl
theorem at_1 {α : Type} {x x1 : α} {r : List α} : atI (x :: x1 :: r) 1 = some x1 := atI_nat (j := 1) rfl
theorem at_2 {α : Type} {x x1 x2 : α} {r : List α} : atI (x :: x1 :: x2 :: r) 2 = some x2 := atI_nat (j := 2) rfl
theorem at_3 {α : Type} {x x1 x2 x3 : α} {r : List α} : atI (x :: x1 :: x2 :: x3 :: r) 3 = some x3 := atI_nat (j := 3) rfl
theorem at_4 {α : Type} {x x1 x2 x3 x4 : α} {r : List α} : atI (x :: x1 :: x2 :: x3 :: x4 :: r) 4 = some x4 := atI_nat (j := 4) rfl
theorem ix_lit {n : Nat} {j : Nat} (h : j < n) : ixN n (j : Int) = some j := by
  unfold ixN
  rw [if_pos (by omega), if_pos (by omega)]
  simp
theorem ix_0 {n : Nat} (h : 0 < n) : ixN n 0 = some 0 := ix_lit h
theorem ix_1 {n : Nat} (h : 1 < n) : ixN n 1 = some 1 := ix_lit h
theorem ix_2 {n : Nat} (h : 2 < n) : ixN n 2 = some 2 := ix_lit h
theorem ix_3 {n : Nat} (h : 3 < n) : ixN n 3 = some 3 := ix_lit h
theorem ix_4 {n : Nat} (h : 4 < n) : ixN n 4 = some 4 := ix_lit h
theorem cx_K {CX : CXT} {P : Program} {w : World} {K : PySem.W.Frag} {mg : Str → Option Value} {base : Heap} {N : List Str} {q : Str} {sc : Scope} {f : Addr} {cd : Value} {A : Around} {outer : List Env} {s : Shared} {H : Hp} {E : XK} : (cxOf CX P w K mg base N q sc f cd A outer s H E).K = K := rfl
/-! ### methods of lists -/
theorem pe_imp {X : Cx} {e : Expr} {t t' : TE} (h : PE X e t) (i : ∀ σ H Q, t' σ H Q → t σ H Q) : PE X e t' := ⟨fun pins s σ H Q I q => h.run pins s σ H Q I (i σ H Q q)⟩
theorem mtr_imp {X : Cx} {id : String} {r r' : V → List V → Hp → VK → Prop} (c : MtR X id r) (h : ∀ x xs H Q, r' x xs H Q → r x xs H Q) : MtR X id r' := fun pins s σ H x xs v us Q I rx rv q => c pins s σ H x xs v us Q I rx rv (h x xs H Q q)
/-- o.m(..) of a tracked list -/
def tBL (r : V → List V → Hp → VK → Prop) (to : TE) (t : TA) : TE := fun σ H Q => to σ H fun x H1 => (∃ l, x = .ref l ∧ ∃ xs, H1 l = some (.lst xs)) ∧ t σ H1 fun vs H2 => r x vs H2 Q
def tBL0 (r : V → List V → Hp → VK → Prop) (to : TE) : TE := fun σ H Q => to σ H fun x H1 => (∃ l, x = .ref l ∧ ∃ xs, H1 l = some (.lst xs)) ∧ r x [] H1 Q
theorem tyl {K : PySem.W.Frag} {x : V} {H : Hp} (h : ∃ l, x = .ref l ∧ ∃ xs, H l = some (.lst xs)) : tyV K "list" x H := by
  obtain ⟨l, rfl, xs, h⟩ := h
  exact Or.inl ⟨rfl, _, Or.inl (Or.inl h)⟩
/-- a reading, closed upwards -/
def tUp (t : TE) : TE := fun σ H Q => ∃ R : VK, t σ H R ∧ ∀ x H1, R x H1 → Q x H1
theorem pe_up {X : Cx} {e : Expr} {t : TE} (h : PE X e t) : PE X e (tUp t) := ⟨fun pins s σ H Q I ⟨R, hr, i⟩ => thn (h.run pins s σ H R I hr) fun u s1 ⟨x, H1, I1, r1, q⟩ => ⟨x, H1, I1, r1, i x H1 q⟩⟩
section
variable {X : Cx} {o e : Expr} {es : List Expr} {to : TE} {t : TA} {name : Str} {apos cpos : Pos} {id : String} {r : V → List V → Hp → VK → Prop}
theorem pe_ml0 (slot : Slot "list" name id) (hty : typeOf (.builtin id) = pure (.type "method_descriptor")) (hm : MtR X id r) (ho : PE X o to)
    (h1 : attributeBase o name X.env (eval o X.env) = eval o X.env := by rfl) (h2 : (apos.endLine == cpos.line) = true := by rfl) : PE X (.Call (.Attribute o name apos) [] [] cpos) (tBL0 r to) :=
  pe_imp (pe_bm0 PySem.F.plainAttrs_list slot hty hm (pe_up ho) h1 h2) fun σ H Q h => ⟨_, h, fun x H1 ⟨a, b⟩ => ⟨tyl a, b⟩⟩
theorem pe_ml (slot : Slot "list" name id) (hty : typeOf (.builtin id) = pure (.type "method_descriptor")) (hm : MtR X id r) (ho : PE X o to) (ha : PA X (e :: es) t)
    (h1 : attributeBase o name X.env (eval o X.env) = eval o X.env := by rfl)
    (h3 : ((backTo cpos (starEach (e :: es) X.env)).all (fun x => !x.1) && (backToKw cpos (keywordEach [] X.env)).all (fun x => x.1.isSome) && decide ((e :: es).length + ([] : List Keyword).length + (if ([] : List Keyword).isEmpty then 0 else 1) < 30)) = true := by rfl)
    (h2 : (apos.endLine == cpos.line) = true := by rfl) (h4 : starEach (e :: es) X.env = (false, eval e X.env) :: starEach es X.env := by rfl) (h5 : (backTo cpos (starEach es X.env)).any (·.1) = false := by rfl) :
    PE X (.Call (.Attribute o name apos) (e :: es) [] cpos) (tBL r to t) :=
  pe_imp (pe_bm PySem.F.plainAttrs_list slot hty hm (pe_up ho) ha h1 h3 h2 h4 h5) fun σ H Q h => ⟨_, h, fun x H1 ⟨a, b⟩ => ⟨tyl a, b⟩⟩
end
def rApp : V → List V → Hp → VK → Prop := fun x vs H Q => ∃ l, x = .ref l ∧ ∃ y, vs = [y] ∧ ∃ xs, H l = some (.lst xs) ∧ xs.length < sizeLine ∧ Q .non (upd H l (.lst (xs ++ [y])))
theorem mt_app {X : Cx} : MtR X "list.append" rApp := mtr_imp mt_append fun _ _ _ _ ⟨l, e, y, e', xs, h, z, q⟩ => ⟨l, xs, y, e, e', h, z, q⟩
def rPopN : V → List V → Hp → VK → Prop := fun x vs H Q => ∃ l, x = .ref l ∧ ∃ i, vs = [.int i] ∧ ∃ xs, H l = some (.lst xs) ∧ 0 ≤ i ∧ i < 2 ^ 63 ∧ ∃ y, xs[i.toNat]? = some y ∧ Q y (upd H l (.lst (xs.eraseIdx i.toNat)))
theorem mt_popN {X : Cx} : MtR X "list.pop" rPopN := mtr_imp mt_popAt fun _ _ _ _ ⟨l, e, i, e', xs, h, h0, h1, y, hy, q⟩ =>
  ⟨l, xs, i, i.toNat, y, e, e', h, by omega, h1, seqIndex_of h0 (by
    have z := (List.getElem?_eq_some_iff.mp hy).1
    omega), hy, q⟩
def rRevL : V → List V → Hp → VK → Prop := fun x vs H Q => ∃ l, x = .ref l ∧ vs = [] ∧ ∃ xs, H l = some (.lst xs) ∧ Q .non (upd H l (.lst xs.reverse))
theorem mt_revL {X : Cx} : MtR X "list.reverse" rRevL := mtr_imp mt_reverse fun _ _ _ _ ⟨l, e, e', xs, h, q⟩ => ⟨l, xs, e, e', h, q⟩
/-! ### loops -/
theorem z_forR {ta : TA} {j : Nat} {tb : TS} {D : Ends} {σ : L2.St} {H : Hp} (n : Nat) (h : ∀ Q : List V → Hp → Prop, Q [.int n] H → ta σ H Q) (hn : n < 2 ^ 62) (Pv : Nat → L2.St → Hp → Prop) (h0 : Pv 0 σ H)
    (hs : ∀ i σ' H', i < n → Pv i σ' H' → tb { D with nx := Pv (i + 1), ct := Pv (i + 1), bk := D.nx } (σ'.set j (some (.int i))) H') (hd : ∀ σ' H', Pv n σ' H' → D.nx σ' H') : tFor (iRng1 ta) (gName j) tb D σ H := by
  refine h _ ⟨n, rfl, by omega, by omega, ?_⟩
  rw [Int.toNat_natCast]
  refine for_range (lo := 0) (n := n) Pv h0 (fun i σ' H' hi p => ?_) hd
  have z := hs i σ' H' hi p
  rw [show (0 : Int) + (i : Int) = (i : Int) by omega]
  exact z
theorem z_forZ {ta : TA} {j : Nat} {tb : TS} {D : Ends} {σ : L2.St} {H : Hp} (z : Int) (h : ∀ Q : List V → Hp → Prop, Q [.int z] H → ta σ H Q) (hn : -(2 ^ 62) ≤ z ∧ z < 2 ^ 62) (Pv : Nat → L2.St → Hp → Prop) (h0 : Pv 0 σ H)
    (hs : ∀ (i : Nat) σ' H', (i : Int) < z → Pv i σ' H' → tb { D with nx := Pv (i + 1), ct := Pv (i + 1), bk := D.nx } (σ'.set j (some (.int i))) H') (hd : ∀ σ' H', Pv z.toNat σ' H' → D.nx σ' H') : tFor (iRng1 ta) (gName j) tb D σ H := by
  refine h _ ⟨z, rfl, hn.1, hn.2, ?_⟩
  refine for_range (lo := 0) (n := z.toNat) Pv h0 (fun i σ' H' hi p => ?_) hd
  have y := hs i σ' H' (by omega) p
  rw [show (0 : Int) + (i : Int) = (i : Int) by omega]
  exact y
theorem z_forL {K : PySem.W.Frag} {tl : TE} {j : Nat} {tb : TS} {D : Ends} {σ : L2.St} {H : Hp} (a : Addr) (xs : List V) (h : ∀ Q : VK, Q (.ref a) H → tl σ H Q) (hx : SqL K H a xs) (Pv : Nat → L2.St → Hp → Prop) (h0 : Pv 0 σ H)
    (hl : ∀ i σ' H', i ≤ xs.length → Pv i σ' H' → SqL K H' a xs) (hs : ∀ i x σ' H', xs[i]? = some x → Pv i σ' H' → tb { D with nx := Pv (i + 1), ct := Pv (i + 1), bk := D.nx } (σ'.set j (some x)) H') (hd : ∀ σ' H', Pv xs.length σ' H' → D.nx σ' H') :
    tFor (iList K tl) (gName j) tb D σ H := h _ ⟨a, rfl, ⟨xs, hx⟩, for_list Pv h0 hl (fun i x σ' H' e p => hs i x σ' H' e p) hd⟩
/-- over a list that is made for the walk -/
theorem z_forN {K : PySem.W.Frag} {tl : TE} {j : Nat} {tb : TS} {D : Ends} {σ : L2.St} {H : Hp} (xs : List V) (h : ∀ Q : VK, (∀ l, H l = none → Q (.ref l) (upd H l (.lst xs))) → tl σ H Q) (Pv : Addr → Nat → L2.St → Hp → Prop) (h0 : ∀ l, H l = none → Pv l 0 σ (upd H l (.lst xs)))
    (hl : ∀ l i σ' H', H l = none → Pv l i σ' H' → SqL K H' l xs) (hs : ∀ l i x σ' H', H l = none → xs[i]? = some x → Pv l i σ' H' → tb { D with nx := Pv l (i + 1), ct := Pv l (i + 1), bk := D.nx } (σ'.set j (some x)) H') (hd : ∀ l σ' H', H l = none → Pv l xs.length σ' H' → D.nx σ' H') :
    tFor (iList K tl) (gName j) tb D σ H := h _ fun l hl' => ⟨l, rfl, ⟨xs, SqL.of upd_same⟩, for_list (Pv l) (h0 l hl') (fun i σ' H' _ p => hl l i σ' H' hl' p) (fun i x σ' H' e p => hs l i x σ' H' hl' e p) (fun σ' H' p => hd l σ' H' hl' p)⟩
/-- a comprehension over range(n), all kept -/
theorem z_lcR {ta : TA} {j : Nat} {te : TE} {vs : List Nat} {σ : L2.St} {H : Hp} {Q : VK} (n : Nat) (h : ∀ Q : List V → Hp → Prop, Q [.int n] H → ta σ H Q) (hn : n < 2 ^ 62) (Pv : Addr → Nat → Hp → Prop) (h0 : ∀ D, H D = none → Pv D 0 (upd H D (.lst [])))
    (hw : wipe ((wipe σ vs).set j none) vs = wipe σ vs ∧ ∀ v, wipe ((wipe σ vs).set j (some v)) vs = wipe σ vs)
    (hs : ∀ D i H', H D = none → i < n → Pv D i H' → te ((wipe σ vs).set j (some (.int i))) H' fun y H4 => ∃ acc, H4 D = some (.lst acc) ∧ acc.length < sizeLine ∧ Pv D (i + 1) (upd H4 D (.lst (acc ++ [y])))) (hd : ∀ D H', H D = none → Pv D n H' → Q (.ref D) H') :
    tLc (iRng1 ta) (gName j) tYes te vs σ H Q := by
  refine h _ ⟨n, rfl, by omega, by omega, fun D hD => ?_⟩
  rw [Int.toNat_natCast]
  refine lc_range (lo := 0) (n := n) (Pv D) (h0 D hD) (fun i H' hi p => ?_) (fun H' p => hd D H' hD p)
  have z := hs D i H' hD hi p
  rw [show (0 : Int) + (i : Int) = (i : Int) by omega]
  exact ⟨hw.2 _, z⟩
/-- comprehensions over a list, over a tuple, all kept -/
theorem z_lcL {K : PySem.W.Frag} {tl : TE} {j : Nat} {te : TE} {vs : List Nat} {σ : L2.St} {H : Hp} {Q : VK} (a : Addr) (xs : List V) (h : ∀ Q : VK, Q (.ref a) H → tl σ H Q) (hx : SqL K H a xs) (Pv : Addr → Nat → Hp → Prop) (h0 : ∀ D, H D = none → Pv D 0 (upd H D (.lst [])))
    (hw : ∀ v, wipe ((wipe σ vs).set j (some v)) vs = wipe σ vs) (hl : ∀ D i H', H D = none → Pv D i H' → SqL K H' a xs)
    (hs : ∀ D i x H', H D = none → xs[i]? = some x → Pv D i H' → te ((wipe σ vs).set j (some x)) H' fun y H4 => ∃ acc, H4 D = some (.lst acc) ∧ acc.length < sizeLine ∧ Pv D (i + 1) (upd H4 D (.lst (acc ++ [y])))) (hd : ∀ D H', H D = none → Pv D xs.length H' → Q (.ref D) H') :
    tLc (iList K tl) (gName j) tYes te vs σ H Q :=
  h _ ⟨a, rfl, ⟨xs, hx⟩, fun D hD => lc_list (Pv D) (h0 D hD) (fun i H' _ p => hl D i H' hD p) (fun i x H' e p => ⟨hw _, hs D i x H' hD e p⟩) (fun H' p => hd D H' hD p)⟩
theorem z_lcT {K : PySem.W.Frag} {tl : TE} {j : Nat} {te : TE} {vs : List Nat} {σ : L2.St} {H : Hp} {Q : VK} (a : Addr) (xs : List V) (h : ∀ Q : VK, Q (.ref a) H → tl σ H Q) (hx : SqT K H a xs) (Pv : Addr → Nat → Hp → Prop) (h0 : ∀ D, H D = none → Pv D 0 (upd H D (.lst [])))
    (hw : ∀ v, wipe ((wipe σ vs).set j (some v)) vs = wipe σ vs) (hl : ∀ D i H', H D = none → Pv D i H' → SqT K H' a xs)
    (hs : ∀ D i x H', H D = none → xs[i]? = some x → Pv D i H' → te ((wipe σ vs).set j (some x)) H' fun y H4 => ∃ acc, H4 D = some (.lst acc) ∧ acc.length < sizeLine ∧ Pv D (i + 1) (upd H4 D (.lst (acc ++ [y])))) (hd : ∀ D H', H D = none → Pv D xs.length H' → Q (.ref D) H') :
    tLc (iTup K tl) (gName j) tYes te vs σ H Q :=
  h _ ⟨a, rfl, ⟨xs, hx⟩, fun D hD => lc_tup (Pv D) (h0 D hD) (fun i H' _ p => hl D i H' hD p) (fun i x H' e p => ⟨hw _, hs D i x H' hD e p⟩) (fun H' p => hd D H' hD p)⟩
/-! ### data: none, bools, ints, texts, lists and tuples of such, to a depth -/
inductive Dt where
  | non | bl (b : Bool) | int (i : Int) | str (x : Str) | lst (ds : List Dt) | tup (ds : List Dt)
/-- v stands for d, its lists and tuples at addresses in N, not deeper than n -/
def Rp (N : Addr → Prop) (H : Hp) : Nat → V → Dt → Prop
  | 0, _, _ => False
  | n + 1, v, d => match d with
    | .non => v = .non
    | .bl b => v = .bl b
    | .int i => v = .int i
    | .str x => v = .str x
    | .lst ds => ∃ a xs, v = .ref a ∧ N a ∧ H a = some (.lst xs) ∧ xs.length ≤ 1000 ∧ Paired (fun v d => Rp N H n v d) xs ds
    | .tup ds => ∃ a xs, v = .ref a ∧ N a ∧ H a = some (.tup xs) ∧ xs.length ≤ 1000 ∧ Paired (fun v d => Rp N H n v d) xs ds
theorem paired_imp {α β : Type} {F G : α → β → Prop} (h : ∀ a b, F a b → G a b) : ∀ {l : List α} {m : List β}, Paired F l m → Paired G l m
  | _, _, .nil => .nil
  | _, _, .cons r t => .cons (h _ _ r) (paired_imp h t)
theorem Rp.keep {N : Addr → Prop} {H H' : Hp} (k : ∀ b o, N b → H b = some o → H' b = some o) : ∀ {n : Nat} {v : V} {d : Dt}, Rp N H n v d → Rp N H' n v d
  | 0, _, _, h => h
  | n + 1, v, d, h => by
    cases d with
    | lst ds =>
      obtain ⟨a, xs, e, na, ha, l, p⟩ := h
      exact ⟨a, xs, e, na, k _ _ na ha, l, paired_imp (fun _ _ r => Rp.keep k r) p⟩
    | tup ds =>
      obtain ⟨a, xs, e, na, ha, l, p⟩ := h
      exact ⟨a, xs, e, na, k _ _ na ha, l, paired_imp (fun _ _ r => Rp.keep k r) p⟩
    | _ => exact h
theorem Rp.mono {N N' : Addr → Prop} {H : Hp} (k : ∀ b o, H b = some o → N b → N' b) : ∀ {n : Nat} {v : V} {d : Dt}, Rp N H n v d → Rp N' H n v d
  | 0, _, _, h => h
  | n + 1, v, d, h => by
    cases d with
    | lst ds =>
      obtain ⟨a, xs, e, na, ha, l, p⟩ := h
      exact ⟨a, xs, e, k _ _ ha na, ha, l, paired_imp (fun _ _ r => Rp.mono k r) p⟩
    | tup ds =>
      obtain ⟨a, xs, e, na, ha, l, p⟩ := h
      exact ⟨a, xs, e, k _ _ ha na, ha, l, paired_imp (fun _ _ r => Rp.mono k r) p⟩
    | _ => exact h
/-- not at a place that was free -/
theorem Rp.off {N : Addr → Prop} {H : Hp} {D : Addr} {n : Nat} {v : V} {d : Dt} (h : H D = none) (r : Rp N H n v d) : Rp (fun p => N p ∧ p ≠ D) H n v d := r.mono fun b o e z => ⟨z, ne_of_none e h⟩
theorem Rp.upd {N : Addr → Prop} {H : Hp} {D : Addr} {n : Nat} {v : V} {d : Dt} {o : HO} (r : Rp (fun p => N p ∧ p ≠ D) H n v d) : Rp (fun p => N p ∧ p ≠ D) (L2.upd H D o) n v d := r.keep fun b o' z e => by
  rw [upd_ne z.2]
  exact e
theorem Rp.on {N : Addr → Prop} {H : Hp} {D : Addr} {n : Nat} {v : V} {d : Dt} (r : Rp (fun p => N p ∧ p ≠ D) H n v d) : Rp N H n v d := r.mono fun _ _ _ z => z.1
theorem Rp.same {N : Addr → Prop} {H H' : Hp} {n : Nat} {v : V} {d : Dt} (r : Rp N H n v d) (e : Same H H') : Rp N H' n v d := r.keep fun b o _ h => e b o h
theorem Rp.up {N : Addr → Prop} {H : Hp} : ∀ {n : Nat} {v : V} {d : Dt}, Rp N H n v d → Rp N H (n + 1) v d
  | 0, _, _, h => h.elim
  | n + 1, v, d, h => by
    cases d with
    | lst ds =>
      obtain ⟨a, xs, e, na, ha, l, p⟩ := h
      exact ⟨a, xs, e, na, ha, l, paired_imp (fun _ _ r => Rp.up r) p⟩
    | tup ds =>
      obtain ⟨a, xs, e, na, ha, l, p⟩ := h
      exact ⟨a, xs, e, na, ha, l, paired_imp (fun _ _ r => Rp.up r) p⟩
    | _ => exact h
theorem paired_get {α β : Type} {F : α → β → Prop} : ∀ {l : List α} {m : List β} {i : Nat} {a : α}, Paired F l m → l[i]? = some a → ∃ b, m[i]? = some b ∧ F a b
  | _, _, _, _, .nil, h => by simp at h
  | _, _, 0, _, .cons r t, h => by
    cases h
    exact ⟨_, rfl, r⟩
  | _, _, i + 1, _, .cons r t, h => by
    obtain ⟨b, e, z⟩ := paired_get (i := i) t (by simpa using h)
    exact ⟨b, by simpa using e, z⟩
theorem paired_len {α β : Type} {F : α → β → Prop} : ∀ {l : List α} {m : List β}, Paired F l m → l.length = m.length
  | _, _, .nil => rfl
  | _, _, .cons _ t => congrArg Nat.succ (paired_len t)
theorem paired_snoc {α β : Type} {F : α → β → Prop} {a : α} {b : β} (r : F a b) : ∀ {l : List α} {m : List β}, Paired F l m → Paired F (l ++ [a]) (m ++ [b])
  | _, _, .nil => .cons r .nil
  | _, _, .cons r' t => .cons r' (paired_snoc r t)
theorem paired_ints {N : Addr → Prop} {H : Hp} {k : Nat} : ∀ ns : List Int, Paired (fun v d => Rp N H (k + 1) v d) (ns.map V.int) (ns.map Dt.int)
  | [] => .nil
  | n :: ns => .cons rfl (paired_ints ns)
theorem rp_ints {N : Addr → Prop} {H : Hp} {k : Nat} {p : Addr} {ns : List Int} (n : N p) (h : H p = some (.lst (ns.map V.int))) (z : ns.length ≤ 1000) : Rp N H (k + 2) (.ref p) (.lst (ns.map Dt.int)) :=
  ⟨p, _, rfl, n, h, by rw [List.length_map]; exact z, paired_ints ns⟩
/-- a def of which nothing is asked -/
theorem cl_none {P : Program} {w : World} {K : PySem.W.Frag} {mg : Str → Option Value} {base : Heap} {x : Str} {st : Stmt} {ps : List Str} {k : Nat} {sp : Sp} (D : Dn K mg x st) (b : BindO x st ps) (h : ∀ vs H Q E, ¬ sp vs H Q E) : Cl P w K mg base k x sp := by
  obtain ⟨f, fd, F, hm⟩ := D.ex
  exact ⟨f, fd, ps, ⟨fun vs H Q E z => (h _ _ _ _ z).elim, fun _ _ _ _ _ _ _ _ _ _ _ _ _ z => (h _ _ _ _ z).elim⟩, hm, F.kp, F.binds b⟩
theorem cpow_18 : CPow 10 18 ↔ True := ⟨fun _ => trivial, fun _ => ⟨by decide, by decide, by decide⟩⟩
theorem cpow_12 : CPow 10 12 ↔ True := ⟨fun _ => trivial, fun _ => ⟨by decide, by decide, by decide⟩⟩
theorem cpow_40 : CPow 10 40 ↔ True := ⟨fun _ => trivial, fun _ => ⟨by decide, by decide, by decide⟩⟩
end Z
set_option Elab.async false
set_option linter.all false
set_option maxRecDepth 100000
set_option maxHeartbeats 4000000
namespace Z
open PySem PySem.Spec PyProof.Rows L2
/-! ### sorted(t) of a tuple of ints -/
section
variable {prog : Program} {w : World} {A : Around} {E : Value → Shared → Prop} {s : Shared}
theorem tup_items {t : Addr} {vs : List Value} {Q : List Value → Shared → Prop} (ht : IsTup s.heap t vs.toArray) (hz : vs.length ≤ sizeLine)
    (k : Q vs { s with heap := (s.heap.push (seqObj "list" #[] 0)).update s.heap.objs.size (Obj.mapSeq (· ++ vs.toArray)) }) : wpAny (model prog w) A (collect (.ref t)) Q E s := by
  obtain ⟨ob, e1, e2, m, e3⟩ := id ht
  have new : (s.heap.push (seqObj "list" #[] 0)).get? s.heap.objs.size = some (seqObj "list" #[] 0) := Heap.get?_push_size _ rfl
  have e4 := Heap.get?_push_of_some (seqObj "list" #[] 0) e1
  unfold collect; refine wpAny_bind (wpAny_runValue (codeAny_builtin entry_proto_collect' ?_))
  show wpAny (model prog w) _ (do again (.builtin "list.__iadd__" ⟨[← newList [], .ref t], []⟩)) _ E s
  refine wpAny_bind (wpAny_newList (wpAny_pure ⟨Code.quiet_builtin _ (by decide +kernel), ?_⟩)); refine codeAny_builtin entry_list_iadd' ?_
  show wpAny (model prog w) _ (Builtin.List.listExtendWith (.ref s.heap.objs.size) (.ref t) (.ref s.heap.objs.size)) _ _ ⟨s.heap.push (seqObj "list" #[] 0), _, _, _, _⟩
  unfold Builtin.List.listExtendWith; refine wpAny_bind (wpAny_typeOf (T := "tuple") ⟨ob, e4, e2⟩ ?_)
  have c1 : (Value.type "tuple" == Value.type "tuple") = true := rfl
  rw [if_pos (by first | (rw [c1]; simp; done) | simp | decide)]
  refine wpAny_bind (listItems_at e4 e3 ?_)
  refine wpAny_bind (listItems_at new rfl ?_); rw [if_neg (by simp)]
  refine wpAny_bind (listUpdate_at new rfl ?_ (Nat.zero_le _) (by
    show (#[] ++ vs.toArray).size ≤ sizeLine + 1
    rw [Array.size_append, List.size_toArray]
    exact Nat.le_trans (Nat.le_of_eq (Nat.zero_add _)) (Nat.le_succ_of_le hz)))
  refine wpAny_pure ?_
  show wpAny (model prog w) A (load s.heap.objs.size >>= fun o => match o.data with
      | .seq xs _ => pure xs.toList
      | _ => unsupported "internal:collect") Q E _
  refine wpAny_bind (wpAny_load (get?_update_seq new _) ?_)
  show wpAny (model prog w) A (pure (#[] ++ vs.toArray).toList) Q E _
  have c2 : (#[] ++ vs.toArray).toList = vs := by simp
  rw [c2]; exact wpAny_pure k
open SrtO in
theorem sorted_tup {t : Addr} {vs : List Value} {ltv : Value → Value → Bool} {Q : Value → Shared → Prop} (O : Swo ltv) (ht : IsTup s.heap t vs.toArray) (hz : vs.length ≤ sizeLine)
    (hS : 2 ≤ vs.length → ∀ (h₁ : Heap) (a : Addr), SortableO prog w A.in1.in1 { s with heap := h₁ } a vs ltv)
    (k : ∀ out : List Value, Srtd ltv out → Stb ltv out vs → Q (.ref (s.heap.objs.size + 1)) { s with heap := sortedAll s.heap vs out.toArray }) : wpAny (model prog w) A (call (.builtin "sorted") [.ref t]) Q E s := by
  refine Calls.call_function_entry kind_sorted plain_sorted entry_sorted (args_sorted1 (.ref t)) ?_
  unfold Builtin.«sorted»; refine wpAny_bind (m := checkCount "sorted" 1 1 _) (wpAny_pure ?_)
  refine wpAny_bind (tup_items ht hz ?_); refine wpAny_bind (wpAny_newList ?_ hz)
  generalize hh : (s.heap.push (seqObj "list" #[] 0)).update s.heap.objs.size (Obj.mapSeq (· ++ vs.toArray)) = h1
  have sz : h1.objs.size = s.heap.objs.size + 1 := by
    rw [← hh, Heap.size_update]
    exact size_push' _ _
  have at1 : (h1.push (seqObj "list" vs.toArray 0)).get? (s.heap.objs.size + 1) = some (seqObj "list" vs.toArray 0) := by
    rw [← sz]
    exact Heap.get?_push_size _ rfl
  show wpAny _ _ _ _ _ { s with heap := h1.push (seqObj "list" vs.toArray 0) }
  rw [sz]
  refine wpAny_bind (wpAny_holding (wpAny_call_entry slot_list_sort ⟨_, at1, rfl⟩ entry_list_sort (list_sort_ord O at1 hz (fun h2 => hS h2 _ _) fun out a b => ⟨_, rfl, ?_⟩) (args_list_sort _)))
  refine wpAny_pure ⟨_, rfl, ?_⟩
  have z := k out a b
  unfold sortedAll at z
  rw [hh] at z
  exact z
end
/-- sorted(xs) of a list or tuple of ints -/
def rSortQ : List V → Hp → VK → Prop := fun vs H Q => ∃ a, vs = [V.ref a] ∧ ∃ ns : List Int, seqAt (H a) = some (ns.map V.int) ∧ ∀ (ns' : List Int) (p : Addr), ns'.Perm ns → ns'.Pairwise (· ≤ ·) → H p = none → Q (.ref p) (upd H p (.lst (ns'.map V.int)))
theorem cr_sortQ {X : Cx} : CallR X (.builtin "sorted") rSortQ := by
  intro pins s σ H vs us Q I r ⟨a, e, ns, hs, q⟩
  subst e
  rcases seq_or (K := X.K) hs with hl | ht
  · exact cr_sortedI pins s σ H _ us Q I r ⟨a, ns, rfl, hl, q⟩
  · obtain ⟨its, rv, tp, hz⟩ := I.tuple ht
    obtain ⟨u, rfl, ru⟩ := vals1 r
    cases ru
    have hi := intsAre_of rv
    refine sorted_tup SrtO.swo_int tp (by rw [← rv.length]; exact hz) (fun h2 _ _ => SrtO.ints_sortable hi h2) fun out h1 h2 => ?_
    obtain ⟨k1, k2, k3⟩ := SrtO.ints_out hi h1 h2
    obtain ⟨ep, he⟩ := PyProof.Rows.sortedAll_at s.heap its out.toArray
    have len : ((out.map SrtO.iv).map V.int).length ≤ sizeLine := by
      rw [List.length_map, k2.length_eq]
      rw [List.length_map] at hz
      exact hz
    refine ⟨.ref _, upd H (s.heap.objs.size + 1) (.lst ((out.map SrtO.iv).map V.int)), ?_, rfl, q _ _ k2 k3 (I.hok.fresh (Nat.le_succ _))⟩
    exact I.laid (t' := s.toks) (fun _ _ => PyProof.Rows.sortedAll_old) (Nat.le_succ _) ⟨len, out, ep, vals_of_ints k1, he⟩
/-- x in xs, a list or a tuple -/
def rInQ (neg : Bool) : R2 := fun x y H Q => ∃ p, y = .ref p ∧ ∃ xs, seqAt (H p) = some xs ∧ flatV x = true ∧ xs.all flatV = true ∧ Q (.bl (if neg = true then !inV x xs else inV x xs)) H
theorem op_inQ {X : Cx} : OpR X (compareOp .In) (rInQ false) := fun pins s σ H x y v u Q I rx ry ⟨p, e, xs, h, h1, h2, q⟩ => op_in_seq pins s σ H x y v u Q I rx ry ⟨p, xs, e, seq_or h, h1, h2, q⟩
theorem op_ninQ {X : Cx} : OpR X (compareOp .NotIn) (rInQ true) := fun pins s σ H x y v u Q I rx ry ⟨p, e, xs, h, h1, h2, q⟩ => op_notIn_seq pins s σ H x y v u Q I rx ry ⟨p, xs, e, seq_or h, h1, h2, q⟩
/-- a, b = a tracked list -/
def gLq (n : Nat) (t : TGs) : TG := fun v σ H Q => ∃ a, v = .ref a ∧ ∃ xs, H a = some (.lst xs) ∧ xs.length = n ∧ t xs σ H Q
theorem pg_lq {X : Cx} {es : List Expr} {k : Nat} {pos : Pos} {t : TGs} {n : Nat} (hc : X.calm = true) (h : PGs X es t) (h1 : (assignEach es X.env).length = n := by rfl) (h2 : (assignEach es X.env).findIdx? (·.1) = none := by rfl) : PG X (.Tuple es k pos) (gLq n t) :=
  ⟨fun pins s σ H v u Q I r ⟨a, e, xs, hx, hl, q⟩ => (pg_lst hc h h1 h2).run pins s σ H v u Q I r ⟨a, xs, e, SqL.of hx, hl, q⟩⟩
/-- the targets of an unpacking, one by one -/
def gC (t : TG) (u : TGs) : TGs := fun vs σ H Q => match vs with
  | [] => False
  | v :: r => t v σ H fun σ' H' => u r σ' H' Q
theorem gC_c {t : TG} {u : TGs} {v : V} {r : List V} {σ : L2.St} {H : Hp} {Q : L2.St → Hp → Prop} : gC t u (v :: r) σ H Q = t v σ H fun σ' H' => u r σ' H' Q := rfl
theorem pgs_c {X : Cx} {e : Expr} {es : List Expr} {t : TG} {u : TGs} (h1 : PG X e t) (h2 : PGs X es u) (hs : (assignEach (e :: es) X.env).map (·.2) = assign e X.env :: (assignEach es X.env).map (·.2) := by rfl) : PGs X (e :: es) (gC t u) :=
  ⟨fun pins s σ H vs us Q I r h => (pgs_cons h1 h2 hs).run pins s σ H vs us Q I r (match vs, h with | v :: r, h => ⟨v, r, rfl, h⟩)⟩
/-- a, b = a tracked tuple -/
def gTq (n : Nat) (t : TGs) : TG := fun v σ H Q => ∃ a, v = .ref a ∧ ∃ xs, H a = some (.tup xs) ∧ xs.length = n ∧ t xs σ H Q
theorem pg_tq {X : Cx} {es : List Expr} {k : Nat} {pos : Pos} {t : TGs} {n : Nat} (hc : X.calm = true) (h : PGs X es t) (h1 : (assignEach es X.env).length = n := by rfl) (h2 : (assignEach es X.env).findIdx? (·.1) = none := by rfl) : PG X (.Tuple es k pos) (gTq n t) :=
  ⟨fun pins s σ H v u Q I r ⟨a, e, xs, hx, hl, q⟩ => (pg_tup hc h h1 h2).run pins s σ H v u Q I r ⟨a, xs, e, SqT.of hx, hl, q⟩⟩
/-! ### isinstance of data against a built-in class -/
def kdO : Option HO → Option String
  | some (.lst _) => some "list"
  | some (.tup _) => some "tuple"
  | _ => none
def kd : V → Hp → Option String
  | .non, _ => some "NoneType"
  | .bl _, _ => some "bool"
  | .int _, _ => some "int"
  | .str _, _ => some "str"
  | .ref a, H => kdO (H a)
  | _, _ => none
theorem kd_ref {H : Hp} {a : Addr} : kd (.ref a) H = kdO (H a) := rfl
theorem kdO_lst {xs : List V} : kdO (some (.lst xs)) = some "list" := rfl
theorem kdO_tup {xs : List V} : kdO (some (.tup xs)) = some "tuple" := rfl
theorem kd_ty {K : PySem.W.Frag} {H : Hp} {x : V} {t : String} (h : kd x H = some t) : TyX K H x (.type t) := by
  cases x with
  | non => cases h; exact .base .non
  | bl b => cases h; exact .base (.bl b)
  | int i => cases h; exact .base (.int i)
  | str x => cases h; exact .base (.str x)
  | ref a =>
    rw [kd_ref] at h
    cases e : H a with
    | none =>
      rw [e] at h
      cases h
    | some o =>
      rw [e] at h
      cases o with
      | lst xs => cases h; exact .base (.lst e)
      | tup xs => cases h; exact .base (.tup e)
      | _ => cases h
  | _ => cases h
def rIsQ : List V → Hp → VK → Prop
  | [x, .ty c], H, Q => ∃ t, kd x H = some t ∧ ∃ b, kitB t c = some b ∧ Q (.bl b) H
  | _, _, _ => False
theorem rIsQ_c {x : V} {c : String} {H : Hp} {Q : VK} : rIsQ [x, .ty c] H Q = ∃ t, kd x H = some t ∧ ∃ b, kitB t c = some b ∧ Q (.bl b) H := rfl
theorem call_isQ {X : Cx} : CallR X (.builtin "isinstance") rIsQ := callr_imp call_isi fun xs H Q h => match xs, h with
  | [x, .ty c], ⟨t, ht, b, hb, q⟩ => ⟨x, .ty c, .type t, .type c, b, rfl, .ty c, kd_ty ht, kit_ty hb, q⟩
theorem kit_NoneType_bool : kitB "NoneType" "bool" = some false := by decide +kernel
theorem kit_NoneType_int : kitB "NoneType" "int" = some false := by decide +kernel
theorem kit_NoneType_str : kitB "NoneType" "str" = some false := by decide +kernel
theorem kit_NoneType_list : kitB "NoneType" "list" = some false := by decide +kernel
theorem kit_NoneType_tuple : kitB "NoneType" "tuple" = some false := by decide +kernel
theorem kit_bool_bool : kitB "bool" "bool" = some true := by decide +kernel
theorem kit_bool_int : kitB "bool" "int" = some true := by decide +kernel
theorem kit_bool_str : kitB "bool" "str" = some false := by decide +kernel
theorem kit_bool_list : kitB "bool" "list" = some false := by decide +kernel
theorem kit_bool_tuple : kitB "bool" "tuple" = some false := by decide +kernel
theorem kit_int_bool : kitB "int" "bool" = some false := by decide +kernel
theorem kit_int_int : kitB "int" "int" = some true := by decide +kernel
theorem kit_int_str : kitB "int" "str" = some false := by decide +kernel
theorem kit_int_list : kitB "int" "list" = some false := by decide +kernel
theorem kit_int_tuple : kitB "int" "tuple" = some false := by decide +kernel
theorem kit_str_bool : kitB "str" "bool" = some false := by decide +kernel
theorem kit_str_int : kitB "str" "int" = some false := by decide +kernel
theorem kit_str_str : kitB "str" "str" = some true := by decide +kernel
theorem kit_str_list : kitB "str" "list" = some false := by decide +kernel
theorem kit_str_tuple : kitB "str" "tuple" = some false := by decide +kernel
theorem kit_list_bool : kitB "list" "bool" = some false := by decide +kernel
theorem kit_list_int : kitB "list" "int" = some false := by decide +kernel
theorem kit_list_str : kitB "list" "str" = some false := by decide +kernel
theorem kit_list_list : kitB "list" "list" = some true := by decide +kernel
theorem kit_list_tuple : kitB "list" "tuple" = some false := by decide +kernel
theorem kit_tuple_bool : kitB "tuple" "bool" = some false := by decide +kernel
theorem kit_tuple_int : kitB "tuple" "int" = some false := by decide +kernel
theorem kit_tuple_str : kitB "tuple" "str" = some false := by decide +kernel
theorem kit_tuple_list : kitB "tuple" "list" = some false := by decide +kernel
theorem kit_tuple_tuple : kitB "tuple" "tuple" = some true := by decide +kernel
theorem kd_non {H : Hp} : kd .non H = some "NoneType" := rfl
theorem kd_bl {H : Hp} {b : Bool} : kd (.bl b) H = some "bool" := rfl
theorem kd_int {H : Hp} {i : Int} : kd (.int i) H = some "int" := rfl
theorem kd_str {H : Hp} {x : Str} : kd (.str x) H = some "str" := rfl
/-- a statement, a word, the rest -/
def tCt (t u : TS) : TS := fun D σ H => ∃ Mid : L2.St → Hp → Prop, t { D with nx := Mid } σ H ∧ ∀ σ' H', Mid σ' H' → u D σ' H'
theorem pss_ct {X : Cx} {st : Stmt} {rest : List Stmt} {t u : TS} (h1 : PS X st t) (h2 : PSs X rest u) : PSs X (st :: rest) (tCt t u) := by
  refine ⟨fun pins s σ H D I ⟨Mid, hm, hu⟩ => wpAny_execs_cons (thn (h1.run pins s σ H _ I hm) fun f s1 q => ?_)⟩
  cases f
  case next =>
    obtain ⟨σ', H', I', q'⟩ := q
    exact h2.run pins s1 σ' H' D I' (hu σ' H' q')
  all_goals exact q
/-- xs[lo:hi] of a tracked list -/
def rSlQ : V → Option Int → Option Int → Hp → VK → Prop := fun x lo hi H Q => ∃ a, x = .ref a ∧ ∃ xs, H a = some (.lst xs) ∧ ∀ p, H p = none → Q (.ref p) (upd H p (.lst (cutV xs lo hi)))
theorem sl_listQ {X : Cx} : SlR X rSlQ := fun pins s σ H x v vl vu lo hi sl Q I rx hs pl pu ⟨a, e, xs, h, q⟩ => sl_list pins s σ H x v vl vu lo hi sl Q I rx hs pl pu ⟨a, xs, e, SqL.of h, q⟩
theorem cut_lo2 {a b c d : V} : cutV [a, b, c, d] none (some 2) = [a, b] := rfl
theorem cut_hi2 {a b c d : V} : cutV [a, b, c, d] (some 2) none = [c, d] := rfl
end Z
set_option Elab.async false
set_option linter.all false
set_option maxRecDepth 100000
set_option maxHeartbeats 4000000
namespace Z
open PySem PySem.Spec PyProof.Rows L2
/-! ### texts of bounded length, all signs below 128 -/
structure Tx (n : Nat) (x : Str) : Prop where
  len : x.length ≤ n
  low : ∀ c ∈ x.cps.toList, c < 128
theorem str_len (x : Str) : x.length = x.cps.toList.length := by
  show x.cps.size = x.cps.toList.length
  rw [Array.length_toList]
theorem str_cat (x y : Str) : (x ++ y).cps.toList = x.cps.toList ++ y.cps.toList := TL.tl_append x y
theorem str_cat_len (x y : Str) : (x ++ y).length = x.length + y.length := by rw [str_len, str_cat, List.length_append, ← str_len, ← str_len]
theorem Tx.mono {n m : Nat} {x : Str} (h : Tx n x) (l : n ≤ m) : Tx m x := ⟨Nat.le_trans h.len l, h.low⟩
theorem Tx.line {n : Nat} {x : Str} (h : Tx n x) (l : n ≤ 100000) : x.length ≤ sizeLine := sz_of (Nat.le_trans h.len l)
theorem Tx.cat {n m : Nat} {x y : Str} (h : Tx n x) (k : Tx m y) : Tx (n + m) (x ++ y) := by
  refine ⟨by rw [str_cat_len]; exact Nat.add_le_add h.len k.len, fun c hc => ?_⟩
  rw [str_cat] at hc
  rcases List.mem_append.mp hc with hc | hc
  · exact h.low c hc
  · exact k.low c hc
theorem Tx.one {c : Nat} (h : c < 128) : Tx 1 ⟨#[c]⟩ := ⟨Nat.le_refl 1, fun d hd => by
  have e : d = c := by simpa using hd
  rw [e]
  exact h⟩
theorem cut_list (x : Str) (lo hi : Option Int) : (cutS x lo hi).cps.toList = (x.cps.toList.drop (HT.sIx x.length 0 lo)).take (HT.sIx x.length x.length hi - HT.sIx x.length 0 lo) := rfl
theorem Tx.cut {n : Nat} {x : Str} (h : Tx n x) (lo hi : Option Int) : Tx n (cutS x lo hi) := by
  refine ⟨?_, fun c hc => h.low c ?_⟩
  · rw [str_len, cut_list, List.length_take, List.length_drop, ← str_len]
    have := h.len
    omega
  · rw [cut_list] at hc
    exact List.mem_of_mem_drop (List.mem_of_mem_take hc)
theorem Tx.cutTo {n k : Nat} {x : Str} (h : Tx n x) : Tx k (cutS x none (some (k : Int))) := by
  refine ⟨?_, (h.cut none _).low⟩
  rw [str_len, cut_list, List.length_take, List.length_drop, HT.sIx_nat, HT.sIx_none]
  omega
theorem Tx.at {n : Nat} {x : Str} {i : Int} {c : Nat} (h : Tx n x) (e : atI x.cps.toList i = some c) : c < 128 := by
  obtain ⟨j, _, e2, _⟩ := atI_get e
  exact h.low c (List.mem_of_getElem? e2)
theorem rep_list (x : Array Nat) : ∀ (n : Nat) (a : Array Nat), ((List.replicate n x).foldl (· ++ ·) a).toList = a.toList ++ (List.replicate n x.toList).flatten
  | 0, a => by simp
  | n + 1, a => by
    rw [List.replicate_succ, List.foldl_cons, rep_list x n, List.replicate_succ, List.flatten_cons, Array.toList_append, List.append_assoc]
theorem rep_flat_len {α : Type} (l : List α) : ∀ k : Nat, (List.replicate k l).flatten.length = k * l.length
  | 0 => by simp
  | k + 1 => by rw [List.replicate_succ, List.flatten_cons, List.length_append, rep_flat_len l k, Nat.succ_mul, Nat.add_comm]
theorem Tx.mul {n k : Nat} {x : Str} (h : Tx n x) : Tx (n * k) (Txt.mul x (k : Int)) := by
  unfold Txt.mul
  split
  · exact ⟨Nat.zero_le _, fun c hc => by cases hc⟩
  · rename_i h1
    split
    · exact h.mono (Nat.le_mul_of_pos_right n (by omega))
    · have e : ((List.replicate ((k : Int).toNat) x.cps).foldl (· ++ ·) (#[] : Array Nat)).toList = (List.replicate k x.cps.toList).flatten := by
        rw [rep_list, Int.toNat_natCast]
        rfl
      refine ⟨?_, fun c hc => ?_⟩
      · rw [str_len]
        show ((List.replicate ((k : Int).toNat) x.cps).foldl (· ++ ·) (#[] : Array Nat)).toList.length ≤ _
        rw [e, rep_flat_len, ← str_len, Nat.mul_comm]
        exact Nat.mul_le_mul_right k h.len
      · have hc' : c ∈ ((List.replicate ((k : Int).toNat) x.cps).foldl (· ++ ·) (#[] : Array Nat)).toList := hc
        rw [e, List.mem_flatten] at hc'
        obtain ⟨l, hl, hc'⟩ := hc'
        rw [List.eq_of_mem_replicate hl] at hc'
        exact h.low c hc'
/-- s * n -/
def rMulS : R2 := fun x y H Q => ∃ s, x = .str s ∧ ∃ n, y = .int n ∧ 0 ≤ n ∧ n ≤ 1000 ∧ s.length ≤ 1000 ∧ Q (.str (Txt.mul s n)) H
theorem op_mulS {X : Cx} : OpR X (binaryOp .Mult) rMulS := by
  intro pins s σ H x y v u Q I rx ry ⟨z, ex, n, ey, h0, h1, hz, q⟩
  subst ex ey
  obtain ⟨t, rfl⟩ := rx
  obtain ⟨t', rfl⟩ := ry
  refine SB.mul ⟨?_, fun hn _ => ?_, fun hn _ => ?_⟩ fun t' k => ⟨.str _, H, I.tok _, ⟨_, rfl⟩, q⟩
  · rw [decide_eq_false (by omega), decide_eq_false (by omega)]
    rfl
  · have hp : (0 : Int) < n := by omega
    have e : (1000 : Int) ≤ (2 ^ 63 - 1) / n := by
      refine Int.le_ediv_of_mul_le hp ?_
      have : 1000 * n ≤ 1000 * 1000 := Int.mul_le_mul_of_nonneg_left h1 (by decide)
      omega
    omega
  · have e : z.length * n.toNat ≤ 1000 * 1000 := Nat.mul_le_mul hz (by omega)
    unfold Builtin.Str.tooLong
    exact decide_eq_false (by have : (1000 * 1000 : Nat) ≤ sizeLine := by decide
                              omega)
/-- sep.join(a tracked list of texts) -/
def tJn (to te : TE) : TE := fun σ H Q => to σ H fun x H1 => ∃ a, x = .str a ∧ te σ H1 fun y H2 => ∃ p, y = .ref p ∧ ∃ ys : List Str, H2 p = some (.lst (ys.map V.str)) ∧ (ys.map (·.length)).sum + ys.length * a.length ≤ 16777216 ∧ Q (.str (Txt.join a ys)) H2
theorem pe_jn {X : Cx} {o e : Expr} {to te : TE} {apos pos : Pos} (ho : PE X o to) (he : PE X e te) (h1 : starEach [e] X.env = [(false, eval e X.env)] := by rfl) (h2 : attributeBase o "join" X.env (eval o X.env) = eval o X.env := by rfl) (h3 : (apos.endLine == pos.line) = true := by rfl) :
    PE X (.Call (.Attribute o "join" apos) [e] [] pos) (tJn to te) :=
  pe_imp (pe_join (pe_up ho) (pe_up he) h1 h2 h3) fun σ H Q h => ⟨_, h, fun x H1 ⟨a, ex, q⟩ => ⟨⟨a, ex⟩, _, q, fun y H2 ⟨p, ey, ys, hp, hz, q⟩ => ⟨a, p, ys, ex, by rw [ey], .inl (SqL.of hp), hz, q⟩⟩⟩
theorem joinL_nil : ∀ l : List (List Nat), TL.joinL [] l = l.flatten
  | [] => rfl
  | [p] => by show p = (p :: []).flatten; simp
  | p :: q :: r => by
    show p ++ ([] ++ TL.joinL [] (q :: r)) = (p :: q :: r).flatten
    rw [joinL_nil (q :: r), List.nil_append]
    rfl
theorem Tx.join {n : Nat} : ∀ {ys : List Str}, (∀ y ∈ ys, Tx n y) → Tx (n * ys.length) (Txt.join (Str.ofString "") ys) := fun {ys} h => by
  have e : (Txt.join (Str.ofString "") ys).cps.toList = (ys.map fun y => y.cps.toList).flatten := by
    have z : TL.tl (Txt.join (Str.ofString "") ys) = TL.joinL [] (ys.map TL.tl) := by
      rw [TL.join_eq, TL.tl_join]
      rfl
    rw [joinL_nil] at z
    exact z
  refine ⟨?_, fun c hc => ?_⟩
  · rw [str_len, e]
    clear e
    induction ys with
    | nil => exact Nat.zero_le _
    | cons y ys ih =>
      have := ih fun z hz => h z (List.mem_cons_of_mem _ hz)
      have h1 := (h y List.mem_cons_self).len
      rw [str_len] at h1
      rw [List.map_cons, List.flatten_cons, List.length_append, List.length_cons, Nat.mul_succ]
      omega
  · rw [e, List.mem_flatten] at hc
    obtain ⟨l, hl, hc⟩ := hc
    obtain ⟨y, hy, rfl⟩ := List.mem_map.mp hl
    exact (h y hy).low c hc
/-- s[i], s[lo:hi] -/
def rAtX : R2 := fun x y H Q => ∃ z, x = .str z ∧ ∃ i, y = .int i ∧ z.length ≤ sizeLine ∧ ∃ c, atI z.cps.toList i = some c ∧ Q (.str ⟨#[c]⟩) H
theorem at_str {X : Cx} : IxR X rAtX := ixr_imp ix_str fun _ _ _ _ ⟨z, e, i, e', h, c, a, q⟩ => ⟨z, i, c, e, e', h, a, q⟩
/-- signs of a text, one by one -/
theorem z_forS {tl : TE} {j : Nat} {tb : TS} {D : Ends} {σ : L2.St} {H : Hp} (x : Str) (h : ∀ Q : VK, Q (.str x) H → tl σ H Q) (Pv : Nat → L2.St → Hp → Prop) (h0 : Pv 0 σ H)
    (hs : ∀ i c σ' H', x.cps[i]? = some c → Pv i σ' H' → tb { D with nx := Pv (i + 1), ct := Pv (i + 1), bk := D.nx } (σ'.set j (some (.str ⟨#[c]⟩))) H') (hd : ∀ σ' H', Pv x.cps.size σ' H' → D.nx σ' H') : tFor (iStr tl) (gName j) tb D σ H := by
  refine h _ ⟨x, rfl, fun i m σ' H' => m = x.cps.size - i ∧ i ≤ x.cps.size ∧ Pv i σ' H', ⟨_, rfl, Nat.zero_le _, h0⟩, ?_⟩
  rintro i m σ' H' ⟨rfl, hi, p⟩
  by_cases hl : i < x.cps.size
  · refine .inr ⟨hl, Pv (i + 1), fun σ2 H2 p2 => ⟨_, by omega, rfl, hl, p2⟩, fun y H2 hy => ?_⟩
    obtain ⟨rfl, c, e, rfl⟩ := hy
    exact hs i c σ' _ e p
  · have e : i = x.cps.size := by omega
    subst e
    exact .inl ⟨Nat.le_refl _, hd σ' H' p⟩
theorem z_lcS {tl : TE} {j : Nat} {te : TE} {vs : List Nat} {σ : L2.St} {H : Hp} {Q : VK} (x : Str) (h : ∀ Q : VK, Q (.str x) H → tl σ H Q) (Pv : Addr → Nat → Hp → Prop) (h0 : ∀ D, H D = none → Pv D 0 (upd H D (.lst [])))
    (hw : ∀ v, wipe ((wipe σ vs).set j (some v)) vs = wipe σ vs)
    (hs : ∀ D i c H', H D = none → x.cps[i]? = some c → Pv D i H' → te ((wipe σ vs).set j (some (.str ⟨#[c]⟩))) H' fun y H4 => ∃ acc, H4 D = some (.lst acc) ∧ acc.length < sizeLine ∧ Pv D (i + 1) (upd H4 D (.lst (acc ++ [y])))) (hd : ∀ D H', H D = none → Pv D x.cps.size H' → Q (.ref D) H') :
    tLc (iStr tl) (gName j) tYes te vs σ H Q := by
  refine h _ ⟨x, rfl, fun D hD => ⟨fun i m H' => m = x.cps.size - i ∧ i ≤ x.cps.size ∧ Pv D i H', ⟨_, rfl, Nat.zero_le _, h0 D hD⟩, ?_⟩⟩
  rintro i m H' ⟨rfl, hi, p⟩
  by_cases hl : i < x.cps.size
  · refine .inr ⟨hl, Pv D (i + 1), fun H2 p2 => ⟨_, by omega, rfl, hl, p2⟩, fun y H2 hy => ?_⟩
    obtain ⟨rfl, c, e, rfl⟩ := hy
    exact ⟨hw _, hs D i c _ hD e p⟩
  · have e : i = x.cps.size := by omega
    subst e
    exact .inl ⟨Nat.le_refl _, hd D H' hD p⟩
/-! ### a range whose end is reckoned on the way -/
def tKI (n : Nat) : TA := fun _ H Q => Q [.int n] H
theorem lcE {ta : TA} {g : TG} {tt : TT} {te : TE} {vs : List Nat} {σ : L2.St} {H : Hp} {Q : VK} (R : Nat → Hp → Prop) (h : ∀ X : List V → Hp → Prop, (∀ (n : Nat) H1, R n H1 → X [.int n] H1) → ta σ H X)
    (k : ∀ (n : Nat) H1, R n H1 → tLc (iRng1 (tKI n)) g tt te vs σ H1 Q) : tLc (iRng1 ta) g tt te vs σ H Q := h _ fun n H1 r => k n H1 r
theorem forE {ta : TA} {g : TG} {tb : TS} {D : Ends} {σ : L2.St} {H : Hp} (R : Nat → Hp → Prop) (h : ∀ X : List V → Hp → Prop, (∀ (n : Nat) H1, R n H1 → X [.int n] H1) → ta σ H X)
    (k : ∀ (n : Nat) H1, R n H1 → tFor (iRng1 (tKI n)) g tb D σ H1) : tFor (iRng1 ta) g tb D σ H := h _ fun n H1 r => k n H1 r
theorem atI_some {α : Type} {xs : List α} {d : Int} (h0 : 0 ≤ d) (h1 : d < xs.length) : ∃ c, atI xs d = some c := by
  refine ⟨xs[d.toNat]'(by omega), ?_⟩
  have z := atI_nat (xs := xs) (j := d.toNat) (v := xs[d.toNat]'(by omega)) (List.getElem?_eq_getElem _)
  rw [show ((d.toNat : Nat) : Int) = d by omega] at z
  exact z
theorem Tx.lit {s : Str} {n : Nat} (h : (decide (s.length ≤ n) && s.cps.toList.all (fun c => decide (c < 128))) = true) : Tx n s :=
  ⟨of_decide_eq_true (Bool.and_eq_true_iff.mp h).1, fun c hc => of_decide_eq_true (List.all_eq_true.mp (Bool.and_eq_true_iff.mp h).2 c hc)⟩
end Z
set_option Elab.async false
set_option linter.all false
set_option maxRecDepth 100000
set_option maxHeartbeats 4000000
namespace Z
open PySem PySem.Spec PyProof.Rows L2 L2H
/-! ### a def that is handed the exception which its caller handles -/
structure FnE (P : Program) (w : World) (K : PySem.W.Frag) (mg : Str → Option Value) (base : Heap) (k : Nat) (f : Addr) (fd : FuncData) (ps : List Str) (sp : Addr → Value → Option Addr → Sp) : Prop where
  len : ∀ a cls d vs H Q E, sp a cls d vs H Q E → vs.length = ps.length
  run : ∀ (A : Around) (outer : List Env) (s : Shared) (H : Hp) (args : Args) (us : List Value) (vs : List V) (Q : VK) (E : XK) (p : Addr × Obj) (cls : Value) (d : Option Addr), RoomH k A → PinOk outer H s p → Zc cls d p.2 → (∃ vs, p.2.data = .fields vs) → Env0 P w K mg base A outer s H → BindsTo s fd args (ps.zip us) → Vals vs us → sp p.1 cls d vs H Q E →
    codeAny (model P w) A (.call (.ref f) args) (CR CX0 outer P w H s Q E) s
structure Ce (P : Program) (w : World) (K : PySem.W.Frag) (mg : Str → Option Value) (base : Heap) (k : Nat) (x : Str) (sp : Addr → Value → Option Addr → Sp) : Prop where
  ex : ∃ (f : Addr) (fd : FuncData) (ps : List Str), FnE P w K mg base k f fd ps sp ∧ mg x = some (.ref f) ∧ PySem.W.keepIn K (.ref f) = true ∧ Binds K fd ps []
section
variable {P : Program} {w : World} {K : PySem.W.Frag} {mg : Str → Option Value} {base : Heap}
theorem ce_of {x : Str} {st : Stmt} {N ps : List Str} {k : Nat} {sp : Addr → Value → Option Addr → Sp} (D : Dn K mg x st) (S : FnScope N ps (defScope st)) (b : BindO x st ps) (len : ∀ a cls d vs H Q E, sp a cls d vs H Q E → vs.length = ps.length)
    (hbody : ∀ (f : Addr) (cdv : Value) (A : Around) (outer : List Env) (s : Shared) (H : Hp) (vs : List V) (Q : VK) (E : XK) (a : Addr) (oe : Obj) (cls : Value) (d : Option Addr), RoomH k (A.deeper (envOfC x (defScope st) s.heap.objs.size f cdv)) → Zc cls d oe → (∃ vs, oe.data = .fields vs) → sp a cls d vs H Q E →
      ∃ t, PSs (cxH CX0 P w K mg base N x (defScope st) f cdv A outer s H E (a, oe)) (defBody st) t ∧ t { nx := fun _ H' => Q .non H', rt := Q } (L2.start N vs) H) : Ce P w K mg base (k + 1) x sp := by
  obtain ⟨f, fd, F, hm⟩ := D.ex
  obtain ⟨oc, od, kV, doc, pm, an, cdv, ct, osl, rfl, lk, hcd⟩ := id F.ex
  refine ⟨f, _, ps, ⟨len, fun A outer s H args us vs Q E p cls d hr hpin hz hf e0 hb r hsp => ?_⟩, hm, F.kp, F.binds b⟩
  have hl := len _ _ _ _ _ _ _ hsp
  have KX : K.In s.heap := e0.mod.kin.keeps fun b o e => (e0.bs b o e).1
  have lim : s.heap.NoLimit := e0.mod.nolimit.keeps fun b o e => (e0.bs b o e).1
  have hkind : ∀ y ∈ ps.zip us, (defScope st).names.lookup y.1 = some .local ∨ ((defScope st).names.lookup y.1 = some .cell ∧ ((cellsFrom (s.heap.objs.size + 1) (defScope st).names []).lookup y.1).isSome = true) := fun ⟨n, v⟩ hy => by
    rcases S.par n (List.of_mem_zip hy).1 with q | q
    · exact .inl q
    · exact .inr ⟨q, PySem.W.cellsFrom_some _ _ _ (.inl q)⟩
  refine codeAny_call_function hr.depth (KX _ _ lk) rfl S.co S.gen rfl (PySem.W.codeRec_of KX hcd) (hb _ _ _ _ ?_)
  refine wpAny_newFunctionEnv_cells S.kind hkind fun env he s1 x' => ?_
  subst he
  refine ⟨lim.keeps x'.toInCall.keep, codeAny_func ?_⟩
  obtain ⟨t, ht, hq⟩ := hbody f cdv A outer s H vs Q E p.1 p.2 cls d (hr.deeper _) hz hf hsp
  have I : Inv (cxH CX0 P w K mg base N x (defScope st) f cdv A outer s H E p) [] (L2.start N vs) H s1 := inv_startH S hpin e0 hl r x'
  refine wpAny_mono (ht.run [] s1 (L2.start N vs) H _ I hq) (fun fl s' hs => ?_) fun e s' hs => hs
  have fin : ∀ {σ' : L2.St} {H' : Hp} {v : V} {u : Value}, Inv (cxH CX0 P w K mg base N x (defScope st) f cdv A outer s H E p) [] σ' H' s' → RelV v u → Q v H' → CE outer P w H s Q u s' :=
    fun {σ' H' v u} J rv q => ⟨v, H', J.os, J.bare, J.base, J.hok, rv, q⟩
  cases fl with
  | ret u =>
    obtain ⟨v, σ', H', J, rv, q⟩ := hs
    exact fin J rv q
  | next =>
    obtain ⟨σ', H', J, q⟩ := hs
    exact fin (v := V.non) (u := Value.none) J rfl q
  | brk =>
    obtain ⟨_, _, _, q⟩ := hs
    exact False.elim q
  | cont =>
    obtain ⟨_, _, _, q⟩ := hs
    exact False.elim q
end
def tCe (a : Addr) (cls : Value) (d : Option Addr) (sp : Addr → Value → Option Addr → Sp) (t : TA) : TE := fun σ H Q => t σ H fun vs H1 => sp a cls d vs H1 Q E0
section
variable {X : Cx} {k j : Nat} {x : Str} {sp : Addr → Value → Option Addr → Sp} {p pos : Pos} {e : Expr} {es : List Expr} {t : TA}
theorem pe_ce {a : Addr} {oe : Obj} {cls : Value} {dx : Option Addr} (c : Ce X.prog X.w X.K X.mg X.base k x sp) (hp : (a, oe) ∈ X.pn) (hz : Zc cls dx oe) (hf : ∃ vs, oe.data = .fields vs) (hr : RoomH j X.A) (hk : k ≤ j) (hg : Gl X x) (ha : PA X (e :: es) t)
    (d : (x == ("__debug__" : Str)) = false := by decide) (h1 : starEach (e :: es) X.env = (false, eval e X.env) :: starEach es X.env := by rfl) (h2 : (backTo pos (starEach es X.env)).any (·.1) = false := by rfl) :
    PE X (.Call (.Name x p) (e :: es) [] pos) (tCe a cls dx sp t) := by
  obtain ⟨f, fd, ps, F, hm, kp, b⟩ := c.ex
  refine ⟨fun pins s σ H Q I h => ?_⟩
  refine wpAny_Call_Name_kw (ld_glob I hg hm ?_ d)
  refine PySem.W.callWith_K (h₀ := X.base) I.ok.mod.kin kp (thn (ha.run pos pins s σ H _ I h) fun us s1 ⟨vs, H1, I1, r, q⟩ => ⟨I1.kIn, ?_⟩) h1 h2
  have hl : us.length = ps.length := by rw [← r.length]; exact F.len _ _ _ _ _ _ _ q
  have bb := b s1 us I1.kIn (by rw [List.append_nil]; exact hl)
  rw [List.append_nil] at bb
  have P1 := I1.pin (a, oe) (List.mem_append_left _ hp)
  have hpin : PinOk X.stack H1 s1 (a, oe) := ⟨P1.1, P1.2.1, fun hm => (List.mem_cons.mp (I1.stkSub a hm)).elim P1.2.2.1 P1.2.2.2.1, P1.2.2.2.2⟩
  refine wpAny_call (codeAny_mono (F.run X.A X.stack s1 H1 ⟨us, []⟩ us vs Q E0 (a, oe) cls dx (hr.mono hk) hpin hz hf I1.env0 bb r q) fun r s' hq => ?_)
  cases r with
  | error e => exact hq.elim
  | ok fl =>
    cases fl with
    | ret u => exact I1.after hq
    | next => exact False.elim hq
    | brk => exact False.elim hq
    | cont => exact False.elim hq
end
/-! ### what is asked of the exception in hand -/
section
variable {X : Cx} {a C dd : Addr} {oe : Obj}
theorem inst_x {pins : List (Addr × Obj)} {σ : L2.St} {H : Hp} {s : Shared} {fs : List (Str × V)} (I : Inv X pins σ H s) (hp : (a, oe) ∈ X.pn) (hz : Zc (.ref C) (some dd) oe) (hf : ∃ vs, oe.data = .fields vs) (hd : H dd = some (.xd fs)) :
    ∃ (od : Obj) (mA : Str → Option Value), PySem.W.InstAt s.heap a oe C (some od) ∧ (∀ n, PySem.W.lookIn n od = some (mA n)) ∧ ∀ f, RelO (fs.lookup f) (mA f) := by
  obtain ⟨ha, _⟩ := I.pin (a, oe) (List.mem_append_left _ hp)
  obtain ⟨vs, hv⟩ := hf
  have hx : ObjOk X.prog X.w H s.heap dd (.xd fs) := I.hok dd _ hd
  obtain ⟨mA, hns, hr⟩ := hx
  obtain ⟨od, ho, hl⟩ := lookIn_ns hns
  exact ⟨od, mA, ⟨ha, hz.1, by unfold PySem.W.notCls; rw [hv] <;> rfl, by rw [hz.2]; exact ho⟩, hl, hr⟩
/-- isinstance(e, C), isinstance(e, (C, ..)) -/
def rIsX (K : PySem.W.Frag) (a C dd : Addr) : List V → Hp → VK → Prop := fun xs H Q => ∃ (fs : List (Str × V)), H dd = some (.xd fs) ∧ ∃ (c : V) (b : Bool), xs = [.ref a, c] ∧
  ((∃ cv, ClsV c cv ∧ PySem.W.kitOne K (.ref C) cv = some b) ∨ ∃ (tp : Addr) (cs : List V) (us : List Value), c = .ref tp ∧ H tp = some (.tup cs) ∧ Paired ClsV cs us ∧ PySem.W.kitAny K (.ref C) us = some b) ∧ Q (.bl b) H
theorem cr_isX (T : ExcC X.K C) (hp : (a, oe) ∈ X.pn) (hz : Zc (.ref C) (some dd) oe) (hf : ∃ vs, oe.data = .fields vs) : CallR X (.builtin "isinstance") (rIsX X.K a C dd) := by
  intro pins s σ H xs us Q I r ⟨fs, hd, c, b, e, h, q⟩
  subst e
  obtain ⟨u1, u2, rfl, r1, r2⟩ := vals2 r
  cases (show u1 = Value.ref a from r1)
  obtain ⟨od, mA, J, _, _⟩ := inst_x I hp hz hf hd
  have hcl : (PySem.W.clsIn X.K C).isSome = true := by
    obtain ⟨cd, hc, _⟩ := PySem.W.any_some T.hd
    rw [hc]
    rfl
  have Z := PySem.W.kitx_exc (K := X.K) (x := a) (C := C) (ox := oe) (od := some od) hcl T.hg T.hk T.hs T.ha T.hn T.ht T.hm
  rcases h with ⟨cv, k, e⟩ | ⟨tp, cs, ws, ec, hT, k, e⟩
  · have e2 := k.eq r2
    subst e2
    exact PySem.W.kia_one Z I.kIn J e (fun z => nomatch z) fun tk => ⟨.bl b, H, I.tok tk, rfl, q⟩
  · subst ec
    cases (show u2 = Value.ref tp from r2)
    obtain ⟨_, its, rv, o, h1, h2, n, h3⟩ := (show ObjOk X.prog X.w H s.heap tp (.tup cs) from I.hok tp _ hT)
    have e3 := ClsV.all k rv
    subst e3
    obtain ⟨oc, od', dt, sl⟩ := o
    simp only at h2 h3
    subst h2 h3
    exact PySem.W.kia_tup Z I.kIn J h1 e (fun z => nomatch z) fun tk => ⟨.bl b, H, I.tok tk, rfl, q⟩
/-- e.f -/
def tXF (a dd : Addr) (f : Str) (te : TE) : TE := fun σ H Q => te σ H fun x H1 => x = .ref a ∧ ∃ (fs : List (Str × V)), H1 dd = some (.xd fs) ∧ ∃ v : V, fs.lookup f = some v ∧ Q v H1
theorem pe_xF {e : Expr} {te : TE} {pos : Pos} {n : Str} (T : XfC X.K C) (hno : PySem.W.findIn X.K (.ref C) n = some none) (hp : (a, oe) ∈ X.pn) (hz : Zc (.ref C) (some dd) oe) (hf : ∃ vs, oe.data = .fields vs) (he : PE X e te)
    (hb : attributeBase e n X.env (eval e X.env) = eval e X.env := by rfl) : PE X (.Attribute e n pos) (tXF a dd n te) := by
  refine ⟨fun pins s σ H Q I h => ?_⟩
  refine attr_of hb (thn (he.run pins s σ H _ I h) fun u s1 hh => ?_)
  obtain ⟨x, H1, I1, rx, ex, fs, hd, v, l, q⟩ := hh
  subst ex
  obtain rfl : u = Value.ref a := rx
  obtain ⟨od, mA, J, hl, hr⟩ := inst_x I1 hp hz hf hd
  obtain ⟨u, hu, ru⟩ := RelO.some_of (v := v) (o := mA n) (by rw [← l]; exact hr n)
  exact HandSPX.exc_get I1.kIn J T.ga T.gg T.exC (PySem.W.findObj_own T.hdC hno rfl (by rw [hl, hu])) (handed_of ru) ⟨v, H1, I1.tok _, ru, q⟩
/-- B.__init__(self, ..), B an own class that has ValueError's -/
structure BaseC (K : PySem.W.Frag) (mg : Str → Option Value) (x : Str) : Prop where
  ex : ∃ (B : Addr) (mc : Value), mg x = some (.ref B) ∧ PySem.W.specialIn K (.ref B) "__getattribute__" = some (some (.builtin "type.__getattribute__")) ∧ PySem.W.readsIn K B mc = true ∧ PySem.W.findCls K (.ref B) mc "__init__" = some (.val (.builtin "ValueError.__init__"))
theorem pe_binit {x : Str} {e : Expr} {es : List Expr} {ta : TA} {p1 p2 pos : Pos} {pl : Sem Bool} (c : BaseC X.K X.mg x) (hg : Gl X x) (ha : PA X (e :: es) ta)
    (hc : eval (.Call (.Attribute (.Name x p1) "__init__" p2) (e :: es) [] pos) X.env = (do
      let ov ← eval (.Name x p1) X.env
      standAt p2.atName
      let (f, first) ← holding [ov] (getMethod ov "__init__" pl)
      callWith pos f first (backTo pos (starEach (e :: es) X.env)) (backToKw pos (keywordEach [] X.env))) := by rfl)
    (hdb : (x == ("__debug__" : Str)) = false := by decide)
    (he : starEach (e :: es) X.env = (false, eval e X.env) :: starEach es X.env := by rfl) (hpl : (backTo pos (starEach es X.env)).any (·.1) = false := by rfl) :
    PE X (.Call (.Attribute (.Name x p1) "__init__" p2) (e :: es) [] pos) (tVeI X.K ta) := by
  obtain ⟨B, mc, hm, h1, h2, h3⟩ := c.ex
  refine ⟨fun pins s σ H Q I h => ?_⟩
  refine PySem.W.methodCall_KW (ld_glob I hg hm ?_ hdb) hc
  refine PySem.W.method_cls I.kIn h1 (PySem.W.cls_value I.kIn h2 h3 (by decide +kernel) ?_)
  show wpAny _ _ (callWith pos (Value.builtin "ValueError.__init__") [] (backTo pos (starEach (e :: es) X.env)) []) _ _ _
  refine PyProof.Rows.callWith_method1 (thn (ha.run pos pins _ σ H _ (I.tok _) h) fun us s1 ⟨vs, H1, I1, r1, a, C, ws, ev, hl, T, ea, q⟩ => ?_) he hpl
  subst ev
  cases r1 with
  | @cons _ u0 _ ur ra rw' =>
    obtain rfl : u0 = Value.ref a := ra
    have hlen : ur.length ≤ sizeLine := by
      rw [← Paired.length rw', sizeLine_eq]
      omega
    exact oinit_ok T I1 ea hlen fun s' J => ⟨.non, H1, J, rfl, q⟩
end
/-! ### a def that raises -/
structure Cr (P : Program) (w : World) (K : PySem.W.Frag) (mg : Str → Option Value) (base : Heap) (k : Nat) (x : Str) (sp : Sp) : Prop where
  ex : ∃ (f : Addr) (fd : FuncData) (ps : List Str), FnOk P w K mg base (L2.CX P w) k f fd ps sp ∧ mg x = some (.ref f) ∧ PySem.W.keepIn K (.ref f) = true ∧ Binds K fd ps []
section
variable {P : Program} {w : World} {K : PySem.W.Frag} {mg : Str → Option Value} {base : Heap}
theorem cr_of {x : Str} {st : Stmt} {N ps : List Str} {k : Nat} {sp : Sp} (D : Dn K mg x st) (S : FnScope N ps (defScope st)) (b : BindO x st ps) (len : ∀ vs H Q E, sp vs H Q E → vs.length = ps.length)
    (body : ∀ (f : Addr) (cdv : Value) (A : Around) (outer : List Env) (s : Shared) (H : Hp) (vs : List V) (Q : VK) (E : XK), Room k (A.deeper (envOfC x (defScope st) s.heap.objs.size f cdv)) → sp vs H Q E →
      ∃ t, PSs (cxOf (L2.CX P w) P w K mg base N x (defScope st) f cdv A outer s H E) (defBody st) t ∧ t { nx := fun _ H' => Q .non H', rt := Q } (L2.start N vs) H) : Cr P w K mg base (k + 1) x sp := by
  obtain ⟨f, fd, F, hm⟩ := D.ex
  exact ⟨f, fd, ps, F.okX S len (body f), hm, F.kp, F.binds b⟩
end
def tCr (sp : Sp) (W : WX) (t : TA) : TE := fun σ H Q => t σ H fun vs H1 => sp vs H1 Q (WE W σ)
theorem pe_cr {X : Cx} {k j : Nat} {x : Str} {sp : Sp} {p pos : Pos} {e : Expr} {es : List Expr} {t : TA} {W : WX} (c : Cr X.prog X.w X.K X.mg X.base k x sp) (tk : Takes X W) (hr : Room j X.A) (hk : k ≤ j) (hg : Gl X x) (ha : PA X (e :: es) t)
    (d : (x == ("__debug__" : Str)) = false := by decide) (h1 : starEach (e :: es) X.env = (false, eval e X.env) :: starEach es X.env := by rfl) (h2 : (backTo pos (starEach es X.env)).any (·.1) = false := by rfl) :
    PE X (.Call (.Name x p) (e :: es) [] pos) (tCr sp W t) := by
  obtain ⟨f, fd, ps, F, hm, kp, b⟩ := c.ex
  exact pe_callS F (hr.mono hk) hg hm kp b (fun σ => passAt tk σ) ha d h1 h2
end Z
namespace Z
open PySem PySem.Spec PyProof.Rows L2
/-- a name of the module, by its value -/
theorem pe_gc {X : Cx} {x : Str} {pos : Pos} {v : V} (hg : Gl X x) (h : ∃ u, X.mg x = some u ∧ RelV v u) (hd : (x == ("__debug__" : Str)) = false := by decide) : PE X (.Name x pos) (tC v) := by
  obtain ⟨u, hm, r⟩ := h
  exact pe_glob hg hm r hd
end Z
namespace Z
open PySem PySem.Spec PyProof.Rows L2 L2H
theorem del_some {H : Hp} {a b : Addr} {o : HO} (n : H a = none) (h : H b = some o) : del H a b = some o := by
  rw [del_ne (ne_of_none h n)]
  exact h
/-- what an __init__ with one text does: B.__init__(self, ..); self.f = text -/
def sp_init1 (K : PySem.W.Frag) (C : Addr) (f : Str) : Sp := fun vs H Q _ => ∃ (a : Addr) (x : Str), vs = [.ref a, .str x] ∧ OexC K C ∧ PySem.W.findIn K (.ref C) f = some none ∧ (reprText x).length ≤ 20000 ∧ H a = some (exo a C none) ∧
  ∀ dx, H dx = none → dx ≠ a → Q .non (upd (upd H dx (exd dx [(f, .str x)])) a (exo a C (some dx)))
/-- an own class of errors, one field -/
structure Bad (P : Program) (w : World) (K : PySem.W.Frag) (mg : Str → Option Value) (base : Heap) (n f : Str) (C : Addr) : Prop where
  nm : mg n = some (.ref C)
  ox : OexC K C
  ini : ∃ (fI : Addr) (fd : FuncData) (ps : List Str), PySem.W.findIn K (.ref C) "__init__" = some (some (.ref fI)) ∧ PySem.W.typeIn K (.ref fI) = some (.type "function") ∧ FnOk P w K mg base CX0 1 fI fd ps (sp_init1 K C f) ∧ Binds K fd ps []
  no : PySem.W.findIn K (.ref C) f = some none
  ex : ExcC K C
  xf : XfC K C
def taUp (t : TA) : TA := fun σ H Q => ∃ R : List V → Hp → Prop, t σ H R ∧ ∀ vs H1, R vs H1 → Q vs H1
theorem pa_up {X : Cx} {es : List Expr} {t : TA} (h : PA X es t) : PA X es (taUp t) := ⟨fun pos pins s σ H Q I ⟨R, hr, i⟩ => thn (h.run pos pins s σ H R I hr) fun us s1 ⟨vs, H1, I1, r1, q⟩ => ⟨vs, H1, I1, r1, i vs H1 q⟩⟩
theorem same_made {H H1 : Hp} {a dx : Addr} {o1 o2 o3 o4 : HO} (hH : H1 = upd H a o1) (ha : H a = none) (hd : H1 dx = none) : Same H (upd (del (upd (upd H1 dx o2) a o3) a) dx o4) := fun b o e => by
  have hb : b ≠ a := ne_of_none e ha
  have hx : b ≠ dx := fun z => by
    subst z
    rw [hH, upd_ne hb, e] at hd
    cases hd
  rw [upd_ne hx, del_ne hb, upd_ne hb, upd_ne hx, hH, upd_ne hb]
  exact e
/-- N(text), one that is raised -/
def tBad (C : Addr) (f : Str) (ta : TA) : L2.St → Hp → XK → Prop := fun σ H Q => ta σ H fun vs H1 => ∃ x : Str, vs = [.str x] ∧ (reprText x).length ≤ 20000 ∧ ∀ (d : Addr) (H' : Hp), Same H1 H' → H1 d = none → H' d = some (.xd [(f, .str x)]) → Q (.ref C) (some d) H'
theorem pmk_bad {X : Cx} {e : Expr} {es : List Expr} {ta : TA} {n f : Str} {C : Addr} {k : Nat} {p pos : Pos} (b : Bad X.prog X.w X.K X.mg X.base n f C) (hr : Room k X.A) (hk : 2 ≤ k) (hg : Gl X n) (ha : PA X (e :: es) ta)
    (hdb : (n == ("__debug__" : Str)) = false := by decide) (he : starEach (e :: es) X.env = (false, eval e X.env) :: starEach es X.env := by rfl) (hpl : (backTo pos (starEach es X.env)).any (·.1) = false := by rfl) :
    PMk X (.Call (.Name n p) (e :: es) [] pos) (tBad C f ta) := by
  obtain ⟨fI, fd, ps, i1, i2, F, bs⟩ := b.ini
  have z := pmk_oex (p := p) (pos := pos) (dvs := []) (ds := []) b.ox i1 i2 F (hr.mono hk) bs .nil pass0 hg b.nm (pa_up ha) hdb he hpl
  intro pins s σ H Q I h
  refine z pins s σ H Q I ⟨_, h, fun vs H1 ⟨x, ev, hz, q⟩ => ?_⟩
  subst ev
  refine ⟨by show 1 ≤ 1000; decide, fun a na => ⟨a, x, rfl, b.ox, b.no, hz, upd_same, fun dx hdx hne => ⟨rfl, dx, [(f, .str x)], upd_same, ?_, ?_, ?_⟩⟩⟩
  · rw [upd_ne hne, upd_same]
  · rw [upd_ne hne] at hdx
    exact hdx
  · refine q dx _ (same_made rfl na hdx) ?_ upd_same
    rw [upd_ne hne] at hdx
    exact hdx
end Z
namespace Z
open PySem PySem.Spec PyProof.Rows L2 L2H
theorem cxH_K {CX : CXT} {P : Program} {w : World} {K : PySem.W.Frag} {mg : Str → Option Value} {base : Heap} {N : List Str} {q : Str} {sc : Scope} {f : Addr} {cd : Value} {A : Around} {outer : List Env} {s : Shared} {H : Hp} {E : XK} {p : Addr × Obj} : (cxH CX P w K mg base N q sc f cd A outer s H E p).K = K := rfl
theorem roomH_mark {k : Nat} {A : Around} (r : Room k A) (h : Option Value) : RoomH k (A.mark h) := ⟨r.dp, r.un⟩
theorem kit_self {K : PySem.W.Frag} {C : Addr} : PySem.W.kitOne K (.ref C) (.ref C) = some true := by
  unfold PySem.W.kitOne
  rw [if_pos (by simp)]
theorem kitAny_none {K : PySem.W.Frag} {t : Value} : ∀ {us : List Value}, (∀ u ∈ us, PySem.W.kitOne K t u = some false) → PySem.W.kitAny K t us = some false
  | [], _ => rfl
  | u :: us, h => kitAny_cons (b := false) (h u List.mem_cons_self) (fun _ => kitAny_none fun v hv => h v (List.mem_cons_of_mem _ hv)) (fun z => by cases z)
theorem cls_refs : ∀ l : List Addr, Paired ClsV (l.map V.ref) (l.map Value.ref)
  | [] => .nil
  | a :: l => .cons (.own a) (cls_refs l)
end Z
set_option Elab.async false
set_option linter.all false
set_option maxRecDepth 100000
set_option maxHeartbeats 4000000
namespace Z
open PySem PySem.Spec PyProof.Rows L2
/-! ### comprehensions that let an exception out -/
def cPost (M : Model) (A : Around) (E : Value → Shared → Prop) (use : Option (Value → Sem Unit)) (Q : Value → Shared → Prop) (acc : Value) (ce : Env) (r : Result) (s' : Shared) : Prop :=
  match r, use with
  | .ok _, none => ∃ m, s'.heap.Ns ce.locals m ∧ ∀ h', Heap.SameBut ce.locals s'.heap h' → Q acc { s' with heap := h' }
  | .ok _, some u => wpAny M A (u acc) (fun _ s2 => ∃ m, s2.heap.Ns ce.locals m ∧ ∀ h', Heap.SameBut ce.locals s2.heap h' → Q .none { s2 with heap := h' }) E s'
  | .error x, _ => ∃ m, s'.heap.Ns ce.locals m ∧ ∀ h', Heap.SameBut ce.locals s'.heap h' → wpAny M A (passOn "comprehension.variables-let-go" x ce : Sem Value) (fun _ _ => False) E { s' with heap := h' }
section
variable {M : Model} {A : Around} {E : Value → Shared → Prop} {s : Shared} {env : Env}
theorem comp_freeX {e : Expr} {scope : Scope} {pos : Pos} {newAcc first : Sem Value} {g : Comprehension} {gs : List Comprehension} {cl : List (Str × Addr)} {use : Option (Value → Sem Unit)} {Q : Value → Shared → Prop}
    (hcl : clausesOf e = g :: gs) (hs : ∀ x, foldedSetIterable g.iter env x = pure x) (hclos : closureFor scope env = pure cl)
    (hkind : scope.kind = .function) (hnames : ∀ x ∈ scope.names, x.2 = .local → scope.names.lookup x.1 = some .local)
    (h : wpAny M A first (fun x s1 => wpAny M A (pyIter x) (fun it s2 => wpAny M A newAcc (fun acc s3 =>
      wpAny M A (newFunctionEnv scope env.globals cl [] env.qual none .none (some env)) (fun cenv s4 =>
        codeAny M A (.compStart e 0 it acc { cenv with scope := relabel scope env }) (cPost M A E use Q acc { cenv with scope := relabel scope env }) s4) E s3) E s2) E s1) E s) :
    wpAny M A (comprehension e scope env pos newAcc false first use) Q E s := by
  unfold comprehension
  rw [hclos, hcl]
  refine wpAny_bind (wpAny_mono h (fun x s1 h1 => wpAny_bind (wpAny_standAt (wpAny_bind (wpAny_of_eq (hs x) (wpAny_bind (wpAny_holding (wpAny_mono h1 (fun it s2 h2 =>
    wpAny_standIf (wpAny_bind (wpAny_mono h2 (fun acc s3 h3 => wpAny_bind (wpAny_pure (wpAny_bind (wpAny_mono h3 (fun cenv s4 h4 => ?_) fun _ _ y => y)))) fun _ _ y => y))) fun _ _ y => y))))))) fun _ _ y => y)
  dsimp only
  have hv : ∀ x ∈ (scope.names.filter fun x => (x.2 == .local || x.2 == .cell) && x.1 != (".0" : Str)).reverse, x.2 = .local → Env.kindOf { cenv with scope := relabel scope env } x.1 = some .local :=
    fun x hx hl => lookup_relabel_local (hnames x (List.mem_filter.mp (List.mem_reverse.mp hx)).1 hl)
  have hv' : ∀ x ∈ (scope.names.filter fun x => (x.2 == .local || x.2 == .cell) && x.1 != (".0" : Str)).reverse.drop 1 ++ (scope.names.filter fun x => (x.2 == .local || x.2 == .cell) && x.1 != (".0" : Str)).reverse.take 1, x.2 = .local → Env.kindOf { cenv with scope := relabel scope env } x.1 = some .local := fun x hx hl => by
    rcases List.mem_append.mp hx with k | k
    · exact hv x (List.mem_of_mem_drop k) hl
    · exact hv x (List.mem_of_mem_take k) hl
  refine wpAny_holding (wpAny_bind (wpAny_attempt (wpAny_holding (wpAny_run (codeAny_mono h4 fun r s' hr => ?_)))))
  cases r with
  | ok f =>
    cases use with
    | none =>
      obtain ⟨m, hn, hr⟩ := hr
      exact wpAny_bind (wpAny_holding (wpAny_comp_letGo (cenv := { cenv with scope := relabel scope env }) hkind _ s' m hv hn fun h' m' _ hs' => wpAny_pure (hr h' hs')))
    | some u =>
      refine wpAny_bind (wpAny_rule (wpAny_bind (wpAny_holding (wpAny_mono hr (fun _ s2 hr' => ?_) fun _ _ y => y))))
      obtain ⟨m, hn, hr'⟩ := hr'
      exact wpAny_bind (wpAny_comp_letGo (cenv := { cenv with scope := relabel scope env }) hkind _ s2 m hv' hn fun h' m' _ hs' => wpAny_pure (hr' h' hs'))
  | error x =>
    have hr' : ∃ m, s'.heap.Ns cenv.locals m ∧ ∀ h', Heap.SameBut cenv.locals s'.heap h' → wpAny M A (passOn "comprehension.variables-let-go" x { cenv with scope := relabel scope env } : Sem Value) (fun _ _ => False) E { s' with heap := h' } := by cases use <;> exact hr
    obtain ⟨m, hn, hr⟩ := hr'
    exact wpAny_bind (wpAny_holding (wpAny_comp_letGo (cenv := { cenv with scope := relabel scope env }) hkind _ s' m hv hn fun h' m' _ hs' => wpAny_mono (hr h' hs') (fun _ _ f => f.elim) fun _ _ y => y))
end
theorem note_same {e : Value} {a b : Env} (h : a.frame = b.frame) : noteFrame e a = noteFrame e b := by
  unfold noteFrame PySem.frameOf
  rw [h]
theorem frames_but {h h' B B2 : Heap} {C : Addr} (hB : ∀ b, B.get? b = none → B2.get? b = none) (hC : B.get? C ≠ none) (k : ∀ b, b ≠ C → h'.get? b = h.get? b) : ∀ {l : List Env}, h.FunFrames B l → h'.FunFrames B2 l
  | [], _ => True.intro
  | _ :: _, ⟨x1, ⟨L, o, x2, x3, x4, x5⟩, x6⟩ => ⟨x1, ⟨L, o, x2, hB L x3, (k L fun z => hC (z ▸ x3)).trans x4, x5⟩, frames_but hB hC k x6⟩
section
variable {X : Cx} {pins : List (Addr × Obj)} {σ : L2.St} {H3 : Hp} {s3 : Shared} {scope : Scope} {ce : Env} {fp : List Addr} {xe : Value → Shared → Prop} {E : XK}
theorem comp_exc {use : Option (Value → Sem Unit)} {Qf : Value → Shared → Prop} {acc : Value} (hs : X.stack = X.env :: X.outer) (hf : X.env.frame = some X.env.locals) (I3 : Inv X pins σ H3 s3) (f3 : ∀ b ∈ fp, FpOk X pins H3 b ∧ b < s3.heap.objs.size)
    (tk : Takes X (fun cls d _ H => E cls d H)) (hce : ce.frame = X.env.frame) (hC : ce.locals = s3.heap.objs.size) {pins' : List (Addr × Obj)} {σb : L2.St} {H : Hp} {s s' : Shared} {u : Value}
    (I6 : Inv ((X.blk s3 H3 scope ce fp).wish xe) pins' σb H s) (c : L2.CX X.prog X.w X.stack H s E u s') :
    notedBy (model X.prog X.w) X.A ce (fun e s2 => cPost (model X.prog X.w) X.A X.xe use Qf acc ce (.error e) s2) u s' := by
  obtain ⟨a, B, H', cls, d, rfl, fl, hok, ub, na, os, ag, hE⟩ := c
  generalize hCC : ce.locals = C at hC
  have hfr : X.A.frames = some (X.env :: X.outer) := by rw [I3.ok.frames, hs]
  obtain ⟨m, hn, _⟩ := I6.loc
  have hn : s.heap.Ns C m := hCC ▸ hn
  have nC : H C = none := hCC ▸ I6.free
  obtain ⟨oC, es, ep, hoC, hdC, hrest⟩ := hn
  have newC : ∀ b o, s3.heap.get? b = some o → b ≠ C := fun b o e => by
    rw [hC]
    exact Nat.ne_of_lt (Heap.lt_size e)
  have nfC : C ∉ frs X.stack := fun hm => by
    obtain ⟨_, o, ho, _⟩ := fl.2.2.1.mem hm
    have z := fl.2.2.1.mem hm
    have q := ub.slot C oC hoC hm
    have w := z.1
    rcases List.mem_cons.mp (I3.stkSub C hm) with y | y
    · have l1 : C < s3.heap.objs.size := by
        rw [y]
        obtain ⟨m0, h0, _⟩ := I3.loc
        obtain ⟨o0, _, _, e0, _⟩ := h0
        exact Heap.lt_size e0
      rw [hC] at l1
      exact Nat.lt_irrefl _ l1
    · obtain ⟨_, o0, e0, _⟩ := I3.ok.funs.mem y
      have l1 : C < X.s_0.heap.objs.size := Heap.lt_size e0
      have l2 : X.env.locals < s3.heap.objs.size := by
        obtain ⟨m0, h0, _⟩ := I3.loc
        obtain ⟨o0, _, _, e0, _⟩ := h0
        exact Heap.lt_size e0
      have l3 := I3.ok.above
      rw [hC] at l1
      exact Nat.lt_irrefl _ (Nat.lt_of_lt_of_le (Nat.lt_trans l2 l1) l3)
  have bC : B.get? C = some oC := ub.keep C oC hoC nC nfC
  have nC' : H' C = none := ub.free C oC hoC nC
  obtain ⟨B2, b1, b2⟩ := restrict B fun b => decide (b ≠ C)
  have bk : ∀ b, b ≠ C → B2.get? b = B.get? b := fun b hb => b1 b (decide_eq_true hb)
  have bn : B2.get? C = none := b2 C (by simp)
  have bo : ∀ b, B.get? b = none → B2.get? b = none := fun b hb => by
    by_cases h : b = C
    · rw [h]; exact bn
    · rw [bk b h]; exact hb
  have bs2 : ∀ b o, B2.get? b = some o → B.get? b = some o ∧ b ≠ C := fun b o e => by
    by_cases h : b = C
    · rw [h, bn] at e; cases e
    · rw [bk b h] at e
      exact ⟨e, h⟩
  obtain ⟨G, g1, g2⟩ := restrict s'.heap fun b => (B2.get? b).isSome || decide (b ∈ frs X.stack)
  have st : B.StaysIn s'.heap := fl.1
  have gB : ∀ b o, B2.get? b = some o → G.get? b = some o := fun b o e => by
    rw [g1 b (by simp [e])]
    exact st b o (bs2 b o e).1
  have gF : ∀ b, b ∈ frs X.stack → G.get? b = s'.heap.get? b := fun b hb => g1 b (by simp [hb])
  have og : ∀ b o, G.get? b = some o → s'.heap.get? b = some o ∧ b ≠ C ∧ ((B2.get? b).isSome = true ∨ b ∈ frs X.stack) := fun b o e => by
    have hb : b ≠ C := fun h => by
      rw [h, g2 C (by simp [bn, nfC])] at e
      cases e
    cases q : ((B2.get? b).isSome || decide (b ∈ frs X.stack)) with
    | false => rw [g2 b q] at e; cases e
    | true =>
      rw [g1 b q] at e
      exact ⟨e, hb, by simpa [Bool.or_eq_true] using q⟩
  have bas := I6.base
  have I7 : Inv X pins σ H' { s with heap := G, gens := s'.gens, drawn := s'.drawn, toks := s'.toks } := by
    refine I3.call' (ch := fp) I6.os ⟨fun b o e n hb hx => ?_, fun b o e n hb hx => ?_, fun b o e n hx => ?_, fun b o e hx => ?_, fun b xs e => ub.tups b xs (bas.tups b xs e), fun b o v e => ub.frzs b o v (bas.frzs b o v e), fun b ps e => ?_⟩ (fun b o z => ?_) ag
      fun b hb => ⟨(f3 b hb).1.2.2.2.1, (f3 b hb).1.2.1, (f3 b hb).1.2.2.2.2.1, (f3 b hb).1.2.2.2.2.2⟩
    · exact gB b o (by rw [bk b (newC b o e)]; exact ub.keep b o (bas.keep b o e n hb hx) (bas.free b o e n hx) hb)
    · obtain ⟨sl, q⟩ := bas.slot b o e n hb hx
      obtain ⟨sl2, q2⟩ := ub.slot b _ q hb
      exact ⟨sl2, by rw [gF b hb]; exact q2⟩
    · obtain ⟨sl, q⟩ := bas.any e n hx
      exact ub.free b _ q (bas.free b o e n hx)
    · obtain ⟨o1, q1⟩ := bas.there b o e hx
      by_cases hb : b ∈ frs X.stack
      · obtain ⟨sl, q⟩ := ub.slot b o1 q1 hb
        exact ⟨_, by rw [gF b hb]; exact q⟩
      · obtain ⟨o', q⟩ := ub.there b o1 q1 hb
        exact ⟨o', gB b o' (by rw [bk b (newC b o e)]; exact q)⟩
    · obtain ⟨m1, q1⟩ := bas.tbls b ps e
      obtain ⟨m2, q2⟩ := ub.tbls b _ q1
      exact ⟨m1 ++ m2, by rw [q2, Array.append_assoc]⟩
    · refine (hok b o z).stay (fun e v hc q => ?_) (fun _ h => h) (fun _ _ h => h)
      refine gB e v ((bk e fun h => ?_).trans q)
      subst h
      rcases hc with hc | hc
      · rw [← hc, nC'] at z
        cases z
      · rw [nC'] at hc
        cases hc
  have nb : ∀ b o, G.get? b = some o → b ∉ frs X.stack → B2.get? b = some o := fun b o e hb => by
    obtain ⟨e', h0, h⟩ := og b o e
    rcases h with h | h
    · obtain ⟨o', q⟩ := Option.isSome_iff_exists.mp h
      have z := st b o' (bs2 b o' q).1
      rw [e'] at z; cases z
      exact q
    · exact absurd h hb
  show wpAny (model X.prog X.w) X.A (noteFrame (.ref a) ce) _ _ s'
  rw [note_same hce]
  have fl' : HandSPX.FlyingZ B (X.env :: X.outer) a (Zc cls d) s'.heap := by rw [← hs]; exact fl
  refine HandSPX.looks_onZ Zc.steady hfr hf fl' fun h1 held up1 => ?_
  obtain ⟨k1, k2, k3, oe, vs, T, oT, ts, he, hz, hd, hv1, hnT, hTe, hT, hdT, hv3⟩ := held
  have c1 : h1.get? C = some oC := k1 C oC bC
  have aC : a ≠ C := fun z => by
    rw [z, c1] at he
    cases he
    rw [hdC] at hd
    cases hd
  have tC : T ≠ C := fun z => by
    rw [z, c1] at hT
    cases hT
    rw [hdC] at hdT
    cases hdT
  have fin : ∀ h2, Heap.SameBut C h1 h2 → wpAny (model X.prog X.w) X.A (passOn "comprehension.variables-let-go" (.ref a) ce : Sem Value) (fun _ _ => False) X.xe { s' with heap := h2 } := fun h2 sb => by
    have o2 : ∀ b, b ≠ C → h2.get? b = h1.get? b := sb.2
    unfold PySem.passOn
    refine wpAny_bind (wpAny_field ((o2 a aC).trans he) hd hv1 ?_)
    rw [if_neg (show ¬ ((Value.ref T == Value.none) = true) from by simp), hce, hf]
    have fin2 : wpAny (model X.prog X.w) X.A (setFlight (.ref a) (some X.env.locals)) (fun _ s4 => wpAny (model X.prog X.w) X.A (throw (.ref a) : Sem Value) (fun _ _ => False) X.xe s4) X.xe { s' with heap := h2 } := by
      refine HandSPX.setFlight_anyZ (base := B2) (l := X.env :: X.outer) (Z := Zc cls d) (fl := rawInt X.env.locals) (fun b o e => (o2 b (bs2 b o e).2).trans (k1 b o (bs2 b o e).1)) (frames_but bo (by rw [bC]; exact fun z => nomatch z) o2 k3)
        ⟨oe, vs, T, oT, ts, (o2 a aC).trans he, hz, hd, hv1, bo T hnT, hTe, (o2 T tC).trans hT, hdT, hv3⟩ fun h4 y1 y2 y3 y4 => wpAny_throw (tk _ _ ?_)
      refine ⟨a, B2, _, pins, σ, H', cls, d, rfl, I7, nb, fun b o e nf => ?_, .inr (.inr (by rw [hs]; exact ⟨y1, bo a k2, y2, y3⟩)), na, os, ag, hE⟩
      obtain ⟨e1, e2, _⟩ := og b o e
      obtain ⟨sl, e3⟩ := up1 b o e1 nf
      obtain ⟨sl2, e4⟩ := y4 b _ ((o2 b e2).trans e3) nf
      exact ⟨sl2, e4⟩
    first
      | exact wpAny_bind (wpAny_pure (wpAny_bind fin2))
      | exact wpAny_bind fin2
  show cPost _ _ _ _ _ _ _ _ _
  have : ∃ m, h1.Ns ce.locals m ∧ ∀ h2, Heap.SameBut ce.locals h1 h2 → wpAny (model X.prog X.w) X.A (passOn "comprehension.variables-let-go" (.ref a) ce : Sem Value) (fun _ _ => False) X.xe { s' with heap := h2 } := by
    rw [hCC]
    exact ⟨m, ⟨oC, es, ep, c1, hdC, hrest⟩, fin⟩
  cases use <;> exact this
end
section
variable {X : Cx}
theorem lc_coreX {pins : List (Addr × Obj)} {t0 : Shared} {σ : L2.St} {H : Hp} {Q : VK} {elt tg iter : Expr} {ifs : List Expr} {scope : Scope} {own : List (Str × Nat)} {pos pos' : Pos} {wi : TI} {g : TG} {tt : TT} {te : TE} {use : Option (Value → Sem Unit)} {Qf : Value → Shared → Prop} {E : XK}
    (hstk : X.stack = X.env :: X.outer) (hfrm : X.env.frame = some X.env.locals) (tk : Takes X (fun cls d _ H => E cls d H)) (hc : X.calm = true) (hN : X.N.Nodup) (I : Inv X pins σ H t0) (hi : PI X tg iter wi) (ok : BlkOk X.N X.env.scope scope own)
    (hg : ∀ (s : Shared) (H : Hp) (C : Addr) (cl : List (Str × Addr)) (fp : List Addr) (xe : Value → Shared → Prop), PG ((X.blk s H scope (compEnvC scope cl C X.env) fp).wish xe) tg g)
    (ht : ∀ (s : Shared) (H : Hp) (C : Addr) (cl : List (Str × Addr)) (fp : List Addr) (xe : Value → Shared → Prop), Passes (L2.CX X.prog X.w) ((X.blk s H scope (compEnvC scope cl C X.env) fp).wish xe) E → PTs ((X.blk s H scope (compEnvC scope cl C X.env) fp).wish xe) ifs tt)
    (he : ∀ (s : Shared) (H : Hp) (C : Addr) (cl : List (Str × Addr)) (fp : List Addr) (xe : Value → Shared → Prop), Passes (L2.CX X.prog X.w) ((X.blk s H scope (compEnvC scope cl C X.env) fp).wish xe) E → PE ((X.blk s H scope (compEnvC scope cl C X.env) fp).wish xe) elt te)
    (hfold : ∀ x, foldedSetIterable iter X.env x = pure x) (h : tLc wi g tt te (own.map (·.2)) σ H Q)
    (hRR : ∀ D ce t' m H', Inv X pins σ H' t' → Q (.ref D) H' → t'.heap.Ns ce.locals m → FpOk X pins H' ce.locals → cPost (model X.prog X.w) X.A X.xe use Qf (.ref D) ce (.ok .next) t') :
    wpAny (model X.prog X.w) X.A (comprehension (.ListComp elt [⟨tg, iter, ifs, 0⟩] scope pos) scope X.env pos' (newList []) false (eval iter X.env) use) Qf X.xe t0 := by
  have frees : ∀ y ∈ scope.names, y.2 = .free → ∃ c, X.env.cells.lookup y.1 = some c := fun y hy e => by
    rcases ok.free y hy e with k | k
    · exact I.ok.has _ (.inl k)
    · exact I.ok.has _ (.inr k)
  refine comp_freeX (use := use) rfl hfold (closure_ok frees) ok.kind (fun y hy e => by rw [ok.uniq y hy, e])
    (thn (hi.run pins t0 σ H _ I h) fun xv s1 hx => thn hx fun itv t2 e2 => ?_)
  obtain ⟨itr, fps, tn, JJ, G2, e, J2, TT, sx2, g2, q⟩ := e2
  subst e
  refine wpAny_newObj_type (newEnv_comp ?_) (by show 0 ≤ sizeLine; decide)
  generalize eD : t2.heap.objs.size = DD
  have nD : G2 DD = none := J2.hok.fresh (Nat.le_of_eq eD)
  obtain ⟨V0, ⟨c0, b0⟩, trn⟩ := q DD nD
  -- the new list
  generalize e3' : ({ t2 with heap := t2.heap.push { cls := .type "list", data := .seq ([] : List Value).toArray } } : Shared) = t3
  have J3 : Inv X pins σ (upd G2 DD (.lst [])) t3 := by
    rw [← e3']
    refine J2.laid (t' := t2.toks) (fun b o e => Heap.get?_push_of_some _ e) (Nat.le_of_eq eD) ⟨Nat.zero_le _, [], 0, .nil, ?_⟩
    rw [← eD]
    exact Heap.get?_push_size _ rfl
  have e3 : t3.heap = t2.heap.push { cls := .type "list", data := .seq ([] : List Value).toArray } := by rw [← e3']
  have lt : ∀ b ∈ fps, b < t2.heap.objs.size := fun b hb => by
    obtain ⟨o, e, _⟩ := TT.obj _ _ sx2 b hb
    exact Heap.lt_size e
  have g3 : ∀ b ∈ fps, FpOk X pins (upd G2 DD (.lst [])) b ∧ b < t3.heap.objs.size := fun b hb => by
    have lt' := lt b hb
    refine ⟨⟨?_, (g2 b hb).2⟩, by rw [e3, Heap.size_push]; exact Nat.lt_succ_of_lt lt'⟩
    rw [upd_ne (by rw [← eD]; exact Nat.ne_of_lt lt')]
    exact (g2 b hb).1
  have sx3 : tn 0 t3.heap := TT.keep _ _ _ sx2 fun b _ o e => by rw [e3]; exact Heap.get?_push_of_some _ e
  have J4 := block_start J3 ok hN g3
  have pg := hg t3 (upd G2 DD (.lst [])) t3.heap.objs.size (cellsFrom (t3.heap.objs.size + 1) scope.names (cloFrom X.env.cells scope.names [])) fps
  have pt := ht t3 (upd G2 DD (.lst [])) t3.heap.objs.size (cellsFrom (t3.heap.objs.size + 1) scope.names (cloFrom X.env.cells scope.names [])) fps
  have pe := he t3 (upd G2 DD (.lst [])) t3.heap.objs.size (cellsFrom (t3.heap.objs.size + 1) scope.names (cloFrom X.env.cells scope.names [])) fps
  show codeAny _ _ (.compStart (.ListComp elt [⟨tg, iter, ifs, 0⟩] scope pos) 0 (.ref itr) (.ref DD) (compEnvC scope (cellsFrom (t3.heap.objs.size + 1) scope.names (cloFrom X.env.cells scope.names [])) t3.heap.objs.size X.env)) (cPost (model X.prog X.w) X.A X.xe use Qf (.ref DD) (compEnvC scope (cellsFrom (t3.heap.objs.size + 1) scope.names (cloFrom X.env.cells scope.names [])) t3.heap.objs.size X.env)) { t3 with heap := pushCells (t3.heap.push { cls := .type "dict", data := .dict #[] }) scope.names }
  have nf : ∀ b ∈ fps, (upd G2 DD (.lst [])) b = none := fun b hb => (g3 b hb).1.1
  generalize eC : compEnvC scope (cellsFrom (t3.heap.objs.size + 1) scope.names (cloFrom X.env.cells scope.names [])) t3.heap.objs.size X.env = ce at J4 pg pt pe ⊢
  have lC : ce.locals = t3.heap.objs.size := by subst eC; rfl
  have fC : ce.frame = X.env.frame := by subst eC; rfl
  generalize eH : upd G2 DD (.lst []) = G3 at J3 J4 pg pt pe b0 nf g3
  generalize e4' : ({ t3 with heap := pushCells (t3.heap.push { cls := .type "dict", data := .dict #[] }) scope.names } : Shared) = t4 at J4 ⊢
  obtain ⟨xe, hxe⟩ : ∃ xe : Value → Shared → Prop, xe = notedBy (model X.prog X.w) X.A ce fun e s' => cPost (model X.prog X.w) X.A X.xe use Qf (.ref DD) ce (.error e) s' := ⟨_, rfl⟩
  have pass : Passes (L2.CX X.prog X.w) ((X.blk t3 G3 scope ce fps).wish xe) E := fun pins' σb Hb sb u sb' Ib cb => by
    show xe u sb'
    rw [hxe]
    exact comp_exc hstk hfrm J3 g3 tk fC lC Ib cb
  have pg := pg xe
  have pt := pt xe pass
  have pe := pe xe pass
  have J4 := J4.wish xe
  have same : ∀ e s', xe e s' → notedBy (model X.prog X.w) X.A ce (fun e s' => cPost (model X.prog X.w) X.A X.xe use Qf (.ref DD) ce (.error e) s') e s' := fun e s' z => by
    rw [← hxe]
    exact z
  have sx4 : tn 0 t4.heap := TT.keep _ _ _ sx3 fun b _ o e => by rw [← e4']; exact pushCells_keeps _ _ _ _ (Heap.get?_push_of_some _ e)
  have fpk : ∀ {σ' : L2.St} {H' : Hp} {s' : Shared}, Inv ((X.blk t3 G3 scope ce fps).wish xe) [] σ' H' s' → (∀ b ∈ fps, H' b = none) → ∀ b ∈ fps, FpOk ((X.blk t3 G3 scope ce fps).wish xe) [] H' b := fun {σ' H' s'} I' hn b hb =>
    ⟨hn b hb, (I'.ok.exf b hb).1, I'.ok.exfs b hb, .inl hb, fun x c e => (I'.ok.exf b hb).2 x c e, fun p hp => absurd (show p ∈ ([] : List (Addr × Obj)) ++ [] from hp) (by simp)⟩
  have lp : codeAny (model X.prog X.w) X.A (.compLoop (.ListComp elt [⟨tg, iter, ifs, 0⟩] scope pos) 0 (.ref itr) (.ref DD) ce) (cPost (model X.prog X.w) X.A X.xe use Qf (.ref DD) ce) t4 := by
    refine compLoop_any (fun n s' => ∃ i H', Inv ((X.blk t3 G3 scope ce fps).wish xe) [] (wipe σ (own.map (·.2))) H' s' ∧ tn i s'.heap ∧ (∀ b ∈ fps, H' b = none) ∧ V0 i n H') ?_ c0 ⟨0, G3, J4, sx4, nf, b0⟩
    rintro n t5 ⟨i, G5, J5, sx5, k5, b5⟩
    rcases trn i n G5 b5 with ⟨sp0, qs⟩ | ⟨gg, Up, lim, stp⟩
    · have dn := TT.done ((X.blk t3 G3 scope ce fps).wish xe) rfl rfl rfl hc i [] t5 _ G5 (fun _ _ => False) J5 (fpk J5 k5) sx5 sp0
      refine thnF dn fun r t6 ⟨hr, J6⟩ => ?_
      subst hr
      -- back in the def's context
      have J7 : Inv X pins σ G5 t6 := J3.call' (ch := fps) J6.os J6.base J6.hok J6.bare fun b hb => ⟨(g3 b hb).1.2.2.2.1, (g3 b hb).1.2.1, (g3 b hb).1.2.2.2.2.1, (g3 b hb).1.2.2.2.2.2⟩
      have nCC : G5 t3.heap.objs.size = none := by
        have z : G5 ce.locals = none := J6.free
        rw [lC] at z
        exact z
      obtain ⟨m, hn, _⟩ := J6.loc
      have hn : t6.heap.Ns ce.locals m := hn
      exact hRR DD ce t6 m G5 J7 qs hn (by rw [lC]; exact J3.fpOk (Nat.le_refl _) nCC)
    · have im := TT.item ((X.blk t3 G3 scope ce fps).wish xe) rfl rfl rfl hc i [] t5 _ G5 (fun _ _ => False) J5 (fpk J5 k5) sx5 gg
      refine thnF im fun r t6 ⟨u, hr, e6⟩ => ?_
      subst hr
      refine thnF e6 fun _ t7 ⟨x, G7, J7, v7, y7, sx7, k7⟩ => ?_
      have J7' := J7.pinned (fpk J7 k7) (TT.obj _ _ sx7)
      refine wpAny_mono (pg.run _ t7 _ G7 x u _ J7' v7 (stp x G7 y7)) (fun _ t8 ⟨σ8, G8, J8, ew, z8⟩ => ?_) same
      refine wpAny_mono (pt.run _ t8 σ8 G8 _ J8 z8) (fun b t9 ⟨G9, J9, z9⟩ => ?_) same
      -- the turn's end
      have fin : ∀ {s' : Shared} {H' : Hp}, Inv ((X.blk t3 G3 scope ce fps).wish xe) ([] ++ pinsAt fps t7.heap) σ8 H' s' → Up H' → ∃ m, m < n ∧ ∃ i H', Inv ((X.blk t3 G3 scope ce fps).wish xe) [] (wipe σ (own.map (·.2))) H' s' ∧ tn i s'.heap ∧ (∀ b ∈ fps, H' b = none) ∧ V0 i m H' := fun {s' H'} I' up => by
        obtain ⟨c', hm, b'⟩ := lim H' up
        have pk' : ∀ b ∈ fps, ∀ o, t7.heap.get? b = some o → s'.heap.get? b = some o ∧ H' b = none := fun b hb o e =>
          let z := I'.pin (b, o) (List.mem_append_right _ (List.mem_append_right _ (mem_pinsAt hb e)))
          ⟨z.1, z.2.1⟩
        have el : (wipe σ (own.map (·.2))).length = σ8.length := by rw [← ew, wipe_length]
        refine ⟨c', hm, i + 1, H', (I'.unpinned (pins := [])).weak el (fun j v e => ?_), TT.keep _ _ _ sx7 fun b hb o e => (pk' b hb o e).1, fun b hb => ?_, b'⟩
        · rw [← ew] at e
          exact (wipe_some e).1
        · obtain ⟨o, e, _⟩ := TT.obj _ _ sx7 b hb
          exact (pk' b hb o e).2
      cases b with
      | false =>
        simp only [Bool.false_eq_true, if_false] at z9 ⊢
        exact fin J9 z9
      | true =>
        simp only [if_true] at z9 ⊢
        refine wpAny_mono (pe.run _ t9 σ8 G9 _ J9 z9) (fun z t10 ⟨yy, G10, J10, v10, ac, eD10, lz10, up⟩ => ?_) same
        exact app_ok (X := (X.blk t3 G3 scope ce fps).wish xe) J10 eD10 lz10 v10 fun t11 J11 => fin J11 up
  exact codeAny_compStart_list lp (TT.self X.A 0 _ _ _ sx4 lp)
/-- as a value -/
theorem pe_lcX {elt tg iter : Expr} {ifs : List Expr} {scope : Scope} {own : List (Str × Nat)} {pos : Pos} {wi : TI} {g : TG} {tt : TT} {te : TE} {E : XK} (hstk : X.stack = X.env :: X.outer) (hfrm : X.env.frame = some X.env.locals) (tk : Takes X (fun cls d _ H => E cls d H))
    (hc : X.calm = true) (hN : X.N.Nodup) (hi : PI X tg iter wi) (ok : BlkOk X.N X.env.scope scope own)
    (hg : ∀ (s : Shared) (H : Hp) (C : Addr) (cl : List (Str × Addr)) (fp : List Addr) (xe : Value → Shared → Prop), PG ((X.blk s H scope (compEnvC scope cl C X.env) fp).wish xe) tg g)
    (ht : ∀ (s : Shared) (H : Hp) (C : Addr) (cl : List (Str × Addr)) (fp : List Addr) (xe : Value → Shared → Prop), Passes (L2.CX X.prog X.w) ((X.blk s H scope (compEnvC scope cl C X.env) fp).wish xe) E → PTs ((X.blk s H scope (compEnvC scope cl C X.env) fp).wish xe) ifs tt)
    (he : ∀ (s : Shared) (H : Hp) (C : Addr) (cl : List (Str × Addr)) (fp : List Addr) (xe : Value → Shared → Prop), Passes (L2.CX X.prog X.w) ((X.blk s H scope (compEnvC scope cl C X.env) fp).wish xe) E → PE ((X.blk s H scope (compEnvC scope cl C X.env) fp).wish xe) elt te)
    (hfold : ∀ x, foldedSetIterable iter X.env x = pure x := by intro _; rfl) : PE X (.ListComp elt [⟨tg, iter, ifs, 0⟩] scope pos) (tLc wi g tt te (own.map (·.2))) := by
  refine ⟨fun pins s σ H Q I h => ?_⟩
  rw [eval_ListComp]
  refine lc_coreX hstk hfrm tk hc hN I hi ok hg ht he hfold h fun D ce s' m H' I' q hn f => ⟨m, hn, fun h2 sb => ?_⟩
  obtain ⟨f0, f1, f2, f3, f4, f5⟩ := f
  exact ⟨.ref D, H', I'.turned (t' := s'.toks) (fun b o hb e => (sb.2 b hb).trans e) f0 f1 f3 f4 f5, rfl, q⟩
/-- name = [..] on one line, the name a local -/
theorem ps_setLcX {i : Nat} {y : Str} {py : Pos} {elt tg iter : Expr} {ifs : List Expr} {scope : Scope} {own : List (Str × Nat)} {pos spos : Pos} {wi : TI} {g : TG} {tt : TT} {te : TE} {E : XK} (hstk : X.stack = X.env :: X.outer) (hfrm : X.env.frame = some X.env.locals) (tk : Takes X (fun cls d _ H => E cls d H))
    (hc : X.calm = true) (hN : X.N.Nodup) (hy : X.N[i]? = some y) (hyl : X.env.scope.names.lookup y = some .local)
    (hsw : swapsWith (.ListComp elt [⟨tg, iter, ifs, 0⟩] scope pos) (some (.Name y py)) spos.line X.env = pure true) (hi : PI X tg iter wi) (ok : BlkOk X.N X.env.scope scope own)
    (hg : ∀ (s : Shared) (H : Hp) (C : Addr) (cl : List (Str × Addr)) (fp : List Addr) (xe : Value → Shared → Prop), PG ((X.blk s H scope (compEnvC scope cl C X.env) fp).wish xe) tg g)
    (ht : ∀ (s : Shared) (H : Hp) (C : Addr) (cl : List (Str × Addr)) (fp : List Addr) (xe : Value → Shared → Prop), Passes (L2.CX X.prog X.w) ((X.blk s H scope (compEnvC scope cl C X.env) fp).wish xe) E → PTs ((X.blk s H scope (compEnvC scope cl C X.env) fp).wish xe) ifs tt)
    (he : ∀ (s : Shared) (H : Hp) (C : Addr) (cl : List (Str × Addr)) (fp : List Addr) (xe : Value → Shared → Prop), Passes (L2.CX X.prog X.w) ((X.blk s H scope (compEnvC scope cl C X.env) fp).wish xe) E → PE ((X.blk s H scope (compEnvC scope cl C X.env) fp).wish xe) elt te)
    (hfold : ∀ x, foldedSetIterable iter X.env x = pure x := by intro _; rfl) : PS X (.Assign [.Name y py] (.ListComp elt [⟨tg, iter, ifs, 0⟩] scope pos) spos) (tAsg (tLc wi g tt te (own.map (·.2))) (gName i)) := by
  refine ⟨fun pins s σ H D I h => ?_⟩
  rw [exec_Assign_Name_used _ _ _ _ hsw]
  refine wpAny_bind (wpAny_standAt (wpAny_bind ?_))
  show wpAny _ X.A (do let _ ← comprehension (.ListComp elt [⟨tg, iter, ifs, 0⟩] scope pos) scope X.env (firstIterPos [⟨tg, iter, ifs, 0⟩] pos) (newList []) false (eval iter X.env) (some (assign (.Name y py) X.env))) _ _ s
  have h : tLc wi g tt te (own.map (·.2)) σ H (fun x H1 => gName i x σ H1 D.nx) := h
  refine wpAny_bind (thn (lc_coreX (Qf := fun _ s' => SP X pins D .next s') hstk hfrm tk hc hN I hi ok hg ht he hfold h fun L ce s' m H' I' q hn f => ?_) fun _ s' hq => wpAny_pure (wpAny_pure hq))
  show wpAny _ _ (assign (.Name y py) X.env (.ref L)) _ _ _
  refine wpAny_assign_Name (store_ok2 (v := V.ref L) I' hN hy (.inl hyl) rfl (fun s2 I2 ⟨a, sb, ha⟩ => ?_) (.inr hyl))
  obtain ⟨f0, f1, f2, f3, f4, f5⟩ := f
  have haC : ce.locals ≠ a := by
    rcases ha with z | z
    · rw [z]; exact f1
    · exact fun e => f4 y a z e.symm
  refine ⟨m, hn.sameBut sb haC, fun h3 sb3 => ?_⟩
  exact ⟨_, H', I2.turned (t' := s2.toks) (fun b o hb e => (sb3.2 b hb).trans e) f0 f1 f3 f4 f5, q⟩
end
end Z
set_option Elab.async false
set_option linter.all false
set_option maxRecDepth 100000
set_option maxHeartbeats 4000000
namespace Z
open PySem PySem.Spec PyProof.Rows L2 L2H
/-! ### a def that may raise, called where it doesn't -/
def noX : XK := fun _ _ _ => False
section
variable {P : Program} {w : World} {K : PySem.W.Frag} {mg : Str → Option Value} {base : Heap}
theorem fn_calm {k : Nat} {f : Addr} {fd : FuncData} {ps : List Str} {sp : Sp} (F : FnOk P w K mg base (L2.CX P w) k f fd ps sp) : FnOk P w K mg base CX0 k f fd ps (fun vs H Q _ => sp vs H Q noX) :=
  ⟨fun vs H Q _ h => F.len vs H Q noX h, fun A outer s H args us vs Q _ hr he hb hv h => codeAny_mono (F.run A outer s H args us vs Q noX hr he hb hv h) fun r s' hq => by
    cases r with
    | error e =>
      obtain ⟨_, _, _, _, _, _, _, _, _, _, _, _, z⟩ := hq
      exact z.elim
    | ok fl =>
      cases fl with
      | ret u => exact hq
      | next => exact hq.elim
      | brk => exact hq.elim
      | cont => exact hq.elim⟩
theorem Cr.cl {k : Nat} {x : Str} {sp : Sp} (c : Cr P w K mg base k x sp) : Cl P w K mg base k x (fun vs H Q _ => sp vs H Q noX) := by
  obtain ⟨f, fd, ps, F, a⟩ := c.ex
  exact ⟨f, fd, ps, fn_calm F, a⟩
theorem Cl.imp {k : Nat} {x : Str} {sp sp' : Sp} (c : Cl P w K mg base k x sp) (h : ∀ vs H Q E, sp' vs H Q E → sp vs H Q E) : Cl P w K mg base k x sp' := by
  obtain ⟨f, fd, ps, F, a⟩ := c.ex
  exact ⟨f, fd, ps, F.imp h, a⟩
/-- one that raises, called by keywords alone -/
structure Crk (P : Program) (w : World) (K : PySem.W.Frag) (mg : Str → Option Value) (base : Heap) (k : Nat) (x : Str) (ks : List Str) (sp : Sp) : Prop where
  ex : ∃ (f : Addr) (fd : FuncData) (ps : List Str), FnOk P w K mg base (L2.CX P w) k f fd ps sp ∧ mg x = some (.ref f) ∧ PySem.W.keepIn K (.ref f) = true ∧ KBn K fd ps 0 ks (fun _ b => b) (fun _ b => b)
theorem crk_of {x : Str} {st : Stmt} {ps : List Str} {k : Nat} {sp : Sp} (D : Dn K mg x st) (c : ∀ (f : Addr) (fd : FuncData), Fun K x x st f fd → FnOk P w K mg base (L2.CX P w) k f fd ps sp) (ks : List Str)
    (h : ∀ (kV doc pm : Value) (an : Option Addr) (cdv ct : Value) (ws : List Value), ws.length = ks.length →
      bindArgs (PySem.W.fnOf x x (defArgs st) (defBody st) (defScope st) .none kV doc pm an cdv ct) ⟨[], ks.zip ws⟩ = pure (ps.zip ws)) : Crk P w K mg base k x ks sp := by
  obtain ⟨f, fd, F, hm⟩ := D.ex
  have Fn := c f fd F
  obtain ⟨oc, od, kV, doc, pm, an, cdv, ct, osl, rfl, lk, hcd⟩ := id F.ex
  exact ⟨f, _, ps, Fn, hm, F.kp, ⟨fun s us ws X l1 l2 => match us, l1 with
    | [], _ => .of_eq (h kV doc pm an cdv ct ws l2), fun _ b => b⟩⟩
end
def tCrk (m : Nat) (sp : Sp) (W : WX) (tk : TA) : TE := fun σ H Q => tk σ H fun zs H2 => zs.length = m ∧ sp zs H2 Q (WE W σ)
section
variable {X : Cx} {k j : Nat} {x : Str} {sp : Sp} {p pos : Pos} {tk : TA} {ks : List Str} {kws : List Keyword} {W : WX}
theorem pe_crk0 (c : Crk X.prog X.w X.K X.mg X.base k x ks sp) (tt : Takes X W) (hr : Room j X.A) (hk : k ≤ j) (hg : Gl X x) (hkw : PK X kws tk)
    (h1 : (backToKw pos (keywordEach kws X.env)).all (·.1.isSome) = true := by rfl) (h2 : (backToKw pos (keywordEach kws X.env)).filterMap (·.1) = ks := by rfl)
    (d : (x == ("__debug__" : Str)) = false := by decide) (h4 : (backToKw pos (keywordEach kws X.env)).any (·.1.isNone) = false := by rfl) :
    PE X (.Call (.Name x p) [] kws pos) (tCrk ks.length sp W tk) := by
  obtain ⟨f, fd, ps, F, hm, kp, b⟩ := c.ex
  refine ⟨fun pins s σ H Q I q => ?_⟩
  refine wpAny_Call_Name_kw (ld_glob I hg hm ?_ d)
  refine PySem.W.callWith_KW0 (h₀ := X.base) I.ok.mod.kin kp h1 (thn (hkw.run pos pins s σ H _ I q) fun ws s2 ⟨zs, H2, I2, rz, l1, q2⟩ => ⟨I2.kIn, ?_⟩) h4
  rw [h2]
  have v := b.rel (vs := []) .nil rz
  refine wpAny_call (codeAny_mono (F.run X.A X.stack s2 H2 ⟨[], ks.zip ws⟩ ws zs Q (WE W σ) (hr.mono hk) I2.env0 (b.to s2 [] ws I2.kIn rfl (rz.length.symm.trans l1)) v q2) fun r s3 w3 => ?_)
  cases r with
  | error e => exact passAt tt σ pins H2 s2 e s3 I2 w3
  | ok fl =>
    cases fl with
    | ret u => exact I2.after w3
    | next => exact w3.elim
    | brk => exact w3.elim
    | cont => exact w3.elim
/-- a call without arguments -/
theorem pe_cl0 (c : Cl X.prog X.w X.K X.mg X.base k x sp) (hr : Room j X.A) (hk : k ≤ j) (hg : Gl X x) (d : (x == ("__debug__" : Str)) = false := by decide) : PE X (.Call (.Name x p) [] [] pos) (tCl sp tNil) := by
  obtain ⟨f, fd, ps, F, hm, kp, b⟩ := c.ex
  have z := pe_call0 (pos := pos) F (hr.mono hk) hg hm kp b .nil (E := E0) pass0 d (p := p)
  refine ⟨fun pins s σ H Q I h => z.run pins s σ H Q I ?_⟩
  have e : tCall sp [] E0 tNil = tCl sp tNil := by
    funext σ H Q
    simp only [tCall, tCl, List.append_nil]
  rw [e]
  exact h
end
/-! ### factorial, comb, sum -/
def fac : Nat → Nat
  | 0 => 1
  | n + 1 => (n + 1) * fac n
theorem fac_pos : ∀ n, 0 < fac n
  | 0 => Nat.one_pos
  | n + 1 => Nat.mul_pos (Nat.succ_pos n) (fac_pos n)
theorem fac_is : ∀ n : Nat, n ≤ 20 → Builtin.Math.factorialNat n = fac n := by
  have h : ∀ n : Fin 21, Builtin.Math.factorialNat n.val = fac n.val := by decide +kernel
  exact fun n hn => h ⟨n, by omega⟩
theorem fac_small : ∀ n : Nat, n ≤ 20 → fac n < 2 ^ 62 := by
  have h : ∀ n : Fin 21, fac n.val < 2 ^ 62 := by decide +kernel
  exact fun n hn => h ⟨n, by omega⟩
theorem log_lt {n : Nat} (h : n < 2 ^ 62) : n.log2 < bitsLine := Nat.lt_of_le_of_lt (PySem.W.mg_log (k := 61) h) (by rw [bitsLine_eq]; decide)
def rFact : List V → Hp → VK → Prop := fun vs H Q => ∃ a : Int, vs = [.int a] ∧ 0 ≤ a ∧ a ≤ 20 ∧ Q (.int (fac a.toNat : Nat)) H
theorem cr_fact {X : Cx} : CallR X (.builtin "math.factorial") rFact := by
  intro pins s σ H vs us Q I r h
  obtain ⟨a, rfl, h0, h1, q⟩ := h
  obtain ⟨u, rfl, t, rfl⟩ := vals1 r
  have e : ((Builtin.Math.factorialNat a.toNat : Nat) : Int) = (fac a.toNat : Nat) := by rw [fac_is _ (by omega)]
  exact PySem.W.mg_factorial_v (by show ¬ a > 2 ^ 63 - 1; omega) (by omega) (by show ¬ a > 20000; omega) e (by rw [Int.natAbs_natCast]; exact log_lt (fac_small _ (by omega))) ⟨.int _, H, I.tok _, ⟨_, rfl⟩, q⟩
section
variable {prog : Program} {w : World} {A : Around} {E : Value → Shared → Prop} {s : Shared}
theorem sum_tup {t : Addr} {xs : Array (Int × Tok)} {Q : Value → Shared → Prop} (hh : A.handled = none) (ht : s.heap.IsTuple t (intItems xs))
    (k : ∀ h2 n t2, (∀ b o, s.heap.get? b = some o → h2.get? b = some o) → Q (.int (preSum (numAt xs) xs.size) t2) { s with heap := h2, toks := n }) : wpAny (model prog w) A (call (.builtin "sum") [.ref t]) Q E s := by
  have lt : t < s.heap.objs.size := by
    obtain ⟨_, e, _⟩ := ht
    exact Heap.lt_size e
  refine call_sum_walkG (wpAny_pyIter_tuple ht ⟨_, [s.heap.objs.size, t], [s.heap.objs.size], _, _, _, numAt xs, rfl, Walks.tuple (A := A.in1) hh _ t (Nat.ne_of_lt lt) (intItems xs), ⟨⟨_, Heap.get?_push_size _ rfl, rfl, rfl⟩, ht.push _⟩, fun b hb => ?_, fun _ _ => intItems_at, fun h2 n t2 kp => ?_⟩)
  · show b < (s.heap.push _).objs.size
    rw [Heap.size_push]
    simp only [List.mem_cons, List.not_mem_nil, or_false] at hb
    rcases hb with rfl | rfl
    · exact Nat.lt_succ_self _
    · exact Nat.lt_succ_of_lt lt
  · have z := k h2 n t2 fun b o e => kp b o (fun m => by
      simp only [List.mem_cons, List.not_mem_nil, or_false] at m
      subst m
      exact Nat.lt_irrefl _ (Heap.lt_size e)) (Heap.get?_push_of_some _ e)
    simpa [intItems] using z
end
/-- sum(xs) of a list or tuple of ints -/
def rSumQ : List V → Hp → VK → Prop := fun vs H Q => ∃ a, vs = [.ref a] ∧ ∃ ns : List Int, seqAt (H a) = some (ns.map V.int) ∧ Q (.int ns.sum) H
theorem cr_sumQ {X : Cx} (hc : X.calm = true) : CallR X (.builtin "sum") rSumQ := by
  intro pins s σ H vs us Q I r ⟨a, e, ns, hs, q⟩
  subst e
  rcases seq_or (K := X.K) hs with hl | ht
  · exact cr_sum hc pins s σ H _ us Q I r ⟨a, ns, rfl, hl, q⟩
  · obtain ⟨its, rv, tp, hz⟩ := I.tuple ht
    obtain ⟨u, rfl, ru⟩ := vals1 r
    cases ru
    have hi := rv.ints
    obtain ⟨xs, ex⟩ := hi.allInts.items
    have hn : numsOf (intItems xs).toList = ns := by rw [← ex]; exact hi.numsOf
    rw [nums_intItems] at hn
    obtain ⟨ob, e1, e2, m, e3⟩ := tp
    refine sum_tup (I.ok.hd hc) (xs := xs) ⟨ob, e1, e2, m, by rw [e3, ex]⟩ fun h2 n t2 kp => ⟨.int _, H, I.kept kp, ⟨_, rfl⟩, ?_⟩
    rw [preSum_eq, List.take_of_length_le (by simp), hn]
    exact q
/-! ### own errors whose fields are handed over, the message written out -/
/-- B.__init__(self, '..'); self.f = v; .. -/
def sp_initN (K : PySem.W.Frag) (C : Addr) (m : Nat) (ns : List Str) (fs : List V → List (Str × V)) : Sp := fun vs H Q _ => ∃ (a : Addr) (ys : List V), vs = .ref a :: ys ∧ ys.length = m ∧ OexC K C ∧ (∀ f ∈ ns, PySem.W.findIn K (.ref C) f = some none) ∧ H a = some (exo a C none) ∧
  ∀ dx, H dx = none → dx ≠ a → Q .non (upd (upd H dx (exd dx (fs ys))) a (exo a C (some dx)))
structure BadN (P : Program) (w : World) (K : PySem.W.Frag) (mg : Str → Option Value) (base : Heap) (n : Str) (m : Nat) (ns : List Str) (fs : List V → List (Str × V)) (C : Addr) : Prop where
  nm : mg n = some (.ref C)
  ox : OexC K C
  ini : ∃ (fI : Addr) (fd : FuncData) (ps : List Str), PySem.W.findIn K (.ref C) "__init__" = some (some (.ref fI)) ∧ PySem.W.typeIn K (.ref fI) = some (.type "function") ∧ FnOk P w K mg base CX0 1 fI fd ps (sp_initN K C m ns fs) ∧ Binds K fd ps []
  no : ∀ f ∈ ns, PySem.W.findIn K (.ref C) f = some none
  ex : ExcC K C
  xf : XfC K C
def tBadN (C : Addr) (m : Nat) (fs : List V → List (Str × V)) (ta : TA) : L2.St → Hp → XK → Prop := fun σ H Q => ta σ H fun vs H1 => vs.length = m ∧ ∀ (d : Addr) (H' : Hp), Same H1 H' → H1 d = none → H' d = some (.xd (fs vs)) → Q (.ref C) (some d) H'
theorem pmk_badN {X : Cx} {e : Expr} {es : List Expr} {ta : TA} {n : Str} {m : Nat} {ns : List Str} {fs : List V → List (Str × V)} {C : Addr} {k : Nat} {p pos : Pos} (b : BadN X.prog X.w X.K X.mg X.base n m ns fs C) (hm : m ≤ 1000) (hr : Room k X.A) (hk : 2 ≤ k) (hg : Gl X n) (ha : PA X (e :: es) ta)
    (hdb : (n == ("__debug__" : Str)) = false := by decide) (he : starEach (e :: es) X.env = (false, eval e X.env) :: starEach es X.env := by rfl) (hpl : (backTo pos (starEach es X.env)).any (·.1) = false := by rfl) :
    PMk X (.Call (.Name n p) (e :: es) [] pos) (tBadN C m fs ta) := by
  obtain ⟨fI, fd, ps, i1, i2, F, bs⟩ := b.ini
  have z := pmk_oex (p := p) (pos := pos) (dvs := []) (ds := []) b.ox i1 i2 F (hr.mono hk) bs .nil pass0 hg b.nm (pa_up ha) hdb he hpl
  intro pins s σ H Q I h
  refine z pins s σ H Q I ⟨_, h, fun vs H1 ⟨hl, q⟩ => ⟨by omega, fun a na => ⟨a, vs, by rw [List.append_nil], hl, b.ox, b.no, upd_same, fun dx hdx hne => ⟨rfl, dx, fs vs, upd_same, ?_, ?_, ?_⟩⟩⟩⟩
  · rw [upd_ne hne, upd_same]
  · rw [upd_ne hne] at hdx
    exact hdx
  · refine q dx _ (same_made rfl na hdx) ?_ upd_same
    rw [upd_ne hne] at hdx
    exact hdx
theorem upd_swap {H : Hp} {a b : Addr} {o u : HO} (h : a ≠ b) : upd (upd H a o) b u = upd (upd H b u) a o := by
  funext c
  by_cases h1 : c = a
  · subst h1
    rw [upd_ne h, upd_same, upd_same]
  · by_cases h2 : c = b
    · subst h2
      rw [upd_same, upd_ne h1, upd_same]
    · rw [upd_ne h2, upd_ne h1, upd_ne h1, upd_ne h2]
/-! ### lists: xs + ys, xs * n, xs[::-1], places from the end -/
def rCatQ : R2 := fun x y H Q => ∃ l, x = .ref l ∧ ∃ b, y = .ref b ∧ ∃ xs, H l = some (.lst xs) ∧ ∃ zs, H b = some (.lst zs) ∧ xs.length + zs.length ≤ sizeLine ∧ ∀ p, H p = none → Q (.ref p) (upd H p (.lst (xs ++ zs)))
theorem opr_imp {X : Cx} {f : Value → Value → Sem Value} {r r' : R2} (c : OpR X f r) (h : ∀ x y H Q, r' x y H Q → r x y H Q) : OpR X f r' := fun pins s σ H x y v u Q I rx ry q => c pins s σ H x y v u Q I rx ry (h x y H Q q)
theorem op_catQ {X : Cx} : OpR X (binaryOp .Add) rCatQ := opr_imp op_cat fun _ _ _ _ ⟨l, e, b, e', xs, h, zs, h', z, q⟩ => ⟨l, b, xs, zs, e, e', h, h', z, q⟩
def tRevQ (te : TE) : TE := fun σ H Q => te σ H fun x H1 => ∃ a, x = .ref a ∧ ∃ xs, H1 a = some (.lst xs) ∧ ∀ p, H1 p = none → Q (.ref p) (upd H1 p (.lst xs.reverse))
theorem pe_revQ {X : Cx} {e : Expr} {te : TE} {k : Nat} {p1 p2 p3 pos : Pos} (he : PE X e te) : PE X (.Subscript e (.Slice none none (some (.UnaryOp .USub (.Constant (.int 1) k p1) p2)) p3) pos) (tRevQ te) :=
  pe_imp (pe_revL (pe_up he)) fun σ H Q h => ⟨_, h, fun x H1 ⟨a, e, xs, hx, q⟩ => ⟨a, xs, e, SqL.of hx, q⟩⟩
theorem ix_end {n : Nat} : ixN (n + 1) (-1) = some n := by
  unfold ixN
  rw [if_neg (by omega), if_pos (by omega)]
  congr 1
  omega
theorem set_end {α : Type} {x y : α} : ∀ xs : List α, (xs ++ [x]).set xs.length y = xs ++ [y]
  | [] => rfl
  | z :: xs => by rw [List.cons_append, List.length_cons, List.set_cons_succ, set_end xs]; rfl
theorem cpow_64 : CPow 10 64 ↔ True := ⟨fun _ => trivial, fun _ => ⟨by decide, by decide, by decide⟩⟩
theorem cut_to {xs : List V} {n : Nat} (h : n ≤ xs.length) : cutV xs none (some (n : Int)) = xs.take n := by
  unfold cutV
  rw [HT.sIx_nat, HT.sIx_none, Nat.min_eq_left h]
  simp
theorem cut_from {xs : List V} {n : Nat} (h : n ≤ xs.length) : cutV xs (some (n : Int)) none = xs.drop n := by
  unfold cutV
  rw [HT.sIx_nat, HT.sIx_none, Nat.min_eq_left h]
  exact List.take_of_length_le (by rw [List.length_drop]; omega)
/-! ### rows of ints, as data -/
def gd (rows : List (List Int)) : Dt := .lst (rows.map fun r => .lst (r.map Dt.int))
theorem paired_ints_inv {N : Addr → Prop} {H : Hp} {k : Nat} : ∀ {xs : List V} {ns : List Int}, Paired (fun v d => Rp N H (k + 1) v d) xs (ns.map Dt.int) → xs = ns.map V.int
  | [], [], _ => rfl
  | [], _ :: _, h => nomatch h
  | _ :: _, [], h => nomatch h
  | x :: xs, n :: ns, h => by
    cases h with
    | cons r t =>
      have e : x = .int n := r
      rw [e, paired_ints_inv t]
      rfl
theorem rp_row {N : Addr → Prop} {H : Hp} {k : Nat} {v : V} {r : List Int} (h : Rp N H (k + 2) v (.lst (r.map Dt.int))) : ∃ a, v = .ref a ∧ N a ∧ H a = some (.lst (r.map V.int)) ∧ r.length ≤ 1000 := by
  obtain ⟨a, xs, e, na, ha, l, p⟩ := h
  have z := paired_ints_inv p
  subst z
  rw [List.length_map] at l
  exact ⟨a, e, na, ha, l⟩
theorem rp_grid {N : Addr → Prop} {H : Hp} {k : Nat} {p : Addr} {rows : List (List Int)} (h : Rp N H (k + 3) (.ref p) (gd rows)) : ∃ xs : List V, H p = some (.lst xs) ∧ xs.length = rows.length ∧ ∀ (i : Nat) (r : List Int), rows[i]? = some r → ∃ a : Addr, xs[i]? = some (V.ref a) ∧ N a ∧ H a = some (.lst (r.map V.int)) := by
  obtain ⟨a, xs, e, na, ha, l, q⟩ := h
  cases e
  have hl := paired_len q
  rw [List.length_map] at hl
  refine ⟨xs, ha, hl, fun i r hr => ?_⟩
  have hi : i < xs.length := by rw [hl]; exact (List.getElem?_eq_some_iff.mp hr).1
  obtain ⟨d, e1, e2⟩ := paired_get q (List.getElem?_eq_getElem hi)
  rw [List.getElem?_map, hr] at e1
  cases e1
  obtain ⟨b, eb, nb, hb, _⟩ := rp_row e2
  exact ⟨b, by rw [List.getElem?_eq_getElem hi, eb], nb, hb⟩
end Z
namespace Z
open PySem PySem.Spec PyProof.Rows L2
def rIntB : List V → Hp → VK → Prop := fun xs H Q => ∃ b : Bool, xs = [.bl b] ∧ Q (.int (if b then 1 else 0)) H
theorem call_intB {X : Cx} : CallR X (.type "int") rIntB := callr_imp call_int1 fun _ _ _ ⟨b, e, q⟩ => .inr ⟨b, e, q⟩
def rRepQ : R2 := fun x y H Q => ∃ l, x = .ref l ∧ ∃ k, y = .int k ∧ ∃ xs, H l = some (.lst xs) ∧ -(2 ^ 63) ≤ k ∧ k < 2 ^ 63 ∧ xs.length * k.toNat ≤ sizeLine ∧ ∀ p, H p = none → Q (.ref p) (upd H p (.lst (List.replicate k.toNat xs).flatten))
end Z
namespace Z
open PySem PySem.Spec PyProof.Rows L2
theorem op_repQ {X : Cx} : OpR X (binaryOp .Mult) rRepQ := opr_imp op_rep fun _ _ _ _ ⟨l, e, k, e', xs, h, h1, h2, z, q⟩ => ⟨l, k, xs, e, e', h, h1, h2, z, q⟩
theorem rep_one {α : Type} {x : α} : ∀ n : Nat, (List.replicate n [x]).flatten = List.replicate n x
  | 0 => rfl
  | n + 1 => by rw [List.replicate_succ, List.flatten_cons, rep_one n]; rfl
end Z
set_option Elab.async false
set_option linter.all false
set_option maxRecDepth 100000
namespace Z
open PySem PySem.Spec PyProof.Rows L2
def topS (i : Nat) : Stmt := PySem.Challenge.pw_hedgejoin_k10_groups_that_cross.main.body.getD i (.Pass ⟨0, 0, 0, 0⟩)
end Z
set_option Elab.async false
set_option linter.all false
set_option maxRecDepth 100000
set_option maxHeartbeats 4000000
namespace Z
open PySem PySem.Spec PyProof.Rows L2
section
variable {P : Program} {w : World} {K : PySem.W.Frag} {mg : Str → Option Value} {base : Heap}
abbrev s_law_mixed : Stmt := topS 47
abbrev N_law_mixed : List Str := ["cell", "turn", "seed", "once", "twice"]
theorem sc_law_mixed : FnScope N_law_mixed ["cell", "turn", "seed"] (defScope s_law_mixed) := ⟨rfl, rfl, rfl, by decide +kernel, rfl, by decide +kernel, by decide +kernel⟩
theorem b_law_mixed : BindO "_law_mixed" s_law_mixed ["cell", "turn", "seed"] := fun _ _ _ _ _ _ us hl => match us, hl with | [_, _, _], _ => rfl

/-- three ints in, some int out -/
def sp_mixed : Sp := fun vs H Q _ => ∃ i j l : Int, vs = [.int i, .int j, .int l] ∧ ∀ r : Int, Q (.int r) H
theorem ok_mixed (D : Dn K mg "_law_mixed" s_law_mixed) (B : Blt mg) : Cl P w K mg base 1 "_law_mixed" sp_mixed := by
  refine cl_of D sc_law_mixed b_law_mixed (fun vs H Q E h => ?_) (fun f cdv A outer s H vs Q E hr h => ?_)
  · obtain ⟨i, j, l, rfl, _⟩ := h
    rfl
  · obtain ⟨i, j, l, rfl, q⟩ := h
    refine ⟨_, (pss_cons (ps_set (i := 3) sc_law_mixed.nd rfl (.inl rfl) (pe_op op_mod (pe_callTy call_intI (by rfl) B.int (by decide +kernel) (pa_cons (pe_op op_add (pe_op op_add (pe_op op_add (pe_op op_mul (pe_op op_mod (pe_callTy call_intI (by rfl) B.int (by decide +kernel) (pa_cons (pv 0) pa_nil)) pe_int) pe_int) (pe_op op_mul (pv 1) pe_int)) (pv 2)) pe_int) pa_nil)) pe_int))
      (pss_cons (ps_set (i := 3) sc_law_mixed.nd rfl (.inl rfl) (pe_op op_mod (pe_callTy call_intI (by rfl) B.int (by decide +kernel) (pa_cons (pe_op op_add (pe_op op_add (pe_op op_mul (pv 3) (pv 3)) (pe_op op_mul (pe_op op_fdivW (pv 3) pe_int) pe_int)) (pv 1)) pa_nil)) pe_int))
      (pss_cons (ps_set (i := 4) sc_law_mixed.nd rfl (.inl rfl) (pe_op op_mod (pe_callTy call_intI (by rfl) B.int (by decide +kernel) (pa_cons (pe_op op_add (pe_op op_add (pe_op op_mul (pv 3) pe_int) (pe_op op_fdivW (pv 3) pe_int)) (pv 2)) pa_nil)) pe_int))
      (pss_one (ps_ret (pe_op op_fdivW (pv 4) pe_int)))))), ?_⟩
    rw [show L2.start N_law_mixed [.int i, .int j, .int l] = [some (.int i), some (.int j), some (.int l), none, none] from rfl]
    simp only [tSeq, tNext, tDrop, tRet, tRetN, tIfS, tAsg, gName, tAug, ipI, tVar, tC, tOp, tUn, rI, rI0, rU, tCons, tNil, tCB, tTup, tLst, tTest, tB, tAnd, tOr, tNot, tAndV, tOrV, tNotV, tIf, tCl, tCd, tCk, gSub, rPutL, rAtQ, rIntI, rLenQ, rLenS, rListQ, rTupL, rTupQ, rIsQ_c, kd_non, kd_bl, kd_int, kd_str, kd_ref, kdO_lst, kdO_tup, kit_NoneType_bool, kit_NoneType_int, kit_NoneType_str, kit_NoneType_list, kit_NoneType_tuple, kit_bool_bool, kit_bool_int, kit_bool_str, kit_bool_list, kit_bool_tuple, kit_int_bool, kit_int_int, kit_int_str, kit_int_list, kit_int_tuple, kit_str_bool, kit_str_int, kit_str_str, kit_str_list, kit_str_tuple, kit_list_bool, kit_list_int, kit_list_str, kit_list_list, kit_list_tuple, kit_tuple_bool, kit_tuple_int, kit_tuple_str, kit_tuple_list, kit_tuple_tuple, V.ty.injEq, rSortQ, rSlQ, rMulS, tJn, rAtX, rSlS, tSl, tPart, tNoPart, cut_lo2, cut_hi2, rInQ, gLq, gTq, gC_c, gNil, tChain, List.cons_append, List.nil_append, tBL, tBL0, tBad, tCr, tCe, tXF, cxH_K, HO.xd.injEq, rApp, rPopN, rRevL, seqAt_lst, seqAt_tup, at_0, at_1, at_2, at_3, at_4, ix_0, ix_1, ix_2, ix_3, ix_4, cx_K, upd_same, List.length_cons, List.length_nil, Nat.reduceAdd,  rEq, rNe, tRevL, V.int.injEq, V.bl.injEq, V.str.injEq, V.ref.injEq, List.cons.injEq, and_true, true_and, exists_and_left, exists_and_right, exists_eq_left, exists_eq_left', exists_eq_right, exists_eq_right', exists_const, Option.some.injEq, List.getElem?_cons_zero, List.getElem?_cons_succ, List.set_cons_zero, List.set_cons_succ, decide_eq_true_eq, decide_true, decide_false,  scal_ii, scal_bb, scal_ss, cmul_r, cdiv_l, cpow_12, cpow_18, cpow_40, HO.lst.injEq, HO.tup.injEq, upd_upd, Int.reduceToNat,  decide_not, Bool.not_eq_true', decide_eq_false_iff_not, if_true, if_false, Bool.false_eq_true, Bool.true_eq_false, reduceCtorEq, Int.reduceNeg, Nat.reduceLT, Int.reduceLT, Int.reducePow, gt_iff_lt]
    exact ⟨.inl ⟨by omega, by omega⟩, q _⟩

/-! ### the store: its cells, the next one's place, what is left of a great one, a count, a seed -/
structure Sto where
  a : Addr
  c : Addr
  cells : List Int
structure Store (S : Sto) (H : Hp) : Prop where
  ex : ∃ (i : Nat) (x y z : Int), H S.a = some (.lst [.ref S.c, .int i, .int x, .int y, .int z]) ∧ i ≤ S.cells.length
  cel : H S.c = some (.lst (S.cells.map V.int))
  ne : S.c ≠ S.a
  few : S.cells.length ≤ 63
theorem Store.keep {S : Sto} {H H' : Hp} (s : Store S H) (h : ∀ b o, H b = some o → H' b = some o) : Store S H' := by
  obtain ⟨i, x, y, z, h1, r⟩ := s.ex
  exact ⟨⟨i, x, y, z, h _ _ h1, r⟩, h _ _ s.cel, s.ne, s.few⟩
theorem Store.neA {S : Sto} {H : Hp} {p : Addr} (s : Store S H) (h : H p = none) : p ≠ S.a := fun e => by
  obtain ⟨_, _, _, _, h1, _⟩ := s.ex
  rw [← e, h] at h1
  cases h1
theorem Store.neC {S : Sto} {H : Hp} {p : Addr} (s : Store S H) (h : H p = none) : p ≠ S.c := fun e => by
  have h1 := s.cel
  rw [← e, h] at h1
  cases h1
theorem Store.at {S : Sto} {H : Hp} {p : Addr} {o : HO} (s : Store S H) (h : p ≠ S.a) (h' : p ≠ S.c) : Store S (upd H p o) := by
  obtain ⟨i, x, y, z, h1, r⟩ := s.ex
  exact ⟨⟨i, x, y, z, by rw [upd_ne h.symm]; exact h1, r⟩, by rw [upd_ne h'.symm]; exact s.cel, s.ne, s.few⟩
/-- from H to H': all but the store stays, it is a store still -/
structure Drew (S : Sto) (H H' : Hp) : Prop where
  but : But (fun b => b = S.a) H H'
  st : Store S H'
theorem Drew.trans {S : Sto} {H H1 H2 : Hp} (r : Drew S H H1) (t : Drew S H1 H2) : Drew S H H2 := ⟨r.but.trans t.but, t.st⟩
theorem Drew.new {S : Sto} {H H1 : Hp} (r : Drew S H H1) {p : Addr} {o : HO} (h : H1 p = none) : Drew S H (upd H1 p o) :=
  ⟨r.but.trans (But.new h), r.st.keep (same_new h)⟩
theorem Drew.back {S : Sto} {H H1 : Hp} (r : Drew S H H1) {p : Addr} (h : H1 p = none) : H p = none := r.but.free (r.st.neA h) h
/-- what was new behind H is changed -/
theorem Drew.at {S : Sto} {H H1 : Hp} (r : Drew S H H1) (s : Store S H) {p : Addr} {o : HO} (h : H p = none) : Drew S H (upd H1 p o) := ⟨r.but.at (.inr h), r.st.at (s.neA h) (s.neC h)⟩
theorem Drew.only {S : Sto} {H H1 H2 : Hp} {p : Addr} (r : Drew S H H1) (s : Store S H) (h : H p = none) (b : But (fun b => b = p) H1 H2) : Drew S H H2 := by
  refine ⟨fun c o n e => b c o (fun z => ne_of_none e h z) (r.but c o n e), ?_⟩
  obtain ⟨i, x, y, z, h1, h2⟩ := r.st.ex
  exact ⟨⟨i, x, y, z, b _ _ (s.neA h).symm h1, h2⟩, b _ _ (s.neC h).symm r.st.cel, r.st.ne, r.st.few⟩
theorem Drew.same {S : Sto} {H H1 H2 : Hp} (r : Drew S H H1) (h : Same H1 H2) : Drew S H H2 := ⟨r.but.trans (But.of h), r.st.keep h⟩
/-- a number from 0 on below many -/
def Digit (many d : Int) : Prop := 0 ≤ d ∧ (d < many ∨ d = 0)
abbrev s_law_take : Stmt := topS 48
abbrev N_law_take : List Str := ["store", "many", "cell", "digit"]
theorem sc_law_take : FnScope N_law_take ["store", "many"] (defScope s_law_take) := ⟨rfl, rfl, rfl, by decide +kernel, rfl, by decide +kernel, by decide +kernel⟩
theorem b_law_take : BindO "_law_take" s_law_take ["store", "many"] := fun _ _ _ _ _ _ us hl => match us, hl with | [_, _], _ => rfl

def sp_take : Sp := fun vs H Q _ => ∃ (S : Sto) (many : Int), vs = [.ref S.a, .int many] ∧ Store S H ∧ many < 2 ^ 64 ∧ ∀ (d : Int) (H' : Hp), Drew S H H' → Digit many d → Q (.int d) H'
theorem ok_take (D : Dn K mg "_law_take" s_law_take) (B : Blt mg) (c_law_mixed : Cl P w K mg base 1 "_law_mixed" sp_mixed) : Cl P w K mg base 2 "_law_take" sp_take := by
  refine cl_of D sc_law_take b_law_take (fun vs H Q E h => ?_) (fun f cdv A outer s H vs Q E hr h => ?_)
  · obtain ⟨S, many, rfl, _⟩ := h
    rfl
  · obtain ⟨S, many, rfl, st, hm, q⟩ := h
    refine ⟨_, (pss_cons (ps_if (pt_cmpR op_lt (pv 1) pe_int (nomark _)) (pss_one (ps_ret pe_int)) pss_nil)
      (pss_cons (ps_if (pt_cmpR op_eq (pe_ix at_seq (pv 0) pe_int (fun _ _ => rfl)) pe_int (nomark _)) (pss_cons (ps_set (i := 2) sc_law_take.nd rfl (.inl rfl) pe_int)
      (pss_cons (ps_if (pt_cmpR op_lt (pe_ix at_seq (pv 0) pe_int (fun _ _ => rfl)) (pe_callB call_lenQ (by rfl) B.len PySem.boot_len (pa_cons (pe_ix at_seq (pv 0) pe_int (fun _ _ => rfl)) pa_nil)) (nomark _)) (pss_cons (ps_set (i := 2) sc_law_take.nd rfl (.inl rfl) (pe_ix at_seq (pe_ix at_seq (pv 0) pe_int (fun _ _ => rfl)) (pe_ix at_seq (pv 0) pe_int (fun _ _ => rfl)) (fun _ _ => rfl)))
      (pss_one (ps_asg (pe_op op_add (pe_ix at_seq (pv 0) pe_int (fun _ _ => rfl)) pe_int) (pg_sub (pv 0) pe_int put_list)))) pss_nil)
      (pss_cons (ps_if (pt_cmpR op_lt (pv 2) (pe_op op_pow pe_int pe_int) (nomark _)) (pss_cons (ps_asg (pe_op op_add (pe_ix at_seq (pv 0) pe_int (fun _ _ => rfl)) pe_int) (pg_sub (pv 0) pe_int put_list))
      (pss_one (ps_ret (pe_op op_mod (pe_callTy call_intI (by rfl) B.int (by decide +kernel) (pa_cons (pe_cl c_law_mixed hr (by omega) rfl (pa_cons (pv 2) (pa_cons (pe_ix at_seq (pv 0) pe_int (fun _ _ => rfl)) (pa_cons (pe_ix at_seq (pv 0) pe_int (fun _ _ => rfl)) pa_nil)))) pa_nil)) (pv 1))))) pss_nil)
      (pss_one (ps_asg (pv 2) (pg_sub (pv 0) pe_int put_list)))))) pss_nil)
      (pss_cons (ps_set (i := 3) sc_law_take.nd rfl (.inl rfl) (pe_op op_mod (pe_callTy call_intI (by rfl) B.int (by decide +kernel) (pa_cons (pe_ix at_seq (pv 0) pe_int (fun _ _ => rfl)) pa_nil)) (pv 1)))
      (pss_cons (ps_asg (pe_op op_fdivW (pe_ix at_seq (pv 0) pe_int (fun _ _ => rfl)) (pv 1)) (pg_sub (pv 0) pe_int put_list))
      (pss_one (ps_ret (pv 3))))))), ?_⟩
    rw [show L2.start N_law_take [.ref S.a, .int many] = [some (.ref S.a), some (.int many), none, none] from rfl]
    obtain ⟨i, x, y, z, h1, hi⟩ := st.ex
    have h2' : seqAt (H S.c) = some (S.cells.map V.int) := by rw [st.cel] <;> rfl
    simp only [tSeq, tNext, tDrop, tRet, tRetN, tIfS, tAsg, gName, tAug, ipI, tVar, tC, tOp, tUn, rI, rI0, rU, tCons, tNil, tCB, tTup, tLst, tTest, tB, tAnd, tOr, tNot, tAndV, tOrV, tNotV, tIf, tCl, tCd, tCk, gSub, rPutL, rAtQ, rIntI, rLenQ, rLenS, rListQ, rTupL, rTupQ, rIsQ_c, kd_non, kd_bl, kd_int, kd_str, kd_ref, kdO_lst, kdO_tup, kit_NoneType_bool, kit_NoneType_int, kit_NoneType_str, kit_NoneType_list, kit_NoneType_tuple, kit_bool_bool, kit_bool_int, kit_bool_str, kit_bool_list, kit_bool_tuple, kit_int_bool, kit_int_int, kit_int_str, kit_int_list, kit_int_tuple, kit_str_bool, kit_str_int, kit_str_str, kit_str_list, kit_str_tuple, kit_list_bool, kit_list_int, kit_list_str, kit_list_list, kit_list_tuple, kit_tuple_bool, kit_tuple_int, kit_tuple_str, kit_tuple_list, kit_tuple_tuple, V.ty.injEq, rSortQ, rSlQ, rMulS, tJn, rAtX, rSlS, tSl, tPart, tNoPart, cut_lo2, cut_hi2, rInQ, gLq, gTq, gC_c, gNil, tChain, List.cons_append, List.nil_append, tBL, tBL0, tBad, tCr, tCe, tXF, cxH_K, HO.xd.injEq, rApp, rPopN, rRevL, seqAt_lst, seqAt_tup, at_0, at_1, at_2, at_3, at_4, ix_0, ix_1, ix_2, ix_3, ix_4, cx_K, upd_same, List.length_cons, List.length_nil, Nat.reduceAdd,  rEq, rNe, tRevL, V.int.injEq, V.bl.injEq, V.str.injEq, V.ref.injEq, List.cons.injEq, and_true, true_and, exists_and_left, exists_and_right, exists_eq_left, exists_eq_left', exists_eq_right, exists_eq_right', exists_const, Option.some.injEq, List.getElem?_cons_zero, List.getElem?_cons_succ, List.set_cons_zero, List.set_cons_succ, decide_eq_true_eq, decide_true, decide_false,  scal_ii, scal_bb, scal_ss, cmul_r, cdiv_l, cpow_12, cpow_18, cpow_40, HO.lst.injEq, HO.tup.injEq, upd_upd, Int.reduceToNat,  decide_not, Bool.not_eq_true', decide_eq_false_iff_not, if_true, if_false, Bool.false_eq_true, Bool.true_eq_false, reduceCtorEq, Int.reduceNeg, Nat.reduceLT, Int.reduceLT, Int.reducePow, gt_iff_lt, h1, h2', List.length_map]
    have fin : ∀ (i' : Nat) (x' y' d : Int), i' ≤ S.cells.length → Digit many d → Q (.int d) (upd H S.a (.lst [.ref S.c, .int i', .int x', .int y', .int z])) := fun i' x' y' d h3 h4 =>
      q d _ ⟨(But.refl H).at (.inl rfl), ⟨⟨i', x', y', z, upd_same, h3⟩, by rw [upd_ne st.ne]; exact st.cel, st.ne, st.few⟩⟩ h4
    have dg : ∀ n : Int, 2 ≤ many → Digit many (n % many) := fun n h => ⟨Int.emod_nonneg _ (by omega), .inl (Int.emod_lt_of_pos _ (by omega))⟩
    split
    · exact q 0 H ⟨But.refl H, st⟩ ⟨by omega, .inr rfl⟩
    have e2 : 2 ≤ many := by omega
    split
    case isFalse => exact ⟨by omega, cdiv_ok (by omega) hm, fin i _ y _ hi (dg _ e2)⟩
    split
    · have e5 : i < S.cells.length := by omega
      refine ⟨_, atI_nat (v := .int S.cells[i]) (by rw [List.getElem?_map, List.getElem?_eq_getElem e5] <;> rfl), ?_⟩
      simp only [tSeq, tNext, tDrop, tRet, tRetN, tIfS, tAsg, gName, tAug, ipI, tVar, tC, tOp, tUn, rI, rI0, rU, tCons, tNil, tCB, tTup, tLst, tTest, tB, tAnd, tOr, tNot, tAndV, tOrV, tNotV, tIf, tCl, tCd, tCk, gSub, rPutL, rAtQ, rIntI, rLenQ, rLenS, rListQ, rTupL, rTupQ, rIsQ_c, kd_non, kd_bl, kd_int, kd_str, kd_ref, kdO_lst, kdO_tup, kit_NoneType_bool, kit_NoneType_int, kit_NoneType_str, kit_NoneType_list, kit_NoneType_tuple, kit_bool_bool, kit_bool_int, kit_bool_str, kit_bool_list, kit_bool_tuple, kit_int_bool, kit_int_int, kit_int_str, kit_int_list, kit_int_tuple, kit_str_bool, kit_str_int, kit_str_str, kit_str_list, kit_str_tuple, kit_list_bool, kit_list_int, kit_list_str, kit_list_list, kit_list_tuple, kit_tuple_bool, kit_tuple_int, kit_tuple_str, kit_tuple_list, kit_tuple_tuple, V.ty.injEq, rSortQ, rSlQ, rMulS, tJn, rAtX, rSlS, tSl, tPart, tNoPart, cut_lo2, cut_hi2, rInQ, gLq, gTq, gC_c, gNil, tChain, List.cons_append, List.nil_append, tBL, tBL0, tBad, tCr, tCe, tXF, cxH_K, HO.xd.injEq, rApp, rPopN, rRevL, seqAt_lst, seqAt_tup, at_0, at_1, at_2, at_3, at_4, ix_0, ix_1, ix_2, ix_3, ix_4, cx_K, upd_same, List.length_cons, List.length_nil, Nat.reduceAdd,  rEq, rNe, tRevL, V.int.injEq, V.bl.injEq, V.str.injEq, V.ref.injEq, List.cons.injEq, and_true, true_and, exists_and_left, exists_and_right, exists_eq_left, exists_eq_left', exists_eq_right, exists_eq_right', exists_const, Option.some.injEq, List.getElem?_cons_zero, List.getElem?_cons_succ, List.set_cons_zero, List.set_cons_succ, decide_eq_true_eq, decide_true, decide_false,  scal_ii, scal_bb, scal_ss, cmul_r, cdiv_l, cpow_12, cpow_18, cpow_40, HO.lst.injEq, HO.tup.injEq, upd_upd, Int.reduceToNat,  decide_not, Bool.not_eq_true', decide_eq_false_iff_not, if_true, if_false, Bool.false_eq_true, Bool.true_eq_false, reduceCtorEq, Int.reduceNeg, Nat.reduceLT, Int.reduceLT, Int.reducePow, gt_iff_lt]
      split
      · exact ⟨_, _, _, rfl, fun r => ⟨r, rfl, by omega, fin (i + 1) _ _ _ (by omega) (dg _ e2)⟩⟩
      · exact ⟨by omega, cdiv_ok (by omega) hm, fin (i + 1) _ _ _ (by omega) (dg _ e2)⟩
    · exact ⟨_, _, _, rfl, fun r => ⟨r, rfl, by omega, fin i _ _ _ hi (dg _ e2)⟩⟩
abbrev s_law_number : Stmt := topS 49
abbrev N_law_number : List Str := ["store", "low", "high", "kind"]
theorem sc_law_number : FnScope N_law_number ["store", "low", "high"] (defScope s_law_number) := ⟨rfl, rfl, rfl, by decide +kernel, rfl, by decide +kernel, by decide +kernel⟩
theorem b_law_number : BindO "_law_number" s_law_number ["store", "low", "high"] := fun _ _ _ _ _ _ us hl => match us, hl with | [_, _, _], _ => rfl

/-- a number from low on up to high, low where there is none -/
def Between (low high d : Int) : Prop := low ≤ d ∧ (d ≤ high ∨ d = low)
def sp_number : Sp := fun vs H Q _ => ∃ (S : Sto) (low high : Int), vs = [.ref S.a, .int low, .int high] ∧ Store S H ∧ high - low < 2 ^ 62 ∧ ∀ (d : Int) (H' : Hp), Drew S H H' → Between low high d → Q (.int d) H'
theorem ok_number (D : Dn K mg "_law_number" s_law_number) (c_law_take : Cl P w K mg base 2 "_law_take" sp_take) : Cl P w K mg base 3 "_law_number" sp_number := by
  refine cl_of D sc_law_number b_law_number (fun vs H Q E h => ?_) (fun f cdv A outer s H vs Q E hr h => ?_)
  · obtain ⟨S, l, h, rfl, _⟩ := h
    rfl
  · obtain ⟨S, low, high, rfl, st, hm, q⟩ := h
    refine ⟨_, (pss_cons (ps_set (i := 3) sc_law_number.nd rfl (.inl rfl) (pe_cl c_law_take hr (by omega) rfl (pa_cons (pv 0) (pa_cons pe_int pa_nil))))
      (pss_cons (ps_if (PW.pt (pw_or (pt_cmpR op_le (pv 2) (pv 1) (nomark _)) (pw_or1 (pt_cmpR op_eq (pv 3) pe_int (nomark _))))) (pss_one (ps_ret (pv 1))) pss_nil)
      (pss_cons (ps_if (pt_cmpR op_eq (pv 3) pe_int (nomark _)) (pss_one (ps_ret (pv 2))) pss_nil)
      (pss_one (ps_ret (pe_op op_add (pv 1) (pe_cl c_law_take hr (by omega) rfl (pa_cons (pv 0) (pa_cons (pe_op op_add (pe_op op_sub (pv 2) (pv 1)) pe_int) pa_nil))))))))), ?_⟩
    rw [show L2.start N_law_number [.ref S.a, .int low, .int high] = [some (.ref S.a), some (.int low), some (.int high), none] from rfl]
    simp only [tSeq, tNext, tDrop, tRet, tRetN, tIfS, tAsg, gName, tAug, ipI, tVar, tC, tOp, tUn, rI, rI0, rU, tCons, tNil, tCB, tTup, tLst, tTest, tB, tAnd, tOr, tNot, tAndV, tOrV, tNotV, tIf, tCl, tCd, tCk, gSub, rPutL, rAtQ, rIntI, rLenQ, rLenS, rListQ, rTupL, rTupQ, rIsQ_c, kd_non, kd_bl, kd_int, kd_str, kd_ref, kdO_lst, kdO_tup, kit_NoneType_bool, kit_NoneType_int, kit_NoneType_str, kit_NoneType_list, kit_NoneType_tuple, kit_bool_bool, kit_bool_int, kit_bool_str, kit_bool_list, kit_bool_tuple, kit_int_bool, kit_int_int, kit_int_str, kit_int_list, kit_int_tuple, kit_str_bool, kit_str_int, kit_str_str, kit_str_list, kit_str_tuple, kit_list_bool, kit_list_int, kit_list_str, kit_list_list, kit_list_tuple, kit_tuple_bool, kit_tuple_int, kit_tuple_str, kit_tuple_list, kit_tuple_tuple, V.ty.injEq, rSortQ, rSlQ, rMulS, tJn, rAtX, rSlS, tSl, tPart, tNoPart, cut_lo2, cut_hi2, rInQ, gLq, gTq, gC_c, gNil, tChain, List.cons_append, List.nil_append, tBL, tBL0, tBad, tCr, tCe, tXF, cxH_K, HO.xd.injEq, rApp, rPopN, rRevL, seqAt_lst, seqAt_tup, at_0, at_1, at_2, at_3, at_4, ix_0, ix_1, ix_2, ix_3, ix_4, cx_K, upd_same, List.length_cons, List.length_nil, Nat.reduceAdd,  rEq, rNe, tRevL, V.int.injEq, V.bl.injEq, V.str.injEq, V.ref.injEq, List.cons.injEq, and_true, true_and, exists_and_left, exists_and_right, exists_eq_left, exists_eq_left', exists_eq_right, exists_eq_right', exists_const, Option.some.injEq, List.getElem?_cons_zero, List.getElem?_cons_succ, List.set_cons_zero, List.set_cons_succ, decide_eq_true_eq, decide_true, decide_false,  scal_ii, scal_bb, scal_ss, cmul_r, cdiv_l, cpow_12, cpow_18, cpow_40, HO.lst.injEq, HO.tup.injEq, upd_upd, Int.reduceToNat,  decide_not, Bool.not_eq_true', decide_eq_false_iff_not, if_true, if_false, Bool.false_eq_true, Bool.true_eq_false, reduceCtorEq, Int.reduceNeg, Nat.reduceLT, Int.reduceLT, Int.reducePow, gt_iff_lt]
    refine ⟨_, _, rfl, st, by decide, fun d H1 r1 g1 => ?_⟩
    simp only [tSeq, tNext, tDrop, tRet, tRetN, tIfS, tAsg, gName, tAug, ipI, tVar, tC, tOp, tUn, rI, rI0, rU, tCons, tNil, tCB, tTup, tLst, tTest, tB, tAnd, tOr, tNot, tAndV, tOrV, tNotV, tIf, tCl, tCd, tCk, gSub, rPutL, rAtQ, rIntI, rLenQ, rLenS, rListQ, rTupL, rTupQ, rIsQ_c, kd_non, kd_bl, kd_int, kd_str, kd_ref, kdO_lst, kdO_tup, kit_NoneType_bool, kit_NoneType_int, kit_NoneType_str, kit_NoneType_list, kit_NoneType_tuple, kit_bool_bool, kit_bool_int, kit_bool_str, kit_bool_list, kit_bool_tuple, kit_int_bool, kit_int_int, kit_int_str, kit_int_list, kit_int_tuple, kit_str_bool, kit_str_int, kit_str_str, kit_str_list, kit_str_tuple, kit_list_bool, kit_list_int, kit_list_str, kit_list_list, kit_list_tuple, kit_tuple_bool, kit_tuple_int, kit_tuple_str, kit_tuple_list, kit_tuple_tuple, V.ty.injEq, rSortQ, rSlQ, rMulS, tJn, rAtX, rSlS, tSl, tPart, tNoPart, cut_lo2, cut_hi2, rInQ, gLq, gTq, gC_c, gNil, tChain, List.cons_append, List.nil_append, tBL, tBL0, tBad, tCr, tCe, tXF, cxH_K, HO.xd.injEq, rApp, rPopN, rRevL, seqAt_lst, seqAt_tup, at_0, at_1, at_2, at_3, at_4, ix_0, ix_1, ix_2, ix_3, ix_4, cx_K, upd_same, List.length_cons, List.length_nil, Nat.reduceAdd,  rEq, rNe, tRevL, V.int.injEq, V.bl.injEq, V.str.injEq, V.ref.injEq, List.cons.injEq, and_true, true_and, exists_and_left, exists_and_right, exists_eq_left, exists_eq_left', exists_eq_right, exists_eq_right', exists_const, Option.some.injEq, List.getElem?_cons_zero, List.getElem?_cons_succ, List.set_cons_zero, List.set_cons_succ, decide_eq_true_eq, decide_true, decide_false,  scal_ii, scal_bb, scal_ss, cmul_r, cdiv_l, cpow_12, cpow_18, cpow_40, HO.lst.injEq, HO.tup.injEq, upd_upd, Int.reduceToNat,  decide_not, Bool.not_eq_true', decide_eq_false_iff_not, if_true, if_false, Bool.false_eq_true, Bool.true_eq_false, reduceCtorEq, Int.reduceNeg, Nat.reduceLT, Int.reduceLT, Int.reducePow, gt_iff_lt]
    split
    · exact q _ _ r1 ⟨by omega, .inr rfl⟩
    split
    · exact q _ _ r1 ⟨by omega, .inr rfl⟩
    split
    · exact q _ _ r1 ⟨by omega, .inl (by omega)⟩
    · exact ⟨_, _, rfl, r1.st, by omega, fun d2 H2 r2 g2 => ⟨d2, rfl, q _ _ (r1.trans r2) ⟨by have := g2.1; omega, .inl (by have := g2.2; omega)⟩⟩⟩
def sp_any : Sp := fun vs H Q _ => ∃ S : Sto, vs = [.ref S.a] ∧ Store S H ∧ ∀ (d : Int) (H' : Hp), Drew S H H' → Q (.int d) H'
abbrev s_law_row : Stmt := topS 54
abbrev N_law_row : List Str := ["store", "some"]
theorem sc_law_row : FnScope N_law_row ["store", "some"] (defScope s_law_row) := ⟨rfl, rfl, rfl, by decide +kernel, rfl, by decide +kernel, by decide +kernel⟩
theorem b_law_row : BindO "_law_row" s_law_row ["store", "some"] := fun _ _ _ _ _ _ us hl => match us, hl with | [_, _], _ => rfl

/-- a new list, or a new tuple, of the items -/
def sp_row : Sp := fun vs H Q _ => ∃ (S : Sto) (b : Addr) (xs : List V), vs = [.ref S.a, .ref b] ∧ Store S H ∧ H b = some (.lst xs) ∧ b ≠ S.a ∧ ∀ (p : Addr) (H' : Hp), Drew S H H' → H p = none → seqAt (H' p) = some xs → Q (.ref p) H'
theorem ok_row (D : Dn K mg "_law_row" s_law_row) (B : Blt mg) (c_law_take : Cl P w K mg base 2 "_law_take" sp_take) : Cl P w K mg base 3 "_law_row" sp_row := by
  refine cl_of D sc_law_row b_law_row (fun vs H Q E h => ?_) (fun f cdv A outer s H vs Q E hr h => ?_)
  · obtain ⟨S, b, xs, rfl, _⟩ := h
    rfl
  · obtain ⟨S, b, xs, rfl, st, hb, hn, q⟩ := h
    refine ⟨_, (pss_cons (ps_if (pt_cmpR op_eq (pe_cl c_law_take hr (by omega) rfl (pa_cons (pv 0) (pa_cons pe_int pa_nil))) pe_int (nomark _)) (pss_one (ps_ret (pe_callTy call_listQ (by rfl) B.list (by decide +kernel) (pa_cons (pv 1) pa_nil)))) pss_nil)
      (pss_one (ps_ret (pe_callTy call_tupL (by rfl) B.tuple (by decide +kernel) (pa_cons (pv 1) pa_nil))))), ?_⟩
    rw [show L2.start N_law_row [.ref S.a, .ref b] = [some (.ref S.a), some (.ref b)] from rfl]
    simp only [tSeq, tNext, tDrop, tRet, tRetN, tIfS, tAsg, gName, tAug, ipI, tVar, tC, tOp, tUn, rI, rI0, rU, tCons, tNil, tCB, tTup, tLst, tTest, tB, tAnd, tOr, tNot, tAndV, tOrV, tNotV, tIf, tCl, tCd, tCk, gSub, rPutL, rAtQ, rIntI, rLenQ, rLenS, rListQ, rTupL, rTupQ, rIsQ_c, kd_non, kd_bl, kd_int, kd_str, kd_ref, kdO_lst, kdO_tup, kit_NoneType_bool, kit_NoneType_int, kit_NoneType_str, kit_NoneType_list, kit_NoneType_tuple, kit_bool_bool, kit_bool_int, kit_bool_str, kit_bool_list, kit_bool_tuple, kit_int_bool, kit_int_int, kit_int_str, kit_int_list, kit_int_tuple, kit_str_bool, kit_str_int, kit_str_str, kit_str_list, kit_str_tuple, kit_list_bool, kit_list_int, kit_list_str, kit_list_list, kit_list_tuple, kit_tuple_bool, kit_tuple_int, kit_tuple_str, kit_tuple_list, kit_tuple_tuple, V.ty.injEq, rSortQ, rSlQ, rMulS, tJn, rAtX, rSlS, tSl, tPart, tNoPart, cut_lo2, cut_hi2, rInQ, gLq, gTq, gC_c, gNil, tChain, List.cons_append, List.nil_append, tBL, tBL0, tBad, tCr, tCe, tXF, cxH_K, HO.xd.injEq, rApp, rPopN, rRevL, seqAt_lst, seqAt_tup, at_0, at_1, at_2, at_3, at_4, ix_0, ix_1, ix_2, ix_3, ix_4, cx_K, upd_same, List.length_cons, List.length_nil, Nat.reduceAdd,  rEq, rNe, tRevL, V.int.injEq, V.bl.injEq, V.str.injEq, V.ref.injEq, List.cons.injEq, and_true, true_and, exists_and_left, exists_and_right, exists_eq_left, exists_eq_left', exists_eq_right, exists_eq_right', exists_const, Option.some.injEq, List.getElem?_cons_zero, List.getElem?_cons_succ, List.set_cons_zero, List.set_cons_succ, decide_eq_true_eq, decide_true, decide_false,  scal_ii, scal_bb, scal_ss, cmul_r, cdiv_l, cpow_12, cpow_18, cpow_40, HO.lst.injEq, HO.tup.injEq, upd_upd, Int.reduceToNat,  decide_not, Bool.not_eq_true', decide_eq_false_iff_not, if_true, if_false, Bool.false_eq_true, Bool.true_eq_false, reduceCtorEq, Int.reduceNeg, Nat.reduceLT, Int.reduceLT, Int.reducePow, gt_iff_lt]
    refine ⟨_, _, rfl, st, by decide, fun d H1 r1 g1 => ?_⟩
    have hb1 := r1.but b _ hn hb
    simp only [tSeq, tNext, tDrop, tRet, tRetN, tIfS, tAsg, gName, tAug, ipI, tVar, tC, tOp, tUn, rI, rI0, rU, tCons, tNil, tCB, tTup, tLst, tTest, tB, tAnd, tOr, tNot, tAndV, tOrV, tNotV, tIf, tCl, tCd, tCk, gSub, rPutL, rAtQ, rIntI, rLenQ, rLenS, rListQ, rTupL, rTupQ, rIsQ_c, kd_non, kd_bl, kd_int, kd_str, kd_ref, kdO_lst, kdO_tup, kit_NoneType_bool, kit_NoneType_int, kit_NoneType_str, kit_NoneType_list, kit_NoneType_tuple, kit_bool_bool, kit_bool_int, kit_bool_str, kit_bool_list, kit_bool_tuple, kit_int_bool, kit_int_int, kit_int_str, kit_int_list, kit_int_tuple, kit_str_bool, kit_str_int, kit_str_str, kit_str_list, kit_str_tuple, kit_list_bool, kit_list_int, kit_list_str, kit_list_list, kit_list_tuple, kit_tuple_bool, kit_tuple_int, kit_tuple_str, kit_tuple_list, kit_tuple_tuple, V.ty.injEq, rSortQ, rSlQ, rMulS, tJn, rAtX, rSlS, tSl, tPart, tNoPart, cut_lo2, cut_hi2, rInQ, gLq, gTq, gC_c, gNil, tChain, List.cons_append, List.nil_append, tBL, tBL0, tBad, tCr, tCe, tXF, cxH_K, HO.xd.injEq, rApp, rPopN, rRevL, seqAt_lst, seqAt_tup, at_0, at_1, at_2, at_3, at_4, ix_0, ix_1, ix_2, ix_3, ix_4, cx_K, upd_same, List.length_cons, List.length_nil, Nat.reduceAdd,  rEq, rNe, tRevL, V.int.injEq, V.bl.injEq, V.str.injEq, V.ref.injEq, List.cons.injEq, and_true, true_and, exists_and_left, exists_and_right, exists_eq_left, exists_eq_left', exists_eq_right, exists_eq_right', exists_const, Option.some.injEq, List.getElem?_cons_zero, List.getElem?_cons_succ, List.set_cons_zero, List.set_cons_succ, decide_eq_true_eq, decide_true, decide_false,  scal_ii, scal_bb, scal_ss, cmul_r, cdiv_l, cpow_12, cpow_18, cpow_40, HO.lst.injEq, HO.tup.injEq, upd_upd, Int.reduceToNat,  decide_not, Bool.not_eq_true', decide_eq_false_iff_not, if_true, if_false, Bool.false_eq_true, Bool.true_eq_false, reduceCtorEq, Int.reduceNeg, Nat.reduceLT, Int.reduceLT, Int.reducePow, gt_iff_lt, hb1]
    split
    · exact fun l hl => q l _ (r1.new hl) (r1.back hl) (by rw [upd_same] <;> rfl)
    · exact fun l hl => q l _ (r1.new hl) (r1.back hl) (by rw [upd_same] <;> rfl)
end
end Z

set_option Elab.async false
set_option linter.all false
set_option maxRecDepth 100000
set_option maxHeartbeats 4000000
namespace Z
open PySem PySem.Spec PyProof.Rows L2
section
variable {P : Program} {w : World} {K : PySem.W.Frag} {mg : Str → Option Value} {base : Heap}
theorem at_in {α : Type} {xs : List α} {d : Int} (h0 : 0 ≤ d) (h1 : d < xs.length) : ∃ y, xs[d.toNat]? = some y ∧ d.toNat < xs.length := ⟨xs[d.toNat]'(by omega), List.getElem?_eq_getElem (by omega), by omega⟩
theorem perm_erase {α : Type} {y : α} : ∀ {L : List α} {k : Nat}, L[k]? = some y → (y :: L.eraseIdx k).Perm L
  | [], k, h => by simp at h
  | x :: L, 0, h => by
    obtain rfl : x = y := Option.some.inj h
    exact List.Perm.refl _
  | x :: L, k + 1, h => (List.Perm.swap x y _).trans ((perm_erase (L := L) (k := k) h).cons x)
theorem perm_move {α : Type} {xs M L : List α} {k : Nat} {y : α} (h : (M ++ L).Perm xs) (e : L[k]? = some y) : ((M ++ [y]) ++ L.eraseIdx k).Perm xs := by
  refine List.Perm.trans ?_ h
  rw [List.append_assoc]
  exact List.Perm.append_left M (perm_erase e)
abbrev s_law_shuffled : Stmt := topS 52
abbrev N_law_shuffled : List Str := ["store", "some", "kind", "left", "made", "k"]
theorem sc_law_shuffled : FnScope N_law_shuffled ["store", "some"] (defScope s_law_shuffled) := ⟨rfl, rfl, rfl, by decide +kernel, rfl, by decide +kernel, by decide +kernel⟩
theorem b_law_shuffled : BindO "_law_shuffled" s_law_shuffled ["store", "some"] := fun _ _ _ _ _ _ us hl => match us, hl with | [_, _], _ => rfl

/-- a new list of the items in some order -/
def sp_shuffled : Sp := fun vs H Q _ => ∃ (S : Sto) (b : Addr) (xs : List V), vs = [.ref S.a, .ref b] ∧ Store S H ∧ seqAt (H b) = some xs ∧ b ≠ S.a ∧ xs.length ≤ 1000 ∧
  ∀ (p : Addr) (ys : List V) (H' : Hp), Drew S H H' → H p = none → H' p = some (.lst ys) → ys.Perm xs → Q (.ref p) H'
theorem ok_shuffled (D : Dn K mg "_law_shuffled" s_law_shuffled) (B : Blt mg) (c_law_take : Cl P w K mg base 2 "_law_take" sp_take) : Cl P w K mg base 3 "_law_shuffled" sp_shuffled := by
  refine cl_of D sc_law_shuffled b_law_shuffled (fun vs H Q E h => ?_) (fun f cdv A outer s H vs Q E hr h => ?_)
  · obtain ⟨S, b, xs, rfl, _⟩ := h
    rfl
  · obtain ⟨S, b, xs, rfl, st, hb, hn, hz, q⟩ := h
    refine ⟨_, (pss_cons (ps_set (i := 2) sc_law_shuffled.nd rfl (.inl rfl) (pe_cl c_law_take hr (by omega) rfl (pa_cons (pv 0) (pa_cons pe_int pa_nil))))
      (pss_cons (ps_if (pt_cmpR op_eq (pv 2) pe_int (nomark _)) (pss_one (ps_ret (pe_callTy call_listQ (by rfl) B.list (by decide +kernel) (pa_cons (pv 1) pa_nil)))) pss_nil)
      (pss_cons (ps_if (pt_cmpR op_eq (pv 2) pe_int (nomark _)) (pss_one (ps_ret (pe_revL (pe_callTy call_listQ (by rfl) B.list (by decide +kernel) (pa_cons (pv 1) pa_nil))))) pss_nil)
      (pss_cons (ps_set (i := 3) sc_law_shuffled.nd rfl (.inl rfl) (pe_callTy call_listQ (by rfl) B.list (by decide +kernel) (pa_cons (pv 1) pa_nil)))
      (pss_cons (ps_set (i := 4) sc_law_shuffled.nd rfl (.inl rfl) (pe_lst pa_nil))
      (pss_cons (ps_for PassesOwn.never rfl (pi_range1 (by rfl) B.range (pa_cons (pe_callB call_lenQ (by rfl) B.len PySem.boot_len (pa_cons (pv 1) pa_nil)) pa_nil)) (pg_name (i := 5) sc_law_shuffled.nd rfl (.inl rfl)) (pss_one (ps_expr (pe_ml PySem.F.slot_list_append PySem.F.type_list_append mt_app (pv 4) (pa_cons (pe_ml PySem.F.slot_list_pop PySem.F.type_list_pop mt_popN (pv 3) (pa_cons (pe_cl c_law_take hr (by omega) rfl (pa_cons (pv 0) (pa_cons (pe_callB call_lenQ (by rfl) B.len PySem.boot_len (pa_cons (pv 3) pa_nil)) pa_nil))) pa_nil)) pa_nil)))))
      (pss_one (ps_ret (pv 4))))))))), ?_⟩
    rw [show L2.start N_law_shuffled [.ref S.a, .ref b] = [some (.ref S.a), some (.ref b), none, none, none, none] from rfl]
    simp only [tSeq, tNext, tDrop, tRet, tRetN, tIfS, tAsg, gName, tAug, ipI, tVar, tC, tOp, tUn, rI, rI0, rU, tCons, tNil, tCB, tTup, tLst, tTest, tB, tAnd, tOr, tNot, tAndV, tOrV, tNotV, tIf, tCl, tCd, tCk, gSub, rPutL, rAtQ, rIntI, rLenQ, rLenS, rListQ, rTupL, rTupQ, rIsQ_c, kd_non, kd_bl, kd_int, kd_str, kd_ref, kdO_lst, kdO_tup, kit_NoneType_bool, kit_NoneType_int, kit_NoneType_str, kit_NoneType_list, kit_NoneType_tuple, kit_bool_bool, kit_bool_int, kit_bool_str, kit_bool_list, kit_bool_tuple, kit_int_bool, kit_int_int, kit_int_str, kit_int_list, kit_int_tuple, kit_str_bool, kit_str_int, kit_str_str, kit_str_list, kit_str_tuple, kit_list_bool, kit_list_int, kit_list_str, kit_list_list, kit_list_tuple, kit_tuple_bool, kit_tuple_int, kit_tuple_str, kit_tuple_list, kit_tuple_tuple, V.ty.injEq, rSortQ, rSlQ, rMulS, tJn, rAtX, rSlS, tSl, tPart, tNoPart, cut_lo2, cut_hi2, rInQ, gLq, gTq, gC_c, gNil, tChain, List.cons_append, List.nil_append, tBL, tBL0, tBad, tCr, tCe, tXF, cxH_K, HO.xd.injEq, rApp, rPopN, rRevL, seqAt_lst, seqAt_tup, at_0, at_1, at_2, at_3, at_4, ix_0, ix_1, ix_2, ix_3, ix_4, cx_K, upd_same, List.length_cons, List.length_nil, Nat.reduceAdd,  rEq, rNe, tRevL, V.int.injEq, V.bl.injEq, V.str.injEq, V.ref.injEq, List.cons.injEq, and_true, true_and, exists_and_left, exists_and_right, exists_eq_left, exists_eq_left', exists_eq_right, exists_eq_right', exists_const, Option.some.injEq, List.getElem?_cons_zero, List.getElem?_cons_succ, List.set_cons_zero, List.set_cons_succ, decide_eq_true_eq, decide_true, decide_false,  scal_ii, scal_bb, scal_ss, cmul_r, cdiv_l, cpow_12, cpow_18, cpow_40, HO.lst.injEq, HO.tup.injEq, upd_upd, Int.reduceToNat,  decide_not, Bool.not_eq_true', decide_eq_false_iff_not, if_true, if_false, Bool.false_eq_true, Bool.true_eq_false, reduceCtorEq, Int.reduceNeg, Nat.reduceLT, Int.reduceLT, Int.reducePow, gt_iff_lt]
    refine ⟨_, _, rfl, st, by decide, fun d H1 r1 g1 => ?_⟩
    have hb1 := r1.but.seqAt hn hb
    simp only [tSeq, tNext, tDrop, tRet, tRetN, tIfS, tAsg, gName, tAug, ipI, tVar, tC, tOp, tUn, rI, rI0, rU, tCons, tNil, tCB, tTup, tLst, tTest, tB, tAnd, tOr, tNot, tAndV, tOrV, tNotV, tIf, tCl, tCd, tCk, gSub, rPutL, rAtQ, rIntI, rLenQ, rLenS, rListQ, rTupL, rTupQ, rIsQ_c, kd_non, kd_bl, kd_int, kd_str, kd_ref, kdO_lst, kdO_tup, kit_NoneType_bool, kit_NoneType_int, kit_NoneType_str, kit_NoneType_list, kit_NoneType_tuple, kit_bool_bool, kit_bool_int, kit_bool_str, kit_bool_list, kit_bool_tuple, kit_int_bool, kit_int_int, kit_int_str, kit_int_list, kit_int_tuple, kit_str_bool, kit_str_int, kit_str_str, kit_str_list, kit_str_tuple, kit_list_bool, kit_list_int, kit_list_str, kit_list_list, kit_list_tuple, kit_tuple_bool, kit_tuple_int, kit_tuple_str, kit_tuple_list, kit_tuple_tuple, V.ty.injEq, rSortQ, rSlQ, rMulS, tJn, rAtX, rSlS, tSl, tPart, tNoPart, cut_lo2, cut_hi2, rInQ, gLq, gTq, gC_c, gNil, tChain, List.cons_append, List.nil_append, tBL, tBL0, tBad, tCr, tCe, tXF, cxH_K, HO.xd.injEq, rApp, rPopN, rRevL, seqAt_lst, seqAt_tup, at_0, at_1, at_2, at_3, at_4, ix_0, ix_1, ix_2, ix_3, ix_4, cx_K, upd_same, List.length_cons, List.length_nil, Nat.reduceAdd,  rEq, rNe, tRevL, V.int.injEq, V.bl.injEq, V.str.injEq, V.ref.injEq, List.cons.injEq, and_true, true_and, exists_and_left, exists_and_right, exists_eq_left, exists_eq_left', exists_eq_right, exists_eq_right', exists_const, Option.some.injEq, List.getElem?_cons_zero, List.getElem?_cons_succ, List.set_cons_zero, List.set_cons_succ, decide_eq_true_eq, decide_true, decide_false,  scal_ii, scal_bb, scal_ss, cmul_r, cdiv_l, cpow_12, cpow_18, cpow_40, HO.lst.injEq, HO.tup.injEq, upd_upd, Int.reduceToNat,  decide_not, Bool.not_eq_true', decide_eq_false_iff_not, if_true, if_false, Bool.false_eq_true, Bool.true_eq_false, reduceCtorEq, Int.reduceNeg, Nat.reduceLT, Int.reduceLT, Int.reducePow, gt_iff_lt, hb1]
    split
    · exact fun l hl => q l _ _ (r1.new hl) (r1.back hl) upd_same (List.Perm.refl _)
    split
    · intro l hl
      refine ⟨xs, SqL.of upd_same, fun p hp => ?_⟩
      exact q p _ _ ((r1.new hl).new hp) ((r1.new hl).back hp) upd_same (List.reverse_perm _)
    · intro l hl
      refine ⟨sz_of (by decide), fun m hm => ?_⟩
      have r2 := r1.new (o := .lst xs) hl
      have hl0 := r1.back hl
      have hm0 := r2.back hm
      have lm : l ≠ m := ne_of_none upd_same hm
      have la : l ≠ S.a := st.neA hl0
      have ma : m ≠ S.a := st.neA hm0
      obtain ⟨Pv, hP⟩ : ∃ Pv : Nat → L2.St → Hp → Prop, Pv = fun i σ' H' => ∃ (L M : List V) (k : Option V), σ' = [some (.ref S.a), some (.ref b), some (.int d), some (.ref l), some (.ref m), k] ∧ Drew S H H' ∧
        H' l = some (.lst L) ∧ H' m = some (.lst M) ∧ (M ++ L).Perm xs ∧ M.length = i := ⟨_, rfl⟩
      refine z_forR xs.length (fun Q q => ?_) (by omega) Pv ?h0 (fun i σ' H' hi hI => ?hs) (fun σ' H' hI => ?hd)
      · have hb2 := same_seq (same_new (o := .lst []) hm) (same_seq (same_new (o := .lst xs) hl) hb1)
        simp only [tSeq, tNext, tDrop, tRet, tRetN, tIfS, tAsg, gName, tAug, ipI, tVar, tC, tOp, tUn, rI, rI0, rU, tCons, tNil, tCB, tTup, tLst, tTest, tB, tAnd, tOr, tNot, tAndV, tOrV, tNotV, tIf, tCl, tCd, tCk, gSub, rPutL, rAtQ, rIntI, rLenQ, rLenS, rListQ, rTupL, rTupQ, rIsQ_c, kd_non, kd_bl, kd_int, kd_str, kd_ref, kdO_lst, kdO_tup, kit_NoneType_bool, kit_NoneType_int, kit_NoneType_str, kit_NoneType_list, kit_NoneType_tuple, kit_bool_bool, kit_bool_int, kit_bool_str, kit_bool_list, kit_bool_tuple, kit_int_bool, kit_int_int, kit_int_str, kit_int_list, kit_int_tuple, kit_str_bool, kit_str_int, kit_str_str, kit_str_list, kit_str_tuple, kit_list_bool, kit_list_int, kit_list_str, kit_list_list, kit_list_tuple, kit_tuple_bool, kit_tuple_int, kit_tuple_str, kit_tuple_list, kit_tuple_tuple, V.ty.injEq, rSortQ, rSlQ, rMulS, tJn, rAtX, rSlS, tSl, tPart, tNoPart, cut_lo2, cut_hi2, rInQ, gLq, gTq, gC_c, gNil, tChain, List.cons_append, List.nil_append, tBL, tBL0, tBad, tCr, tCe, tXF, cxH_K, HO.xd.injEq, rApp, rPopN, rRevL, seqAt_lst, seqAt_tup, at_0, at_1, at_2, at_3, at_4, ix_0, ix_1, ix_2, ix_3, ix_4, cx_K, upd_same, List.length_cons, List.length_nil, Nat.reduceAdd,  rEq, rNe, tRevL, V.int.injEq, V.bl.injEq, V.str.injEq, V.ref.injEq, List.cons.injEq, and_true, true_and, exists_and_left, exists_and_right, exists_eq_left, exists_eq_left', exists_eq_right, exists_eq_right', exists_const, Option.some.injEq, List.getElem?_cons_zero, List.getElem?_cons_succ, List.set_cons_zero, List.set_cons_succ, decide_eq_true_eq, decide_true, decide_false,  scal_ii, scal_bb, scal_ss, cmul_r, cdiv_l, cpow_12, cpow_18, cpow_40, HO.lst.injEq, HO.tup.injEq, upd_upd, Int.reduceToNat,  decide_not, Bool.not_eq_true', decide_eq_false_iff_not, if_true, if_false, Bool.false_eq_true, Bool.true_eq_false, reduceCtorEq, Int.reduceNeg, Nat.reduceLT, Int.reduceLT, Int.reducePow, gt_iff_lt, hb2]
        exact q
      case h0 =>
        rw [hP]
        exact ⟨xs, [], none, rfl, r2.new hm, by rw [upd_ne lm, upd_same], upd_same, List.Perm.refl _, rfl⟩
      case hs =>
        rw [hP] at hI
        obtain ⟨L, M, k, rfl, r2, hL, hM, hp, hi2⟩ := hI
        have hlen : M.length + L.length = xs.length := by
          rw [← hp.length_eq, List.length_append]
        have hL' : seqAt (H' l) = some L := by rw [hL] <;> rfl
        simp only [tSeq, tNext, tDrop, tRet, tRetN, tIfS, tAsg, gName, tAug, ipI, tVar, tC, tOp, tUn, rI, rI0, rU, tCons, tNil, tCB, tTup, tLst, tTest, tB, tAnd, tOr, tNot, tAndV, tOrV, tNotV, tIf, tCl, tCd, tCk, gSub, rPutL, rAtQ, rIntI, rLenQ, rLenS, rListQ, rTupL, rTupQ, rIsQ_c, kd_non, kd_bl, kd_int, kd_str, kd_ref, kdO_lst, kdO_tup, kit_NoneType_bool, kit_NoneType_int, kit_NoneType_str, kit_NoneType_list, kit_NoneType_tuple, kit_bool_bool, kit_bool_int, kit_bool_str, kit_bool_list, kit_bool_tuple, kit_int_bool, kit_int_int, kit_int_str, kit_int_list, kit_int_tuple, kit_str_bool, kit_str_int, kit_str_str, kit_str_list, kit_str_tuple, kit_list_bool, kit_list_int, kit_list_str, kit_list_list, kit_list_tuple, kit_tuple_bool, kit_tuple_int, kit_tuple_str, kit_tuple_list, kit_tuple_tuple, V.ty.injEq, rSortQ, rSlQ, rMulS, tJn, rAtX, rSlS, tSl, tPart, tNoPart, cut_lo2, cut_hi2, rInQ, gLq, gTq, gC_c, gNil, tChain, List.cons_append, List.nil_append, tBL, tBL0, tBad, tCr, tCe, tXF, cxH_K, HO.xd.injEq, rApp, rPopN, rRevL, seqAt_lst, seqAt_tup, at_0, at_1, at_2, at_3, at_4, ix_0, ix_1, ix_2, ix_3, ix_4, cx_K, upd_same, List.length_cons, List.length_nil, Nat.reduceAdd,  rEq, rNe, tRevL, V.int.injEq, V.bl.injEq, V.str.injEq, V.ref.injEq, List.cons.injEq, and_true, true_and, exists_and_left, exists_and_right, exists_eq_left, exists_eq_left', exists_eq_right, exists_eq_right', exists_const, Option.some.injEq, List.getElem?_cons_zero, List.getElem?_cons_succ, List.set_cons_zero, List.set_cons_succ, decide_eq_true_eq, decide_true, decide_false,  scal_ii, scal_bb, scal_ss, cmul_r, cdiv_l, cpow_12, cpow_18, cpow_40, HO.lst.injEq, HO.tup.injEq, upd_upd, Int.reduceToNat,  decide_not, Bool.not_eq_true', decide_eq_false_iff_not, if_true, if_false, Bool.false_eq_true, Bool.true_eq_false, reduceCtorEq, Int.reduceNeg, Nat.reduceLT, Int.reduceLT, Int.reducePow, gt_iff_lt, hL, hM, hL']
        refine ⟨⟨_, rfl⟩, ⟨_, rfl⟩, _, _, rfl, r2.st, by omega, fun d2 H3 r3 g3 => ?_⟩
        have hL3 := r3.but l _ la hL
        have hM3 := r3.but m _ ma hM
        obtain ⟨y, hy, hk⟩ := at_in (xs := L) g3.1 (by have := g3.2; omega)
        simp only [tSeq, tNext, tDrop, tRet, tRetN, tIfS, tAsg, gName, tAug, ipI, tVar, tC, tOp, tUn, rI, rI0, rU, tCons, tNil, tCB, tTup, tLst, tTest, tB, tAnd, tOr, tNot, tAndV, tOrV, tNotV, tIf, tCl, tCd, tCk, gSub, rPutL, rAtQ, rIntI, rLenQ, rLenS, rListQ, rTupL, rTupQ, rIsQ_c, kd_non, kd_bl, kd_int, kd_str, kd_ref, kdO_lst, kdO_tup, kit_NoneType_bool, kit_NoneType_int, kit_NoneType_str, kit_NoneType_list, kit_NoneType_tuple, kit_bool_bool, kit_bool_int, kit_bool_str, kit_bool_list, kit_bool_tuple, kit_int_bool, kit_int_int, kit_int_str, kit_int_list, kit_int_tuple, kit_str_bool, kit_str_int, kit_str_str, kit_str_list, kit_str_tuple, kit_list_bool, kit_list_int, kit_list_str, kit_list_list, kit_list_tuple, kit_tuple_bool, kit_tuple_int, kit_tuple_str, kit_tuple_list, kit_tuple_tuple, V.ty.injEq, rSortQ, rSlQ, rMulS, tJn, rAtX, rSlS, tSl, tPart, tNoPart, cut_lo2, cut_hi2, rInQ, gLq, gTq, gC_c, gNil, tChain, List.cons_append, List.nil_append, tBL, tBL0, tBad, tCr, tCe, tXF, cxH_K, HO.xd.injEq, rApp, rPopN, rRevL, seqAt_lst, seqAt_tup, at_0, at_1, at_2, at_3, at_4, ix_0, ix_1, ix_2, ix_3, ix_4, cx_K, upd_same, List.length_cons, List.length_nil, Nat.reduceAdd,  rEq, rNe, tRevL, V.int.injEq, V.bl.injEq, V.str.injEq, V.ref.injEq, List.cons.injEq, and_true, true_and, exists_and_left, exists_and_right, exists_eq_left, exists_eq_left', exists_eq_right, exists_eq_right', exists_const, Option.some.injEq, List.getElem?_cons_zero, List.getElem?_cons_succ, List.set_cons_zero, List.set_cons_succ, decide_eq_true_eq, decide_true, decide_false,  scal_ii, scal_bb, scal_ss, cmul_r, cdiv_l, cpow_12, cpow_18, cpow_40, HO.lst.injEq, HO.tup.injEq, upd_upd, Int.reduceToNat,  decide_not, Bool.not_eq_true', decide_eq_false_iff_not, if_true, if_false, Bool.false_eq_true, Bool.true_eq_false, reduceCtorEq, Int.reduceNeg, Nat.reduceLT, Int.reduceLT, Int.reducePow, gt_iff_lt, hL3, hM3, hy, upd_ne lm.symm]
        refine ⟨g3.1, by have := g3.2; omega, sz_lt (by omega), ?_⟩
        rw [hP]
        exact ⟨L.eraseIdx d2.toNat, M ++ [y], _, rfl, ((r2.trans r3).at st hl0).at st hm0, by rw [upd_ne lm, upd_same], upd_same, perm_move hp hy, by rw [List.length_append, hi2] <;> rfl⟩
      case hd =>
        rw [hP] at hI
        obtain ⟨L, M, k, rfl, r2, hL, hM, hp, hi2⟩ := hI
        have hlen : M.length + L.length = xs.length := by
          rw [← hp.length_eq, List.length_append]
        have e : L = [] := List.eq_nil_of_length_eq_zero (by omega)
        subst e
        simp only [tSeq, tNext, tDrop, tRet, tRetN, tIfS, tAsg, gName, tAug, ipI, tVar, tC, tOp, tUn, rI, rI0, rU, tCons, tNil, tCB, tTup, tLst, tTest, tB, tAnd, tOr, tNot, tAndV, tOrV, tNotV, tIf, tCl, tCd, tCk, gSub, rPutL, rAtQ, rIntI, rLenQ, rLenS, rListQ, rTupL, rTupQ, rIsQ_c, kd_non, kd_bl, kd_int, kd_str, kd_ref, kdO_lst, kdO_tup, kit_NoneType_bool, kit_NoneType_int, kit_NoneType_str, kit_NoneType_list, kit_NoneType_tuple, kit_bool_bool, kit_bool_int, kit_bool_str, kit_bool_list, kit_bool_tuple, kit_int_bool, kit_int_int, kit_int_str, kit_int_list, kit_int_tuple, kit_str_bool, kit_str_int, kit_str_str, kit_str_list, kit_str_tuple, kit_list_bool, kit_list_int, kit_list_str, kit_list_list, kit_list_tuple, kit_tuple_bool, kit_tuple_int, kit_tuple_str, kit_tuple_list, kit_tuple_tuple, V.ty.injEq, rSortQ, rSlQ, rMulS, tJn, rAtX, rSlS, tSl, tPart, tNoPart, cut_lo2, cut_hi2, rInQ, gLq, gTq, gC_c, gNil, tChain, List.cons_append, List.nil_append, tBL, tBL0, tBad, tCr, tCe, tXF, cxH_K, HO.xd.injEq, rApp, rPopN, rRevL, seqAt_lst, seqAt_tup, at_0, at_1, at_2, at_3, at_4, ix_0, ix_1, ix_2, ix_3, ix_4, cx_K, upd_same, List.length_cons, List.length_nil, Nat.reduceAdd,  rEq, rNe, tRevL, V.int.injEq, V.bl.injEq, V.str.injEq, V.ref.injEq, List.cons.injEq, and_true, true_and, exists_and_left, exists_and_right, exists_eq_left, exists_eq_left', exists_eq_right, exists_eq_right', exists_const, Option.some.injEq, List.getElem?_cons_zero, List.getElem?_cons_succ, List.set_cons_zero, List.set_cons_succ, decide_eq_true_eq, decide_true, decide_false,  scal_ii, scal_bb, scal_ss, cmul_r, cdiv_l, cpow_12, cpow_18, cpow_40, HO.lst.injEq, HO.tup.injEq, upd_upd, Int.reduceToNat,  decide_not, Bool.not_eq_true', decide_eq_false_iff_not, if_true, if_false, Bool.false_eq_true, Bool.true_eq_false, reduceCtorEq, Int.reduceNeg, Nat.reduceLT, Int.reduceLT, Int.reducePow, gt_iff_lt]
        rw [List.append_nil] at hp
        exact q m M H' r2 hm0 hM hp
end
end Z

set_option Elab.async false
set_option linter.all false
set_option maxRecDepth 100000
set_option maxHeartbeats 4000000
namespace Z
open PySem PySem.Spec PyProof.Rows L2
section
variable {P : Program} {w : World} {K : PySem.W.Frag} {mg : Str → Option Value} {base : Heap}
def sp_step : Sp := fun vs H Q _ => ∃ n at' by' : Int, vs = [.int n, .int at', .int by'] ∧ 0 < n ∧ Q (.int ((at' + by') % n)) H
def sp_in_span : Sp := fun vs H Q _ => ∃ n i a b : Int, vs = [.int n, .int i, .int a, .int b] ∧ 0 < n ∧ Q (.bl (decide ((i - a) % n ≤ (b - a) % n))) H
/-- the positions from a on around to b, as a list of its own -/
def spanL (n a b : Int) : List Int := (List.range ((b - a) % n + 1).toNat).map fun i : Nat => (a + (i : Int)) % n
def sp_span : Sp := fun vs H Q _ => ∃ n a b : Int, vs = [.int n, .int a, .int b] ∧ 0 < n ∧ n ≤ 1000 ∧ ∀ (p : Addr) (H' : Hp), Same H H' → H p = none → H' p = some (.lst ((spanL n a b).map V.int)) → Q (.ref p) H'
/-- do two pairs stand crosswise -/
def crossB (a b c d : Int) : Bool := if (c = min a b ∨ d = min a b) ∨ (c = max a b ∨ d = max a b) then false else decide ((min a b < c ∧ c < max a b)) != decide ((min a b < d ∧ d < max a b))
def sp_crossed : Sp := fun vs H Q _ => ∃ (p q : Addr) (a b c d : Int), vs = [.ref p, .ref q] ∧ seqAt (H p) = some [.int a, .int b] ∧ seqAt (H q) = some [.int c, .int d] ∧ ∀ H', Same H H' → Q (.bl (crossB a b c d)) H'
theorem inV_two {x a b : Int} : inV (.int x) [.int a, .int b] = decide (a = x ∨ b = x) := by
  show (eqV (.int a) (.int x) || (eqV (.int b) (.int x) || false)) = _
  by_cases h1 : a = x <;> by_cases h2 : b = x <;> simp [eqV, h1, h2]
theorem rise_of : ∀ {ns : List Int}, (∀ (j : Nat) (x y : Int), ns[j]? = some x → ns[j + 1]? = some y → x < y) → ns.Pairwise (· < ·)
  | [], _ => .nil
  | [x], _ => by simp
  | x :: y :: r, h => by
    have ih := rise_of (ns := y :: r) fun j a b ha hb => h (j + 1) a b ha hb
    have xy := h 0 x y rfl rfl
    refine List.pairwise_cons.mpr ⟨fun z hz => ?_, ih⟩
    rcases List.mem_cons.mp hz with e | hz
    · rw [e]
      exact xy
    · exact Int.lt_trans xy ((List.pairwise_cons.mp ih).1 z hz)
def sp_rises : Sp := fun vs H Q _ => ∃ (p : Addr) (ns : List Int), vs = [.ref p] ∧ seqAt (H p) = some (ns.map V.int) ∧ ns.length ≤ 1000 ∧ Q (.bl (decide (ns.Pairwise (· < ·)))) H
def sp_is_integer : Sp := fun vs H Q _ => ∃ i : Int, vs = [.int i] ∧ Q (.bl true) H
end
end Z

set_option Elab.async false
set_option linter.all false
set_option maxRecDepth 100000
set_option maxHeartbeats 4000000
namespace Z
open PySem PySem.Spec PyProof.Rows L2
section
variable {P : Program} {w : World} {K : PySem.W.Frag} {mg : Str → Option Value} {base : Heap}
abbrev s_law_same : Stmt := topS 55
abbrev N_law_same : List Str := ["actual", "expected", "k"]
theorem sc_law_same : FnScope N_law_same ["actual", "expected"] (defScope s_law_same) := ⟨rfl, rfl, rfl, by decide +kernel, rfl, by decide +kernel, by decide +kernel⟩
theorem b_law_same : BindO "_law_same" s_law_same ["actual", "expected"] := fun _ _ _ _ _ _ us hl => match us, hl with | [_, _], _ => rfl

/-- the same data twice: True -/
def sp_same (n : Nat) : Sp := fun vs H Q _ => ∃ (N : Addr → Prop) (u v : V) (d : Dt), vs = [u, v] ∧ Rp N H n u d ∧ Rp N H n v d ∧ Q (.bl true) H
theorem ok_same (D : Dn K mg "_law_same" s_law_same) (B : Blt mg) : ∀ n, Cl P w K mg base n "_law_same" (sp_same n)
  | 0 => cl_none D b_law_same fun vs H Q E ⟨_, _, _, _, _, z, _⟩ => z
  | n + 1 => by
    have c_law_same := ok_same D B n
    refine cl_of D sc_law_same b_law_same (fun vs H Q E h => ?_) (fun f cdv A outer s H vs Q E hr h => ?_)
    · obtain ⟨_, u, v, d, rfl, _⟩ := h
      rfl
    · obtain ⟨N, u, v, d, rfl, ru, rv, q⟩ := h
      refine ⟨_, (pss_cons (ps_if (pt_cmpR op_isN (pv 1) pe_non (nomark _)) (pss_one (ps_ret (pe_cmpR op_isN (pv 0) pe_non (nomark _)))) pss_nil)
      (pss_cons (ps_if (pt_val (pe_callB call_isQ (by rfl) B.isinstance (by decide +kernel) (pa_cons (pv 1) (pa_cons (pe_bltn (v := .ty "bool") (u := .type "bool") (by rfl) B.bool (by decide +kernel) rfl) pa_nil)))) (pss_one (ps_ret (pe_and (pe_callB call_isQ (by rfl) B.isinstance (by decide +kernel) (pa_cons (pv 0) (pa_cons (pe_bltn (v := .ty "bool") (u := .type "bool") (by rfl) B.bool (by decide +kernel) rfl) pa_nil))) (pe_one (pe_cmpR op_eq (pv 0) (pv 1) (nomark _)))))) pss_nil)
      (pss_cons (ps_if (pt_val (pe_callB call_isQ (by rfl) B.isinstance (by decide +kernel) (pa_cons (pv 1) (pa_cons (pe_bltn (v := .ty "int") (u := .type "int") (by rfl) B.int (by decide +kernel) rfl) pa_nil)))) (pss_one (ps_ret (pe_and (pe_callB call_isQ (by rfl) B.isinstance (by decide +kernel) (pa_cons (pv 0) (pa_cons (pe_bltn (v := .ty "int") (u := .type "int") (by rfl) B.int (by decide +kernel) rfl) pa_nil))) (pe_and (pe_not (pe_callB call_isQ (by rfl) B.isinstance (by decide +kernel) (pa_cons (pv 0) (pa_cons (pe_bltn (v := .ty "bool") (u := .type "bool") (by rfl) B.bool (by decide +kernel) rfl) pa_nil)))) (pe_one (pe_cmpR op_eq (pv 0) (pv 1) (nomark _))))))) pss_nil)
      (pss_cons (ps_if (pt_val (pe_callB call_isQ (by rfl) B.isinstance (by decide +kernel) (pa_cons (pv 1) (pa_cons (pe_bltn (v := .ty "str") (u := .type "str") (by rfl) B.str (by decide +kernel) rfl) pa_nil)))) (pss_one (ps_ret (pe_and (pe_callB call_isQ (by rfl) B.isinstance (by decide +kernel) (pa_cons (pv 0) (pa_cons (pe_bltn (v := .ty "str") (u := .type "str") (by rfl) B.str (by decide +kernel) rfl) pa_nil))) (pe_one (pe_cmpR op_eq (pv 0) (pv 1) (nomark _)))))) pss_nil)
      (pss_cons (ps_if (pt_val (pe_callB call_isQ (by rfl) B.isinstance (by decide +kernel) (pa_cons (pv 1) (pa_cons (pe_bltn (v := .ty "list") (u := .type "list") (by rfl) B.list (by decide +kernel) rfl) pa_nil)))) (pss_one (ps_if (pt_not (pt_val (pe_callB call_isQ (by rfl) B.isinstance (by decide +kernel) (pa_cons (pv 0) (pa_cons (pe_bltn (v := .ty "list") (u := .type "list") (by rfl) B.list (by decide +kernel) rfl) pa_nil))))) (pss_one (ps_ret pe_bl)) pss_nil)) (pss_one (ps_if (pt_not (pt_val (pe_callB call_isQ (by rfl) B.isinstance (by decide +kernel) (pa_cons (pv 0) (pa_cons (pe_bltn (v := .ty "tuple") (u := .type "tuple") (by rfl) B.tuple (by decide +kernel) rfl) pa_nil))))) (pss_one (ps_ret pe_bl)) pss_nil)))
      (pss_cons (ps_if (pt_cmpR op_ne (pe_callB call_lenQ (by rfl) B.len PySem.boot_len (pa_cons (pv 0) pa_nil)) (pe_callB call_lenQ (by rfl) B.len PySem.boot_len (pa_cons (pv 1) pa_nil)) (nomark _)) (pss_one (ps_ret pe_bl)) pss_nil)
      (pss_cons (ps_for PassesOwn.never rfl (pi_range1 (by rfl) B.range (pa_cons (pe_callB call_lenQ (by rfl) B.len PySem.boot_len (pa_cons (pv 1) pa_nil)) pa_nil)) (pg_name (i := 2) sc_law_same.nd rfl (.inl rfl)) (pss_one (ps_if (pt_not (pt_val (pe_cl c_law_same hr (by omega) rfl (pa_cons (pe_ix at_seq (pv 0) (pv 2) (fun _ _ => rfl)) (pa_cons (pe_ix at_seq (pv 1) (pv 2) (fun _ _ => rfl)) pa_nil))))) (pss_one (ps_ret pe_bl)) pss_nil)))
      (pss_one (ps_ret pe_bl))))))))), ?_⟩
      rw [show L2.start N_law_same [u, v] = [some u, some v, none] from rfl]
      cases d with
      | non =>
        obtain rfl : u = .non := ru
        obtain rfl : v = .non := rv
        simp only [tSeq, tNext, tDrop, tRet, tRetN, tIfS, tAsg, gName, tAug, ipI, tVar, tC, tOp, tUn, rI, rI0, rU, tCons, tNil, tCB, tTup, tLst, tTest, tB, tAnd, tOr, tNot, tAndV, tOrV, tNotV, tIf, tCl, tCd, tCk, gSub, rPutL, rAtQ, rIntI, rLenQ, rLenS, rListQ, rTupL, rTupQ, rIsQ_c, kd_non, kd_bl, kd_int, kd_str, kd_ref, kdO_lst, kdO_tup, kit_NoneType_bool, kit_NoneType_int, kit_NoneType_str, kit_NoneType_list, kit_NoneType_tuple, kit_bool_bool, kit_bool_int, kit_bool_str, kit_bool_list, kit_bool_tuple, kit_int_bool, kit_int_int, kit_int_str, kit_int_list, kit_int_tuple, kit_str_bool, kit_str_int, kit_str_str, kit_str_list, kit_str_tuple, kit_list_bool, kit_list_int, kit_list_str, kit_list_list, kit_list_tuple, kit_tuple_bool, kit_tuple_int, kit_tuple_str, kit_tuple_list, kit_tuple_tuple, V.ty.injEq, rSortQ, rSlQ, rMulS, tJn, rAtX, rSlS, tSl, tPart, tNoPart, cut_lo2, cut_hi2, rInQ, gLq, gTq, gC_c, gNil, tChain, List.cons_append, List.nil_append, tBL, tBL0, tBad, tCr, tCe, tXF, cxH_K, HO.xd.injEq, rApp, rPopN, rRevL, seqAt_lst, seqAt_tup, at_0, at_1, at_2, at_3, at_4, ix_0, ix_1, ix_2, ix_3, ix_4, cx_K, upd_same, List.length_cons, List.length_nil, Nat.reduceAdd,  rEq, rNe, tRevL, V.int.injEq, V.bl.injEq, V.str.injEq, V.ref.injEq, List.cons.injEq, and_true, true_and, exists_and_left, exists_and_right, exists_eq_left, exists_eq_left', exists_eq_right, exists_eq_right', exists_const, Option.some.injEq, List.getElem?_cons_zero, List.getElem?_cons_succ, List.set_cons_zero, List.set_cons_succ, decide_eq_true_eq, decide_true, decide_false,  scal_ii, scal_bb, scal_ss, cmul_r, cdiv_l, cpow_12, cpow_18, cpow_40, HO.lst.injEq, HO.tup.injEq, upd_upd, Int.reduceToNat,  decide_not, Bool.not_eq_true', decide_eq_false_iff_not, if_true, if_false, Bool.false_eq_true, Bool.true_eq_false, reduceCtorEq, Int.reduceNeg, Nat.reduceLT, Int.reduceLT, Int.reducePow, gt_iff_lt]
        exact q
      | bl b =>
        obtain rfl : u = .bl b := ru
        obtain rfl : v = .bl b := rv
        simp only [tSeq, tNext, tDrop, tRet, tRetN, tIfS, tAsg, gName, tAug, ipI, tVar, tC, tOp, tUn, rI, rI0, rU, tCons, tNil, tCB, tTup, tLst, tTest, tB, tAnd, tOr, tNot, tAndV, tOrV, tNotV, tIf, tCl, tCd, tCk, gSub, rPutL, rAtQ, rIntI, rLenQ, rLenS, rListQ, rTupL, rTupQ, rIsQ_c, kd_non, kd_bl, kd_int, kd_str, kd_ref, kdO_lst, kdO_tup, kit_NoneType_bool, kit_NoneType_int, kit_NoneType_str, kit_NoneType_list, kit_NoneType_tuple, kit_bool_bool, kit_bool_int, kit_bool_str, kit_bool_list, kit_bool_tuple, kit_int_bool, kit_int_int, kit_int_str, kit_int_list, kit_int_tuple, kit_str_bool, kit_str_int, kit_str_str, kit_str_list, kit_str_tuple, kit_list_bool, kit_list_int, kit_list_str, kit_list_list, kit_list_tuple, kit_tuple_bool, kit_tuple_int, kit_tuple_str, kit_tuple_list, kit_tuple_tuple, V.ty.injEq, rSortQ, rSlQ, rMulS, tJn, rAtX, rSlS, tSl, tPart, tNoPart, cut_lo2, cut_hi2, rInQ, gLq, gTq, gC_c, gNil, tChain, List.cons_append, List.nil_append, tBL, tBL0, tBad, tCr, tCe, tXF, cxH_K, HO.xd.injEq, rApp, rPopN, rRevL, seqAt_lst, seqAt_tup, at_0, at_1, at_2, at_3, at_4, ix_0, ix_1, ix_2, ix_3, ix_4, cx_K, upd_same, List.length_cons, List.length_nil, Nat.reduceAdd,  rEq, rNe, tRevL, V.int.injEq, V.bl.injEq, V.str.injEq, V.ref.injEq, List.cons.injEq, and_true, true_and, exists_and_left, exists_and_right, exists_eq_left, exists_eq_left', exists_eq_right, exists_eq_right', exists_const, Option.some.injEq, List.getElem?_cons_zero, List.getElem?_cons_succ, List.set_cons_zero, List.set_cons_succ, decide_eq_true_eq, decide_true, decide_false,  scal_ii, scal_bb, scal_ss, cmul_r, cdiv_l, cpow_12, cpow_18, cpow_40, HO.lst.injEq, HO.tup.injEq, upd_upd, Int.reduceToNat,  decide_not, Bool.not_eq_true', decide_eq_false_iff_not, if_true, if_false, Bool.false_eq_true, Bool.true_eq_false, reduceCtorEq, Int.reduceNeg, Nat.reduceLT, Int.reduceLT, Int.reducePow, gt_iff_lt]
        exact q
      | int b =>
        obtain rfl : u = .int b := ru
        obtain rfl : v = .int b := rv
        simp only [tSeq, tNext, tDrop, tRet, tRetN, tIfS, tAsg, gName, tAug, ipI, tVar, tC, tOp, tUn, rI, rI0, rU, tCons, tNil, tCB, tTup, tLst, tTest, tB, tAnd, tOr, tNot, tAndV, tOrV, tNotV, tIf, tCl, tCd, tCk, gSub, rPutL, rAtQ, rIntI, rLenQ, rLenS, rListQ, rTupL, rTupQ, rIsQ_c, kd_non, kd_bl, kd_int, kd_str, kd_ref, kdO_lst, kdO_tup, kit_NoneType_bool, kit_NoneType_int, kit_NoneType_str, kit_NoneType_list, kit_NoneType_tuple, kit_bool_bool, kit_bool_int, kit_bool_str, kit_bool_list, kit_bool_tuple, kit_int_bool, kit_int_int, kit_int_str, kit_int_list, kit_int_tuple, kit_str_bool, kit_str_int, kit_str_str, kit_str_list, kit_str_tuple, kit_list_bool, kit_list_int, kit_list_str, kit_list_list, kit_list_tuple, kit_tuple_bool, kit_tuple_int, kit_tuple_str, kit_tuple_list, kit_tuple_tuple, V.ty.injEq, rSortQ, rSlQ, rMulS, tJn, rAtX, rSlS, tSl, tPart, tNoPart, cut_lo2, cut_hi2, rInQ, gLq, gTq, gC_c, gNil, tChain, List.cons_append, List.nil_append, tBL, tBL0, tBad, tCr, tCe, tXF, cxH_K, HO.xd.injEq, rApp, rPopN, rRevL, seqAt_lst, seqAt_tup, at_0, at_1, at_2, at_3, at_4, ix_0, ix_1, ix_2, ix_3, ix_4, cx_K, upd_same, List.length_cons, List.length_nil, Nat.reduceAdd,  rEq, rNe, tRevL, V.int.injEq, V.bl.injEq, V.str.injEq, V.ref.injEq, List.cons.injEq, and_true, true_and, exists_and_left, exists_and_right, exists_eq_left, exists_eq_left', exists_eq_right, exists_eq_right', exists_const, Option.some.injEq, List.getElem?_cons_zero, List.getElem?_cons_succ, List.set_cons_zero, List.set_cons_succ, decide_eq_true_eq, decide_true, decide_false,  scal_ii, scal_bb, scal_ss, cmul_r, cdiv_l, cpow_12, cpow_18, cpow_40, HO.lst.injEq, HO.tup.injEq, upd_upd, Int.reduceToNat,  decide_not, Bool.not_eq_true', decide_eq_false_iff_not, if_true, if_false, Bool.false_eq_true, Bool.true_eq_false, reduceCtorEq, Int.reduceNeg, Nat.reduceLT, Int.reduceLT, Int.reducePow, gt_iff_lt]
        exact q
      | str b =>
        obtain rfl : u = .str b := ru
        obtain rfl : v = .str b := rv
        simp only [tSeq, tNext, tDrop, tRet, tRetN, tIfS, tAsg, gName, tAug, ipI, tVar, tC, tOp, tUn, rI, rI0, rU, tCons, tNil, tCB, tTup, tLst, tTest, tB, tAnd, tOr, tNot, tAndV, tOrV, tNotV, tIf, tCl, tCd, tCk, gSub, rPutL, rAtQ, rIntI, rLenQ, rLenS, rListQ, rTupL, rTupQ, rIsQ_c, kd_non, kd_bl, kd_int, kd_str, kd_ref, kdO_lst, kdO_tup, kit_NoneType_bool, kit_NoneType_int, kit_NoneType_str, kit_NoneType_list, kit_NoneType_tuple, kit_bool_bool, kit_bool_int, kit_bool_str, kit_bool_list, kit_bool_tuple, kit_int_bool, kit_int_int, kit_int_str, kit_int_list, kit_int_tuple, kit_str_bool, kit_str_int, kit_str_str, kit_str_list, kit_str_tuple, kit_list_bool, kit_list_int, kit_list_str, kit_list_list, kit_list_tuple, kit_tuple_bool, kit_tuple_int, kit_tuple_str, kit_tuple_list, kit_tuple_tuple, V.ty.injEq, rSortQ, rSlQ, rMulS, tJn, rAtX, rSlS, tSl, tPart, tNoPart, cut_lo2, cut_hi2, rInQ, gLq, gTq, gC_c, gNil, tChain, List.cons_append, List.nil_append, tBL, tBL0, tBad, tCr, tCe, tXF, cxH_K, HO.xd.injEq, rApp, rPopN, rRevL, seqAt_lst, seqAt_tup, at_0, at_1, at_2, at_3, at_4, ix_0, ix_1, ix_2, ix_3, ix_4, cx_K, upd_same, List.length_cons, List.length_nil, Nat.reduceAdd,  rEq, rNe, tRevL, V.int.injEq, V.bl.injEq, V.str.injEq, V.ref.injEq, List.cons.injEq, and_true, true_and, exists_and_left, exists_and_right, exists_eq_left, exists_eq_left', exists_eq_right, exists_eq_right', exists_const, Option.some.injEq, List.getElem?_cons_zero, List.getElem?_cons_succ, List.set_cons_zero, List.set_cons_succ, decide_eq_true_eq, decide_true, decide_false,  scal_ii, scal_bb, scal_ss, cmul_r, cdiv_l, cpow_12, cpow_18, cpow_40, HO.lst.injEq, HO.tup.injEq, upd_upd, Int.reduceToNat,  decide_not, Bool.not_eq_true', decide_eq_false_iff_not, if_true, if_false, Bool.false_eq_true, Bool.true_eq_false, reduceCtorEq, Int.reduceNeg, Nat.reduceLT, Int.reduceLT, Int.reducePow, gt_iff_lt]
        exact q
      | lst ds =>
        obtain ⟨a, xs, rfl, na, ha, hx, pa⟩ := ru
        obtain ⟨b, ys, rfl, nb, hb, hy, pb⟩ := rv
        have sa : seqAt (H a) = some xs := by rw [ha] <;> rfl
        have sb : seqAt (H b) = some ys := by rw [hb] <;> rfl
        simp only [tSeq, tNext, tDrop, tRet, tRetN, tIfS, tAsg, gName, tAug, ipI, tVar, tC, tOp, tUn, rI, rI0, rU, tCons, tNil, tCB, tTup, tLst, tTest, tB, tAnd, tOr, tNot, tAndV, tOrV, tNotV, tIf, tCl, tCd, tCk, gSub, rPutL, rAtQ, rIntI, rLenQ, rLenS, rListQ, rTupL, rTupQ, rIsQ_c, kd_non, kd_bl, kd_int, kd_str, kd_ref, kdO_lst, kdO_tup, kit_NoneType_bool, kit_NoneType_int, kit_NoneType_str, kit_NoneType_list, kit_NoneType_tuple, kit_bool_bool, kit_bool_int, kit_bool_str, kit_bool_list, kit_bool_tuple, kit_int_bool, kit_int_int, kit_int_str, kit_int_list, kit_int_tuple, kit_str_bool, kit_str_int, kit_str_str, kit_str_list, kit_str_tuple, kit_list_bool, kit_list_int, kit_list_str, kit_list_list, kit_list_tuple, kit_tuple_bool, kit_tuple_int, kit_tuple_str, kit_tuple_list, kit_tuple_tuple, V.ty.injEq, rSortQ, rSlQ, rMulS, tJn, rAtX, rSlS, tSl, tPart, tNoPart, cut_lo2, cut_hi2, rInQ, gLq, gTq, gC_c, gNil, tChain, List.cons_append, List.nil_append, tBL, tBL0, tBad, tCr, tCe, tXF, cxH_K, HO.xd.injEq, rApp, rPopN, rRevL, seqAt_lst, seqAt_tup, at_0, at_1, at_2, at_3, at_4, ix_0, ix_1, ix_2, ix_3, ix_4, cx_K, upd_same, List.length_cons, List.length_nil, Nat.reduceAdd,  rEq, rNe, tRevL, V.int.injEq, V.bl.injEq, V.str.injEq, V.ref.injEq, List.cons.injEq, and_true, true_and, exists_and_left, exists_and_right, exists_eq_left, exists_eq_left', exists_eq_right, exists_eq_right', exists_const, Option.some.injEq, List.getElem?_cons_zero, List.getElem?_cons_succ, List.set_cons_zero, List.set_cons_succ, decide_eq_true_eq, decide_true, decide_false,  scal_ii, scal_bb, scal_ss, cmul_r, cdiv_l, cpow_12, cpow_18, cpow_40, HO.lst.injEq, HO.tup.injEq, upd_upd, Int.reduceToNat,  decide_not, Bool.not_eq_true', decide_eq_false_iff_not, if_true, if_false, Bool.false_eq_true, Bool.true_eq_false, reduceCtorEq, Int.reduceNeg, Nat.reduceLT, Int.reduceLT, Int.reducePow, gt_iff_lt, ha, hb]
        have la := paired_len pa
        have lb := paired_len pb
        split
        · rename_i e
          exact absurd (show (xs.length : Int) = ys.length by omega) e
        · refine z_forR ys.length (fun Q q => ?_) (by omega) (fun i σ' H' => ∃ k : Option V, σ' = [some (.ref a), some (.ref b), k] ∧ H' = H) ⟨none, rfl, rfl⟩ (fun i σ' H' hi hI => ?_) (fun σ' H' hI => ?_)
          · simp only [tSeq, tNext, tDrop, tRet, tRetN, tIfS, tAsg, gName, tAug, ipI, tVar, tC, tOp, tUn, rI, rI0, rU, tCons, tNil, tCB, tTup, tLst, tTest, tB, tAnd, tOr, tNot, tAndV, tOrV, tNotV, tIf, tCl, tCd, tCk, gSub, rPutL, rAtQ, rIntI, rLenQ, rLenS, rListQ, rTupL, rTupQ, rIsQ_c, kd_non, kd_bl, kd_int, kd_str, kd_ref, kdO_lst, kdO_tup, kit_NoneType_bool, kit_NoneType_int, kit_NoneType_str, kit_NoneType_list, kit_NoneType_tuple, kit_bool_bool, kit_bool_int, kit_bool_str, kit_bool_list, kit_bool_tuple, kit_int_bool, kit_int_int, kit_int_str, kit_int_list, kit_int_tuple, kit_str_bool, kit_str_int, kit_str_str, kit_str_list, kit_str_tuple, kit_list_bool, kit_list_int, kit_list_str, kit_list_list, kit_list_tuple, kit_tuple_bool, kit_tuple_int, kit_tuple_str, kit_tuple_list, kit_tuple_tuple, V.ty.injEq, rSortQ, rSlQ, rMulS, tJn, rAtX, rSlS, tSl, tPart, tNoPart, cut_lo2, cut_hi2, rInQ, gLq, gTq, gC_c, gNil, tChain, List.cons_append, List.nil_append, tBL, tBL0, tBad, tCr, tCe, tXF, cxH_K, HO.xd.injEq, rApp, rPopN, rRevL, seqAt_lst, seqAt_tup, at_0, at_1, at_2, at_3, at_4, ix_0, ix_1, ix_2, ix_3, ix_4, cx_K, upd_same, List.length_cons, List.length_nil, Nat.reduceAdd,  rEq, rNe, tRevL, V.int.injEq, V.bl.injEq, V.str.injEq, V.ref.injEq, List.cons.injEq, and_true, true_and, exists_and_left, exists_and_right, exists_eq_left, exists_eq_left', exists_eq_right, exists_eq_right', exists_const, Option.some.injEq, List.getElem?_cons_zero, List.getElem?_cons_succ, List.set_cons_zero, List.set_cons_succ, decide_eq_true_eq, decide_true, decide_false,  scal_ii, scal_bb, scal_ss, cmul_r, cdiv_l, cpow_12, cpow_18, cpow_40, HO.lst.injEq, HO.tup.injEq, upd_upd, Int.reduceToNat,  decide_not, Bool.not_eq_true', decide_eq_false_iff_not, if_true, if_false, Bool.false_eq_true, Bool.true_eq_false, reduceCtorEq, Int.reduceNeg, Nat.reduceLT, Int.reduceLT, Int.reducePow, gt_iff_lt, sb]
            exact q
          · obtain ⟨k, rfl, rfl⟩ := hI
            have e1 : xs[i]? = some xs[i] := List.getElem?_eq_getElem (by omega)
            have e2 : ys[i]? = some ys[i] := List.getElem?_eq_getElem (by omega)
            obtain ⟨d1, g1, r1⟩ := paired_get pa e1
            obtain ⟨d2, g2, r2⟩ := paired_get pb e2
            obtain rfl : d1 = d2 := Option.some.inj (g1.symm.trans g2)
            simp only [tSeq, tNext, tDrop, tRet, tRetN, tIfS, tAsg, gName, tAug, ipI, tVar, tC, tOp, tUn, rI, rI0, rU, tCons, tNil, tCB, tTup, tLst, tTest, tB, tAnd, tOr, tNot, tAndV, tOrV, tNotV, tIf, tCl, tCd, tCk, gSub, rPutL, rAtQ, rIntI, rLenQ, rLenS, rListQ, rTupL, rTupQ, rIsQ_c, kd_non, kd_bl, kd_int, kd_str, kd_ref, kdO_lst, kdO_tup, kit_NoneType_bool, kit_NoneType_int, kit_NoneType_str, kit_NoneType_list, kit_NoneType_tuple, kit_bool_bool, kit_bool_int, kit_bool_str, kit_bool_list, kit_bool_tuple, kit_int_bool, kit_int_int, kit_int_str, kit_int_list, kit_int_tuple, kit_str_bool, kit_str_int, kit_str_str, kit_str_list, kit_str_tuple, kit_list_bool, kit_list_int, kit_list_str, kit_list_list, kit_list_tuple, kit_tuple_bool, kit_tuple_int, kit_tuple_str, kit_tuple_list, kit_tuple_tuple, V.ty.injEq, rSortQ, rSlQ, rMulS, tJn, rAtX, rSlS, tSl, tPart, tNoPart, cut_lo2, cut_hi2, rInQ, gLq, gTq, gC_c, gNil, tChain, List.cons_append, List.nil_append, tBL, tBL0, tBad, tCr, tCe, tXF, cxH_K, HO.xd.injEq, rApp, rPopN, rRevL, seqAt_lst, seqAt_tup, at_0, at_1, at_2, at_3, at_4, ix_0, ix_1, ix_2, ix_3, ix_4, cx_K, upd_same, List.length_cons, List.length_nil, Nat.reduceAdd,  rEq, rNe, tRevL, V.int.injEq, V.bl.injEq, V.str.injEq, V.ref.injEq, List.cons.injEq, and_true, true_and, exists_and_left, exists_and_right, exists_eq_left, exists_eq_left', exists_eq_right, exists_eq_right', exists_const, Option.some.injEq, List.getElem?_cons_zero, List.getElem?_cons_succ, List.set_cons_zero, List.set_cons_succ, decide_eq_true_eq, decide_true, decide_false,  scal_ii, scal_bb, scal_ss, cmul_r, cdiv_l, cpow_12, cpow_18, cpow_40, HO.lst.injEq, HO.tup.injEq, upd_upd, Int.reduceToNat,  decide_not, Bool.not_eq_true', decide_eq_false_iff_not, if_true, if_false, Bool.false_eq_true, Bool.true_eq_false, reduceCtorEq, Int.reduceNeg, Nat.reduceLT, Int.reduceLT, Int.reducePow, gt_iff_lt, sa, sb, atI_nat e1, atI_nat e2]
            refine ⟨N, _, _, d1, rfl, r1, r2, ?_⟩
            simp only [tSeq, tNext, tDrop, tRet, tRetN, tIfS, tAsg, gName, tAug, ipI, tVar, tC, tOp, tUn, rI, rI0, rU, tCons, tNil, tCB, tTup, tLst, tTest, tB, tAnd, tOr, tNot, tAndV, tOrV, tNotV, tIf, tCl, tCd, tCk, gSub, rPutL, rAtQ, rIntI, rLenQ, rLenS, rListQ, rTupL, rTupQ, rIsQ_c, kd_non, kd_bl, kd_int, kd_str, kd_ref, kdO_lst, kdO_tup, kit_NoneType_bool, kit_NoneType_int, kit_NoneType_str, kit_NoneType_list, kit_NoneType_tuple, kit_bool_bool, kit_bool_int, kit_bool_str, kit_bool_list, kit_bool_tuple, kit_int_bool, kit_int_int, kit_int_str, kit_int_list, kit_int_tuple, kit_str_bool, kit_str_int, kit_str_str, kit_str_list, kit_str_tuple, kit_list_bool, kit_list_int, kit_list_str, kit_list_list, kit_list_tuple, kit_tuple_bool, kit_tuple_int, kit_tuple_str, kit_tuple_list, kit_tuple_tuple, V.ty.injEq, rSortQ, rSlQ, rMulS, tJn, rAtX, rSlS, tSl, tPart, tNoPart, cut_lo2, cut_hi2, rInQ, gLq, gTq, gC_c, gNil, tChain, List.cons_append, List.nil_append, tBL, tBL0, tBad, tCr, tCe, tXF, cxH_K, HO.xd.injEq, rApp, rPopN, rRevL, seqAt_lst, seqAt_tup, at_0, at_1, at_2, at_3, at_4, ix_0, ix_1, ix_2, ix_3, ix_4, cx_K, upd_same, List.length_cons, List.length_nil, Nat.reduceAdd,  rEq, rNe, tRevL, V.int.injEq, V.bl.injEq, V.str.injEq, V.ref.injEq, List.cons.injEq, and_true, true_and, exists_and_left, exists_and_right, exists_eq_left, exists_eq_left', exists_eq_right, exists_eq_right', exists_const, Option.some.injEq, List.getElem?_cons_zero, List.getElem?_cons_succ, List.set_cons_zero, List.set_cons_succ, decide_eq_true_eq, decide_true, decide_false,  scal_ii, scal_bb, scal_ss, cmul_r, cdiv_l, cpow_12, cpow_18, cpow_40, HO.lst.injEq, HO.tup.injEq, upd_upd, Int.reduceToNat,  decide_not, Bool.not_eq_true', decide_eq_false_iff_not, if_true, if_false, Bool.false_eq_true, Bool.true_eq_false, reduceCtorEq, Int.reduceNeg, Nat.reduceLT, Int.reduceLT, Int.reducePow, gt_iff_lt]
            exact ⟨_, rfl⟩
          · obtain ⟨k, rfl, rfl⟩ := hI
            simp only [tSeq, tNext, tDrop, tRet, tRetN, tIfS, tAsg, gName, tAug, ipI, tVar, tC, tOp, tUn, rI, rI0, rU, tCons, tNil, tCB, tTup, tLst, tTest, tB, tAnd, tOr, tNot, tAndV, tOrV, tNotV, tIf, tCl, tCd, tCk, gSub, rPutL, rAtQ, rIntI, rLenQ, rLenS, rListQ, rTupL, rTupQ, rIsQ_c, kd_non, kd_bl, kd_int, kd_str, kd_ref, kdO_lst, kdO_tup, kit_NoneType_bool, kit_NoneType_int, kit_NoneType_str, kit_NoneType_list, kit_NoneType_tuple, kit_bool_bool, kit_bool_int, kit_bool_str, kit_bool_list, kit_bool_tuple, kit_int_bool, kit_int_int, kit_int_str, kit_int_list, kit_int_tuple, kit_str_bool, kit_str_int, kit_str_str, kit_str_list, kit_str_tuple, kit_list_bool, kit_list_int, kit_list_str, kit_list_list, kit_list_tuple, kit_tuple_bool, kit_tuple_int, kit_tuple_str, kit_tuple_list, kit_tuple_tuple, V.ty.injEq, rSortQ, rSlQ, rMulS, tJn, rAtX, rSlS, tSl, tPart, tNoPart, cut_lo2, cut_hi2, rInQ, gLq, gTq, gC_c, gNil, tChain, List.cons_append, List.nil_append, tBL, tBL0, tBad, tCr, tCe, tXF, cxH_K, HO.xd.injEq, rApp, rPopN, rRevL, seqAt_lst, seqAt_tup, at_0, at_1, at_2, at_3, at_4, ix_0, ix_1, ix_2, ix_3, ix_4, cx_K, upd_same, List.length_cons, List.length_nil, Nat.reduceAdd,  rEq, rNe, tRevL, V.int.injEq, V.bl.injEq, V.str.injEq, V.ref.injEq, List.cons.injEq, and_true, true_and, exists_and_left, exists_and_right, exists_eq_left, exists_eq_left', exists_eq_right, exists_eq_right', exists_const, Option.some.injEq, List.getElem?_cons_zero, List.getElem?_cons_succ, List.set_cons_zero, List.set_cons_succ, decide_eq_true_eq, decide_true, decide_false,  scal_ii, scal_bb, scal_ss, cmul_r, cdiv_l, cpow_12, cpow_18, cpow_40, HO.lst.injEq, HO.tup.injEq, upd_upd, Int.reduceToNat,  decide_not, Bool.not_eq_true', decide_eq_false_iff_not, if_true, if_false, Bool.false_eq_true, Bool.true_eq_false, reduceCtorEq, Int.reduceNeg, Nat.reduceLT, Int.reduceLT, Int.reducePow, gt_iff_lt]
            exact q
      | tup ds =>
        obtain ⟨a, xs, rfl, na, ha, hx, pa⟩ := ru
        obtain ⟨b, ys, rfl, nb, hb, hy, pb⟩ := rv
        have sa : seqAt (H a) = some xs := by rw [ha] <;> rfl
        have sb : seqAt (H b) = some ys := by rw [hb] <;> rfl
        simp only [tSeq, tNext, tDrop, tRet, tRetN, tIfS, tAsg, gName, tAug, ipI, tVar, tC, tOp, tUn, rI, rI0, rU, tCons, tNil, tCB, tTup, tLst, tTest, tB, tAnd, tOr, tNot, tAndV, tOrV, tNotV, tIf, tCl, tCd, tCk, gSub, rPutL, rAtQ, rIntI, rLenQ, rLenS, rListQ, rTupL, rTupQ, rIsQ_c, kd_non, kd_bl, kd_int, kd_str, kd_ref, kdO_lst, kdO_tup, kit_NoneType_bool, kit_NoneType_int, kit_NoneType_str, kit_NoneType_list, kit_NoneType_tuple, kit_bool_bool, kit_bool_int, kit_bool_str, kit_bool_list, kit_bool_tuple, kit_int_bool, kit_int_int, kit_int_str, kit_int_list, kit_int_tuple, kit_str_bool, kit_str_int, kit_str_str, kit_str_list, kit_str_tuple, kit_list_bool, kit_list_int, kit_list_str, kit_list_list, kit_list_tuple, kit_tuple_bool, kit_tuple_int, kit_tuple_str, kit_tuple_list, kit_tuple_tuple, V.ty.injEq, rSortQ, rSlQ, rMulS, tJn, rAtX, rSlS, tSl, tPart, tNoPart, cut_lo2, cut_hi2, rInQ, gLq, gTq, gC_c, gNil, tChain, List.cons_append, List.nil_append, tBL, tBL0, tBad, tCr, tCe, tXF, cxH_K, HO.xd.injEq, rApp, rPopN, rRevL, seqAt_lst, seqAt_tup, at_0, at_1, at_2, at_3, at_4, ix_0, ix_1, ix_2, ix_3, ix_4, cx_K, upd_same, List.length_cons, List.length_nil, Nat.reduceAdd,  rEq, rNe, tRevL, V.int.injEq, V.bl.injEq, V.str.injEq, V.ref.injEq, List.cons.injEq, and_true, true_and, exists_and_left, exists_and_right, exists_eq_left, exists_eq_left', exists_eq_right, exists_eq_right', exists_const, Option.some.injEq, List.getElem?_cons_zero, List.getElem?_cons_succ, List.set_cons_zero, List.set_cons_succ, decide_eq_true_eq, decide_true, decide_false,  scal_ii, scal_bb, scal_ss, cmul_r, cdiv_l, cpow_12, cpow_18, cpow_40, HO.lst.injEq, HO.tup.injEq, upd_upd, Int.reduceToNat,  decide_not, Bool.not_eq_true', decide_eq_false_iff_not, if_true, if_false, Bool.false_eq_true, Bool.true_eq_false, reduceCtorEq, Int.reduceNeg, Nat.reduceLT, Int.reduceLT, Int.reducePow, gt_iff_lt, ha, hb]
        have la := paired_len pa
        have lb := paired_len pb
        split
        · rename_i e
          exact absurd (show (xs.length : Int) = ys.length by omega) e
        · refine z_forR ys.length (fun Q q => ?_) (by omega) (fun i σ' H' => ∃ k : Option V, σ' = [some (.ref a), some (.ref b), k] ∧ H' = H) ⟨none, rfl, rfl⟩ (fun i σ' H' hi hI => ?_) (fun σ' H' hI => ?_)
          · simp only [tSeq, tNext, tDrop, tRet, tRetN, tIfS, tAsg, gName, tAug, ipI, tVar, tC, tOp, tUn, rI, rI0, rU, tCons, tNil, tCB, tTup, tLst, tTest, tB, tAnd, tOr, tNot, tAndV, tOrV, tNotV, tIf, tCl, tCd, tCk, gSub, rPutL, rAtQ, rIntI, rLenQ, rLenS, rListQ, rTupL, rTupQ, rIsQ_c, kd_non, kd_bl, kd_int, kd_str, kd_ref, kdO_lst, kdO_tup, kit_NoneType_bool, kit_NoneType_int, kit_NoneType_str, kit_NoneType_list, kit_NoneType_tuple, kit_bool_bool, kit_bool_int, kit_bool_str, kit_bool_list, kit_bool_tuple, kit_int_bool, kit_int_int, kit_int_str, kit_int_list, kit_int_tuple, kit_str_bool, kit_str_int, kit_str_str, kit_str_list, kit_str_tuple, kit_list_bool, kit_list_int, kit_list_str, kit_list_list, kit_list_tuple, kit_tuple_bool, kit_tuple_int, kit_tuple_str, kit_tuple_list, kit_tuple_tuple, V.ty.injEq, rSortQ, rSlQ, rMulS, tJn, rAtX, rSlS, tSl, tPart, tNoPart, cut_lo2, cut_hi2, rInQ, gLq, gTq, gC_c, gNil, tChain, List.cons_append, List.nil_append, tBL, tBL0, tBad, tCr, tCe, tXF, cxH_K, HO.xd.injEq, rApp, rPopN, rRevL, seqAt_lst, seqAt_tup, at_0, at_1, at_2, at_3, at_4, ix_0, ix_1, ix_2, ix_3, ix_4, cx_K, upd_same, List.length_cons, List.length_nil, Nat.reduceAdd,  rEq, rNe, tRevL, V.int.injEq, V.bl.injEq, V.str.injEq, V.ref.injEq, List.cons.injEq, and_true, true_and, exists_and_left, exists_and_right, exists_eq_left, exists_eq_left', exists_eq_right, exists_eq_right', exists_const, Option.some.injEq, List.getElem?_cons_zero, List.getElem?_cons_succ, List.set_cons_zero, List.set_cons_succ, decide_eq_true_eq, decide_true, decide_false,  scal_ii, scal_bb, scal_ss, cmul_r, cdiv_l, cpow_12, cpow_18, cpow_40, HO.lst.injEq, HO.tup.injEq, upd_upd, Int.reduceToNat,  decide_not, Bool.not_eq_true', decide_eq_false_iff_not, if_true, if_false, Bool.false_eq_true, Bool.true_eq_false, reduceCtorEq, Int.reduceNeg, Nat.reduceLT, Int.reduceLT, Int.reducePow, gt_iff_lt, sb]
            exact q
          · obtain ⟨k, rfl, rfl⟩ := hI
            have e1 : xs[i]? = some xs[i] := List.getElem?_eq_getElem (by omega)
            have e2 : ys[i]? = some ys[i] := List.getElem?_eq_getElem (by omega)
            obtain ⟨d1, g1, r1⟩ := paired_get pa e1
            obtain ⟨d2, g2, r2⟩ := paired_get pb e2
            obtain rfl : d1 = d2 := Option.some.inj (g1.symm.trans g2)
            simp only [tSeq, tNext, tDrop, tRet, tRetN, tIfS, tAsg, gName, tAug, ipI, tVar, tC, tOp, tUn, rI, rI0, rU, tCons, tNil, tCB, tTup, tLst, tTest, tB, tAnd, tOr, tNot, tAndV, tOrV, tNotV, tIf, tCl, tCd, tCk, gSub, rPutL, rAtQ, rIntI, rLenQ, rLenS, rListQ, rTupL, rTupQ, rIsQ_c, kd_non, kd_bl, kd_int, kd_str, kd_ref, kdO_lst, kdO_tup, kit_NoneType_bool, kit_NoneType_int, kit_NoneType_str, kit_NoneType_list, kit_NoneType_tuple, kit_bool_bool, kit_bool_int, kit_bool_str, kit_bool_list, kit_bool_tuple, kit_int_bool, kit_int_int, kit_int_str, kit_int_list, kit_int_tuple, kit_str_bool, kit_str_int, kit_str_str, kit_str_list, kit_str_tuple, kit_list_bool, kit_list_int, kit_list_str, kit_list_list, kit_list_tuple, kit_tuple_bool, kit_tuple_int, kit_tuple_str, kit_tuple_list, kit_tuple_tuple, V.ty.injEq, rSortQ, rSlQ, rMulS, tJn, rAtX, rSlS, tSl, tPart, tNoPart, cut_lo2, cut_hi2, rInQ, gLq, gTq, gC_c, gNil, tChain, List.cons_append, List.nil_append, tBL, tBL0, tBad, tCr, tCe, tXF, cxH_K, HO.xd.injEq, rApp, rPopN, rRevL, seqAt_lst, seqAt_tup, at_0, at_1, at_2, at_3, at_4, ix_0, ix_1, ix_2, ix_3, ix_4, cx_K, upd_same, List.length_cons, List.length_nil, Nat.reduceAdd,  rEq, rNe, tRevL, V.int.injEq, V.bl.injEq, V.str.injEq, V.ref.injEq, List.cons.injEq, and_true, true_and, exists_and_left, exists_and_right, exists_eq_left, exists_eq_left', exists_eq_right, exists_eq_right', exists_const, Option.some.injEq, List.getElem?_cons_zero, List.getElem?_cons_succ, List.set_cons_zero, List.set_cons_succ, decide_eq_true_eq, decide_true, decide_false,  scal_ii, scal_bb, scal_ss, cmul_r, cdiv_l, cpow_12, cpow_18, cpow_40, HO.lst.injEq, HO.tup.injEq, upd_upd, Int.reduceToNat,  decide_not, Bool.not_eq_true', decide_eq_false_iff_not, if_true, if_false, Bool.false_eq_true, Bool.true_eq_false, reduceCtorEq, Int.reduceNeg, Nat.reduceLT, Int.reduceLT, Int.reducePow, gt_iff_lt, sa, sb, atI_nat e1, atI_nat e2]
            refine ⟨N, _, _, d1, rfl, r1, r2, ?_⟩
            simp only [tSeq, tNext, tDrop, tRet, tRetN, tIfS, tAsg, gName, tAug, ipI, tVar, tC, tOp, tUn, rI, rI0, rU, tCons, tNil, tCB, tTup, tLst, tTest, tB, tAnd, tOr, tNot, tAndV, tOrV, tNotV, tIf, tCl, tCd, tCk, gSub, rPutL, rAtQ, rIntI, rLenQ, rLenS, rListQ, rTupL, rTupQ, rIsQ_c, kd_non, kd_bl, kd_int, kd_str, kd_ref, kdO_lst, kdO_tup, kit_NoneType_bool, kit_NoneType_int, kit_NoneType_str, kit_NoneType_list, kit_NoneType_tuple, kit_bool_bool, kit_bool_int, kit_bool_str, kit_bool_list, kit_bool_tuple, kit_int_bool, kit_int_int, kit_int_str, kit_int_list, kit_int_tuple, kit_str_bool, kit_str_int, kit_str_str, kit_str_list, kit_str_tuple, kit_list_bool, kit_list_int, kit_list_str, kit_list_list, kit_list_tuple, kit_tuple_bool, kit_tuple_int, kit_tuple_str, kit_tuple_list, kit_tuple_tuple, V.ty.injEq, rSortQ, rSlQ, rMulS, tJn, rAtX, rSlS, tSl, tPart, tNoPart, cut_lo2, cut_hi2, rInQ, gLq, gTq, gC_c, gNil, tChain, List.cons_append, List.nil_append, tBL, tBL0, tBad, tCr, tCe, tXF, cxH_K, HO.xd.injEq, rApp, rPopN, rRevL, seqAt_lst, seqAt_tup, at_0, at_1, at_2, at_3, at_4, ix_0, ix_1, ix_2, ix_3, ix_4, cx_K, upd_same, List.length_cons, List.length_nil, Nat.reduceAdd,  rEq, rNe, tRevL, V.int.injEq, V.bl.injEq, V.str.injEq, V.ref.injEq, List.cons.injEq, and_true, true_and, exists_and_left, exists_and_right, exists_eq_left, exists_eq_left', exists_eq_right, exists_eq_right', exists_const, Option.some.injEq, List.getElem?_cons_zero, List.getElem?_cons_succ, List.set_cons_zero, List.set_cons_succ, decide_eq_true_eq, decide_true, decide_false,  scal_ii, scal_bb, scal_ss, cmul_r, cdiv_l, cpow_12, cpow_18, cpow_40, HO.lst.injEq, HO.tup.injEq, upd_upd, Int.reduceToNat,  decide_not, Bool.not_eq_true', decide_eq_false_iff_not, if_true, if_false, Bool.false_eq_true, Bool.true_eq_false, reduceCtorEq, Int.reduceNeg, Nat.reduceLT, Int.reduceLT, Int.reducePow, gt_iff_lt]
            exact ⟨_, rfl⟩
          · obtain ⟨k, rfl, rfl⟩ := hI
            simp only [tSeq, tNext, tDrop, tRet, tRetN, tIfS, tAsg, gName, tAug, ipI, tVar, tC, tOp, tUn, rI, rI0, rU, tCons, tNil, tCB, tTup, tLst, tTest, tB, tAnd, tOr, tNot, tAndV, tOrV, tNotV, tIf, tCl, tCd, tCk, gSub, rPutL, rAtQ, rIntI, rLenQ, rLenS, rListQ, rTupL, rTupQ, rIsQ_c, kd_non, kd_bl, kd_int, kd_str, kd_ref, kdO_lst, kdO_tup, kit_NoneType_bool, kit_NoneType_int, kit_NoneType_str, kit_NoneType_list, kit_NoneType_tuple, kit_bool_bool, kit_bool_int, kit_bool_str, kit_bool_list, kit_bool_tuple, kit_int_bool, kit_int_int, kit_int_str, kit_int_list, kit_int_tuple, kit_str_bool, kit_str_int, kit_str_str, kit_str_list, kit_str_tuple, kit_list_bool, kit_list_int, kit_list_str, kit_list_list, kit_list_tuple, kit_tuple_bool, kit_tuple_int, kit_tuple_str, kit_tuple_list, kit_tuple_tuple, V.ty.injEq, rSortQ, rSlQ, rMulS, tJn, rAtX, rSlS, tSl, tPart, tNoPart, cut_lo2, cut_hi2, rInQ, gLq, gTq, gC_c, gNil, tChain, List.cons_append, List.nil_append, tBL, tBL0, tBad, tCr, tCe, tXF, cxH_K, HO.xd.injEq, rApp, rPopN, rRevL, seqAt_lst, seqAt_tup, at_0, at_1, at_2, at_3, at_4, ix_0, ix_1, ix_2, ix_3, ix_4, cx_K, upd_same, List.length_cons, List.length_nil, Nat.reduceAdd,  rEq, rNe, tRevL, V.int.injEq, V.bl.injEq, V.str.injEq, V.ref.injEq, List.cons.injEq, and_true, true_and, exists_and_left, exists_and_right, exists_eq_left, exists_eq_left', exists_eq_right, exists_eq_right', exists_const, Option.some.injEq, List.getElem?_cons_zero, List.getElem?_cons_succ, List.set_cons_zero, List.set_cons_succ, decide_eq_true_eq, decide_true, decide_false,  scal_ii, scal_bb, scal_ss, cmul_r, cdiv_l, cpow_12, cpow_18, cpow_40, HO.lst.injEq, HO.tup.injEq, upd_upd, Int.reduceToNat,  decide_not, Bool.not_eq_true', decide_eq_false_iff_not, if_true, if_false, Bool.false_eq_true, Bool.true_eq_false, reduceCtorEq, Int.reduceNeg, Nat.reduceLT, Int.reduceLT, Int.reducePow, gt_iff_lt]
            exact q
abbrev s_law_copy : Stmt := topS 56
abbrev N_law_copy : List Str := ["thing", "part"]
theorem sc_law_copy : FnScope N_law_copy ["thing"] (defScope s_law_copy) := ⟨rfl, rfl, rfl, by decide +kernel, rfl, by decide +kernel, by decide +kernel⟩
theorem b_law_copy : BindO "_law_copy" s_law_copy ["thing"] := fun _ _ _ _ _ _ us hl => match us, hl with | [_], _ => rfl

/-- the same data, at new places -/
def sp_copy (n : Nat) : Sp := fun vs H Q _ => ∃ (N : Addr → Prop) (u : V) (d : Dt), vs = [u] ∧ Rp N H n u d ∧ (∀ p, H p = none → N p) ∧ ∀ (v : V) (H' : Hp), Same H H' → Rp N H' n v d → Q v H'
theorem ok_copy (D : Dn K mg "_law_copy" s_law_copy) (B : Blt mg) : ∀ n, Cl P w K mg base n "_law_copy" (sp_copy n)
  | 0 => cl_none D b_law_copy fun vs H Q E ⟨_, _, _, _, z, _⟩ => z
  | n + 1 => by
    have c_law_copy := ok_copy D B n
    refine cl_of D sc_law_copy b_law_copy (fun vs H Q E h => ?_) (fun f cdv A outer s H vs Q E hr h => ?_)
    · obtain ⟨_, u, d, rfl, _⟩ := h
      rfl
    · obtain ⟨N, u, d, rfl, ru, hN, q⟩ := h
      refine ⟨_, (pss_cons (ps_if (pt_val (pe_callB call_isQ (by rfl) B.isinstance (by decide +kernel) (pa_cons (pv 0) (pa_cons (pe_bltn (v := .ty "list") (u := .type "list") (by rfl) B.list (by decide +kernel) rfl) pa_nil)))) (pss_one (ps_ret (pe_lc (own := [("part", 1)]) (g := gName 1) rfl sc_law_copy.nd (pi_list (pv 0)) (blkOk_by (N := N_law_copy) (sc := defScope s_law_copy) (own := [("part", 1)]) (by decide +kernel)) (fun _ _ _ _ _ => (pg_name (i := 1) sc_law_copy.nd rfl (Or.inl rfl))) (fun _ _ _ _ _ => pts_nil) (fun _ _ _ _ _ => (pe_cl c_law_copy hr (by omega) rfl (pa_cons (pv 1) pa_nil)))))) pss_nil)
      (pss_cons (ps_if (pt_val (pe_callB call_isQ (by rfl) B.isinstance (by decide +kernel) (pa_cons (pv 0) (pa_cons (pe_bltn (v := .ty "tuple") (u := .type "tuple") (by rfl) B.tuple (by decide +kernel) rfl) pa_nil)))) (pss_one (ps_ret (pe_callTy call_tupL (by rfl) B.tuple (by decide +kernel) (pa_cons (pe_lc (own := [("part", 1)]) (g := gName 1) rfl sc_law_copy.nd (pi_tup (pv 0)) (blkOk_by (N := N_law_copy) (sc := defScope s_law_copy) (own := [("part", 1)]) (by decide +kernel)) (fun _ _ _ _ _ => (pg_name (i := 1) sc_law_copy.nd rfl (Or.inl rfl))) (fun _ _ _ _ _ => pts_nil) (fun _ _ _ _ _ => (pe_cl c_law_copy hr (by omega) rfl (pa_cons (pv 1) pa_nil)))) pa_nil)))) pss_nil)
      (pss_one (ps_ret (pv 0))))), ?_⟩
      rw [show L2.start N_law_copy [u] = [some u, none] from rfl]
      cases d with
      | non =>
        obtain rfl : u = .non := ru
        simp only [tSeq, tNext, tDrop, tRet, tRetN, tIfS, tAsg, gName, tAug, ipI, tVar, tC, tOp, tUn, rI, rI0, rU, tCons, tNil, tCB, tTup, tLst, tTest, tB, tAnd, tOr, tNot, tAndV, tOrV, tNotV, tIf, tCl, tCd, tCk, gSub, rPutL, rAtQ, rIntI, rLenQ, rLenS, rListQ, rTupL, rTupQ, rIsQ_c, kd_non, kd_bl, kd_int, kd_str, kd_ref, kdO_lst, kdO_tup, kit_NoneType_bool, kit_NoneType_int, kit_NoneType_str, kit_NoneType_list, kit_NoneType_tuple, kit_bool_bool, kit_bool_int, kit_bool_str, kit_bool_list, kit_bool_tuple, kit_int_bool, kit_int_int, kit_int_str, kit_int_list, kit_int_tuple, kit_str_bool, kit_str_int, kit_str_str, kit_str_list, kit_str_tuple, kit_list_bool, kit_list_int, kit_list_str, kit_list_list, kit_list_tuple, kit_tuple_bool, kit_tuple_int, kit_tuple_str, kit_tuple_list, kit_tuple_tuple, V.ty.injEq, rSortQ, rSlQ, rMulS, tJn, rAtX, rSlS, tSl, tPart, tNoPart, cut_lo2, cut_hi2, rInQ, gLq, gTq, gC_c, gNil, tChain, List.cons_append, List.nil_append, tBL, tBL0, tBad, tCr, tCe, tXF, cxH_K, HO.xd.injEq, rApp, rPopN, rRevL, seqAt_lst, seqAt_tup, at_0, at_1, at_2, at_3, at_4, ix_0, ix_1, ix_2, ix_3, ix_4, cx_K, upd_same, List.length_cons, List.length_nil, Nat.reduceAdd,  rEq, rNe, tRevL, V.int.injEq, V.bl.injEq, V.str.injEq, V.ref.injEq, List.cons.injEq, and_true, true_and, exists_and_left, exists_and_right, exists_eq_left, exists_eq_left', exists_eq_right, exists_eq_right', exists_const, Option.some.injEq, List.getElem?_cons_zero, List.getElem?_cons_succ, List.set_cons_zero, List.set_cons_succ, decide_eq_true_eq, decide_true, decide_false,  scal_ii, scal_bb, scal_ss, cmul_r, cdiv_l, cpow_12, cpow_18, cpow_40, HO.lst.injEq, HO.tup.injEq, upd_upd, Int.reduceToNat,  decide_not, Bool.not_eq_true', decide_eq_false_iff_not, if_true, if_false, Bool.false_eq_true, Bool.true_eq_false, reduceCtorEq, Int.reduceNeg, Nat.reduceLT, Int.reduceLT, Int.reducePow, gt_iff_lt]
        exact q _ _ (Same.refl H) rfl
      | bl b =>
        obtain rfl : u = .bl b := ru
        simp only [tSeq, tNext, tDrop, tRet, tRetN, tIfS, tAsg, gName, tAug, ipI, tVar, tC, tOp, tUn, rI, rI0, rU, tCons, tNil, tCB, tTup, tLst, tTest, tB, tAnd, tOr, tNot, tAndV, tOrV, tNotV, tIf, tCl, tCd, tCk, gSub, rPutL, rAtQ, rIntI, rLenQ, rLenS, rListQ, rTupL, rTupQ, rIsQ_c, kd_non, kd_bl, kd_int, kd_str, kd_ref, kdO_lst, kdO_tup, kit_NoneType_bool, kit_NoneType_int, kit_NoneType_str, kit_NoneType_list, kit_NoneType_tuple, kit_bool_bool, kit_bool_int, kit_bool_str, kit_bool_list, kit_bool_tuple, kit_int_bool, kit_int_int, kit_int_str, kit_int_list, kit_int_tuple, kit_str_bool, kit_str_int, kit_str_str, kit_str_list, kit_str_tuple, kit_list_bool, kit_list_int, kit_list_str, kit_list_list, kit_list_tuple, kit_tuple_bool, kit_tuple_int, kit_tuple_str, kit_tuple_list, kit_tuple_tuple, V.ty.injEq, rSortQ, rSlQ, rMulS, tJn, rAtX, rSlS, tSl, tPart, tNoPart, cut_lo2, cut_hi2, rInQ, gLq, gTq, gC_c, gNil, tChain, List.cons_append, List.nil_append, tBL, tBL0, tBad, tCr, tCe, tXF, cxH_K, HO.xd.injEq, rApp, rPopN, rRevL, seqAt_lst, seqAt_tup, at_0, at_1, at_2, at_3, at_4, ix_0, ix_1, ix_2, ix_3, ix_4, cx_K, upd_same, List.length_cons, List.length_nil, Nat.reduceAdd,  rEq, rNe, tRevL, V.int.injEq, V.bl.injEq, V.str.injEq, V.ref.injEq, List.cons.injEq, and_true, true_and, exists_and_left, exists_and_right, exists_eq_left, exists_eq_left', exists_eq_right, exists_eq_right', exists_const, Option.some.injEq, List.getElem?_cons_zero, List.getElem?_cons_succ, List.set_cons_zero, List.set_cons_succ, decide_eq_true_eq, decide_true, decide_false,  scal_ii, scal_bb, scal_ss, cmul_r, cdiv_l, cpow_12, cpow_18, cpow_40, HO.lst.injEq, HO.tup.injEq, upd_upd, Int.reduceToNat,  decide_not, Bool.not_eq_true', decide_eq_false_iff_not, if_true, if_false, Bool.false_eq_true, Bool.true_eq_false, reduceCtorEq, Int.reduceNeg, Nat.reduceLT, Int.reduceLT, Int.reducePow, gt_iff_lt]
        exact q _ _ (Same.refl H) rfl
      | int b =>
        obtain rfl : u = .int b := ru
        simp only [tSeq, tNext, tDrop, tRet, tRetN, tIfS, tAsg, gName, tAug, ipI, tVar, tC, tOp, tUn, rI, rI0, rU, tCons, tNil, tCB, tTup, tLst, tTest, tB, tAnd, tOr, tNot, tAndV, tOrV, tNotV, tIf, tCl, tCd, tCk, gSub, rPutL, rAtQ, rIntI, rLenQ, rLenS, rListQ, rTupL, rTupQ, rIsQ_c, kd_non, kd_bl, kd_int, kd_str, kd_ref, kdO_lst, kdO_tup, kit_NoneType_bool, kit_NoneType_int, kit_NoneType_str, kit_NoneType_list, kit_NoneType_tuple, kit_bool_bool, kit_bool_int, kit_bool_str, kit_bool_list, kit_bool_tuple, kit_int_bool, kit_int_int, kit_int_str, kit_int_list, kit_int_tuple, kit_str_bool, kit_str_int, kit_str_str, kit_str_list, kit_str_tuple, kit_list_bool, kit_list_int, kit_list_str, kit_list_list, kit_list_tuple, kit_tuple_bool, kit_tuple_int, kit_tuple_str, kit_tuple_list, kit_tuple_tuple, V.ty.injEq, rSortQ, rSlQ, rMulS, tJn, rAtX, rSlS, tSl, tPart, tNoPart, cut_lo2, cut_hi2, rInQ, gLq, gTq, gC_c, gNil, tChain, List.cons_append, List.nil_append, tBL, tBL0, tBad, tCr, tCe, tXF, cxH_K, HO.xd.injEq, rApp, rPopN, rRevL, seqAt_lst, seqAt_tup, at_0, at_1, at_2, at_3, at_4, ix_0, ix_1, ix_2, ix_3, ix_4, cx_K, upd_same, List.length_cons, List.length_nil, Nat.reduceAdd,  rEq, rNe, tRevL, V.int.injEq, V.bl.injEq, V.str.injEq, V.ref.injEq, List.cons.injEq, and_true, true_and, exists_and_left, exists_and_right, exists_eq_left, exists_eq_left', exists_eq_right, exists_eq_right', exists_const, Option.some.injEq, List.getElem?_cons_zero, List.getElem?_cons_succ, List.set_cons_zero, List.set_cons_succ, decide_eq_true_eq, decide_true, decide_false,  scal_ii, scal_bb, scal_ss, cmul_r, cdiv_l, cpow_12, cpow_18, cpow_40, HO.lst.injEq, HO.tup.injEq, upd_upd, Int.reduceToNat,  decide_not, Bool.not_eq_true', decide_eq_false_iff_not, if_true, if_false, Bool.false_eq_true, Bool.true_eq_false, reduceCtorEq, Int.reduceNeg, Nat.reduceLT, Int.reduceLT, Int.reducePow, gt_iff_lt]
        exact q _ _ (Same.refl H) rfl
      | str b =>
        obtain rfl : u = .str b := ru
        simp only [tSeq, tNext, tDrop, tRet, tRetN, tIfS, tAsg, gName, tAug, ipI, tVar, tC, tOp, tUn, rI, rI0, rU, tCons, tNil, tCB, tTup, tLst, tTest, tB, tAnd, tOr, tNot, tAndV, tOrV, tNotV, tIf, tCl, tCd, tCk, gSub, rPutL, rAtQ, rIntI, rLenQ, rLenS, rListQ, rTupL, rTupQ, rIsQ_c, kd_non, kd_bl, kd_int, kd_str, kd_ref, kdO_lst, kdO_tup, kit_NoneType_bool, kit_NoneType_int, kit_NoneType_str, kit_NoneType_list, kit_NoneType_tuple, kit_bool_bool, kit_bool_int, kit_bool_str, kit_bool_list, kit_bool_tuple, kit_int_bool, kit_int_int, kit_int_str, kit_int_list, kit_int_tuple, kit_str_bool, kit_str_int, kit_str_str, kit_str_list, kit_str_tuple, kit_list_bool, kit_list_int, kit_list_str, kit_list_list, kit_list_tuple, kit_tuple_bool, kit_tuple_int, kit_tuple_str, kit_tuple_list, kit_tuple_tuple, V.ty.injEq, rSortQ, rSlQ, rMulS, tJn, rAtX, rSlS, tSl, tPart, tNoPart, cut_lo2, cut_hi2, rInQ, gLq, gTq, gC_c, gNil, tChain, List.cons_append, List.nil_append, tBL, tBL0, tBad, tCr, tCe, tXF, cxH_K, HO.xd.injEq, rApp, rPopN, rRevL, seqAt_lst, seqAt_tup, at_0, at_1, at_2, at_3, at_4, ix_0, ix_1, ix_2, ix_3, ix_4, cx_K, upd_same, List.length_cons, List.length_nil, Nat.reduceAdd,  rEq, rNe, tRevL, V.int.injEq, V.bl.injEq, V.str.injEq, V.ref.injEq, List.cons.injEq, and_true, true_and, exists_and_left, exists_and_right, exists_eq_left, exists_eq_left', exists_eq_right, exists_eq_right', exists_const, Option.some.injEq, List.getElem?_cons_zero, List.getElem?_cons_succ, List.set_cons_zero, List.set_cons_succ, decide_eq_true_eq, decide_true, decide_false,  scal_ii, scal_bb, scal_ss, cmul_r, cdiv_l, cpow_12, cpow_18, cpow_40, HO.lst.injEq, HO.tup.injEq, upd_upd, Int.reduceToNat,  decide_not, Bool.not_eq_true', decide_eq_false_iff_not, if_true, if_false, Bool.false_eq_true, Bool.true_eq_false, reduceCtorEq, Int.reduceNeg, Nat.reduceLT, Int.reduceLT, Int.reducePow, gt_iff_lt]
        exact q _ _ (Same.refl H) rfl
      | lst ds =>
        obtain ⟨a, xs, rfl, na, ha, hx, pa⟩ := ru
        simp only [tSeq, tNext, tDrop, tRet, tRetN, tIfS, tAsg, gName, tAug, ipI, tVar, tC, tOp, tUn, rI, rI0, rU, tCons, tNil, tCB, tTup, tLst, tTest, tB, tAnd, tOr, tNot, tAndV, tOrV, tNotV, tIf, tCl, tCd, tCk, gSub, rPutL, rAtQ, rIntI, rLenQ, rLenS, rListQ, rTupL, rTupQ, rIsQ_c, kd_non, kd_bl, kd_int, kd_str, kd_ref, kdO_lst, kdO_tup, kit_NoneType_bool, kit_NoneType_int, kit_NoneType_str, kit_NoneType_list, kit_NoneType_tuple, kit_bool_bool, kit_bool_int, kit_bool_str, kit_bool_list, kit_bool_tuple, kit_int_bool, kit_int_int, kit_int_str, kit_int_list, kit_int_tuple, kit_str_bool, kit_str_int, kit_str_str, kit_str_list, kit_str_tuple, kit_list_bool, kit_list_int, kit_list_str, kit_list_list, kit_list_tuple, kit_tuple_bool, kit_tuple_int, kit_tuple_str, kit_tuple_list, kit_tuple_tuple, V.ty.injEq, rSortQ, rSlQ, rMulS, tJn, rAtX, rSlS, tSl, tPart, tNoPart, cut_lo2, cut_hi2, rInQ, gLq, gTq, gC_c, gNil, tChain, List.cons_append, List.nil_append, tBL, tBL0, tBad, tCr, tCe, tXF, cxH_K, HO.xd.injEq, rApp, rPopN, rRevL, seqAt_lst, seqAt_tup, at_0, at_1, at_2, at_3, at_4, ix_0, ix_1, ix_2, ix_3, ix_4, cx_K, upd_same, List.length_cons, List.length_nil, Nat.reduceAdd,  rEq, rNe, tRevL, V.int.injEq, V.bl.injEq, V.str.injEq, V.ref.injEq, List.cons.injEq, and_true, true_and, exists_and_left, exists_and_right, exists_eq_left, exists_eq_left', exists_eq_right, exists_eq_right', exists_const, Option.some.injEq, List.getElem?_cons_zero, List.getElem?_cons_succ, List.set_cons_zero, List.set_cons_succ, decide_eq_true_eq, decide_true, decide_false,  scal_ii, scal_bb, scal_ss, cmul_r, cdiv_l, cpow_12, cpow_18, cpow_40, HO.lst.injEq, HO.tup.injEq, upd_upd, Int.reduceToNat,  decide_not, Bool.not_eq_true', decide_eq_false_iff_not, if_true, if_false, Bool.false_eq_true, Bool.true_eq_false, reduceCtorEq, Int.reduceNeg, Nat.reduceLT, Int.reduceLT, Int.reducePow, gt_iff_lt, ha]
        refine z_lcL a xs (fun Q q => ?_) (SqL.of ha) (fun D i H' => Same H H' ∧ ∃ zs, H' D = some (.lst zs) ∧ zs.length = i ∧ Paired (fun v d => Rp (fun p => N p ∧ p ≠ D) H' n v d) zs (ds.take i)) (fun D hD => ⟨same_new hD, [], upd_same, rfl, .nil⟩) (fun v => rfl)
          (fun D i H' hD hI => SqL.of (hI.1 _ _ ha)) (fun D i x H' hD hx hI => ?_) (fun D H' hD hI => ?_)
        · simp only [tSeq, tNext, tDrop, tRet, tRetN, tIfS, tAsg, gName, tAug, ipI, tVar, tC, tOp, tUn, rI, rI0, rU, tCons, tNil, tCB, tTup, tLst, tTest, tB, tAnd, tOr, tNot, tAndV, tOrV, tNotV, tIf, tCl, tCd, tCk, gSub, rPutL, rAtQ, rIntI, rLenQ, rLenS, rListQ, rTupL, rTupQ, rIsQ_c, kd_non, kd_bl, kd_int, kd_str, kd_ref, kdO_lst, kdO_tup, kit_NoneType_bool, kit_NoneType_int, kit_NoneType_str, kit_NoneType_list, kit_NoneType_tuple, kit_bool_bool, kit_bool_int, kit_bool_str, kit_bool_list, kit_bool_tuple, kit_int_bool, kit_int_int, kit_int_str, kit_int_list, kit_int_tuple, kit_str_bool, kit_str_int, kit_str_str, kit_str_list, kit_str_tuple, kit_list_bool, kit_list_int, kit_list_str, kit_list_list, kit_list_tuple, kit_tuple_bool, kit_tuple_int, kit_tuple_str, kit_tuple_list, kit_tuple_tuple, V.ty.injEq, rSortQ, rSlQ, rMulS, tJn, rAtX, rSlS, tSl, tPart, tNoPart, cut_lo2, cut_hi2, rInQ, gLq, gTq, gC_c, gNil, tChain, List.cons_append, List.nil_append, tBL, tBL0, tBad, tCr, tCe, tXF, cxH_K, HO.xd.injEq, rApp, rPopN, rRevL, seqAt_lst, seqAt_tup, at_0, at_1, at_2, at_3, at_4, ix_0, ix_1, ix_2, ix_3, ix_4, cx_K, upd_same, List.length_cons, List.length_nil, Nat.reduceAdd,  rEq, rNe, tRevL, V.int.injEq, V.bl.injEq, V.str.injEq, V.ref.injEq, List.cons.injEq, and_true, true_and, exists_and_left, exists_and_right, exists_eq_left, exists_eq_left', exists_eq_right, exists_eq_right', exists_const, Option.some.injEq, List.getElem?_cons_zero, List.getElem?_cons_succ, List.set_cons_zero, List.set_cons_succ, decide_eq_true_eq, decide_true, decide_false,  scal_ii, scal_bb, scal_ss, cmul_r, cdiv_l, cpow_12, cpow_18, cpow_40, HO.lst.injEq, HO.tup.injEq, upd_upd, Int.reduceToNat,  decide_not, Bool.not_eq_true', decide_eq_false_iff_not, if_true, if_false, Bool.false_eq_true, Bool.true_eq_false, reduceCtorEq, Int.reduceNeg, Nat.reduceLT, Int.reduceLT, Int.reducePow, gt_iff_lt]
          exact q
        · obtain ⟨e1, zs, hz, hl, hp⟩ := hI
          obtain ⟨d, hd, rd⟩ := paired_get pa hx
          have ilt := (List.getElem?_eq_some_iff.mp hx).1
          simp only [tSeq, tNext, tDrop, tRet, tRetN, tIfS, tAsg, gName, tAug, ipI, tVar, tC, tOp, tUn, rI, rI0, rU, tCons, tNil, tCB, tTup, tLst, tTest, tB, tAnd, tOr, tNot, tAndV, tOrV, tNotV, tIf, tCl, tCd, tCk, gSub, rPutL, rAtQ, rIntI, rLenQ, rLenS, rListQ, rTupL, rTupQ, rIsQ_c, kd_non, kd_bl, kd_int, kd_str, kd_ref, kdO_lst, kdO_tup, kit_NoneType_bool, kit_NoneType_int, kit_NoneType_str, kit_NoneType_list, kit_NoneType_tuple, kit_bool_bool, kit_bool_int, kit_bool_str, kit_bool_list, kit_bool_tuple, kit_int_bool, kit_int_int, kit_int_str, kit_int_list, kit_int_tuple, kit_str_bool, kit_str_int, kit_str_str, kit_str_list, kit_str_tuple, kit_list_bool, kit_list_int, kit_list_str, kit_list_list, kit_list_tuple, kit_tuple_bool, kit_tuple_int, kit_tuple_str, kit_tuple_list, kit_tuple_tuple, V.ty.injEq, rSortQ, rSlQ, rMulS, tJn, rAtX, rSlS, tSl, tPart, tNoPart, cut_lo2, cut_hi2, rInQ, gLq, gTq, gC_c, gNil, tChain, List.cons_append, List.nil_append, tBL, tBL0, tBad, tCr, tCe, tXF, cxH_K, HO.xd.injEq, rApp, rPopN, rRevL, seqAt_lst, seqAt_tup, at_0, at_1, at_2, at_3, at_4, ix_0, ix_1, ix_2, ix_3, ix_4, cx_K, upd_same, List.length_cons, List.length_nil, Nat.reduceAdd,  rEq, rNe, tRevL, V.int.injEq, V.bl.injEq, V.str.injEq, V.ref.injEq, List.cons.injEq, and_true, true_and, exists_and_left, exists_and_right, exists_eq_left, exists_eq_left', exists_eq_right, exists_eq_right', exists_const, Option.some.injEq, List.getElem?_cons_zero, List.getElem?_cons_succ, List.set_cons_zero, List.set_cons_succ, decide_eq_true_eq, decide_true, decide_false,  scal_ii, scal_bb, scal_ss, cmul_r, cdiv_l, cpow_12, cpow_18, cpow_40, HO.lst.injEq, HO.tup.injEq, upd_upd, Int.reduceToNat,  decide_not, Bool.not_eq_true', decide_eq_false_iff_not, if_true, if_false, Bool.false_eq_true, Bool.true_eq_false, reduceCtorEq, Int.reduceNeg, Nat.reduceLT, Int.reduceLT, Int.reducePow, gt_iff_lt, wipe, List.map_cons, List.map_nil]
          refine ⟨fun p => N p ∧ p ≠ D, _, d, rfl, (rd.off hD).same e1, fun p hp' => ⟨hN p (e1.free hp'), (ne_of_none hz hp').symm⟩, fun v H2 e2 rv => ?_⟩
          simp only [tSeq, tNext, tDrop, tRet, tRetN, tIfS, tAsg, gName, tAug, ipI, tVar, tC, tOp, tUn, rI, rI0, rU, tCons, tNil, tCB, tTup, tLst, tTest, tB, tAnd, tOr, tNot, tAndV, tOrV, tNotV, tIf, tCl, tCd, tCk, gSub, rPutL, rAtQ, rIntI, rLenQ, rLenS, rListQ, rTupL, rTupQ, rIsQ_c, kd_non, kd_bl, kd_int, kd_str, kd_ref, kdO_lst, kdO_tup, kit_NoneType_bool, kit_NoneType_int, kit_NoneType_str, kit_NoneType_list, kit_NoneType_tuple, kit_bool_bool, kit_bool_int, kit_bool_str, kit_bool_list, kit_bool_tuple, kit_int_bool, kit_int_int, kit_int_str, kit_int_list, kit_int_tuple, kit_str_bool, kit_str_int, kit_str_str, kit_str_list, kit_str_tuple, kit_list_bool, kit_list_int, kit_list_str, kit_list_list, kit_list_tuple, kit_tuple_bool, kit_tuple_int, kit_tuple_str, kit_tuple_list, kit_tuple_tuple, V.ty.injEq, rSortQ, rSlQ, rMulS, tJn, rAtX, rSlS, tSl, tPart, tNoPart, cut_lo2, cut_hi2, rInQ, gLq, gTq, gC_c, gNil, tChain, List.cons_append, List.nil_append, tBL, tBL0, tBad, tCr, tCe, tXF, cxH_K, HO.xd.injEq, rApp, rPopN, rRevL, seqAt_lst, seqAt_tup, at_0, at_1, at_2, at_3, at_4, ix_0, ix_1, ix_2, ix_3, ix_4, cx_K, upd_same, List.length_cons, List.length_nil, Nat.reduceAdd,  rEq, rNe, tRevL, V.int.injEq, V.bl.injEq, V.str.injEq, V.ref.injEq, List.cons.injEq, and_true, true_and, exists_and_left, exists_and_right, exists_eq_left, exists_eq_left', exists_eq_right, exists_eq_right', exists_const, Option.some.injEq, List.getElem?_cons_zero, List.getElem?_cons_succ, List.set_cons_zero, List.set_cons_succ, decide_eq_true_eq, decide_true, decide_false,  scal_ii, scal_bb, scal_ss, cmul_r, cdiv_l, cpow_12, cpow_18, cpow_40, HO.lst.injEq, HO.tup.injEq, upd_upd, Int.reduceToNat,  decide_not, Bool.not_eq_true', decide_eq_false_iff_not, if_true, if_false, Bool.false_eq_true, Bool.true_eq_false, reduceCtorEq, Int.reduceNeg, Nat.reduceLT, Int.reduceLT, Int.reducePow, gt_iff_lt]
          refine ⟨zs, e2 _ _ hz, sz_lt (by omega), fun b o h => ?_, by rw [List.length_append, hl] <;> rfl, ?_⟩
          · rw [upd_ne (ne_of_none h hD)]
            exact e2 _ _ (e1 _ _ h)
          · rw [List.take_add_one, hd]
            exact paired_snoc rv.upd (paired_imp (fun _ _ r => (r.same e2).upd) hp)
        · obtain ⟨e1, zs, hz, hl, hp⟩ := hI
          rw [paired_len pa, List.take_length] at hp
          exact q _ H' e1 ⟨D, zs, rfl, hN D hD, hz, by omega, paired_imp (fun _ _ r => r.on) hp⟩
      | tup ds =>
        obtain ⟨a, xs, rfl, na, ha, hx, pa⟩ := ru
        simp only [tSeq, tNext, tDrop, tRet, tRetN, tIfS, tAsg, gName, tAug, ipI, tVar, tC, tOp, tUn, rI, rI0, rU, tCons, tNil, tCB, tTup, tLst, tTest, tB, tAnd, tOr, tNot, tAndV, tOrV, tNotV, tIf, tCl, tCd, tCk, gSub, rPutL, rAtQ, rIntI, rLenQ, rLenS, rListQ, rTupL, rTupQ, rIsQ_c, kd_non, kd_bl, kd_int, kd_str, kd_ref, kdO_lst, kdO_tup, kit_NoneType_bool, kit_NoneType_int, kit_NoneType_str, kit_NoneType_list, kit_NoneType_tuple, kit_bool_bool, kit_bool_int, kit_bool_str, kit_bool_list, kit_bool_tuple, kit_int_bool, kit_int_int, kit_int_str, kit_int_list, kit_int_tuple, kit_str_bool, kit_str_int, kit_str_str, kit_str_list, kit_str_tuple, kit_list_bool, kit_list_int, kit_list_str, kit_list_list, kit_list_tuple, kit_tuple_bool, kit_tuple_int, kit_tuple_str, kit_tuple_list, kit_tuple_tuple, V.ty.injEq, rSortQ, rSlQ, rMulS, tJn, rAtX, rSlS, tSl, tPart, tNoPart, cut_lo2, cut_hi2, rInQ, gLq, gTq, gC_c, gNil, tChain, List.cons_append, List.nil_append, tBL, tBL0, tBad, tCr, tCe, tXF, cxH_K, HO.xd.injEq, rApp, rPopN, rRevL, seqAt_lst, seqAt_tup, at_0, at_1, at_2, at_3, at_4, ix_0, ix_1, ix_2, ix_3, ix_4, cx_K, upd_same, List.length_cons, List.length_nil, Nat.reduceAdd,  rEq, rNe, tRevL, V.int.injEq, V.bl.injEq, V.str.injEq, V.ref.injEq, List.cons.injEq, and_true, true_and, exists_and_left, exists_and_right, exists_eq_left, exists_eq_left', exists_eq_right, exists_eq_right', exists_const, Option.some.injEq, List.getElem?_cons_zero, List.getElem?_cons_succ, List.set_cons_zero, List.set_cons_succ, decide_eq_true_eq, decide_true, decide_false,  scal_ii, scal_bb, scal_ss, cmul_r, cdiv_l, cpow_12, cpow_18, cpow_40, HO.lst.injEq, HO.tup.injEq, upd_upd, Int.reduceToNat,  decide_not, Bool.not_eq_true', decide_eq_false_iff_not, if_true, if_false, Bool.false_eq_true, Bool.true_eq_false, reduceCtorEq, Int.reduceNeg, Nat.reduceLT, Int.reduceLT, Int.reducePow, gt_iff_lt, ha]
        refine z_lcT a xs (fun Q q => ?_) (SqT.of ha) (fun D i H' => Same H H' ∧ ∃ zs, H' D = some (.lst zs) ∧ zs.length = i ∧ Paired (fun v d => Rp (fun p => N p ∧ p ≠ D) H' n v d) zs (ds.take i)) (fun D hD => ⟨same_new hD, [], upd_same, rfl, .nil⟩) (fun v => rfl)
          (fun D i H' hD hI => SqT.of (hI.1 _ _ ha)) (fun D i x H' hD hx hI => ?_) (fun D H' hD hI => ?_)
        · simp only [tSeq, tNext, tDrop, tRet, tRetN, tIfS, tAsg, gName, tAug, ipI, tVar, tC, tOp, tUn, rI, rI0, rU, tCons, tNil, tCB, tTup, tLst, tTest, tB, tAnd, tOr, tNot, tAndV, tOrV, tNotV, tIf, tCl, tCd, tCk, gSub, rPutL, rAtQ, rIntI, rLenQ, rLenS, rListQ, rTupL, rTupQ, rIsQ_c, kd_non, kd_bl, kd_int, kd_str, kd_ref, kdO_lst, kdO_tup, kit_NoneType_bool, kit_NoneType_int, kit_NoneType_str, kit_NoneType_list, kit_NoneType_tuple, kit_bool_bool, kit_bool_int, kit_bool_str, kit_bool_list, kit_bool_tuple, kit_int_bool, kit_int_int, kit_int_str, kit_int_list, kit_int_tuple, kit_str_bool, kit_str_int, kit_str_str, kit_str_list, kit_str_tuple, kit_list_bool, kit_list_int, kit_list_str, kit_list_list, kit_list_tuple, kit_tuple_bool, kit_tuple_int, kit_tuple_str, kit_tuple_list, kit_tuple_tuple, V.ty.injEq, rSortQ, rSlQ, rMulS, tJn, rAtX, rSlS, tSl, tPart, tNoPart, cut_lo2, cut_hi2, rInQ, gLq, gTq, gC_c, gNil, tChain, List.cons_append, List.nil_append, tBL, tBL0, tBad, tCr, tCe, tXF, cxH_K, HO.xd.injEq, rApp, rPopN, rRevL, seqAt_lst, seqAt_tup, at_0, at_1, at_2, at_3, at_4, ix_0, ix_1, ix_2, ix_3, ix_4, cx_K, upd_same, List.length_cons, List.length_nil, Nat.reduceAdd,  rEq, rNe, tRevL, V.int.injEq, V.bl.injEq, V.str.injEq, V.ref.injEq, List.cons.injEq, and_true, true_and, exists_and_left, exists_and_right, exists_eq_left, exists_eq_left', exists_eq_right, exists_eq_right', exists_const, Option.some.injEq, List.getElem?_cons_zero, List.getElem?_cons_succ, List.set_cons_zero, List.set_cons_succ, decide_eq_true_eq, decide_true, decide_false,  scal_ii, scal_bb, scal_ss, cmul_r, cdiv_l, cpow_12, cpow_18, cpow_40, HO.lst.injEq, HO.tup.injEq, upd_upd, Int.reduceToNat,  decide_not, Bool.not_eq_true', decide_eq_false_iff_not, if_true, if_false, Bool.false_eq_true, Bool.true_eq_false, reduceCtorEq, Int.reduceNeg, Nat.reduceLT, Int.reduceLT, Int.reducePow, gt_iff_lt]
          exact q
        · obtain ⟨e1, zs, hz, hl, hp⟩ := hI
          obtain ⟨d, hd, rd⟩ := paired_get pa hx
          have ilt := (List.getElem?_eq_some_iff.mp hx).1
          simp only [tSeq, tNext, tDrop, tRet, tRetN, tIfS, tAsg, gName, tAug, ipI, tVar, tC, tOp, tUn, rI, rI0, rU, tCons, tNil, tCB, tTup, tLst, tTest, tB, tAnd, tOr, tNot, tAndV, tOrV, tNotV, tIf, tCl, tCd, tCk, gSub, rPutL, rAtQ, rIntI, rLenQ, rLenS, rListQ, rTupL, rTupQ, rIsQ_c, kd_non, kd_bl, kd_int, kd_str, kd_ref, kdO_lst, kdO_tup, kit_NoneType_bool, kit_NoneType_int, kit_NoneType_str, kit_NoneType_list, kit_NoneType_tuple, kit_bool_bool, kit_bool_int, kit_bool_str, kit_bool_list, kit_bool_tuple, kit_int_bool, kit_int_int, kit_int_str, kit_int_list, kit_int_tuple, kit_str_bool, kit_str_int, kit_str_str, kit_str_list, kit_str_tuple, kit_list_bool, kit_list_int, kit_list_str, kit_list_list, kit_list_tuple, kit_tuple_bool, kit_tuple_int, kit_tuple_str, kit_tuple_list, kit_tuple_tuple, V.ty.injEq, rSortQ, rSlQ, rMulS, tJn, rAtX, rSlS, tSl, tPart, tNoPart, cut_lo2, cut_hi2, rInQ, gLq, gTq, gC_c, gNil, tChain, List.cons_append, List.nil_append, tBL, tBL0, tBad, tCr, tCe, tXF, cxH_K, HO.xd.injEq, rApp, rPopN, rRevL, seqAt_lst, seqAt_tup, at_0, at_1, at_2, at_3, at_4, ix_0, ix_1, ix_2, ix_3, ix_4, cx_K, upd_same, List.length_cons, List.length_nil, Nat.reduceAdd,  rEq, rNe, tRevL, V.int.injEq, V.bl.injEq, V.str.injEq, V.ref.injEq, List.cons.injEq, and_true, true_and, exists_and_left, exists_and_right, exists_eq_left, exists_eq_left', exists_eq_right, exists_eq_right', exists_const, Option.some.injEq, List.getElem?_cons_zero, List.getElem?_cons_succ, List.set_cons_zero, List.set_cons_succ, decide_eq_true_eq, decide_true, decide_false,  scal_ii, scal_bb, scal_ss, cmul_r, cdiv_l, cpow_12, cpow_18, cpow_40, HO.lst.injEq, HO.tup.injEq, upd_upd, Int.reduceToNat,  decide_not, Bool.not_eq_true', decide_eq_false_iff_not, if_true, if_false, Bool.false_eq_true, Bool.true_eq_false, reduceCtorEq, Int.reduceNeg, Nat.reduceLT, Int.reduceLT, Int.reducePow, gt_iff_lt, wipe, List.map_cons, List.map_nil]
          refine ⟨fun p => N p ∧ p ≠ D, _, d, rfl, (rd.off hD).same e1, fun p hp' => ⟨hN p (e1.free hp'), (ne_of_none hz hp').symm⟩, fun v H2 e2 rv => ?_⟩
          simp only [tSeq, tNext, tDrop, tRet, tRetN, tIfS, tAsg, gName, tAug, ipI, tVar, tC, tOp, tUn, rI, rI0, rU, tCons, tNil, tCB, tTup, tLst, tTest, tB, tAnd, tOr, tNot, tAndV, tOrV, tNotV, tIf, tCl, tCd, tCk, gSub, rPutL, rAtQ, rIntI, rLenQ, rLenS, rListQ, rTupL, rTupQ, rIsQ_c, kd_non, kd_bl, kd_int, kd_str, kd_ref, kdO_lst, kdO_tup, kit_NoneType_bool, kit_NoneType_int, kit_NoneType_str, kit_NoneType_list, kit_NoneType_tuple, kit_bool_bool, kit_bool_int, kit_bool_str, kit_bool_list, kit_bool_tuple, kit_int_bool, kit_int_int, kit_int_str, kit_int_list, kit_int_tuple, kit_str_bool, kit_str_int, kit_str_str, kit_str_list, kit_str_tuple, kit_list_bool, kit_list_int, kit_list_str, kit_list_list, kit_list_tuple, kit_tuple_bool, kit_tuple_int, kit_tuple_str, kit_tuple_list, kit_tuple_tuple, V.ty.injEq, rSortQ, rSlQ, rMulS, tJn, rAtX, rSlS, tSl, tPart, tNoPart, cut_lo2, cut_hi2, rInQ, gLq, gTq, gC_c, gNil, tChain, List.cons_append, List.nil_append, tBL, tBL0, tBad, tCr, tCe, tXF, cxH_K, HO.xd.injEq, rApp, rPopN, rRevL, seqAt_lst, seqAt_tup, at_0, at_1, at_2, at_3, at_4, ix_0, ix_1, ix_2, ix_3, ix_4, cx_K, upd_same, List.length_cons, List.length_nil, Nat.reduceAdd,  rEq, rNe, tRevL, V.int.injEq, V.bl.injEq, V.str.injEq, V.ref.injEq, List.cons.injEq, and_true, true_and, exists_and_left, exists_and_right, exists_eq_left, exists_eq_left', exists_eq_right, exists_eq_right', exists_const, Option.some.injEq, List.getElem?_cons_zero, List.getElem?_cons_succ, List.set_cons_zero, List.set_cons_succ, decide_eq_true_eq, decide_true, decide_false,  scal_ii, scal_bb, scal_ss, cmul_r, cdiv_l, cpow_12, cpow_18, cpow_40, HO.lst.injEq, HO.tup.injEq, upd_upd, Int.reduceToNat,  decide_not, Bool.not_eq_true', decide_eq_false_iff_not, if_true, if_false, Bool.false_eq_true, Bool.true_eq_false, reduceCtorEq, Int.reduceNeg, Nat.reduceLT, Int.reduceLT, Int.reducePow, gt_iff_lt]
          refine ⟨zs, e2 _ _ hz, sz_lt (by omega), fun b o h => ?_, by rw [List.length_append, hl] <;> rfl, ?_⟩
          · rw [upd_ne (ne_of_none h hD)]
            exact e2 _ _ (e1 _ _ h)
          · rw [List.take_add_one, hd]
            exact paired_snoc rv.upd (paired_imp (fun _ _ r => (r.same e2).upd) hp)
        · obtain ⟨e1, zs, hz, hl, hp⟩ := hI
          rw [paired_len pa, List.take_length] at hp
          simp only [tSeq, tNext, tDrop, tRet, tRetN, tIfS, tAsg, gName, tAug, ipI, tVar, tC, tOp, tUn, rI, rI0, rU, tCons, tNil, tCB, tTup, tLst, tTest, tB, tAnd, tOr, tNot, tAndV, tOrV, tNotV, tIf, tCl, tCd, tCk, gSub, rPutL, rAtQ, rIntI, rLenQ, rLenS, rListQ, rTupL, rTupQ, rIsQ_c, kd_non, kd_bl, kd_int, kd_str, kd_ref, kdO_lst, kdO_tup, kit_NoneType_bool, kit_NoneType_int, kit_NoneType_str, kit_NoneType_list, kit_NoneType_tuple, kit_bool_bool, kit_bool_int, kit_bool_str, kit_bool_list, kit_bool_tuple, kit_int_bool, kit_int_int, kit_int_str, kit_int_list, kit_int_tuple, kit_str_bool, kit_str_int, kit_str_str, kit_str_list, kit_str_tuple, kit_list_bool, kit_list_int, kit_list_str, kit_list_list, kit_list_tuple, kit_tuple_bool, kit_tuple_int, kit_tuple_str, kit_tuple_list, kit_tuple_tuple, V.ty.injEq, rSortQ, rSlQ, rMulS, tJn, rAtX, rSlS, tSl, tPart, tNoPart, cut_lo2, cut_hi2, rInQ, gLq, gTq, gC_c, gNil, tChain, List.cons_append, List.nil_append, tBL, tBL0, tBad, tCr, tCe, tXF, cxH_K, HO.xd.injEq, rApp, rPopN, rRevL, seqAt_lst, seqAt_tup, at_0, at_1, at_2, at_3, at_4, ix_0, ix_1, ix_2, ix_3, ix_4, cx_K, upd_same, List.length_cons, List.length_nil, Nat.reduceAdd,  rEq, rNe, tRevL, V.int.injEq, V.bl.injEq, V.str.injEq, V.ref.injEq, List.cons.injEq, and_true, true_and, exists_and_left, exists_and_right, exists_eq_left, exists_eq_left', exists_eq_right, exists_eq_right', exists_const, Option.some.injEq, List.getElem?_cons_zero, List.getElem?_cons_succ, List.set_cons_zero, List.set_cons_succ, decide_eq_true_eq, decide_true, decide_false,  scal_ii, scal_bb, scal_ss, cmul_r, cdiv_l, cpow_12, cpow_18, cpow_40, HO.lst.injEq, HO.tup.injEq, upd_upd, Int.reduceToNat,  decide_not, Bool.not_eq_true', decide_eq_false_iff_not, if_true, if_false, Bool.false_eq_true, Bool.true_eq_false, reduceCtorEq, Int.reduceNeg, Nat.reduceLT, Int.reduceLT, Int.reducePow, gt_iff_lt, hz]
          intro l hl'
          exact q _ _ (e1.trans (same_new hl')) ⟨l, zs, rfl, hN l (e1.free hl'), upd_same, by omega, paired_imp (fun _ _ r => r.on.same (same_new hl')) hp⟩
end
end Z

set_option Elab.async false
set_option linter.all false
set_option maxRecDepth 100000
set_option maxHeartbeats 4000000
namespace Z
open PySem PySem.Spec PyProof.Rows L2
section
variable {P : Program} {w : World} {K : PySem.W.Frag} {mg : Str → Option Value} {base : Heap}
/-! ### two pairs that stand crosswise -/
theorem crossB_iff {a b c d : Int} : crossB a b c d = true ↔ (min a b < c ∧ c < max a b ∧ (d < min a b ∨ max a b < d)) ∨ (min a b < d ∧ d < max a b ∧ (c < min a b ∨ max a b < c)) := by
  unfold crossB
  by_cases h : (c = min a b ∨ d = min a b) ∨ (c = max a b ∨ d = max a b)
  · rw [if_pos h]
    constructor
    · intro z
      cases z
    · omega
  · rw [if_neg h]
    by_cases h1 : min a b < c ∧ c < max a b <;> by_cases h2 : min a b < d ∧ d < max a b
    · rw [decide_eq_true h1, decide_eq_true h2]
      refine ⟨fun z => Bool.noConfusion z, fun z => ?_⟩
      omega
    · rw [decide_eq_true h1, decide_eq_false h2]
      refine ⟨fun z => ?_, fun z => rfl⟩
      omega
    · rw [decide_eq_false h1, decide_eq_true h2]
      refine ⟨fun z => ?_, fun z => rfl⟩
      omega
    · rw [decide_eq_false h1, decide_eq_false h2]
      refine ⟨fun z => Bool.noConfusion z, fun z => ?_⟩
      omega
theorem crossB_swap1 {a b c d : Int} : crossB b a c d = crossB a b c d := by
  rw [Bool.eq_iff_iff, crossB_iff, crossB_iff]
  omega
theorem crossB_swap2 {a b c d : Int} : crossB a b d c = crossB a b c d := by
  rw [Bool.eq_iff_iff, crossB_iff, crossB_iff]
  omega
theorem crossB_sym {a b c d : Int} : crossB c d a b = crossB a b c d := by
  rw [Bool.eq_iff_iff, crossB_iff, crossB_iff]
  omega
theorem perm2 {ys : List V} {a b : Int} (h : ys.Perm [.int a, .int b]) : ys = [.int a, .int b] ∨ ys = [.int b, .int a] := by
  have e := h.length_eq
  match ys, e with
  | [x, y], _ =>
    have m1 : x ∈ [V.int a, V.int b] := h.mem_iff.mp (by simp)
    simp only [List.mem_cons, List.not_mem_nil, or_false] at m1
    rcases m1 with rfl | rfl
    · have z := (List.perm_cons _).mp h
      have z2 := List.perm_singleton.mp z
      cases z2
      exact .inl rfl
    · have z := (List.perm_cons (V.int b)).mp (h.trans (List.Perm.swap _ _ _))
      have z2 := List.perm_singleton.mp z
      cases z2
      exact .inr rfl
theorem perm2' {ys : List V} {a b : Int} (h : ys.Perm [.int a, .int b]) : ∃ y z : Int, ys = [.int y, .int z] ∧ (∀ c d, crossB y z c d = crossB a b c d) ∧ ∀ c d, crossB c d y z = crossB c d a b := by
  rcases perm2 h with rfl | rfl
  · exact ⟨a, b, rfl, fun _ _ => rfl, fun _ _ => rfl⟩
  · exact ⟨b, a, rfl, fun _ _ => crossB_swap1, fun _ _ => crossB_swap2⟩
theorem rp_pair {N : Addr → Prop} {H : Hp} {c : Addr} {x y : Int} (n : N c) (h : seqAt (H c) = some [.int x, .int y]) : ∃ d, Rp N H 4 (.ref c) d := by
  obtain ⟨o, e, h'⟩ := seq_some h
  cases o with
  | lst xs =>
    cases h'
    exact ⟨.lst [.int x, .int y], c, _, rfl, n, e, (by show 2 ≤ 1000; decide), .cons rfl (.cons rfl .nil)⟩
  | tup xs =>
    cases h'
    exact ⟨.tup [.int x, .int y], c, _, rfl, n, e, (by show 2 ≤ 1000; decide), .cons rfl (.cons rfl .nil)⟩
  | _ => cases h'
/-- by the sorted four: do they rise, and do the first and the third belong together -/
theorem due_ok {a b c d s0 s1 s2 s3 : Int} (hp : [s0, s1, s2, s3].Perm [a, b, c, d]) (hs : [s0, s1, s2, s3].Pairwise (· ≤ ·)) :
    crossB a b c d = (decide ([s0, s1, s2, s3].Pairwise (· < ·)) && decide (decide (a = s0 ∨ b = s0) = decide (a = s2 ∨ b = s2))) := by
  have o01 : s0 ≤ s1 := by simp at hs; omega
  have o12 : s1 ≤ s2 := by simp at hs; omega
  have o23 : s2 ≤ s3 := by simp at hs; omega
  by_cases r : [s0, s1, s2, s3].Pairwise (· < ·)
  · have p01 : s0 < s1 := by simp at r; omega
    have p12 : s1 < s2 := by simp at r; omega
    have p23 : s2 < s3 := by simp at r; omega
    rw [decide_eq_true r, Bool.true_and]
    have m0 : s0 ∈ [a, b, c, d] := hp.mem_iff.mp (by simp)
    have m1 : s1 ∈ [a, b, c, d] := hp.mem_iff.mp (by simp)
    have m2 : s2 ∈ [a, b, c, d] := hp.mem_iff.mp (by simp)
    have m3 : s3 ∈ [a, b, c, d] := hp.mem_iff.mp (by simp)
    simp only [List.mem_cons, List.not_mem_nil, or_false] at m0 m1 m2 m3
    rw [Bool.eq_iff_iff, crossB_iff, decide_eq_true_eq, Bool.eq_iff_iff, decide_eq_true_eq, decide_eq_true_eq]
    rcases m0 with rfl | rfl | rfl | rfl <;> rcases m1 with h1 | h1 | h1 | h1 <;> (try omega) <;> rcases m2 with h2 | h2 | h2 | h2 <;> (try omega) <;> rcases m3 with h3 | h3 | h3 | h3 <;> omega
  · rw [decide_eq_false r, Bool.false_and]
    have nd : ¬ [s0, s1, s2, s3].Nodup := fun z => r (by
      simp at z
      simp
      omega)
    have nd2 : ¬ [a, b, c, d].Nodup := fun z => nd (hp.nodup_iff.mpr z)
    have e : a = b ∨ a = c ∨ a = d ∨ b = c ∨ b = d ∨ c = d := by
      by_cases h : a = b ∨ a = c ∨ a = d ∨ b = c ∨ b = d ∨ c = d
      · exact h
      · refine absurd ?_ nd2
        simp
        omega
    cases hc : crossB a b c d with
    | false => rfl
    | true =>
      have z := crossB_iff.mp hc
      omega
def sp_law (b : Bool) : Sp := fun vs H Q _ => ∃ (S : Sto), vs = [.ref S.a] ∧ Store S H ∧ ∀ H', Drew S H H' → Q (.bl b) H'
end
end Z

set_option Elab.async false
set_option linter.all false
set_option maxRecDepth 100000
set_option maxHeartbeats 4000000
namespace Z
open PySem PySem.Spec PyProof.Rows L2
section
variable {P : Program} {w : World} {K : PySem.W.Frag} {mg : Str → Option Value} {base : Heap}
def sp_many : Sp := fun vs H Q _ => ∃ (S : Sto) (n : Int), vs = [.ref S.a, .int n] ∧ Store S H ∧ 1 ≤ n ∧ n ≤ 10 ∧ ∀ H', Drew S H H' → Q (.bl true) H'
/-- flat, or a tuple of such -/
def Fz (H : Hp) : Nat → V → Prop
  | 0, _ => False
  | n + 1, v => flatV v = true ∨ ∃ a xs, v = .ref a ∧ H a = some (.tup xs) ∧ xs.length ≤ 1000 ∧ ∀ x ∈ xs, Fz H n x
theorem Fz.same {H H' : Hp} (e : Same H H') : ∀ {n : Nat} {v : V}, Fz H n v → Fz H' n v
  | 0, _, h => h
  | n + 1, v, h => h.elim .inl fun ⟨a, xs, e1, e2, l, f⟩ => .inr ⟨a, xs, e1, e _ _ e2, l, fun x hx => Fz.same e (f x hx)⟩
def sp_spoil (n : Nat) : Sp := fun vs H Q _ => ∃ u, vs = [u] ∧ ((Fz H n u ∧ ∀ H', Same H H' → Q .non H') ∨ ∃ p xs, u = .ref p ∧ H p = some (.lst xs) ∧ xs.length ≤ 1000 ∧ n ≠ 0 ∧ (∀ x ∈ xs, Fz H (n - 1) x) ∧ ∀ H', But (fun b => b = p) H H' → Q .non H')
theorem inV_ints {x : Int} {ns : List Int} : inV (.int x) (ns.map V.int) = decide (x ∈ ns) := by
  unfold inV
  rw [List.any_map, Bool.eq_iff_iff, List.any_eq_true, decide_eq_true_eq]
  constructor
  · rintro ⟨y, hy, e⟩
    have e' : (decide (y = x) : Bool) = true ∨ (y == x) = true := by
      first | exact .inr e | exact .inl e
    rcases e' with e' | e'
    · rw [← of_decide_eq_true e']
      exact hy
    · rw [← eq_of_beq e']
      exact hy
  · intro h
    exact ⟨x, h, by show eqV (.int x) (.int x) = true; simp [eqV]⟩
theorem atI_snoc {α : Type} {xs : List α} {v : α} : atI (xs ++ [v]) (-1) = some v := atI_last xs v
theorem ix_back {n : Nat} (h : 0 < n) : ixN n (-1) = some (n - 1) := by
  unfold ixN
  rw [if_neg (by decide), if_pos (by omega)]
  congr 1
  omega
theorem set_snoc {α : Type} {x y : α} : ∀ {xs : List α}, (xs ++ [x]).set xs.length y = xs ++ [y]
  | [] => rfl
  | z :: xs => congrArg (z :: ·) (set_snoc (xs := xs))
/-- the j-th position behind a -/
theorem spanL_eq {n a b : Int} (m : Nat) (h : (b - a) % n = m) : spanL n a b = (List.range m).map (fun i : Nat => (a + (i : Int)) % n) ++ [(a + (m : Int)) % n] := by
  unfold spanL
  rw [h, show ((m : Int) + 1).toNat = m + 1 by omega, List.range_succ, List.map_append]
  rfl
theorem span_mem {n a b x : Int} (hn : 0 < n) (hx : 0 ≤ x ∧ x < n) : x ∈ spanL n a b ↔ (x - a) % n ≤ (b - a) % n := by
  unfold spanL
  have m0 := Int.emod_nonneg (b - a) (show n ≠ 0 by omega)
  have k0 := Int.emod_nonneg (x - a) (show n ≠ 0 by omega)
  have k1 := Int.emod_lt_of_pos (x - a) hn
  rw [List.mem_map]
  constructor
  · rintro ⟨j, hj, rfl⟩
    rw [List.mem_range] at hj
    have e : ((a + (j : Int)) % n - a) % n = (j : Int) % n := by
      rw [Int.sub_emod, Int.emod_emod, ← Int.sub_emod]
      congr 1
      omega
    rw [e]
    have := Int.emod_lt_of_pos (b - a) hn
    rw [Int.emod_eq_of_lt (by omega) (by omega)]
    omega
  · intro h
    refine ⟨((x - a) % n).toNat, List.mem_range.mpr (by omega), ?_⟩
    rw [show (((x - a) % n).toNat : Int) = (x - a) % n by omega, Int.add_emod, Int.emod_emod, ← Int.add_emod, show a + (x - a) = x by omega]
    exact Int.emod_eq_of_lt hx.1 hx.2
end
end Z

set_option Elab.async false
set_option linter.all false
set_option maxRecDepth 100000
set_option maxHeartbeats 4000000
namespace Z
open PySem PySem.Spec PyProof.Rows L2
section
variable {P : Program} {w : World} {K : PySem.W.Frag} {mg : Str → Option Value} {base : Heap}
/-- a text of at most n signs -/
def sp_txt (n : Nat) : Sp := fun vs H Q _ => ∃ S : Sto, vs = [.ref S.a] ∧ Store S H ∧ ∀ (x : Str) (H' : Hp), Drew S H H' → Tx n x → Q (.str x) H'
def sp_text : Sp := fun vs H Q _ => ∃ (S : Sto) (n : Nat), vs = [.ref S.a, .int n] ∧ Store S H ∧ n ≤ 1000 ∧ ∀ (x : Str) (H' : Hp), Drew S H H' → Tx n x → Q (.str x) H'
abbrev s_law_name : Stmt := topS 57
abbrev N_law_name : List Str := ["store", "letters", "made", "k"]
theorem sc_law_name : FnScope N_law_name ["store"] (defScope s_law_name) := ⟨rfl, rfl, rfl, by decide +kernel, rfl, by decide +kernel, by decide +kernel⟩
theorem b_law_name : BindO "_law_name" s_law_name ["store"] := fun _ _ _ _ _ _ us hl => match us, hl with | [_], _ => rfl

theorem ok_name (D : Dn K mg "_law_name" s_law_name) (B : Blt mg) (c_law_take : Cl P w K mg base 2 "_law_take" sp_take) (c_law_number : Cl P w K mg base 3 "_law_number" sp_number) : Cl P w K mg base 4 "_law_name" (sp_txt 8) := by
  refine cl_of D sc_law_name b_law_name (fun vs H Q E h => ?_) (fun f cdv A outer s H vs Q E hr h => ?_)
  · obtain ⟨S, rfl, _⟩ := h
    rfl
  · obtain ⟨S, rfl, st, q⟩ := h
    refine ⟨_, (pss_cons (ps_set (i := 1) sc_law_name.nd rfl (.inl rfl) pe_str)
      (pss_cons (ps_set (i := 2) sc_law_name.nd rfl (.inl rfl) (pe_ix at_str (pv 1) (pe_cl c_law_take hr (by omega) rfl (pa_cons (pv 0) (pa_cons pe_int pa_nil))) (fun _ _ => rfl)))
      (pss_cons (ps_for PassesOwn.never rfl (pi_range1 (by rfl) B.range (pa_cons (pe_cl c_law_number hr (by omega) rfl (pa_cons (pv 0) (pa_cons pe_int (pa_cons pe_int pa_nil)))) pa_nil)) (pg_name (i := 3) sc_law_name.nd rfl (.inl rfl)) (pss_one (ps_set (i := 2) sc_law_name.nd rfl (.inl rfl) (pe_op op_add_str (pv 2) (pe_ix at_str (pv 1) (pe_cl c_law_take hr (by omega) rfl (pa_cons (pv 0) (pa_cons pe_int pa_nil))) (fun _ _ => rfl))))))
      (pss_one (ps_ret (pv 2)))))), ?_⟩
    rw [show L2.start N_law_name [.ref S.a] = [some (.ref S.a), none, none, none] from rfl]
    simp only [tSeq, tNext, tDrop, tRet, tRetN, tIfS, tAsg, gName, tAug, ipI, tVar, tC, tOp, tUn, rI, rI0, rU, tCons, tNil, tCB, tTup, tLst, tTest, tB, tAnd, tOr, tNot, tAndV, tOrV, tNotV, tIf, tCl, tCd, tCk, gSub, rPutL, rAtQ, rIntI, rLenQ, rLenS, rListQ, rTupL, rTupQ, rIsQ_c, kd_non, kd_bl, kd_int, kd_str, kd_ref, kdO_lst, kdO_tup, kit_NoneType_bool, kit_NoneType_int, kit_NoneType_str, kit_NoneType_list, kit_NoneType_tuple, kit_bool_bool, kit_bool_int, kit_bool_str, kit_bool_list, kit_bool_tuple, kit_int_bool, kit_int_int, kit_int_str, kit_int_list, kit_int_tuple, kit_str_bool, kit_str_int, kit_str_str, kit_str_list, kit_str_tuple, kit_list_bool, kit_list_int, kit_list_str, kit_list_list, kit_list_tuple, kit_tuple_bool, kit_tuple_int, kit_tuple_str, kit_tuple_list, kit_tuple_tuple, V.ty.injEq, rSortQ, rSlQ, rMulS, tJn, rAtX, rSlS, tSl, tPart, tNoPart, cut_lo2, cut_hi2, rInQ, gLq, gTq, gC_c, gNil, tChain, List.cons_append, List.nil_append, tBL, tBL0, tBad, tCr, tCe, tXF, cxH_K, HO.xd.injEq, rApp, rPopN, rRevL, seqAt_lst, seqAt_tup, at_0, at_1, at_2, at_3, at_4, ix_0, ix_1, ix_2, ix_3, ix_4, cx_K, upd_same, List.length_cons, List.length_nil, Nat.reduceAdd,  rEq, rNe, tRevL, V.int.injEq, V.bl.injEq, V.str.injEq, V.ref.injEq, List.cons.injEq, and_true, true_and, exists_and_left, exists_and_right, exists_eq_left, exists_eq_left', exists_eq_right, exists_eq_right', exists_const, Option.some.injEq, List.getElem?_cons_zero, List.getElem?_cons_succ, List.set_cons_zero, List.set_cons_succ, decide_eq_true_eq, decide_true, decide_false,  scal_ii, scal_bb, scal_ss, cmul_r, cdiv_l, cpow_12, cpow_18, cpow_40, HO.lst.injEq, HO.tup.injEq, upd_upd, Int.reduceToNat,  decide_not, Bool.not_eq_true', decide_eq_false_iff_not, if_true, if_false, Bool.false_eq_true, Bool.true_eq_false, reduceCtorEq, Int.reduceNeg, Nat.reduceLT, Int.reduceLT, Int.reducePow, gt_iff_lt]
    refine ⟨_, _, rfl, st, by decide, fun d H1 r1 g1 => ?_⟩
    have t1 : Tx 36 (Str.ofString "abcdefghijklmnopqrstuvwxyz0123456789") := Tx.lit (by decide +kernel)
    have l1 : (Str.ofString "abcdefghijklmnopqrstuvwxyz0123456789").cps.toList.length = 36 := by decide +kernel
    obtain ⟨c, hc⟩ := atI_some (xs := (Str.ofString "abcdefghijklmnopqrstuvwxyz0123456789").cps.toList) g1.1 (by rw [l1]; have := g1.2; omega)
    refine ⟨d, rfl, t1.line (by decide), c, hc, ?_⟩
    refine forE (fun k H1 => Drew S H H1 ∧ k ≤ 7) (fun X hX => ?_) (fun k H2 ⟨r2, hk⟩ => ?_)
    · simp only [tSeq, tNext, tDrop, tRet, tRetN, tIfS, tAsg, gName, tAug, ipI, tVar, tC, tOp, tUn, rI, rI0, rU, tCons, tNil, tCB, tTup, tLst, tTest, tB, tAnd, tOr, tNot, tAndV, tOrV, tNotV, tIf, tCl, tCd, tCk, gSub, rPutL, rAtQ, rIntI, rLenQ, rLenS, rListQ, rTupL, rTupQ, rIsQ_c, kd_non, kd_bl, kd_int, kd_str, kd_ref, kdO_lst, kdO_tup, kit_NoneType_bool, kit_NoneType_int, kit_NoneType_str, kit_NoneType_list, kit_NoneType_tuple, kit_bool_bool, kit_bool_int, kit_bool_str, kit_bool_list, kit_bool_tuple, kit_int_bool, kit_int_int, kit_int_str, kit_int_list, kit_int_tuple, kit_str_bool, kit_str_int, kit_str_str, kit_str_list, kit_str_tuple, kit_list_bool, kit_list_int, kit_list_str, kit_list_list, kit_list_tuple, kit_tuple_bool, kit_tuple_int, kit_tuple_str, kit_tuple_list, kit_tuple_tuple, V.ty.injEq, rSortQ, rSlQ, rMulS, tJn, rAtX, rSlS, tSl, tPart, tNoPart, cut_lo2, cut_hi2, rInQ, gLq, gTq, gC_c, gNil, tChain, List.cons_append, List.nil_append, tBL, tBL0, tBad, tCr, tCe, tXF, cxH_K, HO.xd.injEq, rApp, rPopN, rRevL, seqAt_lst, seqAt_tup, at_0, at_1, at_2, at_3, at_4, ix_0, ix_1, ix_2, ix_3, ix_4, cx_K, upd_same, List.length_cons, List.length_nil, Nat.reduceAdd,  rEq, rNe, tRevL, V.int.injEq, V.bl.injEq, V.str.injEq, V.ref.injEq, List.cons.injEq, and_true, true_and, exists_and_left, exists_and_right, exists_eq_left, exists_eq_left', exists_eq_right, exists_eq_right', exists_const, Option.some.injEq, List.getElem?_cons_zero, List.getElem?_cons_succ, List.set_cons_zero, List.set_cons_succ, decide_eq_true_eq, decide_true, decide_false,  scal_ii, scal_bb, scal_ss, cmul_r, cdiv_l, cpow_12, cpow_18, cpow_40, HO.lst.injEq, HO.tup.injEq, upd_upd, Int.reduceToNat,  decide_not, Bool.not_eq_true', decide_eq_false_iff_not, if_true, if_false, Bool.false_eq_true, Bool.true_eq_false, reduceCtorEq, Int.reduceNeg, Nat.reduceLT, Int.reduceLT, Int.reducePow, gt_iff_lt]
      refine ⟨_, _, _, rfl, r1.st, by decide, fun d H2 r2 g2 => ?_⟩
      have z := hX d.toNat H2 ⟨r1.trans r2, by have := g2.2; have := g2.1; omega⟩
      rw [show ((d.toNat : Nat) : Int) = d by have := g2.1; omega] at z
      exact z
    refine z_forR k (fun Q q => q) (by omega) (fun i σ' H' => ∃ (x : Str) (z : Option V), σ' = [some (.ref S.a), some (.str (Str.ofString "abcdefghijklmnopqrstuvwxyz0123456789")), some (.str x), z] ∧ Drew S H H' ∧ Tx (1 + i) x) ⟨_, _, rfl, r2, Tx.one (t1.at hc)⟩ (fun i σ' H' hi hI => ?_) (fun σ' H' hI => ?_)
    · obtain ⟨x, z, rfl, r3, tx⟩ := hI
      simp only [tSeq, tNext, tDrop, tRet, tRetN, tIfS, tAsg, gName, tAug, ipI, tVar, tC, tOp, tUn, rI, rI0, rU, tCons, tNil, tCB, tTup, tLst, tTest, tB, tAnd, tOr, tNot, tAndV, tOrV, tNotV, tIf, tCl, tCd, tCk, gSub, rPutL, rAtQ, rIntI, rLenQ, rLenS, rListQ, rTupL, rTupQ, rIsQ_c, kd_non, kd_bl, kd_int, kd_str, kd_ref, kdO_lst, kdO_tup, kit_NoneType_bool, kit_NoneType_int, kit_NoneType_str, kit_NoneType_list, kit_NoneType_tuple, kit_bool_bool, kit_bool_int, kit_bool_str, kit_bool_list, kit_bool_tuple, kit_int_bool, kit_int_int, kit_int_str, kit_int_list, kit_int_tuple, kit_str_bool, kit_str_int, kit_str_str, kit_str_list, kit_str_tuple, kit_list_bool, kit_list_int, kit_list_str, kit_list_list, kit_list_tuple, kit_tuple_bool, kit_tuple_int, kit_tuple_str, kit_tuple_list, kit_tuple_tuple, V.ty.injEq, rSortQ, rSlQ, rMulS, tJn, rAtX, rSlS, tSl, tPart, tNoPart, cut_lo2, cut_hi2, rInQ, gLq, gTq, gC_c, gNil, tChain, List.cons_append, List.nil_append, tBL, tBL0, tBad, tCr, tCe, tXF, cxH_K, HO.xd.injEq, rApp, rPopN, rRevL, seqAt_lst, seqAt_tup, at_0, at_1, at_2, at_3, at_4, ix_0, ix_1, ix_2, ix_3, ix_4, cx_K, upd_same, List.length_cons, List.length_nil, Nat.reduceAdd,  rEq, rNe, tRevL, V.int.injEq, V.bl.injEq, V.str.injEq, V.ref.injEq, List.cons.injEq, and_true, true_and, exists_and_left, exists_and_right, exists_eq_left, exists_eq_left', exists_eq_right, exists_eq_right', exists_const, Option.some.injEq, List.getElem?_cons_zero, List.getElem?_cons_succ, List.set_cons_zero, List.set_cons_succ, decide_eq_true_eq, decide_true, decide_false,  scal_ii, scal_bb, scal_ss, cmul_r, cdiv_l, cpow_12, cpow_18, cpow_40, HO.lst.injEq, HO.tup.injEq, upd_upd, Int.reduceToNat,  decide_not, Bool.not_eq_true', decide_eq_false_iff_not, if_true, if_false, Bool.false_eq_true, Bool.true_eq_false, reduceCtorEq, Int.reduceNeg, Nat.reduceLT, Int.reduceLT, Int.reducePow, gt_iff_lt]
      refine ⟨_, _, rfl, r3.st, by decide, fun d2 H3 r4 g4 => ?_⟩
      obtain ⟨c2, hc2⟩ := atI_some (xs := (Str.ofString "abcdefghijklmnopqrstuvwxyz0123456789").cps.toList) g4.1 (by rw [l1]; have := g4.2; omega)
      have tc := tx.cat (Tx.one (t1.at hc2))
      refine ⟨d2, rfl, t1.line (by decide), c2, hc2, ?_⟩
      exact ⟨by rw [← str_cat_len]; exact tc.line (by omega), _, ⟨rfl, _, rfl⟩, r3.trans r4, tc.mono (by omega)⟩
    · obtain ⟨x, z, rfl, r3, tx⟩ := hI
      simp only [tSeq, tNext, tDrop, tRet, tRetN, tIfS, tAsg, gName, tAug, ipI, tVar, tC, tOp, tUn, rI, rI0, rU, tCons, tNil, tCB, tTup, tLst, tTest, tB, tAnd, tOr, tNot, tAndV, tOrV, tNotV, tIf, tCl, tCd, tCk, gSub, rPutL, rAtQ, rIntI, rLenQ, rLenS, rListQ, rTupL, rTupQ, rIsQ_c, kd_non, kd_bl, kd_int, kd_str, kd_ref, kdO_lst, kdO_tup, kit_NoneType_bool, kit_NoneType_int, kit_NoneType_str, kit_NoneType_list, kit_NoneType_tuple, kit_bool_bool, kit_bool_int, kit_bool_str, kit_bool_list, kit_bool_tuple, kit_int_bool, kit_int_int, kit_int_str, kit_int_list, kit_int_tuple, kit_str_bool, kit_str_int, kit_str_str, kit_str_list, kit_str_tuple, kit_list_bool, kit_list_int, kit_list_str, kit_list_list, kit_list_tuple, kit_tuple_bool, kit_tuple_int, kit_tuple_str, kit_tuple_list, kit_tuple_tuple, V.ty.injEq, rSortQ, rSlQ, rMulS, tJn, rAtX, rSlS, tSl, tPart, tNoPart, cut_lo2, cut_hi2, rInQ, gLq, gTq, gC_c, gNil, tChain, List.cons_append, List.nil_append, tBL, tBL0, tBad, tCr, tCe, tXF, cxH_K, HO.xd.injEq, rApp, rPopN, rRevL, seqAt_lst, seqAt_tup, at_0, at_1, at_2, at_3, at_4, ix_0, ix_1, ix_2, ix_3, ix_4, cx_K, upd_same, List.length_cons, List.length_nil, Nat.reduceAdd,  rEq, rNe, tRevL, V.int.injEq, V.bl.injEq, V.str.injEq, V.ref.injEq, List.cons.injEq, and_true, true_and, exists_and_left, exists_and_right, exists_eq_left, exists_eq_left', exists_eq_right, exists_eq_right', exists_const, Option.some.injEq, List.getElem?_cons_zero, List.getElem?_cons_succ, List.set_cons_zero, List.set_cons_succ, decide_eq_true_eq, decide_true, decide_false,  scal_ii, scal_bb, scal_ss, cmul_r, cdiv_l, cpow_12, cpow_18, cpow_40, HO.lst.injEq, HO.tup.injEq, upd_upd, Int.reduceToNat,  decide_not, Bool.not_eq_true', decide_eq_false_iff_not, if_true, if_false, Bool.false_eq_true, Bool.true_eq_false, reduceCtorEq, Int.reduceNeg, Nat.reduceLT, Int.reduceLT, Int.reducePow, gt_iff_lt]
      exact q _ _ r3 (tx.mono (by omega))
end
end Z

set_option Elab.async false
set_option linter.all false
set_option maxRecDepth 100000
set_option maxHeartbeats 4000000
namespace Z
open PySem PySem.Spec PyProof.Rows L2
section
variable {P : Program} {w : World} {K : PySem.W.Frag} {mg : Str → Option Value} {base : Heap}
theorem strs_of {F : Str → Prop} : ∀ {ys : List V}, (∀ y ∈ ys, ∃ z, y = V.str z ∧ F z) → ∃ zs : List Str, ys = zs.map V.str ∧ ∀ z ∈ zs, F z
  | [], _ => ⟨[], rfl, fun _ h => by cases h⟩
  | y :: ys, h => by
    obtain ⟨z, rfl, hz⟩ := h y List.mem_cons_self
    obtain ⟨zs, rfl, t⟩ := strs_of fun y hy => h y (List.mem_cons_of_mem _ hy)
    exact ⟨z :: zs, rfl, fun x hx => (List.mem_cons.mp hx).elim (fun e => e ▸ hz) (t x)⟩
/-- a new list of eight texts -/
def sp_words : Sp := fun vs H Q _ => ∃ S : Sto, vs = [.ref S.a] ∧ Store S H ∧ ∀ (p : Addr) (xs : List Str) (H' : Hp), Drew S H H' → H p = none → H' p = some (.lst (xs.map V.str)) → xs.length = 8 → (∀ x ∈ xs, Tx 1000 x) → Q (.ref p) H'
end
end Z

set_option Elab.async false
set_option linter.all false
set_option maxRecDepth 100000
set_option maxHeartbeats 4000000
namespace Z
open PySem PySem.Spec PyProof.Rows L2
section
variable {P : Program} {w : World} {K : PySem.W.Frag} {mg : Str → Option Value} {base : Heap}
/-! ### names -/
def isLet (c : Nat) : Bool := decide (c ∈ (Str.ofString "abcdefghijklmnopqrstuvwxyz").cps.toList)
def isDig (c : Nat) : Bool := decide (c ∈ (Str.ofString "0123456789").cps.toList)
def goodL : List Nat → Bool
  | [] => false
  | c :: cs => decide (cs.length < 8) && (isLet c && (c :: cs).all fun d => isLet d || isDig d)
theorem goodL_cons {c : Nat} {cs : List Nat} : goodL (c :: cs) = (decide (cs.length < 8) && (isLet c && (c :: cs).all fun d => isLet d || isDig d)) := rfl
theorem goodL_nil : goodL [] = false := rfl
def good (x : Str) : Bool := goodL x.cps.toList
theorem same_upd {H H' : Hp} {D : Addr} {o : HO} (r : Same H H') (h : H D = none) : Same H (upd H' D o) := fun b x e => by
  rw [upd_ne (ne_of_none e h)]
  exact r b x e
abbrev s_is_name : Stmt := topS 33
abbrev N_is_name : List Str := ["text", "sign"]
theorem sc_is_name : FnScope N_is_name ["text"] (defScope s_is_name) := ⟨rfl, rfl, rfl, by decide +kernel, rfl, by decide +kernel, by decide +kernel⟩
theorem b_is_name : BindO "is_name" s_is_name ["text"] := fun _ _ _ _ _ _ us hl => match us, hl with | [_], _ => rfl

def sp_is_name : Sp := fun vs H Q _ => ∃ x : Str, vs = [.str x] ∧ x.length ≤ 1000 ∧ ∀ H', Same H H' → Q (.bl (good x)) H'
theorem ok_is_name (D : Dn K mg "is_name" s_is_name) (B : Blt mg) (g_LETTERS : ∃ u, mg "LETTERS" = some u ∧ RelV (.str (Str.ofString "abcdefghijklmnopqrstuvwxyz")) u) (g_DIGITS : ∃ u, mg "DIGITS" = some u ∧ RelV (.str (Str.ofString "0123456789")) u)
    (g_LONGEST_NAME : ∃ u, mg "LONGEST_NAME" = some u ∧ RelV (.int 8) u) : Cl P w K mg base 1 "is_name" sp_is_name := by
  refine cl_of D sc_is_name b_is_name (fun vs H Q E h => ?_) (fun f cdv A outer s H vs Q E hr h => ?_)
  · obtain ⟨x, rfl, _⟩ := h
    rfl
  · obtain ⟨x, rfl, hx, q⟩ := h
    refine ⟨_, (pss_cons (ps_if (PW.pt (pw_or (pt_cmpR op_lt (pe_callB call_lenS (by rfl) B.len PySem.boot_len (pa_cons (pv 0) pa_nil)) pe_int (nomark _)) (pw_or1 (pt_cmpR op_gt (pe_callB call_lenS (by rfl) B.len PySem.boot_len (pa_cons (pv 0) pa_nil)) (pe_gc rfl g_LONGEST_NAME) (nomark _))))) (pss_one (ps_ret pe_bl)) pss_nil)
      (pss_one (ps_ret (pe_and (pe_cmpR op_in_sign (pe_ix at_str (pv 0) pe_int (fun _ _ => rfl)) (pe_gc rfl g_LETTERS) (by rfl)) (pe_one (pe_callB (cr_all rfl) (by rfl) B.all (by decide +kernel) (pa_cons (pe_lc (own := [("sign", 1)]) (g := gName 1) rfl sc_is_name.nd (pi_str (pv 0)) (blkOk_by (N := N_is_name) (sc := defScope s_is_name) (own := [("sign", 1)]) (by decide +kernel)) (fun _ _ _ _ _ => (pg_name (i := 1) sc_is_name.nd rfl (Or.inl rfl))) (fun _ _ _ _ _ => pts_nil) (fun _ _ _ _ _ => (pe_or (pe_cmpR op_in_sign (pv 1) (pe_gc rfl g_LETTERS) (by rfl)) (pe_one (pe_cmpR op_in_sign (pv 1) (pe_gc rfl g_DIGITS) (by rfl)))))) pa_nil))))))), ?_⟩
    rw [show L2.start N_is_name [.str x] = [some (.str x), none] from rfl]
    simp only [tSeq, tNext, tDrop, tRet, tRetN, tIfS, tAsg, gName, tAug, ipI, tVar, tC, tOp, tUn, rI, rI0, rU, tCons, tNil, tCB, tTup, tLst, tTest, tB, tAnd, tOr, tNot, tAndV, tOrV, tNotV, tIf, tCl, tCd, tCk, gSub, rPutL, rAtQ, rIntI, rLenQ, rLenS, rListQ, rTupL, rTupQ, rIsQ_c, kd_non, kd_bl, kd_int, kd_str, kd_ref, kdO_lst, kdO_tup, kit_NoneType_bool, kit_NoneType_int, kit_NoneType_str, kit_NoneType_list, kit_NoneType_tuple, kit_bool_bool, kit_bool_int, kit_bool_str, kit_bool_list, kit_bool_tuple, kit_int_bool, kit_int_int, kit_int_str, kit_int_list, kit_int_tuple, kit_str_bool, kit_str_int, kit_str_str, kit_str_list, kit_str_tuple, kit_list_bool, kit_list_int, kit_list_str, kit_list_list, kit_list_tuple, kit_tuple_bool, kit_tuple_int, kit_tuple_str, kit_tuple_list, kit_tuple_tuple, V.ty.injEq, rSortQ, rSlQ, rMulS, tJn, rAtX, rSlS, tSl, tPart, tNoPart, cut_lo2, cut_hi2, rInQ, gLq, gTq, gC_c, gNil, tChain, List.cons_append, List.nil_append, tBL, tBL0, tBad, tCr, tCe, tXF, cxH_K, HO.xd.injEq, rApp, rPopN, rRevL, seqAt_lst, seqAt_tup, at_0, at_1, at_2, at_3, at_4, ix_0, ix_1, ix_2, ix_3, ix_4, cx_K, upd_same, List.length_cons, List.length_nil, Nat.reduceAdd,  rEq, rNe, tRevL, V.int.injEq, V.bl.injEq, V.str.injEq, V.ref.injEq, List.cons.injEq, and_true, true_and, exists_and_left, exists_and_right, exists_eq_left, exists_eq_left', exists_eq_right, exists_eq_right', exists_const, Option.some.injEq, List.getElem?_cons_zero, List.getElem?_cons_succ, List.set_cons_zero, List.set_cons_succ, decide_eq_true_eq, decide_true, decide_false,  scal_ii, scal_bb, scal_ss, cmul_r, cdiv_l, cpow_12, cpow_18, cpow_40, HO.lst.injEq, HO.tup.injEq, upd_upd, Int.reduceToNat,  decide_not, Bool.not_eq_true', decide_eq_false_iff_not, if_true, if_false, Bool.false_eq_true, Bool.true_eq_false, reduceCtorEq, Int.reduceNeg, Nat.reduceLT, Int.reduceLT, Int.reducePow, gt_iff_lt]
    have hz : x.length ≤ sizeLine := sz_of (Nat.le_trans hx (by decide))
    have hl := str_len x
    refine ⟨hz, ?_⟩
    have gd : good x = goodL x.cps.toList := rfl
    generalize hcs : x.cps.toList = cs at hl gd
    cases cs with
    | nil =>
      rw [if_pos (by rw [hl] <;> decide)]
      rw [goodL_nil] at gd
      rw [← gd]
      exact q H (fun _ _ h => h)
    | cons c cs =>
      rw [if_neg (by rw [hl, List.length_cons]; omega)]
      refine ⟨hz, ?_⟩
      split
      · rename_i h8
        have e : good x = false := by
          rw [gd, goodL_cons, decide_eq_false (by rw [hl, List.length_cons] at h8; omega)] <;> rfl
        rw [← e]
        exact q H (fun _ _ h => h)
      rename_i h8
      have e8 : decide (cs.length < 8) = true := decide_eq_true (by rw [hl, List.length_cons] at h8; omega)
      refine ⟨hz, c, at_0, c, rfl, ?_⟩
      split
      case isFalse h1 =>
        have e : good x = false := by
          rw [gd, goodL_cons, show isLet c = false from decide_eq_false h1, Bool.false_and, Bool.and_false]
        rw [← e]
        exact q H (fun _ _ h => h)
      case isTrue h1 =>
        have e : good x = (c :: cs).all fun d => isLet d || isDig d := by
          rw [gd, goodL_cons, e8, show isLet c = true from decide_eq_true h1, Bool.true_and, Bool.true_and]
        refine z_lcS x (fun Q q => ?_) (fun D i H' => Same H H' ∧ H' D = some (.lst (((c :: cs).take i).map fun d => V.bl (isLet d || isDig d)))) (fun D hD => ⟨same_new hD, upd_same⟩) (fun _ => rfl) (fun D i d H' hD hi hI => ?_) (fun D H' hD hI => ?_)
        · simp only [tSeq, tNext, tDrop, tRet, tRetN, tIfS, tAsg, gName, tAug, ipI, tVar, tC, tOp, tUn, rI, rI0, rU, tCons, tNil, tCB, tTup, tLst, tTest, tB, tAnd, tOr, tNot, tAndV, tOrV, tNotV, tIf, tCl, tCd, tCk, gSub, rPutL, rAtQ, rIntI, rLenQ, rLenS, rListQ, rTupL, rTupQ, rIsQ_c, kd_non, kd_bl, kd_int, kd_str, kd_ref, kdO_lst, kdO_tup, kit_NoneType_bool, kit_NoneType_int, kit_NoneType_str, kit_NoneType_list, kit_NoneType_tuple, kit_bool_bool, kit_bool_int, kit_bool_str, kit_bool_list, kit_bool_tuple, kit_int_bool, kit_int_int, kit_int_str, kit_int_list, kit_int_tuple, kit_str_bool, kit_str_int, kit_str_str, kit_str_list, kit_str_tuple, kit_list_bool, kit_list_int, kit_list_str, kit_list_list, kit_list_tuple, kit_tuple_bool, kit_tuple_int, kit_tuple_str, kit_tuple_list, kit_tuple_tuple, V.ty.injEq, rSortQ, rSlQ, rMulS, tJn, rAtX, rSlS, tSl, tPart, tNoPart, cut_lo2, cut_hi2, rInQ, gLq, gTq, gC_c, gNil, tChain, List.cons_append, List.nil_append, tBL, tBL0, tBad, tCr, tCe, tXF, cxH_K, HO.xd.injEq, rApp, rPopN, rRevL, seqAt_lst, seqAt_tup, at_0, at_1, at_2, at_3, at_4, ix_0, ix_1, ix_2, ix_3, ix_4, cx_K, upd_same, List.length_cons, List.length_nil, Nat.reduceAdd,  rEq, rNe, tRevL, V.int.injEq, V.bl.injEq, V.str.injEq, V.ref.injEq, List.cons.injEq, and_true, true_and, exists_and_left, exists_and_right, exists_eq_left, exists_eq_left', exists_eq_right, exists_eq_right', exists_const, Option.some.injEq, List.getElem?_cons_zero, List.getElem?_cons_succ, List.set_cons_zero, List.set_cons_succ, decide_eq_true_eq, decide_true, decide_false,  scal_ii, scal_bb, scal_ss, cmul_r, cdiv_l, cpow_12, cpow_18, cpow_40, HO.lst.injEq, HO.tup.injEq, upd_upd, Int.reduceToNat,  decide_not, Bool.not_eq_true', decide_eq_false_iff_not, if_true, if_false, Bool.false_eq_true, Bool.true_eq_false, reduceCtorEq, Int.reduceNeg, Nat.reduceLT, Int.reduceLT, Int.reducePow, gt_iff_lt]
          exact q
        · obtain ⟨r1, r2⟩ := hI
          have hi' : (c :: cs)[i]? = some d := by
            rw [← hcs, Array.getElem?_toList]
            exact hi
          have ht : (c :: cs).take (i + 1) = (c :: cs).take i ++ [d] := by rw [List.take_add_one, hi'] <;> rfl
          simp only [tSeq, tNext, tDrop, tRet, tRetN, tIfS, tAsg, gName, tAug, ipI, tVar, tC, tOp, tUn, rI, rI0, rU, tCons, tNil, tCB, tTup, tLst, tTest, tB, tAnd, tOr, tNot, tAndV, tOrV, tNotV, tIf, tCl, tCd, tCk, gSub, rPutL, rAtQ, rIntI, rLenQ, rLenS, rListQ, rTupL, rTupQ, rIsQ_c, kd_non, kd_bl, kd_int, kd_str, kd_ref, kdO_lst, kdO_tup, kit_NoneType_bool, kit_NoneType_int, kit_NoneType_str, kit_NoneType_list, kit_NoneType_tuple, kit_bool_bool, kit_bool_int, kit_bool_str, kit_bool_list, kit_bool_tuple, kit_int_bool, kit_int_int, kit_int_str, kit_int_list, kit_int_tuple, kit_str_bool, kit_str_int, kit_str_str, kit_str_list, kit_str_tuple, kit_list_bool, kit_list_int, kit_list_str, kit_list_list, kit_list_tuple, kit_tuple_bool, kit_tuple_int, kit_tuple_str, kit_tuple_list, kit_tuple_tuple, V.ty.injEq, rSortQ, rSlQ, rMulS, tJn, rAtX, rSlS, tSl, tPart, tNoPart, cut_lo2, cut_hi2, rInQ, gLq, gTq, gC_c, gNil, tChain, List.cons_append, List.nil_append, tBL, tBL0, tBad, tCr, tCe, tXF, cxH_K, HO.xd.injEq, rApp, rPopN, rRevL, seqAt_lst, seqAt_tup, at_0, at_1, at_2, at_3, at_4, ix_0, ix_1, ix_2, ix_3, ix_4, cx_K, upd_same, List.length_cons, List.length_nil, Nat.reduceAdd,  rEq, rNe, tRevL, V.int.injEq, V.bl.injEq, V.str.injEq, V.ref.injEq, List.cons.injEq, and_true, true_and, exists_and_left, exists_and_right, exists_eq_left, exists_eq_left', exists_eq_right, exists_eq_right', exists_const, Option.some.injEq, List.getElem?_cons_zero, List.getElem?_cons_succ, List.set_cons_zero, List.set_cons_succ, decide_eq_true_eq, decide_true, decide_false,  scal_ii, scal_bb, scal_ss, cmul_r, cdiv_l, cpow_12, cpow_18, cpow_40, HO.lst.injEq, HO.tup.injEq, upd_upd, Int.reduceToNat,  decide_not, Bool.not_eq_true', decide_eq_false_iff_not, if_true, if_false, Bool.false_eq_true, Bool.true_eq_false, reduceCtorEq, Int.reduceNeg, Nat.reduceLT, Int.reduceLT, Int.reducePow, gt_iff_lt, wipe, List.map_cons, List.map_nil]
          have hz2 : (((c :: cs).take i).map fun d => V.bl (isLet d || isDig d)).length < sizeLine := sz_lt (by
            rw [List.length_map, List.length_take, ← hl]
            omega)
          refine ⟨d, rfl, ?_⟩
          split
          · rename_i h2
            refine ⟨_, r2, hz2, same_upd r1 hD, ?_⟩
            rw [ht, List.map_append, List.map_singleton, show isLet d = true from decide_eq_true h2, Bool.true_or]
          · rename_i h2
            refine ⟨d, rfl, _, r2, hz2, same_upd r1 hD, ?_⟩
            rw [ht, List.map_append, List.map_singleton, show isLet d = false from decide_eq_false h2, Bool.false_or] <;> rfl
        · obtain ⟨r1, r2⟩ := hI
          have hs : x.cps.size = (c :: cs).length := by rw [← hcs, Array.length_toList]
          rw [hs, List.take_length] at r2
          refine ⟨D, (c :: cs).map fun d => isLet d || isDig d, rfl, SqL.of (by rw [r2, List.map_map] <;> rfl), ?_⟩
          have ea : ((c :: cs).map fun d => isLet d || isDig d).all id = good x := by rw [e, List.all_map] <;> rfl
          rw [ea]
          exact q H' r1
def sp_law_is_name : Sp := fun vs H Q _ => ∃ x : Str, vs = [.str x] ∧ x.length ≤ 1000 ∧ Q (.bl (good x)) H
end
end Z

set_option Elab.async false
set_option linter.all false
set_option maxRecDepth 100000
set_option maxHeartbeats 4000000
namespace Z
open PySem PySem.Spec PyProof.Rows L2 L2H
section
variable {P : Program} {w : World} {K : PySem.W.Frag} {mg : Str → Option Value} {base : Heap}
abbrev s_BadName___init__ : Stmt := inClass (topS 3) 0
abbrev N_BadName___init__ : List Str := ["self", "name"]
theorem sc_BadName___init__ : FnScope N_BadName___init__ ["self", "name"] (defScope s_BadName___init__) := ⟨rfl, rfl, rfl, by decide +kernel, rfl, by decide +kernel, by decide +kernel⟩
theorem b_BadName___init__ : BindO "__init__" s_BadName___init__ ["self", "name"] := fun _ _ _ _ _ _ us hl => match us, hl with | [_, _], _ => rfl

theorem fn_BadName (bs_HedgeError : BaseC K mg "HedgeError") {C f : Addr} {fd : FuncData} (F : Fun K "__init__" "BadName.__init__" s_BadName___init__ f fd) : FnOk P w K mg base CX0 1 f fd ["self", "name"] (sp_init1 K C "name") := by
  refine F.ok sc_BadName___init__ (fun vs H Q E h => ?_) (fun cdv A outer s H vs Q E hr h => ?_)
  · obtain ⟨a, x, rfl, _⟩ := h
    rfl
  · obtain ⟨a, x, rfl, ox, no, hz, ha, q⟩ := h
    refine ⟨_, (pss_cons (ps_expr (pe_binit bs_HedgeError rfl (pa_cons (pv 0) (pa_cons (pe_joined (.cons (pe_fmtR (pv 1)) (.cons pe_str .nil))) pa_nil))))
      (pss_one (ps_ost (pv 0) (pv 1)))), ?_⟩
    rw [show L2.start N_BadName___init__ [.ref a, .str x] = [some (.ref a), some (.str x)] from rfl]
    simp only [tSeq, tNext, tDrop, tRet, tRetN, tIfS, tAsg, gName, tAug, ipI, tVar, tC, tOp, tUn, rI, rI0, rU, tCons, tNil, tCB, tTup, tLst, tTest, tB, tAnd, tOr, tNot, tAndV, tOrV, tNotV, tIf, tCl, tCd, tCk, gSub, rPutL, rAtQ, rIntI, rLenQ, rLenS, rListQ, rTupL, rTupQ, rIsQ_c, kd_non, kd_bl, kd_int, kd_str, kd_ref, kdO_lst, kdO_tup, kit_NoneType_bool, kit_NoneType_int, kit_NoneType_str, kit_NoneType_list, kit_NoneType_tuple, kit_bool_bool, kit_bool_int, kit_bool_str, kit_bool_list, kit_bool_tuple, kit_int_bool, kit_int_int, kit_int_str, kit_int_list, kit_int_tuple, kit_str_bool, kit_str_int, kit_str_str, kit_str_list, kit_str_tuple, kit_list_bool, kit_list_int, kit_list_str, kit_list_list, kit_list_tuple, kit_tuple_bool, kit_tuple_int, kit_tuple_str, kit_tuple_list, kit_tuple_tuple, V.ty.injEq, rSortQ, rSlQ, rMulS, tJn, rAtX, rSlS, tSl, tPart, tNoPart, cut_lo2, cut_hi2, rInQ, gLq, gTq, gC_c, gNil, tChain, List.cons_append, List.nil_append, tBL, tBL0, tBad, tCr, tCe, tXF, cxH_K, HO.xd.injEq, rApp, rPopN, rRevL, seqAt_lst, seqAt_tup, at_0, at_1, at_2, at_3, at_4, ix_0, ix_1, ix_2, ix_3, ix_4, cx_K, upd_same, List.length_cons, List.length_nil, Nat.reduceAdd,  rEq, rNe, tRevL, V.int.injEq, V.bl.injEq, V.str.injEq, V.ref.injEq, List.cons.injEq, and_true, true_and, exists_and_left, exists_and_right, exists_eq_left, exists_eq_left', exists_eq_right, exists_eq_right', exists_const, Option.some.injEq, List.getElem?_cons_zero, List.getElem?_cons_succ, List.set_cons_zero, List.set_cons_succ, decide_eq_true_eq, decide_true, decide_false,  scal_ii, scal_bb, scal_ss, cmul_r, cdiv_l, cpow_12, cpow_18, cpow_40, HO.lst.injEq, HO.tup.injEq, upd_upd, Int.reduceToNat,  decide_not, Bool.not_eq_true', decide_eq_false_iff_not, if_true, if_false, Bool.false_eq_true, Bool.true_eq_false, reduceCtorEq, Int.reduceNeg, Nat.reduceLT, Int.reduceLT, Int.reducePow, gt_iff_lt]
    simp only [tVeI, tJs, tFmtR, tOst]
    simp only [tSeq, tNext, tDrop, tRet, tRetN, tIfS, tAsg, gName, tAug, ipI, tVar, tC, tOp, tUn, rI, rI0, rU, tCons, tNil, tCB, tTup, tLst, tTest, tB, tAnd, tOr, tNot, tAndV, tOrV, tNotV, tIf, tCl, tCd, tCk, gSub, rPutL, rAtQ, rIntI, rLenQ, rLenS, rListQ, rTupL, rTupQ, rIsQ_c, kd_non, kd_bl, kd_int, kd_str, kd_ref, kdO_lst, kdO_tup, kit_NoneType_bool, kit_NoneType_int, kit_NoneType_str, kit_NoneType_list, kit_NoneType_tuple, kit_bool_bool, kit_bool_int, kit_bool_str, kit_bool_list, kit_bool_tuple, kit_int_bool, kit_int_int, kit_int_str, kit_int_list, kit_int_tuple, kit_str_bool, kit_str_int, kit_str_str, kit_str_list, kit_str_tuple, kit_list_bool, kit_list_int, kit_list_str, kit_list_list, kit_list_tuple, kit_tuple_bool, kit_tuple_int, kit_tuple_str, kit_tuple_list, kit_tuple_tuple, V.ty.injEq, rSortQ, rSlQ, rMulS, tJn, rAtX, rSlS, tSl, tPart, tNoPart, cut_lo2, cut_hi2, rInQ, gLq, gTq, gC_c, gNil, tChain, List.cons_append, List.nil_append, tBL, tBL0, tBad, tCr, tCe, tXF, cxH_K, HO.xd.injEq, rApp, rPopN, rRevL, seqAt_lst, seqAt_tup, at_0, at_1, at_2, at_3, at_4, ix_0, ix_1, ix_2, ix_3, ix_4, cx_K, upd_same, List.length_cons, List.length_nil, Nat.reduceAdd,  rEq, rNe, tRevL, V.int.injEq, V.bl.injEq, V.str.injEq, V.ref.injEq, List.cons.injEq, and_true, true_and, exists_and_left, exists_and_right, exists_eq_left, exists_eq_left', exists_eq_right, exists_eq_right', exists_const, Option.some.injEq, List.getElem?_cons_zero, List.getElem?_cons_succ, List.set_cons_zero, List.set_cons_succ, decide_eq_true_eq, decide_true, decide_false,  scal_ii, scal_bb, scal_ss, cmul_r, cdiv_l, cpow_12, cpow_18, cpow_40, HO.lst.injEq, HO.tup.injEq, upd_upd, Int.reduceToNat,  decide_not, Bool.not_eq_true', decide_eq_false_iff_not, if_true, if_false, Bool.false_eq_true, Bool.true_eq_false, reduceCtorEq, Int.reduceNeg, Nat.reduceLT, Int.reduceLT, Int.reducePow, gt_iff_lt]
    have e0 : (Str.empty : Str).length = 0 := rfl
    have e1 : (Str.ofString " is no name").length = 11 := by decide +kernel
    refine .inl ⟨sz_of (by omega), sz_of (by rw [str_cat_len]; omega), sz_of (by rw [str_cat_len, str_cat_len]; omega), a, C, _, ⟨rfl, rfl⟩, show 1 ≤ 1000 by decide, ox, ha, C, ox, no, .inl ⟨ha, q⟩⟩
abbrev s_check_name : Stmt := topS 34
abbrev N_check_name : List Str := ["text"]
theorem sc_check_name : FnScope N_check_name ["text"] (defScope s_check_name) := ⟨rfl, rfl, rfl, by decide +kernel, rfl, by decide +kernel, by decide +kernel⟩
theorem b_check_name : BindO "check_name" s_check_name ["text"] := fun _ _ _ _ _ _ us hl => match us, hl with | [_], _ => rfl

/-- None, or BadName with the text -/
def sp_check_name (C : Addr) : Sp := fun vs H Q E => ∃ x : Str, vs = [.str x] ∧ Tx 1000 x ∧ (good x = true → ∀ H', Same H H' → Q .non H') ∧ (good x = false → ∀ (d : Addr) (H' : Hp), Same H H' → H' d = some (.xd [("name", .str x)]) → E (.ref C) (some d) H')
theorem reprText_le {x : Str} {n : Nat} (t : Tx n x) (hn : n ≤ 1000 := by decide) : (reprText x).length ≤ 20000 := by
  have := PySem.StrLaws.reprText_len x (fun c hc => Nat.lt_trans (t.low c hc) (by decide))
  have := t.len
  omega
theorem ok_check_name (D : Dn K mg "check_name" s_check_name) {C : Addr} (bad_BadName : Bad P w K mg base "BadName" "name" C) (c_is_name : Cl P w K mg base 1 "is_name" sp_is_name) : Cr P w K mg base 3 "check_name" (sp_check_name C) := by
  refine cr_of D sc_check_name b_check_name (fun vs H Q E h => ?_) (fun f cdv A outer s H vs Q E hr h => ?_)
  · obtain ⟨x, rfl, _⟩ := h
    rfl
  · obtain ⟨x, rfl, tx, q1, q2⟩ := h
    have tk : Takes (cxOf (L2.CX P w) P w K mg base N_check_name "check_name" (defScope s_check_name) f cdv A outer s H E) (fun cls d _ H => E cls d H) := takes_of rfl rfl rfl rfl
    refine ⟨_, (pss_one (ps_if (pt_not (pt_val (pe_cl c_is_name hr (by omega) rfl (pa_cons (pv 0) pa_nil)))) (pss_one (ps_raise rfl tk (pmk_bad bad_BadName hr (by omega) rfl (pa_cons (pv 0) pa_nil)))) pss_nil)), ?_⟩
    rw [show L2.start N_check_name [.str x] = [some (.str x)] from rfl]
    simp only [tSeq, tNext, tDrop, tRet, tRetN, tIfS, tAsg, gName, tAug, ipI, tVar, tC, tOp, tUn, rI, rI0, rU, tCons, tNil, tCB, tTup, tLst, tTest, tB, tAnd, tOr, tNot, tAndV, tOrV, tNotV, tIf, tCl, tCd, tCk, gSub, rPutL, rAtQ, rIntI, rLenQ, rLenS, rListQ, rTupL, rTupQ, rIsQ_c, kd_non, kd_bl, kd_int, kd_str, kd_ref, kdO_lst, kdO_tup, kit_NoneType_bool, kit_NoneType_int, kit_NoneType_str, kit_NoneType_list, kit_NoneType_tuple, kit_bool_bool, kit_bool_int, kit_bool_str, kit_bool_list, kit_bool_tuple, kit_int_bool, kit_int_int, kit_int_str, kit_int_list, kit_int_tuple, kit_str_bool, kit_str_int, kit_str_str, kit_str_list, kit_str_tuple, kit_list_bool, kit_list_int, kit_list_str, kit_list_list, kit_list_tuple, kit_tuple_bool, kit_tuple_int, kit_tuple_str, kit_tuple_list, kit_tuple_tuple, V.ty.injEq, rSortQ, rSlQ, rMulS, tJn, rAtX, rSlS, tSl, tPart, tNoPart, cut_lo2, cut_hi2, rInQ, gLq, gTq, gC_c, gNil, tChain, List.cons_append, List.nil_append, tBL, tBL0, tBad, tCr, tCe, tXF, cxH_K, HO.xd.injEq, rApp, rPopN, rRevL, seqAt_lst, seqAt_tup, at_0, at_1, at_2, at_3, at_4, ix_0, ix_1, ix_2, ix_3, ix_4, cx_K, upd_same, List.length_cons, List.length_nil, Nat.reduceAdd,  rEq, rNe, tRevL, V.int.injEq, V.bl.injEq, V.str.injEq, V.ref.injEq, List.cons.injEq, and_true, true_and, exists_and_left, exists_and_right, exists_eq_left, exists_eq_left', exists_eq_right, exists_eq_right', exists_const, Option.some.injEq, List.getElem?_cons_zero, List.getElem?_cons_succ, List.set_cons_zero, List.set_cons_succ, decide_eq_true_eq, decide_true, decide_false,  scal_ii, scal_bb, scal_ss, cmul_r, cdiv_l, cpow_12, cpow_18, cpow_40, HO.lst.injEq, HO.tup.injEq, upd_upd, Int.reduceToNat,  decide_not, Bool.not_eq_true', decide_eq_false_iff_not, if_true, if_false, Bool.false_eq_true, Bool.true_eq_false, reduceCtorEq, Int.reduceNeg, Nat.reduceLT, Int.reduceLT, Int.reducePow, gt_iff_lt]
    refine ⟨x, rfl, tx.len, fun H1 r1 => ?_⟩
    simp only [tSeq, tNext, tDrop, tRet, tRetN, tIfS, tAsg, gName, tAug, ipI, tVar, tC, tOp, tUn, rI, rI0, rU, tCons, tNil, tCB, tTup, tLst, tTest, tB, tAnd, tOr, tNot, tAndV, tOrV, tNotV, tIf, tCl, tCd, tCk, gSub, rPutL, rAtQ, rIntI, rLenQ, rLenS, rListQ, rTupL, rTupQ, rIsQ_c, kd_non, kd_bl, kd_int, kd_str, kd_ref, kdO_lst, kdO_tup, kit_NoneType_bool, kit_NoneType_int, kit_NoneType_str, kit_NoneType_list, kit_NoneType_tuple, kit_bool_bool, kit_bool_int, kit_bool_str, kit_bool_list, kit_bool_tuple, kit_int_bool, kit_int_int, kit_int_str, kit_int_list, kit_int_tuple, kit_str_bool, kit_str_int, kit_str_str, kit_str_list, kit_str_tuple, kit_list_bool, kit_list_int, kit_list_str, kit_list_list, kit_list_tuple, kit_tuple_bool, kit_tuple_int, kit_tuple_str, kit_tuple_list, kit_tuple_tuple, V.ty.injEq, rSortQ, rSlQ, rMulS, tJn, rAtX, rSlS, tSl, tPart, tNoPart, cut_lo2, cut_hi2, rInQ, gLq, gTq, gC_c, gNil, tChain, List.cons_append, List.nil_append, tBL, tBL0, tBad, tCr, tCe, tXF, cxH_K, HO.xd.injEq, rApp, rPopN, rRevL, seqAt_lst, seqAt_tup, at_0, at_1, at_2, at_3, at_4, ix_0, ix_1, ix_2, ix_3, ix_4, cx_K, upd_same, List.length_cons, List.length_nil, Nat.reduceAdd,  rEq, rNe, tRevL, V.int.injEq, V.bl.injEq, V.str.injEq, V.ref.injEq, List.cons.injEq, and_true, true_and, exists_and_left, exists_and_right, exists_eq_left, exists_eq_left', exists_eq_right, exists_eq_right', exists_const, Option.some.injEq, List.getElem?_cons_zero, List.getElem?_cons_succ, List.set_cons_zero, List.set_cons_succ, decide_eq_true_eq, decide_true, decide_false,  scal_ii, scal_bb, scal_ss, cmul_r, cdiv_l, cpow_12, cpow_18, cpow_40, HO.lst.injEq, HO.tup.injEq, upd_upd, Int.reduceToNat,  decide_not, Bool.not_eq_true', decide_eq_false_iff_not, if_true, if_false, Bool.false_eq_true, Bool.true_eq_false, reduceCtorEq, Int.reduceNeg, Nat.reduceLT, Int.reduceLT, Int.reducePow, gt_iff_lt]
    split
    · rename_i h1
      refine ⟨reprText_le tx, fun d H' r2 _ hd => q2 h1 d H' (fun b o e => r2 b o (r1 b o e)) hd⟩
    · rename_i h1
      exact q1 (by simpa using h1) H1 r1
def otherNames : List Str := ["AtStrife", "BadParting", "BadRow", "BadSize", "BadSplit", "BadText", "CrossedField", "Crossing", "EmptyBook", "EndsDiffer", "NoRun", "NoStrife", "NotWithin", "OrderRefused", "OtherPond", "OutOfRange", "RepeatedName", "SameField", "SameLot", "StepRefused", "Stuck", "TooMany", "Ungranted", "UnknownLot"]
/-- the other classes of errors: none of BadName's -/
structure Oth (K : PySem.W.Frag) (mg : Str → Option Value) (C : Addr) : Prop where
  ex : ∃ f : Str → Addr, ∀ n ∈ otherNames, mg n = some (.ref (f n)) ∧ PySem.W.kitOne K (.ref C) (.ref (f n)) = some false
  ve : PySem.W.kitOne K (.ref C) (.type "ValueError") = some true
/-- [('BadName', text)] -/
def sp_law_error (C : Addr) : Addr → Value → Option Addr → Sp := fun a cls d vs H Q _ => ∃ (dd : Addr) (x : Str), vs = [.ref a] ∧ cls = .ref C ∧ d = some dd ∧ H dd = some (.xd [("name", .str x)]) ∧
  ∀ (l t : Addr) (H' : Hp), Same H H' → H l = none → H t = none → H' l = some (.lst [.ref t]) → H' t = some (.tup [.str (Str.ofString "BadName"), .str x]) → Q (.ref l) H'
end
end Z

set_option Elab.async false
set_option linter.all false
set_option maxRecDepth 100000
set_option maxHeartbeats 4000000
namespace Z
open PySem PySem.Spec PyProof.Rows L2 L2H
section
variable {P : Program} {w : World} {K : PySem.W.Frag} {mg : Str → Option Value} {base : Heap}
def dueD (x : Str) : Dt := if good x = true then .tup [.str (Str.ofString "told"), .non] else .tup [.str (Str.ofString "error"), .lst [.tup [.str (Str.ofString "BadName"), .str x]]]
def sp_checked : Sp := fun vs H Q _ => ∃ x : Str, vs = [.str x] ∧ Tx 1000 x ∧ ∀ (v : V) (H' : Hp), Same H H' → Rp (fun _ => True) H' 5 v (dueD x) → Q v H'
def sp_word : Sp := fun vs H Q _ => ∃ x : Str, vs = [.str x] ∧ Tx 1000 x ∧ ∀ H', Same H H' → Q (.bl true) H'
end
end Z

set_option Elab.async false
set_option linter.all false
set_option maxRecDepth 100000
set_option maxHeartbeats 4000000
namespace Z
open PySem PySem.Spec PyProof.Rows L2
section
variable {P : Program} {w : World} {K : PySem.W.Frag} {mg : Str → Option Value} {base : Heap}
abbrev s_law_store : Stmt := topS 46
abbrev N_law_store : List Str := ["script", "seed", "cell"]
theorem sc_law_store : FnScope N_law_store ["script"] (defScope s_law_store) := ⟨rfl, rfl, rfl, by decide +kernel, rfl, by decide +kernel, by decide +kernel⟩
theorem b_law_store : BindO "_law_store" s_law_store ["script"] := fun _ _ _ _ _ _ us hl => match us, hl with | [_], _ => rfl

def sp_store (K : PySem.W.Frag) : Sp := fun vs H Q _ => ∃ (a : Addr) (ns : List Int), vs = [.ref a] ∧ SqL K H a (ns.map V.int) ∧ ns.length ≤ 63 ∧ ∀ (S : Sto) (H' : Hp), Same H H' → Store S H' → Q (.ref S.a) H'
theorem ok_store (D : Dn K mg "_law_store" s_law_store) (B : Blt mg) : Cl P w K mg base 1 "_law_store" (sp_store K) := by
  refine cl_of D sc_law_store b_law_store (fun vs H Q E h => ?_) (fun f cdv A outer s H vs Q E hr h => ?_)
  · obtain ⟨a, ns, rfl, _⟩ := h
    rfl
  · obtain ⟨a, ns, rfl, hs, hn, q⟩ := h
    refine ⟨_, (pss_cons (ps_set (i := 1) sc_law_store.nd rfl (.inl rfl) pe_int)
      (pss_cons (ps_for PassesOwn.never rfl (pi_list (pv 0)) (pg_name (i := 2) sc_law_store.nd rfl (.inl rfl)) (pss_one (ps_set (i := 1) sc_law_store.nd rfl (.inl rfl) (pe_op op_mod (pe_callTy call_intI (by rfl) B.int (by decide +kernel) (pa_cons (pe_op op_add (pe_op op_add (pe_op op_mul (pv 1) pe_int) (pe_op op_mod (pe_callTy call_intI (by rfl) B.int (by decide +kernel) (pa_cons (pv 2) pa_nil)) pe_int)) pe_int) pa_nil)) pe_int))))
      (pss_one (ps_ret (pe_lst (pa_cons (pe_callTy call_listF (by rfl) B.list (by decide +kernel) (pa_cons (pv 0) pa_nil)) (pa_cons pe_int (pa_cons pe_int (pa_cons pe_int (pa_cons (pv 1) pa_nil)))))))))), ?_⟩
    rw [show L2.start N_law_store [.ref a] = [some (.ref a), none, none] from rfl]
    simp only [tSeq, tNext, tDrop, tRet, tRetN, tIfS, tAsg, gName, tAug, ipI, tVar, tC, tOp, tUn, rI, rI0, rU, tCons, tNil, tCB, tTup, tLst, tTest, tB, tAnd, tOr, tNot, tAndV, tOrV, tNotV, tIf, tCl, tCd, tCk, gSub, rPutL, rAtQ, rIntI, rLenQ, rLenS, rListQ, rTupL, rTupQ, rIsQ_c, kd_non, kd_bl, kd_int, kd_str, kd_ref, kdO_lst, kdO_tup, kit_NoneType_bool, kit_NoneType_int, kit_NoneType_str, kit_NoneType_list, kit_NoneType_tuple, kit_bool_bool, kit_bool_int, kit_bool_str, kit_bool_list, kit_bool_tuple, kit_int_bool, kit_int_int, kit_int_str, kit_int_list, kit_int_tuple, kit_str_bool, kit_str_int, kit_str_str, kit_str_list, kit_str_tuple, kit_list_bool, kit_list_int, kit_list_str, kit_list_list, kit_list_tuple, kit_tuple_bool, kit_tuple_int, kit_tuple_str, kit_tuple_list, kit_tuple_tuple, V.ty.injEq, rSortQ, rSlQ, rMulS, tJn, rAtX, rSlS, tSl, tPart, tNoPart, cut_lo2, cut_hi2, rInQ, gLq, gTq, gC_c, gNil, tChain, List.cons_append, List.nil_append, tBL, tBL0, tBad, tCr, tCe, tXF, cxH_K, HO.xd.injEq, rApp, rPopN, rRevL, seqAt_lst, seqAt_tup, at_0, at_1, at_2, at_3, at_4, ix_0, ix_1, ix_2, ix_3, ix_4, cx_K, upd_same, List.length_cons, List.length_nil, Nat.reduceAdd,  rEq, rNe, tRevL, V.int.injEq, V.bl.injEq, V.str.injEq, V.ref.injEq, List.cons.injEq, and_true, true_and, exists_and_left, exists_and_right, exists_eq_left, exists_eq_left', exists_eq_right, exists_eq_right', exists_const, Option.some.injEq, List.getElem?_cons_zero, List.getElem?_cons_succ, List.set_cons_zero, List.set_cons_succ, decide_eq_true_eq, decide_true, decide_false,  scal_ii, scal_bb, scal_ss, cmul_r, cdiv_l, cpow_12, cpow_18, cpow_40, HO.lst.injEq, HO.tup.injEq, upd_upd, Int.reduceToNat,  decide_not, Bool.not_eq_true', decide_eq_false_iff_not, if_true, if_false, Bool.false_eq_true, Bool.true_eq_false, reduceCtorEq, Int.reduceNeg, Nat.reduceLT, Int.reduceLT, Int.reducePow, gt_iff_lt]
    refine z_forL a (ns.map V.int) (fun Q q => ?_) hs (fun i σ' H' => ∃ (x : Int) (z : Option V), σ' = [some (.ref a), some (.int x), z] ∧ H' = H) ⟨7, none, rfl, rfl⟩ (fun i σ' H' hi hI => ?_) (fun i v σ' H' hi hI => ?_) (fun σ' H' hI => ?_)
    · simp only [tSeq, tNext, tDrop, tRet, tRetN, tIfS, tAsg, gName, tAug, ipI, tVar, tC, tOp, tUn, rI, rI0, rU, tCons, tNil, tCB, tTup, tLst, tTest, tB, tAnd, tOr, tNot, tAndV, tOrV, tNotV, tIf, tCl, tCd, tCk, gSub, rPutL, rAtQ, rIntI, rLenQ, rLenS, rListQ, rTupL, rTupQ, rIsQ_c, kd_non, kd_bl, kd_int, kd_str, kd_ref, kdO_lst, kdO_tup, kit_NoneType_bool, kit_NoneType_int, kit_NoneType_str, kit_NoneType_list, kit_NoneType_tuple, kit_bool_bool, kit_bool_int, kit_bool_str, kit_bool_list, kit_bool_tuple, kit_int_bool, kit_int_int, kit_int_str, kit_int_list, kit_int_tuple, kit_str_bool, kit_str_int, kit_str_str, kit_str_list, kit_str_tuple, kit_list_bool, kit_list_int, kit_list_str, kit_list_list, kit_list_tuple, kit_tuple_bool, kit_tuple_int, kit_tuple_str, kit_tuple_list, kit_tuple_tuple, V.ty.injEq, rSortQ, rSlQ, rMulS, tJn, rAtX, rSlS, tSl, tPart, tNoPart, cut_lo2, cut_hi2, rInQ, gLq, gTq, gC_c, gNil, tChain, List.cons_append, List.nil_append, tBL, tBL0, tBad, tCr, tCe, tXF, cxH_K, HO.xd.injEq, rApp, rPopN, rRevL, seqAt_lst, seqAt_tup, at_0, at_1, at_2, at_3, at_4, ix_0, ix_1, ix_2, ix_3, ix_4, cx_K, upd_same, List.length_cons, List.length_nil, Nat.reduceAdd,  rEq, rNe, tRevL, V.int.injEq, V.bl.injEq, V.str.injEq, V.ref.injEq, List.cons.injEq, and_true, true_and, exists_and_left, exists_and_right, exists_eq_left, exists_eq_left', exists_eq_right, exists_eq_right', exists_const, Option.some.injEq, List.getElem?_cons_zero, List.getElem?_cons_succ, List.set_cons_zero, List.set_cons_succ, decide_eq_true_eq, decide_true, decide_false,  scal_ii, scal_bb, scal_ss, cmul_r, cdiv_l, cpow_12, cpow_18, cpow_40, HO.lst.injEq, HO.tup.injEq, upd_upd, Int.reduceToNat,  decide_not, Bool.not_eq_true', decide_eq_false_iff_not, if_true, if_false, Bool.false_eq_true, Bool.true_eq_false, reduceCtorEq, Int.reduceNeg, Nat.reduceLT, Int.reduceLT, Int.reducePow, gt_iff_lt]
      exact q
    · obtain ⟨x, z, rfl, rfl⟩ := hI
      exact hs
    · obtain ⟨x, z, rfl, rfl⟩ := hI
      rw [List.getElem?_map] at hi
      obtain ⟨n, hn', rfl⟩ := Option.map_eq_some_iff.mp hi
      simp only [tSeq, tNext, tDrop, tRet, tRetN, tIfS, tAsg, gName, tAug, ipI, tVar, tC, tOp, tUn, rI, rI0, rU, tCons, tNil, tCB, tTup, tLst, tTest, tB, tAnd, tOr, tNot, tAndV, tOrV, tNotV, tIf, tCl, tCd, tCk, gSub, rPutL, rAtQ, rIntI, rLenQ, rLenS, rListQ, rTupL, rTupQ, rIsQ_c, kd_non, kd_bl, kd_int, kd_str, kd_ref, kdO_lst, kdO_tup, kit_NoneType_bool, kit_NoneType_int, kit_NoneType_str, kit_NoneType_list, kit_NoneType_tuple, kit_bool_bool, kit_bool_int, kit_bool_str, kit_bool_list, kit_bool_tuple, kit_int_bool, kit_int_int, kit_int_str, kit_int_list, kit_int_tuple, kit_str_bool, kit_str_int, kit_str_str, kit_str_list, kit_str_tuple, kit_list_bool, kit_list_int, kit_list_str, kit_list_list, kit_list_tuple, kit_tuple_bool, kit_tuple_int, kit_tuple_str, kit_tuple_list, kit_tuple_tuple, V.ty.injEq, rSortQ, rSlQ, rMulS, tJn, rAtX, rSlS, tSl, tPart, tNoPart, cut_lo2, cut_hi2, rInQ, gLq, gTq, gC_c, gNil, tChain, List.cons_append, List.nil_append, tBL, tBL0, tBad, tCr, tCe, tXF, cxH_K, HO.xd.injEq, rApp, rPopN, rRevL, seqAt_lst, seqAt_tup, at_0, at_1, at_2, at_3, at_4, ix_0, ix_1, ix_2, ix_3, ix_4, cx_K, upd_same, List.length_cons, List.length_nil, Nat.reduceAdd,  rEq, rNe, tRevL, V.int.injEq, V.bl.injEq, V.str.injEq, V.ref.injEq, List.cons.injEq, and_true, true_and, exists_and_left, exists_and_right, exists_eq_left, exists_eq_left', exists_eq_right, exists_eq_right', exists_const, Option.some.injEq, List.getElem?_cons_zero, List.getElem?_cons_succ, List.set_cons_zero, List.set_cons_succ, decide_eq_true_eq, decide_true, decide_false,  scal_ii, scal_bb, scal_ss, cmul_r, cdiv_l, cpow_12, cpow_18, cpow_40, HO.lst.injEq, HO.tup.injEq, upd_upd, Int.reduceToNat,  decide_not, Bool.not_eq_true', decide_eq_false_iff_not, if_true, if_false, Bool.false_eq_true, Bool.true_eq_false, reduceCtorEq, Int.reduceNeg, Nat.reduceLT, Int.reduceLT, Int.reducePow, gt_iff_lt]
      exact ⟨⟨_, rfl⟩, _, rfl⟩
    · obtain ⟨x, z, rfl, rfl⟩ := hI
      simp only [tSeq, tNext, tDrop, tRet, tRetN, tIfS, tAsg, gName, tAug, ipI, tVar, tC, tOp, tUn, rI, rI0, rU, tCons, tNil, tCB, tTup, tLst, tTest, tB, tAnd, tOr, tNot, tAndV, tOrV, tNotV, tIf, tCl, tCd, tCk, gSub, rPutL, rAtQ, rIntI, rLenQ, rLenS, rListQ, rTupL, rTupQ, rIsQ_c, kd_non, kd_bl, kd_int, kd_str, kd_ref, kdO_lst, kdO_tup, kit_NoneType_bool, kit_NoneType_int, kit_NoneType_str, kit_NoneType_list, kit_NoneType_tuple, kit_bool_bool, kit_bool_int, kit_bool_str, kit_bool_list, kit_bool_tuple, kit_int_bool, kit_int_int, kit_int_str, kit_int_list, kit_int_tuple, kit_str_bool, kit_str_int, kit_str_str, kit_str_list, kit_str_tuple, kit_list_bool, kit_list_int, kit_list_str, kit_list_list, kit_list_tuple, kit_tuple_bool, kit_tuple_int, kit_tuple_str, kit_tuple_list, kit_tuple_tuple, V.ty.injEq, rSortQ, rSlQ, rMulS, tJn, rAtX, rSlS, tSl, tPart, tNoPart, cut_lo2, cut_hi2, rInQ, gLq, gTq, gC_c, gNil, tChain, List.cons_append, List.nil_append, tBL, tBL0, tBad, tCr, tCe, tXF, cxH_K, HO.xd.injEq, rApp, rPopN, rRevL, seqAt_lst, seqAt_tup, at_0, at_1, at_2, at_3, at_4, ix_0, ix_1, ix_2, ix_3, ix_4, cx_K, upd_same, List.length_cons, List.length_nil, Nat.reduceAdd,  rEq, rNe, tRevL, V.int.injEq, V.bl.injEq, V.str.injEq, V.ref.injEq, List.cons.injEq, and_true, true_and, exists_and_left, exists_and_right, exists_eq_left, exists_eq_left', exists_eq_right, exists_eq_right', exists_const, Option.some.injEq, List.getElem?_cons_zero, List.getElem?_cons_succ, List.set_cons_zero, List.set_cons_succ, decide_eq_true_eq, decide_true, decide_false,  scal_ii, scal_bb, scal_ss, cmul_r, cdiv_l, cpow_12, cpow_18, cpow_40, HO.lst.injEq, HO.tup.injEq, upd_upd, Int.reduceToNat,  decide_not, Bool.not_eq_true', decide_eq_false_iff_not, if_true, if_false, Bool.false_eq_true, Bool.true_eq_false, reduceCtorEq, Int.reduceNeg, Nat.reduceLT, Int.reduceLT, Int.reducePow, gt_iff_lt]
      refine ⟨a, rfl, ns.map V.int, hs, fun l hl => ⟨sz_of (by decide), fun p hp => ?_⟩⟩
      have nl : l ≠ p := ne_of_none upd_same hp
      refine q ⟨p, l, ns⟩ _ (fun b o e => same_new hp b o (same_new hl b o e)) ⟨⟨0, 0, 0, x, upd_same, Nat.zero_le _⟩, (upd_ne nl).trans upd_same, nl, hn⟩
theorem forLE {tl : TE} {g : TG} {tb : TS} {D : Ends} {σ : L2.St} {H : Hp} (R : Addr → Hp → Prop) (h : ∀ X : VK, (∀ (p : Addr) H1, R p H1 → X (.ref p) H1) → tl σ H X)
    (k : ∀ (p : Addr) H1, R p H1 → tFor (iList K (fun _ H2 Q => Q (.ref p) H2)) g tb D σ H1) : tFor (iList K tl) g tb D σ H := h _ fun p H1 r => k p H1 r
def sp_top (K : PySem.W.Frag) : Sp := fun vs H Q _ => ∃ (a : Addr) (ns : List Int), vs = [.ref a] ∧ SqL K H a (ns.map V.int) ∧ ns.length ≤ 63 ∧ ∀ H', Q (.bl true) H'
end
end Z
set_option Elab.async false
set_option linter.all false
set_option maxRecDepth 100000
set_option maxHeartbeats 4000000
namespace Z
open PySem PySem.Spec PyProof.Rows L2
/-! ### a comprehension with any number of clauses -/
theorem turnS {elt t i t1 i1 : Expr} {ifs ifs1 : List Expr} {gens : List Comprehension} {scope : Scope} {pos : Pos} {d : Nat} {it acc : Value} {env : Env} (hg : gens[d]? = some ⟨t, i, ifs, 0⟩) (hn : gens[d + 1]? = some ⟨t1, i1, ifs1, 0⟩) :
    compTurn (.ListComp elt gens scope pos) d it acc env = (do
      standAt i.pos
      match ← pyNext it with
      | none => pure (.done .next)
      | some v =>
        letOwnedTupleGo t it v
        assign t env v
        let mut ok := true
        for c in ifs do
          if ok then ok ← isTrue c env (eval c env)
        if ok then
          let x ← eval i1 env
          standAt i1.pos
          let x ← foldedSetIterable i1 env x
          let _ ← runOwn (.compStart (.ListComp elt gens scope pos) (d + 1) (← holding [x] (pyIter x)) acc env) env
        again (.compLoop (.ListComp elt gens scope pos) d it acc env)) := by
  unfold compTurn
  simp only [hg, hn]
  rfl
theorem turnE {elt t i : Expr} {ifs : List Expr} {gens : List Comprehension} {scope : Scope} {pos : Pos} {d : Nat} {it acc : Value} {env : Env} (hg : gens[d]? = some ⟨t, i, ifs, 0⟩) (hn : gens[d + 1]? = none) :
    compTurn (.ListComp elt gens scope pos) d it acc env = (do
      standAt i.pos
      match ← pyNext it with
      | none => pure (.done .next)
      | some v =>
        letOwnedTupleGo t it v
        assign t env v
        let mut ok := true
        for c in ifs do
          if ok then ok ← isTrue c env (eval c env)
        if ok then
          (do let _ ← call (.builtin "list.append") [acc, ← eval elt env])
        again (.compLoop (.ListComp elt gens scope pos) d it acc env)) := by
  unfold compTurn
  simp only [hg, hn]
  rfl
/-- what stands behind a clause's tests: the next clause, or the item -/
def NextP (M : Model) (A : Around) (Err : Value → Shared → Prop) (elt : Expr) (gens : List Comprehension) (scope : Scope) (pos : Pos) (d : Nat) (acc : Value) (env : Env) (Post : Shared → Prop) (s : Shared) : Prop := match gens[d]? with
  | some g' => (∀ x, foldedSetIterable g'.iter env x = pure x) ∧ wpAny M A (eval g'.iter env) (fun x s4 => wpAny M A (pyIter x) (fun it1 s5 => codeAny M A (.compStart (.ListComp elt gens scope pos) d it1 acc env) (fun r s' => match r with
    | .ok _ => Post s'
    | .error _ => False) s5) Err s4) Err s
  | none => wpAny M A (eval elt env) (fun x s4 => wpAny M A (call (.builtin "list.append") [acc, x]) (fun _ s5 => Post s5) Err s4) Err s
section
variable {prog : Program} {w : World} {A : Around} {R : Result → Shared → Prop} {s : Shared} {elt t i : Expr} {ifs : List Expr} {gens : List Comprehension} {scope : Scope} {pos : Pos} {it acc : Value} {env : Env} {d : Nat}
theorem loopC (hsync : ∀ g ∈ gens, g.is_async = 0) (hg : gens[d]? = some ⟨t, i, ifs, 0⟩) (I : Nat → Shared → Prop)
    (turn : ∀ n s, I n s → wpAny (model prog w) A (pyNext it) (fun r s1 => match r with
      | none => R (.ok .next) s1
      | some v => wpAny (model prog w) A (letOwnedTupleGo t it v) (fun _ s2 => wpAny (model prog w) A (assign t env v) (fun _ s3 =>
          wpAny (model prog w) A (forIn ifs true fun c r => if r = true then do let ok ← isTrue c env (eval c env); pure (ForInStep.yield ok) else pure (ForInStep.yield r)) (fun ok s4 =>
            if ok = true then NextP (model prog w) A (notedBy (model prog w) A env fun e s' => R (.error e) s') elt gens scope pos (d + 1) acc env (fun s5 => ∃ m, m < n ∧ I m s5) s4
            else ∃ m, m < n ∧ I m s4) (notedBy (model prog w) A env fun e s' => R (.error e) s') s3) (notedBy (model prog w) A env fun e s' => R (.error e) s') s2) (notedBy (model prog w) A env fun e s' => R (.error e) s') s1) (notedBy (model prog w) A env fun e s' => R (.error e) s') s)
    (n : Nat) (h : I n s) : codeAny (model prog w) A (.compLoop (.ListComp elt gens scope pos) d it acc env) R s := by
  refine codeAny_loop rfl I (fun n s hI => ?_) n h
  show wpAny _ A ((compTurn (.ListComp elt gens scope pos) d it acc env).onRaise (fun x => do noteFrame x env; theTreesLotGoes x)) _ _ s
  refine wpAny_noted ?_
  cases hn : gens[d + 1]? with
  | some g1 =>
    obtain ⟨t1, i1, ifs1, a1⟩ := g1
    have ha : a1 = 0 := hsync _ (List.mem_of_getElem? hn)
    subst ha
    rw [turnS hg hn]
    refine wpAny_bind (wpAny_standAt (wpAny_bind (wpAny_mono (turn n s hI) (fun r s1 h1 => ?_) fun _ _ z => z)))
    cases r with
    | none => exact wpAny_pure h1
    | some v =>
      refine wpAny_bind (wpAny_mono h1 (fun _ s2 h2 => ?_) fun _ _ z => z)
      refine wpAny_bind (wpAny_mono h2 (fun _ s3 h3 => wpAny_bind (wpAny_mono h3 (fun ok s4 h4 => ?_) fun _ _ z => z)) fun _ _ z => z)
      cases ok with
      | false => exact wpAny_pure ⟨rfl, h4⟩
      | true =>
        unfold NextP at h4
        simp only [if_true, hn] at h4
        obtain ⟨hs, h4⟩ := h4
        refine wpAny_bind (wpAny_mono h4 (fun x s5 h5 => ?_) fun _ _ z => z)
        refine wpAny_bind (wpAny_standAt (wpAny_bind (wpAny_of_eq (hs x) (wpAny_bind (wpAny_holding (wpAny_mono h5 (fun it1 s6 h6 => ?_) fun _ _ z => z))))))
        refine wpAny_bind (wpAny_runOwn ?_)
        rw [Around.mark_none]
        refine codeAny_mono h6 fun r s' hr => ?_
        cases r with
        | ok f =>
          first
            | exact wpAny_pure ⟨rfl, hr⟩
            | exact wpAny_bind (wpAny_pure (wpAny_pure ⟨rfl, hr⟩))
        | error e => exact hr.elim
  | none =>
    rw [turnE hg hn]
    refine wpAny_bind (wpAny_standAt (wpAny_bind (wpAny_mono (turn n s hI) (fun r s1 h1 => ?_) fun _ _ z => z)))
    cases r with
    | none => exact wpAny_pure h1
    | some v =>
      refine wpAny_bind (wpAny_mono h1 (fun _ s2 h2 => ?_) fun _ _ z => z)
      refine wpAny_bind (wpAny_mono h2 (fun _ s3 h3 => wpAny_bind (wpAny_mono h3 (fun ok s4 h4 => ?_) fun _ _ z => z)) fun _ _ z => z)
      cases ok with
      | false => exact wpAny_pure ⟨rfl, h4⟩
      | true =>
        unfold NextP at h4
        simp only [if_true, hn] at h4
        exact wpAny_bind (wpAny_bind (wpAny_mono h4 (fun x s5 h5 => wpAny_bind (wpAny_mono h5 (fun _ s6 h6 => wpAny_pure (wpAny_pure ⟨rfl, h6⟩)) fun _ _ z => z)) fun _ _ z => z))
theorem startC (hg : gens[d]? = some ⟨t, i, ifs, 0⟩) (h0 : codeAny (model prog w) A (.compLoop (.ListComp elt gens scope pos) d it acc env) R s)
    (h : wpAny (model prog w) A (pyIter it) (fun it' s' => codeAny (model prog w) A (.compLoop (.ListComp elt gens scope pos) d it' acc env) R s') (notedBy (model prog w) A env fun x s' => R (.error x) s') s) :
    codeAny (model prog w) A (.compStart (.ListComp elt gens scope pos) d it acc env) R s := by
  refine codeAny_of_tree ?_
  show wpAny _ _ ((compStart (.ListComp elt gens scope pos) d it acc env).onRaise (fun x => do noteFrame x env; standAt theWindowsPlace)) _ _ s
  refine wpAny_notedAt ?_
  unfold compStart
  rw [show clausesOf (.ListComp elt gens scope pos) = gens from rfl, hg]
  show wpAny _ _ (ask >>= _) _ _ s
  refine wpAny_bind (wpAny_askSetting (wpAny_ite ?_))
  split
  · first
      | exact wpAny_bind (wpAny_pure (wpAny_pure (And.intro rfl h0)))
      | exact wpAny_pure (And.intro rfl h0)
  · first
      | exact wpAny_bind (wpAny_rule (wpAny_bind (wpAny_standAt (wpAny_bind (wpAny_mono h (fun it' s' h' => wpAny_pure (And.intro rfl h')) fun _ _ x => x)))))
      | (refine wpAny_bind (wpAny_rule ?_); show wpAny _ _ (standAt i.pos >>= _) _ _ s; exact wpAny_bind (wpAny_standAt (wpAny_bind (wpAny_mono h (fun it' s' h' => wpAny_pure (And.intro rfl h')) fun _ _ x => x))))
end
theorem pi_listK {X : Cx} {tg l : Expr} {tl : TE} (K : PySem.W.Frag) (hl : PE X l tl) (h : X.K = K := by rfl) : PI X tg l (iList K tl) := by
  subst h
  exact pi_list hl
theorem pi_tupK {X : Cx} {tg l : Expr} {tl : TE} (K : PySem.W.Frag) (hl : PE X l tl) (h : X.K = K := by rfl) : PI X tg l (iTup K tl) := by
  subst h
  exact pi_tup hl
abbrev ClD := TI × TG × TT × List Nat
/-- the reading of the clauses behind the first, and of the item -/
def tIn (D : Addr) (te : TE) : List ClD → L2.St → Hp → (Hp → Prop) → Prop
  | [], σ, H, Nx => te σ H fun y H7 => ∃ acc, H7 D = some (.lst acc) ∧ acc.length < sizeLine ∧ Nx (upd H7 D (.lst (acc ++ [y])))
  | c :: cs, σ, H, Nx => c.1 σ H fun J H4 => ∃ W : Nat → Nat → Hp → Prop, (∃ m, W 0 m H4) ∧ ∀ j k H, W j k H →
    (J.stop j H ∧ Nx H) ∨ (J.go j H ∧ ∃ Nx1 : Hp → Prop, (∀ H', Nx1 H' → ∃ k', k' < k ∧ W (j + 1) k' H') ∧ ∀ x H', J.yld j H x H' → c.2.1 x (wipe σ c.2.2.2) H' fun σ3 H5 => wipe σ3 c.2.2.2 = wipe σ c.2.2.2 ∧ c.2.2.1 σ3 H5 fun b H6 =>
      if b = true then tIn D te cs σ3 H6 Nx1 else Nx1 H6)
inductive ClsN (X : Cx) : List Comprehension → List ClD → List Nat → Prop where
  | nil {vs : List Nat} : ClsN X [] [] vs
  | cons {t i : Expr} {ifs : List Expr} {wi : TI} {g : TG} {tt : TT} {vs vs0 : List Nat} {cs : List Comprehension} {ds : List ClD} (hi : PI X t i wi) (hg : PG X t g) (ht : PTs X ifs tt) (hs : ∀ env x, foldedSetIterable i env x = pure x) (hv : ∀ v ∈ vs, v ∈ vs0) (r : ClsN X cs ds vs) :
      ClsN X (⟨t, i, ifs, 0⟩ :: cs) ((wi, g, tt, vs) :: ds) vs0
theorem next_ok {X : Cx} (hx : X.xe = fun _ _ => False) (hc : X.calm = true) {elt : Expr} {te : TE} {gens : List Comprehension} {scope : Scope} {pos : Pos} (hsync : ∀ g ∈ gens, g.is_async = 0) (pe : PE X elt te) (D : Addr) : ∀ {cs : List Comprehension} {ds : List ClD} {vs0 : List Nat}, ClsN X cs ds vs0 →
    ∀ {d : Nat}, gens.drop d = cs → ∀ {pins : List (Addr × Obj)} {σ : L2.St} {H : Hp} {s : Shared} {Nx : Hp → Prop} {Err : Value → Shared → Prop} {Post : Shared → Prop}, Inv X pins σ H s → tIn D te ds σ H Nx →
      (∀ σ' H' s', σ'.length = σ.length → (∀ (j : Nat) v, j ∉ vs0 → σ[j]? = some (some v) → σ'[j]? = some (some v)) → Inv X pins σ' H' s' → Nx H' → Post s') → NextP (model X.prog X.w) X.A Err elt gens scope pos d (.ref D) X.env Post s := by
  have F : ∀ {α : Type} {t : Sem α} {Q Q' : α → Shared → Prop} {E2 : Value → Shared → Prop} {s : Shared}, wpAny (model X.prog X.w) X.A t Q X.xe s → (∀ a s, Q a s → Q' a s) → wpAny (model X.prog X.w) X.A t Q' E2 s := fun h k => by
    rw [hx] at h
    exact thnF h k
  intro cs ds vs0 C
  induction C with
  | nil =>
    intro d hd pins σ H s Nx Err Post I q k
    have hn : gens[d]? = none := by
      rw [← List.head?_drop, hd]
      rfl
    unfold NextP
    rw [hn]
    refine F (pe.run _ s σ H _ I q) fun z s17 ⟨yv, H17, I17, r17, acc, hD17, hz17, nx⟩ => ?_
    exact app_ok (X := X) I17 hD17 hz17 r17 fun s18 I18 => k σ _ s18 rfl (fun _ _ _ e => e) I18 nx
  | @cons t i ifs wi g tt vs vs0 cs ds hi hg ht hs hv r ih =>
    intro d hd pins σ H s Nx Err Post I q k
    have hn : gens[d]? = some ⟨t, i, ifs, 0⟩ := by
      rw [← List.head?_drop, hd]
      rfl
    have hd1 : gens.drop (d + 1) = cs := by
      rw [← List.tail_drop, hd]
      rfl
    unfold NextP
    rw [hn]
    refine ⟨hs X.env, F (hi.run pins s σ H _ I q) fun xv s10 hx1 => F hx1 fun itv s11 h11 => ?_⟩
    obtain ⟨it1, fp1, tn1, J1, H11, e1, I11, T1, st11, f11, W1, ⟨m1, w1⟩, turn1⟩ := h11
    subst e1
    have stat1 : ∀ {H' : Hp}, (∀ b ∈ fp1, H' b = none) → ∀ b ∈ fp1, FpOk X pins H' b := fun hn b hb => ⟨hn b hb, (f11 b hb).2⟩
    have loop1 : codeAny (model X.prog X.w) X.A (.compLoop (.ListComp elt gens scope pos) d (.ref it1) (.ref D) X.env) (fun r s' => match r with
        | .ok _ => Post s'
        | .error _ => False) s11 := by
      refine loopC hsync hn (fun k' s' => ∃ j H', Inv X pins (wipe σ vs) H' s' ∧ tn1 j s'.heap ∧ (∀ b ∈ fp1, H' b = none) ∧ W1 j k' H') ?_ m1 ⟨0, H11, I11.weak (wipe_length _ _) (fun j v e => (wipe_some e).1), st11, fun b hb => (f11 b hb).1, w1⟩
      rintro n s12 ⟨j, H12, I12, st12, n12, w12⟩
      rcases turn1 j n H12 w12 with ⟨stop1, nx1⟩ | ⟨go1, Nx1, hNx1, step1⟩
      · refine thnF (T1.done X rfl rfl rfl hc j _ s12 (wipe σ vs) H12 (fun _ _ => False) I12 (stat1 n12) st12 stop1) fun r s13 ⟨hr, I13⟩ => ?_
        subst hr
        refine k (wipe σ vs) H12 s13 (wipe_length σ vs) (fun j v hj e => ?_) I13 nx1
        rw [wipe_out fun z => hj (hv j z)]
        exact e
      · refine thnF (T1.item X rfl rfl rfl hc j _ s12 (wipe σ vs) H12 (fun _ _ => False) I12 (stat1 n12) st12 go1) fun r s13 ⟨u1, hr, h13⟩ => ?_
        subst hr
        refine thnF h13 fun _ s14 ⟨x1, H14, I14, r14, y14, st14, n14⟩ => ?_
        have I14' := I14.pinned (stat1 n14) (T1.obj _ _ st14)
        refine F (hg.run _ s14 (wipe σ vs) H14 x1 u1 _ I14' r14 (step1 x1 H14 y14)) fun _ s15 ⟨σ15, H15, I15, hw15, q15⟩ => ?_
        refine F (ht.run _ s15 σ15 H15 _ I15 q15) fun b1 s16 ⟨H16, I16, q16⟩ => ?_
        have hlen : (wipe σ vs).length = σ15.length := by
          have e := congrArg List.length hw15
          rw [wipe_length, wipe_length] at e
          rw [wipe_length]
          exact e.symm
        have kn : ∀ (j : Nat) v, (wipe σ vs)[j]? = some (some v) → σ15[j]? = some (some v) ∧ j ∉ vs := fun j v e => by
          rw [← hw15] at e
          exact wipe_some e
        have fin1 : ∀ {σ9 : L2.St} {s' : Shared} {H' : Hp}, Inv X (pins ++ pinsAt fp1 s14.heap) σ9 H' s' → σ9.length = σ15.length → (∀ (j : Nat) v, j ∉ vs → σ15[j]? = some (some v) → σ9[j]? = some (some v)) → Nx1 H' → ∃ m, m < n ∧ ∃ j H', Inv X pins (wipe σ vs) H' s' ∧ tn1 j s'.heap ∧ (∀ b ∈ fp1, H' b = none) ∧ W1 j m H' := fun {σ9 s' H'} I' hl hk nx => by
          obtain ⟨m', hm, w'⟩ := hNx1 H' nx
          have pin' : ∀ b ∈ fp1, ∀ o, s14.heap.get? b = some o → s'.heap.get? b = some o ∧ H' b = none := fun b hb o e =>
            let z := I'.pin (b, o) (List.mem_append_right _ (List.mem_append_right _ (mem_pinsAt hb e)))
            ⟨z.1, z.2.1⟩
          refine ⟨m', hm, j + 1, H', I'.unpinned.weak (hlen.trans hl.symm) (fun j v e => hk j v (kn j v e).2 (kn j v e).1), T1.keep _ _ _ st14 fun b hb o e => (pin' b hb o e).1, fun b hb => ?_, w'⟩
          obtain ⟨o, e, _⟩ := T1.obj _ _ st14 b hb
          exact (pin' b hb o e).2
        cases b1 with
        | false =>
          simp only [Bool.false_eq_true, if_false] at q16 ⊢
          exact fin1 I16 rfl (fun _ _ _ e => e) q16
        | true =>
          simp only [if_true] at q16 ⊢
          exact ih hd1 I16 q16 fun σ' H' s' hl hk I' nx => fin1 I' hl hk nx
    exact startC hn loop1 (T1.self X.A 0 _ _ _ st11 loop1)
/-- the reading of the whole -/
def tLcN (wi : TI) (g : TG) (tt : TT) (ds : List ClD) (te : TE) (vs : List Nat) : TE := fun σ H Q => wi σ H fun J H1 => ∀ D, H1 D = none → ∃ W : Nat → Nat → Hp → Prop, (∃ m, W 0 m (upd H1 D (.lst []))) ∧ ∀ i m H, W i m H →
  (J.stop i H ∧ Q (.ref D) H) ∨ (J.go i H ∧ ∃ Nx : Hp → Prop, (∀ H', Nx H' → ∃ m', m' < m ∧ W (i + 1) m' H') ∧ ∀ x H', J.yld i H x H' → g x (wipe σ vs) H' fun σ2 H2 => wipe σ2 vs = wipe σ vs ∧ tt σ2 H2 fun b H3 =>
    if b = true then tIn D te ds σ2 H3 Nx else Nx H3)
section
variable {X : Cx}
theorem lcN_core {pins : List (Addr × Obj)} {s : Shared} {σ : L2.St} {H : Hp} {Q : VK} {elt tg iter : Expr} {ifs : List Expr} {gens : List Comprehension} {scope : Scope} {own : List (Str × Nat)} {pos pos' : Pos} {wi : TI} {g : TG} {tt : TT} {ds : List ClD} {te : TE} {use : Option (Value → Sem Unit)} {Qf : Value → Shared → Prop}
    (hc : X.calm = true) (hN : X.N.Nodup) (I : Inv X pins σ H s) (hi : PI X tg iter wi) (ok : BlkOk X.N X.env.scope scope own)
    (hg : ∀ (s : Shared) (H : Hp) (C : Addr) (cl : List (Str × Addr)) (fp : List Addr), PG (X.blk s H scope (compEnvC scope cl C X.env) fp) tg g) (ht : ∀ (s : Shared) (H : Hp) (C : Addr) (cl : List (Str × Addr)) (fp : List Addr), PTs (X.blk s H scope (compEnvC scope cl C X.env) fp) ifs tt)
    (hcs : ∀ (s : Shared) (H : Hp) (C : Addr) (cl : List (Str × Addr)) (fp : List Addr), ClsN (X.blk s H scope (compEnvC scope cl C X.env) fp) gens ds (own.map (·.2)))
    (he : ∀ (s : Shared) (H : Hp) (C : Addr) (cl : List (Str × Addr)) (fp : List Addr), PE (X.blk s H scope (compEnvC scope cl C X.env) fp) elt te) (hs : ∀ x, foldedSetIterable iter X.env x = pure x) (hsync : ∀ g ∈ (⟨tg, iter, ifs, 0⟩ :: gens : List Comprehension), g.is_async = 0)
    (h : tLcN wi g tt ds te (own.map (·.2)) σ H Q)
    (hRR : ∀ D C s' m H', Inv X pins σ H' s' → Q (.ref D) H' → s'.heap.Ns C m → FpOk X pins H' C → compPost (model X.prog X.w) X.A X.xe use Qf (.ref D) C (.ok .next) s') :
    wpAny (model X.prog X.w) X.A (comprehension (.ListComp elt (⟨tg, iter, ifs, 0⟩ :: gens) scope pos) scope X.env pos' (newList []) false (eval iter X.env) use) Qf X.xe s := by
  have hfree : ∀ y ∈ scope.names, y.2 = .free → ∃ c, X.env.cells.lookup y.1 = some c := fun y hy e => by
    rcases ok.free y hy e with k | k
    · exact I.ok.has _ (.inl k)
    · exact I.ok.has _ (.inr k)
  refine wpAny_comprehension_free (use := use) rfl hs (closure_ok hfree) ok.kind (fun y hy e => by rw [ok.uniq y hy, e])
    (thn (hi.run pins s σ H _ I h) fun xv s1 hx => thn hx fun itv s2 h2 => ?_)
  obtain ⟨it, fp, tn, J, H2, e, I2, T, st2, f2, q⟩ := h2
  subst e
  refine wpAny_newObj_type (newEnv_comp ?_) (by show 0 ≤ sizeLine; decide)
  generalize hD : s2.heap.objs.size = D
  have hDn : H2 D = none := I2.hok.fresh (Nat.le_of_eq hD)
  obtain ⟨W, ⟨m0, w0⟩, turn⟩ := q D hDn
  -- the new list
  generalize hs3 : ({ s2 with heap := s2.heap.push { cls := .type "list", data := .seq ([] : List Value).toArray } } : Shared) = s3
  have I3 : Inv X pins σ (upd H2 D (.lst [])) s3 := by
    rw [← hs3]
    refine I2.laid (t' := s2.toks) (fun b o e => Heap.get?_push_of_some _ e) (Nat.le_of_eq hD) ⟨Nat.zero_le _, [], 0, .nil, ?_⟩
    rw [← hD]
    exact Heap.get?_push_size _ rfl
  have h3 : s3.heap = s2.heap.push { cls := .type "list", data := .seq ([] : List Value).toArray } := by rw [← hs3]
  have sz : ∀ b ∈ fp, b < s2.heap.objs.size := fun b hb => by
    obtain ⟨o, e, _⟩ := T.obj _ _ st2 b hb
    exact Heap.lt_size e
  have f3 : ∀ b ∈ fp, FpOk X pins (upd H2 D (.lst [])) b ∧ b < s3.heap.objs.size := fun b hb => by
    have hlt := sz b hb
    refine ⟨⟨?_, (f2 b hb).2⟩, by rw [h3, Heap.size_push]; exact Nat.lt_succ_of_lt hlt⟩
    rw [upd_ne (by rw [← hD]; exact Nat.ne_of_lt hlt)]
    exact (f2 b hb).1
  have st3 : tn 0 s3.heap := T.keep _ _ _ st2 fun b _ o e => by rw [h3]; exact Heap.get?_push_of_some _ e
  have I4 := block_start I3 ok hN f3
  have pg := hg s3 (upd H2 D (.lst [])) s3.heap.objs.size (cellsFrom (s3.heap.objs.size + 1) scope.names (cloFrom X.env.cells scope.names [])) fp
  have pt := ht s3 (upd H2 D (.lst [])) s3.heap.objs.size (cellsFrom (s3.heap.objs.size + 1) scope.names (cloFrom X.env.cells scope.names [])) fp
  have pe := he s3 (upd H2 D (.lst [])) s3.heap.objs.size (cellsFrom (s3.heap.objs.size + 1) scope.names (cloFrom X.env.cells scope.names [])) fp
  have pcs := hcs s3 (upd H2 D (.lst [])) s3.heap.objs.size (cellsFrom (s3.heap.objs.size + 1) scope.names (cloFrom X.env.cells scope.names [])) fp
  show codeAny _ _ (.compStart (.ListComp elt (⟨tg, iter, ifs, 0⟩ :: gens) scope pos) 0 (.ref it) (.ref D) (compEnvC scope (cellsFrom (s3.heap.objs.size + 1) scope.names (cloFrom X.env.cells scope.names [])) s3.heap.objs.size X.env)) (compPost (model X.prog X.w) X.A X.xe use Qf (.ref D) s3.heap.objs.size) { s3 with heap := pushCells (s3.heap.push { cls := .type "dict", data := .dict #[] }) scope.names }
  have nfp : ∀ b ∈ fp, (upd H2 D (.lst [])) b = none := fun b hb => (f3 b hb).1.1
  generalize hce : compEnvC scope (cellsFrom (s3.heap.objs.size + 1) scope.names (cloFrom X.env.cells scope.names [])) s3.heap.objs.size X.env = ce at I4 pg pt pe pcs ⊢
  have cL : ce.locals = s3.heap.objs.size := by subst hce; rfl
  generalize hH3 : upd H2 D (.lst []) = H3 at I3 I4 pg pt pe pcs w0 nfp f3
  generalize hs4 : ({ s3 with heap := pushCells (s3.heap.push { cls := .type "dict", data := .dict #[] }) scope.names } : Shared) = s4 at I4 ⊢
  have st4 : tn 0 s4.heap := T.keep _ _ _ st3 fun b _ o e => by rw [← hs4]; exact pushCells_keeps _ _ _ _ (Heap.get?_push_of_some _ e)
  have stat : ∀ {σ' : L2.St} {H' : Hp} {s' : Shared}, Inv (X.blk s3 H3 scope ce fp) [] σ' H' s' → (∀ b ∈ fp, H' b = none) → ∀ b ∈ fp, FpOk (X.blk s3 H3 scope ce fp) [] H' b := fun {σ' H' s'} I' hn b hb =>
    ⟨hn b hb, (I'.ok.exf b hb).1, I'.ok.exfs b hb, .inl hb, fun x c e => (I'.ok.exf b hb).2 x c e, fun p hp => absurd (show p ∈ ([] : List (Addr × Obj)) ++ [] from hp) (by simp)⟩
  have loop : codeAny (model X.prog X.w) X.A (.compLoop (.ListComp elt (⟨tg, iter, ifs, 0⟩ :: gens) scope pos) 0 (.ref it) (.ref D) ce) (compPost (model X.prog X.w) X.A X.xe use Qf (.ref D) s3.heap.objs.size) s4 := by
    refine loopC hsync (d := 0) rfl (fun n s' => ∃ i H', Inv (X.blk s3 H3 scope ce fp) [] (wipe σ (own.map (·.2))) H' s' ∧ tn i s'.heap ∧ (∀ b ∈ fp, H' b = none) ∧ W i n H') ?_ m0 ⟨0, H3, I4, st4, nfp, w0⟩
    rintro n s5 ⟨i, H5, I5, st5, n5, w5⟩
    rcases turn i n H5 w5 with ⟨stop, qq⟩ | ⟨go, Nx, hNx, step⟩
    · have td := T.done (X.blk s3 H3 scope ce fp) rfl rfl rfl hc i [] s5 _ H5 (fun _ _ => False) I5 (stat I5 n5) st5 stop
      refine thnF td fun r s6 ⟨hr, I6⟩ => ?_
      subst hr
      -- back in the def's context
      have I7 : Inv X pins σ H5 s6 := I3.call' (ch := fp) I6.os I6.base I6.hok I6.bare fun b hb => ⟨(f3 b hb).1.2.2.2.1, (f3 b hb).1.2.1, (f3 b hb).1.2.2.2.2.1, (f3 b hb).1.2.2.2.2.2⟩
      have nC : H5 s3.heap.objs.size = none := by
        have z : H5 ce.locals = none := I6.free
        rw [cL] at z
        exact z
      obtain ⟨m, hn, _⟩ := I6.loc
      have hn : s6.heap.Ns ce.locals m := hn
      rw [cL] at hn
      exact hRR D s3.heap.objs.size s6 m H5 I7 qq hn (I3.fpOk (Nat.le_refl _) nC)
    · have ti := T.item (X.blk s3 H3 scope ce fp) rfl rfl rfl hc i [] s5 _ H5 (fun _ _ => False) I5 (stat I5 n5) st5 go
      refine thnF ti fun r s6 ⟨u, hr, h6⟩ => ?_
      subst hr
      refine thnF h6 fun _ s7 ⟨x, H7, I7, r7, y7, st7, n7⟩ => ?_
      have I7' := I7.pinned (stat I7 n7) (T.obj _ _ st7)
      refine thnF (pg.run _ s7 _ H7 x u _ I7' r7 (step x H7 y7)) fun _ s8 ⟨σ8, H8, I8, hw8, q8⟩ => ?_
      refine thnF (pt.run _ s8 σ8 H8 _ I8 q8) fun b s9 ⟨H9, I9, q9⟩ => ?_
      -- the turn's end, from any slots that know what the block knew at its start
      have fin : ∀ {σ9 : L2.St} {s' : Shared} {H' : Hp}, Inv (X.blk s3 H3 scope ce fp) ([] ++ pinsAt fp s7.heap) σ9 H' s' → (wipe σ (own.map (·.2))).length = σ9.length → (∀ (j : Nat) v, (wipe σ (own.map (·.2)))[j]? = some (some v) → σ9[j]? = some (some v)) → Nx H' →
          ∃ m, m < n ∧ ∃ i H', Inv (X.blk s3 H3 scope ce fp) [] (wipe σ (own.map (·.2))) H' s' ∧ tn i s'.heap ∧ (∀ b ∈ fp, H' b = none) ∧ W i m H' := fun {σ9 s' H'} I' hl hk nx => by
        obtain ⟨m', hm, w'⟩ := hNx H' nx
        have pin' : ∀ b ∈ fp, ∀ o, s7.heap.get? b = some o → s'.heap.get? b = some o ∧ H' b = none := fun b hb o e =>
          let z := I'.pin (b, o) (List.mem_append_right _ (List.mem_append_right _ (mem_pinsAt hb e)))
          ⟨z.1, z.2.1⟩
        refine ⟨m', hm, i + 1, H', (I'.unpinned (pins := [])).weak hl hk, T.keep _ _ _ st7 fun b hb o e => (pin' b hb o e).1, fun b hb => ?_, w'⟩
        obtain ⟨o, e, _⟩ := T.obj _ _ st7 b hb
        exact (pin' b hb o e).2
      have hl8 : (wipe σ (own.map (·.2))).length = σ8.length := by rw [← hw8, wipe_length]
      have hk8 : ∀ (j : Nat) v, (wipe σ (own.map (·.2)))[j]? = some (some v) → σ8[j]? = some (some v) := fun j v e => by
        rw [← hw8] at e
        exact (wipe_some e).1
      cases b with
      | false =>
        simp only [Bool.false_eq_true, if_false] at q9 ⊢
        exact fin I9 hl8 hk8 q9
      | true =>
        simp only [if_true] at q9 ⊢
        exact next_ok (X := X.blk s3 H3 scope ce fp) rfl hc hsync pe D pcs rfl I9 q9 fun σ' H' s' hl hk I' nx => fin I' (hl8.trans hl.symm) (fun j v e => hk j v (by
          intro hj
          have e1 : (wipe σ8 (own.map (·.2)))[j]? = some (some v) := by rw [hw8]; exact e
          exact (wipe_some e1).2 hj) (hk8 j v e)) nx
  exact startC (d := 0) rfl loop (T.self X.A 0 _ _ _ st4 loop)
theorem pe_lcN {elt tg iter : Expr} {ifs : List Expr} {gens : List Comprehension} {scope : Scope} {own : List (Str × Nat)} {pos : Pos} {wi : TI} {g : TG} {tt : TT} {ds : List ClD} {te : TE} (hc : X.calm = true) (hN : X.N.Nodup) (hi : PI X tg iter wi) (ok : BlkOk X.N X.env.scope scope own)
    (hg : ∀ (s : Shared) (H : Hp) (C : Addr) (cl : List (Str × Addr)) (fp : List Addr), PG (X.blk s H scope (compEnvC scope cl C X.env) fp) tg g) (ht : ∀ (s : Shared) (H : Hp) (C : Addr) (cl : List (Str × Addr)) (fp : List Addr), PTs (X.blk s H scope (compEnvC scope cl C X.env) fp) ifs tt)
    (hcs : ∀ (s : Shared) (H : Hp) (C : Addr) (cl : List (Str × Addr)) (fp : List Addr), ClsN (X.blk s H scope (compEnvC scope cl C X.env) fp) gens ds (own.map (·.2)))
    (he : ∀ (s : Shared) (H : Hp) (C : Addr) (cl : List (Str × Addr)) (fp : List Addr), PE (X.blk s H scope (compEnvC scope cl C X.env) fp) elt te) (hs : ∀ x, foldedSetIterable iter X.env x = pure x := by intro _; rfl) (hsync : (⟨tg, iter, ifs, 0⟩ :: gens : List Comprehension).all (fun g => g.is_async == 0) = true := by rfl) :
    PE X (.ListComp elt (⟨tg, iter, ifs, 0⟩ :: gens) scope pos) (tLcN wi g tt ds te (own.map (·.2))) := by
  refine ⟨fun pins s σ H Q I h => ?_⟩
  rw [eval_ListComp]
  refine lcN_core hc hN I hi ok hg ht hcs he hs (fun g hm => eq_of_beq (List.all_eq_true.mp hsync g hm)) h fun D C s' m H' I' q hn f => ⟨m, hn, fun h2 sb => ?_⟩
  obtain ⟨f0, f1, f2, f3, f4, f5⟩ := f
  exact ⟨.ref D, H', I'.turned (t' := s'.toks) (fun b o hb e => (sb.2 b hb).trans e) f0 f1 f3 f4 f5, rfl, q⟩
end
end Z
namespace Z
open PySem PySem.Spec PyProof.Rows L2
/-! ### walks: a step's claim by the item, the heap, what is wanted behind it -/
theorem wk_range {lo : Int} {n : Nat} {S : V → Hp → (Hp → Prop) → Prop} {H0 : Hp} {Qd : Hp → Prop} (Pv : Nat → Hp → Prop) (h0 : Pv 0 H0) (hs : ∀ (i : Nat) H, i < n → Pv i H → S (.int (lo + (i : Int))) H (Pv (i + 1))) (hd : ∀ H, Pv n H → Qd H) :
    ∃ W : Nat → Nat → Hp → Prop, (∃ m, W 0 m H0) ∧ ∀ i m H, W i m H → ((Itr lo n).stop i H ∧ Qd H) ∨ ((Itr lo n).go i H ∧ ∃ Nx : Hp → Prop, (∀ H', Nx H' → ∃ m', m' < m ∧ W (i + 1) m' H') ∧ ∀ x H', (Itr lo n).yld i H x H' → S x H' Nx) := by
  refine ⟨fun i m H => m = n - i ∧ i ≤ n ∧ Pv i H, ⟨n, (Nat.sub_zero n).symm, Nat.zero_le _, h0⟩, ?_⟩
  rintro i m H ⟨rfl, hi, q⟩
  by_cases lt : i < n
  · exact .inr ⟨lt, Pv (i + 1), fun H' r => ⟨n - (i + 1), by omega, rfl, lt, r⟩, fun x H' ⟨e, y⟩ => by
      subst e y
      exact hs i _ lt q⟩
  · obtain rfl : i = n := by omega
    exact .inl ⟨Nat.le_refl _, hd H q⟩
theorem wk_list {K : PySem.W.Frag} {a : Addr} {xs : List V} {S : V → Hp → (Hp → Prop) → Prop} {H0 : Hp} {Qd : Hp → Prop} (Pv : Nat → Hp → Prop) (h0 : Pv 0 H0) (hl : ∀ i H, Pv i H → SqL K H a xs) (hs : ∀ i x H, xs[i]? = some x → Pv i H → S x H (Pv (i + 1))) (hd : ∀ H, Pv xs.length H → Qd H) :
    ∃ W : Nat → Nat → Hp → Prop, (∃ m, W 0 m H0) ∧ ∀ i m H, W i m H → ((Itl K a).stop i H ∧ Qd H) ∨ ((Itl K a).go i H ∧ ∃ Nx : Hp → Prop, (∀ H', Nx H' → ∃ m', m' < m ∧ W (i + 1) m' H') ∧ ∀ x H', (Itl K a).yld i H x H' → S x H' Nx) := by
  refine ⟨fun i m H => m = xs.length - i ∧ i ≤ xs.length ∧ Pv i H, ⟨xs.length, (Nat.sub_zero _).symm, Nat.zero_le _, h0⟩, ?_⟩
  rintro i m H ⟨rfl, hi, q⟩
  have sq := hl i H q
  by_cases lt : i < xs.length
  · exact .inr ⟨⟨xs, xs[i], sq, List.getElem?_eq_getElem lt⟩, Pv (i + 1), fun H' r => ⟨xs.length - (i + 1), by omega, rfl, lt, r⟩, fun x H' ⟨e, y⟩ => by
      subst e
      exact hs i x _ (y xs sq) q⟩
  · obtain rfl : i = xs.length := by omega
    exact .inl ⟨⟨xs, sq, Nat.le_refl _⟩, hd H q⟩
theorem wk_tup {K : PySem.W.Frag} {a : Addr} {xs : List V} {S : V → Hp → (Hp → Prop) → Prop} {H0 : Hp} {Qd : Hp → Prop} (Pv : Nat → Hp → Prop) (h0 : Pv 0 H0) (hl : ∀ i H, Pv i H → SqT K H a xs) (hs : ∀ i x H, xs[i]? = some x → Pv i H → S x H (Pv (i + 1))) (hd : ∀ H, Pv xs.length H → Qd H) :
    ∃ W : Nat → Nat → Hp → Prop, (∃ m, W 0 m H0) ∧ ∀ i m H, W i m H → ((Itt K a).stop i H ∧ Qd H) ∨ ((Itt K a).go i H ∧ ∃ Nx : Hp → Prop, (∀ H', Nx H' → ∃ m', m' < m ∧ W (i + 1) m' H') ∧ ∀ x H', (Itt K a).yld i H x H' → S x H' Nx) := by
  refine ⟨fun i m H => m = xs.length - i ∧ i ≤ xs.length ∧ Pv i H, ⟨xs.length, (Nat.sub_zero _).symm, Nat.zero_le _, h0⟩, ?_⟩
  rintro i m H ⟨rfl, hi, q⟩
  have sq := hl i H q
  by_cases lt : i < xs.length
  · exact .inr ⟨⟨xs, xs[i], sq, List.getElem?_eq_getElem lt⟩, Pv (i + 1), fun H' r => ⟨xs.length - (i + 1), by omega, rfl, lt, r⟩, fun x H' ⟨e, y⟩ => by
      subst e
      exact hs i x _ (y xs sq) q⟩
  · obtain rfl : i = xs.length := by omega
    exact .inl ⟨⟨xs, sq, Nat.le_refl _⟩, hd H q⟩
/-! ### the clauses behind the first -/
section
variable {D : Addr} {te : TE} {ds : List ClD} {tt : TT} {σ : L2.St} {H : Hp} {Nx : Hp → Prop} {vs : List Nat} {j : Nat}
theorem in_range2 {ta : TA} (lo hi : Int) (h : ∀ Q : List V → Hp → Prop, Q [.int lo, .int hi] H → ta σ H Q) (h1 : -(2 ^ 62) ≤ lo ∧ lo < 2 ^ 62) (h2 : -(2 ^ 62) ≤ hi ∧ hi < 2 ^ 62) (Pv : Nat → Hp → Prop) (h0 : Pv 0 H) (hw : ∀ v, wipe ((wipe σ vs).set j (some v)) vs = wipe σ vs)
    (hs : ∀ (i : Nat) H', lo + (i : Int) < hi → Pv i H' → tt ((wipe σ vs).set j (some (.int (lo + (i : Int))))) H' fun b H6 => if b = true then tIn D te ds ((wipe σ vs).set j (some (.int (lo + (i : Int))))) H6 (Pv (i + 1)) else Pv (i + 1) H6) (hd : ∀ H', Pv (hi - lo).toNat H' → Nx H') :
    tIn D te ((iRng2 ta, gName j, tt, vs) :: ds) σ H Nx := by
  refine h _ ⟨lo, hi, rfl, ⟨h1.1, h1.2, h2.1, h2.2⟩, ?_⟩
  exact wk_range (S := fun x H' Nx1 => wipe ((wipe σ vs).set j (some x)) vs = wipe σ vs ∧ tt ((wipe σ vs).set j (some x)) H' fun b H6 => if b = true then tIn D te ds ((wipe σ vs).set j (some x)) H6 Nx1 else Nx1 H6) Pv h0 (fun i H' lt p => ⟨hw _, hs i H' (by omega) p⟩) hd
theorem in_list {K : PySem.W.Frag} {tl : TE} (a : Addr) (xs : List V) (h : ∀ Q : VK, Q (.ref a) H → tl σ H Q) (hx : SqL K H a xs) (Pv : Nat → Hp → Prop) (h0 : Pv 0 H) (hw : ∀ v, wipe ((wipe σ vs).set j (some v)) vs = wipe σ vs) (hl : ∀ i H', Pv i H' → SqL K H' a xs)
    (hs : ∀ i x H', xs[i]? = some x → Pv i H' → tt ((wipe σ vs).set j (some x)) H' fun b H6 => if b = true then tIn D te ds ((wipe σ vs).set j (some x)) H6 (Pv (i + 1)) else Pv (i + 1) H6) (hd : ∀ H', Pv xs.length H' → Nx H') :
    tIn D te ((iList K tl, gName j, tt, vs) :: ds) σ H Nx := by
  refine h _ ⟨a, rfl, ⟨xs, hx⟩, ?_⟩
  exact wk_list (S := fun x H' Nx1 => wipe ((wipe σ vs).set j (some x)) vs = wipe σ vs ∧ tt ((wipe σ vs).set j (some x)) H' fun b H6 => if b = true then tIn D te ds ((wipe σ vs).set j (some x)) H6 Nx1 else Nx1 H6) Pv h0 hl (fun i x H' e p => ⟨hw _, hs i x H' e p⟩) hd
end
/-! ### the first clause -/
section
variable {te : TE} {ds : List ClD} {tt : TT} {σ : L2.St} {H : Hp} {Q : VK} {vs : List Nat} {j : Nat}
theorem lcN_range {ta : TA} (n : Nat) (h : ∀ Q : List V → Hp → Prop, Q [.int n] H → ta σ H Q) (hn : n < 2 ^ 62) (Pv : Addr → Nat → Hp → Prop) (h0 : ∀ D, H D = none → Pv D 0 (upd H D (.lst []))) (hw : ∀ v, wipe ((wipe σ vs).set j (some v)) vs = wipe σ vs)
    (hs : ∀ D (i : Nat) H', H D = none → i < n → Pv D i H' → tt ((wipe σ vs).set j (some (.int (i : Int)))) H' fun b H6 => if b = true then tIn D te ds ((wipe σ vs).set j (some (.int (i : Int)))) H6 (Pv D (i + 1)) else Pv D (i + 1) H6) (hd : ∀ D H', H D = none → Pv D n H' → Q (.ref D) H') :
    tLcN (iRng1 ta) (gName j) tt ds te vs σ H Q := by
  refine h _ ⟨n, rfl, by omega, by omega, fun D hD => ?_⟩
  rw [Int.toNat_natCast]
  exact wk_range (lo := 0) (S := fun x H' Nx1 => wipe ((wipe σ vs).set j (some x)) vs = wipe σ vs ∧ tt ((wipe σ vs).set j (some x)) H' fun b H6 => if b = true then tIn D te ds ((wipe σ vs).set j (some x)) H6 Nx1 else Nx1 H6) (Pv D) (h0 D hD) (fun i H' lt p => by
    rw [show (0 : Int) + (i : Int) = (i : Int) by omega]
    exact ⟨hw _, hs D i H' hD lt p⟩) fun H' p => hd D H' hD p
theorem lcN_list {K : PySem.W.Frag} {tl : TE} (a : Addr) (xs : List V) (h : ∀ Q : VK, Q (.ref a) H → tl σ H Q) (hx : SqL K H a xs) (Pv : Addr → Nat → Hp → Prop) (h0 : ∀ D, H D = none → Pv D 0 (upd H D (.lst []))) (hw : ∀ v, wipe ((wipe σ vs).set j (some v)) vs = wipe σ vs) (hl : ∀ D i H', H D = none → Pv D i H' → SqL K H' a xs)
    (hs : ∀ D i x H', H D = none → xs[i]? = some x → Pv D i H' → tt ((wipe σ vs).set j (some x)) H' fun b H6 => if b = true then tIn D te ds ((wipe σ vs).set j (some x)) H6 (Pv D (i + 1)) else Pv D (i + 1) H6) (hd : ∀ D H', H D = none → Pv D xs.length H' → Q (.ref D) H') :
    tLcN (iList K tl) (gName j) tt ds te vs σ H Q := by
  refine h _ ⟨a, rfl, ⟨xs, hx⟩, fun D hD => ?_⟩
  exact wk_list (S := fun x H' Nx1 => wipe ((wipe σ vs).set j (some x)) vs = wipe σ vs ∧ tt ((wipe σ vs).set j (some x)) H' fun b H6 => if b = true then tIn D te ds ((wipe σ vs).set j (some x)) H6 Nx1 else Nx1 H6) (Pv D) (h0 D hD) (fun i H' p => hl D i H' hD p) (fun i x H' e p => ⟨hw _, hs D i x H' hD e p⟩) fun H' p => hd D H' hD p
end
end Z
set_option Elab.async false
set_option linter.all false
set_option maxRecDepth 100000
set_option maxHeartbeats 4000000
namespace Z
open PySem PySem.Spec PyProof.Rows L2
/-! ### min(rows, default=None), rows of ints in tuples -/
abbrev TI4 := PySem.W.Tup Int
def tpD (r : List Int) : PyData := .tuple (r.map PyData.int)
theorem tpD_toD (r : List Int) : PySem.W.Datum.toD (⟨r⟩ : TI4) = tpD r := rfl
theorem tpD_lay (r : List Int) : (tpD r).canLay0 = true := by
  have h : ∀ r : List Int, PyData.canLayAll0 (r.map PyData.int) = true := fun r => by
    induction r with
    | nil => simp [PyData.canLayAll0]
    | cons a r ih => simp [PyData.canLayAll0, PyData.canLay0, ih]
  simp only [tpD, PyData.canLay0]
  exact h r
theorem tpD_inj {a b : List Int} (h : tpD a = tpD b) : a = b := by
  have e : a.map PyData.int = b.map PyData.int := by
    unfold tpD at h
    injection h
  have inj : ∀ {a b : List Int}, a.map PyData.int = b.map PyData.int → a = b := fun {a} => by
    induction a with
    | nil => intro b h; cases b with
      | nil => rfl
      | cons y b => cases h
    | cons x a ih => intro b h; cases b with
      | nil => cases h
      | cons y b =>
        injection h with h1 h2
        injection h1 with h1
        rw [h1, ih h2]
  exact inj e
theorem paired_getR {α β : Type} {F : α → β → Prop} : ∀ {l : List α} {m : List β} {i : Nat} {b : β}, Paired F l m → m[i]? = some b → ∃ a, l[i]? = some a ∧ F a b
  | _, _, i, _, .nil, h => by simp at h
  | _, _, 0, _, .cons r t, h => by
    cases h
    exact ⟨_, rfl, r⟩
  | _, _, i + 1, _, .cons r t, h => by
    obtain ⟨a, e, f⟩ := paired_getR (i := i) t (by simpa using h)
    exact ⟨a, by simpa using e, f⟩
theorem vals_at {xs : List V} {us : List Value} {i : Nat} {u : Value} (r : Vals xs us) (h : us[i]? = some u) : ∃ x, xs[i]? = some x ∧ RelV x u := paired_getR r h
theorem dp_ints {K : PySem.W.Frag} {H : Hp} : ∀ r : List Int, DpAll K H (r.map V.int) (r.map PyData.int)
  | [] => .nil
  | a :: r => .cons (.int a) (dp_ints r)
theorem dp_row {K : PySem.W.Frag} {H : Hp} {p : Addr} {r : List Int} (h : H p = some (.tup (r.map V.int))) : Dp K H (.ref p) (tpD r) := .tup (SqT.of h) (dp_ints r)
theorem dp_rows {K : PySem.W.Frag} {H : Hp} : ∀ {ps : List Addr} {rs : List (List Int)}, Paired (fun (p : Addr) (r : List Int) => H p = some (.tup (r.map V.int))) ps rs → DpAll K H (ps.map V.ref) (rs.map tpD)
  | _, _, .nil => .nil
  | _, _, .cons r t => .cons (dp_row r) (dp_rows t)
/-- the first of the least rows -/
def mnL : List (List Int) → Option (List Int)
  | [] => none
  | r :: rs => some (PySem.W.minOf (⟨r⟩ : TI4) (rs.map PySem.W.Tup.mk)).items
section
variable {X : Cx}
def rMinT : List V → List V → Hp → VK → Prop := fun vs zs H Q => ∃ (a : Addr) (ps : List Addr) (rs : List (List Int)), vs = [.ref a] ∧ zs = [.non] ∧ H a = some (.lst (ps.map V.ref)) ∧ Paired (fun (p : Addr) (r : List Int) => H p = some (.tup (r.map V.int))) ps rs ∧
  (mnL rs = none → Q .non H) ∧ ∀ r p, mnL rs = some r → H p = some (.tup (r.map V.int)) → p ∈ ps → Q (.ref p) H
theorem cr_minT (hc : X.calm = true) (hu : X.A.units + 64 < cLine) : CallRK X (.builtin "min") [Str.ofString "default"] rMinT := by
  intro pins s σ H vs zs us ws Q I r rz h
  obtain ⟨a, ps, rs, rfl, rfl, ha, pr, q0, q1⟩ := h
  obtain rfl := Vals.ref1 r
  obtain ⟨w1, rfl, e1⟩ := vals1 rz
  obtain rfl : w1 = Value.none := e1
  obtain ⟨its, rv, hl, hz⟩ := I.list (SqL.of ha)
  obtain ⟨as, hr⟩ := Dp.readsAll I (rs.map tpD) _ its (dp_rows pr) rv
  have H0 : PySem.W.HoldAll s.heap its.toArray.toList (rs.map (PySem.W.Tup.mk : List Int → TI4)) := ⟨as, by
    rw [List.map_map]
    exact hr⟩
  refine PySem.W.min_list_datum_default (α := TI4) (I.ok.hd hc) hl.isList H0 (by show _ + 1 + 1 < _; omega) (fun e h' tk hk => ?_) (fun y ys i v h' tk e hi ho hk => ?_)
  · have e0 : rs = [] := List.map_eq_nil_iff.mp e
    subst e0
    exact ⟨.non, H, I.kept hk, rfl, q0 rfl⟩
  · cases rs with
    | nil => cases e
    | cons r rt =>
      rw [List.map_cons] at e
      injection e with e1 e2
      have hi' : its[i]? = some v := by simpa using hi
      obtain ⟨x, ex, rx⟩ := vals_at rv hi'
      rw [List.getElem?_map] at ex
      obtain ⟨p, ep, rfl⟩ := Option.map_eq_some_iff.mp ex
      obtain ⟨r1, er, hp⟩ := paired_get pr ep
      obtain ⟨bs, rd⟩ := Dp.reads I _ _ v (dp_row (K := X.K) hp) rx
      obtain ⟨cs, rd2⟩ := ho
      have eq := SeqAt.Reads.unique _ _ _ _ _ (tpD_lay r1) (Reads.keeps hk rd) rd2
      have er1 : r1 = (PySem.W.minOf y ys).items := tpD_inj eq
      refine ⟨.ref p, H, I.kept hk, rx, q1 r1 p ?_ hp (List.mem_of_getElem? ep)⟩
      rw [er1, mnL, ← e2, e1]
end
end Z
set_option Elab.async false
set_option linter.all false
set_option maxRecDepth 100000
set_option maxHeartbeats 4000000
namespace Z
open PySem PySem.Spec PyProof.Rows L2
/-! ### an own class: its methods and properties, by their promises -/
/-- a method that keeps its promise (it may raise) -/
structure Cm (P : Program) (w : World) (K : PySem.W.Frag) (mg : Str → Option Value) (base : Heap) (k : Nat) (C : Addr) (m : Str) (sp : Sp) : Prop where
  ex : ∃ (f : Addr) (fd : FuncData) (ps : List Str), FnOk P w K mg base (L2.CX P w) k f fd ps sp ∧ Meth K C m f ∧ Binds K fd ps []
  cls : Cls K C
/-- a method that stands in its class -/
structure Dm (K : PySem.W.Frag) (C : Addr) (m qual : Str) (st : Stmt) : Prop where
  ex : ∃ (f : Addr) (fd : FuncData), Fun K m qual st f fd ∧ Meth K C m f
  cls : Cls K C
def BindM (x qual : Str) (st : Stmt) (ps : List Str) : Prop := ∀ (kV doc pm : Value) (an : Option Addr) (cdv ct : Value) (us : List Value), us.length = ps.length →
  bindArgs (PySem.W.fnOf x qual (defArgs st) (defBody st) (defScope st) .none kV doc pm an cdv ct) ⟨us, []⟩ = pure (ps.zip us)
section
variable {P : Program} {w : World} {K : PySem.W.Frag} {mg : Str → Option Value} {base : Heap}
theorem cm_of {C : Addr} {m qual : Str} {st : Stmt} {N ps : List Str} {k : Nat} {sp : Sp} (D : Dm K C m qual st) (S : FnScope N ps (defScope st)) (b : BindM m qual st ps) (len : ∀ vs H Q E, sp vs H Q E → vs.length = ps.length)
    (body : ∀ (f : Addr) (cdv : Value) (A : Around) (outer : List Env) (s : Shared) (H : Hp) (vs : List V) (Q : VK) (E : XK), Room k (A.deeper (envOfC qual (defScope st) s.heap.objs.size f cdv)) → sp vs H Q E →
      ∃ t, PSs (cxOf (L2.CX P w) P w K mg base N qual (defScope st) f cdv A outer s H E) (defBody st) t ∧ t { nx := fun _ H' => Q .non H', rt := Q } (L2.start N vs) H) : Cm P w K mg base (k + 1) C m sp := by
  obtain ⟨f, fd, F, hm⟩ := D.ex
  exact ⟨⟨f, fd, ps, F.okX S len (body f), hm, F.binds b⟩, D.cls⟩
theorem Cm.mono {C : Addr} {m : Str} {j k : Nat} {sp : Sp} (c : Cm P w K mg base j C m sp) (h : j ≤ k) : Cm P w K mg base k C m sp := by
  obtain ⟨f, fd, ps, F, a⟩ := c.ex
  exact ⟨⟨f, fd, ps, F.mono h, a⟩, c.cls⟩
end
/-- o.m(e, ..), as a reading -/
def tCm (C : Addr) (m : Str) (sp : Sp) (W : WX) (to : TE) (t : TA) : TE := fun σ H Q => to σ H fun x H1 => ∃ a, x = .ref a ∧ ∃ dx fs, H1 a = some (.ins C dx fs) ∧ fs.lookup m = none ∧ t σ H1 fun vs H2 => sp (.ref a :: vs) H2 Q (WE W σ)
section
variable {X : Cx} {k j : Nat} {C : Addr} {m f fld : Str} {sp : Sp} {p apos pos : Pos} {o e : Expr} {es : List Expr} {to : TE} {t : TA} {W : WX}
theorem pe_cm {pl : Sem Bool} (c : Cm X.prog X.w X.K X.mg X.base k C m sp) (tk : Takes X W) (hr : Room j X.A) (hk : k ≤ j) (he : PE X o to) (ha : PA X (e :: es) t)
    (hst : starEach (e :: es) X.env = (false, eval e X.env) :: starEach es X.env := by rfl) (hpl : (backTo pos (starEach es X.env)).any (·.1) = false := by rfl)
    (ht : eval (.Call (.Attribute o m apos) (e :: es) [] pos) X.env = (do
      let ov ← eval o X.env
      standAt apos.atName
      let (f, first) ← holding [ov] (getMethod ov m pl)
      callWith pos f first (backTo pos (starEach (e :: es) X.env)) (backToKw pos (keywordEach [] X.env))) := by rfl) :
    PE X (.Call (.Attribute o m apos) (e :: es) [] pos) (tCm C m sp W to t) := by
  obtain ⟨g, fd, ps, F, hm, hb⟩ := c.ex
  refine ⟨fun pins s σ H Q I h => ?_⟩
  refine PySem.W.methodCall_KW (pl := pl) (thn (he.run pins s σ H _ I h) fun u s1 ⟨x, H1, I1, rx, a, ex, dx, fs, ea, l, q⟩ => ?_) ht
  subst ex
  obtain rfl : u = Value.ref a := rx
  refine getmeth_ok I1 ea c.cls hm l ?_
  refine PySem.W.callWith_K (first := [.ref a]) (h₀ := X.base) I.ok.mod.kin hm.kp (thn (ha.run pos pins s1 σ H1 _ I1 q) fun us s2 ⟨vs, H2, I2, r, q2⟩ => ⟨I2.kIn, ?_⟩) hst hpl
  exact run_fnS (us := .ref a :: us) (vs := .ref a :: vs) F (hr.mono hk) hb (passAt tk σ) I2 (.cons rfl r) q2
end
/-- the same where the word stands already -/
def tCmP (C : Addr) (m : Str) (sp : Sp) (E : XK) (to : TE) (t : TA) : TE := fun σ H Q => to σ H fun x H1 => ∃ a, x = .ref a ∧ ∃ dx fs, H1 a = some (.ins C dx fs) ∧ fs.lookup m = none ∧ t σ H1 fun vs H2 => sp (.ref a :: vs) H2 Q E
theorem pe_cmP {X : Cx} {k j : Nat} {C : Addr} {m : Str} {sp : Sp} {apos pos : Pos} {o e : Expr} {es : List Expr} {to : TE} {t : TA} {E : XK} {pl : Sem Bool} (c : Cm X.prog X.w X.K X.mg X.base k C m sp) (hx : Passes (L2.CX X.prog X.w) X E) (hr : Room j X.A) (hk : k ≤ j) (he : PE X o to) (ha : PA X (e :: es) t)
    (hst : starEach (e :: es) X.env = (false, eval e X.env) :: starEach es X.env := by rfl) (hpl : (backTo pos (starEach es X.env)).any (·.1) = false := by rfl)
    (ht : eval (.Call (.Attribute o m apos) (e :: es) [] pos) X.env = (do
      let ov ← eval o X.env
      standAt apos.atName
      let (f, first) ← holding [ov] (getMethod ov m pl)
      callWith pos f first (backTo pos (starEach (e :: es) X.env)) (backToKw pos (keywordEach [] X.env))) := by rfl) :
    PE X (.Call (.Attribute o m apos) (e :: es) [] pos) (tCmP C m sp E to t) := by
  obtain ⟨g, fd, ps, F, hm, hb⟩ := c.ex
  refine pe_imp (pe_meth (pl := pl) (pe_up he) c.cls hm F (hr.mono hk) hb .nil hx (pa_up ha) hst hpl ht) fun σ H Q h => ⟨_, h, fun x H1 ⟨a, e, dx, fs, e1, e2, h2⟩ => ⟨a, dx, fs, e, e1, e2, _, h2, fun vs H2 h3 => by show sp (_ :: (vs ++ [])) H2 Q E; rw [List.append_nil]; first | exact h3 | (rw [e]; exact h3)⟩⟩
/-- o.f = v, the class named -/
def sFq (C : Addr) (f : Str) (to tv : TE) : TS := fun D σ H => tv σ H fun y H1 => to σ H1 fun x H2 => ∃ a, x = .ref a ∧ ∃ dx fs, H2 a = some (.ins C dx fs) ∧ fs.length < 1000 ∧ D.nx σ (upd H2 a (.ins C dx (putF f y fs)))
theorem ps_fq {X : Cx} {C : Addr} {o value : Expr} {f : Str} {pos pos' : Pos} {to tv : TE} (c : Cls X.K C) (n : NoAttr X.K C f) (ho : PE X o to) (hv : PE X value tv) (hs : swapsWith value (some (.Attribute o f pos')) pos.line X.env = pure false := by rfl) : PS X (.Assign [.Attribute o f pos'] value pos) (sFq C f to tv) := by
  have z := ps_fld (pos := pos) (pos' := pos') (f := f) (pe_up ho) (pe_up hv) hs
  refine ⟨fun pins s σ H D I h => z.run pins s σ H D I ?_⟩
  exact ⟨_, h, fun y H1 h1 => ⟨_, h1, fun x H2 ⟨a, e, dx, fs, e1, l, q⟩ => ⟨a, C, dx, fs, e, e1, c, n, l, q⟩⟩⟩
/-- a property that hands back an attribute -/
structure Pr (P : Program) (w : World) (K : PySem.W.Frag) (mg : Str → Option Value) (base : Heap) (C : Addr) (f fld : Str) : Prop where
  ex : ∃ (p g : Addr) (fd : FuncData) (ps : List Str), PropOf K C f p g ∧ FnOk P w K mg base CX0 1 g fd ps (getSp C fld) ∧ Binds K fd ps []
  cls : Cls K C
def tPr (C : Addr) (fld : Str) (to : TE) : TE := fun σ H Q => to σ H fun x H1 => ∃ a, x = .ref a ∧ ∃ dx fs, H1 a = some (.ins C dx fs) ∧ ∃ v, fs.lookup fld = some v ∧ Q v H1
theorem pe_pr {X : Cx} {j : Nat} {C : Addr} {f fld : Str} {e : Expr} {pos : Pos} {te : TE} (c : Pr X.prog X.w X.K X.mg X.base C f fld) (hr : Room j X.A) (hk : 2 ≤ j) (he : PE X e te) (hab : attributeBase e f X.env (eval e X.env) = eval e X.env := by rfl) : PE X (.Attribute e f pos) (tPr C fld te) := by
  obtain ⟨p, g, fd, ps, hp, F, hb⟩ := c.ex
  have z := pe_prop (pos := pos) (pe_up he) c.cls hp F (hr.mono hk) hb .nil (E := E0) pass0 hab
  exact pe_imp z fun σ H Q h => ⟨_, h, fun x H1 ⟨a, e, dx, fs, ha, v, hl, q⟩ => ⟨a, dx, fs, e, ha, a, dx, fs, v, rfl, ha, hl, q⟩⟩
/-! ### e.f, an attribute of one's own (the class that is meant is named) -/
def tFq (C : Addr) (fld : Str) (to : TE) : TE := fun σ H Q => to σ H fun x H1 => ∃ a, x = .ref a ∧ ∃ dx fs, H1 a = some (.ins C dx fs) ∧ ∃ v, fs.lookup fld = some v ∧ Q v H1
theorem pe_fq {X : Cx} {C : Addr} {fld : Str} {e : Expr} {pos : Pos} {te : TE} (c : Cls X.K C) (n : NoAttr X.K C fld) (he : PE X e te) (hab : attributeBase e fld X.env (eval e X.env) = eval e X.env := by rfl) : PE X (.Attribute e fld pos) (tFq C fld te) :=
  pe_imp (pe_fld (pe_up he) hab) fun σ H Q h => ⟨_, h, fun x H1 ⟨a, e, dx, fs, ha, v, hl, q⟩ => ⟨a, C, dx, fs, v, e, ha, c, n, hl, q⟩⟩
theorem u1 {k : Nat} {A : Around} (r : Room k A) : A.units + 1 < cLine := by have := r.un; omega
theorem u65 {k : Nat} {A : Around} (r : Room k A) : A.units + 65 < cLine := by have := r.un; omega
theorem op_inDK {X : Cx} (K : PySem.W.Frag) (hu : X.A.units + 65 < cLine) (h : X.K = K := by rfl) : OpR X (compareOp .In) (rInD K) := by
  subst h
  exact op_inD hu
/-! ### dicts by texts -/
def rNinD : R2 := fun x y H Q => ∃ a, y = .ref a ∧ ∃ kvs, H a = some (.dK kvs) ∧ ∃ z, x = .str z ∧ Q (.bl (!(valV kvs (.inr z)).isSome)) H
theorem op_ninD {X : Cx} (hu : X.A.units + 1 < cLine) : OpR X (compareOp .NotIn) rNinD := by
  intro pins s σ H x y v u Q I rx ry h
  obtain ⟨a, rfl, kvs, ha, z, rfl, q⟩ := h
  obtain rfl : u = Value.ref a := ry
  exact d_notIn hu I (.inl ⟨kvs, .inr z, .inl ha, rfl, rfl⟩) rx fun s3 I3 => ⟨.bl (!(valV kvs (.inr z)).isSome), H, I3, rfl, q⟩
def tDgQ (td ty : TE) : TE := fun σ H Q => td σ H fun x H1 => ty σ H1 fun y H2 => ∃ a, x = .ref a ∧ ∃ kvs, H2 a = some (.dK kvs) ∧ ∃ z, y = .str z ∧ ∃ v, valV kvs (.inr z) = some v ∧ Q v H2
theorem pe_dgQ {X : Cx} {o i : Expr} {pos : Pos} {td ty : TE} (hu : X.A.units + 1 < cLine) (ho : PE X o td) (hi : PE X i ty) (hs : NoSl i) : PE X (.Subscript o i pos) (tDgQ td ty) :=
  pe_imp (pe_dget hu (pe_up ho) (pe_up hi) hs) fun σ H Q h => ⟨_, h, fun x H1 h1 => ⟨_, h1, fun y H2 ⟨a, e, kvs, ha, z, ey, v, hv, q⟩ => ⟨a, v, e, .inl ⟨kvs, .inr z, .inl ha, ey, hv.symm⟩, q⟩⟩⟩
/-! ### a comprehension over a list, any target -/
theorem lcG_list {K : PySem.W.Frag} {tl : TE} {g : TG} {tt : TT} {te : TE} {vs : List Nat} {σ : L2.St} {H : Hp} {Q : VK} (a : Addr) (xs : List V) (h : ∀ Q : VK, Q (.ref a) H → tl σ H Q) (hx : SqL K H a xs) (Pv : Addr → Nat → Hp → Prop) (h0 : ∀ D, H D = none → Pv D 0 (upd H D (.lst [])))
    (hl : ∀ D i H', H D = none → Pv D i H' → SqL K H' a xs)
    (hs : ∀ D i x H', H D = none → xs[i]? = some x → Pv D i H' → g x (wipe σ vs) H' fun σ2 H2 => wipe σ2 vs = wipe σ vs ∧ tt σ2 H2 fun b H3 =>
      if b = true then te σ2 H3 fun y H4 => ∃ acc, H4 D = some (.lst acc) ∧ acc.length < sizeLine ∧ Pv D (i + 1) (upd H4 D (.lst (acc ++ [y]))) else Pv D (i + 1) H3) (hd : ∀ D H', H D = none → Pv D xs.length H' → Q (.ref D) H') :
    tLc (iList K tl) g tt te vs σ H Q := by
  refine h _ ⟨a, rfl, ⟨xs, hx⟩, fun D hD => ?_⟩
  exact wk_list (S := fun x H' Nx1 => g x (wipe σ vs) H' fun σ2 H2 => wipe σ2 vs = wipe σ vs ∧ tt σ2 H2 fun b H3 => if b = true then te σ2 H3 fun y H4 => ∃ acc, H4 D = some (.lst acc) ∧ acc.length < sizeLine ∧ Nx1 (upd H4 D (.lst (acc ++ [y]))) else Nx1 H3) (Pv D) (h0 D hD) (fun i H' p => hl D i H' hD p) (fun i x H' e p => hs D i x H' hD e p) fun H' p => hd D H' hD p
/-- the same behind the list's reckoning -/
def LcAt (K : PySem.W.Frag) (g : TG) (tt : TT) (te : TE) (vs : List Nat) (σ : L2.St) (Q : VK) (a D : Addr) (H : Hp) : Prop :=
    ∃ W : Nat → Nat → Hp → Prop, (∃ m, W 0 m (upd H D (.lst []))) ∧ ∀ i m H, W i m H → ((Itl K a).stop i H ∧ Q (.ref D) H) ∨ ((Itl K a).go i H ∧ ∃ Nx : Hp → Prop, (∀ H', Nx H' → ∃ m', m' < m ∧ W (i + 1) m' H') ∧ ∀ x H', (Itl K a).yld i H x H' → g x (wipe σ vs) H' fun σ2 H2 => wipe σ2 vs = wipe σ vs ∧ tt σ2 H2 fun b H3 =>
      if b = true then te σ2 H3 fun y H4 => ∃ acc, H4 D = some (.lst acc) ∧ acc.length < sizeLine ∧ Nx (upd H4 D (.lst (acc ++ [y]))) else Nx H3)
theorem lcE_list {K : PySem.W.Frag} {tl : TE} {g : TG} {tt : TT} {te : TE} {vs : List Nat} {σ : L2.St} {H : Hp} {Q : VK} (h : tl σ H fun x H1 => ∃ a, x = .ref a ∧ (∃ xs, SqL K H1 a xs) ∧ ∀ D, H1 D = none → LcAt K g tt te vs σ Q a D H1) : tLc (iList K tl) g tt te vs σ H Q := h
theorem lcG_at {K : PySem.W.Frag} {g : TG} {tt : TT} {te : TE} {vs : List Nat} {σ : L2.St} {H : Hp} {Q : VK} {a D : Addr} (xs : List V) (Pv : Nat → Hp → Prop) (h0 : Pv 0 (upd H D (.lst []))) (hl : ∀ i H', Pv i H' → SqL K H' a xs)
    (hs : ∀ i x H', xs[i]? = some x → Pv i H' → g x (wipe σ vs) H' fun σ2 H2 => wipe σ2 vs = wipe σ vs ∧ tt σ2 H2 fun b H3 =>
      if b = true then te σ2 H3 fun y H4 => ∃ acc, H4 D = some (.lst acc) ∧ acc.length < sizeLine ∧ Pv (i + 1) (upd H4 D (.lst (acc ++ [y]))) else Pv (i + 1) H3) (hd : ∀ H', Pv xs.length H' → Q (.ref D) H') :
    LcAt K g tt te vs σ Q a D H :=
  wk_list (S := fun x H' Nx1 => g x (wipe σ vs) H' fun σ2 H2 => wipe σ2 vs = wipe σ vs ∧ tt σ2 H2 fun b H3 => if b = true then te σ2 H3 fun y H4 => ∃ acc, H4 D = some (.lst acc) ∧ acc.length < sizeLine ∧ Nx1 (upd H4 D (.lst (acc ++ [y]))) else Nx1 H3) Pv h0 hl hs hd
/-! ### a dict comprehension, any walk -/
def DcAt (J : It) (g : TG) (tt : TT) (tk tv : TE) (vs : List Nat) (σ : L2.St) (Q : VK) (D : Addr) (H : Hp) : Prop :=
    ∃ W : Nat → Nat → Hp → Prop, (∃ m, W 0 m (upd H D (.dK []))) ∧ ∀ i m H, W i m H → (J.stop i H ∧ Q (.ref D) H) ∨ (J.go i H ∧ ∃ Nx : Hp → Prop, (∀ H', Nx H' → ∃ m', m' < m ∧ W (i + 1) m' H') ∧ ∀ x H', J.yld i H x H' → g x (wipe σ vs) H' fun σ2 H2 => wipe σ2 vs = wipe σ vs ∧ tt σ2 H2 fun b H3 =>
      if b = true then tk σ2 H3 fun y H4 => tv σ2 H4 fun z H5 => ∃ kvs k, y = kV k ∧ H5 D = some (.dK kvs) ∧ kvs.length < sizeLine ∧ Nx (upd H5 D (.dK (putK kvs k z))) else Nx H3)
theorem dcE {wi : TI} {g : TG} {tt : TT} {tk tv : TE} {vs : List Nat} {σ : L2.St} {H : Hp} {Q : VK} (h : wi σ H fun J H1 => ∀ D, H1 D = none → DcAt J g tt tk tv vs σ Q D H1) : tDc wi g tt tk tv vs σ H Q := h
/-! ### a pond whose strifes may not be there yet -/
def plc (ns : List Str) : List (Key × V) := ns.zipIdx.map fun q => (.inr q.1, .int (q.2 : Int))
def PlAt (C : Addr) (H : Hp) (p : Addr) (ns : List Str) : Prop := ∃ dx fs n d, H p = some (.ins C dx fs) ∧ fs.lookup ("_names" : Str) = some (V.ref n) ∧ fs.lookup ("_places" : Str) = some (V.ref d) ∧ fs.lookup ("position" : Str) = none ∧ fs.lookup ("pair_of" : Str) = none ∧ H n = some (.tup (ns.map V.str)) ∧ H d = some (.dK (plc ns))
theorem PlAt.same {C : Addr} {H H' : Hp} {p : Addr} {ns : List Str} (s : Same H H') (h : PlAt C H p ns) : PlAt C H' p ns := by
  obtain ⟨dx, fs, n, d, e1, e2, e3, e4, e5, e6, e7⟩ := h
  exact ⟨dx, fs, n, d, s _ _ e1, e2, e3, e4, e5, s _ _ e6, s _ _ e7⟩
end Z
set_option Elab.async false
set_option linter.all false
set_option maxRecDepth 100000
set_option maxHeartbeats 4000000
/-! ### enumerate over a tuple -/
namespace PySem
open Sem (wp)
open AutoSeq1 (wpAny_loadPart')
theorem z_enum_new (t : Addr) (items : Array Value) (n : Nat) (dct : Option Addr) (sl : Array (Option Value)) :
    Meets (Builtin.«enumerate.__new__» ⟨[.type "enumerate", .ref t], []⟩) (fun _ R s => s.heap.get? t = some { cls := .type "tuple", dict := dct, data := .seq items n, slots := sl } ∧
      R (.ok (.ret (.ref (s.heap.objs.size + 1)))) { s with heap := (s.heap.push { cls := .type "tuple_iterator", data := .fields #[.ref t, .int 0 0] }).push { cls := .type "enumerate", data := .fields #[.none, .bool false, .ref s.heap.objs.size, rawInt 0, .none, .none] } }) :=
  .of_wp fun prog w A R s h => by
    obtain ⟨hp, g, d, tk, os⟩ := s
    obtain ⟨ht, h⟩ := h
    have hsub := sub_enumerate
    have hT : Heap.IsTuple (Shared.heap ⟨hp, g, d, tk, os⟩) t items := ⟨_, ht, rfl, n, rfl⟩
    have hz : (hp.push { cls := .type "tuple_iterator", data := .fields #[.ref t, .int 0 0] }).objs.size = hp.objs.size + 1 := Heap.size_push ..
    rw [← hz] at h
    wp_walk using wpAny_loadPart' ht
    refine wpAny_stack_any fun st => wpAny_pure ?_
    split
    · rename_i c _ _ _ _ _
      cases (c == Value.type "enumerate") <;>
      · wp_walk using wpAny_loadPart' ht, wpAny_pyIter_tuple hT
        exact ⟨_, rfl, h⟩
    · wp_walk using wpAny_loadPart' ht, wpAny_pyIter_tuple hT
      exact ⟨_, rfl, h⟩
theorem z_enum_call {prog : Program} {w : World} {A : Around} {E : Value → Shared → Prop} {s : Shared} {t : Addr} {items : Array Value} {Q : Value → Shared → Prop} (hT : s.heap.IsTuple t items)
    (h : ∀ h', IsEnum h' (s.heap.objs.size + 1) s.heap.objs.size 0 .none → h'.IsTupleIter s.heap.objs.size t 0 → (∀ b o, s.heap.get? b = some o → h'.get? b = some o) → Q (.ref (s.heap.objs.size + 1)) { s with heap := h' }) :
    wpAny (model prog w) A (call (.type "enumerate") [.ref t]) Q E s := by
  obtain ⟨⟨c, dct, dt, sl⟩, ht, hc, n, hd⟩ := hT
  replace hc : c = .type "tuple" := hc
  replace hd : dt = .seq items n := hd
  subst hc hd
  refine callType_new F.called_enumerate (by decide) (F.typeCall_enumerate_1 _) (F.newCall_enumerate_1 _) (fun obj => F.args_object_init_2 obj _) F.entry_enumerate_new (z_enum_new t items n dct sl) ⟨ht, ?_⟩
  have hz : (s.heap.push { cls := .type "tuple_iterator", data := .fields #[.ref t, .int 0 0] }).objs.size = s.heap.objs.size + 1 := Heap.size_push ..
  have he := Heap.get?_push_size (s.heap.push { cls := .type "tuple_iterator", data := .fields #[.ref t, .int 0 0] })
      (o := { cls := .type "enumerate", data := .fields #[.none, .bool false, .ref s.heap.objs.size, rawInt 0, .none, .none] }) rfl
  rw [hz] at he
  exact ⟨⟨_, he, rfl⟩, h _ he ⟨_, Heap.get?_push_of_some _ (Heap.get?_push_size _ rfl), rfl, rfl⟩ fun b o x => Heap.get?_push_of_some _ (Heap.get?_push_of_some _ x)⟩
end PySem
namespace Z
open PySem PySem.Spec PyProof.Rows L2
/-- the tuple at a, each item in a new pair with its place -/
def Itn (K : PySem.W.Frag) (a : Addr) : It :=
  ⟨fun i H => ∃ (xs : List V) (x : V), SqT K H a xs ∧ xs[i]? = some x, fun i H v H' => ∃ T x, v = .ref T ∧ H T = none ∧ H' = upd H T (.tup [.int (i : Nat), x]) ∧ ∀ xs, SqT K H a xs → xs[i]? = some x, fun i H => ∃ xs : List V, SqT K H a xs ∧ xs.length = i⟩
theorem turn_enumT {P : Program} {w : World} {K : PySem.W.Frag} {elts : List Expr} {kk : Nat} {tpos : Pos} (a e it : Addr) :
    Turn P w K (.Tuple elts kk tpos) (Itn K a) [e, it] e (fun i h => (∃ old, IsEnum h e it ((i : Nat) : Int) old) ∧ h.IsTupleIter it a i ∧ e ≠ it) where
  mem := by simp
  obj := fun i h st b hb => by
    obtain ⟨⟨old, he⟩, ⟨o, ho, hc, hd⟩, _⟩ := st
    rcases (show b = e ∨ b = it by simpa using hb) with z | z
    · rw [z]; exact ⟨_, he, fun v q => nomatch q⟩
    · rw [z]; exact ⟨o, ho, fun v q => by rw [hd] at q; cases q⟩
  keep := fun i h h' st k => let ⟨⟨old, he⟩, ⟨o, ho, r⟩, hne⟩ := st; ⟨⟨old, k e (by simp) _ he⟩, ⟨o, k it (by simp) _ ho, r⟩, hne⟩
  item := by
    intro X hP hw hK hc i pins s σ H E I hf st hg
    subst hP hw hK
    obtain ⟨⟨old, he⟩, hit, hne⟩ := st
    obtain ⟨xs, x, hq, hx⟩ := hg
    obtain ⟨its, rv, p, hz⟩ := I.tuple hq
    obtain ⟨u, hu, ru⟩ := rv.get hx
    have hel : e < s.heap.objs.size := Heap.lt_size he
    have hil : it < s.heap.objs.size := by obtain ⟨_, q, _⟩ := hit; exact Heap.lt_size q
    have pt : s.heap.IsTuple a its.toArray := p
    have nea : e ≠ a := fun z => by
      obtain ⟨o, ho, hc, _⟩ := pt
      rw [← z, show s.heap.get? e = _ from he] at ho
      cases ho
      have hc2 : Value.type "enumerate" = Value.type "tuple" := hc
      exact absurd hc2 (by decide)
    have nia : a ≠ it := fun z => by
      obtain ⟨o, ho, hc, _⟩ := pt
      obtain ⟨o', ho', hc', _⟩ := hit
      rw [z, ho'] at ho
      cases ho
      rw [hc'] at hc
      exact absurd hc (by decide)
    have D := PySem.Draws.tuple (prog := X.prog) (w := X.w) (A := X.A.in1) (I.ok.hd hc) it a nia its.toArray
    have hi : i < its.toArray.size := by
      have z := (List.getElem?_eq_some_iff.mp hu).1
      simpa using z
    refine wpAny_pyNext_enum_itemD (i := i) D he ⟨hit, pt⟩ hi hne (by simp [hne, nea]) fun u' h' tk hu' ho st' hT hsz hk => ?_
    have eu : u' = u := by
      have z : its[i]? = some u' := by simpa using hu'
      rw [hu] at z
      exact (Option.some.inj z).symm
    subst eu
    refine ⟨_, rfl, wpAny_letOwnedTupleGo_enum (s := { s with heap := h', toks := tk + 1 }) ho fun h'' he' sb => ?_⟩
    have hT2 : h''.get? s.heap.objs.size = some { cls := .type "tuple", data := .seq #[.int i tk, u'] } := (sb.2 _ (Nat.ne_of_gt hel)).trans hT
    have new : ObjOk X.prog X.w (upd H s.heap.objs.size (.tup [.int (i : Nat), x])) h'' s.heap.objs.size (.tup [.int (i : Nat), x]) :=
      ⟨by show 2 ≤ sizeLine; decide, [.int i tk, u'], .cons ⟨_, rfl⟩ (.cons ru .nil), ⟨_, hT2, rfl, _, rfl⟩⟩
    have I1 : Inv X pins σ (upd H s.heap.objs.size (.tup [.int (i : Nat), x])) { s with heap := h'', toks := tk + 1 } :=
      I.turnedNew (ch := [e, it]) (fun b ob hb q => (sb.2 b (fun z => hb (by simp [z]))).trans (hk b ob (fun z => hb (by simp [z])) (fun z => hb (by simp [z])) q)) hf (Nat.le_refl _) new
    have hit2 : h''.IsTupleIter it a (i + 1) := by
      obtain ⟨o, q, r⟩ := st'.1
      exact ⟨o, (sb.2 it (Ne.symm hne)).trans q, r⟩
    refine ⟨.ref s.heap.objs.size, _, I1, rfl, ⟨_, x, rfl, I.hok.fresh (Nat.le_refl _), rfl, fun ys hy => by rw [I.tuple_inj hy hq]; exact hx⟩, ⟨⟨u', ?_⟩, hit2, hne⟩, fun b hb => ?_⟩
    · rw [show ((i + 1 : Nat) : Int) = (i : Int) + 1 by omega]
      exact he'
    · have hb' : b < s.heap.objs.size := by
        rcases (show b = e ∨ b = it by simpa using hb) with z | z
        · rw [z]; exact hel
        · rw [z]; exact hil
      rw [upd_ne (Nat.ne_of_lt hb')]
      exact (hf b hb).1
  done := by
    intro X hP hw hK hc i pins s σ H E I hf st hg
    subst hP hw hK
    obtain ⟨⟨old, he⟩, hit, hne⟩ := st
    obtain ⟨xs, hq, hx⟩ := hg
    obtain ⟨its, rv, p, hz⟩ := I.tuple hq
    obtain ⟨f0, f1, f2, f3, f4, f5⟩ := hf it (by simp)
    have hl := rv.length
    have pt : s.heap.IsTuple a its.toArray := p
    have nia : a ≠ it := fun z => by
      obtain ⟨o, ho, hc, _⟩ := pt
      obtain ⟨o', ho', hc', _⟩ := hit
      rw [z, ho'] at ho
      cases ho
      rw [hc'] at hc
      exact absurd hc (by decide)
    have D := PySem.Draws.tuple (prog := X.prog) (w := X.w) (A := X.A.in1) (I.ok.hd hc) it a nia its.toArray
    have ei : i = its.toArray.size := by
      show i = its.length
      omega
    subst ei
    exact wpAny_pyNext_enum_endD D he ⟨hit, pt⟩ fun h' eb => ⟨rfl, I.turned (t' := s.toks) (fun b o hb q => eb b o hb q) f0 f1 f3 f4 f5⟩
  self := fun A i s Q E st h => let ⟨⟨_, he⟩, _⟩ := st; wpAny_pyIter_enum he h
def iEnT (K : PySem.W.Frag) (ta : TA) : TI := fun σ H R => ta σ H fun vs H1 => ∃ a xs, vs = [.ref a] ∧ SqT K H1 a xs ∧ R (Itn K a) H1
theorem pi_enT {X : Cx} {e : Expr} {ta : TA} {p pos tpos : Pos} {elts : List Expr} {kk : Nat} (hg : Gl X "enumerate") (hm : X.mg "enumerate" = none) (ha : PA X [e] ta) (hs : starEach [e] X.env = [(false, eval e X.env)] := by rfl) :
    PI X (.Tuple elts kk tpos) (.Call (.Name "enumerate" p) [e] [] pos) (iEnT X.K ta) := by
  refine ⟨fun pins s σ H R I h => ?_⟩
  refine Call_ (ld_blt I hg hm boot_enumerate (PyProof.Rows.callWith_type1 (thn (ha.run pos pins s σ H _ I h) fun us s1 ⟨vs, H1, I1, r1, q1⟩ => ?_) hs rfl))
  obtain ⟨a, xs, ex, hq, q⟩ := q1
  subst ex
  cases r1 with
  | cons r rr =>
    cases rr
    cases r
    obtain ⟨its, rv, p', hz⟩ := I1.tuple hq
    refine z_enum_call (t := a) (items := its.toArray) p' fun h' he hit hk => wpAny_pyIter_enum he ?_
    have I2 : Inv X pins σ H1 { s1 with heap := h' } := I1.kept (t' := s1.toks) hk
    refine ⟨s1.heap.objs.size + 1, [s1.heap.objs.size + 1, s1.heap.objs.size], _, _, H1, rfl, I2, turn_enumT a (s1.heap.objs.size + 1) s1.heap.objs.size, ⟨⟨.none, he⟩, hit, Nat.succ_ne_self _⟩, fun b hb => ?_, q⟩
    have hle : s1.heap.objs.size ≤ b := by
      rcases (show b = s1.heap.objs.size + 1 ∨ b = s1.heap.objs.size by simpa using hb) with z | z
      · rw [z]; exact Nat.le_add_right _ _
      · rw [z]; exact Nat.le_refl _
    exact I1.fpOk hle (I1.hok.fresh hle)
theorem wk_enT {K : PySem.W.Frag} {a : Addr} {xs : List V} {S : V → Hp → (Hp → Prop) → Prop} {H0 : Hp} {Qd : Hp → Prop} (Pv : Nat → Hp → Prop) (h0 : Pv 0 H0) (hl : ∀ i H, Pv i H → SqT K H a xs)
    (hs : ∀ i x T H, xs[i]? = some x → Pv i H → H T = none → S (.ref T) (upd H T (.tup [.int (i : Nat), x])) (Pv (i + 1))) (hd : ∀ H, Pv xs.length H → Qd H) :
    ∃ W : Nat → Nat → Hp → Prop, (∃ m, W 0 m H0) ∧ ∀ i m H, W i m H → ((Itn K a).stop i H ∧ Qd H) ∨ ((Itn K a).go i H ∧ ∃ Nx : Hp → Prop, (∀ H', Nx H' → ∃ m', m' < m ∧ W (i + 1) m' H') ∧ ∀ x H', (Itn K a).yld i H x H' → S x H' Nx) := by
  refine ⟨fun i m H => m = xs.length - i ∧ i ≤ xs.length ∧ Pv i H, ⟨xs.length, (Nat.sub_zero _).symm, Nat.zero_le _, h0⟩, ?_⟩
  rintro i m H ⟨rfl, hi, q⟩
  have sq := hl i H q
  by_cases lt : i < xs.length
  · exact .inr ⟨⟨xs, xs[i], sq, List.getElem?_eq_getElem lt⟩, Pv (i + 1), fun H' r => ⟨xs.length - (i + 1), by omega, rfl, lt, r⟩, fun x H' ⟨T, y, e, hT, eH, hx⟩ => by
      subst e eH
      exact hs i y T _ (hx xs sq) q hT⟩
  · obtain rfl : i = xs.length := by omega
    exact .inl ⟨⟨xs, sq, rfl⟩, hd H q⟩
theorem dcG_enT {K : PySem.W.Frag} {g : TG} {tt : TT} {tk tv : TE} {vs : List Nat} {σ : L2.St} {H : Hp} {Q : VK} {a D : Addr} (xs : List V) (Pv : Nat → Hp → Prop) (h0 : Pv 0 (upd H D (.dK []))) (hl : ∀ i H', Pv i H' → SqT K H' a xs)
    (hs : ∀ i x T H', xs[i]? = some x → Pv i H' → H' T = none → g (.ref T) (wipe σ vs) (upd H' T (.tup [.int (i : Nat), x])) fun σ2 H2 => wipe σ2 vs = wipe σ vs ∧ tt σ2 H2 fun b H3 =>
      if b = true then tk σ2 H3 fun y H4 => tv σ2 H4 fun z H5 => ∃ kvs k, y = kV k ∧ H5 D = some (.dK kvs) ∧ kvs.length < sizeLine ∧ Pv (i + 1) (upd H5 D (.dK (putK kvs k z))) else Pv (i + 1) H3) (hd : ∀ H', Pv xs.length H' → Q (.ref D) H') :
    DcAt (Itn K a) g tt tk tv vs σ Q D H :=
  wk_enT (S := fun x H' Nx1 => g x (wipe σ vs) H' fun σ2 H2 => wipe σ2 vs = wipe σ vs ∧ tt σ2 H2 fun b H3 => if b = true then tk σ2 H3 fun y H4 => tv σ2 H4 fun z H5 => ∃ kvs k, y = kV k ∧ H5 D = some (.dK kvs) ∧ kvs.length < sizeLine ∧ Nx1 (upd H5 D (.dK (putK kvs k z))) else Nx1 H3) Pv h0 hl hs hd
end Z
set_option Elab.async false
set_option linter.all false
set_option maxRecDepth 100000
set_option maxHeartbeats 4000000
/-! ### set(xs), a list of ints, with what sorted wants of it -/
namespace L2
open PySem PySem.Spec PyProof.Rows
/-- the new, empty set -/
abbrev zSet (w : World) : Obj := { cls := .type "set", dict := none, data := .set #[] 0 (.fresh 0 0 (!w.params.followText "set-order")) }
section
variable {P : Program} {w : World} {A : Around} {E : Value → Shared → Prop} {s : Shared}
theorem z_set_list {l : Addr} {items : Array Value} {ns : List Int} {Q : Value → Shared → Prop} (hh : A.handled = none) (hl : s.heap.IsList l items) (hit : IntsAre items.toList ns) (hb : ns.length + 1 < scanBound)
    (h : ∀ (h' : Heap) (tk c : Nat), SetR w h' s.heap.objs.size (fun j => decide (j ∈ ns)) c → c ≤ ns.length → (∀ b o, s.heap.get? b = some o → h'.get? b = some o) → Q (.ref s.heap.objs.size) { s with heap := h', toks := tk }) :
    wpAny (model P w) A (call (.type "set") [.ref l]) Q E s := by
  have hsz : items.size = ns.length := by
    have q := IntsAre.length hit
    rwa [Array.length_toList] at q
  have hval : ∀ (i : Nat) (v : Value), items[i]? = some v → ∃ k t, ns[i]? = some k ∧ v = .int k t := fun i v hv => by
    have hi : i < ns.length := by rw [← hsz]; exact (Array.getElem?_eq_some_iff.mp hv).1
    obtain ⟨t, e⟩ := PyProof.Rows.IntsAre.int_at hit i v (by rw [Array.getElem?_toList]; exact hv)
    refine ⟨ns[i], t, List.getElem?_eq_getElem hi, ?_⟩
    rw [e, List.getD_eq_getElem?_getD, List.getElem?_eq_getElem hi] <;> rfl
  have hll : l < s.heap.objs.size := by obtain ⟨_, q, _⟩ := hl; exact Heap.lt_size q
  have hS : (s.heap.push (zSet w)).get? s.heap.objs.size = some (zSet w) := Heap.get?_push_size _ rfl
  have hT : Shared.TypeIs { s with heap := s.heap.push (zSet w) } (.ref s.heap.objs.size) "set" := ⟨_, hS, rfl⟩
  obtain ⟨⟨c0, d0, dt0, sl0⟩, hol, hc0, n0, hd0⟩ := hl
  simp only at hc0 hd0
  subst hc0 hd0
  have hol' : (s.heap.push (zSet w)).get? l = some { cls := .type "list", dict := d0, data := .seq items n0, slots := sl0 } := Heap.get?_push_of_some _ hol
  have hl1 : (s.heap.push (zSet w)).IsList l items := ⟨_, hol', rfl, n0, rfl⟩
  obtain ⟨c, tl, hmro⟩ := F.called_set.mro
  have hmade := F.called_set.made
  have hsub := F.called_set.sub
  have h1 := F.called_set.notType
  have h2 := F.called_set.canCreate
  have hct := F.typeCall_set_1 (.ref l)
  refine wpAny_call (codeAny_of_tree ?_)
  show wpAny _ _ (callAny (.type "set") _) _ _ _
  refine wpAny_pure ⟨Code.quiet_builtin _ (by decide +kernel), codeAny_builtin F.entry_type_call ?_⟩
  rw [Around.under_plain (weight_type_call_type "set" [.ref l] []) rfl]
  repeat (any_goals (first | assumption | wp_step))
  refine codeAny_mono (code_set_led1 (.ref l) (E := E) (Q₁ := fun obj s₁ => obj = .ref s.heap.objs.size ∧ s₁ = { s with heap := s.heap.push (zSet w) }) ⟨rfl, rfl⟩) fun r s₁ hr => ?_
  cases r with
  | error e => exact hr
  | ok fl =>
    cases fl with
    | ret obj =>
      obtain ⟨rfl, rfl⟩ := hr
      have hli := F.called_set.init.lookup
      have hbi := F.called_set.init.bind (.ref s.heap.objs.size)
      repeat (any_goals (first | assumption | wp_step))
      refine codeAny_mono (codeAny_call_builtin (R := wants (fun r s₂ => r = .none ∧ ∃ h' tk c, s₂ = { s with heap := h', toks := tk } ∧ SetR w h' s.heap.objs.size (fun j => decide (j ∈ ns)) c ∧ c ≤ ns.length ∧ (∀ b o, s.heap.get? b = some o → h'.get? b = some o)) E) F.called_set.init.plain F.entry_set_init (check_set_init_1 hT ?_)) fun r₂ s₂ hr₂ => ?_
      · have x1 : isSubtype (.type "list") (.type "set") = pure false := by rw [isSubtype_type]; kernel_rfl
        have x2 : isSubtype (.type "list") (.type "frozenset") = pure false := by rw [isSubtype_type]; kernel_rfl
        have x3 : (Value.type "list" == Value.type "dict") = false := by decide
        unfold Builtin.«set.__init__» noKeywords Builtin.Frozenset.updateFrom
        generalize hPI : pyIter = PI
        wp_walk
        subst hPI
        refine wpAny_pyIter_list hl1 ?_
        refine wpAny_bind (wpAny_runValue ?_)
        have hz1 : (s.heap.push (zSet w)).objs.size = s.heap.objs.size + 1 := Heap.size_push ..
        have hneI : l ≠ (s.heap.push (zSet w)).objs.size := by rw [hz1]; exact Nat.ne_of_lt (Nat.lt_succ_of_lt hll)
        have hSf : s.heap.objs.size ∉ [(s.heap.push (zSet w)).objs.size, l] := by
          rw [hz1]
          simp only [List.mem_cons, List.not_mem_nil, or_false, not_or]
          exact ⟨Nat.ne_of_lt (Nat.lt_succ_self _), Nat.ne_of_gt hll⟩
        refine set_update_ints ((Walks.list (by simp [hh]) _ l hneI items).toS) s.heap.objs.size hSf ns hsz hb hval (items.size - 0) 0 _ (by omega) (Nat.zero_le _) ⟨⟨_, Heap.get?_push_size _ rfl, rfl, rfl⟩, ?_⟩ ⟨0, Nat.le_refl 0, setR_new_at (Heap.get?_push_of_some _ hS)⟩ ?_
        · exact ⟨_, Heap.get?_push_of_some _ hol', rfl, n0, rfl⟩
        · rintro ⟨h', g2, d', tk', os'⟩ c' hm hc' hS'
          obtain rfl : g2 = s.gens := hm.gens
          obtain rfl : d' = s.drawn := hm.drawn
          obtain rfl : os' = s.os := hm.os
          show wpAny _ _ _ _ _ _
          refine wpAny_pure ?_
          show wpAny _ _ (ret Value.none) _ _ _
          refine wpAny_pure ⟨rfl, h', tk', c', rfl, hS', by omega, fun b o e => ?_⟩
          have lt : b < s.heap.objs.size := Heap.lt_size e
          refine hm.heap b o ?_ (Heap.get?_push_of_some _ (Heap.get?_push_of_some _ e))
          rw [hz1]
          simp only [List.mem_cons, List.not_mem_nil, or_false, not_or]
          exact ⟨Nat.ne_of_lt lt, Nat.ne_of_lt (Nat.lt_succ_of_lt lt)⟩
      · cases r₂ with
        | error e => exact hr₂
        | ok fl₂ =>
          cases fl₂ with
          | ret r =>
            obtain ⟨rfl, h', tk, c', rfl, g1, g2, g3⟩ := hr₂
            repeat (any_goals (first | assumption | wp_step))
            exact h _ _ _ g1 g2 g3
          | _ => exact hr₂.elim
    | _ => exact hr.elim
end
end L2
namespace Z
open PySem PySem.Spec PyProof.Rows L2
section
variable {X : Cx}
def rSetL (w : World) : List V → Hp → VK → Prop := fun vs H Q => ∃ l, vs = [.ref l] ∧ ∃ ns : List Int, H l = some (.lst (ns.map V.int)) ∧ ns.length ≤ 1000 ∧ ∀ (p : Addr) (c : Nat), H p = none → c ≤ ns.length → Q (.ref p) (upd H p (SetO w p (fun j => decide (j ∈ ns)) c))
theorem call_setL (hc : X.calm = true) : CallR X (.type "set") (rSetL X.w) := by
  intro pins s σ H vs us Q I r h
  obtain ⟨l, rfl, ns, hl, hlen, q⟩ := h
  rw [Vals.ref1 r]
  obtain ⟨its, rv, pl, hz⟩ := I.list (SqL.of hl)
  refine z_set_list (I.ok.hd hc) pl.isList rv.ints (by show ns.length + 1 < scanBound; have : (1001 : Nat) < scanBound := by decide
                                                       omega) fun h' tk c g1 g2 g3 => ?_
  exact ⟨.ref _, upd H s.heap.objs.size (SetO X.w s.heap.objs.size (fun j => decide (j ∈ ns)) c), I.laid (t' := tk) g3 (Nat.le_refl _) (setO_new g1), rfl, q _ c (I.hok.fresh (Nat.le_refl _)) g2⟩
end
end Z
set_option Elab.async false
set_option linter.all false
set_option maxRecDepth 100000
set_option maxHeartbeats 4000000
namespace Z
open PySem PySem.Spec PyProof.Rows L2
/-! ### for x in xs, a list or a tuple -/
def iSeq (K : PySem.W.Frag) (tl : TE) : TI := fun σ H R => tl σ H fun x H1 => ∃ a, x = .ref a ∧ ∃ xs, (SqL K H1 a xs ∧ R (Itl K a) H1) ∨ (SqT K H1 a xs ∧ R (Itt K a) H1)
theorem pi_seq {X : Cx} {tg l : Expr} {tl : TE} (hl : PE X l tl) : PI X tg l (iSeq X.K tl) := by
  refine ⟨fun pins s σ H R I h => ?_⟩
  refine thn (hl.run pins s σ H _ I h) fun v s1 ⟨x, H1, I1, r1, a, e, xs, q1⟩ => ?_
  subst e
  cases r1
  have fp1 : ∀ b ∈ [s1.heap.objs.size], FpOk X pins H1 b := fun b hb => by
    rw [List.mem_singleton.mp hb]
    exact I1.fpOk (Nat.le_refl _) (I1.hok.fresh (Nat.le_refl _))
  rcases q1 with ⟨hq, q⟩ | ⟨hq, q⟩
  · obtain ⟨its, rv, p, hz⟩ := I1.list hq
    exact wpAny_pyIter_list p.isList ⟨s1.heap.objs.size, [s1.heap.objs.size], _, _, H1, rfl, I1.kept (t' := s1.toks) fun b o e => Heap.get?_push_of_some _ e, turn_list a _, ⟨_, Heap.get?_push_size _ rfl, rfl, rfl⟩, fp1, q⟩
  · obtain ⟨its, rv, p, hz⟩ := I1.tuple hq
    exact wpAny_pyIter_tuple (show s1.heap.IsTuple a its.toArray from p) ⟨s1.heap.objs.size, [s1.heap.objs.size], _, _, H1, rfl, I1.kept (t' := s1.toks) fun b o e => Heap.get?_push_of_some _ e, turn_tuple a _, ⟨_, Heap.get?_push_size _ rfl, rfl, rfl⟩, fp1, q⟩
/-- a list or a tuple of these items -/
def SqX (H : Hp) (a : Addr) (xs : List V) : Prop := H a = some (.lst xs) ∨ H a = some (.tup xs)
theorem SqX.same {H H' : Hp} {a : Addr} {xs : List V} (s : Same H H') (h : SqX H a xs) : SqX H' a xs := h.imp (s _ _) (s _ _)
theorem lcG_seq {K : PySem.W.Frag} {tl : TE} {g : TG} {tt : TT} {te : TE} {vs : List Nat} {σ : L2.St} {H : Hp} {Q : VK} (a : Addr) (xs : List V) (h : ∀ Q : VK, Q (.ref a) H → tl σ H Q) (hx : SqX H a xs) (Pv : Addr → Nat → Hp → Prop) (h0 : ∀ D, H D = none → Pv D 0 (upd H D (.lst [])))
    (hl : ∀ D i H', H D = none → Pv D i H' → Same H H')
    (hs : ∀ D i x H', H D = none → xs[i]? = some x → Pv D i H' → g x (wipe σ vs) H' fun σ2 H2 => wipe σ2 vs = wipe σ vs ∧ tt σ2 H2 fun b H3 =>
      if b = true then te σ2 H3 fun y H4 => ∃ acc, H4 D = some (.lst acc) ∧ acc.length < sizeLine ∧ Pv D (i + 1) (upd H4 D (.lst (acc ++ [y]))) else Pv D (i + 1) H3) (hd : ∀ D H', H D = none → Pv D xs.length H' → Q (.ref D) H') :
    tLc (iSeq K tl) g tt te vs σ H Q := by
  rcases hx with hx | hx
  · refine h _ ⟨a, rfl, xs, .inl ⟨SqL.of hx, fun D hD => ?_⟩⟩
    exact wk_list (S := fun x H' Nx1 => g x (wipe σ vs) H' fun σ2 H2 => wipe σ2 vs = wipe σ vs ∧ tt σ2 H2 fun b H3 => if b = true then te σ2 H3 fun y H4 => ∃ acc, H4 D = some (.lst acc) ∧ acc.length < sizeLine ∧ Nx1 (upd H4 D (.lst (acc ++ [y]))) else Nx1 H3) (Pv D) (h0 D hD) (fun i H' p => SqL.of (hl D i H' hD p _ _ hx)) (fun i x H' e p => hs D i x H' hD e p) fun H' p => hd D H' hD p
  · refine h _ ⟨a, rfl, xs, .inr ⟨SqT.of hx, fun D hD => ?_⟩⟩
    exact wk_tup (S := fun x H' Nx1 => g x (wipe σ vs) H' fun σ2 H2 => wipe σ2 vs = wipe σ vs ∧ tt σ2 H2 fun b H3 => if b = true then te σ2 H3 fun y H4 => ∃ acc, H4 D = some (.lst acc) ∧ acc.length < sizeLine ∧ Nx1 (upd H4 D (.lst (acc ++ [y]))) else Nx1 H3) (Pv D) (h0 D hD) (fun i H' p => SqT.of (hl D i H' hD p _ _ hx)) (fun i x H' e p => hs D i x H' hD e p) fun H' p => hd D H' hD p
end Z
set_option Elab.async false
set_option linter.all false
set_option maxRecDepth 100000
set_option maxHeartbeats 4000000
namespace Z
open PySem PySem.Spec PyProof.Rows L2
/-! ### str(n) -/
def rStrI : List V → Hp → VK → Prop := fun xs H Q => ∃ i : Int, xs = [.int i] ∧ 0 ≤ i ∧ i ≤ 1000000 ∧ Q (.str (toString i)) H
theorem call_strI {X : Cx} : CallR X (.type "str") rStrI := callr_imp call_str_int fun _ _ _ ⟨i, e, h0, h1, q⟩ => ⟨i, e, Nat.lt_of_le_of_lt (PySem.W.mg_log (k := 61) (by omega)) (by decide), q⟩
/-! ### x.upper() -/
def tUpS (to : TE) : TE := fun σ H Q => to σ H fun x H1 => ∃ a, x = .str a ∧ a.length ≤ 1000 ∧ Q (.str (Txt.upper a)) H1
theorem pe_up1 {X : Cx} {o : Expr} {to : TE} {apos pos : Pos} (ho : PE X o to) (hbase : attributeBase o "upper" X.env (eval o X.env) = eval o X.env := by rfl) (hline : (apos.endLine == pos.line) = true := by rfl) :
    PE X (.Call (.Attribute o "upper" apos) [] [] pos) (tUpS to) :=
  pe_imp (pe_upper (pe_up ho) hbase hline) fun σ H Q h => ⟨_, h, fun x H1 ⟨a, e, l, q⟩ => ⟨⟨a, e⟩, a, e, rfl, by omega, q⟩⟩
theorem upper_list : ∀ cs : List Nat, (∀ c ∈ cs, c < 128) → (Txt.upper ⟨cs.toArray⟩).cps.toList.length = cs.length ∧ ∀ d ∈ (Txt.upper ⟨cs.toArray⟩).cps.toList, d < 128
  | [], _ => by
    have e : Txt.upper ⟨#[]⟩ = ⟨#[]⟩ := by decide +kernel
    rw [e]
    exact ⟨rfl, fun d hd => by simp at hd⟩
  | c :: cs, h => by
    have e : (⟨(c :: cs).toArray⟩ : Str) = (⟨#[c]⟩ : Str) ++ (⟨cs.toArray⟩ : Str) := PySem.Str.ext' (by rw [PySem.Str.cps_append]; simp)
    have hc := h c List.mem_cons_self
    obtain ⟨i1, i2⟩ := upper_list cs fun d hd => h d (List.mem_cons_of_mem _ hd)
    rw [e, PySem.W.KOpn.upper_app, PySem.W.KOpn.upper_one hc, str_cat, List.length_append, i1]
    refine ⟨by simp; omega, fun d hd => ?_⟩
    rcases List.mem_append.mp hd with hd | hd
    · have e : d = if 97 ≤ c ∧ c ≤ 122 then c - 32 else c := by simpa using hd
      rw [e]
      split <;> omega
    · exact i2 d hd
theorem Tx.upper {n : Nat} {x : Str} (h : Tx n x) : Tx n (Txt.upper x) := by
  have z := upper_list x.cps.toList h.low
  rw [show (⟨x.cps.toList.toArray⟩ : Str) = x from rfl] at z
  exact ⟨by rw [str_len, z.1, ← str_len]; exact h.len, z.2⟩
/-! ### t[::c] of a pair, c 1 or -1 -/
section
variable {prog : Program} {w : World} {A : Around} {E : Value → Shared → Prop} {s : Shared}
theorem applied_st {sl : Addr} {vs : Value} {c : Int} {n : Nat} {Q : Int × Int × Nat → Shared → Prop} (hs : s.heap.IsSliceOf sl .none .none vs) (ps : IsPart vs (some c)) (h0 : c ≠ 0)
    (h : Q ((Builtin.Slice.sliceAdjust none none c (n : Int)).1, c, Builtin.Slice.slicePlaces (Builtin.Slice.sliceAdjust none none c (n : Int)).1 (Builtin.Slice.sliceAdjust none none c (n : Int)).2 c) s) : wpAny (model prog w) A (Builtin.Slice.sliceApplied (.ref sl) (pure (n : Int))) Q E s := by
  obtain ⟨os, hos, hcs, hds⟩ := id hs
  unfold Builtin.Slice.sliceApplied Builtin.Slice.sliceFields
  refine wpAny_bind (wpAny_bind (wpAny_field hos hds (x := .none) rfl (wpAny_bind (wpAny_field hos hds (x := .none) rfl (wpAny_bind (wpAny_field hos hds (x := vs) rfl (wpAny_pure ?_)))))))
  refine wpAny_bind (HT.slicePart_ ps ?_)
  show wpAny _ _ (if (c == 0) = true then _ else _) _ _ s
  rw [if_neg (by intro z; exact h0 (eq_of_beq z))]
  refine wpAny_bind (HT.slicePart_ .none (wpAny_bind (HT.slicePart_ .none (wpAny_bind (wpAny_pure ?_)))))
  exact wpAny_pure h
theorem getItem_st {t sl : Addr} {u0 u1 : Value} {vs : Value} {c : Int} {Q : Value → Shared → Prop} (ht : IsTup s.heap t #[u0, u1]) (hs : s.heap.IsSliceOf sl .none .none vs) (ps : IsPart vs (some c))
    (h1 : c = 1 → Q (.ref t) s) (h2 : c ≠ 1 → c = -1 ∧ Q (.ref s.heap.objs.size) { s with heap := s.heap.push { cls := .type "tuple", data := .seq #[u1, u0] } }) : wpAny (model prog w) A (getItem (.ref t) (.ref sl)) Q E s := by
  obtain ⟨os, hos, hcs, hds⟩ := id hs
  have hTs : s.TypeIs (.ref sl) "slice" := ⟨os, hos, hcs⟩
  have h0 : c ≠ 0 := fun e => by
    by_cases z : c = 1
    · omega
    · have := (h2 z).1
      omega
  unfold getItem
  try with_reducible refine wpAny_holding ?_
  first | refine wpAny_bind (wpAny_pure ?_) | skip
  refine wpAny_bind (wpAny_sequenceKey ht.typeIs (by decide) ?_)
  refine wpAny_bind (wpAny_callSpecial?_slot (name := Str.ofString "__getitem__") ht.typeIs PyProof.Rows.slot_tuple_getitem
    (wpAny_call_entry PyProof.Rows.slot_tuple_getitem ht.typeIs entry_tuple_getitem ?_ (args_tuple_getitem _ _)))
  show wpAny _ _ (Builtin.Tuple.tupleItemsOf (.ref t) >>= _) _ _ s
  refine wpAny_bind (tupleItemsOf_ ht ?_)
  refine wpAny_bind (wpAny_typeOf hTs ?_)
  rw [if_pos (by decide)]
  refine wpAny_bind (applied_st (n := 2) hs ps h0 ?_)
  by_cases hc : c = 1
  · subst hc
    show wpAny _ _ (if ((0 : Int) == 0 && (1 : Int) == 1 && (2 : Nat) == 2) = true then _ else _) _ _ s
    rw [if_pos (by decide)]
    refine wpAny_bind ?_
    show wpAny _ _ (typeOf (.ref t) >>= fun T => pure (T == .type "tuple")) _ _ s
    refine wpAny_bind (wpAny_typeOf ht.typeIs (wpAny_pure ?_))
    first
      | rw [if_pos (by decide)]
      | simp only [beq_self_eq_true, if_true]
    first
      | exact wpAny_bind (wpAny_rule (wpAny_pure ⟨_, rfl, wpAny_pure (h1 rfl)⟩))
      | exact wpAny_bind (wpAny_rule (wpAny_bind (wpAny_pure (wpAny_pure ⟨_, rfl, wpAny_pure (h1 rfl)⟩))))
  · obtain ⟨e, h⟩ := h2 hc
    subst e
    show wpAny _ _ (if ((1 : Int) == 0 && (-1 : Int) == 1 && (2 : Nat) == 2) = true then _ else _) _ _ s
    rw [if_neg (by decide)]
    have htake : sizeOk (.seq #[u1, u0]) := by
      show 2 ≤ sizeLine
      exact sz_of (by decide)
    first
      | exact wpAny_bind (m := Builtin.Tuple.tupleExact _) (wpAny_newObj_type (wpAny_pure ⟨_, rfl, wpAny_pure h⟩) htake)
      | exact wpAny_bind (m := Builtin.Tuple.tupleExact _) (wpAny_newObj_type (wpAny_bind (wpAny_pure (wpAny_pure ⟨_, rfl, wpAny_pure h⟩))) htake)
      | exact wpAny_bind (wpAny_bind (m := Builtin.Tuple.tupleExact _) (wpAny_newObj_type (wpAny_pure (wpAny_pure ⟨_, rfl, wpAny_pure h⟩)) htake))
      | exact wpAny_bind (wpAny_bind (m := Builtin.Tuple.tupleExact _) (wpAny_newObj_type (wpAny_pure ⟨_, rfl, wpAny_pure h⟩) htake))
end
def tStT (te ts : TE) : TE := fun σ H Q => te σ H fun x H1 => ts σ H1 fun y H2 => ∃ a, x = .ref a ∧ ∃ c, y = .int c ∧ ∃ v0 v1, H2 a = some (.tup [v0, v1]) ∧ (c = 1 → Q (.ref a) H2) ∧ (c ≠ 1 → c = -1 ∧ ∀ p, H2 p = none → Q (.ref p) (upd H2 p (.tup [v1, v0])))
theorem pe_stT {X : Cx} {e se : Expr} {te ts : TE} {p3 pos : Pos} (he : PE X e te) (hse : PE X se ts) : PE X (.Subscript e (.Slice none none (some se) p3) pos) (tStT te ts) := by
  refine ⟨fun pins s σ H Q I h => ?_⟩
  refine Subscript_ (thn (he.run pins s σ H _ I h) fun v s1 ⟨x, H1, I1, r1, q1⟩ => ?_)
  refine wpAny_Slice (thn (po_none.run pins s1 σ H1 (fun o H2 => o = none ∧ H2 = H1) I1 ⟨rfl, rfl⟩) fun vl s2 ⟨l, H2, I2, pl, el, e2⟩ => ?_)
  subst el e2
  refine thn (po_none.run pins s2 σ H2 (fun o H3 => o = none ∧ H3 = H2) I2 ⟨rfl, rfl⟩) fun vu s3 ⟨u, H3, I3, pu, eu, e3⟩ => ?_
  subst eu e3
  refine thn ((po_some (pe_up hse)).run pins s3 σ H3 (fun o H4 => ∃ a, x = .ref a ∧ ∃ c, o = some c ∧ ∃ v0 v1, H4 a = some (.tup [v0, v1]) ∧ (c = 1 → Q (.ref a) H4) ∧ (c ≠ 1 → c = -1 ∧ ∀ p, H4 p = none → Q (.ref p) (upd H4 p (.tup [v1, v0])))) I3
    ⟨_, q1, fun y H4 ⟨a, ex, c, ey, v0, v1, hh⟩ => ⟨c, ey, a, ex, c, rfl, v0, v1, hh⟩⟩) fun vs s4 ⟨o, H4, I4, ps, a, ex, c, eo, v0, v1, hx, k1, k2⟩ => ?_
  subst ex eo
  cases r1
  cases pl
  cases pu
  have I5 : Inv X pins σ H4 { s4 with heap := s4.heap.push { cls := .type "slice", data := .fields #[.none, .none, vs] } } := I4.kept (t' := s4.toks) fun b ob q => Heap.get?_push_of_some _ q
  obtain ⟨its, r, ht, hz⟩ := I5.tuple (SqT.of hx)
  obtain ⟨u0, u1, rfl, r0, r1⟩ := vals2 r
  show wpAny (model X.prog X.w) X.A (subscriptTail e (.Slice none none (some se) p3) (.ref a) (.ref s4.heap.objs.size)) (EP X pins σ Q) X.xe { s4 with heap := s4.heap.push { cls := .type "slice", data := .fields #[.none, .none, vs] } }
  refine tail_any (ops := [.ref a, .ref s4.heap.objs.size]) ht.typeIs PyProof.Rows.slot_tuple_getitem.lookup ?_ (by with_unfolding_all rfl)
  refine getItem_st ht (Heap.IsSliceOf.new _ .none .none vs) ps (fun e => ⟨.ref a, H4, I5, rfl, k1 e⟩) fun ne => ?_
  obtain ⟨e, k⟩ := k2 ne
  refine ⟨e, .ref _, _, I5.laid (t' := s4.toks) (o := .tup [v1, v0]) (fun b ob q => Heap.get?_push_of_some _ q) (Nat.le_refl _) ?_, rfl, k _ (I5.hok.fresh (Nat.le_refl _))⟩
  exact ⟨sz_of (show 2 ≤ 100000 by decide), _, .cons r1 (.cons r0 .nil), IsTup.new _ _⟩
end Z
set_option Elab.async false
set_option linter.all false
set_option maxRecDepth 100000
set_option maxHeartbeats 4000000
namespace Z
open PySem PySem.Spec PyProof.Rows L2 L2H
/-! ### a head by one run of the kernel: facts of the module's names, of own classes of errors -/
abbrev Frg := PySem.W.Frag
/-- own class of errors: what is looked at -/
def oexB (K : Frg) (C : Addr) : Bool := match K.lookup C with
  | some ⟨.type "type", _, .cls cd, sl⟩ => (match cd.mro, sl.toList with
    | .ref C' :: bm, [_, _, _, _, some (.builtin n), _] => C' == C && (n == "ValueError.__new__" && (!cd.hasDel && (cd.hasDict && PySem.HandSPX.refsVE bm)))
    | _, _ => false)
  | _ => false
theorem oexB_ok {K : Frg} {C : Addr} (q : oexB K C = true) : ∃ nm qn N bs bm sn sub ab col dd k0 k1 k2 k3 k5, K.lookup C = some (excClassObj nm qn C N bs bm true sn sub ab col dd k0 k1 k2 k3 k5 "ValueError.__new__") ∧ PySem.HandSPX.refsVE bm = true := by
  unfold oexB at q
  split at q
  · rename_i dd cd sl ho
    split at q
    · rename_i C' bm k0 k1 k2 k3 n k5 hm hs
      simp only [Bool.and_eq_true, beq_iff_eq, Bool.not_eq_true'] at q
      obtain ⟨rfl, rfl, hdel, hdc, hv⟩ := q
      obtain ⟨nm, bs, mro, ns, qn, hd, sn, sub, ab, col, del⟩ := cd
      dsimp only at hm hdel hdc
      subst hm hdel hdc
      obtain ⟨l⟩ := sl
      simp only at hs
      subst hs
      exact ⟨nm, qn, ns, bs, bm, sn, sub, ab, col, dd, k0, k1, k2, k3, k5, ho, hv⟩
    · cases q
  · cases q
def eO (a b : Option Value) : Bool := decide (a = b)
def eB (a : Option Bool) (b : Bool) : Bool := decide (a = some b)
/-- what an own class of errors with an own __init__ must say -/
def excB (K : Frg) (n : Str) (fs : List Str) : Bool :=
  oexB K (He.ga K n) && He.eqO (PySem.W.findIn K (.ref (He.ga K n)) "__setattr__") (some (some (.builtin "object.__setattr__"))) && eB (PySem.W.subIn K (.ref (He.ga K n)) (.type "BaseException")) true && eO (PySem.W.typeIn K (.ref (He.ga K n))) (some (.type "type")) && PySem.W.keepIn K (.ref (He.ga K n)) &&
  He.eqO (PySem.W.findIn K (.ref (He.ga K n)) "__init__") (some (some (.ref (He.ma K (He.ga K n) "__init__")))) && eO (PySem.W.typeIn K (.ref (He.ma K (He.ga K n) "__init__"))) (some (.type "function")) && (fs.all fun f => He.eqO (PySem.W.findIn K (.ref (He.ga K n)) f) (some none)) &&
  He.eqO (PySem.W.findIn K (.ref (He.ga K n)) "__getattribute__") (some (some (.builtin "BaseException.__getattribute__"))) && He.eqO (PySem.W.findIn K (.ref (He.ga K n)) "__getattr__") (some none) && PySem.W.hasDictIn K (He.ga K n) &&
  He.eqO (PySem.W.findIn K (.ref (He.ga K n)) "__class__") (some (some (.builtin "object.__class__"))) && He.eqO (PySem.W.specialIn K (.builtin "object.__class__") "__get__") (some (some (.builtin "getset_descriptor.__get__"))) && eB (PySem.W.takesIn K (.builtin "object.__class__")) true && eB (PySem.W.mroIn K (He.ga K n) (.type "object")) true &&
  eB (PySem.W.kitOne K (.ref (He.ga K n)) (.type "ValueError")) true
def baseB (K : Frg) (n : Str) : Bool := He.eqO (PySem.W.specialIn K (.ref (He.ga K n)) "__getattribute__") (some (some (.builtin "type.__getattribute__"))) && PySem.W.readsIn K (He.ga K n) (.type "type") && (match PySem.W.findCls K (.ref (He.ga K n)) (.type "type") "__init__" with
  | some (.val (.builtin s)) => s == "ValueError.__init__"
  | _ => false)
/-- m's instances are none of n's -/
def notB (K : Frg) (n : Str) (ms : List Str) : Bool := ms.all fun m => eB (PySem.W.kitOne K (.ref (He.ga K n)) (.ref (He.ga K m))) false
def exmB (K : Frg) (n m : Str) : Bool := eB (PySem.W.exmOne K (.ref (He.ga K n)) (.ref (He.ga K m))) true
structure BadX (K : PySem.W.Frag) (mg : Str → Option Value) (n : Str) (fs : List Str) (C : Addr) (st : Stmt) : Prop where
  nm : mg n = some (.ref C)
  ox : OexC K C
  ini : ∃ (fI : Addr) (fd : FuncData), PySem.W.findIn K (.ref C) "__init__" = some (some (.ref fI)) ∧ PySem.W.typeIn K (.ref fI) = some (.type "function") ∧ Fun K "__init__" (n ++ Str.ofString ".__init__") st fI fd
  no : ∀ f ∈ fs, PySem.W.findIn K (.ref C) f = some none
  ex : ExcC K C
  xf : XfC K C
  ve : PySem.W.kitOne K (.ref C) (.type "ValueError") = some true
section
variable {K : Frg} {h : Heap} {mg : Str → Option Value}
theorem fun_of {x q : Str} {st : Stmt} {f : Addr} {fd : FuncData} (F : FunD K x q (defArgs st) (defBody st) (defScope st) [] [] f fd) : Fun K x q st f fd := by
  obtain ⟨oc, od, dV, kV, doc, pm, an, cdv, ct, osl, rfl, lk, hcd, hD, _⟩ := F.ex
  rcases hD with ⟨_, rfl⟩ | ⟨e, _⟩
  · exact ⟨⟨oc, od, kV, doc, pm, an, cdv, ct, osl, rfl, lk, hcd⟩, F.kp⟩
  · exact absurd rfl e
theorem eB_ok {a : Option Bool} {b : Bool} (h : eB a b = true) : a = some b := of_decide_eq_true h
theorem eO_ok {a b : Option Value} (h : eO a b = true) : a = b := of_decide_eq_true h
theorem excB_ok {n : Str} {fs : List Str} {st : Stmt} {fd : FuncData} (c : excB K n fs = true) (nm : mg n = some (.ref (He.ga K n))) (F : Fun K "__init__" (n ++ Str.ofString ".__init__") st (He.ma K (He.ga K n) "__init__") fd) : BadX K mg n fs (He.ga K n) st := by
  unfold excB at c
  simp only [Bool.and_eq_true] at c
  obtain ⟨⟨⟨⟨⟨⟨⟨⟨⟨⟨⟨⟨⟨⟨⟨c1, c2⟩, c3⟩, c4⟩, c5⟩, c6⟩, c7⟩, c8⟩, c9⟩, c10⟩, c11⟩, c12⟩, c13⟩, c14⟩, c15⟩, c16⟩ := c
  have z9 := He.eqO_ok c9
  have z10 := He.eqO_ok c10
  exact ⟨nm, ⟨oexB_ok c1, He.eqO_ok c2, eB_ok c3, eO_ok c4, c5⟩, ⟨_, fd, He.eqO_ok c6, eO_ok c7, F⟩, fun f hf => He.eqO_ok (List.all_eq_true.mp c8 f hf), ⟨z9, z10, eB_ok c3, c11, He.eqO_ok c12, He.eqO_ok c13, eB_ok c14, eB_ok c15⟩, ⟨z9, z10, eB_ok c3, c11⟩, eB_ok c16⟩
theorem baseB_ok {n : Str} (c : baseB K n = true) (nm : mg n = some (.ref (He.ga K n))) : BaseC K mg n := by
  unfold baseB at c
  simp only [Bool.and_eq_true] at c
  obtain ⟨⟨c1, c2⟩, c3⟩ := c
  refine ⟨He.ga K n, .type "type", nm, He.eqO_ok c1, c2, ?_⟩
  split at c3
  · rename_i s e
    rw [e, beq_iff_eq.mp c3]
  · cases c3
theorem notB_ok {n m : Str} {ms : List Str} (c : notB K n ms = true) (hm : m ∈ ms) : PySem.W.kitOne K (.ref (He.ga K n)) (.ref (He.ga K m)) = some false := eB_ok (List.all_eq_true.mp c m hm)
theorem dnD {x : Str} {st : Stmt} {fd : FuncData} (F : FunD K x x (defArgs st) (defBody st) (defScope st) [] [] (He.fAd K (x, none)) fd) (nm : mg x = some (.ref (He.ga K x))) : Dn K mg x st := ⟨⟨He.ga K x, fd, fun_of F, nm⟩⟩
theorem dkD {x : Str} {st : Stmt} {kws : List (Str × V)} {fd : FuncData} (F : FunD K x x (defArgs st) (defBody st) (defScope st) [] kws (He.fAd K (x, none)) fd) (nm : mg x = some (.ref (He.ga K x))) : Dk K mg x st kws := ⟨⟨He.ga K x, fd, F, nm⟩⟩
end
/-- a plain def of the top; one with keyword-only defaults; an __init__ -/
def dPl (x : Str) (st : Stmt) : He.DefD := ⟨(x, none), x, x, defArgs st, defBody st, defScope st, [], []⟩
def dKw (x : Str) (st : Stmt) (kws : List (Str × He.Dv)) : He.DefD := ⟨(x, none), x, x, defArgs st, defBody st, defScope st, [], kws⟩
def dIn (n : Str) (st : Stmt) : He.DefD := ⟨(n, some "__init__"), "__init__", n ++ Str.ofString ".__init__", defArgs st, defBody st, defScope st, [], []⟩
/-! ### the Hook: facts by names, a Bool over the written part and the statics -/
def asZ (g : Addr → Option Obj) (n : Nat) : List Addr := He.asD g n ++ [PySem.cStatics]
structure SaysZ (fa : List He.Fa) (fn : List He.DefD) (ex : Frg → Bool) (w : World) (K : Frg) : Prop where
  t : He.SaysT fa fn [] w K
  more : ex K = true
def obsZ (n : Nat) (fa : List He.Fa) (fn : List He.DefD) (ex : Frg → Bool) (g : Addr → Option Obj) : He.AlX := (He.obsT fa fn [] (He.frT g (asZ g n)), ex (He.frT g (asZ g n)))
def hookZ (n : Nat) (fa : List He.Fa) (fn : List He.DefD) (ex : Frg → Bool) : PySem.W.Hook where
  α := He.AlX
  obs := fun s => obsZ n fa fn ex s.heap.get?
  val := fun w => (He.valT fn [] w, true)
  says := fun w h => ∃ K : Frg, K.In h ∧ SaysZ fa fn ex w K
  of := fun _ _ e => ⟨_, He.frT_in, congrArg (fun z : He.AlX => z.1) e, congrArg (fun z : He.AlX => z.2) e⟩
  keeps := fun _ _ _ ⟨K, hK, c⟩ k => ⟨K, PySem.W.Frag.In.keeps hK k, c⟩
theorem obsZ_eq {n : Nat} {fa : List He.Fa} {fn : List He.DefD} {ex : Frg → Bool} {g : Addr → Option Obj} {s : Shared} (h : ∀ a, g a = s.heap.get? a) : obsZ n fa fn ex g = (hookZ n fa fn ex).obs s := by
  have e : g = s.heap.get? := funext h
  rw [e] <;> rfl
end Z
set_option Elab.async false
set_option linter.all false
set_option maxRecDepth 100000
set_option maxHeartbeats 4000000
namespace Z
open PySem PySem.Spec PyProof.Rows L2 L2H
/-! ### a head that tells of properties, methods, a class with keyword-only defaults -/
/-- the def of a class's property -/
structure GetD where
  cls : Str
  nm : Str
  qual : Str
  params : Arguments
  body : List Stmt
  scope : Scope
def gAd (K : Frg) (p : GetD) : Addr := match PySem.W.recIn K (He.ma K (He.ga K p.cls) p.nm) "property" with
  | some (.ref g :: _) => g
  | _ => 0
def fnP (K : Frg) (g : Addr) : He.FnW := match K.lookup g with
  | some ⟨_, _, .func fd, _⟩ => some (fd.name, fd.qualname, fd.params, fd.body, fd.scope, fd.globals, fd.closure, fd.builtins)
  | _ => none
def GetD.val (d : GetD) : He.FnW := some (d.nm, d.qual, d.params, .stmts d.body, d.scope, mainGlobals, [], builtinsNs)
def propB (K : Frg) (d : GetD) : Bool :=
  He.eqO (PySem.W.findIn K (.ref (He.ga K d.cls)) d.nm) (some (some (.ref (He.ma K (He.ga K d.cls) d.nm)))) && He.eqO (PySem.W.specialIn K (.ref (He.ma K (He.ga K d.cls) d.nm)) "__get__") (some (some (.builtin "property.__get__"))) && eB (PySem.W.takesIn K (.ref (He.ma K (He.ga K d.cls) d.nm))) true &&
  (match PySem.W.recIn K (He.ma K (He.ga K d.cls) d.nm) "property" with
    | some (.ref g :: _) => PySem.W.keepIn K (.ref g) && (match K.lookup g with
      | some ⟨_, _, .func fd, _⟩ => PySem.W.codeIn K fd.code d.qual && He.dflB K fd.defaults []
      | _ => false)
    | _ => false)
theorem prop_ok {K : Frg} {d : GetD} (c : propB K d = true) (e : fnP K (gAd K d) = d.val) : PropOf K (He.ga K d.cls) d.nm (He.ma K (He.ga K d.cls) d.nm) (gAd K d) ∧
    ∃ oc od kV doc pm an cdv ct osl, K.lookup (gAd K d) = some ⟨oc, od, .func (PySem.W.fnOf d.nm d.qual d.params d.body d.scope .none kV doc pm an cdv ct), osl⟩ ∧ PySem.W.codeIn K cdv d.qual = true := by
  unfold propB at c
  simp only [Bool.and_eq_true] at c
  obtain ⟨⟨⟨c1, c2⟩, c3⟩, c4⟩ := c
  split at c4
  · rename_i g rest hrec
    have eg : gAd K d = g := by unfold gAd; rw [hrec]
    refine ⟨⟨He.eqO_ok c1, He.eqO_ok c2, eB_ok c3, rest, by rw [eg]; exact hrec⟩, ?_⟩
    rw [eg] at e ⊢
    obtain ⟨c5, c6⟩ := He.ba c4
    split at c6
    · rename_i oc od fd osl q
      unfold fnP at e
      rw [q] at e
      obtain ⟨n1, n2, n3, n4, n5, n6, n7, n8, n9, n10, n11, n12, n13, n14, n15⟩ := fd
      have e2 : (some (n1, n2, n3, n4, n5, n6, n7, n15) : He.FnW) = some (d.nm, d.qual, d.params, .stmts d.body, d.scope, mainGlobals, [], builtinsNs) := e
      simp only [Option.some.injEq, Prod.mk.injEq] at e2
      obtain ⟨h1, h2, h3, h4, h5, h6, h7, h8⟩ := e2
      subst h1 h2 h3 h4 h5 h6 h7 h8
      obtain ⟨k1, k2⟩ := He.ba c6
      have hd : n8 = .none := by
        have z := He.dflB_ok k2
        rcases z with ⟨_, e⟩ | ⟨e, _⟩
        · exact e
        · exact absurd rfl e
      subst hd
      exact ⟨oc, od, n9, n10, n11, n12, n13, n14, osl, q, k1⟩
    · cases c6
  · cases c4
/-- the property's rule -/
theorem pr_mk {P : Program} {w : World} {K : Frg} {mg : Str → Option Value} {base : Heap} {d : GetD} {fld : Str} {p1 p2 p3 : Pos} (c : propB K d = true) (e : fnP K (gAd K d) = d.val) (cl : Cls K (He.ga K d.cls)) (na : NoAttr K (He.ga K d.cls) fld) (S : FnScope ["self"] ["self"] d.scope)
    (hb : d.body = [.Return (some (.Attribute (.Name "self" p1) fld p2)) p3])
    (bnd : ∀ (kV doc pm : Value) (an : Option Addr) (cdv ct : Value) (us : List Value), us.length = 1 → bindArgs (PySem.W.fnOf d.nm d.qual d.params d.body d.scope .none kV doc pm an cdv ct) ⟨us, []⟩ = pure ((["self"] : List Str).zip us)) : Pr P w K mg base (He.ga K d.cls) d.nm fld := by
  obtain ⟨hp, oc, od, kV, doc, pm, an, cdv, ct, osl, lk, hcd⟩ := prop_ok c e
  exact ⟨⟨_, _, _, ["self"], hp, fn_getter lk hcd S rfl hb cl na, .all (bnd kV doc pm an cdv ct)⟩, cl⟩
theorem dm_mk {K : Frg} {C m qual : Str} {st : Stmt} {fd : FuncData} (hm : Meth K (He.ga K C) m (He.ma K (He.ga K C) m)) (cl : Cls K (He.ga K C)) (F : FunD K m qual (defArgs st) (defBody st) (defScope st) [] [] (He.fAd K (C, some m)) fd) : Dm K (He.ga K C) m qual st := ⟨⟨_, fd, fun_of F, hm⟩, cl⟩
def dMt (C m : Str) (st : Stmt) (kws : List (Str × He.Dv)) : He.DefD := ⟨(C, some m), m, C ++ Str.ofString "." ++ m, defArgs st, defBody st, defScope st, [], kws⟩
/-- the object that a def's keyword-only default is -/
def kwAt (C m q : Str) (K : Frg) : Addr := match K.lookup (He.fAd K (C, some m)) with
  | some ⟨_, _, .func fd, _⟩ => (match fd.kwdefaults with
    | .ref D => (match PySem.W.nsIn K D q with
      | some (some (.ref a)) => a
      | _ => 0)
    | _ => 0)
  | _ => 0
/-! ### what is looked at: by layers, no object's other parts -/
def refsK (o : Obj) : List Addr := match o.data with
  | .dict es _ => es.toList.flatMap fun e => He.refV e.val
  | .func fd => He.refV fd.code ++ He.refV fd.kwdefaults
  | .cls cd => [cd.ns]
  | .fields vs => (match o.cls with
    | .type n => if n == "property" then vs.toList.flatMap He.refV else []
    | _ => [])
  | _ => []
def grow1 (g : Addr → Option Obj) (as : List Addr) : List Addr := as.flatMap fun a => match g a with
  | some o => refsK o
  | none => []
def asK (g : Addr → Option Obj) : Nat → List Addr → List Addr
  | 0, as => as
  | n + 1, as => as ++ asK g n (grow1 g as)
def asW (g : Addr → Option Obj) (n : Nat) : List Addr := asK g n [mainGlobals] ++ [PySem.cStatics]
/-! ### the Hook -/
structure SaysY (fa : List He.Fa) (fn : List He.DefD) (gd : List GetD) (ex : Frg → Bool) (w : World) (K : Frg) : Prop where
  t : He.SaysT fa fn [] w K
  more : ex K = true
  g : gd.map (fun d => fnP K (gAd K d)) = gd.map GetD.val
abbrev AlY : Type := He.AlX × List He.FnW
def obsY (n : Nat) (fa : List He.Fa) (fn : List He.DefD) (gd : List GetD) (ex : Frg → Bool) (g : Addr → Option Obj) : AlY := ((He.obsT fa fn [] (He.frT g (asW g n)), ex (He.frT g (asW g n))), gd.map fun d => fnP (He.frT g (asW g n)) (gAd (He.frT g (asW g n)) d))
def hookY (n : Nat) (fa : List He.Fa) (fn : List He.DefD) (gd : List GetD) (ex : Frg → Bool) : PySem.W.Hook where
  α := AlY
  obs := fun s => obsY n fa fn gd ex s.heap.get?
  val := fun w => ((He.valT fn [] w, true), gd.map GetD.val)
  says := fun w h => ∃ K : Frg, K.In h ∧ SaysY fa fn gd ex w K
  of := fun _ _ e => ⟨_, He.frT_in, congrArg (fun z : AlY => z.1.1) e, congrArg (fun z : AlY => z.1.2) e, congrArg (fun z : AlY => z.2) e⟩
  keeps := fun _ _ _ ⟨K, hK, c⟩ k => ⟨K, PySem.W.Frag.In.keeps hK k, c⟩
theorem obsY_eq {n : Nat} {fa : List He.Fa} {fn : List He.DefD} {gd : List GetD} {ex : Frg → Bool} {g : Addr → Option Obj} {s : Shared} (h : ∀ a, g a = s.heap.get? a) : obsY n fa fn gd ex g = (hookY n fa fn gd ex).obs s := by
  have e : g = s.heap.get? := funext h
  rw [e] <;> rfl
theorem SaysY.get {fa : List He.Fa} {fn : List He.DefD} {gd : List GetD} {ex : Frg → Bool} {w : World} {K : Frg} (c : SaysY fa fn gd ex w K) (i : Nat) {d : GetD} (h : gd[i]? = some d := by rfl) : fnP K (gAd K d) = d.val := by
  have e2 : (gd.map fun d => fnP K (gAd K d))[i]? = (gd.map GetD.val)[i]? := by rw [c.g]
  rw [List.getElem?_map, List.getElem?_map, h] at e2
  exact Option.some.inj e2
end Z
set_option Elab.async false
set_option linter.all false
set_option maxRecDepth 100000
set_option maxHeartbeats 4000000
namespace Z
open PySem PySem.Spec PyProof.Rows L2 L2H
section
variable {P : Program} {w : World} {K : PySem.W.Frag} {mg : Str → Option Value} {base : Heap}
/-! ### lists of fresh tuples -/
def Rws (F H : Hp) (p : Addr) (rs : List (List V)) : Prop := F p = none ∧ ∃ ps : List Addr, H p = some (.lst (ps.map V.ref)) ∧ Paired (fun (a : Addr) (r : List V) => F a = none ∧ H a = some (.tup r)) ps rs
theorem same_free {F H : Hp} (s : Same F H) {a : Addr} (h : H a = none) : F a = none := by
  cases e : F a with
  | none => rfl
  | some o => rw [s _ _ e] at h; cases h
theorem same_at {F H : Hp} {a : Addr} {o : HO} (s : Same F H) (h : F a = none) : Same F (upd H a o) := fun b u e => by
  rw [upd_ne (ne_of_none e h)]
  exact s b u e
theorem paired_app {α β : Type} {R : α → β → Prop} {a : α} {b : β} (h : R a b) : ∀ {l : List α} {m : List β}, Paired R l m → Paired R (l ++ [a]) (m ++ [b])
  | _, _, .nil => .cons h .nil
  | _, _, .cons r t => .cons r (paired_app h t)
theorem Rws.add {F H : Hp} {D a : Addr} {rs : List (List V)} {r : List V} (sm : Same F H) (g : Rws F H D rs) (ha : H a = none) :
    ∃ acc, H D = some (.lst acc) ∧ acc.length = rs.length ∧ Same F (upd (upd H a (.tup r)) D (.lst (acc ++ [.ref a]))) ∧ Rws F (upd (upd H a (.tup r)) D (.lst (acc ++ [.ref a]))) D (rs ++ [r]) := by
  obtain ⟨h0, ps, h1, pr⟩ := g
  have fa : F a = none := same_free sm ha
  have ne : a ≠ D := fun e => by rw [e, h1] at ha; cases ha
  refine ⟨_, h1, by rw [List.length_map, paired_len pr], same_at (same_at sm fa) h0, h0, ps ++ [a], by rw [upd_same, List.map_append] <;> rfl, paired_app ⟨fa, by rw [upd_ne ne, upd_same]⟩ (paired_imp (fun b r' ⟨u, v⟩ => ⟨u, ?_⟩) pr)⟩
  have n1 : b ≠ a := fun e => by rw [e, ha] at v; cases v
  have n2 : b ≠ D := fun e => by rw [e, h1] at v; cases v
  rw [upd_ne n2, upd_ne n1]
  exact v
theorem Rws.new {F : Hp} {D : Addr} (h : F D = none) : Rws F (upd F D (.lst [])) D [] := ⟨h, [], by rw [upd_same] <;> rfl, .nil⟩
abbrev s_place_pairs : Stmt := topS 35
abbrev N_place_pairs : List Str := ["size", "low", "high"]
theorem sc_place_pairs : FnScope N_place_pairs ["size"] (defScope s_place_pairs) := ⟨rfl, rfl, rfl, by decide +kernel, rfl, by decide +kernel, by decide +kernel⟩
theorem b_place_pairs : BindO "place_pairs" s_place_pairs ["size"] := fun _ _ _ _ _ _ us hl => match us, hl with | [_], _ => rfl

/-- the rows of one lower place -/
def ppR (n i : Nat) : List (List V) := (List.range (n - (i + 1))).map fun k => [.int (i : Int), .int ((i + 1 + k : Nat) : Int)]
def ppTo (n i : Nat) : List (List V) := (List.range i).flatMap (ppR n)
theorem ppTo_s (n i : Nat) : ppTo n (i + 1) = ppTo n i ++ ppR n i := by
  rw [ppTo, List.range_succ, List.flatMap_append, ppTo]
  simp
theorem ppTo_len (n : Nat) : ∀ i, (ppTo n i).length ≤ i * n
  | 0 => by simp [ppTo]
  | i + 1 => by
    have z := ppTo_len n i
    rw [ppTo_s, List.length_append, Nat.succ_mul]
    have : (ppR n i).length ≤ n := by rw [ppR, List.length_map, List.length_range]; omega
    omega
def sp_place_pairs : Sp := fun vs H Q _ => ∃ n : Nat, vs = [.int (n : Int)] ∧ n ≤ 100 ∧ ∀ (p : Addr) (H' : Hp), Same H H' → Rws H H' p (ppTo n n) → Q (.ref p) H'
theorem ok_place_pairs (D : Dn K mg "place_pairs" s_place_pairs) (B : Blt mg) : Cl P w K mg base 1 "place_pairs" sp_place_pairs := by
  refine cl_of D sc_place_pairs b_place_pairs (fun vs H Q E h => ?_) (fun f cdv A outer s H vs Q E hr h => ?_)
  · obtain ⟨n, rfl, _⟩ := h
    rfl
  · obtain ⟨n, rfl, hn, q⟩ := h
    refine ⟨_, (pss_one (ps_ret (pe_lcN (own := [("low", 1), ("high", 2)]) (g := gName 1) rfl sc_place_pairs.nd (pi_range1 (by rfl) B.range (pa_cons (pv 0) pa_nil)) (blkOk_by (N := N_place_pairs) (sc := defScope s_place_pairs) (own := [("low", 1), ("high", 2)]) (by decide +kernel)) (fun _ _ _ _ _ => (pg_name (i := 1) sc_place_pairs.nd rfl (Or.inl rfl))) (fun _ _ _ _ _ => pts_nil) (fun _ _ _ _ _ => by exact (ClsN.cons (vs := [2]) (pi_range2 (by rfl) B.range (pa_cons (pe_op op_add (pv 1) pe_int) (pa_cons (pv 0) pa_nil))) (pg_name (i := 2) sc_place_pairs.nd rfl (Or.inl rfl)) pts_nil (fun _ _ => rfl) (by decide) ClsN.nil)) (fun _ _ _ _ _ => (pe_tup (pa_cons (pv 1) (pa_cons (pv 2) pa_nil))))))), ?_⟩
    rw [show L2.start N_place_pairs [.int (n : Int)] = [some (.int (n : Int)), none, none] from rfl]
    simp only [tSeq, tNext, tDrop, tRet, tRetN, tIfS, tAsg, gName, tAug, ipI, tVar, tC, tOp, tUn, rI, rI0, rU, tCons, tNil, tCB, tTup, tLst, tTest, tB, tAnd, tOr, tNot, tAndV, tOrV, tNotV, tIf, tCl, tCd, tCk, gSub, rPutL, rAtQ, rIntI, rLenQ, rLenS, rListQ, rTupL, rTupQ, rIsQ_c, kd_non, kd_bl, kd_int, kd_str, kd_ref, kdO_lst, kdO_tup, kit_NoneType_bool, kit_NoneType_int, kit_NoneType_str, kit_NoneType_list, kit_NoneType_tuple, kit_bool_bool, kit_bool_int, kit_bool_str, kit_bool_list, kit_bool_tuple, kit_int_bool, kit_int_int, kit_int_str, kit_int_list, kit_int_tuple, kit_str_bool, kit_str_int, kit_str_str, kit_str_list, kit_str_tuple, kit_list_bool, kit_list_int, kit_list_str, kit_list_list, kit_list_tuple, kit_tuple_bool, kit_tuple_int, kit_tuple_str, kit_tuple_list, kit_tuple_tuple, V.ty.injEq, rSortQ, rSlQ, rMulS, tJn, rAtX, rSlS, tSl, tPart, tNoPart, cut_lo2, cut_hi2, rInQ, gLq, gTq, gC_c, gNil, tChain, List.cons_append, List.nil_append, tBL, tBL0, tBad, tCr, tCe, tXF, cxH_K, HO.xd.injEq, rApp, rPopN, rRevL, seqAt_lst, seqAt_tup, at_0, at_1, at_2, at_3, at_4, ix_0, ix_1, ix_2, ix_3, ix_4, cx_K, upd_same, List.length_cons, List.length_nil, Nat.reduceAdd,  rEq, rNe, tRevL, V.int.injEq, V.bl.injEq, V.str.injEq, V.ref.injEq, List.cons.injEq, and_true, true_and, exists_and_left, exists_and_right, exists_eq_left, exists_eq_left', exists_eq_right, exists_eq_right', exists_const, Option.some.injEq, List.getElem?_cons_zero, List.getElem?_cons_succ, List.set_cons_zero, List.set_cons_succ, decide_eq_true_eq, decide_true, decide_false,  scal_ii, scal_bb, scal_ss, cmul_r, cdiv_l, cpow_12, cpow_18, cpow_40, HO.lst.injEq, HO.tup.injEq, upd_upd, Int.reduceToNat,  decide_not, Bool.not_eq_true', decide_eq_false_iff_not, if_true, if_false, Bool.false_eq_true, Bool.true_eq_false, reduceCtorEq, Int.reduceNeg, Nat.reduceLT, Int.reduceLT, Int.reducePow, gt_iff_lt]
    refine lcN_range n (fun Q q => ?_) (by omega) (fun D i H' => Same H H' ∧ Rws H H' D (ppTo n i)) (fun D hD => ⟨same_new hD, Rws.new hD⟩) (fun _ => rfl) (fun D i H' hD hi hI => ?_) (fun D H' hD hI => q D H' hI.1 hI.2)
    · simp only [tSeq, tNext, tDrop, tRet, tRetN, tIfS, tAsg, gName, tAug, ipI, tVar, tC, tOp, tUn, rI, rI0, rU, tCons, tNil, tCB, tTup, tLst, tTest, tB, tAnd, tOr, tNot, tAndV, tOrV, tNotV, tIf, tCl, tCd, tCk, gSub, rPutL, rAtQ, rIntI, rLenQ, rLenS, rListQ, rTupL, rTupQ, rIsQ_c, kd_non, kd_bl, kd_int, kd_str, kd_ref, kdO_lst, kdO_tup, kit_NoneType_bool, kit_NoneType_int, kit_NoneType_str, kit_NoneType_list, kit_NoneType_tuple, kit_bool_bool, kit_bool_int, kit_bool_str, kit_bool_list, kit_bool_tuple, kit_int_bool, kit_int_int, kit_int_str, kit_int_list, kit_int_tuple, kit_str_bool, kit_str_int, kit_str_str, kit_str_list, kit_str_tuple, kit_list_bool, kit_list_int, kit_list_str, kit_list_list, kit_list_tuple, kit_tuple_bool, kit_tuple_int, kit_tuple_str, kit_tuple_list, kit_tuple_tuple, V.ty.injEq, rSortQ, rSlQ, rMulS, tJn, rAtX, rSlS, tSl, tPart, tNoPart, cut_lo2, cut_hi2, rInQ, gLq, gTq, gC_c, gNil, tChain, List.cons_append, List.nil_append, tBL, tBL0, tBad, tCr, tCe, tXF, cxH_K, HO.xd.injEq, rApp, rPopN, rRevL, seqAt_lst, seqAt_tup, at_0, at_1, at_2, at_3, at_4, ix_0, ix_1, ix_2, ix_3, ix_4, cx_K, upd_same, List.length_cons, List.length_nil, Nat.reduceAdd,  rEq, rNe, tRevL, V.int.injEq, V.bl.injEq, V.str.injEq, V.ref.injEq, List.cons.injEq, and_true, true_and, exists_and_left, exists_and_right, exists_eq_left, exists_eq_left', exists_eq_right, exists_eq_right', exists_const, Option.some.injEq, List.getElem?_cons_zero, List.getElem?_cons_succ, List.set_cons_zero, List.set_cons_succ, decide_eq_true_eq, decide_true, decide_false,  scal_ii, scal_bb, scal_ss, cmul_r, cdiv_l, cpow_12, cpow_18, cpow_40, HO.lst.injEq, HO.tup.injEq, upd_upd, Int.reduceToNat,  decide_not, Bool.not_eq_true', decide_eq_false_iff_not, if_true, if_false, Bool.false_eq_true, Bool.true_eq_false, reduceCtorEq, Int.reduceNeg, Nat.reduceLT, Int.reduceLT, Int.reducePow, gt_iff_lt]
      exact q
    · simp only [tSeq, tNext, tDrop, tRet, tRetN, tIfS, tAsg, gName, tAug, ipI, tVar, tC, tOp, tUn, rI, rI0, rU, tCons, tNil, tCB, tTup, tLst, tTest, tB, tAnd, tOr, tNot, tAndV, tOrV, tNotV, tIf, tCl, tCd, tCk, gSub, rPutL, rAtQ, rIntI, rLenQ, rLenS, rListQ, rTupL, rTupQ, rIsQ_c, kd_non, kd_bl, kd_int, kd_str, kd_ref, kdO_lst, kdO_tup, kit_NoneType_bool, kit_NoneType_int, kit_NoneType_str, kit_NoneType_list, kit_NoneType_tuple, kit_bool_bool, kit_bool_int, kit_bool_str, kit_bool_list, kit_bool_tuple, kit_int_bool, kit_int_int, kit_int_str, kit_int_list, kit_int_tuple, kit_str_bool, kit_str_int, kit_str_str, kit_str_list, kit_str_tuple, kit_list_bool, kit_list_int, kit_list_str, kit_list_list, kit_list_tuple, kit_tuple_bool, kit_tuple_int, kit_tuple_str, kit_tuple_list, kit_tuple_tuple, V.ty.injEq, rSortQ, rSlQ, rMulS, tJn, rAtX, rSlS, tSl, tPart, tNoPart, cut_lo2, cut_hi2, rInQ, gLq, gTq, gC_c, gNil, tChain, List.cons_append, List.nil_append, tBL, tBL0, tBad, tCr, tCe, tXF, cxH_K, HO.xd.injEq, rApp, rPopN, rRevL, seqAt_lst, seqAt_tup, at_0, at_1, at_2, at_3, at_4, ix_0, ix_1, ix_2, ix_3, ix_4, cx_K, upd_same, List.length_cons, List.length_nil, Nat.reduceAdd,  rEq, rNe, tRevL, V.int.injEq, V.bl.injEq, V.str.injEq, V.ref.injEq, List.cons.injEq, and_true, true_and, exists_and_left, exists_and_right, exists_eq_left, exists_eq_left', exists_eq_right, exists_eq_right', exists_const, Option.some.injEq, List.getElem?_cons_zero, List.getElem?_cons_succ, List.set_cons_zero, List.set_cons_succ, decide_eq_true_eq, decide_true, decide_false,  scal_ii, scal_bb, scal_ss, cmul_r, cdiv_l, cpow_12, cpow_18, cpow_40, HO.lst.injEq, HO.tup.injEq, upd_upd, Int.reduceToNat,  decide_not, Bool.not_eq_true', decide_eq_false_iff_not, if_true, if_false, Bool.false_eq_true, Bool.true_eq_false, reduceCtorEq, Int.reduceNeg, Nat.reduceLT, Int.reduceLT, Int.reducePow, gt_iff_lt, wipe, List.map_cons, List.map_nil, tYes]
      refine in_range2 ((i : Int) + 1) (n : Int) (fun Q q => ?_) ⟨by omega, by omega⟩ ⟨by omega, by omega⟩ (fun k Hx => Same H Hx ∧ Rws H Hx D (ppTo n i ++ (List.range k).map fun k => [.int (i : Int), .int ((i + 1 + k : Nat) : Int)])) ⟨hI.1, by simpa using hI.2⟩ (fun _ => rfl) (fun k Hx hk hx => ?_) (fun Hx hx => ?_)
      · simp only [tSeq, tNext, tDrop, tRet, tRetN, tIfS, tAsg, gName, tAug, ipI, tVar, tC, tOp, tUn, rI, rI0, rU, tCons, tNil, tCB, tTup, tLst, tTest, tB, tAnd, tOr, tNot, tAndV, tOrV, tNotV, tIf, tCl, tCd, tCk, gSub, rPutL, rAtQ, rIntI, rLenQ, rLenS, rListQ, rTupL, rTupQ, rIsQ_c, kd_non, kd_bl, kd_int, kd_str, kd_ref, kdO_lst, kdO_tup, kit_NoneType_bool, kit_NoneType_int, kit_NoneType_str, kit_NoneType_list, kit_NoneType_tuple, kit_bool_bool, kit_bool_int, kit_bool_str, kit_bool_list, kit_bool_tuple, kit_int_bool, kit_int_int, kit_int_str, kit_int_list, kit_int_tuple, kit_str_bool, kit_str_int, kit_str_str, kit_str_list, kit_str_tuple, kit_list_bool, kit_list_int, kit_list_str, kit_list_list, kit_list_tuple, kit_tuple_bool, kit_tuple_int, kit_tuple_str, kit_tuple_list, kit_tuple_tuple, V.ty.injEq, rSortQ, rSlQ, rMulS, tJn, rAtX, rSlS, tSl, tPart, tNoPart, cut_lo2, cut_hi2, rInQ, gLq, gTq, gC_c, gNil, tChain, List.cons_append, List.nil_append, tBL, tBL0, tBad, tCr, tCe, tXF, cxH_K, HO.xd.injEq, rApp, rPopN, rRevL, seqAt_lst, seqAt_tup, at_0, at_1, at_2, at_3, at_4, ix_0, ix_1, ix_2, ix_3, ix_4, cx_K, upd_same, List.length_cons, List.length_nil, Nat.reduceAdd,  rEq, rNe, tRevL, V.int.injEq, V.bl.injEq, V.str.injEq, V.ref.injEq, List.cons.injEq, and_true, true_and, exists_and_left, exists_and_right, exists_eq_left, exists_eq_left', exists_eq_right, exists_eq_right', exists_const, Option.some.injEq, List.getElem?_cons_zero, List.getElem?_cons_succ, List.set_cons_zero, List.set_cons_succ, decide_eq_true_eq, decide_true, decide_false,  scal_ii, scal_bb, scal_ss, cmul_r, cdiv_l, cpow_12, cpow_18, cpow_40, HO.lst.injEq, HO.tup.injEq, upd_upd, Int.reduceToNat,  decide_not, Bool.not_eq_true', decide_eq_false_iff_not, if_true, if_false, Bool.false_eq_true, Bool.true_eq_false, reduceCtorEq, Int.reduceNeg, Nat.reduceLT, Int.reduceLT, Int.reducePow, gt_iff_lt]
        exact q
      · simp only [tSeq, tNext, tDrop, tRet, tRetN, tIfS, tAsg, gName, tAug, ipI, tVar, tC, tOp, tUn, rI, rI0, rU, tCons, tNil, tCB, tTup, tLst, tTest, tB, tAnd, tOr, tNot, tAndV, tOrV, tNotV, tIf, tCl, tCd, tCk, gSub, rPutL, rAtQ, rIntI, rLenQ, rLenS, rListQ, rTupL, rTupQ, rIsQ_c, kd_non, kd_bl, kd_int, kd_str, kd_ref, kdO_lst, kdO_tup, kit_NoneType_bool, kit_NoneType_int, kit_NoneType_str, kit_NoneType_list, kit_NoneType_tuple, kit_bool_bool, kit_bool_int, kit_bool_str, kit_bool_list, kit_bool_tuple, kit_int_bool, kit_int_int, kit_int_str, kit_int_list, kit_int_tuple, kit_str_bool, kit_str_int, kit_str_str, kit_str_list, kit_str_tuple, kit_list_bool, kit_list_int, kit_list_str, kit_list_list, kit_list_tuple, kit_tuple_bool, kit_tuple_int, kit_tuple_str, kit_tuple_list, kit_tuple_tuple, V.ty.injEq, rSortQ, rSlQ, rMulS, tJn, rAtX, rSlS, tSl, tPart, tNoPart, cut_lo2, cut_hi2, rInQ, gLq, gTq, gC_c, gNil, tChain, List.cons_append, List.nil_append, tBL, tBL0, tBad, tCr, tCe, tXF, cxH_K, HO.xd.injEq, rApp, rPopN, rRevL, seqAt_lst, seqAt_tup, at_0, at_1, at_2, at_3, at_4, ix_0, ix_1, ix_2, ix_3, ix_4, cx_K, upd_same, List.length_cons, List.length_nil, Nat.reduceAdd,  rEq, rNe, tRevL, V.int.injEq, V.bl.injEq, V.str.injEq, V.ref.injEq, List.cons.injEq, and_true, true_and, exists_and_left, exists_and_right, exists_eq_left, exists_eq_left', exists_eq_right, exists_eq_right', exists_const, Option.some.injEq, List.getElem?_cons_zero, List.getElem?_cons_succ, List.set_cons_zero, List.set_cons_succ, decide_eq_true_eq, decide_true, decide_false,  scal_ii, scal_bb, scal_ss, cmul_r, cdiv_l, cpow_12, cpow_18, cpow_40, HO.lst.injEq, HO.tup.injEq, upd_upd, Int.reduceToNat,  decide_not, Bool.not_eq_true', decide_eq_false_iff_not, if_true, if_false, Bool.false_eq_true, Bool.true_eq_false, reduceCtorEq, Int.reduceNeg, Nat.reduceLT, Int.reduceLT, Int.reducePow, gt_iff_lt, tIn, wipe, List.map_cons, List.map_nil, tYes]
        refine ⟨sz_of (by decide), fun a ha => ?_⟩
        obtain ⟨acc, e1, e2, e3, e4⟩ := Rws.add (r := [.int (i : Int), .int ((i : Int) + 1 + (k : Int))]) hx.1 hx.2 ha
        have hD' : a ≠ D := fun e => by rw [e, e1] at ha; cases ha
        refine ⟨acc, by rw [upd_ne hD'.symm]; exact e1, ?_, e3, ?_⟩
        · rw [e2, List.length_append, List.length_map, List.length_range]
          have z := ppTo_len n i
          have : i * n ≤ 100 * 100 := Nat.mul_le_mul (by omega) hn
          exact sz_lt (by omega)
        · rw [List.range_succ, List.map_append, ← List.append_assoc]
          simpa using e4
      · rw [show ((n : Int) - ((i : Int) + 1)).toNat = n - (i + 1) by omega] at hx
        rw [ppTo_s]
        exact hx
end
end Z
set_option Elab.async false
set_option linter.all false
set_option maxRecDepth 100000
set_option maxHeartbeats 4000000
namespace Z
open PySem PySem.Spec PyProof.Rows L2 L2H
section
variable {P : Program} {w : World} {K : PySem.W.Frag} {mg : Str → Option Value} {base : Heap}
theorem take_fm {α β : Type} {l : List α} {k : Nat} {x : α} (f : α → List β) (e : l[k]? = some x) : (l.take (k + 1)).flatMap f = (l.take k).flatMap f ++ f x := by
  rw [List.take_succ, e]
  simp
theorem fm_len {α β : Type} (f : α → List β) (m : Nat) (h : ∀ x, (f x).length ≤ m) : ∀ l : List α, (l.flatMap f).length ≤ l.length * m
  | [] => by simp
  | x :: l => by
    have z := fm_len f m h l
    have y := h x
    rw [List.flatMap_cons, List.length_append, List.length_cons, Nat.succ_mul]
    omega
theorem take_le {α : Type} (l : List α) (k m : Nat) (h : l.length ≤ m) : (l.take k).length ≤ m := Nat.le_trans (List.length_take_le' ..) h
theorem int_at {xs : List Int} {i : Nat} {x : V} (e : (xs.map V.int)[i]? = some x) : ∃ a, xs[i]? = some a ∧ x = .int a := by
  rw [List.getElem?_map] at e
  cases h : xs[i]? with
  | none => rw [h] at e; cases e
  | some a => rw [h] at e; cases e; exact ⟨a, rfl, rfl⟩
def cf4 (a b c d : Int) : List (List V) := if c < d then [[.int a, .int b, .int c, .int d]] else []
def cf3 (a b : Int) (ys : List Int) (c : Int) : List (List V) := if b < c then ys.flatMap (cf4 a b c) else []
def cf2 (a : Int) (xs ys : List Int) (b : Int) : List (List V) := if a < b then xs.flatMap (cf3 a b ys) else []
def cf1 (xs ys : List Int) (a : Int) : List (List V) := ys.flatMap (cf2 a xs ys)
def cfs (xs ys : List Int) : List (List V) := xs.flatMap (cf1 xs ys)
theorem cf4_len (a b c d : Int) : (cf4 a b c d).length ≤ 1 := by unfold cf4; split <;> simp
theorem cf3_len {ys : List Int} (h : ys.length ≤ 10) (a b c : Int) : (cf3 a b ys c).length ≤ 10 := by
  unfold cf3
  split
  · exact Nat.le_trans (fm_len _ 1 (cf4_len a b c) ys) (by omega)
  · exact Nat.zero_le _
theorem cf2_len {xs ys : List Int} (hx : xs.length ≤ 10) (h : ys.length ≤ 10) (a b : Int) : (cf2 a xs ys b).length ≤ 100 := by
  unfold cf2
  split
  · exact Nat.le_trans (fm_len _ 10 (cf3_len h a b) xs) (by omega)
  · exact Nat.zero_le _
theorem cf1_len {xs ys : List Int} (hx : xs.length ≤ 10) (h : ys.length ≤ 10) (a : Int) : (cf1 xs ys a).length ≤ 1000 := Nat.le_trans (fm_len _ 100 (cf2_len hx h a) ys) (by omega)
theorem cfs_len {xs ys : List Int} (hx : xs.length ≤ 10) (h : ys.length ≤ 10) : (cfs xs ys).length ≤ 10000 := Nat.le_trans (fm_len _ 1000 (cf1_len hx h) xs) (by omega)
abbrev s_crossings_from : Stmt := topS 37
abbrev N_crossings_from : List Str := ["one", "two", "a", "b", "c", "d"]
theorem sc_crossings_from : FnScope N_crossings_from ["one", "two"] (defScope s_crossings_from) := ⟨rfl, rfl, rfl, by decide +kernel, rfl, by decide +kernel, by decide +kernel⟩
theorem b_crossings_from : BindO "crossings_from" s_crossings_from ["one", "two"] := fun _ _ _ _ _ _ us hl => match us, hl with | [_, _], _ => rfl

def sp_crossings_from : Sp := fun vs H Q _ => ∃ (p q : Addr) (xs ys : List Int), vs = [.ref p, .ref q] ∧ H p = some (.lst (xs.map V.int)) ∧ H q = some (.lst (ys.map V.int)) ∧ xs.length ≤ 10 ∧ ys.length ≤ 10 ∧ ∀ (r : Addr) (H' : Hp), Same H H' → Rws H H' r (cfs xs ys) → Q (.ref r) H'
theorem ok_crossings_from (D : Dn K mg "crossings_from" s_crossings_from) (B : Blt mg) : Cl P w K mg base 1 "crossings_from" sp_crossings_from := by
  refine cl_of D sc_crossings_from b_crossings_from (fun vs H Q E h => ?_) (fun f cdv A outer s H vs Q E hr h => ?_)
  · obtain ⟨p, q, xs, ys, rfl, _⟩ := h
    rfl
  · obtain ⟨p, q, xs, ys, rfl, hp, hq, hx, hy, k⟩ := h
    refine ⟨_, (pss_one (ps_ret (pe_lcN (own := [("a", 2), ("b", 3), ("c", 4), ("d", 5)]) (g := gName 2) rfl sc_crossings_from.nd (pi_list (pv 0)) (blkOk_by (N := N_crossings_from) (sc := defScope s_crossings_from) (own := [("a", 2), ("b", 3), ("c", 4), ("d", 5)]) (by decide +kernel)) (fun _ _ _ _ _ => (pg_name (i := 2) sc_crossings_from.nd rfl (Or.inl rfl))) (fun _ _ _ _ _ => pts_nil) (fun _ _ _ _ _ => by exact (ClsN.cons (vs := [3, 4, 5]) (pi_listK K (pv 1)) (pg_name (i := 3) sc_crossings_from.nd rfl (Or.inl rfl)) (pts_one (pt_cmpR op_lt (pv 2) (pv 3) (nomark _))) (fun _ _ => rfl) (by decide) (ClsN.cons (vs := [4, 5]) (pi_listK K (pv 0)) (pg_name (i := 4) sc_crossings_from.nd rfl (Or.inl rfl)) (pts_one (pt_cmpR op_lt (pv 3) (pv 4) (nomark _))) (fun _ _ => rfl) (by decide) (ClsN.cons (vs := [5]) (pi_listK K (pv 1)) (pg_name (i := 5) sc_crossings_from.nd rfl (Or.inl rfl)) (pts_one (pt_cmpR op_lt (pv 4) (pv 5) (nomark _))) (fun _ _ => rfl) (by decide) ClsN.nil)))) (fun _ _ _ _ _ => (pe_tup (pa_cons (pv 2) (pa_cons (pv 3) (pa_cons (pv 4) (pa_cons (pv 5) pa_nil))))))))), ?_⟩
    rw [show L2.start N_crossings_from [.ref p, .ref q] = [some (.ref p), some (.ref q), none, none, none, none] from rfl]
    simp only [tSeq, tNext, tDrop, tRet, tRetN, tIfS, tAsg, gName, tAug, ipI, tVar, tC, tOp, tUn, rI, rI0, rU, tCons, tNil, tCB, tTup, tLst, tTest, tB, tAnd, tOr, tNot, tAndV, tOrV, tNotV, tIf, tCl, tCd, tCk, gSub, rPutL, rAtQ, rIntI, rLenQ, rLenS, rListQ, rTupL, rTupQ, rIsQ_c, kd_non, kd_bl, kd_int, kd_str, kd_ref, kdO_lst, kdO_tup, kit_NoneType_bool, kit_NoneType_int, kit_NoneType_str, kit_NoneType_list, kit_NoneType_tuple, kit_bool_bool, kit_bool_int, kit_bool_str, kit_bool_list, kit_bool_tuple, kit_int_bool, kit_int_int, kit_int_str, kit_int_list, kit_int_tuple, kit_str_bool, kit_str_int, kit_str_str, kit_str_list, kit_str_tuple, kit_list_bool, kit_list_int, kit_list_str, kit_list_list, kit_list_tuple, kit_tuple_bool, kit_tuple_int, kit_tuple_str, kit_tuple_list, kit_tuple_tuple, V.ty.injEq, rSortQ, rSlQ, rMulS, tJn, rAtX, rSlS, tSl, tPart, tNoPart, cut_lo2, cut_hi2, rInQ, gLq, gTq, gC_c, gNil, tChain, List.cons_append, List.nil_append, tBL, tBL0, tBad, tCr, tCe, tXF, cxH_K, HO.xd.injEq, rApp, rPopN, rRevL, seqAt_lst, seqAt_tup, at_0, at_1, at_2, at_3, at_4, ix_0, ix_1, ix_2, ix_3, ix_4, cx_K, upd_same, List.length_cons, List.length_nil, Nat.reduceAdd,  rEq, rNe, tRevL, V.int.injEq, V.bl.injEq, V.str.injEq, V.ref.injEq, List.cons.injEq, and_true, true_and, exists_and_left, exists_and_right, exists_eq_left, exists_eq_left', exists_eq_right, exists_eq_right', exists_const, Option.some.injEq, List.getElem?_cons_zero, List.getElem?_cons_succ, List.set_cons_zero, List.set_cons_succ, decide_eq_true_eq, decide_true, decide_false,  scal_ii, scal_bb, scal_ss, cmul_r, cdiv_l, cpow_12, cpow_18, cpow_40, HO.lst.injEq, HO.tup.injEq, upd_upd, Int.reduceToNat,  decide_not, Bool.not_eq_true', decide_eq_false_iff_not, if_true, if_false, Bool.false_eq_true, Bool.true_eq_false, reduceCtorEq, Int.reduceNeg, Nat.reduceLT, Int.reduceLT, Int.reducePow, gt_iff_lt]
    refine lcN_list p (xs.map V.int) (fun Q q => ?_) (SqL.of hp) (fun D i H' => Same H H' ∧ Rws H H' D ((xs.take i).flatMap (cf1 xs ys))) (fun D hD => ⟨same_new hD, Rws.new hD⟩) (fun _ => rfl) (fun D i H' hD hI => SqL.of (hI.1 _ _ hp)) (fun D i x H' hD hi hI => ?_) (fun D H' hD hI => ?_)
    · simp only [tSeq, tNext, tDrop, tRet, tRetN, tIfS, tAsg, gName, tAug, ipI, tVar, tC, tOp, tUn, rI, rI0, rU, tCons, tNil, tCB, tTup, tLst, tTest, tB, tAnd, tOr, tNot, tAndV, tOrV, tNotV, tIf, tCl, tCd, tCk, gSub, rPutL, rAtQ, rIntI, rLenQ, rLenS, rListQ, rTupL, rTupQ, rIsQ_c, kd_non, kd_bl, kd_int, kd_str, kd_ref, kdO_lst, kdO_tup, kit_NoneType_bool, kit_NoneType_int, kit_NoneType_str, kit_NoneType_list, kit_NoneType_tuple, kit_bool_bool, kit_bool_int, kit_bool_str, kit_bool_list, kit_bool_tuple, kit_int_bool, kit_int_int, kit_int_str, kit_int_list, kit_int_tuple, kit_str_bool, kit_str_int, kit_str_str, kit_str_list, kit_str_tuple, kit_list_bool, kit_list_int, kit_list_str, kit_list_list, kit_list_tuple, kit_tuple_bool, kit_tuple_int, kit_tuple_str, kit_tuple_list, kit_tuple_tuple, V.ty.injEq, rSortQ, rSlQ, rMulS, tJn, rAtX, rSlS, tSl, tPart, tNoPart, cut_lo2, cut_hi2, rInQ, gLq, gTq, gC_c, gNil, tChain, List.cons_append, List.nil_append, tBL, tBL0, tBad, tCr, tCe, tXF, cxH_K, HO.xd.injEq, rApp, rPopN, rRevL, seqAt_lst, seqAt_tup, at_0, at_1, at_2, at_3, at_4, ix_0, ix_1, ix_2, ix_3, ix_4, cx_K, upd_same, List.length_cons, List.length_nil, Nat.reduceAdd,  rEq, rNe, tRevL, V.int.injEq, V.bl.injEq, V.str.injEq, V.ref.injEq, List.cons.injEq, and_true, true_and, exists_and_left, exists_and_right, exists_eq_left, exists_eq_left', exists_eq_right, exists_eq_right', exists_const, Option.some.injEq, List.getElem?_cons_zero, List.getElem?_cons_succ, List.set_cons_zero, List.set_cons_succ, decide_eq_true_eq, decide_true, decide_false,  scal_ii, scal_bb, scal_ss, cmul_r, cdiv_l, cpow_12, cpow_18, cpow_40, HO.lst.injEq, HO.tup.injEq, upd_upd, Int.reduceToNat,  decide_not, Bool.not_eq_true', decide_eq_false_iff_not, if_true, if_false, Bool.false_eq_true, Bool.true_eq_false, reduceCtorEq, Int.reduceNeg, Nat.reduceLT, Int.reduceLT, Int.reducePow, gt_iff_lt]
      exact q
    · obtain ⟨a, ea, rfl⟩ := int_at hi
      simp only [tSeq, tNext, tDrop, tRet, tRetN, tIfS, tAsg, gName, tAug, ipI, tVar, tC, tOp, tUn, rI, rI0, rU, tCons, tNil, tCB, tTup, tLst, tTest, tB, tAnd, tOr, tNot, tAndV, tOrV, tNotV, tIf, tCl, tCd, tCk, gSub, rPutL, rAtQ, rIntI, rLenQ, rLenS, rListQ, rTupL, rTupQ, rIsQ_c, kd_non, kd_bl, kd_int, kd_str, kd_ref, kdO_lst, kdO_tup, kit_NoneType_bool, kit_NoneType_int, kit_NoneType_str, kit_NoneType_list, kit_NoneType_tuple, kit_bool_bool, kit_bool_int, kit_bool_str, kit_bool_list, kit_bool_tuple, kit_int_bool, kit_int_int, kit_int_str, kit_int_list, kit_int_tuple, kit_str_bool, kit_str_int, kit_str_str, kit_str_list, kit_str_tuple, kit_list_bool, kit_list_int, kit_list_str, kit_list_list, kit_list_tuple, kit_tuple_bool, kit_tuple_int, kit_tuple_str, kit_tuple_list, kit_tuple_tuple, V.ty.injEq, rSortQ, rSlQ, rMulS, tJn, rAtX, rSlS, tSl, tPart, tNoPart, cut_lo2, cut_hi2, rInQ, gLq, gTq, gC_c, gNil, tChain, List.cons_append, List.nil_append, tBL, tBL0, tBad, tCr, tCe, tXF, cxH_K, HO.xd.injEq, rApp, rPopN, rRevL, seqAt_lst, seqAt_tup, at_0, at_1, at_2, at_3, at_4, ix_0, ix_1, ix_2, ix_3, ix_4, cx_K, upd_same, List.length_cons, List.length_nil, Nat.reduceAdd,  rEq, rNe, tRevL, V.int.injEq, V.bl.injEq, V.str.injEq, V.ref.injEq, List.cons.injEq, and_true, true_and, exists_and_left, exists_and_right, exists_eq_left, exists_eq_left', exists_eq_right, exists_eq_right', exists_const, Option.some.injEq, List.getElem?_cons_zero, List.getElem?_cons_succ, List.set_cons_zero, List.set_cons_succ, decide_eq_true_eq, decide_true, decide_false,  scal_ii, scal_bb, scal_ss, cmul_r, cdiv_l, cpow_12, cpow_18, cpow_40, HO.lst.injEq, HO.tup.injEq, upd_upd, Int.reduceToNat,  decide_not, Bool.not_eq_true', decide_eq_false_iff_not, if_true, if_false, Bool.false_eq_true, Bool.true_eq_false, reduceCtorEq, Int.reduceNeg, Nat.reduceLT, Int.reduceLT, Int.reducePow, gt_iff_lt, wipe, List.map_cons, List.map_nil, tYes]
      refine in_list q (ys.map V.int) (fun Q q => ?_) (SqL.of (hI.1 _ _ hq)) (fun j Hx => Same H Hx ∧ Rws H Hx D ((xs.take i).flatMap (cf1 xs ys) ++ (ys.take j).flatMap (cf2 a xs ys))) ⟨hI.1, by simpa using hI.2⟩ (fun _ => rfl) (fun j Hx h => SqL.of (h.1 _ _ hq)) (fun j x H2 hj h2 => ?_) (fun H2 h2 => ?_)
      · simp only [tSeq, tNext, tDrop, tRet, tRetN, tIfS, tAsg, gName, tAug, ipI, tVar, tC, tOp, tUn, rI, rI0, rU, tCons, tNil, tCB, tTup, tLst, tTest, tB, tAnd, tOr, tNot, tAndV, tOrV, tNotV, tIf, tCl, tCd, tCk, gSub, rPutL, rAtQ, rIntI, rLenQ, rLenS, rListQ, rTupL, rTupQ, rIsQ_c, kd_non, kd_bl, kd_int, kd_str, kd_ref, kdO_lst, kdO_tup, kit_NoneType_bool, kit_NoneType_int, kit_NoneType_str, kit_NoneType_list, kit_NoneType_tuple, kit_bool_bool, kit_bool_int, kit_bool_str, kit_bool_list, kit_bool_tuple, kit_int_bool, kit_int_int, kit_int_str, kit_int_list, kit_int_tuple, kit_str_bool, kit_str_int, kit_str_str, kit_str_list, kit_str_tuple, kit_list_bool, kit_list_int, kit_list_str, kit_list_list, kit_list_tuple, kit_tuple_bool, kit_tuple_int, kit_tuple_str, kit_tuple_list, kit_tuple_tuple, V.ty.injEq, rSortQ, rSlQ, rMulS, tJn, rAtX, rSlS, tSl, tPart, tNoPart, cut_lo2, cut_hi2, rInQ, gLq, gTq, gC_c, gNil, tChain, List.cons_append, List.nil_append, tBL, tBL0, tBad, tCr, tCe, tXF, cxH_K, HO.xd.injEq, rApp, rPopN, rRevL, seqAt_lst, seqAt_tup, at_0, at_1, at_2, at_3, at_4, ix_0, ix_1, ix_2, ix_3, ix_4, cx_K, upd_same, List.length_cons, List.length_nil, Nat.reduceAdd,  rEq, rNe, tRevL, V.int.injEq, V.bl.injEq, V.str.injEq, V.ref.injEq, List.cons.injEq, and_true, true_and, exists_and_left, exists_and_right, exists_eq_left, exists_eq_left', exists_eq_right, exists_eq_right', exists_const, Option.some.injEq, List.getElem?_cons_zero, List.getElem?_cons_succ, List.set_cons_zero, List.set_cons_succ, decide_eq_true_eq, decide_true, decide_false,  scal_ii, scal_bb, scal_ss, cmul_r, cdiv_l, cpow_12, cpow_18, cpow_40, HO.lst.injEq, HO.tup.injEq, upd_upd, Int.reduceToNat,  decide_not, Bool.not_eq_true', decide_eq_false_iff_not, if_true, if_false, Bool.false_eq_true, Bool.true_eq_false, reduceCtorEq, Int.reduceNeg, Nat.reduceLT, Int.reduceLT, Int.reducePow, gt_iff_lt]
        exact q
      · obtain ⟨b, eb, rfl⟩ := int_at hj
        simp only [tSeq, tNext, tDrop, tRet, tRetN, tIfS, tAsg, gName, tAug, ipI, tVar, tC, tOp, tUn, rI, rI0, rU, tCons, tNil, tCB, tTup, tLst, tTest, tB, tAnd, tOr, tNot, tAndV, tOrV, tNotV, tIf, tCl, tCd, tCk, gSub, rPutL, rAtQ, rIntI, rLenQ, rLenS, rListQ, rTupL, rTupQ, rIsQ_c, kd_non, kd_bl, kd_int, kd_str, kd_ref, kdO_lst, kdO_tup, kit_NoneType_bool, kit_NoneType_int, kit_NoneType_str, kit_NoneType_list, kit_NoneType_tuple, kit_bool_bool, kit_bool_int, kit_bool_str, kit_bool_list, kit_bool_tuple, kit_int_bool, kit_int_int, kit_int_str, kit_int_list, kit_int_tuple, kit_str_bool, kit_str_int, kit_str_str, kit_str_list, kit_str_tuple, kit_list_bool, kit_list_int, kit_list_str, kit_list_list, kit_list_tuple, kit_tuple_bool, kit_tuple_int, kit_tuple_str, kit_tuple_list, kit_tuple_tuple, V.ty.injEq, rSortQ, rSlQ, rMulS, tJn, rAtX, rSlS, tSl, tPart, tNoPart, cut_lo2, cut_hi2, rInQ, gLq, gTq, gC_c, gNil, tChain, List.cons_append, List.nil_append, tBL, tBL0, tBad, tCr, tCe, tXF, cxH_K, HO.xd.injEq, rApp, rPopN, rRevL, seqAt_lst, seqAt_tup, at_0, at_1, at_2, at_3, at_4, ix_0, ix_1, ix_2, ix_3, ix_4, cx_K, upd_same, List.length_cons, List.length_nil, Nat.reduceAdd,  rEq, rNe, tRevL, V.int.injEq, V.bl.injEq, V.str.injEq, V.ref.injEq, List.cons.injEq, and_true, true_and, exists_and_left, exists_and_right, exists_eq_left, exists_eq_left', exists_eq_right, exists_eq_right', exists_const, Option.some.injEq, List.getElem?_cons_zero, List.getElem?_cons_succ, List.set_cons_zero, List.set_cons_succ, decide_eq_true_eq, decide_true, decide_false,  scal_ii, scal_bb, scal_ss, cmul_r, cdiv_l, cpow_12, cpow_18, cpow_40, HO.lst.injEq, HO.tup.injEq, upd_upd, Int.reduceToNat,  decide_not, Bool.not_eq_true', decide_eq_false_iff_not, if_true, if_false, Bool.false_eq_true, Bool.true_eq_false, reduceCtorEq, Int.reduceNeg, Nat.reduceLT, Int.reduceLT, Int.reducePow, gt_iff_lt, wipe, List.map_cons, List.map_nil, tYes]
        split
        · rename_i lt1
          refine in_list p (xs.map V.int) (fun Q q => ?_) (SqL.of (h2.1 _ _ hp)) (fun l Hx => Same H Hx ∧ Rws H Hx D ((xs.take i).flatMap (cf1 xs ys) ++ (ys.take j).flatMap (cf2 a xs ys) ++ (xs.take l).flatMap (cf3 a b ys))) ⟨h2.1, by simpa using h2.2⟩ (fun _ => rfl) (fun l Hx h => SqL.of (h.1 _ _ hp)) (fun l x H3 hl h3 => ?_) (fun H3 h3 => ?_)
          · simp only [tSeq, tNext, tDrop, tRet, tRetN, tIfS, tAsg, gName, tAug, ipI, tVar, tC, tOp, tUn, rI, rI0, rU, tCons, tNil, tCB, tTup, tLst, tTest, tB, tAnd, tOr, tNot, tAndV, tOrV, tNotV, tIf, tCl, tCd, tCk, gSub, rPutL, rAtQ, rIntI, rLenQ, rLenS, rListQ, rTupL, rTupQ, rIsQ_c, kd_non, kd_bl, kd_int, kd_str, kd_ref, kdO_lst, kdO_tup, kit_NoneType_bool, kit_NoneType_int, kit_NoneType_str, kit_NoneType_list, kit_NoneType_tuple, kit_bool_bool, kit_bool_int, kit_bool_str, kit_bool_list, kit_bool_tuple, kit_int_bool, kit_int_int, kit_int_str, kit_int_list, kit_int_tuple, kit_str_bool, kit_str_int, kit_str_str, kit_str_list, kit_str_tuple, kit_list_bool, kit_list_int, kit_list_str, kit_list_list, kit_list_tuple, kit_tuple_bool, kit_tuple_int, kit_tuple_str, kit_tuple_list, kit_tuple_tuple, V.ty.injEq, rSortQ, rSlQ, rMulS, tJn, rAtX, rSlS, tSl, tPart, tNoPart, cut_lo2, cut_hi2, rInQ, gLq, gTq, gC_c, gNil, tChain, List.cons_append, List.nil_append, tBL, tBL0, tBad, tCr, tCe, tXF, cxH_K, HO.xd.injEq, rApp, rPopN, rRevL, seqAt_lst, seqAt_tup, at_0, at_1, at_2, at_3, at_4, ix_0, ix_1, ix_2, ix_3, ix_4, cx_K, upd_same, List.length_cons, List.length_nil, Nat.reduceAdd,  rEq, rNe, tRevL, V.int.injEq, V.bl.injEq, V.str.injEq, V.ref.injEq, List.cons.injEq, and_true, true_and, exists_and_left, exists_and_right, exists_eq_left, exists_eq_left', exists_eq_right, exists_eq_right', exists_const, Option.some.injEq, List.getElem?_cons_zero, List.getElem?_cons_succ, List.set_cons_zero, List.set_cons_succ, decide_eq_true_eq, decide_true, decide_false,  scal_ii, scal_bb, scal_ss, cmul_r, cdiv_l, cpow_12, cpow_18, cpow_40, HO.lst.injEq, HO.tup.injEq, upd_upd, Int.reduceToNat,  decide_not, Bool.not_eq_true', decide_eq_false_iff_not, if_true, if_false, Bool.false_eq_true, Bool.true_eq_false, reduceCtorEq, Int.reduceNeg, Nat.reduceLT, Int.reduceLT, Int.reducePow, gt_iff_lt]
            exact q
          · obtain ⟨c, ec, rfl⟩ := int_at hl
            simp only [tSeq, tNext, tDrop, tRet, tRetN, tIfS, tAsg, gName, tAug, ipI, tVar, tC, tOp, tUn, rI, rI0, rU, tCons, tNil, tCB, tTup, tLst, tTest, tB, tAnd, tOr, tNot, tAndV, tOrV, tNotV, tIf, tCl, tCd, tCk, gSub, rPutL, rAtQ, rIntI, rLenQ, rLenS, rListQ, rTupL, rTupQ, rIsQ_c, kd_non, kd_bl, kd_int, kd_str, kd_ref, kdO_lst, kdO_tup, kit_NoneType_bool, kit_NoneType_int, kit_NoneType_str, kit_NoneType_list, kit_NoneType_tuple, kit_bool_bool, kit_bool_int, kit_bool_str, kit_bool_list, kit_bool_tuple, kit_int_bool, kit_int_int, kit_int_str, kit_int_list, kit_int_tuple, kit_str_bool, kit_str_int, kit_str_str, kit_str_list, kit_str_tuple, kit_list_bool, kit_list_int, kit_list_str, kit_list_list, kit_list_tuple, kit_tuple_bool, kit_tuple_int, kit_tuple_str, kit_tuple_list, kit_tuple_tuple, V.ty.injEq, rSortQ, rSlQ, rMulS, tJn, rAtX, rSlS, tSl, tPart, tNoPart, cut_lo2, cut_hi2, rInQ, gLq, gTq, gC_c, gNil, tChain, List.cons_append, List.nil_append, tBL, tBL0, tBad, tCr, tCe, tXF, cxH_K, HO.xd.injEq, rApp, rPopN, rRevL, seqAt_lst, seqAt_tup, at_0, at_1, at_2, at_3, at_4, ix_0, ix_1, ix_2, ix_3, ix_4, cx_K, upd_same, List.length_cons, List.length_nil, Nat.reduceAdd,  rEq, rNe, tRevL, V.int.injEq, V.bl.injEq, V.str.injEq, V.ref.injEq, List.cons.injEq, and_true, true_and, exists_and_left, exists_and_right, exists_eq_left, exists_eq_left', exists_eq_right, exists_eq_right', exists_const, Option.some.injEq, List.getElem?_cons_zero, List.getElem?_cons_succ, List.set_cons_zero, List.set_cons_succ, decide_eq_true_eq, decide_true, decide_false,  scal_ii, scal_bb, scal_ss, cmul_r, cdiv_l, cpow_12, cpow_18, cpow_40, HO.lst.injEq, HO.tup.injEq, upd_upd, Int.reduceToNat,  decide_not, Bool.not_eq_true', decide_eq_false_iff_not, if_true, if_false, Bool.false_eq_true, Bool.true_eq_false, reduceCtorEq, Int.reduceNeg, Nat.reduceLT, Int.reduceLT, Int.reducePow, gt_iff_lt, wipe, List.map_cons, List.map_nil, tYes]
            split
            · rename_i lt2
              refine in_list q (ys.map V.int) (fun Q q => ?_) (SqL.of (h3.1 _ _ hq)) (fun m Hx => Same H Hx ∧ Rws H Hx D ((xs.take i).flatMap (cf1 xs ys) ++ (ys.take j).flatMap (cf2 a xs ys) ++ (xs.take l).flatMap (cf3 a b ys) ++ (ys.take m).flatMap (cf4 a b c))) ⟨h3.1, by simpa using h3.2⟩ (fun _ => rfl) (fun m Hx h => SqL.of (h.1 _ _ hq)) (fun m x H4 hm h4 => ?_) (fun H4 h4 => ?_)
              · simp only [tSeq, tNext, tDrop, tRet, tRetN, tIfS, tAsg, gName, tAug, ipI, tVar, tC, tOp, tUn, rI, rI0, rU, tCons, tNil, tCB, tTup, tLst, tTest, tB, tAnd, tOr, tNot, tAndV, tOrV, tNotV, tIf, tCl, tCd, tCk, gSub, rPutL, rAtQ, rIntI, rLenQ, rLenS, rListQ, rTupL, rTupQ, rIsQ_c, kd_non, kd_bl, kd_int, kd_str, kd_ref, kdO_lst, kdO_tup, kit_NoneType_bool, kit_NoneType_int, kit_NoneType_str, kit_NoneType_list, kit_NoneType_tuple, kit_bool_bool, kit_bool_int, kit_bool_str, kit_bool_list, kit_bool_tuple, kit_int_bool, kit_int_int, kit_int_str, kit_int_list, kit_int_tuple, kit_str_bool, kit_str_int, kit_str_str, kit_str_list, kit_str_tuple, kit_list_bool, kit_list_int, kit_list_str, kit_list_list, kit_list_tuple, kit_tuple_bool, kit_tuple_int, kit_tuple_str, kit_tuple_list, kit_tuple_tuple, V.ty.injEq, rSortQ, rSlQ, rMulS, tJn, rAtX, rSlS, tSl, tPart, tNoPart, cut_lo2, cut_hi2, rInQ, gLq, gTq, gC_c, gNil, tChain, List.cons_append, List.nil_append, tBL, tBL0, tBad, tCr, tCe, tXF, cxH_K, HO.xd.injEq, rApp, rPopN, rRevL, seqAt_lst, seqAt_tup, at_0, at_1, at_2, at_3, at_4, ix_0, ix_1, ix_2, ix_3, ix_4, cx_K, upd_same, List.length_cons, List.length_nil, Nat.reduceAdd,  rEq, rNe, tRevL, V.int.injEq, V.bl.injEq, V.str.injEq, V.ref.injEq, List.cons.injEq, and_true, true_and, exists_and_left, exists_and_right, exists_eq_left, exists_eq_left', exists_eq_right, exists_eq_right', exists_const, Option.some.injEq, List.getElem?_cons_zero, List.getElem?_cons_succ, List.set_cons_zero, List.set_cons_succ, decide_eq_true_eq, decide_true, decide_false,  scal_ii, scal_bb, scal_ss, cmul_r, cdiv_l, cpow_12, cpow_18, cpow_40, HO.lst.injEq, HO.tup.injEq, upd_upd, Int.reduceToNat,  decide_not, Bool.not_eq_true', decide_eq_false_iff_not, if_true, if_false, Bool.false_eq_true, Bool.true_eq_false, reduceCtorEq, Int.reduceNeg, Nat.reduceLT, Int.reduceLT, Int.reducePow, gt_iff_lt]
                exact q
              · obtain ⟨d, ed, rfl⟩ := int_at hm
                simp only [tSeq, tNext, tDrop, tRet, tRetN, tIfS, tAsg, gName, tAug, ipI, tVar, tC, tOp, tUn, rI, rI0, rU, tCons, tNil, tCB, tTup, tLst, tTest, tB, tAnd, tOr, tNot, tAndV, tOrV, tNotV, tIf, tCl, tCd, tCk, gSub, rPutL, rAtQ, rIntI, rLenQ, rLenS, rListQ, rTupL, rTupQ, rIsQ_c, kd_non, kd_bl, kd_int, kd_str, kd_ref, kdO_lst, kdO_tup, kit_NoneType_bool, kit_NoneType_int, kit_NoneType_str, kit_NoneType_list, kit_NoneType_tuple, kit_bool_bool, kit_bool_int, kit_bool_str, kit_bool_list, kit_bool_tuple, kit_int_bool, kit_int_int, kit_int_str, kit_int_list, kit_int_tuple, kit_str_bool, kit_str_int, kit_str_str, kit_str_list, kit_str_tuple, kit_list_bool, kit_list_int, kit_list_str, kit_list_list, kit_list_tuple, kit_tuple_bool, kit_tuple_int, kit_tuple_str, kit_tuple_list, kit_tuple_tuple, V.ty.injEq, rSortQ, rSlQ, rMulS, tJn, rAtX, rSlS, tSl, tPart, tNoPart, cut_lo2, cut_hi2, rInQ, gLq, gTq, gC_c, gNil, tChain, List.cons_append, List.nil_append, tBL, tBL0, tBad, tCr, tCe, tXF, cxH_K, HO.xd.injEq, rApp, rPopN, rRevL, seqAt_lst, seqAt_tup, at_0, at_1, at_2, at_3, at_4, ix_0, ix_1, ix_2, ix_3, ix_4, cx_K, upd_same, List.length_cons, List.length_nil, Nat.reduceAdd,  rEq, rNe, tRevL, V.int.injEq, V.bl.injEq, V.str.injEq, V.ref.injEq, List.cons.injEq, and_true, true_and, exists_and_left, exists_and_right, exists_eq_left, exists_eq_left', exists_eq_right, exists_eq_right', exists_const, Option.some.injEq, List.getElem?_cons_zero, List.getElem?_cons_succ, List.set_cons_zero, List.set_cons_succ, decide_eq_true_eq, decide_true, decide_false,  scal_ii, scal_bb, scal_ss, cmul_r, cdiv_l, cpow_12, cpow_18, cpow_40, HO.lst.injEq, HO.tup.injEq, upd_upd, Int.reduceToNat,  decide_not, Bool.not_eq_true', decide_eq_false_iff_not, if_true, if_false, Bool.false_eq_true, Bool.true_eq_false, reduceCtorEq, Int.reduceNeg, Nat.reduceLT, Int.reduceLT, Int.reducePow, gt_iff_lt, wipe, List.map_cons, List.map_nil, tYes, tIn]
                split
                · rename_i lt3
                  refine ⟨sz_of (by decide), fun t ht => ?_⟩
                  obtain ⟨acc, e1, e2, e3, e4⟩ := Rws.add (r := [.int a, .int b, .int c, .int d]) h4.1 h4.2 ht
                  have hD' : t ≠ D := fun e => by rw [e, e1] at ht; cases ht
                  refine ⟨acc, by rw [upd_ne hD'.symm]; exact e1, ?_, e3, ?_⟩
                  · have z1 := fm_len _ 1000 (cf1_len hx hy) (xs.take i)
                    have z2 := fm_len _ 100 (cf2_len hx hy a) (ys.take j)
                    have z3 := fm_len _ 10 (cf3_len hy a b) (xs.take l)
                    have z4 := fm_len _ 1 (cf4_len a b c) (ys.take m)
                    have t1 := take_le xs i 10 hx
                    have t2 := take_le ys j 10 hy
                    have t3 := take_le xs l 10 hx
                    have t4 := take_le ys m 10 hy
                    rw [e2]
                    simp only [List.length_append]
                    exact sz_lt (by omega)
                  · rw [take_fm _ ed, ← List.append_assoc, show cf4 a b c d = [[.int a, .int b, .int c, .int d]] from if_pos lt3]
                    exact e4
                · rename_i lt3
                  rw [take_fm _ ed, show cf4 a b c d = [] from if_neg lt3, List.append_nil]
                  exact h4
              · rw [List.length_map, List.take_length] at h4
                rw [take_fm _ ec, ← List.append_assoc, show cf3 a b ys c = ys.flatMap (cf4 a b c) from if_pos lt2]
                exact h4
            · rename_i lt2
              rw [take_fm _ ec, show cf3 a b ys c = [] from if_neg lt2, List.append_nil]
              exact h3
          · rw [List.length_map, List.take_length] at h3
            rw [take_fm _ eb, ← List.append_assoc, show cf2 a xs ys b = xs.flatMap (cf3 a b ys) from if_pos lt1]
            exact h3
        · rename_i lt1
          rw [take_fm _ eb, show cf2 a xs ys b = [] from if_neg lt1, List.append_nil]
          exact h2
      · rw [List.length_map, List.take_length] at h2
        rw [take_fm _ ea]
        exact h2
    · rw [List.length_map, List.take_length] at hI
      exact k D H' hI.1 hI.2
end
end Z
set_option Elab.async false
set_option linter.all false
set_option maxRecDepth 100000
set_option maxHeartbeats 4000000
namespace Z
open PySem PySem.Spec PyProof.Rows L2 L2H
section
variable {P : Program} {w : World} {K : PySem.W.Frag} {mg : Str → Option Value} {base : Heap}
def ci4 (a b c d : Int) : List (List Int) := if c < d then [[a, b, c, d]] else []
def ci3 (a b : Int) (ys : List Int) (c : Int) : List (List Int) := if b < c then ys.flatMap (ci4 a b c) else []
def ci2 (a : Int) (xs ys : List Int) (b : Int) : List (List Int) := if a < b then xs.flatMap (ci3 a b ys) else []
def ci1 (xs ys : List Int) (a : Int) : List (List Int) := ys.flatMap (ci2 a xs ys)
def cis (xs ys : List Int) : List (List Int) := xs.flatMap (ci1 xs ys)
theorem fm_map {α : Type} {f : α → List (List V)} {g : α → List (List Int)} (h : ∀ x, f x = (g x).map (List.map V.int)) (l : List α) : l.flatMap f = (l.flatMap g).map (List.map V.int) := by
  rw [List.map_flatMap, show f = fun x => (g x).map (List.map V.int) from funext h]
theorem cf4_i (a b c d : Int) : cf4 a b c d = (ci4 a b c d).map (List.map V.int) := by unfold cf4 ci4; split <;> rfl
theorem cf3_i (a b : Int) (ys : List Int) (c : Int) : cf3 a b ys c = (ci3 a b ys c).map (List.map V.int) := by
  unfold cf3 ci3
  split
  · exact fm_map (cf4_i a b c) ys
  · rfl
theorem cf2_i (a : Int) (xs ys : List Int) (b : Int) : cf2 a xs ys b = (ci2 a xs ys b).map (List.map V.int) := by
  unfold cf2 ci2
  split
  · exact fm_map (cf3_i a b ys) xs
  · rfl
theorem cfs_i (xs ys : List Int) : cfs xs ys = (cis xs ys).map (List.map V.int) := fm_map (fun a => fm_map (cf2_i a xs ys) ys) xs
theorem paired_mapR {α β γ : Type} {F : α → β → Prop} {f : γ → β} : ∀ {l : List α} {m : List γ}, Paired F l (m.map f) → Paired (fun a c => F a (f c)) l m
  | _, [], h => by cases h; exact .nil
  | _, c :: m, h => by
    cases h with
    | cons r t => exact .cons r (paired_mapR t)
theorem paired_cat {α β : Type} {F : α → β → Prop} : ∀ {l l' : List α} {m m' : List β}, Paired F l m → Paired F l' m' → Paired F (l ++ l') (m ++ m')
  | _, _, _, _, .nil, h => h
  | _, _, _, _, .cons r t, h => .cons r (paired_cat t h)
abbrev s_crossing_places : Stmt := topS 36
abbrev N_crossing_places : List Str := ["one", "two", "fours"]
theorem sc_crossing_places : FnScope N_crossing_places ["one", "two"] (defScope s_crossing_places) := ⟨rfl, rfl, rfl, by decide +kernel, rfl, by decide +kernel, by decide +kernel⟩
theorem b_crossing_places : BindO "crossing_places" s_crossing_places ["one", "two"] := fun _ _ _ _ _ _ us hl => match us, hl with | [_, _], _ => rfl

def sp_crossing_places : Sp := fun vs H Q _ => ∃ (p q : Addr) (xs ys : List Int), vs = [.ref p, .ref q] ∧ H p = some (.lst (xs.map V.int)) ∧ H q = some (.lst (ys.map V.int)) ∧ xs.length ≤ 10 ∧ ys.length ≤ 10 ∧
  (∀ H', Same H H' → mnL (cis xs ys ++ cis ys xs) = none → Q .non H') ∧ ∀ (t : Addr) (r : List Int) (H' : Hp), Same H H' → H t = none → mnL (cis xs ys ++ cis ys xs) = some r → H' t = some (.tup (r.map V.int)) → Q (.ref t) H'
theorem ok_crossing_places (D : Dn K mg "crossing_places" s_crossing_places) (B : Blt mg) (c_crossings_from : Cl P w K mg base 1 "crossings_from" sp_crossings_from) : Cl P w K mg base 2 "crossing_places" sp_crossing_places := by
  refine cl_of D sc_crossing_places b_crossing_places (fun vs H Q E h => ?_) (fun f cdv A outer s H vs Q E hr h => ?_)
  · obtain ⟨p, q, xs, ys, rfl, _⟩ := h
    rfl
  · obtain ⟨p, q, xs, ys, rfl, hp, hq, hx, hy, k0, k1⟩ := h
    refine ⟨_, (pss_cons (ps_set (i := 2) sc_crossing_places.nd rfl (.inl rfl) (pe_op op_catQ (pe_cl c_crossings_from hr (by omega) rfl (pa_cons (pv 0) (pa_cons (pv 1) pa_nil))) (pe_cl c_crossings_from hr (by omega) rfl (pa_cons (pv 1) (pa_cons (pv 0) pa_nil)))))
      (pss_one (ps_ret (pe_callBK (cr_minT rfl hr.units) (by rfl) B.min (by decide +kernel) (pa_cons (pv 2) pa_nil) (pk_cons pe_non pk_nil))))), ?_⟩
    rw [show L2.start N_crossing_places [.ref p, .ref q] = [some (.ref p), some (.ref q), none] from rfl]
    simp only [tSeq, tNext, tDrop, tRet, tRetN, tIfS, tAsg, gName, tAug, ipI, tVar, tC, tOp, tUn, rI, rI0, rU, tCons, tNil, tCB, tTup, tLst, tTest, tB, tAnd, tOr, tNot, tAndV, tOrV, tNotV, tIf, tCl, tCd, tCk, gSub, rPutL, rAtQ, rIntI, rLenQ, rLenS, rListQ, rTupL, rTupQ, rIsQ_c, kd_non, kd_bl, kd_int, kd_str, kd_ref, kdO_lst, kdO_tup, kit_NoneType_bool, kit_NoneType_int, kit_NoneType_str, kit_NoneType_list, kit_NoneType_tuple, kit_bool_bool, kit_bool_int, kit_bool_str, kit_bool_list, kit_bool_tuple, kit_int_bool, kit_int_int, kit_int_str, kit_int_list, kit_int_tuple, kit_str_bool, kit_str_int, kit_str_str, kit_str_list, kit_str_tuple, kit_list_bool, kit_list_int, kit_list_str, kit_list_list, kit_list_tuple, kit_tuple_bool, kit_tuple_int, kit_tuple_str, kit_tuple_list, kit_tuple_tuple, V.ty.injEq, rSortQ, rSlQ, rMulS, tJn, rAtX, rSlS, tSl, tPart, tNoPart, cut_lo2, cut_hi2, rInQ, gLq, gTq, gC_c, gNil, tChain, List.cons_append, List.nil_append, tBL, tBL0, tBad, tCr, tCe, tXF, cxH_K, HO.xd.injEq, rApp, rPopN, rRevL, seqAt_lst, seqAt_tup, at_0, at_1, at_2, at_3, at_4, ix_0, ix_1, ix_2, ix_3, ix_4, cx_K, upd_same, List.length_cons, List.length_nil, Nat.reduceAdd,  rEq, rNe, tRevL, V.int.injEq, V.bl.injEq, V.str.injEq, V.ref.injEq, List.cons.injEq, and_true, true_and, exists_and_left, exists_and_right, exists_eq_left, exists_eq_left', exists_eq_right, exists_eq_right', exists_const, Option.some.injEq, List.getElem?_cons_zero, List.getElem?_cons_succ, List.set_cons_zero, List.set_cons_succ, decide_eq_true_eq, decide_true, decide_false,  scal_ii, scal_bb, scal_ss, cmul_r, cdiv_l, cpow_12, cpow_18, cpow_40, HO.lst.injEq, HO.tup.injEq, upd_upd, Int.reduceToNat,  decide_not, Bool.not_eq_true', decide_eq_false_iff_not, if_true, if_false, Bool.false_eq_true, Bool.true_eq_false, reduceCtorEq, Int.reduceNeg, Nat.reduceLT, Int.reduceLT, Int.reducePow, gt_iff_lt]
    refine ⟨p, q, xs, ys, rfl, hp, hq, hx, hy, fun r1 H1 s1 g1 => ?_⟩
    simp only [tSeq, tNext, tDrop, tRet, tRetN, tIfS, tAsg, gName, tAug, ipI, tVar, tC, tOp, tUn, rI, rI0, rU, tCons, tNil, tCB, tTup, tLst, tTest, tB, tAnd, tOr, tNot, tAndV, tOrV, tNotV, tIf, tCl, tCd, tCk, gSub, rPutL, rAtQ, rIntI, rLenQ, rLenS, rListQ, rTupL, rTupQ, rIsQ_c, kd_non, kd_bl, kd_int, kd_str, kd_ref, kdO_lst, kdO_tup, kit_NoneType_bool, kit_NoneType_int, kit_NoneType_str, kit_NoneType_list, kit_NoneType_tuple, kit_bool_bool, kit_bool_int, kit_bool_str, kit_bool_list, kit_bool_tuple, kit_int_bool, kit_int_int, kit_int_str, kit_int_list, kit_int_tuple, kit_str_bool, kit_str_int, kit_str_str, kit_str_list, kit_str_tuple, kit_list_bool, kit_list_int, kit_list_str, kit_list_list, kit_list_tuple, kit_tuple_bool, kit_tuple_int, kit_tuple_str, kit_tuple_list, kit_tuple_tuple, V.ty.injEq, rSortQ, rSlQ, rMulS, tJn, rAtX, rSlS, tSl, tPart, tNoPart, cut_lo2, cut_hi2, rInQ, gLq, gTq, gC_c, gNil, tChain, List.cons_append, List.nil_append, tBL, tBL0, tBad, tCr, tCe, tXF, cxH_K, HO.xd.injEq, rApp, rPopN, rRevL, seqAt_lst, seqAt_tup, at_0, at_1, at_2, at_3, at_4, ix_0, ix_1, ix_2, ix_3, ix_4, cx_K, upd_same, List.length_cons, List.length_nil, Nat.reduceAdd,  rEq, rNe, tRevL, V.int.injEq, V.bl.injEq, V.str.injEq, V.ref.injEq, List.cons.injEq, and_true, true_and, exists_and_left, exists_and_right, exists_eq_left, exists_eq_left', exists_eq_right, exists_eq_right', exists_const, Option.some.injEq, List.getElem?_cons_zero, List.getElem?_cons_succ, List.set_cons_zero, List.set_cons_succ, decide_eq_true_eq, decide_true, decide_false,  scal_ii, scal_bb, scal_ss, cmul_r, cdiv_l, cpow_12, cpow_18, cpow_40, HO.lst.injEq, HO.tup.injEq, upd_upd, Int.reduceToNat,  decide_not, Bool.not_eq_true', decide_eq_false_iff_not, if_true, if_false, Bool.false_eq_true, Bool.true_eq_false, reduceCtorEq, Int.reduceNeg, Nat.reduceLT, Int.reduceLT, Int.reducePow, gt_iff_lt]
    refine ⟨q, p, ys, xs, rfl, s1 _ _ hq, s1 _ _ hp, hy, hx, fun r2 H2 s2 g2 => ?_⟩
    simp only [tSeq, tNext, tDrop, tRet, tRetN, tIfS, tAsg, gName, tAug, ipI, tVar, tC, tOp, tUn, rI, rI0, rU, tCons, tNil, tCB, tTup, tLst, tTest, tB, tAnd, tOr, tNot, tAndV, tOrV, tNotV, tIf, tCl, tCd, tCk, gSub, rPutL, rAtQ, rIntI, rLenQ, rLenS, rListQ, rTupL, rTupQ, rIsQ_c, kd_non, kd_bl, kd_int, kd_str, kd_ref, kdO_lst, kdO_tup, kit_NoneType_bool, kit_NoneType_int, kit_NoneType_str, kit_NoneType_list, kit_NoneType_tuple, kit_bool_bool, kit_bool_int, kit_bool_str, kit_bool_list, kit_bool_tuple, kit_int_bool, kit_int_int, kit_int_str, kit_int_list, kit_int_tuple, kit_str_bool, kit_str_int, kit_str_str, kit_str_list, kit_str_tuple, kit_list_bool, kit_list_int, kit_list_str, kit_list_list, kit_list_tuple, kit_tuple_bool, kit_tuple_int, kit_tuple_str, kit_tuple_list, kit_tuple_tuple, V.ty.injEq, rSortQ, rSlQ, rMulS, tJn, rAtX, rSlS, tSl, tPart, tNoPart, cut_lo2, cut_hi2, rInQ, gLq, gTq, gC_c, gNil, tChain, List.cons_append, List.nil_append, tBL, tBL0, tBad, tCr, tCe, tXF, cxH_K, HO.xd.injEq, rApp, rPopN, rRevL, seqAt_lst, seqAt_tup, at_0, at_1, at_2, at_3, at_4, ix_0, ix_1, ix_2, ix_3, ix_4, cx_K, upd_same, List.length_cons, List.length_nil, Nat.reduceAdd,  rEq, rNe, tRevL, V.int.injEq, V.bl.injEq, V.str.injEq, V.ref.injEq, List.cons.injEq, and_true, true_and, exists_and_left, exists_and_right, exists_eq_left, exists_eq_left', exists_eq_right, exists_eq_right', exists_const, Option.some.injEq, List.getElem?_cons_zero, List.getElem?_cons_succ, List.set_cons_zero, List.set_cons_succ, decide_eq_true_eq, decide_true, decide_false,  scal_ii, scal_bb, scal_ss, cmul_r, cdiv_l, cpow_12, cpow_18, cpow_40, HO.lst.injEq, HO.tup.injEq, upd_upd, Int.reduceToNat,  decide_not, Bool.not_eq_true', decide_eq_false_iff_not, if_true, if_false, Bool.false_eq_true, Bool.true_eq_false, reduceCtorEq, Int.reduceNeg, Nat.reduceLT, Int.reduceLT, Int.reducePow, gt_iff_lt, rCatQ, tCKw, rMinT]
    obtain ⟨f1, ps1, e1, pr1⟩ := g1
    obtain ⟨f2, ps2, e2, pr2⟩ := g2
    rw [cfs_i] at pr1 pr2
    have q1 := paired_mapR pr1
    have q2 := paired_mapR pr2
    have n1 : ps1.length ≤ 10000 := by
      rw [paired_len pr1, ← cfs_i]
      exact cfs_len hx hy
    have n2 : ps2.length ≤ 10000 := by
      rw [paired_len pr2, ← cfs_i]
      exact cfs_len hy hx
    refine ⟨_, s2 _ _ e1, _, e2, ?_, fun t ht => ⟨ps1 ++ ps2, by rw [List.map_append], cis xs ys ++ cis ys xs, paired_cat (paired_imp (fun a r uv => ?_) q1) (paired_imp (fun a r uv => ?_) q2), fun e => ?_, fun r a e h m => ?_⟩⟩
    · rw [List.length_map, List.length_map]
      exact sz_of (by omega)
    · rw [upd_ne (ne_of_none (s2 _ _ uv.2) ht)]
      exact s2 _ _ uv.2
    · rw [upd_ne (ne_of_none uv.2 ht)]
      exact uv.2
    · exact k0 _ (fun b o h => same_at (fun b o h => s2 b o (s1 b o h)) (same_free (fun b o h => s2 b o (s1 b o h)) ht) b o h) e
    · refine k1 a r _ (fun b o h => same_at (fun b o h => s2 b o (s1 b o h)) (same_free (fun b o h => s2 b o (s1 b o h)) ht) b o h) ?_ e h
      rcases List.mem_append.mp m with m | m
      · obtain ⟨i, hi, ei⟩ := List.mem_iff_getElem.mp m
        obtain ⟨r', _, f, _⟩ := paired_get q1 (List.getElem?_eq_getElem hi)
        rw [ei] at f
        exact f
      · obtain ⟨i, hi, ei⟩ := List.mem_iff_getElem.mp m
        obtain ⟨r', _, f, _⟩ := paired_get q2 (List.getElem?_eq_getElem hi)
        rw [ei] at f
        exact same_free s1 f
end
end Z
set_option Elab.async false
set_option linter.all false
set_option maxRecDepth 100000
set_option maxHeartbeats 4000000
namespace Z
open PySem PySem.Spec PyProof.Rows L2 L2H
section
variable {P : Program} {w : World} {K : PySem.W.Frag} {mg : Str → Option Value} {base : Heap}
/-- the pairs of places, in their order -/
def ix2 (n : Nat) : List (Nat × Nat) := (List.range n).flatMap fun i => (List.range (n - (i + 1))).map fun k => (i, i + 1 + k)
theorem ppTo_ix (n : Nat) : ppTo n n = (ix2 n).map fun p => [.int (p.1 : Int), .int (p.2 : Int)] := by
  rw [ppTo, ix2, List.map_flatMap]
  congr 1
  funext i
  rw [ppR, List.map_map]
  rfl
theorem ix2_lt {n : Nat} {p : Nat × Nat} (h : p ∈ ix2 n) : p.1 < p.2 ∧ p.2 < n := by
  obtain ⟨i, hi, h⟩ := List.mem_flatMap.mp h
  obtain ⟨k, hk, rfl⟩ := List.mem_map.mp h
  have h1 := List.mem_range.mp hi
  have h2 := List.mem_range.mp hk
  exact ⟨by show i < i + 1 + k; omega, by show i + 1 + k < n; omega⟩
theorem ix2_len (n : Nat) : (ix2 n).length ≤ n * n := by
  have z := ppTo_len n n
  rw [ppTo_ix, List.length_map] at z
  exact z
/-- the pairs of names, in their order -/
def nmP (ns : List Str) : List (Str × Str) := (ix2 ns.length).map fun p => (ns.getD p.1 Str.empty, ns.getD p.2 Str.empty)
def pairV (q : Str × Str) : List V := [.str q.1, .str q.2]
theorem str_at {ns : List Str} {i : Nat} (h : i < ns.length) : atI (ns.map V.str) (i : Int) = some (.str (ns.getD i Str.empty)) := atI_nat (by
  rw [List.getElem?_map, List.getD_eq_getElem?_getD, List.getElem?_eq_getElem h] <;> rfl)
abbrev s_lot_pairs : Stmt := topS 41
abbrev N_lot_pairs : List Str := ["pond", "names", "low", "high"]
theorem sc_lot_pairs : FnScope N_lot_pairs ["pond"] (defScope s_lot_pairs) := ⟨rfl, rfl, rfl, by decide +kernel, rfl, by decide +kernel, by decide +kernel⟩
theorem b_lot_pairs : BindO "lot_pairs" s_lot_pairs ["pond"] := fun _ _ _ _ _ _ us hl => match us, hl with | [_], _ => rfl

def sp_lot_pairs (C : Addr) : Sp := fun vs H Q _ => ∃ (p : Addr) (ns : List Str), vs = [.ref p] ∧ PlAt C H p ns ∧ ns.length ≤ 10 ∧ ∀ (r : Addr) (H' : Hp), Same H H' → Rws H H' r ((nmP ns).map pairV) → Q (.ref r) H'
theorem ok_lot_pairs {CP : Addr} (D : Dn K mg "lot_pairs" s_lot_pairs) (B : Blt mg) (pr_names : Pr P w K mg base CP "names" "_names") (c_place_pairs : Cl P w K mg base 1 "place_pairs" sp_place_pairs) : Cl P w K mg base 3 "lot_pairs" (sp_lot_pairs CP) := by
  refine cl_of D sc_lot_pairs b_lot_pairs (fun vs H Q E h => ?_) (fun f cdv A outer s H vs Q E hr h => ?_)
  · obtain ⟨p, ns, rfl, _⟩ := h
    rfl
  · obtain ⟨p, ns, rfl, hp, hn, q⟩ := h
    refine ⟨_, (pss_cons (ps_set (i := 1) sc_lot_pairs.nd rfl (.inr rfl) (pe_pr pr_names hr (by omega) (pv 0)))
      (pss_one (ps_ret (pe_lc (own := [("low", 2), ("high", 3)]) (g := gTq 2 (gC (gName 2) (gC (gName 3) gNil))) rfl sc_lot_pairs.nd (pi_list (pe_cl c_place_pairs hr (by omega) rfl (pa_cons (pe_callB call_lenQ (by rfl) B.len PySem.boot_len (pa_cons (pv 1) pa_nil)) pa_nil))) (blkOk_by (N := N_lot_pairs) (sc := defScope s_lot_pairs) (own := [("low", 2), ("high", 3)]) (by decide +kernel)) (fun _ _ _ _ _ => (pg_tq rfl (pgs_c (pg_name (i := 2) sc_lot_pairs.nd rfl (Or.inl rfl)) (pgs_c (pg_name (i := 3) sc_lot_pairs.nd rfl (Or.inl rfl)) pgs_nil)))) (fun _ _ _ _ _ => pts_nil) (fun _ _ _ _ _ => (pe_tup (pa_cons (pe_ix at_seq (pv 1) (pv 2) (fun _ _ => rfl)) (pa_cons (pe_ix at_seq (pv 1) (pv 3) (fun _ _ => rfl)) pa_nil)))))))), ?_⟩
    rw [show L2.start N_lot_pairs [.ref p] = [some (.ref p), none, none, none] from rfl]
    obtain ⟨dx, fs, nA, d, e1, e2, e3, e4, e5, e6, e7⟩ := id hp
    simp only [tSeq, tNext, tDrop, tRet, tRetN, tIfS, tAsg, gName, tAug, ipI, tVar, tC, tOp, tUn, rI, rI0, rU, tCons, tNil, tCB, tTup, tLst, tTest, tB, tAnd, tOr, tNot, tAndV, tOrV, tNotV, tIf, tCl, tCd, tCk, gSub, rPutL, rAtQ, rIntI, rLenQ, rLenS, rListQ, rTupL, rTupQ, rIsQ_c, kd_non, kd_bl, kd_int, kd_str, kd_ref, kdO_lst, kdO_tup, kit_NoneType_bool, kit_NoneType_int, kit_NoneType_str, kit_NoneType_list, kit_NoneType_tuple, kit_bool_bool, kit_bool_int, kit_bool_str, kit_bool_list, kit_bool_tuple, kit_int_bool, kit_int_int, kit_int_str, kit_int_list, kit_int_tuple, kit_str_bool, kit_str_int, kit_str_str, kit_str_list, kit_str_tuple, kit_list_bool, kit_list_int, kit_list_str, kit_list_list, kit_list_tuple, kit_tuple_bool, kit_tuple_int, kit_tuple_str, kit_tuple_list, kit_tuple_tuple, V.ty.injEq, rSortQ, rSlQ, rMulS, tJn, rAtX, rSlS, tSl, tPart, tNoPart, cut_lo2, cut_hi2, rInQ, gLq, gTq, gC_c, gNil, tChain, List.cons_append, List.nil_append, tBL, tBL0, tBad, tCr, tCe, tXF, cxH_K, HO.xd.injEq, rApp, rPopN, rRevL, seqAt_lst, seqAt_tup, at_0, at_1, at_2, at_3, at_4, ix_0, ix_1, ix_2, ix_3, ix_4, cx_K, upd_same, List.length_cons, List.length_nil, Nat.reduceAdd,  rEq, rNe, tRevL, V.int.injEq, V.bl.injEq, V.str.injEq, V.ref.injEq, List.cons.injEq, and_true, true_and, exists_and_left, exists_and_right, exists_eq_left, exists_eq_left', exists_eq_right, exists_eq_right', exists_const, Option.some.injEq, List.getElem?_cons_zero, List.getElem?_cons_succ, List.set_cons_zero, List.set_cons_succ, decide_eq_true_eq, decide_true, decide_false,  scal_ii, scal_bb, scal_ss, cmul_r, cdiv_l, cpow_12, cpow_18, cpow_40, HO.lst.injEq, HO.tup.injEq, upd_upd, Int.reduceToNat,  decide_not, Bool.not_eq_true', decide_eq_false_iff_not, if_true, if_false, Bool.false_eq_true, Bool.true_eq_false, reduceCtorEq, Int.reduceNeg, Nat.reduceLT, Int.reduceLT, Int.reducePow, gt_iff_lt, tPr]
    refine ⟨dx, fs, e1, _, e2, ?_⟩
    refine lcE_list ?_
    simp only [tSeq, tNext, tDrop, tRet, tRetN, tIfS, tAsg, gName, tAug, ipI, tVar, tC, tOp, tUn, rI, rI0, rU, tCons, tNil, tCB, tTup, tLst, tTest, tB, tAnd, tOr, tNot, tAndV, tOrV, tNotV, tIf, tCl, tCd, tCk, gSub, rPutL, rAtQ, rIntI, rLenQ, rLenS, rListQ, rTupL, rTupQ, rIsQ_c, kd_non, kd_bl, kd_int, kd_str, kd_ref, kdO_lst, kdO_tup, kit_NoneType_bool, kit_NoneType_int, kit_NoneType_str, kit_NoneType_list, kit_NoneType_tuple, kit_bool_bool, kit_bool_int, kit_bool_str, kit_bool_list, kit_bool_tuple, kit_int_bool, kit_int_int, kit_int_str, kit_int_list, kit_int_tuple, kit_str_bool, kit_str_int, kit_str_str, kit_str_list, kit_str_tuple, kit_list_bool, kit_list_int, kit_list_str, kit_list_list, kit_list_tuple, kit_tuple_bool, kit_tuple_int, kit_tuple_str, kit_tuple_list, kit_tuple_tuple, V.ty.injEq, rSortQ, rSlQ, rMulS, tJn, rAtX, rSlS, tSl, tPart, tNoPart, cut_lo2, cut_hi2, rInQ, gLq, gTq, gC_c, gNil, tChain, List.cons_append, List.nil_append, tBL, tBL0, tBad, tCr, tCe, tXF, cxH_K, HO.xd.injEq, rApp, rPopN, rRevL, seqAt_lst, seqAt_tup, at_0, at_1, at_2, at_3, at_4, ix_0, ix_1, ix_2, ix_3, ix_4, cx_K, upd_same, List.length_cons, List.length_nil, Nat.reduceAdd,  rEq, rNe, tRevL, V.int.injEq, V.bl.injEq, V.str.injEq, V.ref.injEq, List.cons.injEq, and_true, true_and, exists_and_left, exists_and_right, exists_eq_left, exists_eq_left', exists_eq_right, exists_eq_right', exists_const, Option.some.injEq, List.getElem?_cons_zero, List.getElem?_cons_succ, List.set_cons_zero, List.set_cons_succ, decide_eq_true_eq, decide_true, decide_false,  scal_ii, scal_bb, scal_ss, cmul_r, cdiv_l, cpow_12, cpow_18, cpow_40, HO.lst.injEq, HO.tup.injEq, upd_upd, Int.reduceToNat,  decide_not, Bool.not_eq_true', decide_eq_false_iff_not, if_true, if_false, Bool.false_eq_true, Bool.true_eq_false, reduceCtorEq, Int.reduceNeg, Nat.reduceLT, Int.reduceLT, Int.reducePow, gt_iff_lt]
    refine ⟨ns.map V.str, by rw [e6] <;> rfl, ns.length, by rw [List.length_map], by omega, fun r1 H1 s1 g1 => ?_⟩
    obtain ⟨f1, ps, h1, pr⟩ := g1
    rw [ppTo_ix] at pr
    refine ⟨r1, rfl, ⟨_, SqL.of h1⟩, fun D hD => lcG_at (ps.map V.ref) (fun i H' => Same H1 H' ∧ Rws H1 H' D (((nmP ns).take i).map pairV)) ⟨same_new hD, Rws.new hD⟩ (fun i H' h => SqL.of (h.1 _ _ h1)) (fun i x H' hx hI => ?_) (fun H' hI => ?_)⟩
    · rw [List.getElem?_map] at hx
      obtain ⟨a, ea, rfl⟩ := Option.map_eq_some_iff.mp hx
      obtain ⟨rw_, er, f2, ha⟩ := paired_get pr ea
      rw [List.getElem?_map] at er
      obtain ⟨ij, eij, rfl⟩ := Option.map_eq_some_iff.mp er
      obtain ⟨l1, l2⟩ := ix2_lt (List.mem_of_getElem? eij)
      have hN : H' nA = some (.tup (ns.map V.str)) := hI.1 _ _ (s1 _ _ e6)
      simp only [tSeq, tNext, tDrop, tRet, tRetN, tIfS, tAsg, gName, tAug, ipI, tVar, tC, tOp, tUn, rI, rI0, rU, tCons, tNil, tCB, tTup, tLst, tTest, tB, tAnd, tOr, tNot, tAndV, tOrV, tNotV, tIf, tCl, tCd, tCk, gSub, rPutL, rAtQ, rIntI, rLenQ, rLenS, rListQ, rTupL, rTupQ, rIsQ_c, kd_non, kd_bl, kd_int, kd_str, kd_ref, kdO_lst, kdO_tup, kit_NoneType_bool, kit_NoneType_int, kit_NoneType_str, kit_NoneType_list, kit_NoneType_tuple, kit_bool_bool, kit_bool_int, kit_bool_str, kit_bool_list, kit_bool_tuple, kit_int_bool, kit_int_int, kit_int_str, kit_int_list, kit_int_tuple, kit_str_bool, kit_str_int, kit_str_str, kit_str_list, kit_str_tuple, kit_list_bool, kit_list_int, kit_list_str, kit_list_list, kit_list_tuple, kit_tuple_bool, kit_tuple_int, kit_tuple_str, kit_tuple_list, kit_tuple_tuple, V.ty.injEq, rSortQ, rSlQ, rMulS, tJn, rAtX, rSlS, tSl, tPart, tNoPart, cut_lo2, cut_hi2, rInQ, gLq, gTq, gC_c, gNil, tChain, List.cons_append, List.nil_append, tBL, tBL0, tBad, tCr, tCe, tXF, cxH_K, HO.xd.injEq, rApp, rPopN, rRevL, seqAt_lst, seqAt_tup, at_0, at_1, at_2, at_3, at_4, ix_0, ix_1, ix_2, ix_3, ix_4, cx_K, upd_same, List.length_cons, List.length_nil, Nat.reduceAdd,  rEq, rNe, tRevL, V.int.injEq, V.bl.injEq, V.str.injEq, V.ref.injEq, List.cons.injEq, and_true, true_and, exists_and_left, exists_and_right, exists_eq_left, exists_eq_left', exists_eq_right, exists_eq_right', exists_const, Option.some.injEq, List.getElem?_cons_zero, List.getElem?_cons_succ, List.set_cons_zero, List.set_cons_succ, decide_eq_true_eq, decide_true, decide_false,  scal_ii, scal_bb, scal_ss, cmul_r, cdiv_l, cpow_12, cpow_18, cpow_40, HO.lst.injEq, HO.tup.injEq, upd_upd, Int.reduceToNat,  decide_not, Bool.not_eq_true', decide_eq_false_iff_not, if_true, if_false, Bool.false_eq_true, Bool.true_eq_false, reduceCtorEq, Int.reduceNeg, Nat.reduceLT, Int.reduceLT, Int.reducePow, gt_iff_lt, wipe, List.map_cons, List.map_nil, tYes]
      refine ⟨_, hI.1 _ _ ha, rfl, ?_⟩
      simp only [tSeq, tNext, tDrop, tRet, tRetN, tIfS, tAsg, gName, tAug, ipI, tVar, tC, tOp, tUn, rI, rI0, rU, tCons, tNil, tCB, tTup, tLst, tTest, tB, tAnd, tOr, tNot, tAndV, tOrV, tNotV, tIf, tCl, tCd, tCk, gSub, rPutL, rAtQ, rIntI, rLenQ, rLenS, rListQ, rTupL, rTupQ, rIsQ_c, kd_non, kd_bl, kd_int, kd_str, kd_ref, kdO_lst, kdO_tup, kit_NoneType_bool, kit_NoneType_int, kit_NoneType_str, kit_NoneType_list, kit_NoneType_tuple, kit_bool_bool, kit_bool_int, kit_bool_str, kit_bool_list, kit_bool_tuple, kit_int_bool, kit_int_int, kit_int_str, kit_int_list, kit_int_tuple, kit_str_bool, kit_str_int, kit_str_str, kit_str_list, kit_str_tuple, kit_list_bool, kit_list_int, kit_list_str, kit_list_list, kit_list_tuple, kit_tuple_bool, kit_tuple_int, kit_tuple_str, kit_tuple_list, kit_tuple_tuple, V.ty.injEq, rSortQ, rSlQ, rMulS, tJn, rAtX, rSlS, tSl, tPart, tNoPart, cut_lo2, cut_hi2, rInQ, gLq, gTq, gC_c, gNil, tChain, List.cons_append, List.nil_append, tBL, tBL0, tBad, tCr, tCe, tXF, cxH_K, HO.xd.injEq, rApp, rPopN, rRevL, seqAt_lst, seqAt_tup, at_0, at_1, at_2, at_3, at_4, ix_0, ix_1, ix_2, ix_3, ix_4, cx_K, upd_same, List.length_cons, List.length_nil, Nat.reduceAdd,  rEq, rNe, tRevL, V.int.injEq, V.bl.injEq, V.str.injEq, V.ref.injEq, List.cons.injEq, and_true, true_and, exists_and_left, exists_and_right, exists_eq_left, exists_eq_left', exists_eq_right, exists_eq_right', exists_const, Option.some.injEq, List.getElem?_cons_zero, List.getElem?_cons_succ, List.set_cons_zero, List.set_cons_succ, decide_eq_true_eq, decide_true, decide_false,  scal_ii, scal_bb, scal_ss, cmul_r, cdiv_l, cpow_12, cpow_18, cpow_40, HO.lst.injEq, HO.tup.injEq, upd_upd, Int.reduceToNat,  decide_not, Bool.not_eq_true', decide_eq_false_iff_not, if_true, if_false, Bool.false_eq_true, Bool.true_eq_false, reduceCtorEq, Int.reduceNeg, Nat.reduceLT, Int.reduceLT, Int.reducePow, gt_iff_lt]
      refine ⟨ns.map V.str, by rw [hN] <;> rfl, _, str_at (by omega), ns.map V.str, by rw [hN] <;> rfl, _, str_at l2, sz_of (by decide), fun t ht => ?_⟩
      obtain ⟨acc, a1, a2, a3, a4⟩ := Rws.add (r := pairV (ns.getD ij.1 Str.empty, ns.getD ij.2 Str.empty)) hI.1 hI.2 ht
      have hD' : t ≠ D := fun e => by rw [e, a1] at ht; cases ht
      refine ⟨acc, by rw [upd_ne hD'.symm]; exact a1, ?_, a3, ?_⟩
      · have z := ix2_len ns.length
        have z2 : ns.length * ns.length ≤ 10 * 10 := Nat.mul_le_mul hn hn
        rw [a2, List.length_map]
        refine sz_lt (Nat.lt_of_le_of_lt (List.length_take_le' ..) ?_)
        rw [nmP, List.length_map]
        omega
      · rw [List.take_succ, nmP, List.getElem?_map, eij]
        rw [nmP] at a4
        simpa [pairV] using a4
    · rw [List.length_map, paired_len pr, List.length_map] at hI
      rw [show ix2 ns.length = ix2 ns.length from rfl, show (ix2 ns.length).length = (nmP ns).length by rw [nmP, List.length_map], List.take_length] at hI
      exact q D H' (fun b o h => hI.1 b o (s1 b o h)) ⟨same_free s1 hD, hI.2.2.imp fun ps h => ⟨h.1, paired_imp (fun _ _ h => ⟨same_free s1 h.1, h.2⟩) h.2⟩⟩
end
end Z
set_option Elab.async false
set_option linter.all false
set_option maxRecDepth 100000
set_option maxHeartbeats 4000000
namespace Z
open PySem PySem.Spec PyProof.Rows L2 L2H
section
variable {P : Program} {w : World} {K : PySem.W.Frag} {mg : Str → Option Value} {base : Heap}
/-- the place of a name -/
def plO (ns : List Str) (z : Str) : Option V := valV (plc ns) (.inr z)
theorem plO_find : ∀ (ns : List Str) (m : Nat) (z : Str), (((ns.zipIdx m).map fun q => ((Sum.inr q.1, V.int (q.2 : Int)) : Key × V)).find? fun kv => decide (kv.1 = .inr z)).map (·.2) = if z ∈ ns then some (.int ((m + ns.idxOf z : Nat) : Int)) else none
  | [], m, z => rfl
  | a :: ns, m, z => by
    rw [List.zipIdx_cons, List.map_cons, List.find?_cons]
    by_cases h : a = z
    · subst h
      simp
    · have e : decide ((Sum.inr a : Key) = .inr z) = false := decide_eq_false (fun e => h (by injection e))
      simp only [e]
      rw [plO_find ns (m + 1) z]
      have hz : z ≠ a := fun e => h e.symm
      by_cases hm : z ∈ ns
      · rw [if_pos hm, if_pos (List.mem_cons_of_mem _ hm), List.idxOf_cons, show (a == z) = false from beq_eq_false_iff_ne.mpr h]
        simp only [cond_false]
        congr 2
        omega
      · rw [if_neg hm, if_neg (by simp [hz, hm])]
theorem plO_out {ns : List Str} {z : Str} (h : z ∉ ns) : plO ns z = none := by
  have e := plO_find ns 0 z
  rw [if_neg h] at e
  exact e
theorem plO_in {ns : List Str} {z : Str} (h : z ∈ ns) : plO ns z = some (.int (ns.idxOf z : Int)) := by
  have e := plO_find ns 0 z
  rw [if_pos h, Nat.zero_add] at e
  exact e
abbrev s_Pond_position : Stmt := inClass (topS 39) 5
abbrev N_Pond_position : List Str := ["self", "name"]
theorem sc_Pond_position : FnScope N_Pond_position ["self", "name"] (defScope s_Pond_position) := ⟨rfl, rfl, rfl, by decide +kernel, rfl, by decide +kernel, by decide +kernel⟩
theorem b_Pond_position : BindM "position" "Pond.position" s_Pond_position ["self", "name"] := fun _ _ _ _ _ _ us hl => match us, hl with | [_, _], _ => rfl

def sp_position (CP CU : Addr) : Sp := fun vs H Q E => ∃ (p : Addr) (ns : List Str) (z : Str), vs = [.ref p, .str z] ∧ PlAt CP H p ns ∧ (reprText z).length ≤ 20000 ∧ (z ∈ ns → Q (.int (ns.idxOf z : Int)) H) ∧ (z ∉ ns → ∀ (d : Addr) (H' : Hp), Same H H' → H' d = some (.xd [("name", .str z)]) → E (.ref CU) (some d) H')
theorem ok_position {CP CU : Addr} (D : Dm K CP "position" "Pond.position" s_Pond_position) (na_places : NoAttr K CP "_places") (bad_UnknownLot : Bad P w K mg base "UnknownLot" "name" CU) : Cm P w K mg base 3 CP "position" (sp_position CP CU) := by
  have clsP := D.cls
  refine cm_of D sc_Pond_position b_Pond_position (fun vs H Q E h => ?_) (fun f cdv A outer s H vs Q E hr h => ?_)
  · obtain ⟨p, ns, z, rfl, _⟩ := h
    rfl
  · obtain ⟨p, ns, z, rfl, hp, hz, q1, q2⟩ := h
    have tk : Takes (cxOf (L2.CX P w) P w K mg base N_Pond_position "Pond.position" (defScope s_Pond_position) f cdv A outer s H E) (fun cls d _ H => E cls d H) := takes_of rfl rfl rfl rfl
    refine ⟨_, (pss_cons (ps_if (pt_cmpR (op_ninD (u1 hr)) (pv 1) (pe_fq clsP na_places (pv 0)) (by rfl)) (pss_one (ps_raise rfl tk (pmk_bad bad_UnknownLot hr (by omega) rfl (pa_cons (pv 1) pa_nil)))) pss_nil)
      (pss_one (ps_ret (pe_dgQ (u1 hr) (pe_fq clsP na_places (pv 0)) (pv 1) (fun _ _ => rfl))))), ?_⟩
    rw [show L2.start N_Pond_position [.ref p, .str z] = [some (.ref p), some (.str z)] from rfl]
    obtain ⟨dx, fs, nA, d, e1, e2, e3, e4, e5, e6, e7⟩ := id hp
    simp only [tSeq, tNext, tDrop, tRet, tRetN, tIfS, tAsg, gName, tAug, ipI, tVar, tC, tOp, tUn, rI, rI0, rU, tCons, tNil, tCB, tTup, tLst, tTest, tB, tAnd, tOr, tNot, tAndV, tOrV, tNotV, tIf, tCl, tCd, tCk, gSub, rPutL, rAtQ, rIntI, rLenQ, rLenS, rListQ, rTupL, rTupQ, rIsQ_c, kd_non, kd_bl, kd_int, kd_str, kd_ref, kdO_lst, kdO_tup, kit_NoneType_bool, kit_NoneType_int, kit_NoneType_str, kit_NoneType_list, kit_NoneType_tuple, kit_bool_bool, kit_bool_int, kit_bool_str, kit_bool_list, kit_bool_tuple, kit_int_bool, kit_int_int, kit_int_str, kit_int_list, kit_int_tuple, kit_str_bool, kit_str_int, kit_str_str, kit_str_list, kit_str_tuple, kit_list_bool, kit_list_int, kit_list_str, kit_list_list, kit_list_tuple, kit_tuple_bool, kit_tuple_int, kit_tuple_str, kit_tuple_list, kit_tuple_tuple, V.ty.injEq, rSortQ, rSlQ, rMulS, tJn, rAtX, rSlS, tSl, tPart, tNoPart, cut_lo2, cut_hi2, rInQ, gLq, gTq, gC_c, gNil, tChain, List.cons_append, List.nil_append, tBL, tBL0, tBad, tCr, tCe, tXF, cxH_K, HO.xd.injEq, rApp, rPopN, rRevL, seqAt_lst, seqAt_tup, at_0, at_1, at_2, at_3, at_4, ix_0, ix_1, ix_2, ix_3, ix_4, cx_K, upd_same, List.length_cons, List.length_nil, Nat.reduceAdd,  rEq, rNe, tRevL, V.int.injEq, V.bl.injEq, V.str.injEq, V.ref.injEq, List.cons.injEq, and_true, true_and, exists_and_left, exists_and_right, exists_eq_left, exists_eq_left', exists_eq_right, exists_eq_right', exists_const, Option.some.injEq, List.getElem?_cons_zero, List.getElem?_cons_succ, List.set_cons_zero, List.set_cons_succ, decide_eq_true_eq, decide_true, decide_false,  scal_ii, scal_bb, scal_ss, cmul_r, cdiv_l, cpow_12, cpow_18, cpow_40, HO.lst.injEq, HO.tup.injEq, upd_upd, Int.reduceToNat,  decide_not, Bool.not_eq_true', decide_eq_false_iff_not, if_true, if_false, Bool.false_eq_true, Bool.true_eq_false, reduceCtorEq, Int.reduceNeg, Nat.reduceLT, Int.reduceLT, Int.reducePow, gt_iff_lt, tFq, rNinD, tDgQ]
    refine ⟨dx, fs, e1, _, e3, d, rfl, _, e7, ?_⟩
    split
    · rename_i h
      have hn : z ∉ ns := fun hm => by
        have e := plO_in hm
        unfold plO at e
        rw [e] at h
        cases h
      exact ⟨hz, fun d' H' sm _ hd => q2 hn d' H' sm hd⟩
    · rename_i h
      have hm : z ∈ ns := Classical.byContradiction fun hn => by
        have e := plO_out hn
        unfold plO at e
        rw [e] at h
        exact h rfl
      exact ⟨dx, fs, e1, _, e3, d, rfl, _, e7, _, plO_in hm, q1 hm⟩
end
end Z
set_option Elab.async false
set_option linter.all false
set_option maxRecDepth 100000
set_option maxHeartbeats 4000000
namespace Z
open PySem PySem.Spec PyProof.Rows L2 L2H
section
variable {P : Program} {w : World} {K : PySem.W.Frag} {mg : Str → Option Value} {base : Heap}
/-- two lots, the earlier one first -/
def pr2 (ns : List Str) (x y : Str) : Str × Str := if ns.idxOf x ≤ ns.idxOf y then (x, y) else (y, x)
theorem sort2 {r : List Int} {a b : Int} (h : r.Perm [a, b]) (hs : r.Pairwise (· ≤ ·)) : r = if a ≤ b then [a, b] else [b, a] := by
  have hl := h.length_eq
  match r, hl with
  | [c, d], _ =>
    have h1 : c ∈ [a, b] := h.mem_iff.mp (by simp)
    have h2 : d ∈ [a, b] := h.mem_iff.mp (by simp)
    have h3 : a ∈ [c, d] := h.mem_iff.mpr (by simp)
    have h4 : b ∈ [c, d] := h.mem_iff.mpr (by simp)
    have h5 : c ≤ d := by simpa using hs
    simp only [List.mem_cons, List.not_mem_nil, or_false] at h1 h2 h3 h4
    split
    · rw [show c = a by omega, show d = b by omega]
    · rw [show c = b by omega, show d = a by omega]
theorem name_at {ns : List Str} {z : Str} (h : z ∈ ns) : atI (ns.map V.str) (ns.idxOf z : Int) = some (.str z) := atI_nat (by
  rw [List.getElem?_map, List.getElem?_eq_getElem (List.idxOf_lt_length_of_mem h), List.getElem_idxOf] <;> rfl)
abbrev s_Pond_pair_of : Stmt := inClass (topS 39) 7
abbrev N_Pond_pair_of : List Str := ["self", "x", "y", "places"]
theorem sc_Pond_pair_of : FnScope N_Pond_pair_of ["self", "x", "y"] (defScope s_Pond_pair_of) := ⟨rfl, rfl, rfl, by decide +kernel, rfl, by decide +kernel, by decide +kernel⟩
theorem b_Pond_pair_of : BindM "pair_of" "Pond.pair_of" s_Pond_pair_of ["self", "x", "y"] := fun _ _ _ _ _ _ us hl => match us, hl with | [_, _, _], _ => rfl

def sp_pair_of (CP CU CS : Addr) : Sp := fun vs H Q E => ∃ (p : Addr) (ns : List Str) (x y : Str), vs = [.ref p, .str x, .str y] ∧ PlAt CP H p ns ∧ ns.length ≤ 10 ∧ (reprText x).length ≤ 20000 ∧ (reprText y).length ≤ 20000 ∧
  (x ∉ ns → ∀ (d : Addr) (H' : Hp), Same H H' → H' d = some (.xd [("name", .str x)]) → E (.ref CU) (some d) H') ∧
  (x ∈ ns → y ∉ ns → ∀ (d : Addr) (H' : Hp), Same H H' → H' d = some (.xd [("name", .str y)]) → E (.ref CU) (some d) H') ∧
  (x ∈ ns → y ∈ ns → x = y → ∀ (d : Addr) (H' : Hp), Same H H' → H' d = some (.xd [("name", .str x)]) → E (.ref CS) (some d) H') ∧
  (x ∈ ns → y ∈ ns → x ≠ y → ∀ (t : Addr) (H' : Hp), Same H H' → H t = none → H' t = some (.tup (pairV (pr2 ns x y))) → Q (.ref t) H')
theorem ok_pair_of {CP CU CS : Addr} (D : Dm K CP "pair_of" "Pond.pair_of" s_Pond_pair_of) (B : Blt mg) (na_names : NoAttr K CP "_names") (bad_SameLot : Bad P w K mg base "SameLot" "name" CS) (cm_position : Cm P w K mg base 3 CP "position" (sp_position CP CU)) : Cm P w K mg base 4 CP "pair_of" (sp_pair_of CP CU CS) := by
  have clsP := D.cls
  refine cm_of D sc_Pond_pair_of b_Pond_pair_of (fun vs H Q E h => ?_) (fun f cdv A outer s H vs Q E hr h => ?_)
  · obtain ⟨p, ns, x, y, rfl, _⟩ := h
    rfl
  · obtain ⟨p, ns, x, y, rfl, hp, hl, hx, hy, q1, q2, q3, q4⟩ := h
    have tk : Takes (cxOf (L2.CX P w) P w K mg base N_Pond_pair_of "Pond.pair_of" (defScope s_Pond_pair_of) f cdv A outer s H E) (fun cls d _ H => E cls d H) := takes_of rfl rfl rfl rfl
    refine ⟨_, (pss_cons (ps_set (i := 3) sc_Pond_pair_of.nd rfl (.inl rfl) (pe_callB cr_sortQ (by rfl) B.sorted (by decide +kernel) (pa_cons (pe_lst (pa_cons (pe_cm cm_position tk hr (by omega) (pv 0) (pa_cons (pv 1) pa_nil)) (pa_cons (pe_cm cm_position tk hr (by omega) (pv 0) (pa_cons (pv 2) pa_nil)) pa_nil))) pa_nil)))
      (pss_cons (ps_if (pt_cmpR op_eq (pv 1) (pv 2) (nomark _)) (pss_one (ps_raise rfl tk (pmk_bad bad_SameLot hr (by omega) rfl (pa_cons (pv 1) pa_nil)))) pss_nil)
      (pss_one (ps_ret (pe_tup (pa_cons (pe_ix at_seq (pe_fq clsP na_names (pv 0)) (pe_ix at_seq (pv 3) pe_int (fun _ _ => rfl)) (fun _ _ => rfl)) (pa_cons (pe_ix at_seq (pe_fq clsP na_names (pv 0)) (pe_ix at_seq (pv 3) pe_int (fun _ _ => rfl)) (fun _ _ => rfl)) pa_nil))))))), ?_⟩
    rw [show L2.start N_Pond_pair_of [.ref p, .str x, .str y] = [some (.ref p), some (.str x), some (.str y), none] from rfl]
    obtain ⟨dx, fs, nA, d, e1, e2, e3, e4, e5, e6, e7⟩ := id hp
    simp only [tSeq, tNext, tDrop, tRet, tRetN, tIfS, tAsg, gName, tAug, ipI, tVar, tC, tOp, tUn, rI, rI0, rU, tCons, tNil, tCB, tTup, tLst, tTest, tB, tAnd, tOr, tNot, tAndV, tOrV, tNotV, tIf, tCl, tCd, tCk, gSub, rPutL, rAtQ, rIntI, rLenQ, rLenS, rListQ, rTupL, rTupQ, rIsQ_c, kd_non, kd_bl, kd_int, kd_str, kd_ref, kdO_lst, kdO_tup, kit_NoneType_bool, kit_NoneType_int, kit_NoneType_str, kit_NoneType_list, kit_NoneType_tuple, kit_bool_bool, kit_bool_int, kit_bool_str, kit_bool_list, kit_bool_tuple, kit_int_bool, kit_int_int, kit_int_str, kit_int_list, kit_int_tuple, kit_str_bool, kit_str_int, kit_str_str, kit_str_list, kit_str_tuple, kit_list_bool, kit_list_int, kit_list_str, kit_list_list, kit_list_tuple, kit_tuple_bool, kit_tuple_int, kit_tuple_str, kit_tuple_list, kit_tuple_tuple, V.ty.injEq, rSortQ, rSlQ, rMulS, tJn, rAtX, rSlS, tSl, tPart, tNoPart, cut_lo2, cut_hi2, rInQ, gLq, gTq, gC_c, gNil, tChain, List.cons_append, List.nil_append, tBL, tBL0, tBad, tCr, tCe, tXF, cxH_K, HO.xd.injEq, rApp, rPopN, rRevL, seqAt_lst, seqAt_tup, at_0, at_1, at_2, at_3, at_4, ix_0, ix_1, ix_2, ix_3, ix_4, cx_K, upd_same, List.length_cons, List.length_nil, Nat.reduceAdd,  rEq, rNe, tRevL, V.int.injEq, V.bl.injEq, V.str.injEq, V.ref.injEq, List.cons.injEq, and_true, true_and, exists_and_left, exists_and_right, exists_eq_left, exists_eq_left', exists_eq_right, exists_eq_right', exists_const, Option.some.injEq, List.getElem?_cons_zero, List.getElem?_cons_succ, List.set_cons_zero, List.set_cons_succ, decide_eq_true_eq, decide_true, decide_false,  scal_ii, scal_bb, scal_ss, cmul_r, cdiv_l, cpow_12, cpow_18, cpow_40, HO.lst.injEq, HO.tup.injEq, upd_upd, Int.reduceToNat,  decide_not, Bool.not_eq_true', decide_eq_false_iff_not, if_true, if_false, Bool.false_eq_true, Bool.true_eq_false, reduceCtorEq, Int.reduceNeg, Nat.reduceLT, Int.reduceLT, Int.reducePow, gt_iff_lt, tCm]
    refine ⟨dx, fs, e1, e4, p, ns, x, rfl, hp, hx, fun hxm => ?_, fun hxn d' H' sm hd => q1 hxn d' H' sm hd⟩
    simp only [tSeq, tNext, tDrop, tRet, tRetN, tIfS, tAsg, gName, tAug, ipI, tVar, tC, tOp, tUn, rI, rI0, rU, tCons, tNil, tCB, tTup, tLst, tTest, tB, tAnd, tOr, tNot, tAndV, tOrV, tNotV, tIf, tCl, tCd, tCk, gSub, rPutL, rAtQ, rIntI, rLenQ, rLenS, rListQ, rTupL, rTupQ, rIsQ_c, kd_non, kd_bl, kd_int, kd_str, kd_ref, kdO_lst, kdO_tup, kit_NoneType_bool, kit_NoneType_int, kit_NoneType_str, kit_NoneType_list, kit_NoneType_tuple, kit_bool_bool, kit_bool_int, kit_bool_str, kit_bool_list, kit_bool_tuple, kit_int_bool, kit_int_int, kit_int_str, kit_int_list, kit_int_tuple, kit_str_bool, kit_str_int, kit_str_str, kit_str_list, kit_str_tuple, kit_list_bool, kit_list_int, kit_list_str, kit_list_list, kit_list_tuple, kit_tuple_bool, kit_tuple_int, kit_tuple_str, kit_tuple_list, kit_tuple_tuple, V.ty.injEq, rSortQ, rSlQ, rMulS, tJn, rAtX, rSlS, tSl, tPart, tNoPart, cut_lo2, cut_hi2, rInQ, gLq, gTq, gC_c, gNil, tChain, List.cons_append, List.nil_append, tBL, tBL0, tBad, tCr, tCe, tXF, cxH_K, HO.xd.injEq, rApp, rPopN, rRevL, seqAt_lst, seqAt_tup, at_0, at_1, at_2, at_3, at_4, ix_0, ix_1, ix_2, ix_3, ix_4, cx_K, upd_same, List.length_cons, List.length_nil, Nat.reduceAdd,  rEq, rNe, tRevL, V.int.injEq, V.bl.injEq, V.str.injEq, V.ref.injEq, List.cons.injEq, and_true, true_and, exists_and_left, exists_and_right, exists_eq_left, exists_eq_left', exists_eq_right, exists_eq_right', exists_const, Option.some.injEq, List.getElem?_cons_zero, List.getElem?_cons_succ, List.set_cons_zero, List.set_cons_succ, decide_eq_true_eq, decide_true, decide_false,  scal_ii, scal_bb, scal_ss, cmul_r, cdiv_l, cpow_12, cpow_18, cpow_40, HO.lst.injEq, HO.tup.injEq, upd_upd, Int.reduceToNat,  decide_not, Bool.not_eq_true', decide_eq_false_iff_not, if_true, if_false, Bool.false_eq_true, Bool.true_eq_false, reduceCtorEq, Int.reduceNeg, Nat.reduceLT, Int.reduceLT, Int.reducePow, gt_iff_lt, tCm]
    refine ⟨dx, fs, e1, e4, p, ns, y, rfl, hp, hy, fun hym => ?_, fun hyn d' H' sm hd => q2 hxm hyn d' H' sm hd⟩
    simp only [tSeq, tNext, tDrop, tRet, tRetN, tIfS, tAsg, gName, tAug, ipI, tVar, tC, tOp, tUn, rI, rI0, rU, tCons, tNil, tCB, tTup, tLst, tTest, tB, tAnd, tOr, tNot, tAndV, tOrV, tNotV, tIf, tCl, tCd, tCk, gSub, rPutL, rAtQ, rIntI, rLenQ, rLenS, rListQ, rTupL, rTupQ, rIsQ_c, kd_non, kd_bl, kd_int, kd_str, kd_ref, kdO_lst, kdO_tup, kit_NoneType_bool, kit_NoneType_int, kit_NoneType_str, kit_NoneType_list, kit_NoneType_tuple, kit_bool_bool, kit_bool_int, kit_bool_str, kit_bool_list, kit_bool_tuple, kit_int_bool, kit_int_int, kit_int_str, kit_int_list, kit_int_tuple, kit_str_bool, kit_str_int, kit_str_str, kit_str_list, kit_str_tuple, kit_list_bool, kit_list_int, kit_list_str, kit_list_list, kit_list_tuple, kit_tuple_bool, kit_tuple_int, kit_tuple_str, kit_tuple_list, kit_tuple_tuple, V.ty.injEq, rSortQ, rSlQ, rMulS, tJn, rAtX, rSlS, tSl, tPart, tNoPart, cut_lo2, cut_hi2, rInQ, gLq, gTq, gC_c, gNil, tChain, List.cons_append, List.nil_append, tBL, tBL0, tBad, tCr, tCe, tXF, cxH_K, HO.xd.injEq, rApp, rPopN, rRevL, seqAt_lst, seqAt_tup, at_0, at_1, at_2, at_3, at_4, ix_0, ix_1, ix_2, ix_3, ix_4, cx_K, upd_same, List.length_cons, List.length_nil, Nat.reduceAdd,  rEq, rNe, tRevL, V.int.injEq, V.bl.injEq, V.str.injEq, V.ref.injEq, List.cons.injEq, and_true, true_and, exists_and_left, exists_and_right, exists_eq_left, exists_eq_left', exists_eq_right, exists_eq_right', exists_const, Option.some.injEq, List.getElem?_cons_zero, List.getElem?_cons_succ, List.set_cons_zero, List.set_cons_succ, decide_eq_true_eq, decide_true, decide_false,  scal_ii, scal_bb, scal_ss, cmul_r, cdiv_l, cpow_12, cpow_18, cpow_40, HO.lst.injEq, HO.tup.injEq, upd_upd, Int.reduceToNat,  decide_not, Bool.not_eq_true', decide_eq_false_iff_not, if_true, if_false, Bool.false_eq_true, Bool.true_eq_false, reduceCtorEq, Int.reduceNeg, Nat.reduceLT, Int.reduceLT, Int.reducePow, gt_iff_lt, tFq]
    refine ⟨sz_of (by decide), fun l hl1 => ⟨[(ns.idxOf x : Int), (ns.idxOf y : Int)], rfl, fun r l2 pm srt hl2 => ?_⟩⟩
    have er := sort2 pm srt
    subst er
    have sm : Same H (upd (upd H l (.lst [V.int (ns.idxOf x : Int), V.int (ns.idxOf y : Int)])) l2 (.lst (List.map V.int (if (ns.idxOf x : Int) ≤ (ns.idxOf y : Int) then [(ns.idxOf x : Int), (ns.idxOf y : Int)] else [(ns.idxOf y : Int), (ns.idxOf x : Int)])))) := fun b o e => same_new hl2 b o (same_new hl1 b o e)
    split
    · rename_i exy
      exact ⟨hx, fun d' H' s2 _ hd => q3 hxm hym exy d' H' (fun b o e => s2 b o (sm b o e)) hd⟩
    · rename_i nxy
      by_cases le : ns.idxOf x ≤ ns.idxOf y
      · rw [if_pos (Int.ofNat_le.mpr le)] at sm ⊢
        refine ⟨dx, fs, sm _ _ e1, _, e2, _, rfl, nA, rfl, _, rfl, ns.map V.str, by rw [sm _ _ e6] <;> rfl, _, name_at hxm, dx, fs, sm _ _ e1, _, e2, _, rfl, nA, rfl, _, rfl, ns.map V.str, by rw [sm _ _ e6] <;> rfl, _, name_at hym, sz_of (by decide), fun t ht => ?_⟩
        refine q4 hxm hym nxy t _ (fun b o e => same_new ht b o (sm b o e)) (same_free sm ht) ?_
        rw [upd_same, pr2, if_pos le] <;> rfl
      · rw [if_neg (fun h => le (Int.ofNat_le.mp h))] at sm ⊢
        refine ⟨dx, fs, sm _ _ e1, _, e2, _, rfl, nA, rfl, _, rfl, ns.map V.str, by rw [sm _ _ e6] <;> rfl, _, name_at hym, dx, fs, sm _ _ e1, _, e2, _, rfl, nA, rfl, _, rfl, ns.map V.str, by rw [sm _ _ e6] <;> rfl, _, name_at hxm, sz_of (by decide), fun t ht => ?_⟩
        refine q4 hxm hym nxy t _ (fun b o e => same_new ht b o (sm b o e)) (same_free sm ht) ?_
        rw [upd_same, pr2, if_neg le] <;> rfl
end
end Z
set_option Elab.async false
set_option linter.all false
set_option maxRecDepth 100000
set_option maxHeartbeats 4000000
namespace Z
open PySem PySem.Spec PyProof.Rows L2 L2H
section
variable {P : Program} {w : World} {K : PySem.W.Frag} {mg : Str → Option Value} {base : Heap}
def pD (q : Str × Str) : PyData := .tuple [.str q.1, .str q.2]
/-- texts whose signs are signs -/
def OkP (q : Str × Str) : Prop := PyData.strOk q.1 = true ∧ PyData.strOk q.2 = true
theorem pD_shaped {q : Str × Str} (h : OkP q) : SeqAt.shaped (pD q) = true := by
  have h1 : (pD q).canLay0 = true := by simp [pD, PyData.canLay0, PyData.canLayAll0, h.1, h.2]
  have h2 : (pD q).depth = 1 := by simp [pD, PyData.depth, PyData.depthAll]
  show ((pD q).canLay0 && decide ((pD q).depth ≤ 64)) = true
  rw [Bool.and_eq_true]
  exact ⟨h1, decide_eq_true (by omega)⟩
theorem pDs_lay : ∀ qs : List (Str × Str), (∀ q ∈ qs, OkP q) → PyData.canLayAll0 (qs.map pD) = true
  | [], _ => by simp [PyData.canLayAll0]
  | q :: qs, h => by
    have h1 := h q List.mem_cons_self
    simp [PyData.canLayAll0, PyData.canLay0, pD, pDs_lay qs (fun a ha => h a (List.mem_cons_of_mem _ ha)), h1.1, h1.2]
theorem pDs_depth : ∀ qs : List (Str × Str), PyData.depthAll (qs.map pD) ≤ 1
  | [] => by simp [PyData.depthAll]
  | q :: qs => by
    have h1 := pDs_depth qs
    have h2 : (pD q).depth = 1 := by simp [pD, PyData.depth, PyData.depthAll]
    simp only [List.map_cons, PyData.depthAll]
    omega
theorem pDs_shaped {qs : List (Str × Str)} (h : ∀ q ∈ qs, OkP q) : SeqAt.shaped (.list (qs.map pD)) = true := by
  have h1 := pDs_depth qs
  have h2 : PyData.depth (.list (qs.map pD)) ≤ 64 := by
    simp only [PyData.depth]
    omega
  show (PyData.canLay0 (.list (qs.map pD)) && decide (PyData.depth (.list (qs.map pD)) ≤ 64)) = true
  rw [Bool.and_eq_true]
  exact ⟨by simp only [PyData.canLay0]; exact pDs_lay qs h, decide_eq_true h2⟩
theorem pD_eqv (a b : Str × Str) : PyData.eqv (pD a) (pD b) = decide (a = b) := PySem.W.Datum.eqv (α := Str × Str) a b
theorem pD_any (qs : List (Str × Str)) (q : Str × Str) : ((qs.map pD).any fun z => PyData.eqv z (pD q)) = decide (q ∈ qs) := by
  induction qs with
  | nil => simp
  | cons a qs ih =>
    rw [List.map_cons, List.any_cons, ih, pD_eqv]
    by_cases h : a = q
    · subst h; simp
    · rw [decide_eq_false h, Bool.false_or]
      have h' : q ≠ a := fun e => h e.symm
      simp [h']
theorem dp_pair {H : Hp} {p : Addr} {q : Str × Str} (h : H p = some (.tup (pairV q))) : Dp K H (.ref p) (pD q) := .tup (SqT.of h) (.cons (.str q.1) (.cons (.str q.2) .nil))
theorem dp_pairs {H : Hp} : ∀ {ps : List Addr} {qs : List (Str × Str)}, Paired (fun (p : Addr) (q : Str × Str) => H p = some (.tup (pairV q))) ps qs → DpAll K H (ps.map V.ref) (qs.map pD)
  | _, _, .nil => .nil
  | _, _, .cons r t => .cons (dp_pair r) (dp_pairs t)
/-- a tuple of pairs, fresh to F -/
def TPs (F H : Hp) (t : Addr) (ss : List (Str × Str)) : Prop := F t = none ∧ ∃ ts : List Addr, H t = some (.tup (ts.map V.ref)) ∧ Paired (fun (a : Addr) (q : Str × Str) => F a = none ∧ H a = some (.tup (pairV q))) ts ss
theorem nmP_mem {ns : List Str} {q : Str × Str} (h : q ∈ nmP ns) : q.1 ∈ ns ∧ q.2 ∈ ns := by
  obtain ⟨p, hp, rfl⟩ := List.mem_map.mp h
  obtain ⟨l1, l2⟩ := ix2_lt hp
  have l3 : p.1 < ns.length := by omega
  exact ⟨by show ns.getD p.1 Str.empty ∈ ns; rw [List.getD_eq_getElem?_getD, List.getElem?_eq_getElem l3]; exact List.getElem_mem l3, by show ns.getD p.2 Str.empty ∈ ns; rw [List.getD_eq_getElem?_getD, List.getElem?_eq_getElem l2]; exact List.getElem_mem l2⟩
abbrev s_in_pair_order : Stmt := topS 42
abbrev N_in_pair_order : List Str := ["pond", "pairs", "pair"]
theorem sc_in_pair_order : FnScope N_in_pair_order ["pond", "pairs"] (defScope s_in_pair_order) := ⟨rfl, rfl, rfl, by decide +kernel, rfl, by decide +kernel, by decide +kernel⟩
theorem b_in_pair_order : BindO "in_pair_order" s_in_pair_order ["pond", "pairs"] := fun _ _ _ _ _ _ us hl => match us, hl with | [_, _], _ => rfl

def sp_in_pair_order (C : Addr) : Sp := fun vs H Q _ => ∃ (p l : Addr) (ns : List Str) (ps : List Addr) (qs : List (Str × Str)), vs = [.ref p, .ref l] ∧ PlAt C H p ns ∧ ns.length ≤ 10 ∧ (∀ z ∈ ns, PyData.strOk z = true) ∧ H l = some (.lst (ps.map V.ref)) ∧ Paired (fun (a : Addr) (q : Str × Str) => H a = some (.tup (pairV q))) ps qs ∧ (∀ q ∈ qs, OkP q) ∧
  ∀ (t : Addr) (H' : Hp), Same H H' → TPs H H' t ((nmP ns).filter fun q => decide (q ∈ qs)) → Q (.ref t) H'
theorem ok_in_pair_order {CP : Addr} (D : Dn K mg "in_pair_order" s_in_pair_order) (B : Blt mg) (c_lot_pairs : Cl P w K mg base 3 "lot_pairs" (sp_lot_pairs CP)) : Cl P w K mg base 4 "in_pair_order" (sp_in_pair_order CP) := by
  refine cl_of D sc_in_pair_order b_in_pair_order (fun vs H Q E h => ?_) (fun f cdv A outer s H vs Q E hr h => ?_)
  · obtain ⟨p, l, ns, ps, qs, rfl, _⟩ := h
    rfl
  · obtain ⟨p, l, ns, ps, qs, rfl, hp, hn, hok, hl, pq, hqs, q⟩ := h
    refine ⟨_, (pss_one (ps_ret (pe_callTy call_tupL (by rfl) B.tuple (by decide +kernel) (pa_cons (pe_lc (own := [("pair", 2)]) (g := gName 2) rfl sc_in_pair_order.nd (pi_list (pe_cl c_lot_pairs hr (by omega) rfl (pa_cons (pv 0) pa_nil))) (blkOk_by (N := N_in_pair_order) (sc := defScope s_in_pair_order) (own := [("pair", 2)]) (by decide +kernel)) (fun _ _ _ _ _ => (pg_name (i := 2) sc_in_pair_order.nd rfl (Or.inl rfl))) (fun _ _ _ _ _ => (pts_one (pt_cmpR (op_inDK K (u65 hr)) (pv 2) (pv 1) (by rfl)))) (fun _ _ _ _ _ => (pv 2))) pa_nil)))), ?_⟩
    rw [show L2.start N_in_pair_order [.ref p, .ref l] = [some (.ref p), some (.ref l), none] from rfl]
    simp only [tSeq, tNext, tDrop, tRet, tRetN, tIfS, tAsg, gName, tAug, ipI, tVar, tC, tOp, tUn, rI, rI0, rU, tCons, tNil, tCB, tTup, tLst, tTest, tB, tAnd, tOr, tNot, tAndV, tOrV, tNotV, tIf, tCl, tCd, tCk, gSub, rPutL, rAtQ, rIntI, rLenQ, rLenS, rListQ, rTupL, rTupQ, rIsQ_c, kd_non, kd_bl, kd_int, kd_str, kd_ref, kdO_lst, kdO_tup, kit_NoneType_bool, kit_NoneType_int, kit_NoneType_str, kit_NoneType_list, kit_NoneType_tuple, kit_bool_bool, kit_bool_int, kit_bool_str, kit_bool_list, kit_bool_tuple, kit_int_bool, kit_int_int, kit_int_str, kit_int_list, kit_int_tuple, kit_str_bool, kit_str_int, kit_str_str, kit_str_list, kit_str_tuple, kit_list_bool, kit_list_int, kit_list_str, kit_list_list, kit_list_tuple, kit_tuple_bool, kit_tuple_int, kit_tuple_str, kit_tuple_list, kit_tuple_tuple, V.ty.injEq, rSortQ, rSlQ, rMulS, tJn, rAtX, rSlS, tSl, tPart, tNoPart, cut_lo2, cut_hi2, rInQ, gLq, gTq, gC_c, gNil, tChain, List.cons_append, List.nil_append, tBL, tBL0, tBad, tCr, tCe, tXF, cxH_K, HO.xd.injEq, rApp, rPopN, rRevL, seqAt_lst, seqAt_tup, at_0, at_1, at_2, at_3, at_4, ix_0, ix_1, ix_2, ix_3, ix_4, cx_K, upd_same, List.length_cons, List.length_nil, Nat.reduceAdd,  rEq, rNe, tRevL, V.int.injEq, V.bl.injEq, V.str.injEq, V.ref.injEq, List.cons.injEq, and_true, true_and, exists_and_left, exists_and_right, exists_eq_left, exists_eq_left', exists_eq_right, exists_eq_right', exists_const, Option.some.injEq, List.getElem?_cons_zero, List.getElem?_cons_succ, List.set_cons_zero, List.set_cons_succ, decide_eq_true_eq, decide_true, decide_false,  scal_ii, scal_bb, scal_ss, cmul_r, cdiv_l, cpow_12, cpow_18, cpow_40, HO.lst.injEq, HO.tup.injEq, upd_upd, Int.reduceToNat,  decide_not, Bool.not_eq_true', decide_eq_false_iff_not, if_true, if_false, Bool.false_eq_true, Bool.true_eq_false, reduceCtorEq, Int.reduceNeg, Nat.reduceLT, Int.reduceLT, Int.reducePow, gt_iff_lt]
    refine lcE_list ?_
    simp only [tSeq, tNext, tDrop, tRet, tRetN, tIfS, tAsg, gName, tAug, ipI, tVar, tC, tOp, tUn, rI, rI0, rU, tCons, tNil, tCB, tTup, tLst, tTest, tB, tAnd, tOr, tNot, tAndV, tOrV, tNotV, tIf, tCl, tCd, tCk, gSub, rPutL, rAtQ, rIntI, rLenQ, rLenS, rListQ, rTupL, rTupQ, rIsQ_c, kd_non, kd_bl, kd_int, kd_str, kd_ref, kdO_lst, kdO_tup, kit_NoneType_bool, kit_NoneType_int, kit_NoneType_str, kit_NoneType_list, kit_NoneType_tuple, kit_bool_bool, kit_bool_int, kit_bool_str, kit_bool_list, kit_bool_tuple, kit_int_bool, kit_int_int, kit_int_str, kit_int_list, kit_int_tuple, kit_str_bool, kit_str_int, kit_str_str, kit_str_list, kit_str_tuple, kit_list_bool, kit_list_int, kit_list_str, kit_list_list, kit_list_tuple, kit_tuple_bool, kit_tuple_int, kit_tuple_str, kit_tuple_list, kit_tuple_tuple, V.ty.injEq, rSortQ, rSlQ, rMulS, tJn, rAtX, rSlS, tSl, tPart, tNoPart, cut_lo2, cut_hi2, rInQ, gLq, gTq, gC_c, gNil, tChain, List.cons_append, List.nil_append, tBL, tBL0, tBad, tCr, tCe, tXF, cxH_K, HO.xd.injEq, rApp, rPopN, rRevL, seqAt_lst, seqAt_tup, at_0, at_1, at_2, at_3, at_4, ix_0, ix_1, ix_2, ix_3, ix_4, cx_K, upd_same, List.length_cons, List.length_nil, Nat.reduceAdd,  rEq, rNe, tRevL, V.int.injEq, V.bl.injEq, V.str.injEq, V.ref.injEq, List.cons.injEq, and_true, true_and, exists_and_left, exists_and_right, exists_eq_left, exists_eq_left', exists_eq_right, exists_eq_right', exists_const, Option.some.injEq, List.getElem?_cons_zero, List.getElem?_cons_succ, List.set_cons_zero, List.set_cons_succ, decide_eq_true_eq, decide_true, decide_false,  scal_ii, scal_bb, scal_ss, cmul_r, cdiv_l, cpow_12, cpow_18, cpow_40, HO.lst.injEq, HO.tup.injEq, upd_upd, Int.reduceToNat,  decide_not, Bool.not_eq_true', decide_eq_false_iff_not, if_true, if_false, Bool.false_eq_true, Bool.true_eq_false, reduceCtorEq, Int.reduceNeg, Nat.reduceLT, Int.reduceLT, Int.reducePow, gt_iff_lt]
    refine ⟨p, ns, rfl, hp, hn, fun r1 H1 s1 g1 => ?_⟩
    obtain ⟨f1, as, h1, pr⟩ := g1
    have pr2 := paired_mapR pr
    refine ⟨r1, rfl, ⟨_, SqL.of h1⟩, fun D hD => lcG_at (as.map V.ref) (fun i H' => Same H1 H' ∧ ∃ sel : List Addr, H' D = some (.lst (sel.map V.ref)) ∧ Paired (fun (a : Addr) (q : Str × Str) => H a = none ∧ H1 a = some (.tup (pairV q))) sel (((nmP ns).take i).filter fun q => decide (q ∈ qs))) ⟨same_new hD, [], upd_same, .nil⟩ (fun i H' h => SqL.of (h.1 _ _ h1)) (fun i x H' hx hI => ?_) (fun H' hI => ?_)⟩
    · rw [List.getElem?_map] at hx
      obtain ⟨a, ea, rfl⟩ := Option.map_eq_some_iff.mp hx
      obtain ⟨q0, eq0, f2, ha⟩ := paired_get pr2 ea
      simp only [tSeq, tNext, tDrop, tRet, tRetN, tIfS, tAsg, gName, tAug, ipI, tVar, tC, tOp, tUn, rI, rI0, rU, tCons, tNil, tCB, tTup, tLst, tTest, tB, tAnd, tOr, tNot, tAndV, tOrV, tNotV, tIf, tCl, tCd, tCk, gSub, rPutL, rAtQ, rIntI, rLenQ, rLenS, rListQ, rTupL, rTupQ, rIsQ_c, kd_non, kd_bl, kd_int, kd_str, kd_ref, kdO_lst, kdO_tup, kit_NoneType_bool, kit_NoneType_int, kit_NoneType_str, kit_NoneType_list, kit_NoneType_tuple, kit_bool_bool, kit_bool_int, kit_bool_str, kit_bool_list, kit_bool_tuple, kit_int_bool, kit_int_int, kit_int_str, kit_int_list, kit_int_tuple, kit_str_bool, kit_str_int, kit_str_str, kit_str_list, kit_str_tuple, kit_list_bool, kit_list_int, kit_list_str, kit_list_list, kit_list_tuple, kit_tuple_bool, kit_tuple_int, kit_tuple_str, kit_tuple_list, kit_tuple_tuple, V.ty.injEq, rSortQ, rSlQ, rMulS, tJn, rAtX, rSlS, tSl, tPart, tNoPart, cut_lo2, cut_hi2, rInQ, gLq, gTq, gC_c, gNil, tChain, List.cons_append, List.nil_append, tBL, tBL0, tBad, tCr, tCe, tXF, cxH_K, HO.xd.injEq, rApp, rPopN, rRevL, seqAt_lst, seqAt_tup, at_0, at_1, at_2, at_3, at_4, ix_0, ix_1, ix_2, ix_3, ix_4, cx_K, upd_same, List.length_cons, List.length_nil, Nat.reduceAdd,  rEq, rNe, tRevL, V.int.injEq, V.bl.injEq, V.str.injEq, V.ref.injEq, List.cons.injEq, and_true, true_and, exists_and_left, exists_and_right, exists_eq_left, exists_eq_left', exists_eq_right, exists_eq_right', exists_const, Option.some.injEq, List.getElem?_cons_zero, List.getElem?_cons_succ, List.set_cons_zero, List.set_cons_succ, decide_eq_true_eq, decide_true, decide_false,  scal_ii, scal_bb, scal_ss, cmul_r, cdiv_l, cpow_12, cpow_18, cpow_40, HO.lst.injEq, HO.tup.injEq, upd_upd, Int.reduceToNat,  decide_not, Bool.not_eq_true', decide_eq_false_iff_not, if_true, if_false, Bool.false_eq_true, Bool.true_eq_false, reduceCtorEq, Int.reduceNeg, Nat.reduceLT, Int.reduceLT, Int.reducePow, gt_iff_lt, wipe, List.map_cons, List.map_nil, rInD]
      obtain ⟨sm, sel, hsel, psel⟩ := hI
      have S0 : Same H H' := fun b o e => sm b o (s1 b o e)
      have okq : OkP q0 := ⟨hok _ (nmP_mem (List.mem_of_getElem? eq0)).1, hok _ (nmP_mem (List.mem_of_getElem? eq0)).2⟩
      refine ⟨pD q0, dp_pair (sm _ _ ha), qs.map pD, .lst (SqL.of (S0 _ _ hl)) (dp_pairs (paired_imp (fun _ _ h => S0 _ _ h) pq)), pD_shaped okq, pDs_shaped hqs, ?_⟩
      rw [pD_any, List.take_succ, eq0, List.filter_append]
      split
      · rename_i hm
        refine ⟨_, hsel, ?_, same_at sm hD, sel ++ [a], by rw [List.map_append] <;> rfl, ?_⟩
        · have z := ix2_len ns.length
          have z2 : ns.length * ns.length ≤ 10 * 10 := Nat.mul_le_mul hn hn
          rw [List.length_map, paired_len psel]
          refine sz_lt (Nat.lt_of_le_of_lt (List.length_filter_le _ _) (Nat.lt_of_le_of_lt (List.length_take_le' ..) ?_))
          rw [nmP, List.length_map]
          omega
        · have e : ([q0].filter fun q => decide (q ∈ qs)) = [q0] := by simp [of_decide_eq_true hm]
          show Paired _ (sel ++ [a]) (_ ++ ([q0].filter fun q => decide (q ∈ qs)))
          rw [e]
          exact paired_app ⟨f2, ha⟩ psel
      · rename_i hm
        have e : ([q0].filter fun q => decide (q ∈ qs)) = [] := by
          have hm' : q0 ∉ qs := fun h => hm (decide_eq_true h)
          simp [hm']
        refine ⟨sm, sel, hsel, ?_⟩
        show Paired _ sel (_ ++ ([q0].filter fun q => decide (q ∈ qs)))
        rw [e, List.append_nil]
        exact psel
    · obtain ⟨sm, sel, hsel, psel⟩ := hI
      refine ⟨D, rfl, _, hsel, fun t ht => q t _ (fun b o e => same_new ht b o (sm b o (s1 b o e))) ⟨same_free (fun b o e => sm b o (s1 b o e)) ht, sel, upd_same, ?_⟩⟩
      rw [List.length_map, paired_len pr2, List.take_length] at psel
      exact paired_imp (fun b r h => ⟨h.1, by rw [upd_ne (ne_of_none (sm _ _ h.2) ht)]; exact sm _ _ h.2⟩) psel
end
end Z
set_option Elab.async false
set_option linter.all false
set_option maxRecDepth 100000
set_option maxHeartbeats 4000000
namespace Z
open PySem PySem.Spec PyProof.Rows L2 L2H
theorem z_forEn {K : PySem.W.Frag} {ta : TA} {j1 j2 : Nat} {tb : TS} {D : Ends} {σ : L2.St} {H : Hp} (a : Addr) (xs : List V) (h : ∀ Q : List V → Hp → Prop, Q [.ref a] H → ta σ H Q) (hx : SqT K H a xs) (Pv : Nat → L2.St → Hp → Prop) (h0 : Pv 0 σ H)
    (hl : ∀ i σ' H', Pv i σ' H' → SqT K H' a xs) (hs : ∀ i x T σ' H', xs[i]? = some x → Pv i σ' H' → H' T = none → tb { D with nx := Pv (i + 1), ct := Pv (i + 1), bk := D.nx } ((σ'.set j1 (some (.int (i : Nat)))).set j2 (some x)) (upd H' T (.tup [.int (i : Nat), x])))
    (hd : ∀ σ' H', Pv xs.length σ' H' → D.nx σ' H') : tFor (iEnT K ta) (gTq 2 (gC (gName j1) (gC (gName j2) gNil))) tb D σ H := by
  refine h _ ⟨a, xs, rfl, hx, fun i m σ' H' => m = xs.length - i ∧ i ≤ xs.length ∧ Pv i σ' H', ⟨xs.length, (Nat.sub_zero _).symm, Nat.zero_le _, h0⟩, ?_⟩
  rintro i m σ' H' ⟨rfl, hi, q⟩
  have sq := hl i σ' H' q
  by_cases lt : i < xs.length
  · exact .inr ⟨⟨xs, xs[i], sq, List.getElem?_eq_getElem lt⟩, Pv (i + 1), fun σ2 H2 r => ⟨xs.length - (i + 1), by omega, rfl, lt, r⟩, fun x H2 ⟨T, y, e, hT, eH, hx⟩ => by
      subst e eH
      exact ⟨T, rfl, _, upd_same, rfl, show ([] : List V) = [] ∧ _ from ⟨rfl, hs i y T σ' H' (hx xs sq) q hT⟩⟩⟩
  · obtain rfl : i = xs.length := by omega
    exact .inl ⟨⟨xs, sq, rfl⟩, hd σ' H' q⟩
section
variable {P : Program} {w : World} {K : PySem.W.Frag} {mg : Str → Option Value} {base : Heap}
/-- the first i names are good and unlike -/
def GoodTo (ns : List Str) (i : Nat) : Prop := (∀ z ∈ ns.take i, good z = true) ∧ (ns.take i).Nodup
theorem GoodTo.s {ns : List Str} {i : Nat} {z : Str} (g : GoodTo ns i) (e : ns[i]? = some z) (h1 : good z = true) (h2 : z ∉ ns.take i) : GoodTo ns (i + 1) := by
  unfold GoodTo
  rw [List.take_succ, e]
  refine ⟨fun y hy => ?_, ?_⟩
  · rcases List.mem_append.mp hy with hy | hy
    · exact g.1 y hy
    · have : y = z := by simpa using hy
      rw [this]; exact h1
  · refine List.nodup_append.mpr ⟨g.2, by simp, fun a ha b hb => ?_⟩
    have : b = z := by simpa using hb
    rw [this]
    intro e2
    rw [e2] at ha
    exact h2 ha
def fSize : List V → List (Str × V)
  | [n] => [("size", n)]
  | _ => []
abbrev nSize : List Str := ["size"]
theorem inV_strs {x : Str} {ns : List Str} : inV (.str x) (ns.map V.str) = decide (x ∈ ns) := by
  unfold inV
  induction ns with
  | nil => rfl
  | cons a ns ih =>
    rw [List.map_cons, List.any_cons, ih]
    have e : eqV (.str a) (.str x) = decide (a = x) := rfl
    rw [e]
    by_cases h : a = x
    · subst h; simp
    · have h' : x ≠ a := fun e => h e.symm
      simp [h, h']
theorem flat_strs (ns : List Str) : (ns.map V.str).all flatV = true := by
  rw [List.all_map]
  exact List.all_eq_true.mpr fun _ _ => rfl
abbrev s_check_names : Stmt := topS 40
abbrev N_check_names : List Str := ["names", "at", "name"]
theorem sc_check_names : FnScope N_check_names ["names"] (defScope s_check_names) := ⟨rfl, rfl, rfl, by decide +kernel, rfl, by decide +kernel, by decide +kernel⟩
theorem b_check_names : BindO "check_names" s_check_names ["names"] := fun _ _ _ _ _ _ us hl => match us, hl with | [_], _ => rfl

def sp_check_names (CZ CN CR : Addr) : Sp := fun vs H Q E => ∃ (p : Addr) (ns : List Str), vs = [.ref p] ∧ H p = some (.tup (ns.map V.str)) ∧ (∀ z ∈ ns, Tx 1000 z) ∧ ns.length ≤ 1000 ∧
  (ns.length < 1 ∨ ns.length > 10 → ∀ (d : Addr) (H' : Hp), Same H H' → H' d = some (.xd [("size", .int ns.length)]) → E (.ref CZ) (some d) H') ∧
  (∀ i z, ns[i]? = some z → GoodTo ns i → good z = false → ∀ (d : Addr) (H' : Hp), Same H H' → H' d = some (.xd [("name", .str z)]) → E (.ref CN) (some d) H') ∧
  (∀ i z, ns[i]? = some z → GoodTo ns i → good z = true → z ∈ ns.take i → ∀ (d : Addr) (H' : Hp), Same H H' → H' d = some (.xd [("name", .str z)]) → E (.ref CR) (some d) H') ∧
  (1 ≤ ns.length → ns.length ≤ 10 → GoodTo ns ns.length → ∀ H', Same H H' → Q .non H')
theorem ok_check_names {CZ CN CR : Addr} (D : Dn K mg "check_names" s_check_names) (B : Blt mg) (g_MOST_LOTS : ∃ u, mg "MOST_LOTS" = some u ∧ RelV (.int 10) u) (bad_BadSize : BadN P w K mg base "BadSize" 1 nSize fSize CZ) (bad_RepeatedName : Bad P w K mg base "RepeatedName" "name" CR) (c_check_name : Cr P w K mg base 3 "check_name" (sp_check_name CN)) : Cr P w K mg base 4 "check_names" (sp_check_names CZ CN CR) := by
  refine cr_of D sc_check_names b_check_names (fun vs H Q E h => ?_) (fun f cdv A outer s H vs Q E hr h => ?_)
  · obtain ⟨p, ns, rfl, _⟩ := h
    rfl
  · obtain ⟨p, ns, rfl, hp, ht, hn, q1, q2, q3, q4⟩ := h
    have tk : Takes (cxOf (L2.CX P w) P w K mg base N_check_names "check_names" (defScope s_check_names) f cdv A outer s H E) (fun cls d _ H => E cls d H) := takes_of rfl rfl rfl rfl
    refine ⟨_, (pss_cons (ps_if (PW.pt (pw_or (pt_cmpR op_lt (pe_callB call_lenQ (by rfl) B.len PySem.boot_len (pa_cons (pv 0) pa_nil)) pe_int (nomark _)) (pw_or1 (pt_cmpR op_gt (pe_callB call_lenQ (by rfl) B.len PySem.boot_len (pa_cons (pv 0) pa_nil)) (pe_gc rfl g_MOST_LOTS) (nomark _))))) (pss_one (ps_raise rfl tk (pmk_badN bad_BadSize (by decide) hr (by omega) rfl (pa_cons (pe_callB call_lenQ (by rfl) B.len PySem.boot_len (pa_cons (pv 0) pa_nil)) pa_nil)))) pss_nil)
      (pss_one (ps_for (passes_of rfl) rfl (pi_enT (by rfl) B.enumerate (pa_cons (pv 0) pa_nil)) (pg_tq (n := 2) rfl (pgs_c (pg_name (i := 1) sc_check_names.nd rfl (.inl rfl)) (pgs_c (pg_name (i := 2) sc_check_names.nd rfl (.inl rfl)) pgs_nil))) (pss_cons (ps_expr (pe_cr c_check_name tk hr (by omega) rfl (pa_cons (pv 2) pa_nil)))
      (pss_one (ps_if (pt_cmpR op_inQ (pv 2) (pe_slice sl_tupA (pv 0) po_none (po_some (pv 1))) (by rfl)) (pss_one (ps_raise rfl tk (pmk_bad bad_RepeatedName hr (by omega) rfl (pa_cons (pv 2) pa_nil)))) pss_nil)))))), ?_⟩
    rw [show L2.start N_check_names [.ref p] = [some (.ref p), none, none] from rfl]
    simp only [tSeq, tNext, tDrop, tRet, tRetN, tIfS, tAsg, gName, tAug, ipI, tVar, tC, tOp, tUn, rI, rI0, rU, tCons, tNil, tCB, tTup, tLst, tTest, tB, tAnd, tOr, tNot, tAndV, tOrV, tNotV, tIf, tCl, tCd, tCk, gSub, rPutL, rAtQ, rIntI, rLenQ, rLenS, rListQ, rTupL, rTupQ, rIsQ_c, kd_non, kd_bl, kd_int, kd_str, kd_ref, kdO_lst, kdO_tup, kit_NoneType_bool, kit_NoneType_int, kit_NoneType_str, kit_NoneType_list, kit_NoneType_tuple, kit_bool_bool, kit_bool_int, kit_bool_str, kit_bool_list, kit_bool_tuple, kit_int_bool, kit_int_int, kit_int_str, kit_int_list, kit_int_tuple, kit_str_bool, kit_str_int, kit_str_str, kit_str_list, kit_str_tuple, kit_list_bool, kit_list_int, kit_list_str, kit_list_list, kit_list_tuple, kit_tuple_bool, kit_tuple_int, kit_tuple_str, kit_tuple_list, kit_tuple_tuple, V.ty.injEq, rSortQ, rSlQ, rMulS, tJn, rAtX, rSlS, tSl, tPart, tNoPart, cut_lo2, cut_hi2, rInQ, gLq, gTq, gC_c, gNil, tChain, List.cons_append, List.nil_append, tBL, tBL0, tBad, tCr, tCe, tXF, cxH_K, HO.xd.injEq, rApp, rPopN, rRevL, seqAt_lst, seqAt_tup, at_0, at_1, at_2, at_3, at_4, ix_0, ix_1, ix_2, ix_3, ix_4, cx_K, upd_same, List.length_cons, List.length_nil, Nat.reduceAdd,  rEq, rNe, tRevL, V.int.injEq, V.bl.injEq, V.str.injEq, V.ref.injEq, List.cons.injEq, and_true, true_and, exists_and_left, exists_and_right, exists_eq_left, exists_eq_left', exists_eq_right, exists_eq_right', exists_const, Option.some.injEq, List.getElem?_cons_zero, List.getElem?_cons_succ, List.set_cons_zero, List.set_cons_succ, decide_eq_true_eq, decide_true, decide_false,  scal_ii, scal_bb, scal_ss, cmul_r, cdiv_l, cpow_12, cpow_18, cpow_40, HO.lst.injEq, HO.tup.injEq, upd_upd, Int.reduceToNat,  decide_not, Bool.not_eq_true', decide_eq_false_iff_not, if_true, if_false, Bool.false_eq_true, Bool.true_eq_false, reduceCtorEq, Int.reduceNeg, Nat.reduceLT, Int.reduceLT, Int.reducePow, gt_iff_lt]
    refine ⟨ns.map V.str, by rw [hp] <;> rfl, ?_⟩
    split
    · rename_i h0
      rw [List.length_map] at h0
      simp only [tSeq, tNext, tDrop, tRet, tRetN, tIfS, tAsg, gName, tAug, ipI, tVar, tC, tOp, tUn, rI, rI0, rU, tCons, tNil, tCB, tTup, tLst, tTest, tB, tAnd, tOr, tNot, tAndV, tOrV, tNotV, tIf, tCl, tCd, tCk, gSub, rPutL, rAtQ, rIntI, rLenQ, rLenS, rListQ, rTupL, rTupQ, rIsQ_c, kd_non, kd_bl, kd_int, kd_str, kd_ref, kdO_lst, kdO_tup, kit_NoneType_bool, kit_NoneType_int, kit_NoneType_str, kit_NoneType_list, kit_NoneType_tuple, kit_bool_bool, kit_bool_int, kit_bool_str, kit_bool_list, kit_bool_tuple, kit_int_bool, kit_int_int, kit_int_str, kit_int_list, kit_int_tuple, kit_str_bool, kit_str_int, kit_str_str, kit_str_list, kit_str_tuple, kit_list_bool, kit_list_int, kit_list_str, kit_list_list, kit_list_tuple, kit_tuple_bool, kit_tuple_int, kit_tuple_str, kit_tuple_list, kit_tuple_tuple, V.ty.injEq, rSortQ, rSlQ, rMulS, tJn, rAtX, rSlS, tSl, tPart, tNoPart, cut_lo2, cut_hi2, rInQ, gLq, gTq, gC_c, gNil, tChain, List.cons_append, List.nil_append, tBL, tBL0, tBad, tCr, tCe, tXF, cxH_K, HO.xd.injEq, rApp, rPopN, rRevL, seqAt_lst, seqAt_tup, at_0, at_1, at_2, at_3, at_4, ix_0, ix_1, ix_2, ix_3, ix_4, cx_K, upd_same, List.length_cons, List.length_nil, Nat.reduceAdd,  rEq, rNe, tRevL, V.int.injEq, V.bl.injEq, V.str.injEq, V.ref.injEq, List.cons.injEq, and_true, true_and, exists_and_left, exists_and_right, exists_eq_left, exists_eq_left', exists_eq_right, exists_eq_right', exists_const, Option.some.injEq, List.getElem?_cons_zero, List.getElem?_cons_succ, List.set_cons_zero, List.set_cons_succ, decide_eq_true_eq, decide_true, decide_false,  scal_ii, scal_bb, scal_ss, cmul_r, cdiv_l, cpow_12, cpow_18, cpow_40, HO.lst.injEq, HO.tup.injEq, upd_upd, Int.reduceToNat,  decide_not, Bool.not_eq_true', decide_eq_false_iff_not, if_true, if_false, Bool.false_eq_true, Bool.true_eq_false, reduceCtorEq, Int.reduceNeg, Nat.reduceLT, Int.reduceLT, Int.reducePow, gt_iff_lt, tBadN]
      exact ⟨ns.map V.str, by rw [hp] <;> rfl, fun d H' sm _ hd => q1 (.inl (by omega)) d H' sm (by rw [hd, fSize, List.length_map] <;> rfl)⟩
    · rename_i h0
      rw [List.length_map] at h0
      refine ⟨ns.map V.str, by rw [hp] <;> rfl, ?_⟩
      split
      · rename_i h1
        rw [List.length_map] at h1
        simp only [tSeq, tNext, tDrop, tRet, tRetN, tIfS, tAsg, gName, tAug, ipI, tVar, tC, tOp, tUn, rI, rI0, rU, tCons, tNil, tCB, tTup, tLst, tTest, tB, tAnd, tOr, tNot, tAndV, tOrV, tNotV, tIf, tCl, tCd, tCk, gSub, rPutL, rAtQ, rIntI, rLenQ, rLenS, rListQ, rTupL, rTupQ, rIsQ_c, kd_non, kd_bl, kd_int, kd_str, kd_ref, kdO_lst, kdO_tup, kit_NoneType_bool, kit_NoneType_int, kit_NoneType_str, kit_NoneType_list, kit_NoneType_tuple, kit_bool_bool, kit_bool_int, kit_bool_str, kit_bool_list, kit_bool_tuple, kit_int_bool, kit_int_int, kit_int_str, kit_int_list, kit_int_tuple, kit_str_bool, kit_str_int, kit_str_str, kit_str_list, kit_str_tuple, kit_list_bool, kit_list_int, kit_list_str, kit_list_list, kit_list_tuple, kit_tuple_bool, kit_tuple_int, kit_tuple_str, kit_tuple_list, kit_tuple_tuple, V.ty.injEq, rSortQ, rSlQ, rMulS, tJn, rAtX, rSlS, tSl, tPart, tNoPart, cut_lo2, cut_hi2, rInQ, gLq, gTq, gC_c, gNil, tChain, List.cons_append, List.nil_append, tBL, tBL0, tBad, tCr, tCe, tXF, cxH_K, HO.xd.injEq, rApp, rPopN, rRevL, seqAt_lst, seqAt_tup, at_0, at_1, at_2, at_3, at_4, ix_0, ix_1, ix_2, ix_3, ix_4, cx_K, upd_same, List.length_cons, List.length_nil, Nat.reduceAdd,  rEq, rNe, tRevL, V.int.injEq, V.bl.injEq, V.str.injEq, V.ref.injEq, List.cons.injEq, and_true, true_and, exists_and_left, exists_and_right, exists_eq_left, exists_eq_left', exists_eq_right, exists_eq_right', exists_const, Option.some.injEq, List.getElem?_cons_zero, List.getElem?_cons_succ, List.set_cons_zero, List.set_cons_succ, decide_eq_true_eq, decide_true, decide_false,  scal_ii, scal_bb, scal_ss, cmul_r, cdiv_l, cpow_12, cpow_18, cpow_40, HO.lst.injEq, HO.tup.injEq, upd_upd, Int.reduceToNat,  decide_not, Bool.not_eq_true', decide_eq_false_iff_not, if_true, if_false, Bool.false_eq_true, Bool.true_eq_false, reduceCtorEq, Int.reduceNeg, Nat.reduceLT, Int.reduceLT, Int.reducePow, gt_iff_lt, tBadN]
        exact ⟨ns.map V.str, by rw [hp] <;> rfl, fun d H' sm _ hd => q1 (.inr (by omega)) d H' sm (by rw [hd, fSize, List.length_map] <;> rfl)⟩
      · rename_i h1
        rw [List.length_map] at h1
        refine z_forEn p (ns.map V.str) (fun Q q => ?_) (SqT.of hp) (fun i σ' H' => ∃ b c, σ' = [some (.ref p), b, c] ∧ Same H H' ∧ GoodTo ns i) ⟨none, none, rfl, fun _ _ h => h, ⟨fun z hz => by simp at hz, by simp⟩⟩ (fun i σ' H' ⟨b, c, e, sm, _⟩ => SqT.of (sm _ _ hp)) (fun i x T σ' H' hx ⟨b, c, e, sm, gd⟩ hT => ?_) (fun σ' H' ⟨b, c, e, sm, gd⟩ => ?_)
        · simp only [tSeq, tNext, tDrop, tRet, tRetN, tIfS, tAsg, gName, tAug, ipI, tVar, tC, tOp, tUn, rI, rI0, rU, tCons, tNil, tCB, tTup, tLst, tTest, tB, tAnd, tOr, tNot, tAndV, tOrV, tNotV, tIf, tCl, tCd, tCk, gSub, rPutL, rAtQ, rIntI, rLenQ, rLenS, rListQ, rTupL, rTupQ, rIsQ_c, kd_non, kd_bl, kd_int, kd_str, kd_ref, kdO_lst, kdO_tup, kit_NoneType_bool, kit_NoneType_int, kit_NoneType_str, kit_NoneType_list, kit_NoneType_tuple, kit_bool_bool, kit_bool_int, kit_bool_str, kit_bool_list, kit_bool_tuple, kit_int_bool, kit_int_int, kit_int_str, kit_int_list, kit_int_tuple, kit_str_bool, kit_str_int, kit_str_str, kit_str_list, kit_str_tuple, kit_list_bool, kit_list_int, kit_list_str, kit_list_list, kit_list_tuple, kit_tuple_bool, kit_tuple_int, kit_tuple_str, kit_tuple_list, kit_tuple_tuple, V.ty.injEq, rSortQ, rSlQ, rMulS, tJn, rAtX, rSlS, tSl, tPart, tNoPart, cut_lo2, cut_hi2, rInQ, gLq, gTq, gC_c, gNil, tChain, List.cons_append, List.nil_append, tBL, tBL0, tBad, tCr, tCe, tXF, cxH_K, HO.xd.injEq, rApp, rPopN, rRevL, seqAt_lst, seqAt_tup, at_0, at_1, at_2, at_3, at_4, ix_0, ix_1, ix_2, ix_3, ix_4, cx_K, upd_same, List.length_cons, List.length_nil, Nat.reduceAdd,  rEq, rNe, tRevL, V.int.injEq, V.bl.injEq, V.str.injEq, V.ref.injEq, List.cons.injEq, and_true, true_and, exists_and_left, exists_and_right, exists_eq_left, exists_eq_left', exists_eq_right, exists_eq_right', exists_const, Option.some.injEq, List.getElem?_cons_zero, List.getElem?_cons_succ, List.set_cons_zero, List.set_cons_succ, decide_eq_true_eq, decide_true, decide_false,  scal_ii, scal_bb, scal_ss, cmul_r, cdiv_l, cpow_12, cpow_18, cpow_40, HO.lst.injEq, HO.tup.injEq, upd_upd, Int.reduceToNat,  decide_not, Bool.not_eq_true', decide_eq_false_iff_not, if_true, if_false, Bool.false_eq_true, Bool.true_eq_false, reduceCtorEq, Int.reduceNeg, Nat.reduceLT, Int.reduceLT, Int.reducePow, gt_iff_lt]
          exact q
        · subst e
          rw [List.getElem?_map] at hx
          obtain ⟨z, ez, rfl⟩ := Option.map_eq_some_iff.mp hx
          have tz := ht z (List.mem_of_getElem? ez)
          have sm2 : Same H (upd H' T (.tup [.int (i : Nat), .str z])) := fun b o e => same_new hT b o (sm b o e)
          simp only [tSeq, tNext, tDrop, tRet, tRetN, tIfS, tAsg, gName, tAug, ipI, tVar, tC, tOp, tUn, rI, rI0, rU, tCons, tNil, tCB, tTup, tLst, tTest, tB, tAnd, tOr, tNot, tAndV, tOrV, tNotV, tIf, tCl, tCd, tCk, gSub, rPutL, rAtQ, rIntI, rLenQ, rLenS, rListQ, rTupL, rTupQ, rIsQ_c, kd_non, kd_bl, kd_int, kd_str, kd_ref, kdO_lst, kdO_tup, kit_NoneType_bool, kit_NoneType_int, kit_NoneType_str, kit_NoneType_list, kit_NoneType_tuple, kit_bool_bool, kit_bool_int, kit_bool_str, kit_bool_list, kit_bool_tuple, kit_int_bool, kit_int_int, kit_int_str, kit_int_list, kit_int_tuple, kit_str_bool, kit_str_int, kit_str_str, kit_str_list, kit_str_tuple, kit_list_bool, kit_list_int, kit_list_str, kit_list_list, kit_list_tuple, kit_tuple_bool, kit_tuple_int, kit_tuple_str, kit_tuple_list, kit_tuple_tuple, V.ty.injEq, rSortQ, rSlQ, rMulS, tJn, rAtX, rSlS, tSl, tPart, tNoPart, cut_lo2, cut_hi2, rInQ, gLq, gTq, gC_c, gNil, tChain, List.cons_append, List.nil_append, tBL, tBL0, tBad, tCr, tCe, tXF, cxH_K, HO.xd.injEq, rApp, rPopN, rRevL, seqAt_lst, seqAt_tup, at_0, at_1, at_2, at_3, at_4, ix_0, ix_1, ix_2, ix_3, ix_4, cx_K, upd_same, List.length_cons, List.length_nil, Nat.reduceAdd,  rEq, rNe, tRevL, V.int.injEq, V.bl.injEq, V.str.injEq, V.ref.injEq, List.cons.injEq, and_true, true_and, exists_and_left, exists_and_right, exists_eq_left, exists_eq_left', exists_eq_right, exists_eq_right', exists_const, Option.some.injEq, List.getElem?_cons_zero, List.getElem?_cons_succ, List.set_cons_zero, List.set_cons_succ, decide_eq_true_eq, decide_true, decide_false,  scal_ii, scal_bb, scal_ss, cmul_r, cdiv_l, cpow_12, cpow_18, cpow_40, HO.lst.injEq, HO.tup.injEq, upd_upd, Int.reduceToNat,  decide_not, Bool.not_eq_true', decide_eq_false_iff_not, if_true, if_false, Bool.false_eq_true, Bool.true_eq_false, reduceCtorEq, Int.reduceNeg, Nat.reduceLT, Int.reduceLT, Int.reducePow, gt_iff_lt]
          refine ⟨z, rfl, tz, fun gz H2 s2 => ?_, fun gz d H2 s2 hd => q2 i z ez gd gz d H2 (fun b o e => s2 b o (sm2 b o e)) hd⟩
          simp only [tSeq, tNext, tDrop, tRet, tRetN, tIfS, tAsg, gName, tAug, ipI, tVar, tC, tOp, tUn, rI, rI0, rU, tCons, tNil, tCB, tTup, tLst, tTest, tB, tAnd, tOr, tNot, tAndV, tOrV, tNotV, tIf, tCl, tCd, tCk, gSub, rPutL, rAtQ, rIntI, rLenQ, rLenS, rListQ, rTupL, rTupQ, rIsQ_c, kd_non, kd_bl, kd_int, kd_str, kd_ref, kdO_lst, kdO_tup, kit_NoneType_bool, kit_NoneType_int, kit_NoneType_str, kit_NoneType_list, kit_NoneType_tuple, kit_bool_bool, kit_bool_int, kit_bool_str, kit_bool_list, kit_bool_tuple, kit_int_bool, kit_int_int, kit_int_str, kit_int_list, kit_int_tuple, kit_str_bool, kit_str_int, kit_str_str, kit_str_list, kit_str_tuple, kit_list_bool, kit_list_int, kit_list_str, kit_list_list, kit_list_tuple, kit_tuple_bool, kit_tuple_int, kit_tuple_str, kit_tuple_list, kit_tuple_tuple, V.ty.injEq, rSortQ, rSlQ, rMulS, tJn, rAtX, rSlS, tSl, tPart, tNoPart, cut_lo2, cut_hi2, rInQ, gLq, gTq, gC_c, gNil, tChain, List.cons_append, List.nil_append, tBL, tBL0, tBad, tCr, tCe, tXF, cxH_K, HO.xd.injEq, rApp, rPopN, rRevL, seqAt_lst, seqAt_tup, at_0, at_1, at_2, at_3, at_4, ix_0, ix_1, ix_2, ix_3, ix_4, cx_K, upd_same, List.length_cons, List.length_nil, Nat.reduceAdd,  rEq, rNe, tRevL, V.int.injEq, V.bl.injEq, V.str.injEq, V.ref.injEq, List.cons.injEq, and_true, true_and, exists_and_left, exists_and_right, exists_eq_left, exists_eq_left', exists_eq_right, exists_eq_right', exists_const, Option.some.injEq, List.getElem?_cons_zero, List.getElem?_cons_succ, List.set_cons_zero, List.set_cons_succ, decide_eq_true_eq, decide_true, decide_false,  scal_ii, scal_bb, scal_ss, cmul_r, cdiv_l, cpow_12, cpow_18, cpow_40, HO.lst.injEq, HO.tup.injEq, upd_upd, Int.reduceToNat,  decide_not, Bool.not_eq_true', decide_eq_false_iff_not, if_true, if_false, Bool.false_eq_true, Bool.true_eq_false, reduceCtorEq, Int.reduceNeg, Nat.reduceLT, Int.reduceLT, Int.reducePow, gt_iff_lt]
          have sm3 : Same H H2 := fun b o e => s2 b o (sm2 b o e)
          have hi : i < ns.length := (List.getElem?_eq_some_iff.mp ez).1
          refine ⟨p, ns.map V.str, rfl, SqT.of (sm3 _ _ hp), fun ⟨_, e⟩ => ?_, fun _ t ht2 => ⟨t, rfl, (ns.take i).map V.str, ?_, rfl, flat_strs _, ?_⟩⟩
          · rw [HT.sIx_nat, List.length_map] at e
            omega
          · rw [cut_to (by rw [List.length_map]; omega), List.map_take, upd_same] <;> rfl
          · rw [inV_strs]
            split
            · rename_i hm
              exact ⟨reprText_le tz, fun d H3 s3 _ hd => q3 i z ez gd gz (of_decide_eq_true hm) d H3 (fun b o e => s3 b o (same_new ht2 b o (sm3 b o e))) hd⟩
            · rename_i hm
              exact ⟨⟨⟨_, rfl⟩, ⟨_, rfl⟩⟩, fun b o e => same_new ht2 b o (sm3 b o e), gd.s ez gz fun h => hm (decide_eq_true h)⟩
        · rw [List.length_map] at gd
          exact q4 (by omega) (by omega) gd H' sm
end
end Z
set_option Elab.async false
set_option linter.all false
set_option maxRecDepth 100000
set_option maxHeartbeats 4000000
namespace Z
open PySem PySem.Spec PyProof.Rows L2 L2H
section
variable {P : Program} {w : World} {K : PySem.W.Frag} {mg : Str → Option Value} {base : Heap}
/-- a pond -/
def PondAt (C : Addr) (H : Hp) (p : Addr) (ns : List Str) (ss : List (Str × Str)) : Prop := ∃ dx n d t, H p = some (.ins C dx [("_names", .ref n), ("_places", .ref d), ("_strifes", .ref t)]) ∧ H n = some (.tup (ns.map V.str)) ∧ H d = some (.dK (plc ns)) ∧
  ∃ ts : List Addr, H t = some (.tup (ts.map V.ref)) ∧ Paired (fun (a : Addr) (q : Str × Str) => H a = some (.tup (pairV q))) ts ss
theorem PondAt.pl {C : Addr} {H : Hp} {p : Addr} {ns : List Str} {ss : List (Str × Str)} (h : PondAt C H p ns ss) : PlAt C H p ns := by
  obtain ⟨dx, n, d, t, e1, e2, e3, _⟩ := h
  exact ⟨dx, _, n, d, e1, rfl, rfl, rfl, rfl, e2, e3⟩
theorem PondAt.same {C : Addr} {H H' : Hp} {p : Addr} {ns : List Str} {ss : List (Str × Str)} (s : Same H H') (h : PondAt C H p ns ss) : PondAt C H' p ns ss := by
  obtain ⟨dx, n, d, t, e1, e2, e3, ts, e4, pr⟩ := h
  exact ⟨dx, n, d, t, s _ _ e1, s _ _ e2, s _ _ e3, ts, s _ _ e4, paired_imp (fun _ _ h => s _ _ h) pr⟩
/-- names that make a pond -/
structure Nms (ns : List Str) : Prop where
  good : ∀ z ∈ ns, good z = true
  nd : ns.Nodup
  lo : 1 ≤ ns.length
  hi : ns.length ≤ 10
  tx : ∀ z ∈ ns, Tx 1000 z
theorem nd_take {ns : List Str} {i : Nat} {z : Str} (nd : ns.Nodup) (e : ns[i]? = some z) : z ∉ ns.take i := fun h => by
  obtain ⟨hi, ei⟩ := List.getElem?_eq_some_iff.mp e
  obtain ⟨j, hj, ej⟩ := List.mem_iff_getElem.mp h
  rw [List.length_take] at hj
  rw [List.getElem_take] at ej
  exact List.pairwise_iff_getElem.mp nd j i (by omega) hi (by omega) (ej.trans ei.symm)
theorem plc_put {ns : List Str} {i : Nat} {z : Str} (nd : ns.Nodup) (e : ns[i]? = some z) : putK (plc (ns.take i)) (.inr z) (.int (i : Int)) = plc (ns.take (i + 1)) := by
  have hi : i < ns.length := (List.getElem?_eq_some_iff.mp e).1
  have hz : z ∉ ns.take i := nd_take nd e
  have hn : ((plc (ns.take i)).any fun kv => decide (kv.1 = (.inr z : Key))) = false := by
    rw [List.any_eq_false]
    intro q hq hd
    obtain ⟨r, hr, rfl⟩ := List.mem_map.mp hq
    have e1 : (Sum.inr r.1 : Key) = .inr z := of_decide_eq_true hd
    injection e1 with e2
    have hm : r.1 ∈ ns.take i := by
      have h1 : r.1 ∈ (ns.take i).zipIdx.map Prod.fst := List.mem_map.mpr ⟨r, hr, rfl⟩
      rwa [List.zipIdx_map_fst] at h1
    rw [e2] at hm
    exact hz hm
  unfold putK
  rw [hn]
  simp only [Bool.false_eq_true, if_false]
  rw [List.take_succ, e]
  unfold plc
  rw [show (some z : Option Str).toList = [z] from rfl, List.zipIdx_append, List.map_append]
  simp [List.length_take, Nat.min_eq_left (Nat.le_of_lt hi)]
theorem tx_ok {n : Nat} {x : Str} (t : Tx n x) : PyData.strOk x = true := by
  unfold PyData.strOk
  rw [← Array.all_toList, List.all_eq_true]
  intro c hc
  exact decide_eq_true (Nat.lt_trans (t.low c hc) (by decide))
theorem pr2_in {ns : List Str} {x y : Str} (hx : x ∈ ns) (hy : y ∈ ns) : (pr2 ns x y).1 ∈ ns ∧ (pr2 ns x y).2 ∈ ns := by
  unfold pr2
  split
  · exact ⟨hx, hy⟩
  · exact ⟨hy, hx⟩
theorem Rws.add2 {F H H' : Hp} {D t : Addr} {rs : List (List V)} {r : List V} (sm : Same F H) (g : Rws F H D rs) (s2 : Same H H') (ht : H t = none) (ht2 : H' t = some (.tup r)) :
    ∃ acc, H' D = some (.lst acc) ∧ acc.length = rs.length ∧ Same F (upd H' D (.lst (acc ++ [.ref t]))) ∧ Rws F (upd H' D (.lst (acc ++ [.ref t]))) D (rs ++ [r]) := by
  obtain ⟨h0, ps, h1, pr⟩ := g
  have ne : t ≠ D := fun e => by rw [e, h1] at ht; cases ht
  refine ⟨_, s2 _ _ h1, by rw [List.length_map, paired_len pr], same_at (fun b o e => s2 b o (sm b o e)) h0, h0, ps ++ [t], by rw [upd_same, List.map_append] <;> rfl, paired_app ⟨same_free sm ht, by rw [upd_ne ne]; exact ht2⟩ (paired_imp (fun b r' ⟨u, v⟩ => ⟨u, ?_⟩) pr)⟩
  have n2 : b ≠ D := fun e => by rw [e, h1] at v; cases v
  rw [upd_ne n2]
  exact s2 _ _ v
abbrev s_Pond___init__ : Stmt := inClass (topS 39) 0
abbrev N_Pond___init__ : List Str := ["self", "names", "strifes", "at", "name", "x", "y"]
theorem sc_Pond___init__ : FnScope N_Pond___init__ ["self", "names", "strifes"] (defScope s_Pond___init__) := ⟨rfl, rfl, rfl, by decide +kernel, rfl, by decide +kernel, by decide +kernel⟩

def sp_init (CP : Addr) : Sp := fun vs H Q _ => ∃ (p n l dx : Addr) (ns : List Str) (ts : List Addr) (qs : List (Str × Str)), vs = [.ref p, .ref n, .ref l] ∧ H p = some (.ins CP dx []) ∧ H n = some (.tup (ns.map V.str)) ∧ Nms ns ∧ H l = some (.lst (ts.map V.ref)) ∧ ts.length ≤ 1000 ∧
  Paired (fun (a : Addr) (q : Str × Str) => H a = some (.tup (pairV q)) ∧ q.1 ∈ ns ∧ q.2 ∈ ns ∧ q.1 ≠ q.2) ts qs ∧
  ∀ H', (∀ b o, b ≠ p → H b = some o → H' b = some o) → PondAt CP H' p ns ((nmP ns).filter fun q => decide (q ∈ qs.map fun q => pr2 ns q.1 q.2)) → Q .non H'
theorem ok_init {CP CZ CN CR CU CS : Addr} {kws : List (Str × V)} {f : Addr} {fd : FuncData} (FD : FunD K "__init__" "Pond.__init__" (defArgs s_Pond___init__) (defBody s_Pond___init__) (defScope s_Pond___init__) [] kws f fd) (clsP : Cls K CP) (B : Blt mg)
    (na_names : NoAttr K CP "_names") (na_places : NoAttr K CP "_places") (na_strifes : NoAttr K CP "_strifes") (c_check_names : Cr P w K mg base 4 "check_names" (sp_check_names CZ CN CR)) (cm_pair_of : Cm P w K mg base 4 CP "pair_of" (sp_pair_of CP CU CS)) (c_in_pair_order : Cl P w K mg base 4 "in_pair_order" (sp_in_pair_order CP)) :
    FnOk P w K mg base (L2.CX P w) 5 f fd ["self", "names", "strifes"] (sp_init CP) := by
  refine FD.ok sc_Pond___init__ (fun vs H Q E h => ?_) (fun cdv A outer s H vs Q E hr h => ?_)
  · obtain ⟨p, n, l, dx, ns, ts, qs, rfl, _⟩ := h
    rfl
  · obtain ⟨p, n, l, dx, ns, ts, qs, rfl, hp, hn, nm, hl, hlen, pq, q⟩ := h
    have tk : Takes (cxOf (L2.CX P w) P w K mg base N_Pond___init__ "Pond.__init__" (defScope s_Pond___init__) f cdv A outer s H E) (fun cls d _ H => E cls d H) := takes_of rfl rfl rfl rfl
    refine ⟨_, (pss_cons (ps_expr (pe_cr c_check_names tk hr (by omega) rfl (pa_cons (pv 1) pa_nil)))
      (pss_cons (ps_fq clsP na_names (pv 0) (pe_callTy call_tupQ (by rfl) B.tuple (by decide +kernel) (pa_cons (pv 1) pa_nil)))
      (pss_cons (ps_fq clsP na_places (pv 0) (pe_dc (own := [("at", 3), ("name", 4)]) (g := gTq 2 (gC (gName 3) (gC (gName 4) gNil))) rfl sc_Pond___init__.nd (pi_enT (by rfl) B.enumerate (pa_cons (pv 1) pa_nil)) (blkOk_by (N := N_Pond___init__) (sc := defScope s_Pond___init__) (own := [("at", 3), ("name", 4)]) (by decide +kernel)) (fun _ _ _ _ _ => (pg_tq rfl (pgs_c (pg_name (i := 3) sc_Pond___init__.nd rfl (Or.inl rfl)) (pgs_c (pg_name (i := 4) sc_Pond___init__.nd rfl (Or.inl rfl)) pgs_nil)))) (fun _ _ _ _ _ => pts_nil) (fun _ _ _ _ _ => (pv 4)) (fun _ _ _ _ _ => (pv 3))))
      (pss_one (ps_fq clsP na_strifes (pv 0) (pe_cl c_in_pair_order hr (by omega) rfl (pa_cons (pv 0) (pa_cons (pe_lcX (own := [("x", 5), ("y", 6)]) (g := gTq 2 (gC (gName 5) (gC (gName 6) gNil))) rfl rfl tk rfl sc_Pond___init__.nd (pi_list (pv 2)) (blkOk_by (N := N_Pond___init__) (sc := defScope s_Pond___init__) (own := [("x", 5), ("y", 6)]) (by decide +kernel)) (fun _ _ _ _ _ _ => (pg_tq rfl (pgs_c (pg_name (i := 5) sc_Pond___init__.nd rfl (Or.inl rfl)) (pgs_c (pg_name (i := 6) sc_Pond___init__.nd rfl (Or.inl rfl)) pgs_nil)))) (fun _ _ _ _ _ _ hx => pts_nil) (fun _ _ _ _ _ _ hx => (pe_cmP cm_pair_of hx hr (by omega) (pv 0) (pa_cons (pv 5) (pa_cons (pv 6) pa_nil))))) pa_nil)))))))), ?_⟩
    rw [show L2.start N_Pond___init__ [.ref p, .ref n, .ref l] = [some (.ref p), some (.ref n), some (.ref l), none, none, none, none] from rfl]
    simp only [tSeq, tNext, tDrop, tRet, tRetN, tIfS, tAsg, gName, tAug, ipI, tVar, tC, tOp, tUn, rI, rI0, rU, tCons, tNil, tCB, tTup, tLst, tTest, tB, tAnd, tOr, tNot, tAndV, tOrV, tNotV, tIf, tCl, tCd, tCk, gSub, rPutL, rAtQ, rIntI, rLenQ, rLenS, rListQ, rTupL, rTupQ, rIsQ_c, kd_non, kd_bl, kd_int, kd_str, kd_ref, kdO_lst, kdO_tup, kit_NoneType_bool, kit_NoneType_int, kit_NoneType_str, kit_NoneType_list, kit_NoneType_tuple, kit_bool_bool, kit_bool_int, kit_bool_str, kit_bool_list, kit_bool_tuple, kit_int_bool, kit_int_int, kit_int_str, kit_int_list, kit_int_tuple, kit_str_bool, kit_str_int, kit_str_str, kit_str_list, kit_str_tuple, kit_list_bool, kit_list_int, kit_list_str, kit_list_list, kit_list_tuple, kit_tuple_bool, kit_tuple_int, kit_tuple_str, kit_tuple_list, kit_tuple_tuple, V.ty.injEq, rSortQ, rSlQ, rMulS, tJn, rAtX, rSlS, tSl, tPart, tNoPart, cut_lo2, cut_hi2, rInQ, gLq, gTq, gC_c, gNil, tChain, List.cons_append, List.nil_append, tBL, tBL0, tBad, tCr, tCe, tXF, cxH_K, HO.xd.injEq, rApp, rPopN, rRevL, seqAt_lst, seqAt_tup, at_0, at_1, at_2, at_3, at_4, ix_0, ix_1, ix_2, ix_3, ix_4, cx_K, upd_same, List.length_cons, List.length_nil, Nat.reduceAdd,  rEq, rNe, tRevL, V.int.injEq, V.bl.injEq, V.str.injEq, V.ref.injEq, List.cons.injEq, and_true, true_and, exists_and_left, exists_and_right, exists_eq_left, exists_eq_left', exists_eq_right, exists_eq_right', exists_const, Option.some.injEq, List.getElem?_cons_zero, List.getElem?_cons_succ, List.set_cons_zero, List.set_cons_succ, decide_eq_true_eq, decide_true, decide_false,  scal_ii, scal_bb, scal_ss, cmul_r, cdiv_l, cpow_12, cpow_18, cpow_40, HO.lst.injEq, HO.tup.injEq, upd_upd, Int.reduceToNat,  decide_not, Bool.not_eq_true', decide_eq_false_iff_not, if_true, if_false, Bool.false_eq_true, Bool.true_eq_false, reduceCtorEq, Int.reduceNeg, Nat.reduceLT, Int.reduceLT, Int.reducePow, gt_iff_lt, sFq]
    refine ⟨n, ns, rfl, hn, nm.tx, by have := nm.hi; omega, fun h => absurd h (by have := nm.hi; have := nm.lo; omega), fun i z ez _ gz => ?_, fun i z ez _ _ hm => ?_, fun _ _ _ H1 s1 => ?_⟩
    · rw [nm.good z (List.mem_of_getElem? ez)] at gz
      cases gz
    · exact absurd hm (nd_take nm.nd ez)
    · dsimp only
      have np : n ≠ p := fun e => by rw [e, hp] at hn; cases hn
      refine ⟨_, .inr ⟨s1 _ _ hn, dx, [], s1 _ _ hp, by decide, ?_⟩⟩
      obtain ⟨H2, eH2⟩ : ∃ H2, H2 = upd H1 p (.ins CP dx (putF "_names" (.ref n) [])) := ⟨_, rfl⟩
      have hp2 : H2 p = some (.ins CP dx [("_names", .ref n)]) := by rw [eH2, upd_same] <;> rfl
      have b2 : ∀ b o, b ≠ p → H b = some o → H2 b = some o := fun b o h e => by rw [eH2, upd_ne h]; exact s1 _ _ e
      rw [← eH2]
      clear eH2
      refine dcE ?_
      simp only [tSeq, tNext, tDrop, tRet, tRetN, tIfS, tAsg, gName, tAug, ipI, tVar, tC, tOp, tUn, rI, rI0, rU, tCons, tNil, tCB, tTup, tLst, tTest, tB, tAnd, tOr, tNot, tAndV, tOrV, tNotV, tIf, tCl, tCd, tCk, gSub, rPutL, rAtQ, rIntI, rLenQ, rLenS, rListQ, rTupL, rTupQ, rIsQ_c, kd_non, kd_bl, kd_int, kd_str, kd_ref, kdO_lst, kdO_tup, kit_NoneType_bool, kit_NoneType_int, kit_NoneType_str, kit_NoneType_list, kit_NoneType_tuple, kit_bool_bool, kit_bool_int, kit_bool_str, kit_bool_list, kit_bool_tuple, kit_int_bool, kit_int_int, kit_int_str, kit_int_list, kit_int_tuple, kit_str_bool, kit_str_int, kit_str_str, kit_str_list, kit_str_tuple, kit_list_bool, kit_list_int, kit_list_str, kit_list_list, kit_list_tuple, kit_tuple_bool, kit_tuple_int, kit_tuple_str, kit_tuple_list, kit_tuple_tuple, V.ty.injEq, rSortQ, rSlQ, rMulS, tJn, rAtX, rSlS, tSl, tPart, tNoPart, cut_lo2, cut_hi2, rInQ, gLq, gTq, gC_c, gNil, tChain, List.cons_append, List.nil_append, tBL, tBL0, tBad, tCr, tCe, tXF, cxH_K, HO.xd.injEq, rApp, rPopN, rRevL, seqAt_lst, seqAt_tup, at_0, at_1, at_2, at_3, at_4, ix_0, ix_1, ix_2, ix_3, ix_4, cx_K, upd_same, List.length_cons, List.length_nil, Nat.reduceAdd,  rEq, rNe, tRevL, V.int.injEq, V.bl.injEq, V.str.injEq, V.ref.injEq, List.cons.injEq, and_true, true_and, exists_and_left, exists_and_right, exists_eq_left, exists_eq_left', exists_eq_right, exists_eq_right', exists_const, Option.some.injEq, List.getElem?_cons_zero, List.getElem?_cons_succ, List.set_cons_zero, List.set_cons_succ, decide_eq_true_eq, decide_true, decide_false,  scal_ii, scal_bb, scal_ss, cmul_r, cdiv_l, cpow_12, cpow_18, cpow_40, HO.lst.injEq, HO.tup.injEq, upd_upd, Int.reduceToNat,  decide_not, Bool.not_eq_true', decide_eq_false_iff_not, if_true, if_false, Bool.false_eq_true, Bool.true_eq_false, reduceCtorEq, Int.reduceNeg, Nat.reduceLT, Int.reduceLT, Int.reducePow, gt_iff_lt, iEnT]
      refine ⟨⟨ns.map V.str, SqT.of (b2 _ _ np hn)⟩, fun D hD => dcG_enT (ns.map V.str) (fun i H' => Same H2 H' ∧ H' D = some (.dK (plc (ns.take i)))) ⟨same_new hD, upd_same⟩ (fun i H' h => SqT.of (h.1 _ _ (b2 _ _ np hn))) (fun i x T H' hx hI hT => ?_) (fun H' hI => ?_)⟩
      · rw [List.getElem?_map] at hx
        obtain ⟨z, ez, rfl⟩ := Option.map_eq_some_iff.mp hx
        have hTD : D ≠ T := ne_of_none hI.2 hT
        simp only [tSeq, tNext, tDrop, tRet, tRetN, tIfS, tAsg, gName, tAug, ipI, tVar, tC, tOp, tUn, rI, rI0, rU, tCons, tNil, tCB, tTup, tLst, tTest, tB, tAnd, tOr, tNot, tAndV, tOrV, tNotV, tIf, tCl, tCd, tCk, gSub, rPutL, rAtQ, rIntI, rLenQ, rLenS, rListQ, rTupL, rTupQ, rIsQ_c, kd_non, kd_bl, kd_int, kd_str, kd_ref, kdO_lst, kdO_tup, kit_NoneType_bool, kit_NoneType_int, kit_NoneType_str, kit_NoneType_list, kit_NoneType_tuple, kit_bool_bool, kit_bool_int, kit_bool_str, kit_bool_list, kit_bool_tuple, kit_int_bool, kit_int_int, kit_int_str, kit_int_list, kit_int_tuple, kit_str_bool, kit_str_int, kit_str_str, kit_str_list, kit_str_tuple, kit_list_bool, kit_list_int, kit_list_str, kit_list_list, kit_list_tuple, kit_tuple_bool, kit_tuple_int, kit_tuple_str, kit_tuple_list, kit_tuple_tuple, V.ty.injEq, rSortQ, rSlQ, rMulS, tJn, rAtX, rSlS, tSl, tPart, tNoPart, cut_lo2, cut_hi2, rInQ, gLq, gTq, gC_c, gNil, tChain, List.cons_append, List.nil_append, tBL, tBL0, tBad, tCr, tCe, tXF, cxH_K, HO.xd.injEq, rApp, rPopN, rRevL, seqAt_lst, seqAt_tup, at_0, at_1, at_2, at_3, at_4, ix_0, ix_1, ix_2, ix_3, ix_4, cx_K, upd_same, List.length_cons, List.length_nil, Nat.reduceAdd,  rEq, rNe, tRevL, V.int.injEq, V.bl.injEq, V.str.injEq, V.ref.injEq, List.cons.injEq, and_true, true_and, exists_and_left, exists_and_right, exists_eq_left, exists_eq_left', exists_eq_right, exists_eq_right', exists_const, Option.some.injEq, List.getElem?_cons_zero, List.getElem?_cons_succ, List.set_cons_zero, List.set_cons_succ, decide_eq_true_eq, decide_true, decide_false,  scal_ii, scal_bb, scal_ss, cmul_r, cdiv_l, cpow_12, cpow_18, cpow_40, HO.lst.injEq, HO.tup.injEq, upd_upd, Int.reduceToNat,  decide_not, Bool.not_eq_true', decide_eq_false_iff_not, if_true, if_false, Bool.false_eq_true, Bool.true_eq_false, reduceCtorEq, Int.reduceNeg, Nat.reduceLT, Int.reduceLT, Int.reducePow, gt_iff_lt, wipe, List.map_cons, List.map_nil, tYes]
        have hi10 : (ns.take i).length ≤ 10 := Nat.le_trans (List.length_take_le' ..) nm.hi
        refine ⟨plc (ns.take i), .inr z, rfl, by rw [upd_ne hTD]; exact hI.2, ?_, same_at (fun b o e => same_new hT b o (hI.1 b o e)) hD, by rw [plc_put nm.nd ez]⟩
        rw [plc, List.length_map, List.length_zipIdx]
        exact sz_lt (by omega)
      · rw [List.length_map, List.take_length] at hI
        refine ⟨dx, _, hI.1 _ _ hp2, by show 1 < 1000; decide, ?_⟩
        have nD : D ≠ p := fun e => by rw [e, hp2] at hD; cases hD
        obtain ⟨H3, eH3⟩ : ∃ H3, H3 = upd H' p (.ins CP dx (putF "_places" (.ref D) [("_names", .ref n)])) := ⟨_, rfl⟩
        have hp3 : H3 p = some (.ins CP dx [("_names", .ref n), ("_places", .ref D)]) := by rw [eH3, upd_same] <;> rfl
        have b3 : ∀ b o, b ≠ p → H b = some o → H3 b = some o := fun b o h e => by rw [eH3, upd_ne h]; exact hI.1 _ _ (b2 b o h e)
        have hD3 : H3 D = some (.dK (plc ns)) := by rw [eH3, upd_ne nD]; exact hI.2
        rw [← eH3]
        clear eH3
        have pl3 : PlAt CP H3 p ns := ⟨dx, _, n, D, hp3, rfl, rfl, rfl, rfl, b3 _ _ np hn, hD3⟩
        have npl : l ≠ p := fun e => by rw [e, hp] at hl; cases hl
        refine lcE_list ?_
        simp only [tSeq, tNext, tDrop, tRet, tRetN, tIfS, tAsg, gName, tAug, ipI, tVar, tC, tOp, tUn, rI, rI0, rU, tCons, tNil, tCB, tTup, tLst, tTest, tB, tAnd, tOr, tNot, tAndV, tOrV, tNotV, tIf, tCl, tCd, tCk, gSub, rPutL, rAtQ, rIntI, rLenQ, rLenS, rListQ, rTupL, rTupQ, rIsQ_c, kd_non, kd_bl, kd_int, kd_str, kd_ref, kdO_lst, kdO_tup, kit_NoneType_bool, kit_NoneType_int, kit_NoneType_str, kit_NoneType_list, kit_NoneType_tuple, kit_bool_bool, kit_bool_int, kit_bool_str, kit_bool_list, kit_bool_tuple, kit_int_bool, kit_int_int, kit_int_str, kit_int_list, kit_int_tuple, kit_str_bool, kit_str_int, kit_str_str, kit_str_list, kit_str_tuple, kit_list_bool, kit_list_int, kit_list_str, kit_list_list, kit_list_tuple, kit_tuple_bool, kit_tuple_int, kit_tuple_str, kit_tuple_list, kit_tuple_tuple, V.ty.injEq, rSortQ, rSlQ, rMulS, tJn, rAtX, rSlS, tSl, tPart, tNoPart, cut_lo2, cut_hi2, rInQ, gLq, gTq, gC_c, gNil, tChain, List.cons_append, List.nil_append, tBL, tBL0, tBad, tCr, tCe, tXF, cxH_K, HO.xd.injEq, rApp, rPopN, rRevL, seqAt_lst, seqAt_tup, at_0, at_1, at_2, at_3, at_4, ix_0, ix_1, ix_2, ix_3, ix_4, cx_K, upd_same, List.length_cons, List.length_nil, Nat.reduceAdd,  rEq, rNe, tRevL, V.int.injEq, V.bl.injEq, V.str.injEq, V.ref.injEq, List.cons.injEq, and_true, true_and, exists_and_left, exists_and_right, exists_eq_left, exists_eq_left', exists_eq_right, exists_eq_right', exists_const, Option.some.injEq, List.getElem?_cons_zero, List.getElem?_cons_succ, List.set_cons_zero, List.set_cons_succ, decide_eq_true_eq, decide_true, decide_false,  scal_ii, scal_bb, scal_ss, cmul_r, cdiv_l, cpow_12, cpow_18, cpow_40, HO.lst.injEq, HO.tup.injEq, upd_upd, Int.reduceToNat,  decide_not, Bool.not_eq_true', decide_eq_false_iff_not, if_true, if_false, Bool.false_eq_true, Bool.true_eq_false, reduceCtorEq, Int.reduceNeg, Nat.reduceLT, Int.reduceLT, Int.reducePow, gt_iff_lt]
        refine ⟨⟨_, SqL.of (b3 _ _ npl hl)⟩, fun D2 hD2 => lcG_at (ts.map V.ref) (fun i Hx => Same H3 Hx ∧ Rws H3 Hx D2 (((qs.map fun q => pr2 ns q.1 q.2).take i).map pairV)) ⟨same_new hD2, Rws.new hD2⟩ (fun i Hx h => SqL.of (h.1 _ _ (b3 _ _ npl hl))) (fun i x Hx hx hJ => ?_) (fun Hx hJ => ?_)⟩
        · rw [List.getElem?_map] at hx
          obtain ⟨a, ea, rfl⟩ := Option.map_eq_some_iff.mp hx
          obtain ⟨q0, eq0, ha, hx1, hx2, hx3⟩ := paired_get pq ea
          have npa : a ≠ p := fun e => by rw [e, hp] at ha; cases ha
          have ha3 : Hx a = some (.tup [.str q0.1, .str q0.2]) := hJ.1 _ _ (b3 _ _ npa ha)
          simp only [tSeq, tNext, tDrop, tRet, tRetN, tIfS, tAsg, gName, tAug, ipI, tVar, tC, tOp, tUn, rI, rI0, rU, tCons, tNil, tCB, tTup, tLst, tTest, tB, tAnd, tOr, tNot, tAndV, tOrV, tNotV, tIf, tCl, tCd, tCk, gSub, rPutL, rAtQ, rIntI, rLenQ, rLenS, rListQ, rTupL, rTupQ, rIsQ_c, kd_non, kd_bl, kd_int, kd_str, kd_ref, kdO_lst, kdO_tup, kit_NoneType_bool, kit_NoneType_int, kit_NoneType_str, kit_NoneType_list, kit_NoneType_tuple, kit_bool_bool, kit_bool_int, kit_bool_str, kit_bool_list, kit_bool_tuple, kit_int_bool, kit_int_int, kit_int_str, kit_int_list, kit_int_tuple, kit_str_bool, kit_str_int, kit_str_str, kit_str_list, kit_str_tuple, kit_list_bool, kit_list_int, kit_list_str, kit_list_list, kit_list_tuple, kit_tuple_bool, kit_tuple_int, kit_tuple_str, kit_tuple_list, kit_tuple_tuple, V.ty.injEq, rSortQ, rSlQ, rMulS, tJn, rAtX, rSlS, tSl, tPart, tNoPart, cut_lo2, cut_hi2, rInQ, gLq, gTq, gC_c, gNil, tChain, List.cons_append, List.nil_append, tBL, tBL0, tBad, tCr, tCe, tXF, cxH_K, HO.xd.injEq, rApp, rPopN, rRevL, seqAt_lst, seqAt_tup, at_0, at_1, at_2, at_3, at_4, ix_0, ix_1, ix_2, ix_3, ix_4, cx_K, upd_same, List.length_cons, List.length_nil, Nat.reduceAdd,  rEq, rNe, tRevL, V.int.injEq, V.bl.injEq, V.str.injEq, V.ref.injEq, List.cons.injEq, and_true, true_and, exists_and_left, exists_and_right, exists_eq_left, exists_eq_left', exists_eq_right, exists_eq_right', exists_const, Option.some.injEq, List.getElem?_cons_zero, List.getElem?_cons_succ, List.set_cons_zero, List.set_cons_succ, decide_eq_true_eq, decide_true, decide_false,  scal_ii, scal_bb, scal_ss, cmul_r, cdiv_l, cpow_12, cpow_18, cpow_40, HO.lst.injEq, HO.tup.injEq, upd_upd, Int.reduceToNat,  decide_not, Bool.not_eq_true', decide_eq_false_iff_not, if_true, if_false, Bool.false_eq_true, Bool.true_eq_false, reduceCtorEq, Int.reduceNeg, Nat.reduceLT, Int.reduceLT, Int.reducePow, gt_iff_lt, wipe, List.map_cons, List.map_nil, tYes]
          refine ⟨_, ha3, rfl, ?_⟩
          simp only [tSeq, tNext, tDrop, tRet, tRetN, tIfS, tAsg, gName, tAug, ipI, tVar, tC, tOp, tUn, rI, rI0, rU, tCons, tNil, tCB, tTup, tLst, tTest, tB, tAnd, tOr, tNot, tAndV, tOrV, tNotV, tIf, tCl, tCd, tCk, gSub, rPutL, rAtQ, rIntI, rLenQ, rLenS, rListQ, rTupL, rTupQ, rIsQ_c, kd_non, kd_bl, kd_int, kd_str, kd_ref, kdO_lst, kdO_tup, kit_NoneType_bool, kit_NoneType_int, kit_NoneType_str, kit_NoneType_list, kit_NoneType_tuple, kit_bool_bool, kit_bool_int, kit_bool_str, kit_bool_list, kit_bool_tuple, kit_int_bool, kit_int_int, kit_int_str, kit_int_list, kit_int_tuple, kit_str_bool, kit_str_int, kit_str_str, kit_str_list, kit_str_tuple, kit_list_bool, kit_list_int, kit_list_str, kit_list_list, kit_list_tuple, kit_tuple_bool, kit_tuple_int, kit_tuple_str, kit_tuple_list, kit_tuple_tuple, V.ty.injEq, rSortQ, rSlQ, rMulS, tJn, rAtX, rSlS, tSl, tPart, tNoPart, cut_lo2, cut_hi2, rInQ, gLq, gTq, gC_c, gNil, tChain, List.cons_append, List.nil_append, tBL, tBL0, tBad, tCr, tCe, tXF, cxH_K, HO.xd.injEq, rApp, rPopN, rRevL, seqAt_lst, seqAt_tup, at_0, at_1, at_2, at_3, at_4, ix_0, ix_1, ix_2, ix_3, ix_4, cx_K, upd_same, List.length_cons, List.length_nil, Nat.reduceAdd,  rEq, rNe, tRevL, V.int.injEq, V.bl.injEq, V.str.injEq, V.ref.injEq, List.cons.injEq, and_true, true_and, exists_and_left, exists_and_right, exists_eq_left, exists_eq_left', exists_eq_right, exists_eq_right', exists_const, Option.some.injEq, List.getElem?_cons_zero, List.getElem?_cons_succ, List.set_cons_zero, List.set_cons_succ, decide_eq_true_eq, decide_true, decide_false,  scal_ii, scal_bb, scal_ss, cmul_r, cdiv_l, cpow_12, cpow_18, cpow_40, HO.lst.injEq, HO.tup.injEq, upd_upd, Int.reduceToNat,  decide_not, Bool.not_eq_true', decide_eq_false_iff_not, if_true, if_false, Bool.false_eq_true, Bool.true_eq_false, reduceCtorEq, Int.reduceNeg, Nat.reduceLT, Int.reduceLT, Int.reducePow, gt_iff_lt, tCmP]
          refine ⟨dx, _, hJ.1 _ _ hp3, rfl, p, ns, q0.1, q0.2, rfl, pl3.same hJ.1, nm.hi, reprText_le (nm.tx _ hx1), reprText_le (nm.tx _ hx2), fun h => absurd hx1 h, fun _ h => absurd hx2 h, fun _ _ h => absurd h hx3, fun _ _ _ t H4 s4 ht ht4 => ?_⟩
          obtain ⟨acc, a1, a2, a3, a4⟩ := Rws.add2 hJ.1 hJ.2 s4 ht ht4
          refine ⟨acc, a1, ?_, a3, ?_⟩
          · rw [a2, List.length_map]
            refine sz_lt (Nat.lt_of_le_of_lt (List.length_take_le' ..) ?_)
            rw [List.length_map, ← paired_len pq]
            omega
          · rw [List.take_succ, List.getElem?_map, eq0, List.map_append]
            exact a4
        · rw [List.length_map, paired_len pq, show qs.length = (qs.map fun q => pr2 ns q.1 q.2).length by rw [List.length_map], List.take_length] at hJ
          obtain ⟨sx, f2, as, has, pas⟩ := hJ
          have pas2 := paired_mapR pas
          refine ⟨p, D2, ns, as, _, rfl, pl3.same sx, nm.hi, fun z hz => tx_ok (nm.tx z hz), has, paired_imp (fun _ _ h => h.2) pas2, fun q1 hq1 => ?_, fun t H5 s5 g5 => ?_⟩
          · obtain ⟨q0, hq0, rfl⟩ := List.mem_map.mp hq1
            obtain ⟨k, hk, ek⟩ := List.mem_iff_getElem.mp hq0
            obtain ⟨a, _, _, h1, h2, _⟩ := paired_getR pq (List.getElem?_eq_getElem hk)
            rw [ek] at h1 h2
            have z := pr2_in h1 h2
            exact ⟨tx_ok (nm.tx _ z.1), tx_ok (nm.tx _ z.2)⟩
          · obtain ⟨ft, ts5, e5, pr5⟩ := g5
            have hpx : Hx p = some (.ins CP dx [("_names", .ref n), ("_places", .ref D)]) := sx _ _ hp3
            have ntp : ∀ {a : Addr}, Hx a = none → a ≠ p := fun h e => by rw [e, hpx] at h; cases h
            refine ⟨dx, _, s5 _ _ hpx, by show 2 < 1000; decide, q _ (fun b o h e => by rw [upd_ne h]; exact s5 _ _ (sx _ _ (b3 b o h e))) ⟨dx, n, D, t, by rw [upd_same] <;> rfl, by rw [upd_ne np]; exact s5 _ _ (sx _ _ (b3 _ _ np hn)), by rw [upd_ne nD]; exact s5 _ _ (sx _ _ hD3), ts5, by rw [upd_ne (ntp ft)]; exact e5, paired_imp (fun a r h => ?_) pr5⟩⟩
            rw [upd_ne (ntp h.1)]
            exact h.2
end
end Z
set_option Elab.async false
set_option linter.all false
set_option maxRecDepth 100000
set_option maxHeartbeats 4000000
namespace Z
open PySem PySem.Spec PyProof.Rows L2 L2H
section
variable {P : Program} {w : World} {K : PySem.W.Frag} {mg : Str → Option Value} {base : Heap}
/-- the pairs whose first place is i -/
def nmR (ns : List Str) (i : Nat) : List (Str × Str) := (ns.drop (i + 1)).map fun z => (ns.getD i Str.empty, z)
theorem nmP_rows (ns : List Str) : nmP ns = (List.range ns.length).flatMap (nmR ns) := by
  rw [nmP, ix2, List.map_flatMap]
  congr 1
  funext i
  rw [List.map_map, nmR]
  apply List.ext_getElem
  · rw [List.length_map, List.length_map, List.length_range, List.length_drop]
  · intro k h1 h2
    rw [List.length_map, List.length_range] at h1
    have h3 : i + 1 + k < ns.length := by omega
    simp [h3]
abbrev s_law_all_pairs : Stmt := topS 59
abbrev N_law_all_pairs : List Str := ["lot_names", "made", "k", "later"]
theorem sc_law_all_pairs : FnScope N_law_all_pairs ["lot_names"] (defScope s_law_all_pairs) := ⟨rfl, rfl, rfl, by decide +kernel, rfl, by decide +kernel, by decide +kernel⟩
theorem b_law_all_pairs : BindO "_law_all_pairs" s_law_all_pairs ["lot_names"] := fun _ _ _ _ _ _ us hl => match us, hl with | [_], _ => rfl

def sp_all_pairs : Sp := fun vs H Q _ => ∃ (p : Addr) (ns : List Str), vs = [.ref p] ∧ H p = some (.lst (ns.map V.str)) ∧ ns.length ≤ 10 ∧ ∀ (r : Addr) (H' : Hp), Same H H' → Rws H H' r ((nmP ns).map pairV) → Q (.ref r) H'
theorem ok_all_pairs (D : Dn K mg "_law_all_pairs" s_law_all_pairs) (B : Blt mg) : Cl P w K mg base 1 "_law_all_pairs" sp_all_pairs := by
  refine cl_of D sc_law_all_pairs b_law_all_pairs (fun vs H Q E h => ?_) (fun f cdv A outer s H vs Q E hr h => ?_)
  · obtain ⟨p, ns, rfl, _⟩ := h
    rfl
  · obtain ⟨p, ns, rfl, hp, hn, q⟩ := h
    refine ⟨_, (pss_cons (ps_set (i := 1) sc_law_all_pairs.nd rfl (.inl rfl) (pe_lst pa_nil))
      (pss_cons (ps_for PassesOwn.never rfl (pi_range1 (by rfl) B.range (pa_cons (pe_callB call_lenQ (by rfl) B.len PySem.boot_len (pa_cons (pv 0) pa_nil)) pa_nil)) (pg_name (i := 2) sc_law_all_pairs.nd rfl (.inl rfl)) (pss_one (ps_for PassesOwn.never rfl (pi_list (pe_slice sl_listQ (pv 0) (po_some (pe_op op_add (pv 2) pe_int)) po_none)) (pg_name (i := 3) sc_law_all_pairs.nd rfl (.inl rfl)) (pss_one (ps_expr (pe_ml PySem.F.slot_list_append PySem.F.type_list_append mt_app (pv 1) (pa_cons (pe_tup (pa_cons (pe_ix at_seq (pv 0) (pv 2) (fun _ _ => rfl)) (pa_cons (pv 3) pa_nil))) pa_nil)))))))
      (pss_one (ps_ret (pv 1))))), ?_⟩
    rw [show L2.start N_law_all_pairs [.ref p] = [some (.ref p), none, none, none] from rfl]
    simp only [tSeq, tNext, tDrop, tRet, tRetN, tIfS, tAsg, gName, tAug, ipI, tVar, tC, tOp, tUn, rI, rI0, rU, tCons, tNil, tCB, tTup, tLst, tTest, tB, tAnd, tOr, tNot, tAndV, tOrV, tNotV, tIf, tCl, tCd, tCk, gSub, rPutL, rAtQ, rIntI, rLenQ, rLenS, rListQ, rTupL, rTupQ, rIsQ_c, kd_non, kd_bl, kd_int, kd_str, kd_ref, kdO_lst, kdO_tup, kit_NoneType_bool, kit_NoneType_int, kit_NoneType_str, kit_NoneType_list, kit_NoneType_tuple, kit_bool_bool, kit_bool_int, kit_bool_str, kit_bool_list, kit_bool_tuple, kit_int_bool, kit_int_int, kit_int_str, kit_int_list, kit_int_tuple, kit_str_bool, kit_str_int, kit_str_str, kit_str_list, kit_str_tuple, kit_list_bool, kit_list_int, kit_list_str, kit_list_list, kit_list_tuple, kit_tuple_bool, kit_tuple_int, kit_tuple_str, kit_tuple_list, kit_tuple_tuple, V.ty.injEq, rSortQ, rSlQ, rMulS, tJn, rAtX, rSlS, tSl, tPart, tNoPart, cut_lo2, cut_hi2, rInQ, gLq, gTq, gC_c, gNil, tChain, List.cons_append, List.nil_append, tBL, tBL0, tBad, tCr, tCe, tXF, cxH_K, HO.xd.injEq, rApp, rPopN, rRevL, seqAt_lst, seqAt_tup, at_0, at_1, at_2, at_3, at_4, ix_0, ix_1, ix_2, ix_3, ix_4, cx_K, upd_same, List.length_cons, List.length_nil, Nat.reduceAdd,  rEq, rNe, tRevL, V.int.injEq, V.bl.injEq, V.str.injEq, V.ref.injEq, List.cons.injEq, and_true, true_and, exists_and_left, exists_and_right, exists_eq_left, exists_eq_left', exists_eq_right, exists_eq_right', exists_const, Option.some.injEq, List.getElem?_cons_zero, List.getElem?_cons_succ, List.set_cons_zero, List.set_cons_succ, decide_eq_true_eq, decide_true, decide_false,  scal_ii, scal_bb, scal_ss, cmul_r, cdiv_l, cpow_12, cpow_18, cpow_40, HO.lst.injEq, HO.tup.injEq, upd_upd, Int.reduceToNat,  decide_not, Bool.not_eq_true', decide_eq_false_iff_not, if_true, if_false, Bool.false_eq_true, Bool.true_eq_false, reduceCtorEq, Int.reduceNeg, Nat.reduceLT, Int.reduceLT, Int.reducePow, gt_iff_lt]
    refine ⟨sz_of (by decide), fun M hM => ?_⟩
    have hp1 : ∀ {Hx}, Same H Hx → Hx p = some (.lst (ns.map V.str)) := fun s => s _ _ hp
    refine z_forR ns.length (fun Q q => ?_) (by omega) (fun i σ' H' => ∃ b c, σ' = [some (.ref p), some (.ref M), b, c] ∧ Same H H' ∧ Rws H H' M (((List.range i).flatMap (nmR ns)).map pairV)) ⟨none, none, rfl, same_new hM, Rws.new hM⟩ (fun i σ' H' hi hI => ?_) (fun σ' H' hI => ?_)
    · simp only [tSeq, tNext, tDrop, tRet, tRetN, tIfS, tAsg, gName, tAug, ipI, tVar, tC, tOp, tUn, rI, rI0, rU, tCons, tNil, tCB, tTup, tLst, tTest, tB, tAnd, tOr, tNot, tAndV, tOrV, tNotV, tIf, tCl, tCd, tCk, gSub, rPutL, rAtQ, rIntI, rLenQ, rLenS, rListQ, rTupL, rTupQ, rIsQ_c, kd_non, kd_bl, kd_int, kd_str, kd_ref, kdO_lst, kdO_tup, kit_NoneType_bool, kit_NoneType_int, kit_NoneType_str, kit_NoneType_list, kit_NoneType_tuple, kit_bool_bool, kit_bool_int, kit_bool_str, kit_bool_list, kit_bool_tuple, kit_int_bool, kit_int_int, kit_int_str, kit_int_list, kit_int_tuple, kit_str_bool, kit_str_int, kit_str_str, kit_str_list, kit_str_tuple, kit_list_bool, kit_list_int, kit_list_str, kit_list_list, kit_list_tuple, kit_tuple_bool, kit_tuple_int, kit_tuple_str, kit_tuple_list, kit_tuple_tuple, V.ty.injEq, rSortQ, rSlQ, rMulS, tJn, rAtX, rSlS, tSl, tPart, tNoPart, cut_lo2, cut_hi2, rInQ, gLq, gTq, gC_c, gNil, tChain, List.cons_append, List.nil_append, tBL, tBL0, tBad, tCr, tCe, tXF, cxH_K, HO.xd.injEq, rApp, rPopN, rRevL, seqAt_lst, seqAt_tup, at_0, at_1, at_2, at_3, at_4, ix_0, ix_1, ix_2, ix_3, ix_4, cx_K, upd_same, List.length_cons, List.length_nil, Nat.reduceAdd,  rEq, rNe, tRevL, V.int.injEq, V.bl.injEq, V.str.injEq, V.ref.injEq, List.cons.injEq, and_true, true_and, exists_and_left, exists_and_right, exists_eq_left, exists_eq_left', exists_eq_right, exists_eq_right', exists_const, Option.some.injEq, List.getElem?_cons_zero, List.getElem?_cons_succ, List.set_cons_zero, List.set_cons_succ, decide_eq_true_eq, decide_true, decide_false,  scal_ii, scal_bb, scal_ss, cmul_r, cdiv_l, cpow_12, cpow_18, cpow_40, HO.lst.injEq, HO.tup.injEq, upd_upd, Int.reduceToNat,  decide_not, Bool.not_eq_true', decide_eq_false_iff_not, if_true, if_false, Bool.false_eq_true, Bool.true_eq_false, reduceCtorEq, Int.reduceNeg, Nat.reduceLT, Int.reduceLT, Int.reducePow, gt_iff_lt]
      refine ⟨ns.map V.str, by rw [hp1 (same_new hM)] <;> rfl, ?_⟩
      rw [List.length_map]
      exact q
    · obtain ⟨b, c, rfl, sm, g⟩ := hI
      obtain ⟨rows, hrows⟩ : ∃ rows, rows = (List.range i).flatMap (nmR ns) := ⟨_, rfl⟩
      rw [← hrows] at g
      have hrl : rows.length ≤ i * 10 := by
        rw [hrows]
        refine Nat.le_trans (fm_len _ 10 (fun x => ?_) _) (by rw [List.length_range]; exact Nat.le_refl _)
        rw [nmR, List.length_map, List.length_drop]
        omega
      rw [show (fun σ' H' => ∃ b c, σ' = [some (V.ref p), some (V.ref M), b, c] ∧ Same H H' ∧ Rws H H' M (((List.range (i + 1)).flatMap (nmR ns)).map pairV)) = fun σ' H' => ∃ b c, σ' = [some (V.ref p), some (V.ref M), b, c] ∧ Same H H' ∧ Rws H H' M ((rows ++ nmR ns i).map pairV) from by
        rw [hrows, List.range_succ, List.flatMap_append]
        simp]
      refine z_forN ((ns.map V.str).drop (i + 1)) (fun Q q => ?_) (fun l j σ' Hx => ∃ c, σ' = [some (.ref p), some (.ref M), some (.int (i : Int)), c] ∧ Hx l = some (.lst ((ns.map V.str).drop (i + 1))) ∧ Same H Hx ∧ Rws H Hx M ((rows ++ (nmR ns i).take j).map pairV))
        (fun l hl => ⟨c, rfl, upd_same, fun b o e => same_new hl b o (sm b o e), ?_⟩) (fun l j σ' Hx hl h => ?_) (fun l j x σ' Hx hl hx hJ => ?_) (fun l σ' Hx hl hJ => ?_)
      · simp only [tSeq, tNext, tDrop, tRet, tRetN, tIfS, tAsg, gName, tAug, ipI, tVar, tC, tOp, tUn, rI, rI0, rU, tCons, tNil, tCB, tTup, tLst, tTest, tB, tAnd, tOr, tNot, tAndV, tOrV, tNotV, tIf, tCl, tCd, tCk, gSub, rPutL, rAtQ, rIntI, rLenQ, rLenS, rListQ, rTupL, rTupQ, rIsQ_c, kd_non, kd_bl, kd_int, kd_str, kd_ref, kdO_lst, kdO_tup, kit_NoneType_bool, kit_NoneType_int, kit_NoneType_str, kit_NoneType_list, kit_NoneType_tuple, kit_bool_bool, kit_bool_int, kit_bool_str, kit_bool_list, kit_bool_tuple, kit_int_bool, kit_int_int, kit_int_str, kit_int_list, kit_int_tuple, kit_str_bool, kit_str_int, kit_str_str, kit_str_list, kit_str_tuple, kit_list_bool, kit_list_int, kit_list_str, kit_list_list, kit_list_tuple, kit_tuple_bool, kit_tuple_int, kit_tuple_str, kit_tuple_list, kit_tuple_tuple, V.ty.injEq, rSortQ, rSlQ, rMulS, tJn, rAtX, rSlS, tSl, tPart, tNoPart, cut_lo2, cut_hi2, rInQ, gLq, gTq, gC_c, gNil, tChain, List.cons_append, List.nil_append, tBL, tBL0, tBad, tCr, tCe, tXF, cxH_K, HO.xd.injEq, rApp, rPopN, rRevL, seqAt_lst, seqAt_tup, at_0, at_1, at_2, at_3, at_4, ix_0, ix_1, ix_2, ix_3, ix_4, cx_K, upd_same, List.length_cons, List.length_nil, Nat.reduceAdd,  rEq, rNe, tRevL, V.int.injEq, V.bl.injEq, V.str.injEq, V.ref.injEq, List.cons.injEq, and_true, true_and, exists_and_left, exists_and_right, exists_eq_left, exists_eq_left', exists_eq_right, exists_eq_right', exists_const, Option.some.injEq, List.getElem?_cons_zero, List.getElem?_cons_succ, List.set_cons_zero, List.set_cons_succ, decide_eq_true_eq, decide_true, decide_false,  scal_ii, scal_bb, scal_ss, cmul_r, cdiv_l, cpow_12, cpow_18, cpow_40, HO.lst.injEq, HO.tup.injEq, upd_upd, Int.reduceToNat,  decide_not, Bool.not_eq_true', decide_eq_false_iff_not, if_true, if_false, Bool.false_eq_true, Bool.true_eq_false, reduceCtorEq, Int.reduceNeg, Nat.reduceLT, Int.reduceLT, Int.reducePow, gt_iff_lt]
        refine ⟨_, hp1 sm, fun l hl => ?_⟩
        rw [show ((i : Nat) : Int) + 1 = ((i + 1 : Nat) : Int) by omega, cut_from (by rw [List.length_map]; omega)]
        exact q l hl
      · rw [List.take_zero, List.append_nil]
        exact ⟨g.1, g.2.imp fun ps h => ⟨same_new hl _ _ h.1, paired_imp (fun a r h => ⟨h.1, same_new hl _ _ h.2⟩) h.2⟩⟩
      · obtain ⟨c, e, h1, _⟩ := h
        exact SqL.of h1
      · obtain ⟨c, rfl, h1, s2, g2⟩ := hJ
        rw [← List.map_drop, List.getElem?_map] at hx
        obtain ⟨z, ez, rfl⟩ := Option.map_eq_some_iff.mp hx
        have nMl : M ≠ l := fun e => by
          obtain ⟨_, ps, h, _⟩ := g
          rw [e, hl] at h
          cases h
        simp only [tSeq, tNext, tDrop, tRet, tRetN, tIfS, tAsg, gName, tAug, ipI, tVar, tC, tOp, tUn, rI, rI0, rU, tCons, tNil, tCB, tTup, tLst, tTest, tB, tAnd, tOr, tNot, tAndV, tOrV, tNotV, tIf, tCl, tCd, tCk, gSub, rPutL, rAtQ, rIntI, rLenQ, rLenS, rListQ, rTupL, rTupQ, rIsQ_c, kd_non, kd_bl, kd_int, kd_str, kd_ref, kdO_lst, kdO_tup, kit_NoneType_bool, kit_NoneType_int, kit_NoneType_str, kit_NoneType_list, kit_NoneType_tuple, kit_bool_bool, kit_bool_int, kit_bool_str, kit_bool_list, kit_bool_tuple, kit_int_bool, kit_int_int, kit_int_str, kit_int_list, kit_int_tuple, kit_str_bool, kit_str_int, kit_str_str, kit_str_list, kit_str_tuple, kit_list_bool, kit_list_int, kit_list_str, kit_list_list, kit_list_tuple, kit_tuple_bool, kit_tuple_int, kit_tuple_str, kit_tuple_list, kit_tuple_tuple, V.ty.injEq, rSortQ, rSlQ, rMulS, tJn, rAtX, rSlS, tSl, tPart, tNoPart, cut_lo2, cut_hi2, rInQ, gLq, gTq, gC_c, gNil, tChain, List.cons_append, List.nil_append, tBL, tBL0, tBad, tCr, tCe, tXF, cxH_K, HO.xd.injEq, rApp, rPopN, rRevL, seqAt_lst, seqAt_tup, at_0, at_1, at_2, at_3, at_4, ix_0, ix_1, ix_2, ix_3, ix_4, cx_K, upd_same, List.length_cons, List.length_nil, Nat.reduceAdd,  rEq, rNe, tRevL, V.int.injEq, V.bl.injEq, V.str.injEq, V.ref.injEq, List.cons.injEq, and_true, true_and, exists_and_left, exists_and_right, exists_eq_left, exists_eq_left', exists_eq_right, exists_eq_right', exists_const, Option.some.injEq, List.getElem?_cons_zero, List.getElem?_cons_succ, List.set_cons_zero, List.set_cons_succ, decide_eq_true_eq, decide_true, decide_false,  scal_ii, scal_bb, scal_ss, cmul_r, cdiv_l, cpow_12, cpow_18, cpow_40, HO.lst.injEq, HO.tup.injEq, upd_upd, Int.reduceToNat,  decide_not, Bool.not_eq_true', decide_eq_false_iff_not, if_true, if_false, Bool.false_eq_true, Bool.true_eq_false, reduceCtorEq, Int.reduceNeg, Nat.reduceLT, Int.reduceLT, Int.reducePow, gt_iff_lt]
        refine ⟨(let ⟨_, ps, h, _⟩ := g2; ⟨_, h⟩), _, by rw [hp1 s2] <;> rfl, _, str_at hi, sz_of (by decide), fun t ht => ?_⟩
        obtain ⟨acc, a1, a2, a3, a4⟩ := Rws.add (r := pairV (ns.getD i Str.empty, z)) s2 g2 ht
        have hD' : t ≠ M := fun e => by rw [e, a1] at ht; cases ht
        refine ⟨acc, by rw [upd_ne hD'.symm]; exact a1, ?_, ⟨_, rfl⟩, by rw [upd_ne nMl.symm, upd_ne (ne_of_none h1 ht)]; exact h1, a3, ?_⟩
        · rw [a2, List.length_map, List.length_append]
          have h10 : (List.take j (nmR ns i)).length ≤ 10 := Nat.le_trans (List.length_take_le' ..) (by rw [nmR, List.length_map, List.length_drop]; omega)
          exact sz_lt (by omega)
        · have e : (nmR ns i)[j]? = some (ns.getD i Str.empty, z) := by rw [nmR, List.getElem?_map, ez] <;> rfl
          rw [List.take_succ, e, ← List.append_assoc, List.map_append]
          exact a4
      · obtain ⟨c, rfl, h1, s2, g2⟩ := hJ
        rw [List.length_drop, List.length_map, show ns.length - (i + 1) = (nmR ns i).length by rw [nmR, List.length_map, List.length_drop], List.take_length] at g2
        exact ⟨_, _, rfl, s2, g2⟩
    · obtain ⟨b, c, rfl, sm, g⟩ := hI
      simp only [tSeq, tNext, tDrop, tRet, tRetN, tIfS, tAsg, gName, tAug, ipI, tVar, tC, tOp, tUn, rI, rI0, rU, tCons, tNil, tCB, tTup, tLst, tTest, tB, tAnd, tOr, tNot, tAndV, tOrV, tNotV, tIf, tCl, tCd, tCk, gSub, rPutL, rAtQ, rIntI, rLenQ, rLenS, rListQ, rTupL, rTupQ, rIsQ_c, kd_non, kd_bl, kd_int, kd_str, kd_ref, kdO_lst, kdO_tup, kit_NoneType_bool, kit_NoneType_int, kit_NoneType_str, kit_NoneType_list, kit_NoneType_tuple, kit_bool_bool, kit_bool_int, kit_bool_str, kit_bool_list, kit_bool_tuple, kit_int_bool, kit_int_int, kit_int_str, kit_int_list, kit_int_tuple, kit_str_bool, kit_str_int, kit_str_str, kit_str_list, kit_str_tuple, kit_list_bool, kit_list_int, kit_list_str, kit_list_list, kit_list_tuple, kit_tuple_bool, kit_tuple_int, kit_tuple_str, kit_tuple_list, kit_tuple_tuple, V.ty.injEq, rSortQ, rSlQ, rMulS, tJn, rAtX, rSlS, tSl, tPart, tNoPart, cut_lo2, cut_hi2, rInQ, gLq, gTq, gC_c, gNil, tChain, List.cons_append, List.nil_append, tBL, tBL0, tBad, tCr, tCe, tXF, cxH_K, HO.xd.injEq, rApp, rPopN, rRevL, seqAt_lst, seqAt_tup, at_0, at_1, at_2, at_3, at_4, ix_0, ix_1, ix_2, ix_3, ix_4, cx_K, upd_same, List.length_cons, List.length_nil, Nat.reduceAdd,  rEq, rNe, tRevL, V.int.injEq, V.bl.injEq, V.str.injEq, V.ref.injEq, List.cons.injEq, and_true, true_and, exists_and_left, exists_and_right, exists_eq_left, exists_eq_left', exists_eq_right, exists_eq_right', exists_const, Option.some.injEq, List.getElem?_cons_zero, List.getElem?_cons_succ, List.set_cons_zero, List.set_cons_succ, decide_eq_true_eq, decide_true, decide_false,  scal_ii, scal_bb, scal_ss, cmul_r, cdiv_l, cpow_12, cpow_18, cpow_40, HO.lst.injEq, HO.tup.injEq, upd_upd, Int.reduceToNat,  decide_not, Bool.not_eq_true', decide_eq_false_iff_not, if_true, if_false, Bool.false_eq_true, Bool.true_eq_false, reduceCtorEq, Int.reduceNeg, Nat.reduceLT, Int.reduceLT, Int.reducePow, gt_iff_lt]
      rw [← nmP_rows] at g
      exact q M H' sm g
end
end Z
set_option Elab.async false
set_option linter.all false
set_option maxRecDepth 100000
set_option maxHeartbeats 4000000
namespace Z
open PySem PySem.Spec PyProof.Rows L2 L2H
section
variable {P : Program} {w : World} {K : PySem.W.Frag} {mg : Str → Option Value} {base : Heap}
def swP (q : Str × Str) : Str × Str := (q.2, q.1)
abbrev s_law_kept : Stmt := topS 60
abbrev N_law_kept : List Str := ["lot_names", "strife_row", "passed", "turned", "one_pair"]
theorem sc_law_kept : FnScope N_law_kept ["lot_names", "strife_row"] (defScope s_law_kept) := ⟨rfl, rfl, rfl, by decide +kernel, rfl, by decide +kernel, by decide +kernel⟩
theorem b_law_kept : BindO "_law_kept" s_law_kept ["lot_names", "strife_row"] := fun _ _ _ _ _ _ us hl => match us, hl with | [_, _], _ => rfl

def sp_kept : Sp := fun vs H Q _ => ∃ (p l : Addr) (ns : List Str) (ts : List Addr) (qs : List (Str × Str)), vs = [.ref p, .ref l] ∧ H p = some (.lst (ns.map V.str)) ∧ ns.length ≤ 10 ∧ (∀ z ∈ ns, PyData.strOk z = true) ∧ H l = some (.lst (ts.map V.ref)) ∧ ts.length ≤ 1000 ∧ Paired (fun (a : Addr) (q : Str × Str) => H a = some (.tup (pairV q))) ts qs ∧ (∀ q ∈ qs, OkP q) ∧
  ∀ (t : Addr) (H' : Hp), Same H H' → TPs H H' t ((nmP ns).filter fun q => decide (q ∈ qs ++ qs.map swP)) → Q (.ref t) H'
theorem ok_kept (D : Dn K mg "_law_kept" s_law_kept) (B : Blt mg) (c_law_all_pairs : Cl P w K mg base 1 "_law_all_pairs" sp_all_pairs) : Cl P w K mg base 2 "_law_kept" sp_kept := by
  refine cl_of D sc_law_kept b_law_kept (fun vs H Q E h => ?_) (fun f cdv A outer s H vs Q E hr h => ?_)
  · obtain ⟨p, l, ns, ts, qs, rfl, _⟩ := h
    rfl
  · obtain ⟨p, l, ns, ts, qs, rfl, hp, hn, hok, hl, hlen, pq, hqs, q⟩ := h
    refine ⟨_, (pss_cons (ps_set (i := 2) sc_law_kept.nd rfl (.inr rfl) (pe_lc (own := [("one_pair", 4)]) (g := gName 4) rfl sc_law_kept.nd (pi_list (pv 1)) (blkOk_by (N := N_law_kept) (sc := defScope s_law_kept) (own := [("one_pair", 4)]) (by decide +kernel)) (fun _ _ _ _ _ => (pg_name (i := 4) sc_law_kept.nd rfl (Or.inl rfl))) (fun _ _ _ _ _ => pts_nil) (fun _ _ _ _ _ => (pe_tup (pa_cons (pe_ix at_seq (pv 4) pe_int (fun _ _ => rfl)) (pa_cons (pe_ix at_seq (pv 4) pe_int (fun _ _ => rfl)) pa_nil))))))
      (pss_cons (ps_set (i := 3) sc_law_kept.nd rfl (.inr rfl) (pe_lc (own := [("one_pair", 4)]) (g := gName 4) rfl sc_law_kept.nd (pi_list (pv 1)) (blkOk_by (N := N_law_kept) (sc := defScope s_law_kept) (own := [("one_pair", 4)]) (by decide +kernel)) (fun _ _ _ _ _ => (pg_name (i := 4) sc_law_kept.nd rfl (Or.inl rfl))) (fun _ _ _ _ _ => pts_nil) (fun _ _ _ _ _ => (pe_tup (pa_cons (pe_ix at_seq (pv 4) pe_int (fun _ _ => rfl)) (pa_cons (pe_ix at_seq (pv 4) pe_int (fun _ _ => rfl)) pa_nil))))))
      (pss_one (ps_ret (pe_callTy call_tupL (by rfl) B.tuple (by decide +kernel) (pa_cons (pe_lc (own := [("one_pair", 4)]) (g := gName 4) rfl sc_law_kept.nd (pi_list (pe_cl c_law_all_pairs hr (by omega) rfl (pa_cons (pv 0) pa_nil))) (blkOk_by (N := N_law_kept) (sc := defScope s_law_kept) (own := [("one_pair", 4)]) (by decide +kernel)) (fun _ _ _ _ _ => (pg_name (i := 4) sc_law_kept.nd rfl (Or.inl rfl))) (fun _ _ _ _ _ => (pts_one (pt_cmpR (op_inDK K (u65 hr)) (pv 4) (pe_op op_catQ (pv 2) (pv 3)) (by rfl)))) (fun _ _ _ _ _ => (pv 4))) pa_nil)))))), ?_⟩
    rw [show L2.start N_law_kept [.ref p, .ref l] = [some (.ref p), some (.ref l), none, none, none] from rfl]
    simp only [tSeq, tNext, tDrop, tRet, tRetN, tIfS, tAsg, gName, tAug, ipI, tVar, tC, tOp, tUn, rI, rI0, rU, tCons, tNil, tCB, tTup, tLst, tTest, tB, tAnd, tOr, tNot, tAndV, tOrV, tNotV, tIf, tCl, tCd, tCk, gSub, rPutL, rAtQ, rIntI, rLenQ, rLenS, rListQ, rTupL, rTupQ, rIsQ_c, kd_non, kd_bl, kd_int, kd_str, kd_ref, kdO_lst, kdO_tup, kit_NoneType_bool, kit_NoneType_int, kit_NoneType_str, kit_NoneType_list, kit_NoneType_tuple, kit_bool_bool, kit_bool_int, kit_bool_str, kit_bool_list, kit_bool_tuple, kit_int_bool, kit_int_int, kit_int_str, kit_int_list, kit_int_tuple, kit_str_bool, kit_str_int, kit_str_str, kit_str_list, kit_str_tuple, kit_list_bool, kit_list_int, kit_list_str, kit_list_list, kit_list_tuple, kit_tuple_bool, kit_tuple_int, kit_tuple_str, kit_tuple_list, kit_tuple_tuple, V.ty.injEq, rSortQ, rSlQ, rMulS, tJn, rAtX, rSlS, tSl, tPart, tNoPart, cut_lo2, cut_hi2, rInQ, gLq, gTq, gC_c, gNil, tChain, List.cons_append, List.nil_append, tBL, tBL0, tBad, tCr, tCe, tXF, cxH_K, HO.xd.injEq, rApp, rPopN, rRevL, seqAt_lst, seqAt_tup, at_0, at_1, at_2, at_3, at_4, ix_0, ix_1, ix_2, ix_3, ix_4, cx_K, upd_same, List.length_cons, List.length_nil, Nat.reduceAdd,  rEq, rNe, tRevL, V.int.injEq, V.bl.injEq, V.str.injEq, V.ref.injEq, List.cons.injEq, and_true, true_and, exists_and_left, exists_and_right, exists_eq_left, exists_eq_left', exists_eq_right, exists_eq_right', exists_const, Option.some.injEq, List.getElem?_cons_zero, List.getElem?_cons_succ, List.set_cons_zero, List.set_cons_succ, decide_eq_true_eq, decide_true, decide_false,  scal_ii, scal_bb, scal_ss, cmul_r, cdiv_l, cpow_12, cpow_18, cpow_40, HO.lst.injEq, HO.tup.injEq, upd_upd, Int.reduceToNat,  decide_not, Bool.not_eq_true', decide_eq_false_iff_not, if_true, if_false, Bool.false_eq_true, Bool.true_eq_false, reduceCtorEq, Int.reduceNeg, Nat.reduceLT, Int.reduceLT, Int.reducePow, gt_iff_lt]
    refine z_lcL l (ts.map V.ref) (fun Q q => ?_) (SqL.of ((show Same H H from fun _ _ h => h) _ _ hl)) (fun D i Hx => Same H Hx ∧ Rws H Hx D (((qs).take i).map pairV)) (fun D hD => ⟨same_new hD, Rws.new hD⟩) (fun _ => rfl) (fun D i Hx hD h => SqL.of (h.1 _ _ ((show Same H H from fun _ _ h => h) _ _ hl))) (fun D i x Hx hD hx hI => ?_) (fun D1 H1 hD1 hI1 => ?_)
    · simp only [tSeq, tNext, tDrop, tRet, tRetN, tIfS, tAsg, gName, tAug, ipI, tVar, tC, tOp, tUn, rI, rI0, rU, tCons, tNil, tCB, tTup, tLst, tTest, tB, tAnd, tOr, tNot, tAndV, tOrV, tNotV, tIf, tCl, tCd, tCk, gSub, rPutL, rAtQ, rIntI, rLenQ, rLenS, rListQ, rTupL, rTupQ, rIsQ_c, kd_non, kd_bl, kd_int, kd_str, kd_ref, kdO_lst, kdO_tup, kit_NoneType_bool, kit_NoneType_int, kit_NoneType_str, kit_NoneType_list, kit_NoneType_tuple, kit_bool_bool, kit_bool_int, kit_bool_str, kit_bool_list, kit_bool_tuple, kit_int_bool, kit_int_int, kit_int_str, kit_int_list, kit_int_tuple, kit_str_bool, kit_str_int, kit_str_str, kit_str_list, kit_str_tuple, kit_list_bool, kit_list_int, kit_list_str, kit_list_list, kit_list_tuple, kit_tuple_bool, kit_tuple_int, kit_tuple_str, kit_tuple_list, kit_tuple_tuple, V.ty.injEq, rSortQ, rSlQ, rMulS, tJn, rAtX, rSlS, tSl, tPart, tNoPart, cut_lo2, cut_hi2, rInQ, gLq, gTq, gC_c, gNil, tChain, List.cons_append, List.nil_append, tBL, tBL0, tBad, tCr, tCe, tXF, cxH_K, HO.xd.injEq, rApp, rPopN, rRevL, seqAt_lst, seqAt_tup, at_0, at_1, at_2, at_3, at_4, ix_0, ix_1, ix_2, ix_3, ix_4, cx_K, upd_same, List.length_cons, List.length_nil, Nat.reduceAdd,  rEq, rNe, tRevL, V.int.injEq, V.bl.injEq, V.str.injEq, V.ref.injEq, List.cons.injEq, and_true, true_and, exists_and_left, exists_and_right, exists_eq_left, exists_eq_left', exists_eq_right, exists_eq_right', exists_const, Option.some.injEq, List.getElem?_cons_zero, List.getElem?_cons_succ, List.set_cons_zero, List.set_cons_succ, decide_eq_true_eq, decide_true, decide_false,  scal_ii, scal_bb, scal_ss, cmul_r, cdiv_l, cpow_12, cpow_18, cpow_40, HO.lst.injEq, HO.tup.injEq, upd_upd, Int.reduceToNat,  decide_not, Bool.not_eq_true', decide_eq_false_iff_not, if_true, if_false, Bool.false_eq_true, Bool.true_eq_false, reduceCtorEq, Int.reduceNeg, Nat.reduceLT, Int.reduceLT, Int.reducePow, gt_iff_lt]
      exact q
    · rw [List.getElem?_map] at hx
      obtain ⟨a, ea, rfl⟩ := Option.map_eq_some_iff.mp hx
      obtain ⟨q0, eq0, ha⟩ := paired_get pq ea
      have ha3 : Hx a = some (.tup [.str q0.1, .str q0.2]) := hI.1 _ _ ((show Same H H from fun _ _ h => h) _ _ ha)
      simp only [tSeq, tNext, tDrop, tRet, tRetN, tIfS, tAsg, gName, tAug, ipI, tVar, tC, tOp, tUn, rI, rI0, rU, tCons, tNil, tCB, tTup, tLst, tTest, tB, tAnd, tOr, tNot, tAndV, tOrV, tNotV, tIf, tCl, tCd, tCk, gSub, rPutL, rAtQ, rIntI, rLenQ, rLenS, rListQ, rTupL, rTupQ, rIsQ_c, kd_non, kd_bl, kd_int, kd_str, kd_ref, kdO_lst, kdO_tup, kit_NoneType_bool, kit_NoneType_int, kit_NoneType_str, kit_NoneType_list, kit_NoneType_tuple, kit_bool_bool, kit_bool_int, kit_bool_str, kit_bool_list, kit_bool_tuple, kit_int_bool, kit_int_int, kit_int_str, kit_int_list, kit_int_tuple, kit_str_bool, kit_str_int, kit_str_str, kit_str_list, kit_str_tuple, kit_list_bool, kit_list_int, kit_list_str, kit_list_list, kit_list_tuple, kit_tuple_bool, kit_tuple_int, kit_tuple_str, kit_tuple_list, kit_tuple_tuple, V.ty.injEq, rSortQ, rSlQ, rMulS, tJn, rAtX, rSlS, tSl, tPart, tNoPart, cut_lo2, cut_hi2, rInQ, gLq, gTq, gC_c, gNil, tChain, List.cons_append, List.nil_append, tBL, tBL0, tBad, tCr, tCe, tXF, cxH_K, HO.xd.injEq, rApp, rPopN, rRevL, seqAt_lst, seqAt_tup, at_0, at_1, at_2, at_3, at_4, ix_0, ix_1, ix_2, ix_3, ix_4, cx_K, upd_same, List.length_cons, List.length_nil, Nat.reduceAdd,  rEq, rNe, tRevL, V.int.injEq, V.bl.injEq, V.str.injEq, V.ref.injEq, List.cons.injEq, and_true, true_and, exists_and_left, exists_and_right, exists_eq_left, exists_eq_left', exists_eq_right, exists_eq_right', exists_const, Option.some.injEq, List.getElem?_cons_zero, List.getElem?_cons_succ, List.set_cons_zero, List.set_cons_succ, decide_eq_true_eq, decide_true, decide_false,  scal_ii, scal_bb, scal_ss, cmul_r, cdiv_l, cpow_12, cpow_18, cpow_40, HO.lst.injEq, HO.tup.injEq, upd_upd, Int.reduceToNat,  decide_not, Bool.not_eq_true', decide_eq_false_iff_not, if_true, if_false, Bool.false_eq_true, Bool.true_eq_false, reduceCtorEq, Int.reduceNeg, Nat.reduceLT, Int.reduceLT, Int.reducePow, gt_iff_lt, wipe, List.map_cons, List.map_nil, tYes]
      refine ⟨_, by rw [ha3] <;> rfl, _, rfl, _, by rw [ha3] <;> rfl, _, rfl, sz_of (by decide), fun t ht => ?_⟩
      obtain ⟨acc, a1, a2, a3, a4⟩ := Rws.add (r := pairV (q0)) hI.1 hI.2 ht
      have hD' : t ≠ D := fun e => by rw [e, a1] at ht; cases ht
      refine ⟨acc, by rw [upd_ne hD'.symm]; exact a1, ?_, a3, ?_⟩
      · rw [a2, List.length_map]
        refine sz_lt (Nat.lt_of_le_of_lt (List.length_take_le' ..) ?_)
        skip
        rw [← paired_len pq]
        omega
      · rw [List.take_succ, eq0, List.map_append]
        exact a4
    refine z_lcL l (ts.map V.ref) (fun Q q => ?_) (SqL.of (hI1.1 _ _ hl)) (fun D i Hx => Same H1 Hx ∧ Rws H1 Hx D (((qs.map swP).take i).map pairV)) (fun D hD => ⟨same_new hD, Rws.new hD⟩) (fun _ => rfl) (fun D i Hx hD h => SqL.of (h.1 _ _ (hI1.1 _ _ hl))) (fun D i x Hx hD hx hI => ?_) (fun D2 H2 hD2 hI2 => ?_)
    · simp only [tSeq, tNext, tDrop, tRet, tRetN, tIfS, tAsg, gName, tAug, ipI, tVar, tC, tOp, tUn, rI, rI0, rU, tCons, tNil, tCB, tTup, tLst, tTest, tB, tAnd, tOr, tNot, tAndV, tOrV, tNotV, tIf, tCl, tCd, tCk, gSub, rPutL, rAtQ, rIntI, rLenQ, rLenS, rListQ, rTupL, rTupQ, rIsQ_c, kd_non, kd_bl, kd_int, kd_str, kd_ref, kdO_lst, kdO_tup, kit_NoneType_bool, kit_NoneType_int, kit_NoneType_str, kit_NoneType_list, kit_NoneType_tuple, kit_bool_bool, kit_bool_int, kit_bool_str, kit_bool_list, kit_bool_tuple, kit_int_bool, kit_int_int, kit_int_str, kit_int_list, kit_int_tuple, kit_str_bool, kit_str_int, kit_str_str, kit_str_list, kit_str_tuple, kit_list_bool, kit_list_int, kit_list_str, kit_list_list, kit_list_tuple, kit_tuple_bool, kit_tuple_int, kit_tuple_str, kit_tuple_list, kit_tuple_tuple, V.ty.injEq, rSortQ, rSlQ, rMulS, tJn, rAtX, rSlS, tSl, tPart, tNoPart, cut_lo2, cut_hi2, rInQ, gLq, gTq, gC_c, gNil, tChain, List.cons_append, List.nil_append, tBL, tBL0, tBad, tCr, tCe, tXF, cxH_K, HO.xd.injEq, rApp, rPopN, rRevL, seqAt_lst, seqAt_tup, at_0, at_1, at_2, at_3, at_4, ix_0, ix_1, ix_2, ix_3, ix_4, cx_K, upd_same, List.length_cons, List.length_nil, Nat.reduceAdd,  rEq, rNe, tRevL, V.int.injEq, V.bl.injEq, V.str.injEq, V.ref.injEq, List.cons.injEq, and_true, true_and, exists_and_left, exists_and_right, exists_eq_left, exists_eq_left', exists_eq_right, exists_eq_right', exists_const, Option.some.injEq, List.getElem?_cons_zero, List.getElem?_cons_succ, List.set_cons_zero, List.set_cons_succ, decide_eq_true_eq, decide_true, decide_false,  scal_ii, scal_bb, scal_ss, cmul_r, cdiv_l, cpow_12, cpow_18, cpow_40, HO.lst.injEq, HO.tup.injEq, upd_upd, Int.reduceToNat,  decide_not, Bool.not_eq_true', decide_eq_false_iff_not, if_true, if_false, Bool.false_eq_true, Bool.true_eq_false, reduceCtorEq, Int.reduceNeg, Nat.reduceLT, Int.reduceLT, Int.reducePow, gt_iff_lt]
      exact q
    · rw [List.getElem?_map] at hx
      obtain ⟨a, ea, rfl⟩ := Option.map_eq_some_iff.mp hx
      obtain ⟨q0, eq0, ha⟩ := paired_get pq ea
      have ha3 : Hx a = some (.tup [.str q0.1, .str q0.2]) := hI.1 _ _ (hI1.1 _ _ ha)
      simp only [tSeq, tNext, tDrop, tRet, tRetN, tIfS, tAsg, gName, tAug, ipI, tVar, tC, tOp, tUn, rI, rI0, rU, tCons, tNil, tCB, tTup, tLst, tTest, tB, tAnd, tOr, tNot, tAndV, tOrV, tNotV, tIf, tCl, tCd, tCk, gSub, rPutL, rAtQ, rIntI, rLenQ, rLenS, rListQ, rTupL, rTupQ, rIsQ_c, kd_non, kd_bl, kd_int, kd_str, kd_ref, kdO_lst, kdO_tup, kit_NoneType_bool, kit_NoneType_int, kit_NoneType_str, kit_NoneType_list, kit_NoneType_tuple, kit_bool_bool, kit_bool_int, kit_bool_str, kit_bool_list, kit_bool_tuple, kit_int_bool, kit_int_int, kit_int_str, kit_int_list, kit_int_tuple, kit_str_bool, kit_str_int, kit_str_str, kit_str_list, kit_str_tuple, kit_list_bool, kit_list_int, kit_list_str, kit_list_list, kit_list_tuple, kit_tuple_bool, kit_tuple_int, kit_tuple_str, kit_tuple_list, kit_tuple_tuple, V.ty.injEq, rSortQ, rSlQ, rMulS, tJn, rAtX, rSlS, tSl, tPart, tNoPart, cut_lo2, cut_hi2, rInQ, gLq, gTq, gC_c, gNil, tChain, List.cons_append, List.nil_append, tBL, tBL0, tBad, tCr, tCe, tXF, cxH_K, HO.xd.injEq, rApp, rPopN, rRevL, seqAt_lst, seqAt_tup, at_0, at_1, at_2, at_3, at_4, ix_0, ix_1, ix_2, ix_3, ix_4, cx_K, upd_same, List.length_cons, List.length_nil, Nat.reduceAdd,  rEq, rNe, tRevL, V.int.injEq, V.bl.injEq, V.str.injEq, V.ref.injEq, List.cons.injEq, and_true, true_and, exists_and_left, exists_and_right, exists_eq_left, exists_eq_left', exists_eq_right, exists_eq_right', exists_const, Option.some.injEq, List.getElem?_cons_zero, List.getElem?_cons_succ, List.set_cons_zero, List.set_cons_succ, decide_eq_true_eq, decide_true, decide_false,  scal_ii, scal_bb, scal_ss, cmul_r, cdiv_l, cpow_12, cpow_18, cpow_40, HO.lst.injEq, HO.tup.injEq, upd_upd, Int.reduceToNat,  decide_not, Bool.not_eq_true', decide_eq_false_iff_not, if_true, if_false, Bool.false_eq_true, Bool.true_eq_false, reduceCtorEq, Int.reduceNeg, Nat.reduceLT, Int.reduceLT, Int.reducePow, gt_iff_lt, wipe, List.map_cons, List.map_nil, tYes]
      refine ⟨_, by rw [ha3] <;> rfl, _, rfl, _, by rw [ha3] <;> rfl, _, rfl, sz_of (by decide), fun t ht => ?_⟩
      obtain ⟨acc, a1, a2, a3, a4⟩ := Rws.add (r := pairV (swP q0)) hI.1 hI.2 ht
      have hD' : t ≠ D := fun e => by rw [e, a1] at ht; cases ht
      refine ⟨acc, by rw [upd_ne hD'.symm]; exact a1, ?_, a3, ?_⟩
      · rw [a2, List.length_map]
        refine sz_lt (Nat.lt_of_le_of_lt (List.length_take_le' ..) ?_)
        rw [List.length_map]
        rw [← paired_len pq]
        omega
      · rw [List.take_succ, List.getElem?_map, eq0, List.map_append]
        exact a4
    rw [List.length_map, paired_len pq, List.take_length] at hI1
    rw [List.length_map, paired_len pq, show qs.length = (qs.map swP).length by rw [List.length_map], List.take_length] at hI2
    refine lcE_list ?_
    simp only [tSeq, tNext, tDrop, tRet, tRetN, tIfS, tAsg, gName, tAug, ipI, tVar, tC, tOp, tUn, rI, rI0, rU, tCons, tNil, tCB, tTup, tLst, tTest, tB, tAnd, tOr, tNot, tAndV, tOrV, tNotV, tIf, tCl, tCd, tCk, gSub, rPutL, rAtQ, rIntI, rLenQ, rLenS, rListQ, rTupL, rTupQ, rIsQ_c, kd_non, kd_bl, kd_int, kd_str, kd_ref, kdO_lst, kdO_tup, kit_NoneType_bool, kit_NoneType_int, kit_NoneType_str, kit_NoneType_list, kit_NoneType_tuple, kit_bool_bool, kit_bool_int, kit_bool_str, kit_bool_list, kit_bool_tuple, kit_int_bool, kit_int_int, kit_int_str, kit_int_list, kit_int_tuple, kit_str_bool, kit_str_int, kit_str_str, kit_str_list, kit_str_tuple, kit_list_bool, kit_list_int, kit_list_str, kit_list_list, kit_list_tuple, kit_tuple_bool, kit_tuple_int, kit_tuple_str, kit_tuple_list, kit_tuple_tuple, V.ty.injEq, rSortQ, rSlQ, rMulS, tJn, rAtX, rSlS, tSl, tPart, tNoPart, cut_lo2, cut_hi2, rInQ, gLq, gTq, gC_c, gNil, tChain, List.cons_append, List.nil_append, tBL, tBL0, tBad, tCr, tCe, tXF, cxH_K, HO.xd.injEq, rApp, rPopN, rRevL, seqAt_lst, seqAt_tup, at_0, at_1, at_2, at_3, at_4, ix_0, ix_1, ix_2, ix_3, ix_4, cx_K, upd_same, List.length_cons, List.length_nil, Nat.reduceAdd,  rEq, rNe, tRevL, V.int.injEq, V.bl.injEq, V.str.injEq, V.ref.injEq, List.cons.injEq, and_true, true_and, exists_and_left, exists_and_right, exists_eq_left, exists_eq_left', exists_eq_right, exists_eq_right', exists_const, Option.some.injEq, List.getElem?_cons_zero, List.getElem?_cons_succ, List.set_cons_zero, List.set_cons_succ, decide_eq_true_eq, decide_true, decide_false,  scal_ii, scal_bb, scal_ss, cmul_r, cdiv_l, cpow_12, cpow_18, cpow_40, HO.lst.injEq, HO.tup.injEq, upd_upd, Int.reduceToNat,  decide_not, Bool.not_eq_true', decide_eq_false_iff_not, if_true, if_false, Bool.false_eq_true, Bool.true_eq_false, reduceCtorEq, Int.reduceNeg, Nat.reduceLT, Int.reduceLT, Int.reducePow, gt_iff_lt]
    obtain ⟨s1, g1⟩ := hI1
    obtain ⟨s2, g2⟩ := hI2
    obtain ⟨_, as1, e1, pr1⟩ := g1
    obtain ⟨_, as2, e2, pr2⟩ := g2
    have pr1' := paired_mapR pr1
    have pr2' := paired_mapR pr2
    have S2 : Same H H2 := fun b o e => s2 b o (s1 b o e)
    refine ⟨p, ns, rfl, S2 _ _ hp, hn, fun r3 H3 s3 g3 => ?_⟩
    obtain ⟨f3, as, h3, pr3⟩ := g3
    have pr3' := paired_mapR pr3
    have S3 : Same H H3 := fun b o e => s3 b o (S2 b o e)
    have okall : ∀ q ∈ qs ++ qs.map swP, OkP q := fun q hq => by
      rcases List.mem_append.mp hq with h | h
      · exact hqs q h
      · obtain ⟨q', h', rfl⟩ := List.mem_map.mp h
        exact ⟨(hqs q' h').2, (hqs q' h').1⟩
    have pcat : Paired (fun (a : Addr) (q : Str × Str) => H3 a = some (.tup (pairV q))) (as1 ++ as2) (qs ++ qs.map swP) :=
      paired_cat (paired_imp (fun a q h => s3 _ _ (s2 _ _ h.2)) pr1') (paired_imp (fun a q h => s3 _ _ h.2) pr2')
    refine ⟨r3, rfl, ⟨_, SqL.of h3⟩, fun D hD => lcG_at (as.map V.ref) (fun i Hx => Same H3 Hx ∧ ∃ sel : List Addr, Hx D = some (.lst (sel.map V.ref)) ∧ Paired (fun (a : Addr) (q : Str × Str) => H a = none ∧ H3 a = some (.tup (pairV q))) sel (((nmP ns).take i).filter fun q => decide (q ∈ qs ++ qs.map swP))) ⟨same_new hD, [], upd_same, .nil⟩ (fun i Hx h => SqL.of (h.1 _ _ h3)) (fun i x Hx hx hI => ?_) (fun Hx hI => ?_)⟩
    · rw [List.getElem?_map] at hx
      obtain ⟨a, ea, rfl⟩ := Option.map_eq_some_iff.mp hx
      obtain ⟨q0, eq0, f0, ha⟩ := paired_get pr3' ea
      obtain ⟨sm, sel, hsel, psel⟩ := hI
      have okq : OkP q0 := ⟨hok _ (nmP_mem (List.mem_of_getElem? eq0)).1, hok _ (nmP_mem (List.mem_of_getElem? eq0)).2⟩
      simp only [tSeq, tNext, tDrop, tRet, tRetN, tIfS, tAsg, gName, tAug, ipI, tVar, tC, tOp, tUn, rI, rI0, rU, tCons, tNil, tCB, tTup, tLst, tTest, tB, tAnd, tOr, tNot, tAndV, tOrV, tNotV, tIf, tCl, tCd, tCk, gSub, rPutL, rAtQ, rIntI, rLenQ, rLenS, rListQ, rTupL, rTupQ, rIsQ_c, kd_non, kd_bl, kd_int, kd_str, kd_ref, kdO_lst, kdO_tup, kit_NoneType_bool, kit_NoneType_int, kit_NoneType_str, kit_NoneType_list, kit_NoneType_tuple, kit_bool_bool, kit_bool_int, kit_bool_str, kit_bool_list, kit_bool_tuple, kit_int_bool, kit_int_int, kit_int_str, kit_int_list, kit_int_tuple, kit_str_bool, kit_str_int, kit_str_str, kit_str_list, kit_str_tuple, kit_list_bool, kit_list_int, kit_list_str, kit_list_list, kit_list_tuple, kit_tuple_bool, kit_tuple_int, kit_tuple_str, kit_tuple_list, kit_tuple_tuple, V.ty.injEq, rSortQ, rSlQ, rMulS, tJn, rAtX, rSlS, tSl, tPart, tNoPart, cut_lo2, cut_hi2, rInQ, gLq, gTq, gC_c, gNil, tChain, List.cons_append, List.nil_append, tBL, tBL0, tBad, tCr, tCe, tXF, cxH_K, HO.xd.injEq, rApp, rPopN, rRevL, seqAt_lst, seqAt_tup, at_0, at_1, at_2, at_3, at_4, ix_0, ix_1, ix_2, ix_3, ix_4, cx_K, upd_same, List.length_cons, List.length_nil, Nat.reduceAdd,  rEq, rNe, tRevL, V.int.injEq, V.bl.injEq, V.str.injEq, V.ref.injEq, List.cons.injEq, and_true, true_and, exists_and_left, exists_and_right, exists_eq_left, exists_eq_left', exists_eq_right, exists_eq_right', exists_const, Option.some.injEq, List.getElem?_cons_zero, List.getElem?_cons_succ, List.set_cons_zero, List.set_cons_succ, decide_eq_true_eq, decide_true, decide_false,  scal_ii, scal_bb, scal_ss, cmul_r, cdiv_l, cpow_12, cpow_18, cpow_40, HO.lst.injEq, HO.tup.injEq, upd_upd, Int.reduceToNat,  decide_not, Bool.not_eq_true', decide_eq_false_iff_not, if_true, if_false, Bool.false_eq_true, Bool.true_eq_false, reduceCtorEq, Int.reduceNeg, Nat.reduceLT, Int.reduceLT, Int.reducePow, gt_iff_lt, wipe, List.map_cons, List.map_nil, rCatQ]
      refine ⟨_, sm _ _ (s3 _ _ (s2 _ _ e1)), _, sm _ _ (s3 _ _ e2), ?_, fun c hc => ?_⟩
      · rw [List.length_map, List.length_map, paired_len pr1', paired_len pr2', List.length_map, ← paired_len pq]
        exact sz_of (by omega)
      · have smc : Same H3 (upd Hx c (.lst (as1.map V.ref ++ as2.map V.ref))) := fun b o e => same_new hc b o (sm b o e)
        have nDc : D ≠ c := ne_of_none hsel hc
        refine ⟨pD q0, (qs ++ qs.map swP).map pD, dp_pair (smc _ _ ha), .lst (SqL.of upd_same) ?_, pD_shaped okq, pDs_shaped okall, ?_⟩
        · have z : Paired (fun (a : Addr) (q : Str × Str) => upd Hx c (.lst (as1.map V.ref ++ as2.map V.ref)) a = some (.tup (pairV q))) (as1 ++ as2) (qs ++ qs.map swP) := paired_imp (fun (a : Addr) (q : Str × Str) (h : H3 a = some (.tup (pairV q))) => smc a _ h) pcat
          have y := dp_pairs (K := K) z
          rw [List.map_append] at y
          exact y
        · rw [pD_any, List.take_succ, eq0, List.filter_append]
          refine ⟨_, rfl, ?_⟩
          split
          · rename_i hm
            refine ⟨_, by rw [upd_ne nDc]; exact hsel, ?_, same_at smc hD, sel ++ [a], by rw [List.map_append] <;> rfl, ?_⟩
            · have z := ix2_len ns.length
              have z2 : ns.length * ns.length ≤ 10 * 10 := Nat.mul_le_mul hn hn
              rw [List.length_map, paired_len psel]
              refine sz_lt (Nat.lt_of_le_of_lt (List.length_filter_le _ _) (Nat.lt_of_le_of_lt (List.length_take_le' ..) ?_))
              rw [nmP, List.length_map]
              omega
            · have e : ([q0].filter fun q => decide (q ∈ qs ++ qs.map swP)) = [q0] := by
                rw [List.filter_cons, if_pos hm, List.filter_nil]
              show Paired _ (sel ++ [a]) (_ ++ ([q0].filter fun q => decide (q ∈ qs ++ qs.map swP)))
              rw [e]
              exact paired_app ⟨same_free S2 f0, ha⟩ psel
          · rename_i hm
            have e : ([q0].filter fun q => decide (q ∈ qs ++ qs.map swP)) = [] := by
              rw [List.filter_cons, if_neg hm, List.filter_nil]
            refine ⟨smc, sel, by rw [upd_ne nDc]; exact hsel, ?_⟩
            show Paired _ sel (_ ++ ([q0].filter fun q => decide (q ∈ qs ++ qs.map swP)))
            rw [e, List.append_nil]
            exact psel
    · obtain ⟨sm, sel, hsel, psel⟩ := hI
      refine ⟨D, rfl, _, hsel, fun t ht => q t _ (fun b o e => same_new ht b o (sm b o (S3 b o e))) ⟨same_free (fun b o e => sm b o (S3 b o e)) ht, sel, upd_same, ?_⟩⟩
      rw [List.length_map, paired_len pr3', List.take_length] at psel
      exact paired_imp (fun b r h => ⟨h.1, by rw [upd_ne (ne_of_none (sm _ _ h.2) ht)]; exact sm _ _ h.2⟩) psel
end
end Z
set_option Elab.async false
set_option linter.all false
set_option maxRecDepth 100000
set_option maxHeartbeats 4000000
namespace Z
open PySem PySem.Spec PyProof.Rows L2 L2H
section
variable {P : Program} {w : World} {K : PySem.W.Frag} {mg : Str → Option Value} {base : Heap}
/-- the places of a group's lots, sorted, each once -/
def IsPl (ns g : List Str) (is : List Int) : Prop := is.Pairwise (· < ·) ∧ ∀ k : Int, k ∈ is ↔ ∃ z ∈ g, k = (ns.idxOf z : Int)
theorem ff_hit {ns l : List Str} {i : Nat} {z : Str} (h : ∀ y ∈ l.take i, y ∈ ns) (e : l[i]? = some z) (hz : z ∉ ns) : l.find? (fun z => decide (z ∉ ns)) = some z := by
  obtain ⟨hi, ei⟩ := List.getElem?_eq_some_iff.mp e
  have el : l = l.take i ++ z :: l.drop (i + 1) := by
    rw [← ei, List.getElem_cons_drop, List.take_append_drop]
  rw [el, List.find?_append, List.find?_eq_none.mpr (fun y hy => by simp [h y hy])]
  simp [hz]
theorem ff_none {ns l : List Str} (h : ∀ y ∈ l, y ∈ ns) : l.find? (fun z => decide (z ∉ ns)) = none := List.find?_eq_none.mpr (fun y hy => by simp [h y hy])
theorem pw_len : ∀ (l : List Int) (lo hi : Int), l.Pairwise (· < ·) → (∀ k ∈ l, lo ≤ k ∧ k < hi) → (l.length : Int) ≤ max 0 (hi - lo)
  | [], lo, hi, _, _ => by simp; omega
  | a :: l, lo, hi, pw, h => by
    rw [List.pairwise_cons] at pw
    have h1 := h a List.mem_cons_self
    have z := pw_len l (a + 1) hi pw.2 fun k hk => ⟨by have := pw.1 k hk; omega, (h k (List.mem_cons_of_mem _ hk)).2⟩
    rw [List.length_cons]
    omega
theorem mn_mem {r : List Int} : ∀ {rs : List (List Int)}, mnL rs = some r → r ∈ rs
  | [], h => by cases h
  | x :: rs, h => by
    have g : ∀ (ys : List TI4) (x : TI4), PySem.W.minOf x ys ∈ x :: ys := fun ys => by
      induction ys with
      | nil => intro x; exact List.mem_cons_self
      | cons y ys ih =>
        intro x
        show PySem.W.minOf (if PySem.W.DatumOrd.lt y x = true then y else x) ys ∈ _
        have z := ih (if PySem.W.DatumOrd.lt y x = true then y else x)
        rcases List.mem_cons.mp z with z | z
        · rw [z]
          split
          · exact List.mem_cons_of_mem _ List.mem_cons_self
          · exact List.mem_cons_self
        · exact List.mem_cons_of_mem _ (List.mem_cons_of_mem _ z)
    have e : (PySem.W.minOf (⟨x⟩ : TI4) (rs.map PySem.W.Tup.mk)).items = r := by
      have h' : some (PySem.W.minOf (⟨x⟩ : TI4) (rs.map PySem.W.Tup.mk)).items = some r := h
      exact Option.some.inj h'
    have m := g (rs.map PySem.W.Tup.mk) ⟨x⟩
    rw [← e]
    rcases List.mem_cons.mp m with m | m
    · rw [m]
      exact List.mem_cons_self
    · obtain ⟨y, hy, ey⟩ := List.mem_map.mp m
      rw [← ey]
      exact List.mem_cons_of_mem _ hy
theorem cis_in {xs ys : List Int} {r : List Int} (h : r ∈ cis xs ys) : ∃ a b c d, r = [a, b, c, d] ∧ a ∈ xs ∧ b ∈ ys ∧ c ∈ xs ∧ d ∈ ys ∧ a < b ∧ b < c ∧ c < d := by
  obtain ⟨a, ha, h⟩ := List.mem_flatMap.mp h
  obtain ⟨b, hb, h⟩ := List.mem_flatMap.mp h
  unfold ci2 at h
  split at h
  · obtain ⟨c, hc, h⟩ := List.mem_flatMap.mp h
    unfold ci3 at h
    split at h
    · obtain ⟨d, hd, h⟩ := List.mem_flatMap.mp h
      unfold ci4 at h
      split at h
      · exact ⟨a, b, c, d, by simpa using h, ha, hb, hc, hd, by assumption, by assumption, by assumption⟩
      · cases h
    · cases h
  · cases h
theorem ispl_len {ns g : List Str} {is : List Int} (hn : ns.length ≤ 10) (h : IsPl ns g is) (hg : ∀ z ∈ g, z ∈ ns) : is.length ≤ 10 := by
  have z := pw_len is 0 10 h.1 fun k hk => by
    obtain ⟨z, hz, rfl⟩ := (h.2 k).mp hk
    have := List.idxOf_lt_length_of_mem (hg z hz)
    omega
  omega
def plI (ns g : List Str) : List V := g.map fun z => .int (ns.idxOf z : Int)
abbrev s_groups_cross : Stmt := topS 44
abbrev N_groups_cross : List Str := ["pond", "first", "second", "one", "two", "places", "lot", "at"]
theorem sc_groups_cross : FnScope N_groups_cross ["pond", "first", "second"] (defScope s_groups_cross) := ⟨rfl, rfl, rfl, by decide +kernel, rfl, by decide +kernel, by decide +kernel⟩
theorem b_groups_cross : BindO "groups_cross" s_groups_cross ["pond", "first", "second"] := fun _ _ _ _ _ _ us hl => match us, hl with | [_, _, _], _ => rfl

def sp_groups_cross (CP CU : Addr) : Sp := fun vs H Q E => ∃ (p a b : Addr) (ns g1 g2 : List Str), vs = [.ref p, .ref a, .ref b] ∧ PlAt CP H p ns ∧ ns.length ≤ 10 ∧ SqX H a (g1.map V.str) ∧ SqX H b (g2.map V.str) ∧ g1.length ≤ 50 ∧ g2.length ≤ 50 ∧ (∀ z ∈ g1 ++ g2, Tx 1000 z) ∧
  (∀ z, (g1 ++ g2).find? (fun z => decide (z ∉ ns)) = some z → ∀ (d : Addr) (H' : Hp), Same H H' → H' d = some (.xd [("name", .str z)]) → E (.ref CU) (some d) H') ∧
  (∀ is js, IsPl ns g1 is → IsPl ns g2 js → (∀ z ∈ g1 ++ g2, z ∈ ns) → (mnL (cis is js ++ cis js is) = none → ∀ H', Same H H' → Q .non H') ∧
    ∀ r, mnL (cis is js ++ cis js is) = some r → ∀ (t : Addr) (H' : Hp), Same H H' → H t = none → H' t = some (.tup (r.map fun i => .str (ns.getD i.toNat Str.empty))) → Q (.ref t) H')
theorem ok_groups_cross {CP CU : Addr} (D : Dn K mg "groups_cross" s_groups_cross) (B : Blt mg) (pr_names : Pr P w K mg base CP "names" "_names") (cm_position : Cm P w K mg base 3 CP "position" (sp_position CP CU)) (c_crossing_places : Cl P w K mg base 2 "crossing_places" sp_crossing_places) : Cr P w K mg base 4 "groups_cross" (sp_groups_cross CP CU) := by
  refine cr_of D sc_groups_cross b_groups_cross (fun vs H Q E h => ?_) (fun f cdv A outer s H vs Q E hr h => ?_)
  · obtain ⟨p, a, b, ns, g1, g2, rfl, _⟩ := h
    rfl
  · obtain ⟨p, a, b, ns, g1, g2, rfl, hp, hn, ha, hb, l1, l2, tx, q1, q2⟩ := h
    have tk : Takes (cxOf (L2.CX P w) P w K mg base N_groups_cross "groups_cross" (defScope s_groups_cross) f cdv A outer s H E) (fun cls d _ H => E cls d H) := takes_of rfl rfl rfl rfl
    refine ⟨_, (pss_cons (ps_setLcX (i := 3) (own := [("lot", 6)]) (g := gName 6) rfl rfl tk rfl sc_groups_cross.nd rfl rfl (sw_true rfl rfl rfl (by decide +kernel)) (pi_seq (pv 1)) (blkOk_by (N := N_groups_cross) (sc := defScope s_groups_cross) (own := [("lot", 6)]) (by decide +kernel)) (fun _ _ _ _ _ _ => (pg_name (i := 6) sc_groups_cross.nd rfl (Or.inl rfl))) (fun _ _ _ _ _ _ hx => pts_nil) (fun _ _ _ _ _ _ hx => (pe_cmP cm_position hx hr (by omega) (pv 0) (pa_cons (pv 6) pa_nil))))
      (pss_cons (ps_setLcX (i := 4) (own := [("lot", 6)]) (g := gName 6) rfl rfl tk rfl sc_groups_cross.nd rfl rfl (sw_true rfl rfl rfl (by decide +kernel)) (pi_seq (pv 2)) (blkOk_by (N := N_groups_cross) (sc := defScope s_groups_cross) (own := [("lot", 6)]) (by decide +kernel)) (fun _ _ _ _ _ _ => (pg_name (i := 6) sc_groups_cross.nd rfl (Or.inl rfl))) (fun _ _ _ _ _ _ hx => pts_nil) (fun _ _ _ _ _ _ hx => (pe_cmP cm_position hx hr (by omega) (pv 0) (pa_cons (pv 6) pa_nil))))
      (pss_cons (ps_set (i := 5) sc_groups_cross.nd rfl (.inl rfl) (pe_cl c_crossing_places hr (by omega) rfl (pa_cons (pe_callB (cr_sortedSet rfl) (by rfl) B.sorted (by decide +kernel) (pa_cons (pe_callTy (call_setL rfl) (by rfl) B.set (by decide +kernel) (pa_cons (pv 3) pa_nil)) pa_nil)) (pa_cons (pe_callB (cr_sortedSet rfl) (by rfl) B.sorted (by decide +kernel) (pa_cons (pe_callTy (call_setL rfl) (by rfl) B.set (by decide +kernel) (pa_cons (pv 4) pa_nil)) pa_nil)) pa_nil))))
      (pss_cons (ps_if (pt_cmpR op_isN (pv 5) pe_non (nomark _)) (pss_one (ps_ret pe_non)) pss_nil)
      (pss_one (ps_ret (pe_callTy call_tupL (by rfl) B.tuple (by decide +kernel) (pa_cons (pe_lc (own := [("at", 7)]) (g := gName 7) rfl sc_groups_cross.nd (pi_tup (pv 5)) (blkOk_by (N := N_groups_cross) (sc := defScope s_groups_cross) (own := [("at", 7)]) (by decide +kernel)) (fun _ _ _ _ _ => (pg_name (i := 7) sc_groups_cross.nd rfl (Or.inl rfl))) (fun _ _ _ _ _ => pts_nil) (fun _ _ _ _ _ => (pe_ix at_seq (pe_pr pr_names hr (by omega) (pv 0)) (pv 7) (fun _ _ => rfl)))) pa_nil)))))))), ?_⟩
    rw [show L2.start N_groups_cross [.ref p, .ref a, .ref b] = [some (.ref p), some (.ref a), some (.ref b), none, none, none, none, none] from rfl]
    simp only [tSeq, tNext, tDrop, tRet, tRetN, tIfS, tAsg, gName, tAug, ipI, tVar, tC, tOp, tUn, rI, rI0, rU, tCons, tNil, tCB, tTup, tLst, tTest, tB, tAnd, tOr, tNot, tAndV, tOrV, tNotV, tIf, tCl, tCd, tCk, gSub, rPutL, rAtQ, rIntI, rLenQ, rLenS, rListQ, rTupL, rTupQ, rIsQ_c, kd_non, kd_bl, kd_int, kd_str, kd_ref, kdO_lst, kdO_tup, kit_NoneType_bool, kit_NoneType_int, kit_NoneType_str, kit_NoneType_list, kit_NoneType_tuple, kit_bool_bool, kit_bool_int, kit_bool_str, kit_bool_list, kit_bool_tuple, kit_int_bool, kit_int_int, kit_int_str, kit_int_list, kit_int_tuple, kit_str_bool, kit_str_int, kit_str_str, kit_str_list, kit_str_tuple, kit_list_bool, kit_list_int, kit_list_str, kit_list_list, kit_list_tuple, kit_tuple_bool, kit_tuple_int, kit_tuple_str, kit_tuple_list, kit_tuple_tuple, V.ty.injEq, rSortQ, rSlQ, rMulS, tJn, rAtX, rSlS, tSl, tPart, tNoPart, cut_lo2, cut_hi2, rInQ, gLq, gTq, gC_c, gNil, tChain, List.cons_append, List.nil_append, tBL, tBL0, tBad, tCr, tCe, tXF, cxH_K, HO.xd.injEq, rApp, rPopN, rRevL, seqAt_lst, seqAt_tup, at_0, at_1, at_2, at_3, at_4, ix_0, ix_1, ix_2, ix_3, ix_4, cx_K, upd_same, List.length_cons, List.length_nil, Nat.reduceAdd,  rEq, rNe, tRevL, V.int.injEq, V.bl.injEq, V.str.injEq, V.ref.injEq, List.cons.injEq, and_true, true_and, exists_and_left, exists_and_right, exists_eq_left, exists_eq_left', exists_eq_right, exists_eq_right', exists_const, Option.some.injEq, List.getElem?_cons_zero, List.getElem?_cons_succ, List.set_cons_zero, List.set_cons_succ, decide_eq_true_eq, decide_true, decide_false,  scal_ii, scal_bb, scal_ss, cmul_r, cdiv_l, cpow_12, cpow_18, cpow_40, HO.lst.injEq, HO.tup.injEq, upd_upd, Int.reduceToNat,  decide_not, Bool.not_eq_true', decide_eq_false_iff_not, if_true, if_false, Bool.false_eq_true, Bool.true_eq_false, reduceCtorEq, Int.reduceNeg, Nat.reduceLT, Int.reduceLT, Int.reducePow, gt_iff_lt]
    refine lcG_seq a (g1.map V.str) (fun Q q => ?_) (ha) (fun D i H' => Same H H' ∧ H' D = some (.lst (plI ns (g1.take i))) ∧ ∀ z ∈ g1.take i, z ∈ ns) (fun D hD => ⟨same_new hD, upd_same, fun z hz => by simp at hz⟩) (fun D i H' hD h => h.1) (fun D i x H' hD hx hI => ?_) (fun D1 H1 hD1 hI1 => ?_)
    · simp only [tSeq, tNext, tDrop, tRet, tRetN, tIfS, tAsg, gName, tAug, ipI, tVar, tC, tOp, tUn, rI, rI0, rU, tCons, tNil, tCB, tTup, tLst, tTest, tB, tAnd, tOr, tNot, tAndV, tOrV, tNotV, tIf, tCl, tCd, tCk, gSub, rPutL, rAtQ, rIntI, rLenQ, rLenS, rListQ, rTupL, rTupQ, rIsQ_c, kd_non, kd_bl, kd_int, kd_str, kd_ref, kdO_lst, kdO_tup, kit_NoneType_bool, kit_NoneType_int, kit_NoneType_str, kit_NoneType_list, kit_NoneType_tuple, kit_bool_bool, kit_bool_int, kit_bool_str, kit_bool_list, kit_bool_tuple, kit_int_bool, kit_int_int, kit_int_str, kit_int_list, kit_int_tuple, kit_str_bool, kit_str_int, kit_str_str, kit_str_list, kit_str_tuple, kit_list_bool, kit_list_int, kit_list_str, kit_list_list, kit_list_tuple, kit_tuple_bool, kit_tuple_int, kit_tuple_str, kit_tuple_list, kit_tuple_tuple, V.ty.injEq, rSortQ, rSlQ, rMulS, tJn, rAtX, rSlS, tSl, tPart, tNoPart, cut_lo2, cut_hi2, rInQ, gLq, gTq, gC_c, gNil, tChain, List.cons_append, List.nil_append, tBL, tBL0, tBad, tCr, tCe, tXF, cxH_K, HO.xd.injEq, rApp, rPopN, rRevL, seqAt_lst, seqAt_tup, at_0, at_1, at_2, at_3, at_4, ix_0, ix_1, ix_2, ix_3, ix_4, cx_K, upd_same, List.length_cons, List.length_nil, Nat.reduceAdd,  rEq, rNe, tRevL, V.int.injEq, V.bl.injEq, V.str.injEq, V.ref.injEq, List.cons.injEq, and_true, true_and, exists_and_left, exists_and_right, exists_eq_left, exists_eq_left', exists_eq_right, exists_eq_right', exists_const, Option.some.injEq, List.getElem?_cons_zero, List.getElem?_cons_succ, List.set_cons_zero, List.set_cons_succ, decide_eq_true_eq, decide_true, decide_false,  scal_ii, scal_bb, scal_ss, cmul_r, cdiv_l, cpow_12, cpow_18, cpow_40, HO.lst.injEq, HO.tup.injEq, upd_upd, Int.reduceToNat,  decide_not, Bool.not_eq_true', decide_eq_false_iff_not, if_true, if_false, Bool.false_eq_true, Bool.true_eq_false, reduceCtorEq, Int.reduceNeg, Nat.reduceLT, Int.reduceLT, Int.reducePow, gt_iff_lt]
      exact q
    · rw [List.getElem?_map] at hx
      obtain ⟨z, ez, rfl⟩ := Option.map_eq_some_iff.mp hx
      have zt := tx z (List.mem_append_left _ (List.mem_of_getElem? ez))
      have pl := hp.same (show Same H H' from fun b o e => hI.1 b o ((show Same H H from fun _ _ h => h) b o e))
      obtain ⟨dx, fs, nA, d, e1, e2, e3, e4, e5, e6, e7⟩ := id pl
      simp only [tSeq, tNext, tDrop, tRet, tRetN, tIfS, tAsg, gName, tAug, ipI, tVar, tC, tOp, tUn, rI, rI0, rU, tCons, tNil, tCB, tTup, tLst, tTest, tB, tAnd, tOr, tNot, tAndV, tOrV, tNotV, tIf, tCl, tCd, tCk, gSub, rPutL, rAtQ, rIntI, rLenQ, rLenS, rListQ, rTupL, rTupQ, rIsQ_c, kd_non, kd_bl, kd_int, kd_str, kd_ref, kdO_lst, kdO_tup, kit_NoneType_bool, kit_NoneType_int, kit_NoneType_str, kit_NoneType_list, kit_NoneType_tuple, kit_bool_bool, kit_bool_int, kit_bool_str, kit_bool_list, kit_bool_tuple, kit_int_bool, kit_int_int, kit_int_str, kit_int_list, kit_int_tuple, kit_str_bool, kit_str_int, kit_str_str, kit_str_list, kit_str_tuple, kit_list_bool, kit_list_int, kit_list_str, kit_list_list, kit_list_tuple, kit_tuple_bool, kit_tuple_int, kit_tuple_str, kit_tuple_list, kit_tuple_tuple, V.ty.injEq, rSortQ, rSlQ, rMulS, tJn, rAtX, rSlS, tSl, tPart, tNoPart, cut_lo2, cut_hi2, rInQ, gLq, gTq, gC_c, gNil, tChain, List.cons_append, List.nil_append, tBL, tBL0, tBad, tCr, tCe, tXF, cxH_K, HO.xd.injEq, rApp, rPopN, rRevL, seqAt_lst, seqAt_tup, at_0, at_1, at_2, at_3, at_4, ix_0, ix_1, ix_2, ix_3, ix_4, cx_K, upd_same, List.length_cons, List.length_nil, Nat.reduceAdd,  rEq, rNe, tRevL, V.int.injEq, V.bl.injEq, V.str.injEq, V.ref.injEq, List.cons.injEq, and_true, true_and, exists_and_left, exists_and_right, exists_eq_left, exists_eq_left', exists_eq_right, exists_eq_right', exists_const, Option.some.injEq, List.getElem?_cons_zero, List.getElem?_cons_succ, List.set_cons_zero, List.set_cons_succ, decide_eq_true_eq, decide_true, decide_false,  scal_ii, scal_bb, scal_ss, cmul_r, cdiv_l, cpow_12, cpow_18, cpow_40, HO.lst.injEq, HO.tup.injEq, upd_upd, Int.reduceToNat,  decide_not, Bool.not_eq_true', decide_eq_false_iff_not, if_true, if_false, Bool.false_eq_true, Bool.true_eq_false, reduceCtorEq, Int.reduceNeg, Nat.reduceLT, Int.reduceLT, Int.reducePow, gt_iff_lt, wipe, List.map_cons, List.map_nil, tYes, tCmP]
      refine ⟨dx, fs, e1, e4, p, ns, z, rfl, pl, reprText_le zt, fun hz => ⟨_, hI.2.1, ?_, same_at hI.1 hD, ?_, fun y hy => ?_⟩, fun hz d' H5 s5 hd => q1 z ?_ d' H5 (fun b o e => s5 b o (hI.1 b o ((show Same H H from fun _ _ h => h) b o e))) hd⟩
      · rw [plI, List.length_map]
        exact sz_lt (Nat.lt_of_le_of_lt (List.length_take_le' ..) (by omega))
      · first | rw [List.take_succ, ez, plI, plI, List.map_append] <;> rfl | (rw [List.take_succ, ez]; simp [plI])
      · rw [List.take_succ, ez] at hy
        rcases List.mem_append.mp hy with h | h
        · exact hI.2.2 y h
        · rw [show y = z by simpa using h]
          exact hz
      · rw [List.find?_append, ff_hit hI.2.2 ez hz] <;> rfl
    rw [List.length_map, List.take_length] at hI1
    refine lcG_seq b (g2.map V.str) (fun Q q => ?_) (hb.same hI1.1) (fun D i H' => Same H1 H' ∧ H' D = some (.lst (plI ns (g2.take i))) ∧ ∀ z ∈ g2.take i, z ∈ ns) (fun D hD => ⟨same_new hD, upd_same, fun z hz => by simp at hz⟩) (fun D i H' hD h => h.1) (fun D i x H' hD hx hI => ?_) (fun D2 H2 hD2 hI2 => ?_)
    · simp only [tSeq, tNext, tDrop, tRet, tRetN, tIfS, tAsg, gName, tAug, ipI, tVar, tC, tOp, tUn, rI, rI0, rU, tCons, tNil, tCB, tTup, tLst, tTest, tB, tAnd, tOr, tNot, tAndV, tOrV, tNotV, tIf, tCl, tCd, tCk, gSub, rPutL, rAtQ, rIntI, rLenQ, rLenS, rListQ, rTupL, rTupQ, rIsQ_c, kd_non, kd_bl, kd_int, kd_str, kd_ref, kdO_lst, kdO_tup, kit_NoneType_bool, kit_NoneType_int, kit_NoneType_str, kit_NoneType_list, kit_NoneType_tuple, kit_bool_bool, kit_bool_int, kit_bool_str, kit_bool_list, kit_bool_tuple, kit_int_bool, kit_int_int, kit_int_str, kit_int_list, kit_int_tuple, kit_str_bool, kit_str_int, kit_str_str, kit_str_list, kit_str_tuple, kit_list_bool, kit_list_int, kit_list_str, kit_list_list, kit_list_tuple, kit_tuple_bool, kit_tuple_int, kit_tuple_str, kit_tuple_list, kit_tuple_tuple, V.ty.injEq, rSortQ, rSlQ, rMulS, tJn, rAtX, rSlS, tSl, tPart, tNoPart, cut_lo2, cut_hi2, rInQ, gLq, gTq, gC_c, gNil, tChain, List.cons_append, List.nil_append, tBL, tBL0, tBad, tCr, tCe, tXF, cxH_K, HO.xd.injEq, rApp, rPopN, rRevL, seqAt_lst, seqAt_tup, at_0, at_1, at_2, at_3, at_4, ix_0, ix_1, ix_2, ix_3, ix_4, cx_K, upd_same, List.length_cons, List.length_nil, Nat.reduceAdd,  rEq, rNe, tRevL, V.int.injEq, V.bl.injEq, V.str.injEq, V.ref.injEq, List.cons.injEq, and_true, true_and, exists_and_left, exists_and_right, exists_eq_left, exists_eq_left', exists_eq_right, exists_eq_right', exists_const, Option.some.injEq, List.getElem?_cons_zero, List.getElem?_cons_succ, List.set_cons_zero, List.set_cons_succ, decide_eq_true_eq, decide_true, decide_false,  scal_ii, scal_bb, scal_ss, cmul_r, cdiv_l, cpow_12, cpow_18, cpow_40, HO.lst.injEq, HO.tup.injEq, upd_upd, Int.reduceToNat,  decide_not, Bool.not_eq_true', decide_eq_false_iff_not, if_true, if_false, Bool.false_eq_true, Bool.true_eq_false, reduceCtorEq, Int.reduceNeg, Nat.reduceLT, Int.reduceLT, Int.reducePow, gt_iff_lt]
      exact q
    · rw [List.getElem?_map] at hx
      obtain ⟨z, ez, rfl⟩ := Option.map_eq_some_iff.mp hx
      have zt := tx z (List.mem_append_right _ (List.mem_of_getElem? ez))
      have pl := hp.same (show Same H H' from fun b o e => hI.1 b o (hI1.1 b o e))
      obtain ⟨dx, fs, nA, d, e1, e2, e3, e4, e5, e6, e7⟩ := id pl
      simp only [tSeq, tNext, tDrop, tRet, tRetN, tIfS, tAsg, gName, tAug, ipI, tVar, tC, tOp, tUn, rI, rI0, rU, tCons, tNil, tCB, tTup, tLst, tTest, tB, tAnd, tOr, tNot, tAndV, tOrV, tNotV, tIf, tCl, tCd, tCk, gSub, rPutL, rAtQ, rIntI, rLenQ, rLenS, rListQ, rTupL, rTupQ, rIsQ_c, kd_non, kd_bl, kd_int, kd_str, kd_ref, kdO_lst, kdO_tup, kit_NoneType_bool, kit_NoneType_int, kit_NoneType_str, kit_NoneType_list, kit_NoneType_tuple, kit_bool_bool, kit_bool_int, kit_bool_str, kit_bool_list, kit_bool_tuple, kit_int_bool, kit_int_int, kit_int_str, kit_int_list, kit_int_tuple, kit_str_bool, kit_str_int, kit_str_str, kit_str_list, kit_str_tuple, kit_list_bool, kit_list_int, kit_list_str, kit_list_list, kit_list_tuple, kit_tuple_bool, kit_tuple_int, kit_tuple_str, kit_tuple_list, kit_tuple_tuple, V.ty.injEq, rSortQ, rSlQ, rMulS, tJn, rAtX, rSlS, tSl, tPart, tNoPart, cut_lo2, cut_hi2, rInQ, gLq, gTq, gC_c, gNil, tChain, List.cons_append, List.nil_append, tBL, tBL0, tBad, tCr, tCe, tXF, cxH_K, HO.xd.injEq, rApp, rPopN, rRevL, seqAt_lst, seqAt_tup, at_0, at_1, at_2, at_3, at_4, ix_0, ix_1, ix_2, ix_3, ix_4, cx_K, upd_same, List.length_cons, List.length_nil, Nat.reduceAdd,  rEq, rNe, tRevL, V.int.injEq, V.bl.injEq, V.str.injEq, V.ref.injEq, List.cons.injEq, and_true, true_and, exists_and_left, exists_and_right, exists_eq_left, exists_eq_left', exists_eq_right, exists_eq_right', exists_const, Option.some.injEq, List.getElem?_cons_zero, List.getElem?_cons_succ, List.set_cons_zero, List.set_cons_succ, decide_eq_true_eq, decide_true, decide_false,  scal_ii, scal_bb, scal_ss, cmul_r, cdiv_l, cpow_12, cpow_18, cpow_40, HO.lst.injEq, HO.tup.injEq, upd_upd, Int.reduceToNat,  decide_not, Bool.not_eq_true', decide_eq_false_iff_not, if_true, if_false, Bool.false_eq_true, Bool.true_eq_false, reduceCtorEq, Int.reduceNeg, Nat.reduceLT, Int.reduceLT, Int.reducePow, gt_iff_lt, wipe, List.map_cons, List.map_nil, tYes, tCmP]
      refine ⟨dx, fs, e1, e4, p, ns, z, rfl, pl, reprText_le zt, fun hz => ⟨_, hI.2.1, ?_, same_at hI.1 hD, ?_, fun y hy => ?_⟩, fun hz d' H5 s5 hd => q1 z ?_ d' H5 (fun b o e => s5 b o (hI.1 b o (hI1.1 b o e))) hd⟩
      · rw [plI, List.length_map]
        exact sz_lt (Nat.lt_of_le_of_lt (List.length_take_le' ..) (by omega))
      · first | rw [List.take_succ, ez, plI, plI, List.map_append] <;> rfl | (rw [List.take_succ, ez]; simp [plI])
      · rw [List.take_succ, ez] at hy
        rcases List.mem_append.mp hy with h | h
        · exact hI.2.2 y h
        · rw [show y = z by simpa using h]
          exact hz
      · rw [List.find?_append, ff_none hI1.2.2, ff_hit hI.2.2 ez hz] <;> rfl
    rw [List.length_map, List.take_length] at hI2
    obtain ⟨s1, h1, in1⟩ := hI1
    obtain ⟨s2, h2, in2⟩ := hI2
    have e1 : plI ns g1 = (g1.map fun z => (ns.idxOf z : Int)).map V.int := by rw [plI, List.map_map] <;> rfl
    have e2 : plI ns g2 = (g2.map fun z => (ns.idxOf z : Int)).map V.int := by rw [plI, List.map_map] <;> rfl
    have S2 : Same H H2 := fun b o e => s2 b o (s1 b o e)
    refine ⟨D1, rfl, _, by rw [s2 _ _ h1, e1], by rw [List.length_map]; omega, fun p1 c1 f1 n1 => ⟨p1, _, c1, rfl, upd_same, by rw [List.length_map] at n1; omega, fun is q1' w1 w2 _ f2 => ?_⟩⟩
    have S3 : Same H2 (upd (upd H2 p1 (SetO w p1 (fun j => decide (j ∈ g1.map fun z => (ns.idxOf z : Int))) c1)) q1' (.lst (is.map V.int))) := fun b o e => same_new f2 b o (same_new f1 b o e)
    obtain ⟨H3, hH3⟩ : ∃ H3, H3 = (upd (upd H2 p1 (SetO w p1 (fun j => decide (j ∈ g1.map fun z => (ns.idxOf z : Int))) c1)) q1' (.lst (is.map V.int))) := ⟨_, rfl⟩
    have hq1 : H3 q1' = some (.lst (is.map V.int)) := by rw [hH3, upd_same]
    dsimp only [cxOf]
    rw [← hH3] at S3 ⊢
    clear hH3
    refine ⟨D2, rfl, _, by rw [S3 _ _ h2, e2], by rw [List.length_map]; omega, fun p2 c2 f3 n2 => ⟨p2, _, c2, rfl, upd_same, by rw [List.length_map] at n2; omega, fun js q2' w3 w4 _ f4 => ?_⟩⟩
    have S4 : Same H3 (upd (upd H3 p2 (SetO w p2 (fun j => decide (j ∈ g2.map fun z => (ns.idxOf z : Int))) c2)) q2' (.lst (js.map V.int))) := fun b o e => same_new f4 b o (same_new f3 b o e)
    obtain ⟨H4, hH4⟩ : ∃ H4, H4 = (upd (upd H3 p2 (SetO w p2 (fun j => decide (j ∈ g2.map fun z => (ns.idxOf z : Int))) c2)) q2' (.lst (js.map V.int))) := ⟨_, rfl⟩
    have hq2 : H4 q2' = some (.lst (js.map V.int)) := by rw [hH4, upd_same]
    dsimp only [cxOf]
    rw [← hH4] at S4 ⊢
    clear hH4
    have P1 : IsPl ns g1 is := ⟨w1, fun k => (w2 k).trans (by rw [decide_eq_true_eq, List.mem_map]; exact ⟨fun ⟨z, a, b⟩ => ⟨z, a, b.symm⟩, fun ⟨z, a, b⟩ => ⟨z, a, b.symm⟩⟩)⟩
    have P2 : IsPl ns g2 js := ⟨w3, fun k => (w4 k).trans (by rw [decide_eq_true_eq, List.mem_map]; exact ⟨fun ⟨z, a, b⟩ => ⟨z, a, b.symm⟩, fun ⟨z, a, b⟩ => ⟨z, a, b.symm⟩⟩)⟩
    have inA : ∀ z ∈ g1 ++ g2, z ∈ ns := fun z hz => (List.mem_append.mp hz).elim (in1 z) (in2 z)
    obtain ⟨qn, qs⟩ := q2 is js P1 P2 inA
    have S5 : Same H H4 := fun b o e => S4 b o (S3 b o (S2 b o e))
    refine ⟨q1', q2', is, js, rfl, S4 _ _ hq1, hq2, ispl_len hn P1 in1, ispl_len hn P2 in2, fun H5 s5 e => ?_, fun t r H5 s5 ft e ht => ?_⟩
    · dsimp only
      rw [if_pos rfl]
      exact qn e H5 fun b o h => s5 b o (S5 b o h)
    · dsimp only
      rw [if_neg (by intro h; cases h)]
      have S6 : Same H H5 := fun b o h => s5 b o (S5 b o h)
      have rin : ∀ k ∈ r, ∃ m : Nat, k = (m : Int) ∧ m < ns.length := fun k hk => by
        have hm : ∀ k : Int, k ∈ is ∨ k ∈ js → ∃ m : Nat, k = (m : Int) ∧ m < ns.length := fun k h => by
          rcases h with h | h
          · obtain ⟨z, hz, e⟩ := (P1.2 k).mp h
            exact ⟨_, e, List.idxOf_lt_length_of_mem (in1 z hz)⟩
          · obtain ⟨z, hz, e⟩ := (P2.2 k).mp h
            exact ⟨_, e, List.idxOf_lt_length_of_mem (in2 z hz)⟩
        rcases List.mem_append.mp (mn_mem e) with h | h
        · obtain ⟨a, b, c, d, rfl, ha, hb, hc, hd, _⟩ := cis_in h
          simp only [List.mem_cons, List.not_mem_nil, or_false] at hk
          rcases hk with rfl | rfl | rfl | rfl
          · exact hm _ (.inl ha)
          · exact hm _ (.inr hb)
          · exact hm _ (.inl hc)
          · exact hm _ (.inr hd)
        · obtain ⟨a, b, c, d, rfl, ha, hb, hc, hd, _⟩ := cis_in h
          simp only [List.mem_cons, List.not_mem_nil, or_false] at hk
          rcases hk with rfl | rfl | rfl | rfl
          · exact hm _ (.inr ha)
          · exact hm _ (.inl hb)
          · exact hm _ (.inr hc)
          · exact hm _ (.inl hd)
      have r4 : r.length ≤ 4 := by
        rcases List.mem_append.mp (mn_mem e) with h | h
        · obtain ⟨a, b, c, d, rfl, _⟩ := cis_in h
          exact Nat.le_refl 4
        · obtain ⟨a, b, c, d, rfl, _⟩ := cis_in h
          exact Nat.le_refl 4
      refine z_lcT t (r.map V.int) (fun Q q => ?_) (SqT.of ht) (fun D i H' => Same H5 H' ∧ H' D = some (.lst ((r.take i).map fun i => V.str (ns.getD i.toNat Str.empty)))) (fun D hD => ⟨same_new hD, upd_same⟩) (fun _ => rfl) (fun D i H' hD h => SqT.of (h.1 _ _ ht)) (fun D i x H' hD hx hI => ?_) (fun D H' hD hI => ?_)
      · simp only [tSeq, tNext, tDrop, tRet, tRetN, tIfS, tAsg, gName, tAug, ipI, tVar, tC, tOp, tUn, rI, rI0, rU, tCons, tNil, tCB, tTup, tLst, tTest, tB, tAnd, tOr, tNot, tAndV, tOrV, tNotV, tIf, tCl, tCd, tCk, gSub, rPutL, rAtQ, rIntI, rLenQ, rLenS, rListQ, rTupL, rTupQ, rIsQ_c, kd_non, kd_bl, kd_int, kd_str, kd_ref, kdO_lst, kdO_tup, kit_NoneType_bool, kit_NoneType_int, kit_NoneType_str, kit_NoneType_list, kit_NoneType_tuple, kit_bool_bool, kit_bool_int, kit_bool_str, kit_bool_list, kit_bool_tuple, kit_int_bool, kit_int_int, kit_int_str, kit_int_list, kit_int_tuple, kit_str_bool, kit_str_int, kit_str_str, kit_str_list, kit_str_tuple, kit_list_bool, kit_list_int, kit_list_str, kit_list_list, kit_list_tuple, kit_tuple_bool, kit_tuple_int, kit_tuple_str, kit_tuple_list, kit_tuple_tuple, V.ty.injEq, rSortQ, rSlQ, rMulS, tJn, rAtX, rSlS, tSl, tPart, tNoPart, cut_lo2, cut_hi2, rInQ, gLq, gTq, gC_c, gNil, tChain, List.cons_append, List.nil_append, tBL, tBL0, tBad, tCr, tCe, tXF, cxH_K, HO.xd.injEq, rApp, rPopN, rRevL, seqAt_lst, seqAt_tup, at_0, at_1, at_2, at_3, at_4, ix_0, ix_1, ix_2, ix_3, ix_4, cx_K, upd_same, List.length_cons, List.length_nil, Nat.reduceAdd,  rEq, rNe, tRevL, V.int.injEq, V.bl.injEq, V.str.injEq, V.ref.injEq, List.cons.injEq, and_true, true_and, exists_and_left, exists_and_right, exists_eq_left, exists_eq_left', exists_eq_right, exists_eq_right', exists_const, Option.some.injEq, List.getElem?_cons_zero, List.getElem?_cons_succ, List.set_cons_zero, List.set_cons_succ, decide_eq_true_eq, decide_true, decide_false,  scal_ii, scal_bb, scal_ss, cmul_r, cdiv_l, cpow_12, cpow_18, cpow_40, HO.lst.injEq, HO.tup.injEq, upd_upd, Int.reduceToNat,  decide_not, Bool.not_eq_true', decide_eq_false_iff_not, if_true, if_false, Bool.false_eq_true, Bool.true_eq_false, reduceCtorEq, Int.reduceNeg, Nat.reduceLT, Int.reduceLT, Int.reducePow, gt_iff_lt]
        exact q
      · obtain ⟨k, ek, rfl⟩ := int_at hx
        obtain ⟨m, rfl, lm⟩ := rin k (List.mem_of_getElem? ek)
        obtain ⟨dx, fs, nA, d, e1, e2, e3, e4, e5, e6, e7⟩ := hp.same (show Same H H' from fun b o h => hI.1 b o (S6 b o h))
        simp only [tSeq, tNext, tDrop, tRet, tRetN, tIfS, tAsg, gName, tAug, ipI, tVar, tC, tOp, tUn, rI, rI0, rU, tCons, tNil, tCB, tTup, tLst, tTest, tB, tAnd, tOr, tNot, tAndV, tOrV, tNotV, tIf, tCl, tCd, tCk, gSub, rPutL, rAtQ, rIntI, rLenQ, rLenS, rListQ, rTupL, rTupQ, rIsQ_c, kd_non, kd_bl, kd_int, kd_str, kd_ref, kdO_lst, kdO_tup, kit_NoneType_bool, kit_NoneType_int, kit_NoneType_str, kit_NoneType_list, kit_NoneType_tuple, kit_bool_bool, kit_bool_int, kit_bool_str, kit_bool_list, kit_bool_tuple, kit_int_bool, kit_int_int, kit_int_str, kit_int_list, kit_int_tuple, kit_str_bool, kit_str_int, kit_str_str, kit_str_list, kit_str_tuple, kit_list_bool, kit_list_int, kit_list_str, kit_list_list, kit_list_tuple, kit_tuple_bool, kit_tuple_int, kit_tuple_str, kit_tuple_list, kit_tuple_tuple, V.ty.injEq, rSortQ, rSlQ, rMulS, tJn, rAtX, rSlS, tSl, tPart, tNoPart, cut_lo2, cut_hi2, rInQ, gLq, gTq, gC_c, gNil, tChain, List.cons_append, List.nil_append, tBL, tBL0, tBad, tCr, tCe, tXF, cxH_K, HO.xd.injEq, rApp, rPopN, rRevL, seqAt_lst, seqAt_tup, at_0, at_1, at_2, at_3, at_4, ix_0, ix_1, ix_2, ix_3, ix_4, cx_K, upd_same, List.length_cons, List.length_nil, Nat.reduceAdd,  rEq, rNe, tRevL, V.int.injEq, V.bl.injEq, V.str.injEq, V.ref.injEq, List.cons.injEq, and_true, true_and, exists_and_left, exists_and_right, exists_eq_left, exists_eq_left', exists_eq_right, exists_eq_right', exists_const, Option.some.injEq, List.getElem?_cons_zero, List.getElem?_cons_succ, List.set_cons_zero, List.set_cons_succ, decide_eq_true_eq, decide_true, decide_false,  scal_ii, scal_bb, scal_ss, cmul_r, cdiv_l, cpow_12, cpow_18, cpow_40, HO.lst.injEq, HO.tup.injEq, upd_upd, Int.reduceToNat,  decide_not, Bool.not_eq_true', decide_eq_false_iff_not, if_true, if_false, Bool.false_eq_true, Bool.true_eq_false, reduceCtorEq, Int.reduceNeg, Nat.reduceLT, Int.reduceLT, Int.reducePow, gt_iff_lt, wipe, List.map_cons, List.map_nil, tYes, tPr]
        refine ⟨dx, fs, e1, _, e2, nA, rfl, ns.map V.str, by rw [e6] <;> rfl, _, str_at lm, _, hI.2, ?_, same_at hI.1 hD, ?_⟩
        · rw [List.length_map]
          exact sz_lt (Nat.lt_of_le_of_lt (List.length_take_le' ..) (by omega))
        · rw [List.take_succ, ek]
          simp
      · rw [List.length_map, List.take_length] at hI
        refine ⟨D, rfl, _, hI.2, fun u hu => (qs r e) u _ (fun b o h => same_new hu b o (hI.1 b o (S6 b o h))) (same_free (fun b o h => hI.1 b o (S6 b o h)) hu) upd_same⟩
end
end Z
set_option Elab.async false
set_option linter.all false
set_option maxRecDepth 100000
set_option maxHeartbeats 4000000
namespace Z
open PySem PySem.Spec PyProof.Rows L2 L2H
section
variable {P : Program} {w : World} {K : PySem.W.Frag} {mg : Str → Option Value} {base : Heap}
abbrev s_law_pick : Stmt := topS 50
abbrev N_law_pick : List Str := ["store", "some"]
theorem sc_law_pick : FnScope N_law_pick ["store", "some"] (defScope s_law_pick) := ⟨rfl, rfl, rfl, by decide +kernel, rfl, by decide +kernel, by decide +kernel⟩
theorem b_law_pick : BindO "_law_pick" s_law_pick ["store", "some"] := fun _ _ _ _ _ _ us hl => match us, hl with | [_, _], _ => rfl

def sp_pick : Sp := fun vs H Q _ => ∃ (S : Sto) (b : Addr) (xs : List V), vs = [.ref S.a, .ref b] ∧ Store S H ∧ seqAt (H b) = some xs ∧ b ≠ S.a ∧ xs.length ≤ 1000 ∧ (xs = [] → Q .non H) ∧ ∀ (i : Nat) (x : V) (H' : Hp), Drew S H H' → xs[i]? = some x → Q x H'
theorem ok_pick (D : Dn K mg "_law_pick" s_law_pick) (B : Blt mg) (c_law_take : Cl P w K mg base 2 "_law_take" sp_take) : Cl P w K mg base 3 "_law_pick" sp_pick := by
  refine cl_of D sc_law_pick b_law_pick (fun vs H Q E h => ?_) (fun f cdv A outer s H vs Q E hr h => ?_)
  · obtain ⟨S, b, xs, rfl, _⟩ := h
    rfl
  · obtain ⟨S, b, xs, rfl, hS, hb, nb, hlen, q0, q1⟩ := h
    refine ⟨_, (pss_cons (ps_if (pt_cmpR op_eq (pe_callB call_lenQ (by rfl) B.len PySem.boot_len (pa_cons (pv 1) pa_nil)) pe_int (nomark _)) (pss_one (ps_ret pe_non)) pss_nil)
      (pss_one (ps_ret (pe_ix at_seq (pv 1) (pe_cl c_law_take hr (by omega) rfl (pa_cons (pv 0) (pa_cons (pe_callB call_lenQ (by rfl) B.len PySem.boot_len (pa_cons (pv 1) pa_nil)) pa_nil))) (fun _ _ => rfl))))), ?_⟩
    rw [show L2.start N_law_pick [.ref S.a, .ref b] = [some (.ref S.a), some (.ref b)] from rfl]
    simp only [tSeq, tNext, tDrop, tRet, tRetN, tIfS, tAsg, gName, tAug, ipI, tVar, tC, tOp, tUn, rI, rI0, rU, tCons, tNil, tCB, tTup, tLst, tTest, tB, tAnd, tOr, tNot, tAndV, tOrV, tNotV, tIf, tCl, tCd, tCk, gSub, rPutL, rAtQ, rIntI, rLenQ, rLenS, rListQ, rTupL, rTupQ, rIsQ_c, kd_non, kd_bl, kd_int, kd_str, kd_ref, kdO_lst, kdO_tup, kit_NoneType_bool, kit_NoneType_int, kit_NoneType_str, kit_NoneType_list, kit_NoneType_tuple, kit_bool_bool, kit_bool_int, kit_bool_str, kit_bool_list, kit_bool_tuple, kit_int_bool, kit_int_int, kit_int_str, kit_int_list, kit_int_tuple, kit_str_bool, kit_str_int, kit_str_str, kit_str_list, kit_str_tuple, kit_list_bool, kit_list_int, kit_list_str, kit_list_list, kit_list_tuple, kit_tuple_bool, kit_tuple_int, kit_tuple_str, kit_tuple_list, kit_tuple_tuple, V.ty.injEq, rSortQ, rSlQ, rMulS, tJn, rAtX, rSlS, tSl, tPart, tNoPart, cut_lo2, cut_hi2, rInQ, gLq, gTq, gC_c, gNil, tChain, List.cons_append, List.nil_append, tBL, tBL0, tBad, tCr, tCe, tXF, cxH_K, HO.xd.injEq, rApp, rPopN, rRevL, seqAt_lst, seqAt_tup, at_0, at_1, at_2, at_3, at_4, ix_0, ix_1, ix_2, ix_3, ix_4, cx_K, upd_same, List.length_cons, List.length_nil, Nat.reduceAdd,  rEq, rNe, tRevL, V.int.injEq, V.bl.injEq, V.str.injEq, V.ref.injEq, List.cons.injEq, and_true, true_and, exists_and_left, exists_and_right, exists_eq_left, exists_eq_left', exists_eq_right, exists_eq_right', exists_const, Option.some.injEq, List.getElem?_cons_zero, List.getElem?_cons_succ, List.set_cons_zero, List.set_cons_succ, decide_eq_true_eq, decide_true, decide_false,  scal_ii, scal_bb, scal_ss, cmul_r, cdiv_l, cpow_12, cpow_18, cpow_40, HO.lst.injEq, HO.tup.injEq, upd_upd, Int.reduceToNat,  decide_not, Bool.not_eq_true', decide_eq_false_iff_not, if_true, if_false, Bool.false_eq_true, Bool.true_eq_false, reduceCtorEq, Int.reduceNeg, Nat.reduceLT, Int.reduceLT, Int.reducePow, gt_iff_lt]
    refine ⟨xs, hb, ?_⟩
    split
    · rename_i h0
      exact q0 (List.length_eq_zero_iff.mp (by omega))
    · rename_i h0
      refine ⟨xs, hb, S, (xs.length : Int), rfl, hS, by omega, fun d H' dr dg => ?_⟩
      obtain ⟨o, eo, _⟩ : ∃ o, H b = some o ∧ True := by
        cases e : H b with
        | none => rw [e] at hb; cases hb
        | some o => exact ⟨o, rfl, trivial⟩
      have hb' : seqAt (H' b) = some xs := by rw [dr.but b o nb eo, ← eo]; exact hb
      obtain ⟨n, rfl⟩ : ∃ n : Nat, d = (n : Int) := ⟨d.toNat, by have := dg.1; omega⟩
      have ln : n < xs.length := by have := dg.2; omega
      exact ⟨_, rfl, xs, hb', xs[n], atI_nat (List.getElem?_eq_getElem ln), q1 n _ H' dr (List.getElem?_eq_getElem ln)⟩
theorem dr_free {S : Sto} {H H1 : Hp} {p : Addr} (dr : Drew S H H1) (h : H1 p = none) : H p = none := by
  cases e : H p with
  | none => rfl
  | some o => rw [dr.but p o (dr.st.neA h) e] at h; cases h
abbrev s_law_some : Stmt := topS 51
abbrev N_law_some : List Str := ["store", "some", "kind", "item"]
theorem sc_law_some : FnScope N_law_some ["store", "some"] (defScope s_law_some) := ⟨rfl, rfl, rfl, by decide +kernel, rfl, by decide +kernel, by decide +kernel⟩
theorem b_law_some : BindO "_law_some" s_law_some ["store", "some"] := fun _ _ _ _ _ _ us hl => match us, hl with | [_, _], _ => rfl

def sp_some : Sp := fun vs H Q _ => ∃ (S : Sto) (b : Addr) (xs : List V), vs = [.ref S.a, .ref b] ∧ Store S H ∧ H b = some (.lst xs) ∧ b ≠ S.a ∧ xs.length ≤ 1000 ∧ ∀ (r : Addr) (ys : List V) (H' : Hp), Drew S H H' → H r = none → H' r = some (.lst ys) → ys.Sublist xs → Q (.ref r) H'
theorem ok_some (D : Dn K mg "_law_some" s_law_some) (B : Blt mg) (c_law_take : Cl P w K mg base 2 "_law_take" sp_take) : Cl P w K mg base 3 "_law_some" sp_some := by
  refine cl_of D sc_law_some b_law_some (fun vs H Q E h => ?_) (fun f cdv A outer s H vs Q E hr h => ?_)
  · obtain ⟨S, b, xs, rfl, _⟩ := h
    rfl
  · obtain ⟨S, b, xs, rfl, hS, hb, nb, hlen, q⟩ := h
    refine ⟨_, (pss_cons (ps_set (i := 2) sc_law_some.nd rfl (.inl rfl) (pe_cl c_law_take hr (by omega) rfl (pa_cons (pv 0) (pa_cons pe_int pa_nil))))
      (pss_cons (ps_if (pt_cmpR op_eq (pv 2) pe_int (nomark _)) (pss_one (ps_ret (pe_lst pa_nil))) pss_nil)
      (pss_cons (ps_if (pt_cmpR op_eq (pv 2) pe_int (nomark _)) (pss_one (ps_ret (pe_callTy call_listQ (by rfl) B.list (by decide +kernel) (pa_cons (pv 1) pa_nil)))) pss_nil)
      (pss_one (ps_ret (pe_lc (own := [("item", 3)]) (g := gName 3) rfl sc_law_some.nd (pi_list (pv 1)) (blkOk_by (N := N_law_some) (sc := defScope s_law_some) (own := [("item", 3)]) (by decide +kernel)) (fun _ _ _ _ _ => (pg_name (i := 3) sc_law_some.nd rfl (Or.inl rfl))) (fun _ _ _ _ _ => (pts_one (pt_cmpR op_eq (pe_cl c_law_take hr (by omega) rfl (pa_cons (pv 0) (pa_cons pe_int pa_nil))) pe_int (nomark _)))) (fun _ _ _ _ _ => (pv 3)))))))), ?_⟩
    rw [show L2.start N_law_some [.ref S.a, .ref b] = [some (.ref S.a), some (.ref b), none, none] from rfl]
    simp only [tSeq, tNext, tDrop, tRet, tRetN, tIfS, tAsg, gName, tAug, ipI, tVar, tC, tOp, tUn, rI, rI0, rU, tCons, tNil, tCB, tTup, tLst, tTest, tB, tAnd, tOr, tNot, tAndV, tOrV, tNotV, tIf, tCl, tCd, tCk, gSub, rPutL, rAtQ, rIntI, rLenQ, rLenS, rListQ, rTupL, rTupQ, rIsQ_c, kd_non, kd_bl, kd_int, kd_str, kd_ref, kdO_lst, kdO_tup, kit_NoneType_bool, kit_NoneType_int, kit_NoneType_str, kit_NoneType_list, kit_NoneType_tuple, kit_bool_bool, kit_bool_int, kit_bool_str, kit_bool_list, kit_bool_tuple, kit_int_bool, kit_int_int, kit_int_str, kit_int_list, kit_int_tuple, kit_str_bool, kit_str_int, kit_str_str, kit_str_list, kit_str_tuple, kit_list_bool, kit_list_int, kit_list_str, kit_list_list, kit_list_tuple, kit_tuple_bool, kit_tuple_int, kit_tuple_str, kit_tuple_list, kit_tuple_tuple, V.ty.injEq, rSortQ, rSlQ, rMulS, tJn, rAtX, rSlS, tSl, tPart, tNoPart, cut_lo2, cut_hi2, rInQ, gLq, gTq, gC_c, gNil, tChain, List.cons_append, List.nil_append, tBL, tBL0, tBad, tCr, tCe, tXF, cxH_K, HO.xd.injEq, rApp, rPopN, rRevL, seqAt_lst, seqAt_tup, at_0, at_1, at_2, at_3, at_4, ix_0, ix_1, ix_2, ix_3, ix_4, cx_K, upd_same, List.length_cons, List.length_nil, Nat.reduceAdd,  rEq, rNe, tRevL, V.int.injEq, V.bl.injEq, V.str.injEq, V.ref.injEq, List.cons.injEq, and_true, true_and, exists_and_left, exists_and_right, exists_eq_left, exists_eq_left', exists_eq_right, exists_eq_right', exists_const, Option.some.injEq, List.getElem?_cons_zero, List.getElem?_cons_succ, List.set_cons_zero, List.set_cons_succ, decide_eq_true_eq, decide_true, decide_false,  scal_ii, scal_bb, scal_ss, cmul_r, cdiv_l, cpow_12, cpow_18, cpow_40, HO.lst.injEq, HO.tup.injEq, upd_upd, Int.reduceToNat,  decide_not, Bool.not_eq_true', decide_eq_false_iff_not, if_true, if_false, Bool.false_eq_true, Bool.true_eq_false, reduceCtorEq, Int.reduceNeg, Nat.reduceLT, Int.reduceLT, Int.reducePow, gt_iff_lt]
    refine ⟨S, 6, rfl, hS, by decide, fun d H1 dr dg => ⟨rfl, ?_⟩⟩
    split
    · exact ⟨sz_of (by decide), fun r hr => q r [] _ (dr.new hr) (dr_free dr hr) upd_same (List.nil_sublist _)⟩
    · refine ⟨rfl, ?_⟩
      have hb1 : H1 b = some (.lst xs) := dr.but b _ nb hb
      split
      · exact ⟨xs, by rw [hb1] <;> rfl, fun r hr => q r xs _ (dr.new hr) (dr_free dr hr) upd_same (List.Sublist.refl _)⟩
      · refine lcG_list b xs (fun Q q => ?_) (SqL.of hb1) (fun D i H' => Drew S H H' ∧ H' b = some (.lst xs) ∧ ∃ ys, H' D = some (.lst ys) ∧ ys.Sublist (xs.take i)) (fun D hD => ⟨dr.new hD, by rw [upd_ne (ne_of_none hb1 hD)]; exact hb1, [], upd_same, List.nil_sublist _⟩) (fun D i H' hD h => SqL.of h.2.1) (fun D i x H' hD hx hI => ?_) (fun D H' hD hI => ?_)
        · simp only [tSeq, tNext, tDrop, tRet, tRetN, tIfS, tAsg, gName, tAug, ipI, tVar, tC, tOp, tUn, rI, rI0, rU, tCons, tNil, tCB, tTup, tLst, tTest, tB, tAnd, tOr, tNot, tAndV, tOrV, tNotV, tIf, tCl, tCd, tCk, gSub, rPutL, rAtQ, rIntI, rLenQ, rLenS, rListQ, rTupL, rTupQ, rIsQ_c, kd_non, kd_bl, kd_int, kd_str, kd_ref, kdO_lst, kdO_tup, kit_NoneType_bool, kit_NoneType_int, kit_NoneType_str, kit_NoneType_list, kit_NoneType_tuple, kit_bool_bool, kit_bool_int, kit_bool_str, kit_bool_list, kit_bool_tuple, kit_int_bool, kit_int_int, kit_int_str, kit_int_list, kit_int_tuple, kit_str_bool, kit_str_int, kit_str_str, kit_str_list, kit_str_tuple, kit_list_bool, kit_list_int, kit_list_str, kit_list_list, kit_list_tuple, kit_tuple_bool, kit_tuple_int, kit_tuple_str, kit_tuple_list, kit_tuple_tuple, V.ty.injEq, rSortQ, rSlQ, rMulS, tJn, rAtX, rSlS, tSl, tPart, tNoPart, cut_lo2, cut_hi2, rInQ, gLq, gTq, gC_c, gNil, tChain, List.cons_append, List.nil_append, tBL, tBL0, tBad, tCr, tCe, tXF, cxH_K, HO.xd.injEq, rApp, rPopN, rRevL, seqAt_lst, seqAt_tup, at_0, at_1, at_2, at_3, at_4, ix_0, ix_1, ix_2, ix_3, ix_4, cx_K, upd_same, List.length_cons, List.length_nil, Nat.reduceAdd,  rEq, rNe, tRevL, V.int.injEq, V.bl.injEq, V.str.injEq, V.ref.injEq, List.cons.injEq, and_true, true_and, exists_and_left, exists_and_right, exists_eq_left, exists_eq_left', exists_eq_right, exists_eq_right', exists_const, Option.some.injEq, List.getElem?_cons_zero, List.getElem?_cons_succ, List.set_cons_zero, List.set_cons_succ, decide_eq_true_eq, decide_true, decide_false,  scal_ii, scal_bb, scal_ss, cmul_r, cdiv_l, cpow_12, cpow_18, cpow_40, HO.lst.injEq, HO.tup.injEq, upd_upd, Int.reduceToNat,  decide_not, Bool.not_eq_true', decide_eq_false_iff_not, if_true, if_false, Bool.false_eq_true, Bool.true_eq_false, reduceCtorEq, Int.reduceNeg, Nat.reduceLT, Int.reduceLT, Int.reducePow, gt_iff_lt]
          exact q
        · obtain ⟨d2, hb2, ys, hy, sub⟩ := hI
          have nD : D ≠ S.a := dr.st.neA hD
          have nDb : b ≠ D := ne_of_none hb1 hD
          have ls : ys.length ≤ 1000 := Nat.le_trans sub.length_le (Nat.le_trans (List.length_take_le' ..) hlen)
          simp only [tSeq, tNext, tDrop, tRet, tRetN, tIfS, tAsg, gName, tAug, ipI, tVar, tC, tOp, tUn, rI, rI0, rU, tCons, tNil, tCB, tTup, tLst, tTest, tB, tAnd, tOr, tNot, tAndV, tOrV, tNotV, tIf, tCl, tCd, tCk, gSub, rPutL, rAtQ, rIntI, rLenQ, rLenS, rListQ, rTupL, rTupQ, rIsQ_c, kd_non, kd_bl, kd_int, kd_str, kd_ref, kdO_lst, kdO_tup, kit_NoneType_bool, kit_NoneType_int, kit_NoneType_str, kit_NoneType_list, kit_NoneType_tuple, kit_bool_bool, kit_bool_int, kit_bool_str, kit_bool_list, kit_bool_tuple, kit_int_bool, kit_int_int, kit_int_str, kit_int_list, kit_int_tuple, kit_str_bool, kit_str_int, kit_str_str, kit_str_list, kit_str_tuple, kit_list_bool, kit_list_int, kit_list_str, kit_list_list, kit_list_tuple, kit_tuple_bool, kit_tuple_int, kit_tuple_str, kit_tuple_list, kit_tuple_tuple, V.ty.injEq, rSortQ, rSlQ, rMulS, tJn, rAtX, rSlS, tSl, tPart, tNoPart, cut_lo2, cut_hi2, rInQ, gLq, gTq, gC_c, gNil, tChain, List.cons_append, List.nil_append, tBL, tBL0, tBad, tCr, tCe, tXF, cxH_K, HO.xd.injEq, rApp, rPopN, rRevL, seqAt_lst, seqAt_tup, at_0, at_1, at_2, at_3, at_4, ix_0, ix_1, ix_2, ix_3, ix_4, cx_K, upd_same, List.length_cons, List.length_nil, Nat.reduceAdd,  rEq, rNe, tRevL, V.int.injEq, V.bl.injEq, V.str.injEq, V.ref.injEq, List.cons.injEq, and_true, true_and, exists_and_left, exists_and_right, exists_eq_left, exists_eq_left', exists_eq_right, exists_eq_right', exists_const, Option.some.injEq, List.getElem?_cons_zero, List.getElem?_cons_succ, List.set_cons_zero, List.set_cons_succ, decide_eq_true_eq, decide_true, decide_false,  scal_ii, scal_bb, scal_ss, cmul_r, cdiv_l, cpow_12, cpow_18, cpow_40, HO.lst.injEq, HO.tup.injEq, upd_upd, Int.reduceToNat,  decide_not, Bool.not_eq_true', decide_eq_false_iff_not, if_true, if_false, Bool.false_eq_true, Bool.true_eq_false, reduceCtorEq, Int.reduceNeg, Nat.reduceLT, Int.reduceLT, Int.reducePow, gt_iff_lt, wipe, List.map_cons, List.map_nil]
          refine ⟨S, 2, rfl, d2.st, by decide, fun e H3 d3 dg3 => ⟨rfl, ?_⟩⟩
          have hy3 : H3 D = some (.lst ys) := d3.but D _ nD hy
          have hb3 : H3 b = some (.lst xs) := d3.but b _ nb hb2
          have d4 := d2.trans d3
          have tk1 : (xs.take (i + 1)) = xs.take i ++ [x] := by rw [List.take_succ, hx] <;> rfl
          split
          · exact ⟨ys, hy3, sz_lt (by omega), d4.at hS (dr.back hD), by rw [upd_ne nDb]; exact hb3, by rw [tk1]; exact sub.append_right _⟩
          · exact ⟨d4, hb3, ys, hy3, by rw [tk1]; exact sub.trans (List.sublist_append_left _ _)⟩
        · obtain ⟨d2, hb2, ys, hy, sub⟩ := hI
          rw [List.take_length] at sub
          exact q D ys H' d2 (dr_free dr hD) hy sub
abbrev s_law_put : Stmt := topS 53
abbrev N_law_put : List Str := ["store", "some", "item", "spot"]
theorem sc_law_put : FnScope N_law_put ["store", "some", "item"] (defScope s_law_put) := ⟨rfl, rfl, rfl, by decide +kernel, rfl, by decide +kernel, by decide +kernel⟩
theorem b_law_put : BindO "_law_put" s_law_put ["store", "some", "item"] := fun _ _ _ _ _ _ us hl => match us, hl with | [_, _, _], _ => rfl

def sp_put : Sp := fun vs H Q _ => ∃ (S : Sto) (b : Addr) (xs : List V) (y : V), vs = [.ref S.a, .ref b, y] ∧ Store S H ∧ seqAt (H b) = some xs ∧ b ≠ S.a ∧ xs.length ≤ 1000 ∧ ∀ (r : Addr) (k : Nat) (H' : Hp), Drew S H H' → H r = none → k ≤ xs.length → H' r = some (.lst (xs.take k ++ [y] ++ xs.drop k)) → Q (.ref r) H'
theorem ok_put (D : Dn K mg "_law_put" s_law_put) (B : Blt mg) (c_law_take : Cl P w K mg base 2 "_law_take" sp_take) : Cl P w K mg base 3 "_law_put" sp_put := by
  refine cl_of D sc_law_put b_law_put (fun vs H Q E h => ?_) (fun f cdv A outer s H vs Q E hr h => ?_)
  · obtain ⟨S, b, xs, y, rfl, _⟩ := h
    rfl
  · obtain ⟨S, b, xs, y, rfl, hS, hb, nb, hlen, q⟩ := h
    refine ⟨_, (pss_cons (ps_set (i := 3) sc_law_put.nd rfl (.inl rfl) (pe_cl c_law_take hr (by omega) rfl (pa_cons (pv 0) (pa_cons (pe_op op_add (pe_callB call_lenQ (by rfl) B.len PySem.boot_len (pa_cons (pv 1) pa_nil)) pe_int) pa_nil))))
      (pss_one (ps_ret (pe_op op_catQ (pe_op op_catQ (pe_slice sl_listQ (pe_callTy call_listQ (by rfl) B.list (by decide +kernel) (pa_cons (pv 1) pa_nil)) po_none (po_some (pv 3))) (pe_lst (pa_cons (pv 2) pa_nil))) (pe_slice sl_listQ (pe_callTy call_listQ (by rfl) B.list (by decide +kernel) (pa_cons (pv 1) pa_nil)) (po_some (pv 3)) po_none))))), ?_⟩
    rw [show L2.start N_law_put [.ref S.a, .ref b, y] = [some (.ref S.a), some (.ref b), some y, none] from rfl]
    simp only [tSeq, tNext, tDrop, tRet, tRetN, tIfS, tAsg, gName, tAug, ipI, tVar, tC, tOp, tUn, rI, rI0, rU, tCons, tNil, tCB, tTup, tLst, tTest, tB, tAnd, tOr, tNot, tAndV, tOrV, tNotV, tIf, tCl, tCd, tCk, gSub, rPutL, rAtQ, rIntI, rLenQ, rLenS, rListQ, rTupL, rTupQ, rIsQ_c, kd_non, kd_bl, kd_int, kd_str, kd_ref, kdO_lst, kdO_tup, kit_NoneType_bool, kit_NoneType_int, kit_NoneType_str, kit_NoneType_list, kit_NoneType_tuple, kit_bool_bool, kit_bool_int, kit_bool_str, kit_bool_list, kit_bool_tuple, kit_int_bool, kit_int_int, kit_int_str, kit_int_list, kit_int_tuple, kit_str_bool, kit_str_int, kit_str_str, kit_str_list, kit_str_tuple, kit_list_bool, kit_list_int, kit_list_str, kit_list_list, kit_list_tuple, kit_tuple_bool, kit_tuple_int, kit_tuple_str, kit_tuple_list, kit_tuple_tuple, V.ty.injEq, rSortQ, rSlQ, rMulS, tJn, rAtX, rSlS, tSl, tPart, tNoPart, cut_lo2, cut_hi2, rInQ, gLq, gTq, gC_c, gNil, tChain, List.cons_append, List.nil_append, tBL, tBL0, tBad, tCr, tCe, tXF, cxH_K, HO.xd.injEq, rApp, rPopN, rRevL, seqAt_lst, seqAt_tup, at_0, at_1, at_2, at_3, at_4, ix_0, ix_1, ix_2, ix_3, ix_4, cx_K, upd_same, List.length_cons, List.length_nil, Nat.reduceAdd,  rEq, rNe, tRevL, V.int.injEq, V.bl.injEq, V.str.injEq, V.ref.injEq, List.cons.injEq, and_true, true_and, exists_and_left, exists_and_right, exists_eq_left, exists_eq_left', exists_eq_right, exists_eq_right', exists_const, Option.some.injEq, List.getElem?_cons_zero, List.getElem?_cons_succ, List.set_cons_zero, List.set_cons_succ, decide_eq_true_eq, decide_true, decide_false,  scal_ii, scal_bb, scal_ss, cmul_r, cdiv_l, cpow_12, cpow_18, cpow_40, HO.lst.injEq, HO.tup.injEq, upd_upd, Int.reduceToNat,  decide_not, Bool.not_eq_true', decide_eq_false_iff_not, if_true, if_false, Bool.false_eq_true, Bool.true_eq_false, reduceCtorEq, Int.reduceNeg, Nat.reduceLT, Int.reduceLT, Int.reducePow, gt_iff_lt, rCatQ]
    refine ⟨xs, hb, S, (xs.length : Int) + 1, rfl, hS, by omega, fun d H1 dr dg => ?_⟩
    obtain ⟨n, rfl⟩ : ∃ n : Nat, d = (n : Int) := ⟨d.toNat, by have := dg.1; omega⟩
    have ln : n ≤ xs.length := by have := dg.2; omega
    obtain ⟨o, eo⟩ : ∃ o, H b = some o := by
      cases e : H b with
      | none => rw [e] at hb; cases hb
      | some o => exact ⟨o, rfl⟩
    have sq : ∀ {H'}, Same H1 H' → seqAt (H' b) = some xs := fun s => by rw [s _ _ (dr.but b o nb eo), ← eo]; exact hb
    refine ⟨xs, sq (fun _ _ h => h), fun l1 f1 => ⟨_, rfl, fun l2 f2 => ?_⟩⟩
    rw [cut_to ln]
    have S1 : Same H1 (upd H1 l1 (.lst xs)) := same_new f1
    generalize upd H1 l1 (.lst xs) = H2 at f2 S1 ⊢
    have S2 : Same H1 (upd H2 l2 (.lst (xs.take n))) := fun b o e => same_new f2 b o (S1 b o e)
    have g2 : upd H2 l2 (.lst (xs.take n)) l2 = some (.lst (xs.take n)) := upd_same
    generalize upd H2 l2 (.lst (xs.take n)) = H3 at g2 S2 ⊢
    refine ⟨sz_of (by decide), fun l3 f3 => ?_⟩
    have S3 : Same H1 (upd H3 l3 (.lst [y])) := fun b o e => same_new f3 b o (S2 b o e)
    have g3 : upd H3 l3 (.lst [y]) l2 = some (.lst (xs.take n)) := same_new f3 _ _ g2
    generalize upd H3 l3 (.lst [y]) = H4 at g3 S3 ⊢
    refine ⟨_, g3, by rw [List.length_take]; exact sz_of (by omega), fun l4 f4 => ?_⟩
    have S4 : Same H1 (upd H4 l4 (.lst (xs.take n ++ [y]))) := fun b o e => same_new f4 b o (S3 b o e)
    have g4 : upd H4 l4 (.lst (xs.take n ++ [y])) l4 = some (.lst (xs.take n ++ [y])) := upd_same
    generalize upd H4 l4 (.lst (xs.take n ++ [y])) = H5 at g4 S4 ⊢
    refine ⟨xs, sq S4, fun l5 f5 => ⟨_, rfl, fun l6 f6 => ?_⟩⟩
    rw [cut_from ln]
    have S5 : Same H1 (upd H5 l5 (.lst xs)) := fun b o e => same_new f5 b o (S4 b o e)
    have g5 : upd H5 l5 (.lst xs) l4 = some (.lst (xs.take n ++ [y])) := same_new f5 _ _ g4
    generalize upd H5 l5 (.lst xs) = H6 at f6 g5 S5 ⊢
    have S6 : Same H1 (upd H6 l6 (.lst (xs.drop n))) := fun b o e => same_new f6 b o (S5 b o e)
    have g6 : upd H6 l6 (.lst (xs.drop n)) l4 = some (.lst (xs.take n ++ [y])) := same_new f6 _ _ g5
    have g7 : upd H6 l6 (.lst (xs.drop n)) l6 = some (.lst (xs.drop n)) := upd_same
    generalize upd H6 l6 (.lst (xs.drop n)) = H7 at g6 g7 S6 ⊢
    refine ⟨_, g6, ?_, fun t ht => ?_⟩
    · rw [List.length_append, List.length_take, List.length_drop]
      exact sz_of (by simp; omega)
    · have S7 : Same H1 (upd H7 t (.lst (xs.take n ++ [y] ++ xs.drop n))) := fun b o e => same_new ht b o (S6 b o e)
      exact q t n _ (dr.same S7) (dr.back (same_free S6 ht)) ln upd_same
end
end Z
set_option Elab.async false
set_option linter.all false
set_option maxRecDepth 100000
set_option maxHeartbeats 4000000
namespace Z
open PySem PySem.Spec PyProof.Rows L2 L2H
section
variable {P : Program} {w : World} {K : PySem.W.Frag} {mg : Str → Option Value} {base : Heap}
abbrev s_law_many : Stmt := topS 64
abbrev N_law_many : List Str := ["store"]
theorem sc_law_many : FnScope N_law_many ["store"] (defScope s_law_many) := ⟨rfl, rfl, rfl, by decide +kernel, rfl, by decide +kernel, by decide +kernel⟩
theorem b_law_many : BindO "_law_many" s_law_many ["store"] := fun _ _ _ _ _ _ us hl => match us, hl with | [_], _ => rfl

def sp_lotmany : Sp := fun vs H Q _ => ∃ (S : Sto), vs = [.ref S.a] ∧ Store S H ∧ ∀ (m : Nat) (H' : Hp), Drew S H H' → 1 ≤ m → m ≤ 10 → Q (.int (m : Int)) H'
theorem ok_lotmany (D : Dn K mg "_law_many" s_law_many) (B : Blt mg) (c_law_take : Cl P w K mg base 2 "_law_take" sp_take) (c_law_pick : Cl P w K mg base 3 "_law_pick" sp_pick) : Cl P w K mg base 4 "_law_many" sp_lotmany := by
  refine cl_of D sc_law_many b_law_many (fun vs H Q E h => ?_) (fun f cdv A outer s H vs Q E hr h => ?_)
  · obtain ⟨S, rfl, _⟩ := h
    rfl
  · obtain ⟨S, rfl, hS, q⟩ := h
    refine ⟨_, (pss_one (ps_ret (pe_cl c_law_pick hr (by omega) rfl (pa_cons (pv 0) (pa_cons (pe_lst (pa_cons pe_int (pa_cons pe_int (pa_cons pe_int (pa_cons (pe_op op_add pe_int (pe_cl c_law_take hr (by omega) rfl (pa_cons (pv 0) (pa_cons pe_int pa_nil)))) (pa_cons pe_int (pa_cons pe_int (pa_cons pe_int (pa_cons pe_int (pa_cons pe_int (pa_cons pe_int (pa_cons pe_int (pa_cons pe_int pa_nil))))))))))))) pa_nil))))), ?_⟩
    rw [show L2.start N_law_many [.ref S.a] = [some (.ref S.a)] from rfl]
    simp only [tSeq, tNext, tDrop, tRet, tRetN, tIfS, tAsg, gName, tAug, ipI, tVar, tC, tOp, tUn, rI, rI0, rU, tCons, tNil, tCB, tTup, tLst, tTest, tB, tAnd, tOr, tNot, tAndV, tOrV, tNotV, tIf, tCl, tCd, tCk, gSub, rPutL, rAtQ, rIntI, rLenQ, rLenS, rListQ, rTupL, rTupQ, rIsQ_c, kd_non, kd_bl, kd_int, kd_str, kd_ref, kdO_lst, kdO_tup, kit_NoneType_bool, kit_NoneType_int, kit_NoneType_str, kit_NoneType_list, kit_NoneType_tuple, kit_bool_bool, kit_bool_int, kit_bool_str, kit_bool_list, kit_bool_tuple, kit_int_bool, kit_int_int, kit_int_str, kit_int_list, kit_int_tuple, kit_str_bool, kit_str_int, kit_str_str, kit_str_list, kit_str_tuple, kit_list_bool, kit_list_int, kit_list_str, kit_list_list, kit_list_tuple, kit_tuple_bool, kit_tuple_int, kit_tuple_str, kit_tuple_list, kit_tuple_tuple, V.ty.injEq, rSortQ, rSlQ, rMulS, tJn, rAtX, rSlS, tSl, tPart, tNoPart, cut_lo2, cut_hi2, rInQ, gLq, gTq, gC_c, gNil, tChain, List.cons_append, List.nil_append, tBL, tBL0, tBad, tCr, tCe, tXF, cxH_K, HO.xd.injEq, rApp, rPopN, rRevL, seqAt_lst, seqAt_tup, at_0, at_1, at_2, at_3, at_4, ix_0, ix_1, ix_2, ix_3, ix_4, cx_K, upd_same, List.length_cons, List.length_nil, Nat.reduceAdd,  rEq, rNe, tRevL, V.int.injEq, V.bl.injEq, V.str.injEq, V.ref.injEq, List.cons.injEq, and_true, true_and, exists_and_left, exists_and_right, exists_eq_left, exists_eq_left', exists_eq_right, exists_eq_right', exists_const, Option.some.injEq, List.getElem?_cons_zero, List.getElem?_cons_succ, List.set_cons_zero, List.set_cons_succ, decide_eq_true_eq, decide_true, decide_false,  scal_ii, scal_bb, scal_ss, cmul_r, cdiv_l, cpow_12, cpow_18, cpow_40, HO.lst.injEq, HO.tup.injEq, upd_upd, Int.reduceToNat,  decide_not, Bool.not_eq_true', decide_eq_false_iff_not, if_true, if_false, Bool.false_eq_true, Bool.true_eq_false, reduceCtorEq, Int.reduceNeg, Nat.reduceLT, Int.reduceLT, Int.reducePow, gt_iff_lt]
    refine ⟨S, 10, rfl, hS, by decide, fun d H1 dr dg => ?_⟩
    simp only [tSeq, tNext, tDrop, tRet, tRetN, tIfS, tAsg, gName, tAug, ipI, tVar, tC, tOp, tUn, rI, rI0, rU, tCons, tNil, tCB, tTup, tLst, tTest, tB, tAnd, tOr, tNot, tAndV, tOrV, tNotV, tIf, tCl, tCd, tCk, gSub, rPutL, rAtQ, rIntI, rLenQ, rLenS, rListQ, rTupL, rTupQ, rIsQ_c, kd_non, kd_bl, kd_int, kd_str, kd_ref, kdO_lst, kdO_tup, kit_NoneType_bool, kit_NoneType_int, kit_NoneType_str, kit_NoneType_list, kit_NoneType_tuple, kit_bool_bool, kit_bool_int, kit_bool_str, kit_bool_list, kit_bool_tuple, kit_int_bool, kit_int_int, kit_int_str, kit_int_list, kit_int_tuple, kit_str_bool, kit_str_int, kit_str_str, kit_str_list, kit_str_tuple, kit_list_bool, kit_list_int, kit_list_str, kit_list_list, kit_list_tuple, kit_tuple_bool, kit_tuple_int, kit_tuple_str, kit_tuple_list, kit_tuple_tuple, V.ty.injEq, rSortQ, rSlQ, rMulS, tJn, rAtX, rSlS, tSl, tPart, tNoPart, cut_lo2, cut_hi2, rInQ, gLq, gTq, gC_c, gNil, tChain, List.cons_append, List.nil_append, tBL, tBL0, tBad, tCr, tCe, tXF, cxH_K, HO.xd.injEq, rApp, rPopN, rRevL, seqAt_lst, seqAt_tup, at_0, at_1, at_2, at_3, at_4, ix_0, ix_1, ix_2, ix_3, ix_4, cx_K, upd_same, List.length_cons, List.length_nil, Nat.reduceAdd,  rEq, rNe, tRevL, V.int.injEq, V.bl.injEq, V.str.injEq, V.ref.injEq, List.cons.injEq, and_true, true_and, exists_and_left, exists_and_right, exists_eq_left, exists_eq_left', exists_eq_right, exists_eq_right', exists_const, Option.some.injEq, List.getElem?_cons_zero, List.getElem?_cons_succ, List.set_cons_zero, List.set_cons_succ, decide_eq_true_eq, decide_true, decide_false,  scal_ii, scal_bb, scal_ss, cmul_r, cdiv_l, cpow_12, cpow_18, cpow_40, HO.lst.injEq, HO.tup.injEq, upd_upd, Int.reduceToNat,  decide_not, Bool.not_eq_true', decide_eq_false_iff_not, if_true, if_false, Bool.false_eq_true, Bool.true_eq_false, reduceCtorEq, Int.reduceNeg, Nat.reduceLT, Int.reduceLT, Int.reducePow, gt_iff_lt]
    refine ⟨sz_of (by decide), fun p hp => ⟨S, p, [.int 1, .int 2, .int 10, .int (1 + d), .int 3, .int 4, .int 5, .int 6, .int 7, .int 4, .int 5, .int 6], rfl, (dr.new hp).st, by rw [upd_same] <;> rfl, dr.st.neA hp, (show 12 ≤ 1000 by decide), ⟨fun e => absurd e (by simp), fun i x H2 d2 hx => ?_⟩⟩⟩
    have d3 : Drew S H H2 := (dr.new hp).trans d2
    have hd := dg.1
    have hd2 : d < 10 := by have := dg.2; omega
    have key : ∃ m : Nat, x = .int (m : Int) ∧ 1 ≤ m ∧ m ≤ 10 := by
      have hm := List.mem_of_getElem? hx
      simp only [List.mem_cons, List.not_mem_nil, or_false] at hm
      rcases hm with h | h | h | h | h | h | h | h | h | h | h | h
      · exact ⟨1, h, by omega, by omega⟩
      · exact ⟨2, h, by omega, by omega⟩
      · exact ⟨10, h, by omega, by omega⟩
      · exact ⟨(1 + d).toNat, by rw [h]; congr 1; omega, by omega, by omega⟩
      · exact ⟨3, h, by omega, by omega⟩
      · exact ⟨4, h, by omega, by omega⟩
      · exact ⟨5, h, by omega, by omega⟩
      · exact ⟨6, h, by omega, by omega⟩
      · exact ⟨7, h, by omega, by omega⟩
      · exact ⟨4, h, by omega, by omega⟩
      · exact ⟨5, h, by omega, by omega⟩
      · exact ⟨6, h, by omega, by omega⟩
    obtain ⟨m, rfl, m1, m2⟩ := key
    exact q m H2 d3 m1 m2
abbrev s_law_loose_row : Stmt := topS 62
abbrev N_law_loose_row : List Str := ["store", "lot_names", "many", "k"]
theorem sc_law_loose_row : FnScope N_law_loose_row ["store", "lot_names"] (defScope s_law_loose_row) := ⟨rfl, rfl, rfl, by decide +kernel, rfl, by decide +kernel, by decide +kernel⟩
theorem b_law_loose_row : BindO "_law_loose_row" s_law_loose_row ["store", "lot_names"] := fun _ _ _ _ _ _ us hl => match us, hl with | [_, _], _ => rfl

def sp_loose : Sp := fun vs H Q _ => ∃ (S : Sto) (b : Addr) (ns : List Str), vs = [.ref S.a, .ref b] ∧ Store S H ∧ H b = some (.lst (ns.map V.str)) ∧ b ≠ S.a ∧ 1 ≤ ns.length ∧ ns.length ≤ 10 ∧ ∀ (p : Addr) (g : List Str) (H' : Hp), Drew S H H' → H p = none → seqAt (H' p) = some (g.map V.str) → g.length ≤ 12 → (∀ z ∈ g, z ∈ ns) → Q (.ref p) H'
theorem ok_loose (D : Dn K mg "_law_loose_row" s_law_loose_row) (B : Blt mg) (c_law_number : Cl P w K mg base 3 "_law_number" sp_number) (c_law_pick : Cl P w K mg base 3 "_law_pick" sp_pick) (c_law_row : Cl P w K mg base 3 "_law_row" sp_row) : Cl P w K mg base 4 "_law_loose_row" sp_loose := by
  refine cl_of D sc_law_loose_row b_law_loose_row (fun vs H Q E h => ?_) (fun f cdv A outer s H vs Q E hr h => ?_)
  · obtain ⟨S, b, ns, rfl, _⟩ := h
    rfl
  · obtain ⟨S, b, ns, rfl, hS, hb, nb, l1, l2, q⟩ := h
    refine ⟨_, (pss_cons (ps_set (i := 2) sc_law_loose_row.nd rfl (.inl rfl) (pe_cl c_law_number hr (by omega) rfl (pa_cons (pv 0) (pa_cons pe_int (pa_cons (pe_op op_add (pe_callB call_lenQ (by rfl) B.len PySem.boot_len (pa_cons (pv 1) pa_nil)) pe_int) pa_nil)))))
      (pss_one (ps_ret (pe_cl c_law_row hr (by omega) rfl (pa_cons (pv 0) (pa_cons (pe_lc (own := [("k", 3)]) (g := gName 3) rfl sc_law_loose_row.nd (pi_range1 (by rfl) B.range (pa_cons (pv 2) pa_nil)) (blkOk_by (N := N_law_loose_row) (sc := defScope s_law_loose_row) (own := [("k", 3)]) (by decide +kernel)) (fun _ _ _ _ _ => (pg_name (i := 3) sc_law_loose_row.nd rfl (Or.inl rfl))) (fun _ _ _ _ _ => pts_nil) (fun _ _ _ _ _ => (pe_cl c_law_pick hr (by omega) rfl (pa_cons (pv 0) (pa_cons (pv 1) pa_nil))))) pa_nil)))))), ?_⟩
    rw [show L2.start N_law_loose_row [.ref S.a, .ref b] = [some (.ref S.a), some (.ref b), none, none] from rfl]
    simp only [tSeq, tNext, tDrop, tRet, tRetN, tIfS, tAsg, gName, tAug, ipI, tVar, tC, tOp, tUn, rI, rI0, rU, tCons, tNil, tCB, tTup, tLst, tTest, tB, tAnd, tOr, tNot, tAndV, tOrV, tNotV, tIf, tCl, tCd, tCk, gSub, rPutL, rAtQ, rIntI, rLenQ, rLenS, rListQ, rTupL, rTupQ, rIsQ_c, kd_non, kd_bl, kd_int, kd_str, kd_ref, kdO_lst, kdO_tup, kit_NoneType_bool, kit_NoneType_int, kit_NoneType_str, kit_NoneType_list, kit_NoneType_tuple, kit_bool_bool, kit_bool_int, kit_bool_str, kit_bool_list, kit_bool_tuple, kit_int_bool, kit_int_int, kit_int_str, kit_int_list, kit_int_tuple, kit_str_bool, kit_str_int, kit_str_str, kit_str_list, kit_str_tuple, kit_list_bool, kit_list_int, kit_list_str, kit_list_list, kit_list_tuple, kit_tuple_bool, kit_tuple_int, kit_tuple_str, kit_tuple_list, kit_tuple_tuple, V.ty.injEq, rSortQ, rSlQ, rMulS, tJn, rAtX, rSlS, tSl, tPart, tNoPart, cut_lo2, cut_hi2, rInQ, gLq, gTq, gC_c, gNil, tChain, List.cons_append, List.nil_append, tBL, tBL0, tBad, tCr, tCe, tXF, cxH_K, HO.xd.injEq, rApp, rPopN, rRevL, seqAt_lst, seqAt_tup, at_0, at_1, at_2, at_3, at_4, ix_0, ix_1, ix_2, ix_3, ix_4, cx_K, upd_same, List.length_cons, List.length_nil, Nat.reduceAdd,  rEq, rNe, tRevL, V.int.injEq, V.bl.injEq, V.str.injEq, V.ref.injEq, List.cons.injEq, and_true, true_and, exists_and_left, exists_and_right, exists_eq_left, exists_eq_left', exists_eq_right, exists_eq_right', exists_const, Option.some.injEq, List.getElem?_cons_zero, List.getElem?_cons_succ, List.set_cons_zero, List.set_cons_succ, decide_eq_true_eq, decide_true, decide_false,  scal_ii, scal_bb, scal_ss, cmul_r, cdiv_l, cpow_12, cpow_18, cpow_40, HO.lst.injEq, HO.tup.injEq, upd_upd, Int.reduceToNat,  decide_not, Bool.not_eq_true', decide_eq_false_iff_not, if_true, if_false, Bool.false_eq_true, Bool.true_eq_false, reduceCtorEq, Int.reduceNeg, Nat.reduceLT, Int.reduceLT, Int.reducePow, gt_iff_lt]
    refine ⟨ns.map V.str, by rw [hb] <;> rfl, S, 0, (ns.length : Int) + 2, by rw [List.length_map], hS, by omega, fun d H1 dr bt => ?_⟩
    obtain ⟨n, rfl⟩ : ∃ n : Nat, d = (n : Int) := ⟨d.toNat, by have := bt.1; omega⟩
    have hn : n ≤ 12 := by have := bt.2; omega
    refine z_lcR n (fun Q q => ?_) (by omega) (fun D i H' => Drew S H H' ∧ H' b = some (.lst (ns.map V.str)) ∧ ∃ g : List Str, H' D = some (.lst (g.map V.str)) ∧ g.length = i ∧ ∀ z ∈ g, z ∈ ns) (fun D hD => ?_) ⟨rfl, fun _ => rfl⟩ (fun D i H' hD hi hI => ?_) (fun D H' hD hI => ?_)
    · simp only [tSeq, tNext, tDrop, tRet, tRetN, tIfS, tAsg, gName, tAug, ipI, tVar, tC, tOp, tUn, rI, rI0, rU, tCons, tNil, tCB, tTup, tLst, tTest, tB, tAnd, tOr, tNot, tAndV, tOrV, tNotV, tIf, tCl, tCd, tCk, gSub, rPutL, rAtQ, rIntI, rLenQ, rLenS, rListQ, rTupL, rTupQ, rIsQ_c, kd_non, kd_bl, kd_int, kd_str, kd_ref, kdO_lst, kdO_tup, kit_NoneType_bool, kit_NoneType_int, kit_NoneType_str, kit_NoneType_list, kit_NoneType_tuple, kit_bool_bool, kit_bool_int, kit_bool_str, kit_bool_list, kit_bool_tuple, kit_int_bool, kit_int_int, kit_int_str, kit_int_list, kit_int_tuple, kit_str_bool, kit_str_int, kit_str_str, kit_str_list, kit_str_tuple, kit_list_bool, kit_list_int, kit_list_str, kit_list_list, kit_list_tuple, kit_tuple_bool, kit_tuple_int, kit_tuple_str, kit_tuple_list, kit_tuple_tuple, V.ty.injEq, rSortQ, rSlQ, rMulS, tJn, rAtX, rSlS, tSl, tPart, tNoPart, cut_lo2, cut_hi2, rInQ, gLq, gTq, gC_c, gNil, tChain, List.cons_append, List.nil_append, tBL, tBL0, tBad, tCr, tCe, tXF, cxH_K, HO.xd.injEq, rApp, rPopN, rRevL, seqAt_lst, seqAt_tup, at_0, at_1, at_2, at_3, at_4, ix_0, ix_1, ix_2, ix_3, ix_4, cx_K, upd_same, List.length_cons, List.length_nil, Nat.reduceAdd,  rEq, rNe, tRevL, V.int.injEq, V.bl.injEq, V.str.injEq, V.ref.injEq, List.cons.injEq, and_true, true_and, exists_and_left, exists_and_right, exists_eq_left, exists_eq_left', exists_eq_right, exists_eq_right', exists_const, Option.some.injEq, List.getElem?_cons_zero, List.getElem?_cons_succ, List.set_cons_zero, List.set_cons_succ, decide_eq_true_eq, decide_true, decide_false,  scal_ii, scal_bb, scal_ss, cmul_r, cdiv_l, cpow_12, cpow_18, cpow_40, HO.lst.injEq, HO.tup.injEq, upd_upd, Int.reduceToNat,  decide_not, Bool.not_eq_true', decide_eq_false_iff_not, if_true, if_false, Bool.false_eq_true, Bool.true_eq_false, reduceCtorEq, Int.reduceNeg, Nat.reduceLT, Int.reduceLT, Int.reducePow, gt_iff_lt]
      exact q
    · have hb1 : H1 b = some (.lst (ns.map V.str)) := dr.but b _ nb hb
      exact ⟨dr.new hD, by rw [upd_ne (ne_of_none hb1 hD)]; exact hb1, [], upd_same, rfl, fun z hz => by cases hz⟩
    · obtain ⟨d2, hb2, g, hg, lg, mg'⟩ := hI
      have nD : D ≠ S.a := dr.st.neA hD
      have nDb : b ≠ D := fun e => by
        have := dr.but b _ nb hb
        rw [e, hD] at this
        cases this
      simp only [tSeq, tNext, tDrop, tRet, tRetN, tIfS, tAsg, gName, tAug, ipI, tVar, tC, tOp, tUn, rI, rI0, rU, tCons, tNil, tCB, tTup, tLst, tTest, tB, tAnd, tOr, tNot, tAndV, tOrV, tNotV, tIf, tCl, tCd, tCk, gSub, rPutL, rAtQ, rIntI, rLenQ, rLenS, rListQ, rTupL, rTupQ, rIsQ_c, kd_non, kd_bl, kd_int, kd_str, kd_ref, kdO_lst, kdO_tup, kit_NoneType_bool, kit_NoneType_int, kit_NoneType_str, kit_NoneType_list, kit_NoneType_tuple, kit_bool_bool, kit_bool_int, kit_bool_str, kit_bool_list, kit_bool_tuple, kit_int_bool, kit_int_int, kit_int_str, kit_int_list, kit_int_tuple, kit_str_bool, kit_str_int, kit_str_str, kit_str_list, kit_str_tuple, kit_list_bool, kit_list_int, kit_list_str, kit_list_list, kit_list_tuple, kit_tuple_bool, kit_tuple_int, kit_tuple_str, kit_tuple_list, kit_tuple_tuple, V.ty.injEq, rSortQ, rSlQ, rMulS, tJn, rAtX, rSlS, tSl, tPart, tNoPart, cut_lo2, cut_hi2, rInQ, gLq, gTq, gC_c, gNil, tChain, List.cons_append, List.nil_append, tBL, tBL0, tBad, tCr, tCe, tXF, cxH_K, HO.xd.injEq, rApp, rPopN, rRevL, seqAt_lst, seqAt_tup, at_0, at_1, at_2, at_3, at_4, ix_0, ix_1, ix_2, ix_3, ix_4, cx_K, upd_same, List.length_cons, List.length_nil, Nat.reduceAdd,  rEq, rNe, tRevL, V.int.injEq, V.bl.injEq, V.str.injEq, V.ref.injEq, List.cons.injEq, and_true, true_and, exists_and_left, exists_and_right, exists_eq_left, exists_eq_left', exists_eq_right, exists_eq_right', exists_const, Option.some.injEq, List.getElem?_cons_zero, List.getElem?_cons_succ, List.set_cons_zero, List.set_cons_succ, decide_eq_true_eq, decide_true, decide_false,  scal_ii, scal_bb, scal_ss, cmul_r, cdiv_l, cpow_12, cpow_18, cpow_40, HO.lst.injEq, HO.tup.injEq, upd_upd, Int.reduceToNat,  decide_not, Bool.not_eq_true', decide_eq_false_iff_not, if_true, if_false, Bool.false_eq_true, Bool.true_eq_false, reduceCtorEq, Int.reduceNeg, Nat.reduceLT, Int.reduceLT, Int.reducePow, gt_iff_lt, wipe, List.map_cons, List.map_nil]
      refine ⟨S, b, ns.map V.str, rfl, d2.st, by rw [hb2] <;> rfl, nb, by rw [List.length_map]; omega, fun e => ?_, fun j x H3 d3 hx => ?_⟩
      · rw [List.map_eq_nil_iff] at e
        rw [e] at l1
        exact absurd l1 (by decide)
      · rw [List.getElem?_map] at hx
        obtain ⟨z, ez, rfl⟩ := Option.map_eq_some_iff.mp hx
        refine ⟨_, d3.but D _ nD hg, by rw [List.length_map]; exact sz_lt (by omega), (d2.trans d3).at hS (dr.back hD), by rw [upd_ne nDb]; exact d3.but b _ nb hb2, g ++ [z], by rw [List.map_append] <;> rfl, by rw [List.length_append, lg] <;> rfl, fun y hy => ?_⟩
        rcases List.mem_append.mp hy with h | h
        · exact mg' y h
        · rw [show y = z by simpa using h]
          exact List.mem_of_getElem? ez
    · obtain ⟨d2, hb2, g, hg, lg, mg'⟩ := hI
      refine ⟨S, D, g.map V.str, rfl, d2.st, hg, dr.st.neA hD, fun r H4 d4 hr e => q r g H4 (d2.trans d4) (d2.back hr) e (by omega) mg'⟩
end
end Z
set_option Elab.async false
set_option linter.all false
set_option maxRecDepth 100000
set_option maxHeartbeats 4000000
namespace Z
open PySem PySem.Spec PyProof.Rows L2 L2H
section
variable {P : Program} {w : World} {K : PySem.W.Frag} {mg : Str → Option Value} {base : Heap}
/-! ### names, as the law makes them -/
def okC (c : Nat) : Bool := isLet c || isDig c
/-- a letter, then letters and digits, at most n signs -/
structure Nm (n : Nat) (x : Str) : Prop where
  ex : ∃ c cs, x.cps.toList = c :: cs ∧ cs.length < n ∧ isLet c = true ∧ ∀ d ∈ c :: cs, okC d = true
theorem okC_low {c : Nat} (h : okC c = true) : c < 128 := by
  have a : ∀ c ∈ (Str.ofString "abcdefghijklmnopqrstuvwxyz").cps.toList, c < 128 := by decide +kernel
  have b : ∀ c ∈ (Str.ofString "0123456789").cps.toList, c < 128 := by decide +kernel
  unfold okC at h
  rw [Bool.or_eq_true] at h
  exact h.elim (fun h => a c (of_decide_eq_true h)) (fun h => b c (of_decide_eq_true h))
theorem Nm.good {x : Str} (h : Nm 8 x) : good x = true := by
  obtain ⟨c, cs, e, l, hc, ha⟩ := h.ex
  unfold Z.good
  rw [e, goodL_cons, decide_eq_true l, hc, Bool.true_and, Bool.true_and, List.all_eq_true]
  exact ha
theorem Nm.all {n : Nat} {x : Str} (h : Nm n x) : ∀ d ∈ x.cps.toList, okC d = true := by
  obtain ⟨c, cs, e, l, hc, ha⟩ := h.ex
  rw [e]
  exact ha
theorem Nm.len {n : Nat} {x : Str} (h : Nm n x) : x.length ≤ n := by
  obtain ⟨c, cs, e, l, hc, ha⟩ := h.ex
  rw [str_len, e, List.length_cons]
  omega
theorem Nm.pos {n : Nat} {x : Str} (h : Nm n x) : 0 < x.length := by
  obtain ⟨c, cs, e, l, hc, ha⟩ := h.ex
  rw [str_len, e, List.length_cons]
  omega
theorem Nm.tx {n : Nat} {x : Str} (h : Nm n x) : Tx n x := ⟨h.len, fun c hc => okC_low (h.all c hc)⟩
theorem Nm.mono {n m : Nat} {x : Str} (h : Nm n x) (l : n ≤ m) : Nm m x := by
  obtain ⟨c, cs, e, l', hc, ha⟩ := h.ex
  exact ⟨c, cs, e, by omega, hc, ha⟩
theorem Nm.one {c : Nat} (h : isLet c = true) : Nm 1 ⟨#[c]⟩ := ⟨c, [], rfl, by decide, h, fun d hd => by
  rw [show d = c by simpa using hd]
  unfold okC
  rw [h, Bool.true_or]⟩
theorem Nm.cat {n m : Nat} {x y : Str} (h : Nm n x) (hy : ∀ d ∈ y.cps.toList, okC d = true) (l : y.length ≤ m) : Nm (n + m) (x ++ y) := by
  obtain ⟨c, cs, e, l', hc, ha⟩ := h.ex
  refine ⟨c, cs ++ y.cps.toList, by rw [str_cat, e, List.cons_append], by rw [List.length_append, ← str_len]; omega, hc, fun d hd => ?_⟩
  rw [← List.cons_append] at hd
  exact (List.mem_append.mp hd).elim (ha d) (hy d)
theorem Nm.take {n k : Nat} {x : Str} (h : Nm n x) (hk : 0 < k) : Nm k (cutS x none (some (k : Int))) := by
  obtain ⟨c, cs, e, l', hc, ha⟩ := h.ex
  obtain ⟨k, rfl⟩ : ∃ j, k = j + 1 := ⟨k - 1, by omega⟩
  have e2 : (cutS x none (some ((k + 1 : Nat) : Int))).cps.toList = c :: cs.take k := by
    rw [cut_list, HT.sIx_nat, HT.sIx_none, List.drop_zero, str_len, e, List.length_cons, Nat.sub_zero]
    rw [show min (k + 1) (cs.length + 1) = min k cs.length + 1 by omega, List.take_succ_cons]
    congr 1
    rw [List.take_eq_take_iff]
    omega
  refine ⟨c, cs.take k, e2, by rw [List.length_take]; omega, hc, fun d hd => ha d ?_⟩
  rcases List.mem_cons.mp hd with h | h
  · rw [h]; exact List.mem_cons_self
  · exact List.mem_cons_of_mem _ (List.mem_of_mem_take h)
def lettersS : Str := Str.ofString "abcdefghijklmnopqrstuvwxyz0123456789"
theorem letters_let {n c : Nat} (h : n < 26) (e : lettersS.cps.toList[n]? = some c) : isLet c = true := by
  have z : ∀ i : Fin 26, (lettersS.cps.toList[i.val]?).all isLet = true := by decide +kernel
  have y := z ⟨n, h⟩
  rw [e] at y
  exact y
theorem letters_ok {n c : Nat} (h : n < 36) (e : lettersS.cps.toList[n]? = some c) : okC c = true := by
  have z : ∀ i : Fin 36, (lettersS.cps.toList[i.val]?).all okC = true := by decide +kernel
  have y := z ⟨n, h⟩
  rw [e] at y
  exact y
def sp_nm (n : Nat) : Sp := fun vs H Q _ => ∃ S : Sto, vs = [.ref S.a] ∧ Store S H ∧ ∀ (x : Str) (H' : Hp), Drew S H H' → Nm n x → Q (.str x) H'
theorem ok_namey (D : Dn K mg "_law_name" s_law_name) (B : Blt mg) (c_law_take : Cl P w K mg base 2 "_law_take" sp_take) (c_law_number : Cl P w K mg base 3 "_law_number" sp_number) : Cl P w K mg base 4 "_law_name" (sp_nm 8) := by
  refine cl_of D sc_law_name b_law_name (fun vs H Q E h => ?_) (fun f cdv A outer s H vs Q E hr h => ?_)
  · obtain ⟨S, rfl, _⟩ := h
    rfl
  · obtain ⟨S, rfl, st, q⟩ := h
    refine ⟨_, (pss_cons (ps_set (i := 1) sc_law_name.nd rfl (.inl rfl) pe_str)
      (pss_cons (ps_set (i := 2) sc_law_name.nd rfl (.inl rfl) (pe_ix at_str (pv 1) (pe_cl c_law_take hr (by omega) rfl (pa_cons (pv 0) (pa_cons pe_int pa_nil))) (fun _ _ => rfl)))
      (pss_cons (ps_for PassesOwn.never rfl (pi_range1 (by rfl) B.range (pa_cons (pe_cl c_law_number hr (by omega) rfl (pa_cons (pv 0) (pa_cons pe_int (pa_cons pe_int pa_nil)))) pa_nil)) (pg_name (i := 3) sc_law_name.nd rfl (.inl rfl)) (pss_one (ps_set (i := 2) sc_law_name.nd rfl (.inl rfl) (pe_op op_add_str (pv 2) (pe_ix at_str (pv 1) (pe_cl c_law_take hr (by omega) rfl (pa_cons (pv 0) (pa_cons pe_int pa_nil))) (fun _ _ => rfl))))))
      (pss_one (ps_ret (pv 2)))))), ?_⟩
    rw [show L2.start N_law_name [.ref S.a] = [some (.ref S.a), none, none, none] from rfl]
    simp only [tSeq, tNext, tDrop, tRet, tRetN, tIfS, tAsg, gName, tAug, ipI, tVar, tC, tOp, tUn, rI, rI0, rU, tCons, tNil, tCB, tTup, tLst, tTest, tB, tAnd, tOr, tNot, tAndV, tOrV, tNotV, tIf, tCl, tCd, tCk, gSub, rPutL, rAtQ, rIntI, rLenQ, rLenS, rListQ, rTupL, rTupQ, rIsQ_c, kd_non, kd_bl, kd_int, kd_str, kd_ref, kdO_lst, kdO_tup, kit_NoneType_bool, kit_NoneType_int, kit_NoneType_str, kit_NoneType_list, kit_NoneType_tuple, kit_bool_bool, kit_bool_int, kit_bool_str, kit_bool_list, kit_bool_tuple, kit_int_bool, kit_int_int, kit_int_str, kit_int_list, kit_int_tuple, kit_str_bool, kit_str_int, kit_str_str, kit_str_list, kit_str_tuple, kit_list_bool, kit_list_int, kit_list_str, kit_list_list, kit_list_tuple, kit_tuple_bool, kit_tuple_int, kit_tuple_str, kit_tuple_list, kit_tuple_tuple, V.ty.injEq, rSortQ, rSlQ, rMulS, tJn, rAtX, rSlS, tSl, tPart, tNoPart, cut_lo2, cut_hi2, rInQ, gLq, gTq, gC_c, gNil, tChain, List.cons_append, List.nil_append, tBL, tBL0, tBad, tCr, tCe, tXF, cxH_K, HO.xd.injEq, rApp, rPopN, rRevL, seqAt_lst, seqAt_tup, at_0, at_1, at_2, at_3, at_4, ix_0, ix_1, ix_2, ix_3, ix_4, cx_K, upd_same, List.length_cons, List.length_nil, Nat.reduceAdd,  rEq, rNe, tRevL, V.int.injEq, V.bl.injEq, V.str.injEq, V.ref.injEq, List.cons.injEq, and_true, true_and, exists_and_left, exists_and_right, exists_eq_left, exists_eq_left', exists_eq_right, exists_eq_right', exists_const, Option.some.injEq, List.getElem?_cons_zero, List.getElem?_cons_succ, List.set_cons_zero, List.set_cons_succ, decide_eq_true_eq, decide_true, decide_false,  scal_ii, scal_bb, scal_ss, cmul_r, cdiv_l, cpow_12, cpow_18, cpow_40, HO.lst.injEq, HO.tup.injEq, upd_upd, Int.reduceToNat,  decide_not, Bool.not_eq_true', decide_eq_false_iff_not, if_true, if_false, Bool.false_eq_true, Bool.true_eq_false, reduceCtorEq, Int.reduceNeg, Nat.reduceLT, Int.reduceLT, Int.reducePow, gt_iff_lt]
    refine ⟨_, _, rfl, st, by decide, fun d H1 r1 g1 => ?_⟩
    have t1 : Tx 36 lettersS := Tx.lit (by decide +kernel)
    have l1 : lettersS.cps.toList.length = 36 := by decide +kernel
    obtain ⟨n, rfl⟩ : ∃ n : Nat, d = (n : Int) := ⟨d.toNat, by have := g1.1; omega⟩
    have ln : n < lettersS.cps.toList.length := by rw [l1]; have := g1.2; omega
    refine ⟨n, rfl, t1.line (by decide), _, atI_nat (List.getElem?_eq_getElem ln), ?_⟩
    have nm1 := Nm.one (letters_let (by have := g1.2; omega) (List.getElem?_eq_getElem ln))
    refine forE (fun k H1 => Drew S H H1 ∧ k ≤ 7) (fun X hX => ?_) (fun k H2 ⟨r2, hk⟩ => ?_)
    · simp only [tSeq, tNext, tDrop, tRet, tRetN, tIfS, tAsg, gName, tAug, ipI, tVar, tC, tOp, tUn, rI, rI0, rU, tCons, tNil, tCB, tTup, tLst, tTest, tB, tAnd, tOr, tNot, tAndV, tOrV, tNotV, tIf, tCl, tCd, tCk, gSub, rPutL, rAtQ, rIntI, rLenQ, rLenS, rListQ, rTupL, rTupQ, rIsQ_c, kd_non, kd_bl, kd_int, kd_str, kd_ref, kdO_lst, kdO_tup, kit_NoneType_bool, kit_NoneType_int, kit_NoneType_str, kit_NoneType_list, kit_NoneType_tuple, kit_bool_bool, kit_bool_int, kit_bool_str, kit_bool_list, kit_bool_tuple, kit_int_bool, kit_int_int, kit_int_str, kit_int_list, kit_int_tuple, kit_str_bool, kit_str_int, kit_str_str, kit_str_list, kit_str_tuple, kit_list_bool, kit_list_int, kit_list_str, kit_list_list, kit_list_tuple, kit_tuple_bool, kit_tuple_int, kit_tuple_str, kit_tuple_list, kit_tuple_tuple, V.ty.injEq, rSortQ, rSlQ, rMulS, tJn, rAtX, rSlS, tSl, tPart, tNoPart, cut_lo2, cut_hi2, rInQ, gLq, gTq, gC_c, gNil, tChain, List.cons_append, List.nil_append, tBL, tBL0, tBad, tCr, tCe, tXF, cxH_K, HO.xd.injEq, rApp, rPopN, rRevL, seqAt_lst, seqAt_tup, at_0, at_1, at_2, at_3, at_4, ix_0, ix_1, ix_2, ix_3, ix_4, cx_K, upd_same, List.length_cons, List.length_nil, Nat.reduceAdd,  rEq, rNe, tRevL, V.int.injEq, V.bl.injEq, V.str.injEq, V.ref.injEq, List.cons.injEq, and_true, true_and, exists_and_left, exists_and_right, exists_eq_left, exists_eq_left', exists_eq_right, exists_eq_right', exists_const, Option.some.injEq, List.getElem?_cons_zero, List.getElem?_cons_succ, List.set_cons_zero, List.set_cons_succ, decide_eq_true_eq, decide_true, decide_false,  scal_ii, scal_bb, scal_ss, cmul_r, cdiv_l, cpow_12, cpow_18, cpow_40, HO.lst.injEq, HO.tup.injEq, upd_upd, Int.reduceToNat,  decide_not, Bool.not_eq_true', decide_eq_false_iff_not, if_true, if_false, Bool.false_eq_true, Bool.true_eq_false, reduceCtorEq, Int.reduceNeg, Nat.reduceLT, Int.reduceLT, Int.reducePow, gt_iff_lt]
      refine ⟨_, _, _, rfl, r1.st, by decide, fun d H2 r2 g2 => ?_⟩
      have z := hX d.toNat H2 ⟨r1.trans r2, by have := g2.2; have := g2.1; omega⟩
      rw [show ((d.toNat : Nat) : Int) = d by have := g2.1; omega] at z
      exact z
    refine z_forR k (fun Q q => q) (by omega) (fun i σ' H' => ∃ (x : Str) (z : Option V), σ' = [some (.ref S.a), some (.str lettersS), some (.str x), z] ∧ Drew S H H' ∧ Nm (1 + i) x) ⟨_, _, rfl, r2, nm1⟩ (fun i σ' H' hi hI => ?_) (fun σ' H' hI => ?_)
    · obtain ⟨x, z, rfl, r3, tx⟩ := hI
      simp only [tSeq, tNext, tDrop, tRet, tRetN, tIfS, tAsg, gName, tAug, ipI, tVar, tC, tOp, tUn, rI, rI0, rU, tCons, tNil, tCB, tTup, tLst, tTest, tB, tAnd, tOr, tNot, tAndV, tOrV, tNotV, tIf, tCl, tCd, tCk, gSub, rPutL, rAtQ, rIntI, rLenQ, rLenS, rListQ, rTupL, rTupQ, rIsQ_c, kd_non, kd_bl, kd_int, kd_str, kd_ref, kdO_lst, kdO_tup, kit_NoneType_bool, kit_NoneType_int, kit_NoneType_str, kit_NoneType_list, kit_NoneType_tuple, kit_bool_bool, kit_bool_int, kit_bool_str, kit_bool_list, kit_bool_tuple, kit_int_bool, kit_int_int, kit_int_str, kit_int_list, kit_int_tuple, kit_str_bool, kit_str_int, kit_str_str, kit_str_list, kit_str_tuple, kit_list_bool, kit_list_int, kit_list_str, kit_list_list, kit_list_tuple, kit_tuple_bool, kit_tuple_int, kit_tuple_str, kit_tuple_list, kit_tuple_tuple, V.ty.injEq, rSortQ, rSlQ, rMulS, tJn, rAtX, rSlS, tSl, tPart, tNoPart, cut_lo2, cut_hi2, rInQ, gLq, gTq, gC_c, gNil, tChain, List.cons_append, List.nil_append, tBL, tBL0, tBad, tCr, tCe, tXF, cxH_K, HO.xd.injEq, rApp, rPopN, rRevL, seqAt_lst, seqAt_tup, at_0, at_1, at_2, at_3, at_4, ix_0, ix_1, ix_2, ix_3, ix_4, cx_K, upd_same, List.length_cons, List.length_nil, Nat.reduceAdd,  rEq, rNe, tRevL, V.int.injEq, V.bl.injEq, V.str.injEq, V.ref.injEq, List.cons.injEq, and_true, true_and, exists_and_left, exists_and_right, exists_eq_left, exists_eq_left', exists_eq_right, exists_eq_right', exists_const, Option.some.injEq, List.getElem?_cons_zero, List.getElem?_cons_succ, List.set_cons_zero, List.set_cons_succ, decide_eq_true_eq, decide_true, decide_false,  scal_ii, scal_bb, scal_ss, cmul_r, cdiv_l, cpow_12, cpow_18, cpow_40, HO.lst.injEq, HO.tup.injEq, upd_upd, Int.reduceToNat,  decide_not, Bool.not_eq_true', decide_eq_false_iff_not, if_true, if_false, Bool.false_eq_true, Bool.true_eq_false, reduceCtorEq, Int.reduceNeg, Nat.reduceLT, Int.reduceLT, Int.reducePow, gt_iff_lt]
      refine ⟨_, _, rfl, r3.st, by decide, fun d2 H3 r4 g4 => ?_⟩
      obtain ⟨m, rfl⟩ : ∃ n : Nat, d2 = (n : Int) := ⟨d2.toNat, by have := g4.1; omega⟩
      have lm : m < lettersS.cps.toList.length := by rw [l1]; have := g4.2; omega
      have tc := tx.cat (y := ⟨#[lettersS.cps.toList[m]]⟩) (m := 1) (fun d hd => by
        rw [show d = lettersS.cps.toList[m] by simpa using hd]
        exact letters_ok (by have := g4.2; omega) (List.getElem?_eq_getElem lm)) (Nat.le_refl 1)
      refine ⟨m, rfl, t1.line (by decide), _, atI_nat (List.getElem?_eq_getElem lm), ?_⟩
      exact ⟨by rw [← str_cat_len]; exact tc.tx.line (by omega), _, ⟨rfl, _, rfl⟩, r3.trans r4, tc.mono (by omega)⟩
    · obtain ⟨x, z, rfl, r3, tx⟩ := hI
      simp only [tSeq, tNext, tDrop, tRet, tRetN, tIfS, tAsg, gName, tAug, ipI, tVar, tC, tOp, tUn, rI, rI0, rU, tCons, tNil, tCB, tTup, tLst, tTest, tB, tAnd, tOr, tNot, tAndV, tOrV, tNotV, tIf, tCl, tCd, tCk, gSub, rPutL, rAtQ, rIntI, rLenQ, rLenS, rListQ, rTupL, rTupQ, rIsQ_c, kd_non, kd_bl, kd_int, kd_str, kd_ref, kdO_lst, kdO_tup, kit_NoneType_bool, kit_NoneType_int, kit_NoneType_str, kit_NoneType_list, kit_NoneType_tuple, kit_bool_bool, kit_bool_int, kit_bool_str, kit_bool_list, kit_bool_tuple, kit_int_bool, kit_int_int, kit_int_str, kit_int_list, kit_int_tuple, kit_str_bool, kit_str_int, kit_str_str, kit_str_list, kit_str_tuple, kit_list_bool, kit_list_int, kit_list_str, kit_list_list, kit_list_tuple, kit_tuple_bool, kit_tuple_int, kit_tuple_str, kit_tuple_list, kit_tuple_tuple, V.ty.injEq, rSortQ, rSlQ, rMulS, tJn, rAtX, rSlS, tSl, tPart, tNoPart, cut_lo2, cut_hi2, rInQ, gLq, gTq, gC_c, gNil, tChain, List.cons_append, List.nil_append, tBL, tBL0, tBad, tCr, tCe, tXF, cxH_K, HO.xd.injEq, rApp, rPopN, rRevL, seqAt_lst, seqAt_tup, at_0, at_1, at_2, at_3, at_4, ix_0, ix_1, ix_2, ix_3, ix_4, cx_K, upd_same, List.length_cons, List.length_nil, Nat.reduceAdd,  rEq, rNe, tRevL, V.int.injEq, V.bl.injEq, V.str.injEq, V.ref.injEq, List.cons.injEq, and_true, true_and, exists_and_left, exists_and_right, exists_eq_left, exists_eq_left', exists_eq_right, exists_eq_right', exists_const, Option.some.injEq, List.getElem?_cons_zero, List.getElem?_cons_succ, List.set_cons_zero, List.set_cons_succ, decide_eq_true_eq, decide_true, decide_false,  scal_ii, scal_bb, scal_ss, cmul_r, cdiv_l, cpow_12, cpow_18, cpow_40, HO.lst.injEq, HO.tup.injEq, upd_upd, Int.reduceToNat,  decide_not, Bool.not_eq_true', decide_eq_false_iff_not, if_true, if_false, Bool.false_eq_true, Bool.true_eq_false, reduceCtorEq, Int.reduceNeg, Nat.reduceLT, Int.reduceLT, Int.reducePow, gt_iff_lt]
      exact q _ _ r3 (tx.mono (by omega))
/-! ### str(k), k at most 10 -/
def dg (k : Nat) : Str := toString (k : Int)
theorem dg_ok {k : Nat} (h : k ≤ 10) : (dg k).length ≤ 2 ∧ ∀ d ∈ (dg k).cps.toList, okC d = true := by
  have z : ∀ i : Fin 11, (dg i.val).length ≤ 2 ∧ ∀ d ∈ (dg i.val).cps.toList, okC d = true := by decide +kernel
  exact z ⟨k, by omega⟩
theorem dg_inj {j k : Nat} (hj : j ≤ 10) (hk : k ≤ 10) (e : (dg j).cps.toList = (dg k).cps.toList) : j = k := by
  have z : ∀ i j : Fin 11, (dg i.val).cps.toList = (dg j.val).cps.toList → i = j := by decide +kernel
  exact congrArg Fin.val (z ⟨j, by omega⟩ ⟨k, by omega⟩ e)
theorem nd_len {α : Type} [DecidableEq α] : ∀ {l m : List α}, l.Nodup → (∀ x ∈ l, x ∈ m) → l.length ≤ m.length
  | [], m, _, _ => Nat.zero_le _
  | x :: l, m, nd, h => by
    rw [List.nodup_cons] at nd
    have hx := h x List.mem_cons_self
    have z := nd_len (l := l) (m := m.erase x) nd.2 fun y hy => (List.mem_erase_of_ne (fun e : y = x => nd.1 (by rw [← e]; exact hy))).mpr (h y (List.mem_cons_of_mem _ hy))
    rw [List.length_erase_of_mem hx] at z
    have := List.length_pos_of_mem hx
    rw [List.length_cons]
    omega
theorem some_free {x : Str} {ns : List Str} {n : Nat} (hn : n ≤ 10) (h : ∀ k < n, x ++ dg k ∈ ns) : n ≤ ns.length := by
  have z := nd_len (l := (List.range n).map fun k => x ++ dg k) (m := ns) (by
    rw [List.nodup_iff_pairwise_ne, List.pairwise_map]
    refine List.Pairwise.imp_of_mem (fun {a b} ha hb hab e => hab (dg_inj ?_ ?_ ?_)) List.nodup_range
    · have := List.mem_range.mp ha; omega
    · have := List.mem_range.mp hb; omega
    · have e' := congrArg (fun s : Str => s.cps.toList) e
      simp only [str_cat] at e'
      exact List.append_cancel_left e') fun y hy => by
    obtain ⟨k, hk, rfl⟩ := List.mem_map.mp hy
    exact h k (List.mem_range.mp hk)
  rw [List.length_map, List.length_range] at z
  exact z
abbrev s_law_unlike : Stmt := topS 58
abbrev N_law_unlike : List Str := ["word", "taken", "k"]
theorem sc_law_unlike : FnScope N_law_unlike ["word", "taken"] (defScope s_law_unlike) := ⟨rfl, rfl, rfl, by decide +kernel, rfl, by decide +kernel, by decide +kernel⟩
theorem b_law_unlike : BindO "_law_unlike" s_law_unlike ["word", "taken"] := fun _ _ _ _ _ _ us hl => match us, hl with | [_, _], _ => rfl

def sp_unlike : Sp := fun vs H Q _ => ∃ (x : Str) (p : Addr) (ns : List Str), vs = [.str x, .ref p] ∧ H p = some (.lst (ns.map V.str)) ∧ ns.length ≤ 9 ∧ Nm 8 x ∧ ∀ y, Nm 8 y → y ∉ ns → Q (.str y) H
theorem ok_unlike (D : Dn K mg "_law_unlike" s_law_unlike) (B : Blt mg) : Cl P w K mg base 1 "_law_unlike" sp_unlike := by
  refine cl_of D sc_law_unlike b_law_unlike (fun vs H Q E h => ?_) (fun f cdv A outer s H vs Q E hr h => ?_)
  · obtain ⟨x, p, ns, rfl, _⟩ := h
    rfl
  · obtain ⟨x, p, ns, rfl, hp, hn, nx, q⟩ := h
    refine ⟨_, (pss_cons (ps_if (pt_cmpR op_ninQ (pv 0) (pv 1) (by rfl)) (pss_one (ps_ret (pv 0))) pss_nil)
      (pss_cons (ps_for PassesOwn.never rfl (pi_range1 (by rfl) B.range (pa_cons (pe_op op_add (pe_callB call_lenQ (by rfl) B.len PySem.boot_len (pa_cons (pv 1) pa_nil)) pe_int) pa_nil)) (pg_name (i := 2) sc_law_unlike.nd rfl (.inl rfl)) (pss_one (ps_if (pt_cmpR op_ninQ (pe_op op_add_str (pe_slice sl_str (pv 0) po_none (po_some pe_int)) (pe_callTy call_strI (by rfl) B.str (by decide +kernel) (pa_cons (pv 2) pa_nil))) (pv 1) (by rfl)) (pss_one (ps_ret (pe_op op_add_str (pe_slice sl_str (pv 0) po_none (po_some pe_int)) (pe_callTy call_strI (by rfl) B.str (by decide +kernel) (pa_cons (pv 2) pa_nil))))) pss_nil)))
      (pss_one (ps_ret (pv 0))))), ?_⟩
    rw [show L2.start N_law_unlike [.str x, .ref p] = [some (.str x), some (.ref p), none] from rfl]
    have fl : (ns.map V.str).all flatV = true := by
      rw [List.all_eq_true]
      intro v hv
      obtain ⟨z, _, rfl⟩ := List.mem_map.mp hv
      rfl
    simp only [tSeq, tNext, tDrop, tRet, tRetN, tIfS, tAsg, gName, tAug, ipI, tVar, tC, tOp, tUn, rI, rI0, rU, tCons, tNil, tCB, tTup, tLst, tTest, tB, tAnd, tOr, tNot, tAndV, tOrV, tNotV, tIf, tCl, tCd, tCk, gSub, rPutL, rAtQ, rIntI, rLenQ, rLenS, rListQ, rTupL, rTupQ, rIsQ_c, kd_non, kd_bl, kd_int, kd_str, kd_ref, kdO_lst, kdO_tup, kit_NoneType_bool, kit_NoneType_int, kit_NoneType_str, kit_NoneType_list, kit_NoneType_tuple, kit_bool_bool, kit_bool_int, kit_bool_str, kit_bool_list, kit_bool_tuple, kit_int_bool, kit_int_int, kit_int_str, kit_int_list, kit_int_tuple, kit_str_bool, kit_str_int, kit_str_str, kit_str_list, kit_str_tuple, kit_list_bool, kit_list_int, kit_list_str, kit_list_list, kit_list_tuple, kit_tuple_bool, kit_tuple_int, kit_tuple_str, kit_tuple_list, kit_tuple_tuple, V.ty.injEq, rSortQ, rSlQ, rMulS, tJn, rAtX, rSlS, tSl, tPart, tNoPart, cut_lo2, cut_hi2, rInQ, gLq, gTq, gC_c, gNil, tChain, List.cons_append, List.nil_append, tBL, tBL0, tBad, tCr, tCe, tXF, cxH_K, HO.xd.injEq, rApp, rPopN, rRevL, seqAt_lst, seqAt_tup, at_0, at_1, at_2, at_3, at_4, ix_0, ix_1, ix_2, ix_3, ix_4, cx_K, upd_same, List.length_cons, List.length_nil, Nat.reduceAdd,  rEq, rNe, tRevL, V.int.injEq, V.bl.injEq, V.str.injEq, V.ref.injEq, List.cons.injEq, and_true, true_and, exists_and_left, exists_and_right, exists_eq_left, exists_eq_left', exists_eq_right, exists_eq_right', exists_const, Option.some.injEq, List.getElem?_cons_zero, List.getElem?_cons_succ, List.set_cons_zero, List.set_cons_succ, decide_eq_true_eq, decide_true, decide_false,  scal_ii, scal_bb, scal_ss, cmul_r, cdiv_l, cpow_12, cpow_18, cpow_40, HO.lst.injEq, HO.tup.injEq, upd_upd, Int.reduceToNat,  decide_not, Bool.not_eq_true', decide_eq_false_iff_not, if_true, if_false, Bool.false_eq_true, Bool.true_eq_false, reduceCtorEq, Int.reduceNeg, Nat.reduceLT, Int.reduceLT, Int.reducePow, gt_iff_lt]
    refine ⟨_, by rw [hp] <;> rfl, rfl, fl, ?_⟩
    rw [inV_strs]
    by_cases hm : x ∈ ns
    · rw [if_neg (by simp [hm])]
      have n6 : Nm 6 (cutS x none (some 6)) := nx.take (k := 6) (by decide)
      refine z_forR (ns.length + 1) (fun Q q => ?_) (by omega) (fun i σ' H' => ∃ c, σ' = [some (.str x), some (.ref p), c] ∧ H' = H ∧ ∀ k < i, cutS x none (some 6) ++ dg k ∈ ns) ⟨none, rfl, rfl, fun k hk => absurd hk (Nat.not_lt_zero k)⟩ (fun i σ' H' hi hI => ?_) (fun σ' H' hI => ?_)
      · simp only [tSeq, tNext, tDrop, tRet, tRetN, tIfS, tAsg, gName, tAug, ipI, tVar, tC, tOp, tUn, rI, rI0, rU, tCons, tNil, tCB, tTup, tLst, tTest, tB, tAnd, tOr, tNot, tAndV, tOrV, tNotV, tIf, tCl, tCd, tCk, gSub, rPutL, rAtQ, rIntI, rLenQ, rLenS, rListQ, rTupL, rTupQ, rIsQ_c, kd_non, kd_bl, kd_int, kd_str, kd_ref, kdO_lst, kdO_tup, kit_NoneType_bool, kit_NoneType_int, kit_NoneType_str, kit_NoneType_list, kit_NoneType_tuple, kit_bool_bool, kit_bool_int, kit_bool_str, kit_bool_list, kit_bool_tuple, kit_int_bool, kit_int_int, kit_int_str, kit_int_list, kit_int_tuple, kit_str_bool, kit_str_int, kit_str_str, kit_str_list, kit_str_tuple, kit_list_bool, kit_list_int, kit_list_str, kit_list_list, kit_list_tuple, kit_tuple_bool, kit_tuple_int, kit_tuple_str, kit_tuple_list, kit_tuple_tuple, V.ty.injEq, rSortQ, rSlQ, rMulS, tJn, rAtX, rSlS, tSl, tPart, tNoPart, cut_lo2, cut_hi2, rInQ, gLq, gTq, gC_c, gNil, tChain, List.cons_append, List.nil_append, tBL, tBL0, tBad, tCr, tCe, tXF, cxH_K, HO.xd.injEq, rApp, rPopN, rRevL, seqAt_lst, seqAt_tup, at_0, at_1, at_2, at_3, at_4, ix_0, ix_1, ix_2, ix_3, ix_4, cx_K, upd_same, List.length_cons, List.length_nil, Nat.reduceAdd,  rEq, rNe, tRevL, V.int.injEq, V.bl.injEq, V.str.injEq, V.ref.injEq, List.cons.injEq, and_true, true_and, exists_and_left, exists_and_right, exists_eq_left, exists_eq_left', exists_eq_right, exists_eq_right', exists_const, Option.some.injEq, List.getElem?_cons_zero, List.getElem?_cons_succ, List.set_cons_zero, List.set_cons_succ, decide_eq_true_eq, decide_true, decide_false,  scal_ii, scal_bb, scal_ss, cmul_r, cdiv_l, cpow_12, cpow_18, cpow_40, HO.lst.injEq, HO.tup.injEq, upd_upd, Int.reduceToNat,  decide_not, Bool.not_eq_true', decide_eq_false_iff_not, if_true, if_false, Bool.false_eq_true, Bool.true_eq_false, reduceCtorEq, Int.reduceNeg, Nat.reduceLT, Int.reduceLT, Int.reducePow, gt_iff_lt]
        refine ⟨_, by rw [hp] <;> rfl, ?_⟩
        rw [List.length_map]
        exact q
      · obtain ⟨c, rfl, rfl, hk⟩ := hI
        have dgi := dg_ok (k := i) (by omega)
        have nn := n6.cat dgi.2 dgi.1
        simp only [tSeq, tNext, tDrop, tRet, tRetN, tIfS, tAsg, gName, tAug, ipI, tVar, tC, tOp, tUn, rI, rI0, rU, tCons, tNil, tCB, tTup, tLst, tTest, tB, tAnd, tOr, tNot, tAndV, tOrV, tNotV, tIf, tCl, tCd, tCk, gSub, rPutL, rAtQ, rIntI, rLenQ, rLenS, rListQ, rTupL, rTupQ, rIsQ_c, kd_non, kd_bl, kd_int, kd_str, kd_ref, kdO_lst, kdO_tup, kit_NoneType_bool, kit_NoneType_int, kit_NoneType_str, kit_NoneType_list, kit_NoneType_tuple, kit_bool_bool, kit_bool_int, kit_bool_str, kit_bool_list, kit_bool_tuple, kit_int_bool, kit_int_int, kit_int_str, kit_int_list, kit_int_tuple, kit_str_bool, kit_str_int, kit_str_str, kit_str_list, kit_str_tuple, kit_list_bool, kit_list_int, kit_list_str, kit_list_list, kit_list_tuple, kit_tuple_bool, kit_tuple_int, kit_tuple_str, kit_tuple_list, kit_tuple_tuple, V.ty.injEq, rSortQ, rSlQ, rMulS, tJn, rAtX, rSlS, tSl, tPart, tNoPart, cut_lo2, cut_hi2, rInQ, gLq, gTq, gC_c, gNil, tChain, List.cons_append, List.nil_append, tBL, tBL0, tBad, tCr, tCe, tXF, cxH_K, HO.xd.injEq, rApp, rPopN, rRevL, seqAt_lst, seqAt_tup, at_0, at_1, at_2, at_3, at_4, ix_0, ix_1, ix_2, ix_3, ix_4, cx_K, upd_same, List.length_cons, List.length_nil, Nat.reduceAdd,  rEq, rNe, tRevL, V.int.injEq, V.bl.injEq, V.str.injEq, V.ref.injEq, List.cons.injEq, and_true, true_and, exists_and_left, exists_and_right, exists_eq_left, exists_eq_left', exists_eq_right, exists_eq_right', exists_const, Option.some.injEq, List.getElem?_cons_zero, List.getElem?_cons_succ, List.set_cons_zero, List.set_cons_succ, decide_eq_true_eq, decide_true, decide_false,  scal_ii, scal_bb, scal_ss, cmul_r, cdiv_l, cpow_12, cpow_18, cpow_40, HO.lst.injEq, HO.tup.injEq, upd_upd, Int.reduceToNat,  decide_not, Bool.not_eq_true', decide_eq_false_iff_not, if_true, if_false, Bool.false_eq_true, Bool.true_eq_false, reduceCtorEq, Int.reduceNeg, Nat.reduceLT, Int.reduceLT, Int.reducePow, gt_iff_lt, rStrI]
        rw [show (Str.ofString (toString (i : Int))) = dg i from rfl]
        have hx : x.length ≤ sizeLine := nx.tx.line (by decide)
        have hc : (cutS x none (some 6)).length + (dg i).length ≤ sizeLine := by
          rw [← str_cat_len]
          exact nn.tx.line (by decide)
        refine ⟨hx, by omega, by omega, hc, _, by rw [hp] <;> rfl, rfl, fl, ?_⟩
        rw [inV_strs]
        by_cases hz : cutS x none (some 6) ++ dg i ∈ ns
        · rw [if_neg (by simp [hz])]
          refine ⟨⟨_, rfl⟩, fun k hk' => ?_⟩
          rcases Nat.lt_succ_iff_lt_or_eq.mp hk' with h | h
          · exact hk k h
          · rw [h]; exact hz
        · rw [if_pos (by simp [hz])]
          exact ⟨hx, by omega, by omega, hc, q _ nn hz⟩
      · obtain ⟨c, rfl, rfl, hk⟩ := hI
        have := some_free (n := ns.length + 1) (by omega) hk
        omega
    · rw [if_pos (by simp [hm])]
      exact q x nx hm
end
end Z
set_option Elab.async false
set_option linter.all false
set_option maxRecDepth 100000
set_option maxHeartbeats 4000000
namespace Z
open PySem PySem.Spec PyProof.Rows L2 L2H
section
variable {P : Program} {w : World} {K : PySem.W.Frag} {mg : Str → Option Value} {base : Heap}
abbrev s_law_lots : Stmt := topS 65
abbrev N_law_lots : List Str := ["store", "many", "body", "style", "made", "k", "word"]
theorem sc_law_lots : FnScope N_law_lots ["store", "many"] (defScope s_law_lots) := ⟨rfl, rfl, rfl, by decide +kernel, rfl, by decide +kernel, by decide +kernel⟩
theorem b_law_lots : BindO "_law_lots" s_law_lots ["store", "many"] := fun _ _ _ _ _ _ us hl => match us, hl with | [_, _], _ => rfl

def sp_lots : Sp := fun vs H Q _ => ∃ (S : Sto) (m : Nat), vs = [.ref S.a, .int (m : Int)] ∧ Store S H ∧ 1 ≤ m ∧ m ≤ 10 ∧ ∀ (p : Addr) (ns : List Str) (H' : Hp), Drew S H H' → H p = none → H' p = some (.lst (ns.map V.str)) → Nms ns → Q (.ref p) H'
theorem ok_lots (D : Dn K mg "_law_lots" s_law_lots) (B : Blt mg) (c_law_take : Cl P w K mg base 2 "_law_take" sp_take) (c_law_name : Cl P w K mg base 4 "_law_name" (sp_nm 8)) (c_law_unlike : Cl P w K mg base 1 "_law_unlike" sp_unlike) : Cl P w K mg base 5 "_law_lots" sp_lots := by
  refine cl_of D sc_law_lots b_law_lots (fun vs H Q E h => ?_) (fun f cdv A outer s H vs Q E hr h => ?_)
  · obtain ⟨S, m, rfl, _⟩ := h
    rfl
  · obtain ⟨S, m, rfl, st, m1, m2, q⟩ := h
    refine ⟨_, (pss_cons (ps_set (i := 2) sc_law_lots.nd rfl (.inl rfl) (pe_slice sl_str (pe_cl c_law_name hr (by omega) rfl (pa_cons (pv 0) pa_nil)) po_none (po_some pe_int)))
      (pss_cons (ps_set (i := 3) sc_law_lots.nd rfl (.inl rfl) (pe_cl c_law_take hr (by omega) rfl (pa_cons (pv 0) (pa_cons pe_int pa_nil))))
      (pss_cons (ps_set (i := 4) sc_law_lots.nd rfl (.inl rfl) (pe_lst pa_nil))
      (pss_cons (ps_for PassesOwn.never rfl (pi_range1 (by rfl) B.range (pa_cons (pv 1) pa_nil)) (pg_name (i := 5) sc_law_lots.nd rfl (.inl rfl)) (pss_cons (ps_set (i := 6) sc_law_lots.nd rfl (.inl rfl) (pe_cl c_law_name hr (by omega) rfl (pa_cons (pv 0) pa_nil)))
      (pss_cons (ps_if (pt_cmpR op_eq (pv 3) pe_int (nomark _)) (pss_one (ps_set (i := 6) sc_law_lots.nd rfl (.inl rfl) (pe_slice sl_str (pv 6) po_none (po_some pe_int)))) (pss_one (ps_if (pt_cmpR op_eq (pv 3) pe_int (nomark _)) (pss_one (ps_set (i := 6) sc_law_lots.nd rfl (.inl rfl) (pe_op op_add_str (pv 2) (pe_ix at_str (pv 6) (pe_un un_neg pe_int) (fun _ _ => rfl))))) (pss_one (ps_if (pt_cmpR op_eq (pv 3) pe_int (nomark _)) (pss_one (ps_set (i := 6) sc_law_lots.nd rfl (.inl rfl) (pe_slice sl_str (pe_op op_add_str (pv 2) pe_str) po_none (po_some (pe_op op_add pe_int (pe_cl c_law_take hr (by omega) rfl (pa_cons (pv 0) (pa_cons pe_int pa_nil)))))))) pss_nil)))))
      (pss_one (ps_expr (pe_ml PySem.F.slot_list_append PySem.F.type_list_append mt_app (pv 4) (pa_cons (pe_cl c_law_unlike hr (by omega) rfl (pa_cons (pv 6) (pa_cons (pv 4) pa_nil))) pa_nil)))))))
      (pss_one (ps_ret (pv 4))))))), ?_⟩
    rw [show L2.start N_law_lots [.ref S.a, .int (m : Int)] = [some (.ref S.a), some (.int (m : Int)), none, none, none, none, none] from rfl]
    simp only [tSeq, tNext, tDrop, tRet, tRetN, tIfS, tAsg, gName, tAug, ipI, tVar, tC, tOp, tUn, rI, rI0, rU, tCons, tNil, tCB, tTup, tLst, tTest, tB, tAnd, tOr, tNot, tAndV, tOrV, tNotV, tIf, tCl, tCd, tCk, gSub, rPutL, rAtQ, rIntI, rLenQ, rLenS, rListQ, rTupL, rTupQ, rIsQ_c, kd_non, kd_bl, kd_int, kd_str, kd_ref, kdO_lst, kdO_tup, kit_NoneType_bool, kit_NoneType_int, kit_NoneType_str, kit_NoneType_list, kit_NoneType_tuple, kit_bool_bool, kit_bool_int, kit_bool_str, kit_bool_list, kit_bool_tuple, kit_int_bool, kit_int_int, kit_int_str, kit_int_list, kit_int_tuple, kit_str_bool, kit_str_int, kit_str_str, kit_str_list, kit_str_tuple, kit_list_bool, kit_list_int, kit_list_str, kit_list_list, kit_list_tuple, kit_tuple_bool, kit_tuple_int, kit_tuple_str, kit_tuple_list, kit_tuple_tuple, V.ty.injEq, rSortQ, rSlQ, rMulS, tJn, rAtX, rSlS, tSl, tPart, tNoPart, cut_lo2, cut_hi2, rInQ, gLq, gTq, gC_c, gNil, tChain, List.cons_append, List.nil_append, tBL, tBL0, tBad, tCr, tCe, tXF, cxH_K, HO.xd.injEq, rApp, rPopN, rRevL, seqAt_lst, seqAt_tup, at_0, at_1, at_2, at_3, at_4, ix_0, ix_1, ix_2, ix_3, ix_4, cx_K, upd_same, List.length_cons, List.length_nil, Nat.reduceAdd,  rEq, rNe, tRevL, V.int.injEq, V.bl.injEq, V.str.injEq, V.ref.injEq, List.cons.injEq, and_true, true_and, exists_and_left, exists_and_right, exists_eq_left, exists_eq_left', exists_eq_right, exists_eq_right', exists_const, Option.some.injEq, List.getElem?_cons_zero, List.getElem?_cons_succ, List.set_cons_zero, List.set_cons_succ, decide_eq_true_eq, decide_true, decide_false,  scal_ii, scal_bb, scal_ss, cmul_r, cdiv_l, cpow_12, cpow_18, cpow_40, HO.lst.injEq, HO.tup.injEq, upd_upd, Int.reduceToNat,  decide_not, Bool.not_eq_true', decide_eq_false_iff_not, if_true, if_false, Bool.false_eq_true, Bool.true_eq_false, reduceCtorEq, Int.reduceNeg, Nat.reduceLT, Int.reduceLT, Int.reducePow, gt_iff_lt]
    refine ⟨S, rfl, st, fun b H1 r1 nb => ⟨b, rfl, nb.tx.line (by decide), S, 4, rfl, r1.st, by decide, fun y H2 r2 gy => ⟨sz_of (by decide), fun p hp => ?_⟩⟩⟩
    have n6 : Nm 6 (cutS b none (some 6)) := nb.take (k := 6) (by decide)
    generalize cutS b none (some 6) = body at n6 ⊢
    have r12 := (r1.trans r2)
    have pH : H p = none := r12.back hp
    have npa : p ≠ S.a := st.neA pH
    refine z_forR m (fun Q q => ?_) (by omega) (fun i σ' H' => ∃ c d ns, σ' = [some (.ref S.a), some (.int (m : Int)), some (.str body), some (.int y), some (.ref p), c, d] ∧ Drew S H H' ∧ H' p = some (.lst (ns.map V.str)) ∧ ns.length = i ∧ ns.Nodup ∧ ∀ z ∈ ns, Nm 8 z) ⟨none, none, [], rfl, r12.new hp, upd_same, rfl, List.nodup_nil, fun z hz => by cases hz⟩ (fun i σ' H' hi hI => ?_) (fun σ' H' hI => ?_)
    · simp only [tSeq, tNext, tDrop, tRet, tRetN, tIfS, tAsg, gName, tAug, ipI, tVar, tC, tOp, tUn, rI, rI0, rU, tCons, tNil, tCB, tTup, tLst, tTest, tB, tAnd, tOr, tNot, tAndV, tOrV, tNotV, tIf, tCl, tCd, tCk, gSub, rPutL, rAtQ, rIntI, rLenQ, rLenS, rListQ, rTupL, rTupQ, rIsQ_c, kd_non, kd_bl, kd_int, kd_str, kd_ref, kdO_lst, kdO_tup, kit_NoneType_bool, kit_NoneType_int, kit_NoneType_str, kit_NoneType_list, kit_NoneType_tuple, kit_bool_bool, kit_bool_int, kit_bool_str, kit_bool_list, kit_bool_tuple, kit_int_bool, kit_int_int, kit_int_str, kit_int_list, kit_int_tuple, kit_str_bool, kit_str_int, kit_str_str, kit_str_list, kit_str_tuple, kit_list_bool, kit_list_int, kit_list_str, kit_list_list, kit_list_tuple, kit_tuple_bool, kit_tuple_int, kit_tuple_str, kit_tuple_list, kit_tuple_tuple, V.ty.injEq, rSortQ, rSlQ, rMulS, tJn, rAtX, rSlS, tSl, tPart, tNoPart, cut_lo2, cut_hi2, rInQ, gLq, gTq, gC_c, gNil, tChain, List.cons_append, List.nil_append, tBL, tBL0, tBad, tCr, tCe, tXF, cxH_K, HO.xd.injEq, rApp, rPopN, rRevL, seqAt_lst, seqAt_tup, at_0, at_1, at_2, at_3, at_4, ix_0, ix_1, ix_2, ix_3, ix_4, cx_K, upd_same, List.length_cons, List.length_nil, Nat.reduceAdd,  rEq, rNe, tRevL, V.int.injEq, V.bl.injEq, V.str.injEq, V.ref.injEq, List.cons.injEq, and_true, true_and, exists_and_left, exists_and_right, exists_eq_left, exists_eq_left', exists_eq_right, exists_eq_right', exists_const, Option.some.injEq, List.getElem?_cons_zero, List.getElem?_cons_succ, List.set_cons_zero, List.set_cons_succ, decide_eq_true_eq, decide_true, decide_false,  scal_ii, scal_bb, scal_ss, cmul_r, cdiv_l, cpow_12, cpow_18, cpow_40, HO.lst.injEq, HO.tup.injEq, upd_upd, Int.reduceToNat,  decide_not, Bool.not_eq_true', decide_eq_false_iff_not, if_true, if_false, Bool.false_eq_true, Bool.true_eq_false, reduceCtorEq, Int.reduceNeg, Nat.reduceLT, Int.reduceLT, Int.reducePow, gt_iff_lt]
      exact q
    · obtain ⟨c, d, ns, rfl, r3, hp3, ln, nd, hn⟩ := hI
      have fin : ∀ (x' : Str) (H5 : Hp), Nm 8 x' → Drew S H H5 → H5 p = some (.lst (ns.map V.str)) → (∃ xs, H5 p = some (HO.lst xs)) ∧ sp_unlike [.str x', .ref p] H5 (fun x H1 => ∃ xs, H1 p = some (.lst xs) ∧ xs.length < sizeLine ∧ ((∃ x, some (V.int (i : Int)) = x) ∧ ∃ z, some (V.str x') = z) ∧ Drew S H (upd H1 p (.lst (xs ++ [x]))) ∧ ∃ x_1, xs ++ [x] = List.map V.str x_1 ∧ x_1.length = i + 1 ∧ x_1.Nodup ∧ ∀ z ∈ x_1, Nm 8 z) E0 := fun x' H5 nx r5 h5 =>
        ⟨⟨_, h5⟩, x', p, ns, rfl, h5, by omega, nx, fun y ny hy => ⟨_, h5, by rw [List.length_map]; exact sz_lt (by omega), ⟨⟨_, rfl⟩, _, rfl⟩, r5.at st pH, ns ++ [y], by rw [List.map_append] <;> rfl, by rw [List.length_append, ln] <;> rfl,
          List.nodup_append.mpr ⟨nd, List.nodup_cons.mpr ⟨by simp, List.nodup_nil⟩, fun a ha b hb e => hy (by rw [← (by simpa using hb : b = y), ← e]; exact ha)⟩, fun z hz => (List.mem_append.mp hz).elim (hn z) fun h => by rw [show z = y by simpa using h]; exact ny⟩⟩
      simp only [tSeq, tNext, tDrop, tRet, tRetN, tIfS, tAsg, gName, tAug, ipI, tVar, tC, tOp, tUn, rI, rI0, rU, tCons, tNil, tCB, tTup, tLst, tTest, tB, tAnd, tOr, tNot, tAndV, tOrV, tNotV, tIf, tCl, tCd, tCk, gSub, rPutL, rAtQ, rIntI, rLenQ, rLenS, rListQ, rTupL, rTupQ, rIsQ_c, kd_non, kd_bl, kd_int, kd_str, kd_ref, kdO_lst, kdO_tup, kit_NoneType_bool, kit_NoneType_int, kit_NoneType_str, kit_NoneType_list, kit_NoneType_tuple, kit_bool_bool, kit_bool_int, kit_bool_str, kit_bool_list, kit_bool_tuple, kit_int_bool, kit_int_int, kit_int_str, kit_int_list, kit_int_tuple, kit_str_bool, kit_str_int, kit_str_str, kit_str_list, kit_str_tuple, kit_list_bool, kit_list_int, kit_list_str, kit_list_list, kit_list_tuple, kit_tuple_bool, kit_tuple_int, kit_tuple_str, kit_tuple_list, kit_tuple_tuple, V.ty.injEq, rSortQ, rSlQ, rMulS, tJn, rAtX, rSlS, tSl, tPart, tNoPart, cut_lo2, cut_hi2, rInQ, gLq, gTq, gC_c, gNil, tChain, List.cons_append, List.nil_append, tBL, tBL0, tBad, tCr, tCe, tXF, cxH_K, HO.xd.injEq, rApp, rPopN, rRevL, seqAt_lst, seqAt_tup, at_0, at_1, at_2, at_3, at_4, ix_0, ix_1, ix_2, ix_3, ix_4, cx_K, upd_same, List.length_cons, List.length_nil, Nat.reduceAdd,  rEq, rNe, tRevL, V.int.injEq, V.bl.injEq, V.str.injEq, V.ref.injEq, List.cons.injEq, and_true, true_and, exists_and_left, exists_and_right, exists_eq_left, exists_eq_left', exists_eq_right, exists_eq_right', exists_const, Option.some.injEq, List.getElem?_cons_zero, List.getElem?_cons_succ, List.set_cons_zero, List.set_cons_succ, decide_eq_true_eq, decide_true, decide_false,  scal_ii, scal_bb, scal_ss, cmul_r, cdiv_l, cpow_12, cpow_18, cpow_40, HO.lst.injEq, HO.tup.injEq, upd_upd, Int.reduceToNat,  decide_not, Bool.not_eq_true', decide_eq_false_iff_not, if_true, if_false, Bool.false_eq_true, Bool.true_eq_false, reduceCtorEq, Int.reduceNeg, Nat.reduceLT, Int.reduceLT, Int.reducePow, gt_iff_lt]
      refine ⟨S, rfl, r3.st, fun x H4 r4 nx => ?_⟩
      have r34 := r3.trans r4
      have hp4 : H4 p = some (.lst (ns.map V.str)) := r4.but p _ npa hp3
      dsimp only
      split
      · exact ⟨x, rfl, nx.tx.line (by decide), fin _ H4 ((nx.take (k := 1) (by decide)).mono (by decide)) r34 hp4⟩
      · split
        · obtain ⟨k, hk, ek⟩ : ∃ c ∈ x.cps.toList, atI x.cps.toList (-1) = some c := by
            have := nx.pos
            rw [str_len] at this
            obtain ⟨l, c, e⟩ : ∃ l c, x.cps.toList = l ++ [c] := ⟨_, _, (List.dropLast_concat_getLast (fun e => by rw [e] at this; exact absurd this (by decide))).symm⟩
            exact ⟨c, by rw [e]; simp, by rw [e]; exact atI_last l c⟩
          have nn := n6.cat (y := ⟨#[k]⟩) (m := 1) (fun d hd => by
            rw [show d = k by simpa using hd]
            exact nx.all k hk) (Nat.le_refl 1)
          exact ⟨x, rfl, nx.tx.line (by decide), k, ek, by rw [← str_cat_len]; exact nn.tx.line (by decide), fin _ H4 (nn.mono (by decide)) r34 hp4⟩
        · split
          · have nn := n6.cat (y := Str.ofString "z9q0x1w2") (m := 8) (by decide +kernel) (by decide +kernel)
            refine ⟨by rw [← str_cat_len]; exact nn.tx.line (by decide), S, 8, rfl, r34.st, by decide, fun e H5 r5 ge => ⟨e, rfl, nn.tx.line (by decide), ?_⟩⟩
            obtain ⟨n, rfl⟩ : ∃ n : Nat, e = (n : Int) := ⟨e.toNat, by have := ge.1; omega⟩
            rw [show (1 : Int) + (n : Int) = ((n + 1 : Nat) : Int) by omega]
            exact fin _ H5 ((nn.take (Nat.succ_pos n)).mono (by have := ge.2; omega)) (r34.trans r5) (r5.but p _ npa hp4)
          · exact fin _ H4 nx r34 hp4
    · obtain ⟨c, d, ns, rfl, r3, hp3, ln, nd, hn⟩ := hI
      simp only [tSeq, tNext, tDrop, tRet, tRetN, tIfS, tAsg, gName, tAug, ipI, tVar, tC, tOp, tUn, rI, rI0, rU, tCons, tNil, tCB, tTup, tLst, tTest, tB, tAnd, tOr, tNot, tAndV, tOrV, tNotV, tIf, tCl, tCd, tCk, gSub, rPutL, rAtQ, rIntI, rLenQ, rLenS, rListQ, rTupL, rTupQ, rIsQ_c, kd_non, kd_bl, kd_int, kd_str, kd_ref, kdO_lst, kdO_tup, kit_NoneType_bool, kit_NoneType_int, kit_NoneType_str, kit_NoneType_list, kit_NoneType_tuple, kit_bool_bool, kit_bool_int, kit_bool_str, kit_bool_list, kit_bool_tuple, kit_int_bool, kit_int_int, kit_int_str, kit_int_list, kit_int_tuple, kit_str_bool, kit_str_int, kit_str_str, kit_str_list, kit_str_tuple, kit_list_bool, kit_list_int, kit_list_str, kit_list_list, kit_list_tuple, kit_tuple_bool, kit_tuple_int, kit_tuple_str, kit_tuple_list, kit_tuple_tuple, V.ty.injEq, rSortQ, rSlQ, rMulS, tJn, rAtX, rSlS, tSl, tPart, tNoPart, cut_lo2, cut_hi2, rInQ, gLq, gTq, gC_c, gNil, tChain, List.cons_append, List.nil_append, tBL, tBL0, tBad, tCr, tCe, tXF, cxH_K, HO.xd.injEq, rApp, rPopN, rRevL, seqAt_lst, seqAt_tup, at_0, at_1, at_2, at_3, at_4, ix_0, ix_1, ix_2, ix_3, ix_4, cx_K, upd_same, List.length_cons, List.length_nil, Nat.reduceAdd,  rEq, rNe, tRevL, V.int.injEq, V.bl.injEq, V.str.injEq, V.ref.injEq, List.cons.injEq, and_true, true_and, exists_and_left, exists_and_right, exists_eq_left, exists_eq_left', exists_eq_right, exists_eq_right', exists_const, Option.some.injEq, List.getElem?_cons_zero, List.getElem?_cons_succ, List.set_cons_zero, List.set_cons_succ, decide_eq_true_eq, decide_true, decide_false,  scal_ii, scal_bb, scal_ss, cmul_r, cdiv_l, cpow_12, cpow_18, cpow_40, HO.lst.injEq, HO.tup.injEq, upd_upd, Int.reduceToNat,  decide_not, Bool.not_eq_true', decide_eq_false_iff_not, if_true, if_false, Bool.false_eq_true, Bool.true_eq_false, reduceCtorEq, Int.reduceNeg, Nat.reduceLT, Int.reduceLT, Int.reducePow, gt_iff_lt]
      exact q p ns H' r3 pH hp3 ⟨fun z hz => (hn z hz).good, nd, by omega, by omega, fun z hz => (hn z hz).tx.mono (by decide)⟩
end
end Z
set_option Elab.async false
set_option linter.all false
set_option maxRecDepth 100000
set_option maxHeartbeats 4000000
namespace Z
open PySem PySem.Spec PyProof.Rows L2 L2H
section
variable {P : Program} {w : World} {K : PySem.W.Frag} {mg : Str → Option Value} {base : Heap}
/-- two unlike names -/
def Two (ns : List Str) (q : Str × Str) : Prop := q.1 ∈ ns ∧ q.2 ∈ ns ∧ q.1 ≠ q.2
theorem two_of {ns : List Str} (nd : ns.Nodup) {q : Str × Str} (h : q ∈ nmP ns) : Two ns q := by
  refine ⟨(nmP_mem h).1, (nmP_mem h).2, ?_⟩
  rw [nmP] at h
  obtain ⟨ij, hm, rfl⟩ := List.mem_map.mp h
  obtain ⟨l1, l2⟩ := ix2_lt hm
  have z := List.pairwise_iff_getElem.mp nd ij.1 ij.2 (by omega) l2 l1
  simpa [List.getD, List.getElem?_eq_getElem (show ij.1 < ns.length by omega), List.getElem?_eq_getElem l2] using z
abbrev s_law_few_pairs : Stmt := topS 66
abbrev N_law_few_pairs : List Str := ["store", "lot_names", "many", "way", "one_pair"]
theorem sc_law_few_pairs : FnScope N_law_few_pairs ["store", "lot_names"] (defScope s_law_few_pairs) := ⟨rfl, rfl, rfl, by decide +kernel, rfl, by decide +kernel, by decide +kernel⟩
theorem b_law_few_pairs : BindO "_law_few_pairs" s_law_few_pairs ["store", "lot_names"] := fun _ _ _ _ _ _ us hl => match us, hl with | [_, _], _ => rfl

def sp_few : Sp := fun vs H Q _ => ∃ (S : Sto) (p : Addr) (ns : List Str), vs = [.ref S.a, .ref p] ∧ Store S H ∧ H p = some (.lst (ns.map V.str)) ∧ p ≠ S.a ∧ ns.length ≤ 10 ∧ ns.Nodup ∧
  ∀ (r : Addr) (ts : List Addr) (qs : List (Str × Str)) (H' : Hp), Drew S H H' → H r = none → H' r = some (.lst (ts.map V.ref)) → ts.length ≤ 1000 → Paired (fun (a : Addr) (q : Str × Str) => H a = none ∧ H' a = some (.tup (pairV q))) ts qs → (∀ q ∈ qs, Two ns q) → Q (.ref r) H'
theorem ok_few (D : Dn K mg "_law_few_pairs" s_law_few_pairs) (B : Blt mg) (c_law_take : Cl P w K mg base 2 "_law_take" sp_take) (c_law_all_pairs : Cl P w K mg base 1 "_law_all_pairs" sp_all_pairs) : Cl P w K mg base 5 "_law_few_pairs" sp_few := by
  refine cl_of D sc_law_few_pairs b_law_few_pairs (fun vs H Q E h => ?_) (fun f cdv A outer s H vs Q E hr h => ?_)
  · obtain ⟨S, p, ns, rfl, _⟩ := h
    rfl
  · obtain ⟨S, p, ns, rfl, st, hp, npa, hn, nd, q⟩ := h
    refine ⟨_, (pss_cons (ps_set (i := 2) sc_law_few_pairs.nd rfl (.inr rfl) (pe_op op_add pe_int (pe_cl c_law_take hr (by omega) rfl (pa_cons (pv 0) (pa_cons pe_int pa_nil)))))
      (pss_cons (ps_set (i := 3) sc_law_few_pairs.nd rfl (.inr rfl) (pe_op op_sub pe_int (pe_op op_mul pe_int (pe_cl c_law_take hr (by omega) rfl (pa_cons (pv 0) (pa_cons pe_int pa_nil))))))
      (pss_one (ps_ret (pe_lc (own := [("one_pair", 4)]) (g := gName 4) rfl sc_law_few_pairs.nd (pi_list (pe_cl c_law_all_pairs hr (by omega) rfl (pa_cons (pv 1) pa_nil))) (blkOk_by (N := N_law_few_pairs) (sc := defScope s_law_few_pairs) (own := [("one_pair", 4)]) (by decide +kernel)) (fun _ _ _ _ _ => (pg_name (i := 4) sc_law_few_pairs.nd rfl (Or.inl rfl))) (fun _ _ _ _ _ => (pts_one (pt_cmpR op_eq (pe_cl c_law_take hr (by omega) rfl (pa_cons (pv 0) (pa_cons (pv 2) pa_nil))) pe_int (nomark _)))) (fun _ _ _ _ _ => (pe_stT (pv 4) (pv 3)))))))), ?_⟩
    rw [show L2.start N_law_few_pairs [.ref S.a, .ref p] = [some (.ref S.a), some (.ref p), none, none, none] from rfl]
    simp only [tSeq, tNext, tDrop, tRet, tRetN, tIfS, tAsg, gName, tAug, ipI, tVar, tC, tOp, tUn, rI, rI0, rU, tCons, tNil, tCB, tTup, tLst, tTest, tB, tAnd, tOr, tNot, tAndV, tOrV, tNotV, tIf, tCl, tCd, tCk, gSub, rPutL, rAtQ, rIntI, rLenQ, rLenS, rListQ, rTupL, rTupQ, rIsQ_c, kd_non, kd_bl, kd_int, kd_str, kd_ref, kdO_lst, kdO_tup, kit_NoneType_bool, kit_NoneType_int, kit_NoneType_str, kit_NoneType_list, kit_NoneType_tuple, kit_bool_bool, kit_bool_int, kit_bool_str, kit_bool_list, kit_bool_tuple, kit_int_bool, kit_int_int, kit_int_str, kit_int_list, kit_int_tuple, kit_str_bool, kit_str_int, kit_str_str, kit_str_list, kit_str_tuple, kit_list_bool, kit_list_int, kit_list_str, kit_list_list, kit_list_tuple, kit_tuple_bool, kit_tuple_int, kit_tuple_str, kit_tuple_list, kit_tuple_tuple, V.ty.injEq, rSortQ, rSlQ, rMulS, tJn, rAtX, rSlS, tSl, tPart, tNoPart, cut_lo2, cut_hi2, rInQ, gLq, gTq, gC_c, gNil, tChain, List.cons_append, List.nil_append, tBL, tBL0, tBad, tCr, tCe, tXF, cxH_K, HO.xd.injEq, rApp, rPopN, rRevL, seqAt_lst, seqAt_tup, at_0, at_1, at_2, at_3, at_4, ix_0, ix_1, ix_2, ix_3, ix_4, cx_K, upd_same, List.length_cons, List.length_nil, Nat.reduceAdd,  rEq, rNe, tRevL, V.int.injEq, V.bl.injEq, V.str.injEq, V.ref.injEq, List.cons.injEq, and_true, true_and, exists_and_left, exists_and_right, exists_eq_left, exists_eq_left', exists_eq_right, exists_eq_right', exists_const, Option.some.injEq, List.getElem?_cons_zero, List.getElem?_cons_succ, List.set_cons_zero, List.set_cons_succ, decide_eq_true_eq, decide_true, decide_false,  scal_ii, scal_bb, scal_ss, cmul_r, cdiv_l, cpow_12, cpow_18, cpow_40, HO.lst.injEq, HO.tup.injEq, upd_upd, Int.reduceToNat,  decide_not, Bool.not_eq_true', decide_eq_false_iff_not, if_true, if_false, Bool.false_eq_true, Bool.true_eq_false, reduceCtorEq, Int.reduceNeg, Nat.reduceLT, Int.reduceLT, Int.reducePow, gt_iff_lt]
    refine ⟨S, 6, rfl, st, by decide, fun d H1 r1 g1 => ⟨d, rfl, S, 2, rfl, r1.st, by decide, fun e H2 r2 g2 => ⟨e, rfl, .inr ⟨by have := g2.1; omega, by have := g2.2; omega⟩, ?_⟩⟩⟩
    refine lcE_list ?_
    simp only [tSeq, tNext, tDrop, tRet, tRetN, tIfS, tAsg, gName, tAug, ipI, tVar, tC, tOp, tUn, rI, rI0, rU, tCons, tNil, tCB, tTup, tLst, tTest, tB, tAnd, tOr, tNot, tAndV, tOrV, tNotV, tIf, tCl, tCd, tCk, gSub, rPutL, rAtQ, rIntI, rLenQ, rLenS, rListQ, rTupL, rTupQ, rIsQ_c, kd_non, kd_bl, kd_int, kd_str, kd_ref, kdO_lst, kdO_tup, kit_NoneType_bool, kit_NoneType_int, kit_NoneType_str, kit_NoneType_list, kit_NoneType_tuple, kit_bool_bool, kit_bool_int, kit_bool_str, kit_bool_list, kit_bool_tuple, kit_int_bool, kit_int_int, kit_int_str, kit_int_list, kit_int_tuple, kit_str_bool, kit_str_int, kit_str_str, kit_str_list, kit_str_tuple, kit_list_bool, kit_list_int, kit_list_str, kit_list_list, kit_list_tuple, kit_tuple_bool, kit_tuple_int, kit_tuple_str, kit_tuple_list, kit_tuple_tuple, V.ty.injEq, rSortQ, rSlQ, rMulS, tJn, rAtX, rSlS, tSl, tPart, tNoPart, cut_lo2, cut_hi2, rInQ, gLq, gTq, gC_c, gNil, tChain, List.cons_append, List.nil_append, tBL, tBL0, tBad, tCr, tCe, tXF, cxH_K, HO.xd.injEq, rApp, rPopN, rRevL, seqAt_lst, seqAt_tup, at_0, at_1, at_2, at_3, at_4, ix_0, ix_1, ix_2, ix_3, ix_4, cx_K, upd_same, List.length_cons, List.length_nil, Nat.reduceAdd,  rEq, rNe, tRevL, V.int.injEq, V.bl.injEq, V.str.injEq, V.ref.injEq, List.cons.injEq, and_true, true_and, exists_and_left, exists_and_right, exists_eq_left, exists_eq_left', exists_eq_right, exists_eq_right', exists_const, Option.some.injEq, List.getElem?_cons_zero, List.getElem?_cons_succ, List.set_cons_zero, List.set_cons_succ, decide_eq_true_eq, decide_true, decide_false,  scal_ii, scal_bb, scal_ss, cmul_r, cdiv_l, cpow_12, cpow_18, cpow_40, HO.lst.injEq, HO.tup.injEq, upd_upd, Int.reduceToNat,  decide_not, Bool.not_eq_true', decide_eq_false_iff_not, if_true, if_false, Bool.false_eq_true, Bool.true_eq_false, reduceCtorEq, Int.reduceNeg, Nat.reduceLT, Int.reduceLT, Int.reducePow, gt_iff_lt]
    have r12 := r1.trans r2
    refine ⟨p, ns, rfl, r12.but p _ npa hp, hn, fun r3 H3 s3 g3 => ?_⟩
    obtain ⟨f3, as, h3, pr3⟩ := g3
    have pr3' := paired_mapR pr3
    have hm : ∃ m : Nat, 1 + d = (m : Int) ∧ 1 ≤ m ∧ m ≤ 6 := ⟨(1 + d).toNat, by have := g1.1; omega, by have := g1.1; omega, by have := g1.2; omega⟩
    have he : e = 0 ∨ e = 1 := by have := g2.1; have := g2.2; omega
    refine ⟨r3, rfl, ⟨_, SqL.of h3⟩, fun D hD => lcG_at (as.map V.ref) (fun i Hx => Drew S H3 Hx ∧ ∃ (sel : List Addr) (qs : List (Str × Str)), Hx D = some (.lst (sel.map V.ref)) ∧ sel.length ≤ i ∧ Paired (fun (a : Addr) (q : Str × Str) => H a = none ∧ Hx a = some (.tup (pairV q))) sel qs ∧ ∀ q ∈ qs, Two ns q) ?_ (fun i Hx h => ?_) (fun i x Hx hx hI => ?_) (fun Hx hI => ?_)⟩
    · exact ⟨(Drew.mk (But.refl H3) (r12.same s3).st).new hD, [], [], upd_same, Nat.le_refl 0, .nil, fun q hq => by cases hq⟩
    · exact SqL.of (h.1.but r3 _ (r12.st.neA f3) h3)
    · rw [List.getElem?_map] at hx
      obtain ⟨a, ea, rfl⟩ := Option.map_eq_some_iff.mp hx
      obtain ⟨q0, eq0, f0, ha⟩ := paired_get pr3' ea
      obtain ⟨r4, sel, qs, hsel, lsel, psel, tw⟩ := hI
      simp only [tSeq, tNext, tDrop, tRet, tRetN, tIfS, tAsg, gName, tAug, ipI, tVar, tC, tOp, tUn, rI, rI0, rU, tCons, tNil, tCB, tTup, tLst, tTest, tB, tAnd, tOr, tNot, tAndV, tOrV, tNotV, tIf, tCl, tCd, tCk, gSub, rPutL, rAtQ, rIntI, rLenQ, rLenS, rListQ, rTupL, rTupQ, rIsQ_c, kd_non, kd_bl, kd_int, kd_str, kd_ref, kdO_lst, kdO_tup, kit_NoneType_bool, kit_NoneType_int, kit_NoneType_str, kit_NoneType_list, kit_NoneType_tuple, kit_bool_bool, kit_bool_int, kit_bool_str, kit_bool_list, kit_bool_tuple, kit_int_bool, kit_int_int, kit_int_str, kit_int_list, kit_int_tuple, kit_str_bool, kit_str_int, kit_str_str, kit_str_list, kit_str_tuple, kit_list_bool, kit_list_int, kit_list_str, kit_list_list, kit_list_tuple, kit_tuple_bool, kit_tuple_int, kit_tuple_str, kit_tuple_list, kit_tuple_tuple, V.ty.injEq, rSortQ, rSlQ, rMulS, tJn, rAtX, rSlS, tSl, tPart, tNoPart, cut_lo2, cut_hi2, rInQ, gLq, gTq, gC_c, gNil, tChain, List.cons_append, List.nil_append, tBL, tBL0, tBad, tCr, tCe, tXF, cxH_K, HO.xd.injEq, rApp, rPopN, rRevL, seqAt_lst, seqAt_tup, at_0, at_1, at_2, at_3, at_4, ix_0, ix_1, ix_2, ix_3, ix_4, cx_K, upd_same, List.length_cons, List.length_nil, Nat.reduceAdd,  rEq, rNe, tRevL, V.int.injEq, V.bl.injEq, V.str.injEq, V.ref.injEq, List.cons.injEq, and_true, true_and, exists_and_left, exists_and_right, exists_eq_left, exists_eq_left', exists_eq_right, exists_eq_right', exists_const, Option.some.injEq, List.getElem?_cons_zero, List.getElem?_cons_succ, List.set_cons_zero, List.set_cons_succ, decide_eq_true_eq, decide_true, decide_false,  scal_ii, scal_bb, scal_ss, cmul_r, cdiv_l, cpow_12, cpow_18, cpow_40, HO.lst.injEq, HO.tup.injEq, upd_upd, Int.reduceToNat,  decide_not, Bool.not_eq_true', decide_eq_false_iff_not, if_true, if_false, Bool.false_eq_true, Bool.true_eq_false, reduceCtorEq, Int.reduceNeg, Nat.reduceLT, Int.reduceLT, Int.reducePow, gt_iff_lt, wipe, List.map_cons, List.map_nil, tStT]
      have npD : D ≠ S.a := (r12.same s3).st.neA hD
      refine ⟨S, 1 + d, rfl, r4.st, by have := g1.1; omega, fun x H4 r5 gx => ⟨rfl, ?_⟩⟩
      have r45 := r4.trans r5
      have naS : a ≠ S.a := r12.st.neA f0
      have ha4 : H4 a = some (.tup (pairV q0)) := r45.but a _ naS ha
      have hs4 : H4 D = some (.lst (sel.map V.ref)) := r5.but D _ npD hsel
      have ps4 : Paired (fun (a : Addr) (q : Str × Str) => H a = none ∧ H4 a = some (.tup (pairV q))) sel qs := paired_imp (fun b q h => ⟨h.1, r5.but b _ (st.neA h.1) h.2⟩) psel
      have hlt : (nmP ns).length ≤ 100 := by
        have z := ix2_len ns.length
        have z2 : ns.length * ns.length ≤ 10 * 10 := Nat.mul_le_mul hn hn
        rw [nmP, List.length_map]
        omega
      have hi : i < (nmP ns).length := (List.getElem?_eq_some_iff.mp eq0).1
      have tq : Two ns q0 := two_of nd (List.mem_of_getElem? eq0)
      have ltD : (sel.map V.ref).length < sizeLine := by rw [List.length_map]; exact sz_lt (by omega)
      split
      · refine ⟨_, _, ha4, fun _ => ⟨_, hs4, ltD, r45.at (r12.same s3).st hD, sel ++ [a], by rw [List.map_append] <;> rfl, by rw [List.length_append]; simp; omega, qs ++ [q0], ?_, ?_⟩, fun ne => ⟨by omega, fun t ht => ?_⟩⟩
        · have k := paired_imp (G := fun (b : Addr) (q : Str × Str) => H b = none ∧ upd H4 D (.lst (sel.map V.ref ++ [V.ref a])) b = some (.tup (pairV q))) (fun b q (h : H b = none ∧ H4 b = some (.tup (pairV q))) => ⟨h.1, by rw [upd_ne (fun e => by have h2 := h.2; rw [e, hs4] at h2; cases h2)]; exact h.2⟩) ps4
          exact paired_app ⟨r12.back f0, by rw [upd_ne (fun e => by rw [e, hs4] at ha4; cases ha4)]; exact ha4⟩ k
        · intro q hq
          rcases List.mem_append.mp hq with h | h
          · exact tw q h
          · rw [show q = q0 by simpa using h]; exact tq
        · have nDt : D ≠ t := ne_of_none hs4 ht
          have ht0 : H t = none := (r12.same s3).back (r45.back ht)
          refine ⟨_, by rw [upd_ne nDt]; exact hs4, ltD, (r45.new ht).at (r12.same s3).st hD, sel ++ [t], by rw [List.map_append] <;> rfl, by rw [List.length_append]; simp; omega, qs ++ [(q0.2, q0.1)], ?_, ?_⟩
          · have k := paired_imp (G := fun (b : Addr) (q : Str × Str) => H b = none ∧ upd (upd H4 t (.tup [.str q0.2, .str q0.1])) D (.lst (sel.map V.ref ++ [V.ref t])) b = some (.tup (pairV q))) (fun b q (h : H b = none ∧ H4 b = some (.tup (pairV q))) => ⟨h.1, by rw [upd_ne (fun e => by have h2 := h.2; rw [e, hs4] at h2; cases h2), upd_ne (ne_of_none h.2 ht)]; exact h.2⟩) ps4
            exact paired_app ⟨ht0, by rw [upd_ne nDt.symm, upd_same] <;> rfl⟩ k
          · intro q hq
            rcases List.mem_append.mp hq with h | h
            · exact tw q h
            · rw [show q = (q0.2, q0.1) by simpa using h]; exact ⟨tq.2.1, tq.1, fun e => tq.2.2 e.symm⟩
      · exact ⟨r45, sel, hs4, by omega, qs, ps4, tw⟩
    · obtain ⟨r4, sel, qs, hsel, lsel, psel, tw⟩ := hI
      have hlt : (nmP ns).length ≤ 100 := by
        have z := ix2_len ns.length
        have z2 : ns.length * ns.length ≤ 10 * 10 := Nat.mul_le_mul hn hn
        rw [nmP, List.length_map]
        omega
      rw [List.length_map, paired_len pr3'] at lsel
      exact q D sel qs Hx ((r12.same s3).trans r4) ((r12.same s3).back hD) hsel (by omega) psel tw
end
end Z
set_option Elab.async false
set_option linter.all false
set_option maxRecDepth 100000
set_option maxHeartbeats 4000000
namespace Z
open PySem PySem.Spec PyProof.Rows L2 L2H
section
variable {P : Program} {w : World} {K : PySem.W.Frag} {mg : Str → Option Value} {base : Heap}
theorem good_tx {x : Str} (h : good x = true) : Tx 8 x := by
  unfold good at h
  cases e : x.cps.toList with
  | nil => rw [e, goodL_nil] at h; cases h
  | cons c cs =>
    rw [e, goodL_cons, Bool.and_eq_true, Bool.and_eq_true, List.all_eq_true] at h
    have l := of_decide_eq_true h.1
    refine ⟨by rw [str_len, e, List.length_cons]; omega, fun d hd => okC_low ?_⟩
    rw [e] at hd
    exact h.2.2 d hd
abbrev s_law_foreign : Stmt := topS 67
abbrev N_law_foreign : List Str := ["store", "lot_names", "one_lot", "fresh", "word"]
theorem sc_law_foreign : FnScope N_law_foreign ["store", "lot_names"] (defScope s_law_foreign) := ⟨rfl, rfl, rfl, by decide +kernel, rfl, by decide +kernel, by decide +kernel⟩
theorem b_law_foreign : BindO "_law_foreign" s_law_foreign ["store", "lot_names"] := fun _ _ _ _ _ _ us hl => match us, hl with | [_, _], _ => rfl

def sp_foreign : Sp := fun vs H Q _ => ∃ (S : Sto) (p : Addr) (ns : List Str), vs = [.ref S.a, .ref p] ∧ Store S H ∧ H p = some (.lst (ns.map V.str)) ∧ p ≠ S.a ∧ Nms ns ∧ ∀ (x : Str) (H' : Hp), Drew S H H' → Tx 1000 x → Q (.str x) H'
theorem ok_foreign (D : Dn K mg "_law_foreign" s_law_foreign) (B : Blt mg) (c_law_pick : Cl P w K mg base 3 "_law_pick" sp_pick) (c_law_name : Cl P w K mg base 4 "_law_name" (sp_nm 8)) : Cl P w K mg base 5 "_law_foreign" sp_foreign := by
  refine cl_of D sc_law_foreign b_law_foreign (fun vs H Q E h => ?_) (fun f cdv A outer s H vs Q E hr h => ?_)
  · obtain ⟨S, p, ns, rfl, _⟩ := h
    rfl
  · obtain ⟨S, p, ns, rfl, st, hp, npa, nm, q⟩ := h
    refine ⟨_, (pss_cons (ps_set (i := 2) sc_law_foreign.nd rfl (.inl rfl) (pe_cl c_law_pick hr (by omega) rfl (pa_cons (pv 0) (pa_cons (pv 1) pa_nil))))
      (pss_cons (ps_set (i := 3) sc_law_foreign.nd rfl (.inl rfl) (pe_lst (pa_cons (pe_slice sl_str (pv 2) po_none (po_some (pe_un un_neg pe_int))) (pa_cons (pe_op op_add_str (pv 2) pe_str) (pa_cons (pe_up1 (pv 2)) (pa_cons (pe_cl c_law_name hr (by omega) rfl (pa_cons (pv 0) pa_nil)) (pa_cons pe_str (pa_cons (pe_op op_add_str (pv 2) pe_str) (pa_cons (pe_op op_add_str pe_str (pv 2)) pa_nil)))))))))
      (pss_cons (ps_set (i := 4) sc_law_foreign.nd rfl (.inl rfl) (pe_cl c_law_pick hr (by omega) rfl (pa_cons (pv 0) (pa_cons (pv 3) pa_nil))))
      (pss_cons (ps_if (pt_cmpR op_inQ (pv 4) (pv 1) (by rfl)) (pss_one (ps_set (i := 4) sc_law_foreign.nd rfl (.inl rfl) (pe_op op_add_str (pe_slice sl_str (pv 4) po_none (po_some pe_int)) pe_str))) pss_nil)
      (pss_one (ps_ret (pv 4))))))), ?_⟩
    rw [show L2.start N_law_foreign [.ref S.a, .ref p] = [some (.ref S.a), some (.ref p), none, none, none] from rfl]
    simp only [tSeq, tNext, tDrop, tRet, tRetN, tIfS, tAsg, gName, tAug, ipI, tVar, tC, tOp, tUn, rI, rI0, rU, tCons, tNil, tCB, tTup, tLst, tTest, tB, tAnd, tOr, tNot, tAndV, tOrV, tNotV, tIf, tCl, tCd, tCk, gSub, rPutL, rAtQ, rIntI, rLenQ, rLenS, rListQ, rTupL, rTupQ, rIsQ_c, kd_non, kd_bl, kd_int, kd_str, kd_ref, kdO_lst, kdO_tup, kit_NoneType_bool, kit_NoneType_int, kit_NoneType_str, kit_NoneType_list, kit_NoneType_tuple, kit_bool_bool, kit_bool_int, kit_bool_str, kit_bool_list, kit_bool_tuple, kit_int_bool, kit_int_int, kit_int_str, kit_int_list, kit_int_tuple, kit_str_bool, kit_str_int, kit_str_str, kit_str_list, kit_str_tuple, kit_list_bool, kit_list_int, kit_list_str, kit_list_list, kit_list_tuple, kit_tuple_bool, kit_tuple_int, kit_tuple_str, kit_tuple_list, kit_tuple_tuple, V.ty.injEq, rSortQ, rSlQ, rMulS, tJn, rAtX, rSlS, tSl, tPart, tNoPart, cut_lo2, cut_hi2, rInQ, gLq, gTq, gC_c, gNil, tChain, List.cons_append, List.nil_append, tBL, tBL0, tBad, tCr, tCe, tXF, cxH_K, HO.xd.injEq, rApp, rPopN, rRevL, seqAt_lst, seqAt_tup, at_0, at_1, at_2, at_3, at_4, ix_0, ix_1, ix_2, ix_3, ix_4, cx_K, upd_same, List.length_cons, List.length_nil, Nat.reduceAdd,  rEq, rNe, tRevL, V.int.injEq, V.bl.injEq, V.str.injEq, V.ref.injEq, List.cons.injEq, and_true, true_and, exists_and_left, exists_and_right, exists_eq_left, exists_eq_left', exists_eq_right, exists_eq_right', exists_const, Option.some.injEq, List.getElem?_cons_zero, List.getElem?_cons_succ, List.set_cons_zero, List.set_cons_succ, decide_eq_true_eq, decide_true, decide_false,  scal_ii, scal_bb, scal_ss, cmul_r, cdiv_l, cpow_12, cpow_18, cpow_40, HO.lst.injEq, HO.tup.injEq, upd_upd, Int.reduceToNat,  decide_not, Bool.not_eq_true', decide_eq_false_iff_not, if_true, if_false, Bool.false_eq_true, Bool.true_eq_false, reduceCtorEq, Int.reduceNeg, Nat.reduceLT, Int.reduceLT, Int.reducePow, gt_iff_lt, tUpS]
    refine ⟨S, p, ns.map V.str, rfl, st, by rw [hp] <;> rfl, npa, by rw [List.length_map]; have := nm.hi; omega, fun e => ?_, fun i x H1 r1 hx => ?_⟩
    · rw [List.map_eq_nil_iff] at e
      have := nm.lo
      rw [e] at this
      exact absurd this (by decide)
    · rw [List.getElem?_map] at hx
      obtain ⟨z, ez, rfl⟩ := Option.map_eq_some_iff.mp hx
      have tz := good_tx (nm.good z (List.mem_of_getElem? ez))
      simp only [tSeq, tNext, tDrop, tRet, tRetN, tIfS, tAsg, gName, tAug, ipI, tVar, tC, tOp, tUn, rI, rI0, rU, tCons, tNil, tCB, tTup, tLst, tTest, tB, tAnd, tOr, tNot, tAndV, tOrV, tNotV, tIf, tCl, tCd, tCk, gSub, rPutL, rAtQ, rIntI, rLenQ, rLenS, rListQ, rTupL, rTupQ, rIsQ_c, kd_non, kd_bl, kd_int, kd_str, kd_ref, kdO_lst, kdO_tup, kit_NoneType_bool, kit_NoneType_int, kit_NoneType_str, kit_NoneType_list, kit_NoneType_tuple, kit_bool_bool, kit_bool_int, kit_bool_str, kit_bool_list, kit_bool_tuple, kit_int_bool, kit_int_int, kit_int_str, kit_int_list, kit_int_tuple, kit_str_bool, kit_str_int, kit_str_str, kit_str_list, kit_str_tuple, kit_list_bool, kit_list_int, kit_list_str, kit_list_list, kit_list_tuple, kit_tuple_bool, kit_tuple_int, kit_tuple_str, kit_tuple_list, kit_tuple_tuple, V.ty.injEq, rSortQ, rSlQ, rMulS, tJn, rAtX, rSlS, tSl, tPart, tNoPart, cut_lo2, cut_hi2, rInQ, gLq, gTq, gC_c, gNil, tChain, List.cons_append, List.nil_append, tBL, tBL0, tBad, tCr, tCe, tXF, cxH_K, HO.xd.injEq, rApp, rPopN, rRevL, seqAt_lst, seqAt_tup, at_0, at_1, at_2, at_3, at_4, ix_0, ix_1, ix_2, ix_3, ix_4, cx_K, upd_same, List.length_cons, List.length_nil, Nat.reduceAdd,  rEq, rNe, tRevL, V.int.injEq, V.bl.injEq, V.str.injEq, V.ref.injEq, List.cons.injEq, and_true, true_and, exists_and_left, exists_and_right, exists_eq_left, exists_eq_left', exists_eq_right, exists_eq_right', exists_const, Option.some.injEq, List.getElem?_cons_zero, List.getElem?_cons_succ, List.set_cons_zero, List.set_cons_succ, decide_eq_true_eq, decide_true, decide_false,  scal_ii, scal_bb, scal_ss, cmul_r, cdiv_l, cpow_12, cpow_18, cpow_40, HO.lst.injEq, HO.tup.injEq, upd_upd, Int.reduceToNat,  decide_not, Bool.not_eq_true', decide_eq_false_iff_not, if_true, if_false, Bool.false_eq_true, Bool.true_eq_false, reduceCtorEq, Int.reduceNeg, Nat.reduceLT, Int.reduceLT, Int.reducePow, gt_iff_lt]
      have t0 : Tx 1 (Str.ofString "0") := Tx.lit (by decide +kernel)
      have t1 : Tx 1 (Str.ofString " ") := Tx.lit (by decide +kernel)
      have t9 : Tx 1 (Str.ofString "9") := Tx.lit (by decide +kernel)
      have te : Tx 1 (Str.ofString "") := Tx.lit (by decide +kernel)
      have tm : Tx 1 (Str.ofString "-") := Tx.lit (by decide +kernel)
      refine ⟨tz.line (by decide), by rw [← str_cat_len]; exact (tz.cat t0).line (by decide), Nat.le_trans tz.len (by decide), S, rfl, r1.st, fun y H2 r2 ny => ⟨by rw [← str_cat_len]; exact (tz.cat t1).line (by decide), by rw [← str_cat_len]; exact (t9.cat tz).line (by decide), sz_of (by decide), fun t ht => ?_⟩⟩
      have r12 := r1.trans r2
      have fl : (ns.map V.str).all flatV = true := by
        rw [List.all_eq_true]
        intro v hv
        obtain ⟨z, _, rfl⟩ := List.mem_map.mp hv
        rfl
      refine ⟨S, t, [V.str (cutS z none (some (-1))), V.str (z ++ Str.ofString "0"), V.str (Txt.upper z), V.str y, V.str (Str.ofString ""), V.str (z ++ Str.ofString " "), V.str (Str.ofString "9" ++ z)], rfl, (r12.new ht).st, by rw [upd_same] <;> rfl, st.neA (r12.back ht), (by show 7 ≤ 1000; decide), fun e => (by cases e), fun i x H3 r3 hx => ?_⟩
      have r13 := (r12.new ht).trans r3
      have hx' : ∃ y, x = .str y ∧ Tx 9 y := by
        have hm := List.mem_of_getElem? hx
        simp only [List.mem_cons, List.not_mem_nil, or_false] at hm
        rcases hm with h | h | h | h | h | h | h
        · exact ⟨_, h, (tz.cut none _).mono (by decide)⟩
        · exact ⟨_, h, tz.cat t0⟩
        · exact ⟨_, h, tz.upper.mono (by decide)⟩
        · exact ⟨_, h, ny.tx.mono (by decide)⟩
        · exact ⟨_, h, te.mono (by decide)⟩
        · exact ⟨_, h, tz.cat t1⟩
        · exact ⟨_, h, t9.cat tz⟩
      obtain ⟨y, rfl, ty⟩ := hx'
      refine ⟨_, by rw [r13.but p _ npa hp] <;> rfl, rfl, fl, ?_⟩
      split
      · have tc : Tx 7 (cutS y none (some 7)) := ty.cutTo (k := 7)
        exact ⟨y, rfl, ty.line (by decide), by rw [← str_cat_len]; exact (tc.cat tm).line (by decide), q _ _ r13 ((tc.cat tm).mono (by decide))⟩
      · exact q _ _ r13 (ty.mono (by decide))
end
end Z
set_option Elab.async false
set_option linter.all false
set_option maxRecDepth 100000
set_option maxHeartbeats 4000000
namespace Z
open PySem PySem.Spec PyProof.Rows L2 L2H
section
variable {P : Program} {w : World} {K : PySem.W.Frag} {mg : Str → Option Value} {base : Heap}
/-! ### the first four lots, in the order of their places -/
def nth (ns : List Str) (i : Nat) : Str := ns.getD i Str.empty
def Alt (ns g1 g2 : List Str) (i j k m : Nat) : Prop := (nth ns i ∈ g1 ∧ nth ns k ∈ g1) ∧ nth ns j ∈ g2 ∧ nth ns m ∈ g2
structure Hit (ns g1 g2 : List Str) (i j k m : Nat) : Prop where
  h1 : i < j
  h2 : j < k
  h3 : k < m
  h4 : m < ns.length
  alt : Alt ns g1 g2 i j k m ∨ Alt ns g2 g1 i j k m
def Le4 (i j k m a b c d : Nat) : Prop := i < a ∨ (i = a ∧ (j < b ∨ (j = b ∧ (k < c ∨ (k = c ∧ m ≤ d)))))
def Frn (ns g1 g2 : List Str) (i j k m : Nat) : Prop := ∀ a b c d, Hit ns g1 g2 a b c d → Le4 i j k m a b c d
def FstN (ns g1 g2 : List Str) : Prop := ∀ a b c d, ¬ Hit ns g1 g2 a b c d
def FstS (ns g1 g2 : List Str) (i j k m : Nat) : Prop := Hit ns g1 g2 i j k m ∧ Frn ns g1 g2 i j k m
theorem z_forAB {ta : TA} {j : Nat} {tb : TS} {D : Ends} {σ : L2.St} {H : Hp} (a b : Nat) (h : ∀ Q : List V → Hp → Prop, Q [.int a, .int b] H → ta σ H Q) (hab : a ≤ b) (hb : b < 2 ^ 61) (Pv : Nat → L2.St → Hp → Prop) (h0 : Pv a σ H)
    (hs : ∀ i σ' H', a ≤ i → i < b → Pv i σ' H' → tb { D with nx := Pv (i + 1), ct := Pv (i + 1), bk := D.nx } (σ'.set j (some (.int i))) H') (hd : ∀ σ' H', Pv b σ' H' → D.nx σ' H') : tFor (iRng2 ta) (gName j) tb D σ H := by
  refine h _ ⟨a, b, rfl, ⟨by omega, by omega, by omega, by omega⟩, ?_⟩
  rw [show ((b : Int) - (a : Int)).toNat = b - a by omega]
  refine for_range (lo := (a : Int)) (n := b - a) (fun i => Pv (a + i)) h0 (fun i σ' H' hi p => ?_) (fun σ' H' p => hd σ' H' (by rw [show b = a + (b - a) by omega]; exact p))
  have z := hs (a + i) σ' H' (by omega) (by omega) p
  rw [show ((a + i : Nat) : Int) = (a : Int) + (i : Int) by omega] at z
  exact z
abbrev s_law_group_quad : Stmt := topS 63
abbrev N_law_group_quad : List Str := ["lot_names", "one_group", "two_group", "many", "i", "j", "k", "m", "odd", "even", "pair_groups"]
theorem sc_law_group_quad : FnScope N_law_group_quad ["lot_names", "one_group", "two_group"] (defScope s_law_group_quad) := ⟨rfl, rfl, rfl, by decide +kernel, rfl, by decide +kernel, by decide +kernel⟩
theorem b_law_group_quad : BindO "_law_group_quad" s_law_group_quad ["lot_names", "one_group", "two_group"] := fun _ _ _ _ _ _ us hl => match us, hl with | [_, _, _], _ => rfl

def sp_quad : Sp := fun vs H Q _ => ∃ (p a b : Addr) (ns g1 g2 : List Str), vs = [.ref p, .ref a, .ref b] ∧ H p = some (.lst (ns.map V.str)) ∧ ns.length ≤ 10 ∧ seqAt (H a) = some (g1.map V.str) ∧ seqAt (H b) = some (g2.map V.str) ∧
  (FstN ns g1 g2 → ∀ H', Same H H' → Q .non H') ∧ ∀ i j k m, FstS ns g1 g2 i j k m → ∀ (t : Addr) (H' : Hp), Same H H' → H t = none → H' t = some (.tup [.str (nth ns i), .str (nth ns j), .str (nth ns k), .str (nth ns m)]) → Q (.ref t) H'
theorem ok_quad (D : Dn K mg "_law_group_quad" s_law_group_quad) (B : Blt mg) : Cl P w K mg base 1 "_law_group_quad" sp_quad := by
  refine cl_of D sc_law_group_quad b_law_group_quad (fun vs H Q E h => ?_) (fun f cdv A outer s H vs Q E hr h => ?_)
  · obtain ⟨p, a, b, ns, g1, g2, rfl, _⟩ := h
    rfl
  · obtain ⟨p, a, b, ns, g1, g2, rfl, hp, hn, ha, hb, q0, q1⟩ := h
    refine ⟨_, (pss_cons (ps_set (i := 3) sc_law_group_quad.nd rfl (.inl rfl) (pe_callB call_lenQ (by rfl) B.len PySem.boot_len (pa_cons (pv 0) pa_nil)))
      (pss_cons (ps_for PassesOwn.never rfl (pi_range1 (by rfl) B.range (pa_cons (pv 3) pa_nil)) (pg_name (i := 4) sc_law_group_quad.nd rfl (.inl rfl)) (pss_one (ps_for PassesOwn.never rfl (pi_range2 (by rfl) B.range (pa_cons (pe_op op_add (pv 4) pe_int) (pa_cons (pv 3) pa_nil))) (pg_name (i := 5) sc_law_group_quad.nd rfl (.inl rfl)) (pss_one (ps_for PassesOwn.never rfl (pi_range2 (by rfl) B.range (pa_cons (pe_op op_add (pv 5) pe_int) (pa_cons (pv 3) pa_nil))) (pg_name (i := 6) sc_law_group_quad.nd rfl (.inl rfl)) (pss_one (ps_for PassesOwn.never rfl (pi_range2 (by rfl) B.range (pa_cons (pe_op op_add (pv 6) pe_int) (pa_cons (pv 3) pa_nil))) (pg_name (i := 7) sc_law_group_quad.nd rfl (.inl rfl)) (pss_cons (ps_set (i := 8) sc_law_group_quad.nd rfl (.inl rfl) (pe_lst (pa_cons (pe_ix at_seq (pv 0) (pv 4) (fun _ _ => rfl)) (pa_cons (pe_ix at_seq (pv 0) (pv 6) (fun _ _ => rfl)) pa_nil))))
      (pss_cons (ps_set (i := 9) sc_law_group_quad.nd rfl (.inl rfl) (pe_lst (pa_cons (pe_ix at_seq (pv 0) (pv 5) (fun _ _ => rfl)) (pa_cons (pe_ix at_seq (pv 0) (pv 7) (fun _ _ => rfl)) pa_nil))))
      (pss_one (ps_for PassesOwn.never rfl (pi_list (pe_lst (pa_cons (pe_tup (pa_cons (pv 1) (pa_cons (pv 2) pa_nil))) (pa_cons (pe_tup (pa_cons (pv 2) (pa_cons (pv 1) pa_nil))) pa_nil)))) (pg_name (i := 10) sc_law_group_quad.nd rfl (.inl rfl)) (pss_one (ps_if (PW.pt (pw_and (pt_cmpR op_inQ (pe_ix at_seq (pv 8) pe_int (fun _ _ => rfl)) (pe_ix at_seq (pv 10) pe_int (fun _ _ => rfl)) (by rfl)) (pw_and1 (pt_cmpR op_inQ (pe_ix at_seq (pv 8) pe_int (fun _ _ => rfl)) (pe_ix at_seq (pv 10) pe_int (fun _ _ => rfl)) (by rfl))))) (pss_one (ps_if (PW.pt (pw_and (pt_cmpR op_inQ (pe_ix at_seq (pv 9) pe_int (fun _ _ => rfl)) (pe_ix at_seq (pv 10) pe_int (fun _ _ => rfl)) (by rfl)) (pw_and1 (pt_cmpR op_inQ (pe_ix at_seq (pv 9) pe_int (fun _ _ => rfl)) (pe_ix at_seq (pv 10) pe_int (fun _ _ => rfl)) (by rfl))))) (pss_one (ps_ret (pe_tup (pa_cons (pe_ix at_seq (pv 8) pe_int (fun _ _ => rfl)) (pa_cons (pe_ix at_seq (pv 9) pe_int (fun _ _ => rfl)) (pa_cons (pe_ix at_seq (pv 8) pe_int (fun _ _ => rfl)) (pa_cons (pe_ix at_seq (pv 9) pe_int (fun _ _ => rfl)) pa_nil))))))) pss_nil)) pss_nil)))))))))))))
      (pss_one (ps_ret pe_non)))), ?_⟩
    rw [show L2.start N_law_group_quad [.ref p, .ref a, .ref b] = [some (.ref p), some (.ref a), some (.ref b), none, none, none, none, none, none, none, none] from rfl]
    simp only [tSeq, tNext, tDrop, tRet, tRetN, tIfS, tAsg, gName, tAug, ipI, tVar, tC, tOp, tUn, rI, rI0, rU, tCons, tNil, tCB, tTup, tLst, tTest, tB, tAnd, tOr, tNot, tAndV, tOrV, tNotV, tIf, tCl, tCd, tCk, gSub, rPutL, rAtQ, rIntI, rLenQ, rLenS, rListQ, rTupL, rTupQ, rIsQ_c, kd_non, kd_bl, kd_int, kd_str, kd_ref, kdO_lst, kdO_tup, kit_NoneType_bool, kit_NoneType_int, kit_NoneType_str, kit_NoneType_list, kit_NoneType_tuple, kit_bool_bool, kit_bool_int, kit_bool_str, kit_bool_list, kit_bool_tuple, kit_int_bool, kit_int_int, kit_int_str, kit_int_list, kit_int_tuple, kit_str_bool, kit_str_int, kit_str_str, kit_str_list, kit_str_tuple, kit_list_bool, kit_list_int, kit_list_str, kit_list_list, kit_list_tuple, kit_tuple_bool, kit_tuple_int, kit_tuple_str, kit_tuple_list, kit_tuple_tuple, V.ty.injEq, rSortQ, rSlQ, rMulS, tJn, rAtX, rSlS, tSl, tPart, tNoPart, cut_lo2, cut_hi2, rInQ, gLq, gTq, gC_c, gNil, tChain, List.cons_append, List.nil_append, tBL, tBL0, tBad, tCr, tCe, tXF, cxH_K, HO.xd.injEq, rApp, rPopN, rRevL, seqAt_lst, seqAt_tup, at_0, at_1, at_2, at_3, at_4, ix_0, ix_1, ix_2, ix_3, ix_4, cx_K, upd_same, List.length_cons, List.length_nil, Nat.reduceAdd,  rEq, rNe, tRevL, V.int.injEq, V.bl.injEq, V.str.injEq, V.ref.injEq, List.cons.injEq, and_true, true_and, exists_and_left, exists_and_right, exists_eq_left, exists_eq_left', exists_eq_right, exists_eq_right', exists_const, Option.some.injEq, List.getElem?_cons_zero, List.getElem?_cons_succ, List.set_cons_zero, List.set_cons_succ, decide_eq_true_eq, decide_true, decide_false,  scal_ii, scal_bb, scal_ss, cmul_r, cdiv_l, cpow_12, cpow_18, cpow_40, HO.lst.injEq, HO.tup.injEq, upd_upd, Int.reduceToNat,  decide_not, Bool.not_eq_true', decide_eq_false_iff_not, if_true, if_false, Bool.false_eq_true, Bool.true_eq_false, reduceCtorEq, Int.reduceNeg, Nat.reduceLT, Int.reduceLT, Int.reducePow, gt_iff_lt]
    have fl : ∀ g : List Str, (g.map V.str).all flatV = true := fun g => by
      rw [List.all_eq_true]
      intro v hv
      obtain ⟨z, _, rfl⟩ := List.mem_map.mp hv
      rfl
    have fl1 := fl g1
    have fl2 := fl g2
    refine ⟨ns.map V.str, by rw [hp] <;> rfl, ?_⟩
    rw [List.length_map]
    refine z_forR ns.length (fun Q q => ?_) (by omega) (fun i σ' H' => ∃ a1 a2 a3 a4 a5 a6 a7, σ' = [some (.ref p), some (.ref a), some (.ref b), some (.int (ns.length : Int)), a1, a2, a3, a4, a5, a6, a7] ∧ Same H H' ∧ Frn ns g1 g2 i 0 0 0) ⟨_, _, _, _, _, _, _, rfl, fun _ _ h => h, fun a b c d h => by unfold Le4; omega⟩ (fun i σ' H1 hi hI => ?_) (fun σ' H' hI => ?_)
    · simp only [tSeq, tNext, tDrop, tRet, tRetN, tIfS, tAsg, gName, tAug, ipI, tVar, tC, tOp, tUn, rI, rI0, rU, tCons, tNil, tCB, tTup, tLst, tTest, tB, tAnd, tOr, tNot, tAndV, tOrV, tNotV, tIf, tCl, tCd, tCk, gSub, rPutL, rAtQ, rIntI, rLenQ, rLenS, rListQ, rTupL, rTupQ, rIsQ_c, kd_non, kd_bl, kd_int, kd_str, kd_ref, kdO_lst, kdO_tup, kit_NoneType_bool, kit_NoneType_int, kit_NoneType_str, kit_NoneType_list, kit_NoneType_tuple, kit_bool_bool, kit_bool_int, kit_bool_str, kit_bool_list, kit_bool_tuple, kit_int_bool, kit_int_int, kit_int_str, kit_int_list, kit_int_tuple, kit_str_bool, kit_str_int, kit_str_str, kit_str_list, kit_str_tuple, kit_list_bool, kit_list_int, kit_list_str, kit_list_list, kit_list_tuple, kit_tuple_bool, kit_tuple_int, kit_tuple_str, kit_tuple_list, kit_tuple_tuple, V.ty.injEq, rSortQ, rSlQ, rMulS, tJn, rAtX, rSlS, tSl, tPart, tNoPart, cut_lo2, cut_hi2, rInQ, gLq, gTq, gC_c, gNil, tChain, List.cons_append, List.nil_append, tBL, tBL0, tBad, tCr, tCe, tXF, cxH_K, HO.xd.injEq, rApp, rPopN, rRevL, seqAt_lst, seqAt_tup, at_0, at_1, at_2, at_3, at_4, ix_0, ix_1, ix_2, ix_3, ix_4, cx_K, upd_same, List.length_cons, List.length_nil, Nat.reduceAdd,  rEq, rNe, tRevL, V.int.injEq, V.bl.injEq, V.str.injEq, V.ref.injEq, List.cons.injEq, and_true, true_and, exists_and_left, exists_and_right, exists_eq_left, exists_eq_left', exists_eq_right, exists_eq_right', exists_const, Option.some.injEq, List.getElem?_cons_zero, List.getElem?_cons_succ, List.set_cons_zero, List.set_cons_succ, decide_eq_true_eq, decide_true, decide_false,  scal_ii, scal_bb, scal_ss, cmul_r, cdiv_l, cpow_12, cpow_18, cpow_40, HO.lst.injEq, HO.tup.injEq, upd_upd, Int.reduceToNat,  decide_not, Bool.not_eq_true', decide_eq_false_iff_not, if_true, if_false, Bool.false_eq_true, Bool.true_eq_false, reduceCtorEq, Int.reduceNeg, Nat.reduceLT, Int.reduceLT, Int.reducePow, gt_iff_lt]
      exact q
    · obtain ⟨a1, a2, a3, a4, a5, a6, a7, rfl, s1, F1⟩ := hI
      refine z_forAB (i + 1) ns.length (fun Q q => ?_) (by omega) (by omega) (fun j σ' H' => ∃ a2 a3 a4 a5 a6 a7, σ' = [some (.ref p), some (.ref a), some (.ref b), some (.int (ns.length : Int)), some (.int (i : Int)), a2, a3, a4, a5, a6, a7] ∧ Same H H' ∧ Frn ns g1 g2 i j 0 0) ⟨_, _, _, _, _, _, rfl, s1, fun a b c d h => by have := F1 a b c d h; have := h.h1; unfold Le4 at *; omega⟩ (fun j σ' H2 hij hj hI => ?_) (fun σ' H' hI => ?_)
      · simp only [tSeq, tNext, tDrop, tRet, tRetN, tIfS, tAsg, gName, tAug, ipI, tVar, tC, tOp, tUn, rI, rI0, rU, tCons, tNil, tCB, tTup, tLst, tTest, tB, tAnd, tOr, tNot, tAndV, tOrV, tNotV, tIf, tCl, tCd, tCk, gSub, rPutL, rAtQ, rIntI, rLenQ, rLenS, rListQ, rTupL, rTupQ, rIsQ_c, kd_non, kd_bl, kd_int, kd_str, kd_ref, kdO_lst, kdO_tup, kit_NoneType_bool, kit_NoneType_int, kit_NoneType_str, kit_NoneType_list, kit_NoneType_tuple, kit_bool_bool, kit_bool_int, kit_bool_str, kit_bool_list, kit_bool_tuple, kit_int_bool, kit_int_int, kit_int_str, kit_int_list, kit_int_tuple, kit_str_bool, kit_str_int, kit_str_str, kit_str_list, kit_str_tuple, kit_list_bool, kit_list_int, kit_list_str, kit_list_list, kit_list_tuple, kit_tuple_bool, kit_tuple_int, kit_tuple_str, kit_tuple_list, kit_tuple_tuple, V.ty.injEq, rSortQ, rSlQ, rMulS, tJn, rAtX, rSlS, tSl, tPart, tNoPart, cut_lo2, cut_hi2, rInQ, gLq, gTq, gC_c, gNil, tChain, List.cons_append, List.nil_append, tBL, tBL0, tBad, tCr, tCe, tXF, cxH_K, HO.xd.injEq, rApp, rPopN, rRevL, seqAt_lst, seqAt_tup, at_0, at_1, at_2, at_3, at_4, ix_0, ix_1, ix_2, ix_3, ix_4, cx_K, upd_same, List.length_cons, List.length_nil, Nat.reduceAdd,  rEq, rNe, tRevL, V.int.injEq, V.bl.injEq, V.str.injEq, V.ref.injEq, List.cons.injEq, and_true, true_and, exists_and_left, exists_and_right, exists_eq_left, exists_eq_left', exists_eq_right, exists_eq_right', exists_const, Option.some.injEq, List.getElem?_cons_zero, List.getElem?_cons_succ, List.set_cons_zero, List.set_cons_succ, decide_eq_true_eq, decide_true, decide_false,  scal_ii, scal_bb, scal_ss, cmul_r, cdiv_l, cpow_12, cpow_18, cpow_40, HO.lst.injEq, HO.tup.injEq, upd_upd, Int.reduceToNat,  decide_not, Bool.not_eq_true', decide_eq_false_iff_not, if_true, if_false, Bool.false_eq_true, Bool.true_eq_false, reduceCtorEq, Int.reduceNeg, Nat.reduceLT, Int.reduceLT, Int.reducePow, gt_iff_lt]
        exact q
      · obtain ⟨a2, a3, a4, a5, a6, a7, rfl, s2, F2⟩ := hI
        refine z_forAB (j + 1) ns.length (fun Q q => ?_) (by omega) (by omega) (fun k σ' H' => ∃ a3 a4 a5 a6 a7, σ' = [some (.ref p), some (.ref a), some (.ref b), some (.int (ns.length : Int)), some (.int (i : Int)), some (.int (j : Int)), a3, a4, a5, a6, a7] ∧ Same H H' ∧ Frn ns g1 g2 i j k 0) ⟨_, _, _, _, _, rfl, s2, fun a b c d h => by have := F2 a b c d h; have := h.h1; have := h.h2; unfold Le4 at *; omega⟩ (fun k σ' H3 hjk hk hI => ?_) (fun σ' H' hI => ?_)
        · simp only [tSeq, tNext, tDrop, tRet, tRetN, tIfS, tAsg, gName, tAug, ipI, tVar, tC, tOp, tUn, rI, rI0, rU, tCons, tNil, tCB, tTup, tLst, tTest, tB, tAnd, tOr, tNot, tAndV, tOrV, tNotV, tIf, tCl, tCd, tCk, gSub, rPutL, rAtQ, rIntI, rLenQ, rLenS, rListQ, rTupL, rTupQ, rIsQ_c, kd_non, kd_bl, kd_int, kd_str, kd_ref, kdO_lst, kdO_tup, kit_NoneType_bool, kit_NoneType_int, kit_NoneType_str, kit_NoneType_list, kit_NoneType_tuple, kit_bool_bool, kit_bool_int, kit_bool_str, kit_bool_list, kit_bool_tuple, kit_int_bool, kit_int_int, kit_int_str, kit_int_list, kit_int_tuple, kit_str_bool, kit_str_int, kit_str_str, kit_str_list, kit_str_tuple, kit_list_bool, kit_list_int, kit_list_str, kit_list_list, kit_list_tuple, kit_tuple_bool, kit_tuple_int, kit_tuple_str, kit_tuple_list, kit_tuple_tuple, V.ty.injEq, rSortQ, rSlQ, rMulS, tJn, rAtX, rSlS, tSl, tPart, tNoPart, cut_lo2, cut_hi2, rInQ, gLq, gTq, gC_c, gNil, tChain, List.cons_append, List.nil_append, tBL, tBL0, tBad, tCr, tCe, tXF, cxH_K, HO.xd.injEq, rApp, rPopN, rRevL, seqAt_lst, seqAt_tup, at_0, at_1, at_2, at_3, at_4, ix_0, ix_1, ix_2, ix_3, ix_4, cx_K, upd_same, List.length_cons, List.length_nil, Nat.reduceAdd,  rEq, rNe, tRevL, V.int.injEq, V.bl.injEq, V.str.injEq, V.ref.injEq, List.cons.injEq, and_true, true_and, exists_and_left, exists_and_right, exists_eq_left, exists_eq_left', exists_eq_right, exists_eq_right', exists_const, Option.some.injEq, List.getElem?_cons_zero, List.getElem?_cons_succ, List.set_cons_zero, List.set_cons_succ, decide_eq_true_eq, decide_true, decide_false,  scal_ii, scal_bb, scal_ss, cmul_r, cdiv_l, cpow_12, cpow_18, cpow_40, HO.lst.injEq, HO.tup.injEq, upd_upd, Int.reduceToNat,  decide_not, Bool.not_eq_true', decide_eq_false_iff_not, if_true, if_false, Bool.false_eq_true, Bool.true_eq_false, reduceCtorEq, Int.reduceNeg, Nat.reduceLT, Int.reduceLT, Int.reducePow, gt_iff_lt]
          exact q
        · obtain ⟨a3, a4, a5, a6, a7, rfl, s3, F3⟩ := hI
          refine z_forAB (k + 1) ns.length (fun Q q => ?_) (by omega) (by omega) (fun m σ' H' => ∃ a4 a5 a6 a7, σ' = [some (.ref p), some (.ref a), some (.ref b), some (.int (ns.length : Int)), some (.int (i : Int)), some (.int (j : Int)), some (.int (k : Int)), a4, a5, a6, a7] ∧ Same H H' ∧ Frn ns g1 g2 i j k m) ⟨_, _, _, _, rfl, s3, fun a b c d h => by have := F3 a b c d h; have := h.h1; have := h.h2; have := h.h3; unfold Le4 at *; omega⟩ (fun m σ' H4 hkm hm hI => ?_) (fun σ' H' hI => ?_)
          · simp only [tSeq, tNext, tDrop, tRet, tRetN, tIfS, tAsg, gName, tAug, ipI, tVar, tC, tOp, tUn, rI, rI0, rU, tCons, tNil, tCB, tTup, tLst, tTest, tB, tAnd, tOr, tNot, tAndV, tOrV, tNotV, tIf, tCl, tCd, tCk, gSub, rPutL, rAtQ, rIntI, rLenQ, rLenS, rListQ, rTupL, rTupQ, rIsQ_c, kd_non, kd_bl, kd_int, kd_str, kd_ref, kdO_lst, kdO_tup, kit_NoneType_bool, kit_NoneType_int, kit_NoneType_str, kit_NoneType_list, kit_NoneType_tuple, kit_bool_bool, kit_bool_int, kit_bool_str, kit_bool_list, kit_bool_tuple, kit_int_bool, kit_int_int, kit_int_str, kit_int_list, kit_int_tuple, kit_str_bool, kit_str_int, kit_str_str, kit_str_list, kit_str_tuple, kit_list_bool, kit_list_int, kit_list_str, kit_list_list, kit_list_tuple, kit_tuple_bool, kit_tuple_int, kit_tuple_str, kit_tuple_list, kit_tuple_tuple, V.ty.injEq, rSortQ, rSlQ, rMulS, tJn, rAtX, rSlS, tSl, tPart, tNoPart, cut_lo2, cut_hi2, rInQ, gLq, gTq, gC_c, gNil, tChain, List.cons_append, List.nil_append, tBL, tBL0, tBad, tCr, tCe, tXF, cxH_K, HO.xd.injEq, rApp, rPopN, rRevL, seqAt_lst, seqAt_tup, at_0, at_1, at_2, at_3, at_4, ix_0, ix_1, ix_2, ix_3, ix_4, cx_K, upd_same, List.length_cons, List.length_nil, Nat.reduceAdd,  rEq, rNe, tRevL, V.int.injEq, V.bl.injEq, V.str.injEq, V.ref.injEq, List.cons.injEq, and_true, true_and, exists_and_left, exists_and_right, exists_eq_left, exists_eq_left', exists_eq_right, exists_eq_right', exists_const, Option.some.injEq, List.getElem?_cons_zero, List.getElem?_cons_succ, List.set_cons_zero, List.set_cons_succ, decide_eq_true_eq, decide_true, decide_false,  scal_ii, scal_bb, scal_ss, cmul_r, cdiv_l, cpow_12, cpow_18, cpow_40, HO.lst.injEq, HO.tup.injEq, upd_upd, Int.reduceToNat,  decide_not, Bool.not_eq_true', decide_eq_false_iff_not, if_true, if_false, Bool.false_eq_true, Bool.true_eq_false, reduceCtorEq, Int.reduceNeg, Nat.reduceLT, Int.reduceLT, Int.reducePow, gt_iff_lt]
            exact q
          · obtain ⟨a4, a5, a6, a7, rfl, s4, F4⟩ := hI
            simp only [tSeq, tNext, tDrop, tRet, tRetN, tIfS, tAsg, gName, tAug, ipI, tVar, tC, tOp, tUn, rI, rI0, rU, tCons, tNil, tCB, tTup, tLst, tTest, tB, tAnd, tOr, tNot, tAndV, tOrV, tNotV, tIf, tCl, tCd, tCk, gSub, rPutL, rAtQ, rIntI, rLenQ, rLenS, rListQ, rTupL, rTupQ, rIsQ_c, kd_non, kd_bl, kd_int, kd_str, kd_ref, kdO_lst, kdO_tup, kit_NoneType_bool, kit_NoneType_int, kit_NoneType_str, kit_NoneType_list, kit_NoneType_tuple, kit_bool_bool, kit_bool_int, kit_bool_str, kit_bool_list, kit_bool_tuple, kit_int_bool, kit_int_int, kit_int_str, kit_int_list, kit_int_tuple, kit_str_bool, kit_str_int, kit_str_str, kit_str_list, kit_str_tuple, kit_list_bool, kit_list_int, kit_list_str, kit_list_list, kit_list_tuple, kit_tuple_bool, kit_tuple_int, kit_tuple_str, kit_tuple_list, kit_tuple_tuple, V.ty.injEq, rSortQ, rSlQ, rMulS, tJn, rAtX, rSlS, tSl, tPart, tNoPart, cut_lo2, cut_hi2, rInQ, gLq, gTq, gC_c, gNil, tChain, List.cons_append, List.nil_append, tBL, tBL0, tBad, tCr, tCe, tXF, cxH_K, HO.xd.injEq, rApp, rPopN, rRevL, seqAt_lst, seqAt_tup, at_0, at_1, at_2, at_3, at_4, ix_0, ix_1, ix_2, ix_3, ix_4, cx_K, upd_same, List.length_cons, List.length_nil, Nat.reduceAdd,  rEq, rNe, tRevL, V.int.injEq, V.bl.injEq, V.str.injEq, V.ref.injEq, List.cons.injEq, and_true, true_and, exists_and_left, exists_and_right, exists_eq_left, exists_eq_left', exists_eq_right, exists_eq_right', exists_const, Option.some.injEq, List.getElem?_cons_zero, List.getElem?_cons_succ, List.set_cons_zero, List.set_cons_succ, decide_eq_true_eq, decide_true, decide_false,  scal_ii, scal_bb, scal_ss, cmul_r, cdiv_l, cpow_12, cpow_18, cpow_40, HO.lst.injEq, HO.tup.injEq, upd_upd, Int.reduceToNat,  decide_not, Bool.not_eq_true', decide_eq_false_iff_not, if_true, if_false, Bool.false_eq_true, Bool.true_eq_false, reduceCtorEq, Int.reduceNeg, Nat.reduceLT, Int.reduceLT, Int.reducePow, gt_iff_lt]
            have hp4 : seqAt (H4 p) = some (ns.map V.str) := by rw [s4 _ _ hp] <;> rfl
            refine ⟨_, hp4, _, str_at hi, _, hp4, _, str_at hk, sz_of (by decide), fun x1 f1 => ?_⟩
            have s5 : Same H (upd H4 x1 (.lst [.str (nth ns i), .str (nth ns k)])) := fun c o e => same_new f1 c o (s4 c o e)
            have e5 : upd H4 x1 (.lst [.str (nth ns i), .str (nth ns k)]) x1 = some (.lst [.str (nth ns i), .str (nth ns k)]) := upd_same
            have hp5 : seqAt (upd H4 x1 (.lst [.str (nth ns i), .str (nth ns k)]) p) = some (ns.map V.str) := by rw [s5 _ _ hp] <;> rfl
            refine ⟨_, hp5, _, str_at hj, _, hp5, _, str_at hm, sz_of (by decide), fun x2 f2 => ?_⟩
            change tFor _ _ _ _ _ (upd (upd H4 x1 (.lst [.str (nth ns i), .str (nth ns k)])) x2 (.lst [.str (nth ns j), .str (nth ns m)]))
            have f2 : upd H4 x1 (.lst [.str (nth ns i), .str (nth ns k)]) x2 = none := f2
            have s6 : Same H (upd (upd H4 x1 (.lst [.str (nth ns i), .str (nth ns k)])) x2 (.lst [.str (nth ns j), .str (nth ns m)])) := fun c o e => same_new f2 c o (s5 c o e)
            have e6 : upd (upd H4 x1 (.lst [.str (nth ns i), .str (nth ns k)])) x2 (.lst [.str (nth ns j), .str (nth ns m)]) x1 = some (.lst [.str (nth ns i), .str (nth ns k)]) := same_new (o := .lst [.str (nth ns j), .str (nth ns m)]) f2 _ _ e5
            have e7 : upd (upd H4 x1 (.lst [.str (nth ns i), .str (nth ns k)])) x2 (.lst [.str (nth ns j), .str (nth ns m)]) x2 = some (.lst [.str (nth ns j), .str (nth ns m)]) := upd_same
            generalize upd (upd H4 x1 (.lst [.str (nth ns i), .str (nth ns k)])) x2 (.lst [.str (nth ns j), .str (nth ns m)]) = H5 at s6 e6 e7 ⊢
            refine forLE (fun l Hl => ∃ t1 t2 : Addr, Hl l = some (.lst [.ref t1, .ref t2]) ∧ Hl t1 = some (.tup [.ref a, .ref b]) ∧ Hl t2 = some (.tup [.ref b, .ref a]) ∧ Same H5 Hl) (fun X hX => ?_) (fun l Hl ⟨t1, t2, hl, h1, h2, s7⟩ => ?_)
            · simp only [tSeq, tNext, tDrop, tRet, tRetN, tIfS, tAsg, gName, tAug, ipI, tVar, tC, tOp, tUn, rI, rI0, rU, tCons, tNil, tCB, tTup, tLst, tTest, tB, tAnd, tOr, tNot, tAndV, tOrV, tNotV, tIf, tCl, tCd, tCk, gSub, rPutL, rAtQ, rIntI, rLenQ, rLenS, rListQ, rTupL, rTupQ, rIsQ_c, kd_non, kd_bl, kd_int, kd_str, kd_ref, kdO_lst, kdO_tup, kit_NoneType_bool, kit_NoneType_int, kit_NoneType_str, kit_NoneType_list, kit_NoneType_tuple, kit_bool_bool, kit_bool_int, kit_bool_str, kit_bool_list, kit_bool_tuple, kit_int_bool, kit_int_int, kit_int_str, kit_int_list, kit_int_tuple, kit_str_bool, kit_str_int, kit_str_str, kit_str_list, kit_str_tuple, kit_list_bool, kit_list_int, kit_list_str, kit_list_list, kit_list_tuple, kit_tuple_bool, kit_tuple_int, kit_tuple_str, kit_tuple_list, kit_tuple_tuple, V.ty.injEq, rSortQ, rSlQ, rMulS, tJn, rAtX, rSlS, tSl, tPart, tNoPart, cut_lo2, cut_hi2, rInQ, gLq, gTq, gC_c, gNil, tChain, List.cons_append, List.nil_append, tBL, tBL0, tBad, tCr, tCe, tXF, cxH_K, HO.xd.injEq, rApp, rPopN, rRevL, seqAt_lst, seqAt_tup, at_0, at_1, at_2, at_3, at_4, ix_0, ix_1, ix_2, ix_3, ix_4, cx_K, upd_same, List.length_cons, List.length_nil, Nat.reduceAdd,  rEq, rNe, tRevL, V.int.injEq, V.bl.injEq, V.str.injEq, V.ref.injEq, List.cons.injEq, and_true, true_and, exists_and_left, exists_and_right, exists_eq_left, exists_eq_left', exists_eq_right, exists_eq_right', exists_const, Option.some.injEq, List.getElem?_cons_zero, List.getElem?_cons_succ, List.set_cons_zero, List.set_cons_succ, decide_eq_true_eq, decide_true, decide_false,  scal_ii, scal_bb, scal_ss, cmul_r, cdiv_l, cpow_12, cpow_18, cpow_40, HO.lst.injEq, HO.tup.injEq, upd_upd, Int.reduceToNat,  decide_not, Bool.not_eq_true', decide_eq_false_iff_not, if_true, if_false, Bool.false_eq_true, Bool.true_eq_false, reduceCtorEq, Int.reduceNeg, Nat.reduceLT, Int.reduceLT, Int.reducePow, gt_iff_lt]
              refine ⟨sz_of (by decide), fun t1 f3 => ⟨sz_of (by decide), fun t2 f4 => ⟨sz_of (by decide), fun l f5 => hX l _ ⟨t1, t2, upd_same, ?_, ?_, fun c o e => same_new f5 c o (same_new f4 c o (same_new f3 c o e))⟩⟩⟩⟩
              · exact same_new f5 _ _ (same_new f4 _ _ upd_same)
              · exact same_new f5 _ _ upd_same
            have S7 : Same H Hl := fun c o e => s7 c o (s6 c o e)
            have ha7 : seqAt (Hl a) = some (g1.map V.str) := same_seq S7 ha
            have hb7 : seqAt (Hl b) = some (g2.map V.str) := same_seq S7 hb
            refine z_forL l [.ref t1, .ref t2] (fun Q q => q) (SqL.of hl) (fun y σ' H' => ∃ c, σ' = [some (.ref p), some (.ref a), some (.ref b), some (.int (ns.length : Int)), some (.int (i : Int)), some (.int (j : Int)), some (.int (k : Int)), some (.int (m : Int)), some (.ref x1), some (.ref x2), c] ∧ H' = Hl ∧ (1 ≤ y → ¬ Alt ns g1 g2 i j k m) ∧ (2 ≤ y → ¬ Alt ns g2 g1 i j k m)) ⟨_, rfl, rfl, fun h => absurd h (Nat.not_succ_le_zero 0), fun h => absurd h (Nat.not_succ_le_zero 1)⟩ (fun y σ' H' hy hI => ?_) (fun y v σ' H' hv hI => ?_) (fun σ' H' hI => ?_)
            · obtain ⟨c, rfl, rfl, _⟩ := hI
              exact SqL.of hl
            · obtain ⟨c, rfl, rfl, k1, k2⟩ := hI
              have hy : y < 2 := (List.getElem?_eq_some_iff.mp hv).1
              have rx1 : seqAt (H' x1) = some [.str (nth ns i), .str (nth ns k)] := by rw [s7 _ _ e6] <;> rfl
              have rx2 : seqAt (H' x2) = some [.str (nth ns j), .str (nth ns m)] := by rw [s7 _ _ e7] <;> rfl
              obtain rfl | rfl : y = 0 ∨ y = 1 := by omega
              · obtain rfl : V.ref t1 = v := by simpa using hv
                simp only [tSeq, tNext, tDrop, tRet, tRetN, tIfS, tAsg, gName, tAug, ipI, tVar, tC, tOp, tUn, rI, rI0, rU, tCons, tNil, tCB, tTup, tLst, tTest, tB, tAnd, tOr, tNot, tAndV, tOrV, tNotV, tIf, tCl, tCd, tCk, gSub, rPutL, rAtQ, rIntI, rLenQ, rLenS, rListQ, rTupL, rTupQ, rIsQ_c, kd_non, kd_bl, kd_int, kd_str, kd_ref, kdO_lst, kdO_tup, kit_NoneType_bool, kit_NoneType_int, kit_NoneType_str, kit_NoneType_list, kit_NoneType_tuple, kit_bool_bool, kit_bool_int, kit_bool_str, kit_bool_list, kit_bool_tuple, kit_int_bool, kit_int_int, kit_int_str, kit_int_list, kit_int_tuple, kit_str_bool, kit_str_int, kit_str_str, kit_str_list, kit_str_tuple, kit_list_bool, kit_list_int, kit_list_str, kit_list_list, kit_list_tuple, kit_tuple_bool, kit_tuple_int, kit_tuple_str, kit_tuple_list, kit_tuple_tuple, V.ty.injEq, rSortQ, rSlQ, rMulS, tJn, rAtX, rSlS, tSl, tPart, tNoPart, cut_lo2, cut_hi2, rInQ, gLq, gTq, gC_c, gNil, tChain, List.cons_append, List.nil_append, tBL, tBL0, tBad, tCr, tCe, tXF, cxH_K, HO.xd.injEq, rApp, rPopN, rRevL, seqAt_lst, seqAt_tup, at_0, at_1, at_2, at_3, at_4, ix_0, ix_1, ix_2, ix_3, ix_4, cx_K, upd_same, List.length_cons, List.length_nil, Nat.reduceAdd,  rEq, rNe, tRevL, V.int.injEq, V.bl.injEq, V.str.injEq, V.ref.injEq, List.cons.injEq, and_true, true_and, exists_and_left, exists_and_right, exists_eq_left, exists_eq_left', exists_eq_right, exists_eq_right', exists_const, Option.some.injEq, List.getElem?_cons_zero, List.getElem?_cons_succ, List.set_cons_zero, List.set_cons_succ, decide_eq_true_eq, decide_true, decide_false,  scal_ii, scal_bb, scal_ss, cmul_r, cdiv_l, cpow_12, cpow_18, cpow_40, HO.lst.injEq, HO.tup.injEq, upd_upd, Int.reduceToNat,  decide_not, Bool.not_eq_true', decide_eq_false_iff_not, if_true, if_false, Bool.false_eq_true, Bool.true_eq_false, reduceCtorEq, Int.reduceNeg, Nat.reduceLT, Int.reduceLT, Int.reducePow, gt_iff_lt]
                refine ⟨_, rx1, _, at_0, _, by rw [h1] <;> rfl, _, at_0, _, rfl, _, ha7, rfl, fl1, ?_⟩
                rw [inV_strs]
                split
                · rename_i c1
                  refine ⟨_, rx1, _, at_1, _, by rw [h1] <;> rfl, _, at_0, _, rfl, _, ha7, rfl, fl1, ?_⟩
                  rw [inV_strs]
                  split
                  · rename_i c2
                    refine ⟨_, rx2, _, at_0, _, by rw [h1] <;> rfl, _, at_1, _, rfl, _, hb7, rfl, fl2, ?_⟩
                    rw [inV_strs]
                    split
                    · rename_i c3
                      refine ⟨_, rx2, _, at_1, _, by rw [h1] <;> rfl, _, at_1, _, rfl, _, hb7, rfl, fl2, ?_⟩
                      rw [inV_strs]
                      split
                      · rename_i c4
                        refine ⟨_, rx1, _, at_0, _, rx2, _, at_0, _, rx1, _, at_1, _, rx2, _, at_1, sz_of (by decide), fun t ht => ?_⟩
                        exact q1 i j k m ⟨⟨hij, hjk, hkm, hm, .inl ⟨⟨of_decide_eq_true c1, of_decide_eq_true c2⟩, of_decide_eq_true c3, of_decide_eq_true c4⟩⟩, F4⟩ t _ (fun c o e => same_new ht c o (S7 c o e)) (same_free S7 ht) upd_same
                      · rename_i c4
                        exact ⟨⟨_, rfl⟩, fun _ => fun h => c4 (decide_eq_true h.2.2), fun h => absurd h (by omega)⟩
                    · rename_i c3
                      exact ⟨⟨_, rfl⟩, fun _ => fun h => c3 (decide_eq_true h.2.1), fun h => absurd h (by omega)⟩
                  · rename_i c2
                    exact ⟨⟨_, rfl⟩, fun _ => fun h => c2 (decide_eq_true h.1.2), fun h => absurd h (by omega)⟩
                · rename_i c1
                  exact ⟨⟨_, rfl⟩, fun _ => fun h => c1 (decide_eq_true h.1.1), fun h => absurd h (by omega)⟩
              · obtain rfl : V.ref t2 = v := by simpa using hv
                simp only [tSeq, tNext, tDrop, tRet, tRetN, tIfS, tAsg, gName, tAug, ipI, tVar, tC, tOp, tUn, rI, rI0, rU, tCons, tNil, tCB, tTup, tLst, tTest, tB, tAnd, tOr, tNot, tAndV, tOrV, tNotV, tIf, tCl, tCd, tCk, gSub, rPutL, rAtQ, rIntI, rLenQ, rLenS, rListQ, rTupL, rTupQ, rIsQ_c, kd_non, kd_bl, kd_int, kd_str, kd_ref, kdO_lst, kdO_tup, kit_NoneType_bool, kit_NoneType_int, kit_NoneType_str, kit_NoneType_list, kit_NoneType_tuple, kit_bool_bool, kit_bool_int, kit_bool_str, kit_bool_list, kit_bool_tuple, kit_int_bool, kit_int_int, kit_int_str, kit_int_list, kit_int_tuple, kit_str_bool, kit_str_int, kit_str_str, kit_str_list, kit_str_tuple, kit_list_bool, kit_list_int, kit_list_str, kit_list_list, kit_list_tuple, kit_tuple_bool, kit_tuple_int, kit_tuple_str, kit_tuple_list, kit_tuple_tuple, V.ty.injEq, rSortQ, rSlQ, rMulS, tJn, rAtX, rSlS, tSl, tPart, tNoPart, cut_lo2, cut_hi2, rInQ, gLq, gTq, gC_c, gNil, tChain, List.cons_append, List.nil_append, tBL, tBL0, tBad, tCr, tCe, tXF, cxH_K, HO.xd.injEq, rApp, rPopN, rRevL, seqAt_lst, seqAt_tup, at_0, at_1, at_2, at_3, at_4, ix_0, ix_1, ix_2, ix_3, ix_4, cx_K, upd_same, List.length_cons, List.length_nil, Nat.reduceAdd,  rEq, rNe, tRevL, V.int.injEq, V.bl.injEq, V.str.injEq, V.ref.injEq, List.cons.injEq, and_true, true_and, exists_and_left, exists_and_right, exists_eq_left, exists_eq_left', exists_eq_right, exists_eq_right', exists_const, Option.some.injEq, List.getElem?_cons_zero, List.getElem?_cons_succ, List.set_cons_zero, List.set_cons_succ, decide_eq_true_eq, decide_true, decide_false,  scal_ii, scal_bb, scal_ss, cmul_r, cdiv_l, cpow_12, cpow_18, cpow_40, HO.lst.injEq, HO.tup.injEq, upd_upd, Int.reduceToNat,  decide_not, Bool.not_eq_true', decide_eq_false_iff_not, if_true, if_false, Bool.false_eq_true, Bool.true_eq_false, reduceCtorEq, Int.reduceNeg, Nat.reduceLT, Int.reduceLT, Int.reducePow, gt_iff_lt]
                refine ⟨_, rx1, _, at_0, _, by rw [h2] <;> rfl, _, at_0, _, rfl, _, hb7, rfl, fl2, ?_⟩
                rw [inV_strs]
                split
                · rename_i c1
                  refine ⟨_, rx1, _, at_1, _, by rw [h2] <;> rfl, _, at_0, _, rfl, _, hb7, rfl, fl2, ?_⟩
                  rw [inV_strs]
                  split
                  · rename_i c2
                    refine ⟨_, rx2, _, at_0, _, by rw [h2] <;> rfl, _, at_1, _, rfl, _, ha7, rfl, fl1, ?_⟩
                    rw [inV_strs]
                    split
                    · rename_i c3
                      refine ⟨_, rx2, _, at_1, _, by rw [h2] <;> rfl, _, at_1, _, rfl, _, ha7, rfl, fl1, ?_⟩
                      rw [inV_strs]
                      split
                      · rename_i c4
                        refine ⟨_, rx1, _, at_0, _, rx2, _, at_0, _, rx1, _, at_1, _, rx2, _, at_1, sz_of (by decide), fun t ht => ?_⟩
                        exact q1 i j k m ⟨⟨hij, hjk, hkm, hm, .inr ⟨⟨of_decide_eq_true c1, of_decide_eq_true c2⟩, of_decide_eq_true c3, of_decide_eq_true c4⟩⟩, F4⟩ t _ (fun c o e => same_new ht c o (S7 c o e)) (same_free S7 ht) upd_same
                      · rename_i c4
                        exact ⟨⟨_, rfl⟩, fun _ => k1 (Nat.le_refl 1), fun _ => fun h => c4 (decide_eq_true h.2.2)⟩
                    · rename_i c3
                      exact ⟨⟨_, rfl⟩, fun _ => k1 (Nat.le_refl 1), fun _ => fun h => c3 (decide_eq_true h.2.1)⟩
                  · rename_i c2
                    exact ⟨⟨_, rfl⟩, fun _ => k1 (Nat.le_refl 1), fun _ => fun h => c2 (decide_eq_true h.1.2)⟩
                · rename_i c1
                  exact ⟨⟨_, rfl⟩, fun _ => k1 (Nat.le_refl 1), fun _ => fun h => c1 (decide_eq_true h.1.1)⟩
            · obtain ⟨c, rfl, rfl, k1, k2⟩ := hI
              refine ⟨⟨_, _, _, _, rfl⟩, S7, fun x y z d h => ?_⟩
              have := F4 x y z d h
              have ne : ¬ (x = i ∧ y = j ∧ z = k ∧ d = m) := fun ⟨e1, e2, e3, e4⟩ => by
                subst e1 e2 e3 e4
                exact h.alt.elim (k1 (Nat.le_succ 1)) (k2 (Nat.le_refl 2))
              unfold Le4 at *
              omega
          · obtain ⟨a4, a5, a6, a7, rfl, s4, F4⟩ := hI
            exact ⟨_, _, _, _, _, rfl, s4, fun a b c d h => by have := F4 a b c d h; have := h.h4; unfold Le4 at *; omega⟩
        · obtain ⟨a3, a4, a5, a6, a7, rfl, s3, F3⟩ := hI
          exact ⟨_, _, _, _, _, _, rfl, s3, fun a b c d h => by have := F3 a b c d h; have := h.h3; have := h.h4; unfold Le4 at *; omega⟩
      · obtain ⟨a2, a3, a4, a5, a6, a7, rfl, s2, F2⟩ := hI
        exact ⟨_, _, _, _, _, _, _, rfl, s2, fun a b c d h => by have := F2 a b c d h; have := h.h2; have := h.h3; have := h.h4; unfold Le4 at *; omega⟩
    · obtain ⟨a1, a2, a3, a4, a5, a6, a7, rfl, s1, F1⟩ := hI
      simp only [tSeq, tNext, tDrop, tRet, tRetN, tIfS, tAsg, gName, tAug, ipI, tVar, tC, tOp, tUn, rI, rI0, rU, tCons, tNil, tCB, tTup, tLst, tTest, tB, tAnd, tOr, tNot, tAndV, tOrV, tNotV, tIf, tCl, tCd, tCk, gSub, rPutL, rAtQ, rIntI, rLenQ, rLenS, rListQ, rTupL, rTupQ, rIsQ_c, kd_non, kd_bl, kd_int, kd_str, kd_ref, kdO_lst, kdO_tup, kit_NoneType_bool, kit_NoneType_int, kit_NoneType_str, kit_NoneType_list, kit_NoneType_tuple, kit_bool_bool, kit_bool_int, kit_bool_str, kit_bool_list, kit_bool_tuple, kit_int_bool, kit_int_int, kit_int_str, kit_int_list, kit_int_tuple, kit_str_bool, kit_str_int, kit_str_str, kit_str_list, kit_str_tuple, kit_list_bool, kit_list_int, kit_list_str, kit_list_list, kit_list_tuple, kit_tuple_bool, kit_tuple_int, kit_tuple_str, kit_tuple_list, kit_tuple_tuple, V.ty.injEq, rSortQ, rSlQ, rMulS, tJn, rAtX, rSlS, tSl, tPart, tNoPart, cut_lo2, cut_hi2, rInQ, gLq, gTq, gC_c, gNil, tChain, List.cons_append, List.nil_append, tBL, tBL0, tBad, tCr, tCe, tXF, cxH_K, HO.xd.injEq, rApp, rPopN, rRevL, seqAt_lst, seqAt_tup, at_0, at_1, at_2, at_3, at_4, ix_0, ix_1, ix_2, ix_3, ix_4, cx_K, upd_same, List.length_cons, List.length_nil, Nat.reduceAdd,  rEq, rNe, tRevL, V.int.injEq, V.bl.injEq, V.str.injEq, V.ref.injEq, List.cons.injEq, and_true, true_and, exists_and_left, exists_and_right, exists_eq_left, exists_eq_left', exists_eq_right, exists_eq_right', exists_const, Option.some.injEq, List.getElem?_cons_zero, List.getElem?_cons_succ, List.set_cons_zero, List.set_cons_succ, decide_eq_true_eq, decide_true, decide_false,  scal_ii, scal_bb, scal_ss, cmul_r, cdiv_l, cpow_12, cpow_18, cpow_40, HO.lst.injEq, HO.tup.injEq, upd_upd, Int.reduceToNat,  decide_not, Bool.not_eq_true', decide_eq_false_iff_not, if_true, if_false, Bool.false_eq_true, Bool.true_eq_false, reduceCtorEq, Int.reduceNeg, Nat.reduceLT, Int.reduceLT, Int.reducePow, gt_iff_lt]
      exact q0 (fun a b c d h => by have := F1 a b c d h; have := h.h1; have := h.h2; have := h.h3; have := h.h4; unfold Le4 at *; omega) _ s1
end
end Z
set_option Elab.async false
set_option linter.all false
set_option maxRecDepth 100000
set_option maxHeartbeats 4000000
namespace Z
open PySem PySem.Spec PyProof.Rows L2 L2H
/-! ### the least row of places is the first hit -/
def L4 (a b c d a' b' c' d' : Int) : Prop := a < a' ∨ (a = a' ∧ (b < b' ∨ (b = b' ∧ (c < c' ∨ (c = c' ∧ d < d')))))
theorem lt4 {a b c d a' b' c' d' : Int} : PySem.W.DatumOrd.lt (⟨[a, b, c, d]⟩ : TI4) ⟨[a', b', c', d']⟩ = true ↔ L4 a b c d a' b' c' d' := by
  show (if a = a' then (if b = b' then (if c = c' then (if d = d' then false else decide (d < d')) else decide (c < c')) else decide (b < b')) else decide (a < a')) = true ↔ _
  unfold L4
  split
  · split
    · split
      · split
        · simp; omega
        · rw [decide_eq_true_eq]; omega
      · rw [decide_eq_true_eq]; omega
    · rw [decide_eq_true_eq]; omega
  · rw [decide_eq_true_eq]; omega
def R4 (r : TI4) : Prop := ∃ a b c d, r = ⟨[a, b, c, d]⟩
theorem lt_tr {x y z : TI4} (hx : R4 x) (hy : R4 y) (hz : R4 z) (h1 : PySem.W.DatumOrd.lt x y = true) (h2 : PySem.W.DatumOrd.lt y z = true) : PySem.W.DatumOrd.lt x z = true := by
  obtain ⟨a, b, c, d, rfl⟩ := hx
  obtain ⟨a', b', c', d', rfl⟩ := hy
  obtain ⟨a2, b2, c2, d2, rfl⟩ := hz
  rw [lt4] at *
  unfold L4 at *
  omega
theorem lt_co {x y z : TI4} (hx : R4 x) (hy : R4 y) (hz : R4 z) (h1 : PySem.W.DatumOrd.lt x y = true) (h2 : PySem.W.DatumOrd.lt z y = false) : PySem.W.DatumOrd.lt x z = true := by
  obtain ⟨a, b, c, d, rfl⟩ := hx
  obtain ⟨a', b', c', d', rfl⟩ := hy
  obtain ⟨a2, b2, c2, d2, rfl⟩ := hz
  have h2' : ¬ L4 a2 b2 c2 d2 a' b' c' d' := fun h => by rw [lt4.mpr h] at h2; cases h2
  rw [lt4] at *
  unfold L4 at *
  omega
theorem lt_ir {x : TI4} (hx : R4 x) : PySem.W.DatumOrd.lt x x = false := by
  obtain ⟨a, b, c, d, rfl⟩ := hx
  rw [Bool.eq_false_iff]
  intro h
  rw [lt4] at h
  unfold L4 at h
  omega
theorem mn_in : ∀ (ys : List TI4) (x : TI4), PySem.W.minOf x ys ∈ x :: ys
  | [], x => List.mem_cons_self
  | y :: ys, x => by
    show PySem.W.minOf (if PySem.W.DatumOrd.lt y x = true then y else x) ys ∈ _
    rcases List.mem_cons.mp (mn_in ys (if PySem.W.DatumOrd.lt y x = true then y else x)) with z | z
    · rw [z]
      split
      · exact List.mem_cons_of_mem _ List.mem_cons_self
      · exact List.mem_cons_self
    · exact List.mem_cons_of_mem _ (List.mem_cons_of_mem _ z)
theorem mn_le : ∀ (ys : List TI4) (x : TI4), (∀ r ∈ x :: ys, R4 r) → ∀ y ∈ x :: ys, PySem.W.DatumOrd.lt y (PySem.W.minOf x ys) = false
  | [], x, h, y, hy => by
    rw [show y = x by simpa using hy]
    exact lt_ir (h x List.mem_cons_self)
  | z :: ys, x, h, y, hy => by
    have rx := h x List.mem_cons_self
    have rz := h z (List.mem_cons_of_mem _ List.mem_cons_self)
    show PySem.W.DatumOrd.lt y (PySem.W.minOf (if PySem.W.DatumOrd.lt z x = true then z else x) ys) = false
    have hw : ∀ r ∈ (if PySem.W.DatumOrd.lt z x = true then z else x) :: ys, R4 r := fun r hr => by
      rcases List.mem_cons.mp hr with e | e
      · rw [e]
        split
        · exact rz
        · exact rx
      · exact h r (List.mem_cons_of_mem _ (List.mem_cons_of_mem _ e))
    have ih := mn_le ys (if PySem.W.DatumOrd.lt z x = true then z else x) hw
    have rm := hw _ (mn_in ys _)
    generalize hm : PySem.W.minOf (if PySem.W.DatumOrd.lt z x = true then z else x) ys = m at ih rm ⊢
    rcases List.mem_cons.mp hy with e | e
    · rw [e, Bool.eq_false_iff]
      intro hxm
      by_cases hzx : PySem.W.DatumOrd.lt z x = true
      · have := ih z (by rw [if_pos hzx]; exact List.mem_cons_self)
        rw [lt_tr rz rx rm hzx hxm] at this
        cases this
      · have := ih x (by rw [if_neg hzx]; exact List.mem_cons_self)
        rw [hxm] at this
        cases this
    · rcases List.mem_cons.mp e with e | e
      · rw [e, Bool.eq_false_iff]
        intro hzm
        by_cases hzx : PySem.W.DatumOrd.lt z x = true
        · have := ih z (by rw [if_pos hzx]; exact List.mem_cons_self)
          rw [hzm] at this
          cases this
        · have h2 := ih x (by rw [if_neg hzx]; exact List.mem_cons_self)
          exact hzx (lt_co rz rm rx hzm h2)
      · exact ih y (List.mem_cons_of_mem _ e)
theorem mnL_le {rs : List (List Int)} {r : List Int} (h4 : ∀ x ∈ rs, ∃ a b c d, x = [a, b, c, d]) (h : mnL rs = some r) : ∀ y ∈ rs, PySem.W.DatumOrd.lt (⟨y⟩ : TI4) ⟨r⟩ = false := by
  cases rs with
  | nil => cases h
  | cons x xs =>
    have e : (PySem.W.minOf (⟨x⟩ : TI4) (xs.map PySem.W.Tup.mk)) = ⟨r⟩ := by
      have h' : some (PySem.W.minOf (⟨x⟩ : TI4) (xs.map PySem.W.Tup.mk)).items = some r := h
      have h2 := Option.some.inj h'
      rw [← h2]
    intro y hy
    rw [← e]
    refine mn_le _ _ (fun t ht => ?_) _ ?_
    · rcases List.mem_cons.mp ht with e | e
      · rw [e]
        obtain ⟨a, b, c, d, e⟩ := h4 x List.mem_cons_self
        exact ⟨a, b, c, d, by rw [e]⟩
      · obtain ⟨u, hu, rfl⟩ := List.mem_map.mp e
        obtain ⟨a, b, c, d, e⟩ := h4 u (List.mem_cons_of_mem _ hu)
        exact ⟨a, b, c, d, by rw [e]⟩
    · rcases List.mem_cons.mp hy with e | e
      · rw [e]; exact List.mem_cons_self
      · exact List.mem_cons_of_mem _ (List.mem_map.mpr ⟨y, e, rfl⟩)
theorem cis_mk {xs ys : List Int} {a b c d : Int} (ha : a ∈ xs) (hb : b ∈ ys) (hc : c ∈ xs) (hd : d ∈ ys) (h1 : a < b) (h2 : b < c) (h3 : c < d) : [a, b, c, d] ∈ cis xs ys := by
  refine List.mem_flatMap.mpr ⟨a, ha, List.mem_flatMap.mpr ⟨b, hb, ?_⟩⟩
  unfold ci2
  rw [if_pos h1]
  refine List.mem_flatMap.mpr ⟨c, hc, ?_⟩
  unfold ci3
  rw [if_pos h2]
  refine List.mem_flatMap.mpr ⟨d, hd, ?_⟩
  unfold ci4
  rw [if_pos h3]
  exact List.mem_cons_self
theorem nth_in {ns g : List Str} {is : List Int} (nd : ns.Nodup) (hp : IsPl ns g is) {i : Nat} (hi : i < ns.length) : nth ns i ∈ g ↔ (i : Int) ∈ is := by
  have e : nth ns i = ns[i] := by unfold nth; rw [List.getD_eq_getElem?_getD, List.getElem?_eq_getElem hi]; rfl
  rw [hp.2, e]
  constructor
  · intro h
    exact ⟨ns[i], h, by rw [List.Nodup.idxOf_getElem nd i hi]⟩
  · rintro ⟨z, hz, ez⟩
    have ei : i = ns.idxOf z := by omega
    have : ns[i]? = some z := by
      rw [ei] at hi ⊢
      rw [List.getElem?_eq_getElem hi, List.getElem_idxOf]
    rw [List.getElem?_eq_getElem hi] at this
    rw [Option.some.inj this]
    exact hz
theorem pl_nat {ns g : List Str} {is : List Int} (hp : IsPl ns g is) (hg : ∀ z ∈ g, z ∈ ns) {k : Int} (h : k ∈ is) : ∃ m : Nat, k = (m : Int) ∧ m < ns.length := by
  obtain ⟨z, hz, e⟩ := (hp.2 k).mp h
  exact ⟨_, e, List.idxOf_lt_length_of_mem (hg z hz)⟩
section
variable {ns g1 g2 : List Str} {is js : List Int}
theorem hit_row (nd : ns.Nodup) (h1 : IsPl ns g1 is) (h2 : IsPl ns g2 js) {i j k m : Nat} (h : Hit ns g1 g2 i j k m) : [(i : Int), (j : Int), (k : Int), (m : Int)] ∈ cis is js ++ cis js is := by
  have a1 := h.h1
  have a2 := h.h2
  have a3 := h.h3
  have a4 := h.h4
  rcases h.alt with ⟨⟨b1, b2⟩, b3, b4⟩ | ⟨⟨b1, b2⟩, b3, b4⟩
  · exact List.mem_append_left _ (cis_mk ((nth_in nd h1 (by omega)).mp b1) ((nth_in nd h2 (by omega)).mp b3) ((nth_in nd h1 (by omega)).mp b2) ((nth_in nd h2 (by omega)).mp b4) (by omega) (by omega) (by omega))
  · exact List.mem_append_right _ (cis_mk ((nth_in nd h2 (by omega)).mp b1) ((nth_in nd h1 (by omega)).mp b3) ((nth_in nd h2 (by omega)).mp b2) ((nth_in nd h1 (by omega)).mp b4) (by omega) (by omega) (by omega))
theorem row_hit (nd : ns.Nodup) (h1 : IsPl ns g1 is) (h2 : IsPl ns g2 js) (i1 : ∀ z ∈ g1, z ∈ ns) (i2 : ∀ z ∈ g2, z ∈ ns) {r : List Int} (h : r ∈ cis is js ++ cis js is) : ∃ i j k m : Nat, r = [(i : Int), (j : Int), (k : Int), (m : Int)] ∧ Hit ns g1 g2 i j k m := by
  rcases List.mem_append.mp h with h | h
  · obtain ⟨a, b, c, d, rfl, ha, hb, hc, hd, l1, l2, l3⟩ := cis_in h
    obtain ⟨i, rfl, li⟩ := pl_nat h1 i1 ha
    obtain ⟨j, rfl, lj⟩ := pl_nat h2 i2 hb
    obtain ⟨k, rfl, lk⟩ := pl_nat h1 i1 hc
    obtain ⟨m, rfl, lm⟩ := pl_nat h2 i2 hd
    exact ⟨i, j, k, m, rfl, by omega, by omega, by omega, lm, .inl ⟨⟨(nth_in nd h1 li).mpr ha, (nth_in nd h1 lk).mpr hc⟩, (nth_in nd h2 lj).mpr hb, (nth_in nd h2 lm).mpr hd⟩⟩
  · obtain ⟨a, b, c, d, rfl, ha, hb, hc, hd, l1, l2, l3⟩ := cis_in h
    obtain ⟨i, rfl, li⟩ := pl_nat h2 i2 ha
    obtain ⟨j, rfl, lj⟩ := pl_nat h1 i1 hb
    obtain ⟨k, rfl, lk⟩ := pl_nat h2 i2 hc
    obtain ⟨m, rfl, lm⟩ := pl_nat h1 i1 hd
    exact ⟨i, j, k, m, rfl, by omega, by omega, by omega, lm, .inr ⟨⟨(nth_in nd h2 li).mpr ha, (nth_in nd h2 lk).mpr hc⟩, (nth_in nd h1 lj).mpr hb, (nth_in nd h1 lm).mpr hd⟩⟩
theorem fst_none (nd : ns.Nodup) (h1 : IsPl ns g1 is) (h2 : IsPl ns g2 js) (e : mnL (cis is js ++ cis js is) = none) : FstN ns g1 g2 := fun i j k m h => by
  have z := hit_row nd h1 h2 h
  cases he : cis is js ++ cis js is with
  | nil => rw [he] at z; cases z
  | cons r rs => rw [he] at e; cases e
theorem fst_some (nd : ns.Nodup) (h1 : IsPl ns g1 is) (h2 : IsPl ns g2 js) (i1 : ∀ z ∈ g1, z ∈ ns) (i2 : ∀ z ∈ g2, z ∈ ns) {r : List Int} (e : mnL (cis is js ++ cis js is) = some r) : ∃ i j k m : Nat, r = [(i : Int), (j : Int), (k : Int), (m : Int)] ∧ FstS ns g1 g2 i j k m := by
  obtain ⟨i, j, k, m, er, hh⟩ := row_hit nd h1 h2 i1 i2 (mn_mem e)
  refine ⟨i, j, k, m, er, hh, fun a b c d h => ?_⟩
  have z := mnL_le (fun x hx => by
    obtain ⟨i, j, k, m, er, _⟩ := row_hit nd h1 h2 i1 i2 hx
    exact ⟨_, _, _, _, er⟩) e _ (hit_row nd h1 h2 h)
  rw [er] at z
  have z' : ¬ L4 a b c d i j k m := fun h => by rw [lt4.mpr h] at z; cases z
  unfold L4 at z'
  unfold Le4
  omega
theorem fst_un {i j k m a b c d : Nat} (h : FstS ns g1 g2 i j k m) (h' : FstS ns g1 g2 a b c d) : i = a ∧ j = b ∧ k = c ∧ m = d := by
  have z := h.2 _ _ _ _ h'.1
  have y := h'.2 _ _ _ _ h.1
  unfold Le4 at *
  omega
theorem fst_or (ns g1 g2 : List Str) : FstN ns g1 g2 ∨ ∃ i j k m, Hit ns g1 g2 i j k m := by
  by_cases h : ∃ i j k m, Hit ns g1 g2 i j k m
  · exact .inr h
  · exact .inl fun a b c d z => h ⟨a, b, c, d, z⟩
end
end Z
set_option Elab.async false
set_option linter.all false
set_option maxRecDepth 100000
set_option maxHeartbeats 4000000
namespace Z
open PySem PySem.Spec PyProof.Rows L2 L2H
section
variable {P : Program} {w : World} {K : PySem.W.Frag} {mg : Str → Option Value} {base : Heap}
abbrev s_law_error : Stmt := topS 68
abbrev N_law_error : List Str := ["e", "found"]
theorem sc_law_error : FnScope N_law_error ["e"] (defScope s_law_error) := ⟨rfl, rfl, rfl, by decide +kernel, rfl, by decide +kernel, by decide +kernel⟩
theorem b_law_error : BindO "_law_error" s_law_error ["e"] := fun _ _ _ _ _ _ us hl => match us, hl with | [_], _ => rfl

def othersU : List Str := ["AtStrife", "BadName", "BadParting", "BadRow", "BadSize", "BadSplit", "BadText", "CrossedField", "Crossing", "EmptyBook", "EndsDiffer", "NoRun", "NoStrife", "NotWithin", "OrderRefused", "OtherPond", "OutOfRange", "RepeatedName", "SameField", "SameLot", "StepRefused", "Stuck", "TooMany", "Ungranted"]
/-- the other classes of errors: none of UnknownLot's -/
structure OthU (K : PySem.W.Frag) (mg : Str → Option Value) (C : Addr) : Prop where
  ex : ∃ f : Str → Addr, ∀ n ∈ othersU, mg n = some (.ref (f n)) ∧ PySem.W.kitOne K (.ref C) (.ref (f n)) = some false
  ve : PySem.W.kitOne K (.ref C) (.type "ValueError") = some true
/-- [('UnknownLot', text)] -/
def sp_law_errorU (C : Addr) : Addr → Value → Option Addr → Sp := fun a cls d vs H Q _ => ∃ (dd : Addr) (x : Str), vs = [.ref a] ∧ cls = .ref C ∧ d = some dd ∧ H dd = some (.xd [("name", .str x)]) ∧
  ∀ (l t : Addr) (H' : Hp), Same H H' → H l = none → H t = none → H' l = some (.lst [.ref t]) → H' t = some (.tup [.str (Str.ofString "UnknownLot"), .str x]) → Q (.ref l) H'
theorem ok_law_error (D : Dn K mg "_law_error" s_law_error) (B : Blt mg) {C : Addr} (bd : Bad P w K mg base "UnknownLot" "name" C) (oth : OthU K mg C) : Ce P w K mg base 1 "_law_error" (sp_law_errorU C) := by
  refine ce_of D sc_law_error b_law_error (fun a cls d vs H Q E h => ?_) (fun f cdv A outer s H vs Q E a oe cls d hr xz xf h => ?_)
  · obtain ⟨dd, x, rfl, _⟩ := h
    rfl
  · obtain ⟨dd, x, rfl, rfl, rfl, hd, q⟩ := h
    obtain ⟨adr, ho⟩ := oth.ex
    have g : ∀ n ∈ othersU, ∃ u, mg n = some u ∧ RelV (.ref (adr n)) u := fun n hn => ⟨_, (ho n hn).1, rfl⟩
    have g_UnknownLot : ∃ u, mg "UnknownLot" = some u ∧ RelV (.ref C) u := ⟨_, bd.nm, rfl⟩
    have g_AtStrife := g "AtStrife" (by decide +kernel)
    have g_BadParting := g "BadParting" (by decide +kernel)
    have g_BadRow := g "BadRow" (by decide +kernel)
    have g_BadSize := g "BadSize" (by decide +kernel)
    have g_BadSplit := g "BadSplit" (by decide +kernel)
    have g_BadText := g "BadText" (by decide +kernel)
    have g_CrossedField := g "CrossedField" (by decide +kernel)
    have g_Crossing := g "Crossing" (by decide +kernel)
    have g_EmptyBook := g "EmptyBook" (by decide +kernel)
    have g_EndsDiffer := g "EndsDiffer" (by decide +kernel)
    have g_NoRun := g "NoRun" (by decide +kernel)
    have g_NoStrife := g "NoStrife" (by decide +kernel)
    have g_NotWithin := g "NotWithin" (by decide +kernel)
    have g_OrderRefused := g "OrderRefused" (by decide +kernel)
    have g_OtherPond := g "OtherPond" (by decide +kernel)
    have g_OutOfRange := g "OutOfRange" (by decide +kernel)
    have g_RepeatedName := g "RepeatedName" (by decide +kernel)
    have g_SameField := g "SameField" (by decide +kernel)
    have g_SameLot := g "SameLot" (by decide +kernel)
    have g_StepRefused := g "StepRefused" (by decide +kernel)
    have g_Stuck := g "Stuck" (by decide +kernel)
    have g_TooMany := g "TooMany" (by decide +kernel)
    have g_Ungranted := g "Ungranted" (by decide +kernel)
    have g_BadName := g "BadName" (by decide +kernel)
    have xT := bd.ex
    have xfT := bd.xf
    have xno_name := bd.no
    have xp : (a, oe) ∈ [(a, oe)] := List.mem_cons_self
    refine ⟨_, (pss_cons (ps_set (i := 1) sc_law_error.nd rfl (.inl rfl) (pe_lst pa_nil))
      (pss_cons (ps_if (pt_val (pe_callB (cr_isX xT xp xz xf) (by rfl) B.isinstance (by decide +kernel) (pa_cons (pv 0) (pa_cons (pe_gc rfl g_UnknownLot) pa_nil)))) (pss_one (ps_expr (pe_ml PySem.F.slot_list_append PySem.F.type_list_append mt_app (pv 1) (pa_cons (pe_tup (pa_cons pe_str (pa_cons (pe_xF xfT (xno_name) xp xz xf (pv 0)) pa_nil))) pa_nil)))) pss_nil)
      (pss_cons (ps_if (PW.pt (pw_or (pt_val (pe_callB (cr_isX xT xp xz xf) (by rfl) B.isinstance (by decide +kernel) (pa_cons (pv 0) (pa_cons (pe_tup (pa_cons (pe_gc rfl g_AtStrife) (pa_cons (pe_gc rfl g_BadName) (pa_cons (pe_gc rfl g_BadParting) (pa_cons (pe_gc rfl g_BadRow) (pa_cons (pe_gc rfl g_BadSize) (pa_cons (pe_gc rfl g_BadSplit) (pa_cons (pe_gc rfl g_BadText) (pa_cons (pe_gc rfl g_CrossedField) (pa_cons (pe_gc rfl g_Crossing) (pa_cons (pe_gc rfl g_EmptyBook) (pa_cons (pe_gc rfl g_EndsDiffer) (pa_cons (pe_gc rfl g_NoRun) (pa_cons (pe_gc rfl g_NoStrife) (pa_cons (pe_gc rfl g_NotWithin) (pa_cons (pe_gc rfl g_OrderRefused) (pa_cons (pe_gc rfl g_OtherPond) (pa_cons (pe_gc rfl g_OutOfRange) (pa_cons (pe_gc rfl g_RepeatedName) (pa_cons (pe_gc rfl g_SameField) (pa_cons (pe_gc rfl g_SameLot) (pa_cons (pe_gc rfl g_StepRefused) (pa_cons (pe_gc rfl g_Stuck) (pa_cons (pe_gc rfl g_TooMany) (pa_cons (pe_gc rfl g_Ungranted) pa_nil))))))))))))))))))))))))) pa_nil)))) (pw_or1 (pt_not (pt_val (pe_callB (cr_isX xT xp xz xf) (by rfl) B.isinstance (by decide +kernel) (pa_cons (pv 0) (pa_cons (pe_bltn (v := .ty "ValueError") (u := .type "ValueError") (by rfl) B.ValueError (by decide +kernel) rfl) pa_nil)))))))) (pss_one (ps_expr (pe_ml PySem.F.slot_list_append PySem.F.type_list_append mt_app (pv 1) (pa_cons (pe_tup (pa_cons pe_str pa_nil)) pa_nil)))) pss_nil)
      (pss_one (ps_ret (pv 1)))))), ?_⟩
    rw [show L2.start N_law_error [.ref a] = [some (.ref a), none] from rfl]
    simp only [tSeq, tNext, tDrop, tRet, tRetN, tIfS, tAsg, gName, tAug, ipI, tVar, tC, tOp, tUn, rI, rI0, rU, tCons, tNil, tCB, tTup, tLst, tTest, tB, tAnd, tOr, tNot, tAndV, tOrV, tNotV, tIf, tCl, tCd, tCk, gSub, rPutL, rAtQ, rIntI, rLenQ, rLenS, rListQ, rTupL, rTupQ, rIsQ_c, kd_non, kd_bl, kd_int, kd_str, kd_ref, kdO_lst, kdO_tup, kit_NoneType_bool, kit_NoneType_int, kit_NoneType_str, kit_NoneType_list, kit_NoneType_tuple, kit_bool_bool, kit_bool_int, kit_bool_str, kit_bool_list, kit_bool_tuple, kit_int_bool, kit_int_int, kit_int_str, kit_int_list, kit_int_tuple, kit_str_bool, kit_str_int, kit_str_str, kit_str_list, kit_str_tuple, kit_list_bool, kit_list_int, kit_list_str, kit_list_list, kit_list_tuple, kit_tuple_bool, kit_tuple_int, kit_tuple_str, kit_tuple_list, kit_tuple_tuple, V.ty.injEq, rSortQ, rSlQ, rMulS, tJn, rAtX, rSlS, tSl, tPart, tNoPart, cut_lo2, cut_hi2, rInQ, gLq, gTq, gC_c, gNil, tChain, List.cons_append, List.nil_append, tBL, tBL0, tBad, tCr, tCe, tXF, cxH_K, HO.xd.injEq, rApp, rPopN, rRevL, seqAt_lst, seqAt_tup, at_0, at_1, at_2, at_3, at_4, ix_0, ix_1, ix_2, ix_3, ix_4, cx_K, upd_same, List.length_cons, List.length_nil, Nat.reduceAdd,  rEq, rNe, tRevL, V.int.injEq, V.bl.injEq, V.str.injEq, V.ref.injEq, List.cons.injEq, and_true, true_and, exists_and_left, exists_and_right, exists_eq_left, exists_eq_left', exists_eq_right, exists_eq_right', exists_const, Option.some.injEq, List.getElem?_cons_zero, List.getElem?_cons_succ, List.set_cons_zero, List.set_cons_succ, decide_eq_true_eq, decide_true, decide_false,  scal_ii, scal_bb, scal_ss, cmul_r, cdiv_l, cpow_12, cpow_18, cpow_40, HO.lst.injEq, HO.tup.injEq, upd_upd, Int.reduceToNat,  decide_not, Bool.not_eq_true', decide_eq_false_iff_not, if_true, if_false, Bool.false_eq_true, Bool.true_eq_false, reduceCtorEq, Int.reduceNeg, Nat.reduceLT, Int.reduceLT, Int.reducePow, gt_iff_lt]
    refine ⟨sz_of (by decide), fun p hp => ?_⟩
    have np : dd ≠ p := ne_of_none hd hp
    have hd1 : upd H p (.lst []) dd = some (.xd [("name", .str x)]) := by rw [upd_ne np]; exact hd
    refine ⟨[("name", .str x)], hd1, .ref C, true, rfl, .inl ⟨.ref C, .own C, kit_self⟩, ?_⟩
    have lk : ([(Str.ofString "name", V.str x)] : List (Str × V)).lookup (Str.ofString "name") = some (V.str x) := by rw [lookup_put, if_pos rfl]
    simp only [tSeq, tNext, tDrop, tRet, tRetN, tIfS, tAsg, gName, tAug, ipI, tVar, tC, tOp, tUn, rI, rI0, rU, tCons, tNil, tCB, tTup, tLst, tTest, tB, tAnd, tOr, tNot, tAndV, tOrV, tNotV, tIf, tCl, tCd, tCk, gSub, rPutL, rAtQ, rIntI, rLenQ, rLenS, rListQ, rTupL, rTupQ, rIsQ_c, kd_non, kd_bl, kd_int, kd_str, kd_ref, kdO_lst, kdO_tup, kit_NoneType_bool, kit_NoneType_int, kit_NoneType_str, kit_NoneType_list, kit_NoneType_tuple, kit_bool_bool, kit_bool_int, kit_bool_str, kit_bool_list, kit_bool_tuple, kit_int_bool, kit_int_int, kit_int_str, kit_int_list, kit_int_tuple, kit_str_bool, kit_str_int, kit_str_str, kit_str_list, kit_str_tuple, kit_list_bool, kit_list_int, kit_list_str, kit_list_list, kit_list_tuple, kit_tuple_bool, kit_tuple_int, kit_tuple_str, kit_tuple_list, kit_tuple_tuple, V.ty.injEq, rSortQ, rSlQ, rMulS, tJn, rAtX, rSlS, tSl, tPart, tNoPart, cut_lo2, cut_hi2, rInQ, gLq, gTq, gC_c, gNil, tChain, List.cons_append, List.nil_append, tBL, tBL0, tBad, tCr, tCe, tXF, cxH_K, HO.xd.injEq, rApp, rPopN, rRevL, seqAt_lst, seqAt_tup, at_0, at_1, at_2, at_3, at_4, ix_0, ix_1, ix_2, ix_3, ix_4, cx_K, upd_same, List.length_cons, List.length_nil, Nat.reduceAdd,  rEq, rNe, tRevL, V.int.injEq, V.bl.injEq, V.str.injEq, V.ref.injEq, List.cons.injEq, and_true, true_and, exists_and_left, exists_and_right, exists_eq_left, exists_eq_left', exists_eq_right, exists_eq_right', exists_const, Option.some.injEq, List.getElem?_cons_zero, List.getElem?_cons_succ, List.set_cons_zero, List.set_cons_succ, decide_eq_true_eq, decide_true, decide_false,  scal_ii, scal_bb, scal_ss, cmul_r, cdiv_l, cpow_12, cpow_18, cpow_40, HO.lst.injEq, HO.tup.injEq, upd_upd, Int.reduceToNat,  decide_not, Bool.not_eq_true', decide_eq_false_iff_not, if_true, if_false, Bool.false_eq_true, Bool.true_eq_false, reduceCtorEq, Int.reduceNeg, Nat.reduceLT, Int.reduceLT, Int.reducePow, gt_iff_lt, hd1, lk]
    refine ⟨⟨_, rfl⟩, sz_of (by decide), fun p1 hp1 => ?_⟩
    have n1 : p ≠ p1 := ne_of_none upd_same hp1
    have z1 : H p1 = none := by rw [upd_ne n1.symm] at hp1; exact hp1
    refine ⟨[], by rw [upd_ne n1, upd_same], sz_lt (by decide), sz_of (by decide), fun p2 hp2 => ?_⟩
    have n2 : p ≠ p2 := ne_of_none upd_same hp2
    have n3 : p1 ≠ p2 := ne_of_none (by rw [upd_ne n1.symm, upd_same]) hp2
    have z2 : H p2 = none := by rw [upd_ne n2.symm, upd_ne n3.symm, upd_ne n2.symm] at hp2; exact hp2
    have S0 : Same H H := fun _ _ h => h
    have S3 := same_upd (o := .tup ((othersU.map adr).map V.ref)) (same_upd (o := .lst ([] ++ [V.ref p1])) (same_upd (o := .tup [V.str (Str.ofString "UnknownLot"), V.str x]) (same_upd (o := .lst []) S0 hp) z1) hp) z2
    refine ⟨[("name", .str x)], S3 _ _ hd, .ref p2, false, rfl, .inr ⟨p2, (othersU.map adr).map V.ref, (othersU.map adr).map Value.ref, rfl, upd_same, cls_refs _, kitAny_none fun u hu => ?_⟩, ?_⟩
    · obtain ⟨c, hc, rfl⟩ := List.mem_map.mp hu
      obtain ⟨n, hn, rfl⟩ := List.mem_map.mp hc
      exact (ho n hn).2
    simp only [tSeq, tNext, tDrop, tRet, tRetN, tIfS, tAsg, gName, tAug, ipI, tVar, tC, tOp, tUn, rI, rI0, rU, tCons, tNil, tCB, tTup, tLst, tTest, tB, tAnd, tOr, tNot, tAndV, tOrV, tNotV, tIf, tCl, tCd, tCk, gSub, rPutL, rAtQ, rIntI, rLenQ, rLenS, rListQ, rTupL, rTupQ, rIsQ_c, kd_non, kd_bl, kd_int, kd_str, kd_ref, kdO_lst, kdO_tup, kit_NoneType_bool, kit_NoneType_int, kit_NoneType_str, kit_NoneType_list, kit_NoneType_tuple, kit_bool_bool, kit_bool_int, kit_bool_str, kit_bool_list, kit_bool_tuple, kit_int_bool, kit_int_int, kit_int_str, kit_int_list, kit_int_tuple, kit_str_bool, kit_str_int, kit_str_str, kit_str_list, kit_str_tuple, kit_list_bool, kit_list_int, kit_list_str, kit_list_list, kit_list_tuple, kit_tuple_bool, kit_tuple_int, kit_tuple_str, kit_tuple_list, kit_tuple_tuple, V.ty.injEq, rSortQ, rSlQ, rMulS, tJn, rAtX, rSlS, tSl, tPart, tNoPart, cut_lo2, cut_hi2, rInQ, gLq, gTq, gC_c, gNil, tChain, List.cons_append, List.nil_append, tBL, tBL0, tBad, tCr, tCe, tXF, cxH_K, HO.xd.injEq, rApp, rPopN, rRevL, seqAt_lst, seqAt_tup, at_0, at_1, at_2, at_3, at_4, ix_0, ix_1, ix_2, ix_3, ix_4, cx_K, upd_same, List.length_cons, List.length_nil, Nat.reduceAdd,  rEq, rNe, tRevL, V.int.injEq, V.bl.injEq, V.str.injEq, V.ref.injEq, List.cons.injEq, and_true, true_and, exists_and_left, exists_and_right, exists_eq_left, exists_eq_left', exists_eq_right, exists_eq_right', exists_const, Option.some.injEq, List.getElem?_cons_zero, List.getElem?_cons_succ, List.set_cons_zero, List.set_cons_succ, decide_eq_true_eq, decide_true, decide_false,  scal_ii, scal_bb, scal_ss, cmul_r, cdiv_l, cpow_12, cpow_18, cpow_40, HO.lst.injEq, HO.tup.injEq, upd_upd, Int.reduceToNat,  decide_not, Bool.not_eq_true', decide_eq_false_iff_not, if_true, if_false, Bool.false_eq_true, Bool.true_eq_false, reduceCtorEq, Int.reduceNeg, Nat.reduceLT, Int.reduceLT, Int.reducePow, gt_iff_lt]
    refine ⟨[("name", .str x)], S3 _ _ hd, .ty "ValueError", true, rfl, .inl ⟨.type "ValueError", .ty _, oth.ve⟩, ?_⟩
    simp only [tSeq, tNext, tDrop, tRet, tRetN, tIfS, tAsg, gName, tAug, ipI, tVar, tC, tOp, tUn, rI, rI0, rU, tCons, tNil, tCB, tTup, tLst, tTest, tB, tAnd, tOr, tNot, tAndV, tOrV, tNotV, tIf, tCl, tCd, tCk, gSub, rPutL, rAtQ, rIntI, rLenQ, rLenS, rListQ, rTupL, rTupQ, rIsQ_c, kd_non, kd_bl, kd_int, kd_str, kd_ref, kdO_lst, kdO_tup, kit_NoneType_bool, kit_NoneType_int, kit_NoneType_str, kit_NoneType_list, kit_NoneType_tuple, kit_bool_bool, kit_bool_int, kit_bool_str, kit_bool_list, kit_bool_tuple, kit_int_bool, kit_int_int, kit_int_str, kit_int_list, kit_int_tuple, kit_str_bool, kit_str_int, kit_str_str, kit_str_list, kit_str_tuple, kit_list_bool, kit_list_int, kit_list_str, kit_list_list, kit_list_tuple, kit_tuple_bool, kit_tuple_int, kit_tuple_str, kit_tuple_list, kit_tuple_tuple, V.ty.injEq, rSortQ, rSlQ, rMulS, tJn, rAtX, rSlS, tSl, tPart, tNoPart, cut_lo2, cut_hi2, rInQ, gLq, gTq, gC_c, gNil, tChain, List.cons_append, List.nil_append, tBL, tBL0, tBad, tCr, tCe, tXF, cxH_K, HO.xd.injEq, rApp, rPopN, rRevL, seqAt_lst, seqAt_tup, at_0, at_1, at_2, at_3, at_4, ix_0, ix_1, ix_2, ix_3, ix_4, cx_K, upd_same, List.length_cons, List.length_nil, Nat.reduceAdd,  rEq, rNe, tRevL, V.int.injEq, V.bl.injEq, V.str.injEq, V.ref.injEq, List.cons.injEq, and_true, true_and, exists_and_left, exists_and_right, exists_eq_left, exists_eq_left', exists_eq_right, exists_eq_right', exists_const, Option.some.injEq, List.getElem?_cons_zero, List.getElem?_cons_succ, List.set_cons_zero, List.set_cons_succ, decide_eq_true_eq, decide_true, decide_false,  scal_ii, scal_bb, scal_ss, cmul_r, cdiv_l, cpow_12, cpow_18, cpow_40, HO.lst.injEq, HO.tup.injEq, upd_upd, Int.reduceToNat,  decide_not, Bool.not_eq_true', decide_eq_false_iff_not, if_true, if_false, Bool.false_eq_true, Bool.true_eq_false, reduceCtorEq, Int.reduceNeg, Nat.reduceLT, Int.reduceLT, Int.reducePow, gt_iff_lt]
    exact q p p1 _ S3 hp z1 (by rw [upd_ne n2, upd_same] <;> rfl) (by rw [upd_ne n3, upd_ne n1.symm, upd_same])
/-! ### what is due -/
inductive DueD (ns g1 g2 : List Str) : Dt → Prop where
  | bad {z : Str} : (g1 ++ g2).find? (fun z => decide (z ∉ ns)) = some z → DueD ns g1 g2 (.tup [.str (Str.ofString "error"), .lst [.tup [.str (Str.ofString "UnknownLot"), .str z]]])
  | non : (∀ z ∈ g1 ++ g2, z ∈ ns) → FstN ns g1 g2 → DueD ns g1 g2 (.tup [.str (Str.ofString "told"), .non])
  | four {i j k m : Nat} : (∀ z ∈ g1 ++ g2, z ∈ ns) → FstS ns g1 g2 i j k m → DueD ns g1 g2 (.tup [.str (Str.ofString "told"), .tup [.str (nth ns i), .str (nth ns j), .str (nth ns k), .str (nth ns m)]])
theorem due_un {ns g1 g2 : List Str} {d d' : Dt} (h : DueD ns g1 g2 d) (h' : DueD ns g1 g2 d') : d = d' := by
  have no : ∀ {z : Str}, (g1 ++ g2).find? (fun z => decide (z ∉ ns)) = some z → (∀ z ∈ g1 ++ g2, z ∈ ns) → False := fun e a => by
    have h1 := List.find?_some e
    have h2 := a _ (List.mem_of_find?_eq_some e)
    exact (of_decide_eq_true h1) h2
  cases h with
  | bad e =>
    cases h' with
    | bad e' => rw [e] at e'; cases e'; rfl
    | non a f => exact (no e a).elim
    | four a f => exact (no e a).elim
  | non a f =>
    cases h' with
    | bad e' => exact (no e' a).elim
    | non a' f' => rfl
    | four a' f' => exact (f _ _ _ _ f'.1).elim
  | four a f =>
    cases h' with
    | bad e' => exact (no e' a).elim
    | non a' f' => exact (f' _ _ _ _ f.1).elim
    | four a' f' =>
      obtain ⟨rfl, rfl, rfl, rfl⟩ := fst_un f f'
      rfl
def AnyN : Addr → Prop := fun _ => True
abbrev s_law_told : Stmt := topS 69
abbrev N_law_told : List Str := ["some_pond", "one_group", "two_group", "e"]
theorem sc_law_told : FnScope N_law_told ["some_pond", "one_group", "two_group"] (defScope s_law_told) := ⟨rfl, rfl, rfl, by decide +kernel, rfl, by decide +kernel, by decide +kernel⟩
theorem b_law_told : BindO "_law_told" s_law_told ["some_pond", "one_group", "two_group"] := fun _ _ _ _ _ _ us hl => match us, hl with | [_, _, _], _ => rfl

def sp_told (CP : Addr) : Sp := fun vs H Q _ => ∃ (p a b : Addr) (ns g1 g2 : List Str), vs = [.ref p, .ref a, .ref b] ∧ PlAt CP H p ns ∧ ns.length ≤ 10 ∧ ns.Nodup ∧ SqX H a (g1.map V.str) ∧ SqX H b (g2.map V.str) ∧ g1.length ≤ 50 ∧ g2.length ≤ 50 ∧ (∀ z ∈ g1 ++ g2, Tx 1000 z) ∧
  ∀ (v : V) (H' : Hp) (d : Dt), Same H H' → DueD ns g1 g2 d → Rp AnyN H' 5 v d → Q v H'
theorem ok_told (D : Dn K mg "_law_told" s_law_told) {CP CU HE : Addr} (m_HedgeError : mg "HedgeError" = some (.ref HE)) (sub : PySem.W.exmOne K (.ref CU) (.ref HE) = some true) (c_groups_cross : Cr P w K mg base 4 "groups_cross" (sp_groups_cross CP CU))
    (c_law_error : Ce P w K mg base 1 "_law_error" (sp_law_errorU CU)) : Cl P w K mg base 5 "_law_told" (sp_told CP) := by
  refine cl_of D sc_law_told b_law_told (fun vs H Q E h => ?_) (fun f cdv A outer s H vs Q E hr h => ?_)
  · obtain ⟨p, a, b, ns, g1, g2, rfl, _⟩ := h
    rfl
  · obtain ⟨p, a, b, ns, g1, g2, rfl, hp, hn, nd, ha, hb, l1, l2, tx, q⟩ := h
    refine ⟨_, (pss_one (ps_try_as (i := 3) rfl rfl sc_law_told.nd rfl rfl ⟨rfl, by decide, .inl m_HedgeError⟩ takes0 (fun _ _ _ tk _ => (pss_one (ps_ret (pe_tup (pa_cons pe_str (pa_cons (pe_cr c_groups_cross tk hr (by omega) rfl (pa_cons (pv 0) (pa_cons (pv 1) (pa_cons (pv 2) pa_nil)))) pa_nil)))))) (fun _ _ _ _ _ hz hf => (pss_one (ps_ret (pe_tup (pa_cons pe_str (pa_cons (pe_ce c_law_error List.mem_cons_self hz hf (roomH_mark hr _) (by omega) rfl (pa_cons (pv 3) pa_nil)) pa_nil)))))))), ?_⟩
    rw [show L2.start N_law_told [.ref p, .ref a, .ref b] = [some (.ref p), some (.ref a), some (.ref b), none] from rfl]
    simp only [tSeq, tNext, tDrop, tRet, tRetN, tIfS, tAsg, gName, tAug, ipI, tVar, tC, tOp, tUn, rI, rI0, rU, tCons, tNil, tCB, tTup, tLst, tTest, tB, tAnd, tOr, tNot, tAndV, tOrV, tNotV, tIf, tCl, tCd, tCk, gSub, rPutL, rAtQ, rIntI, rLenQ, rLenS, rListQ, rTupL, rTupQ, rIsQ_c, kd_non, kd_bl, kd_int, kd_str, kd_ref, kdO_lst, kdO_tup, kit_NoneType_bool, kit_NoneType_int, kit_NoneType_str, kit_NoneType_list, kit_NoneType_tuple, kit_bool_bool, kit_bool_int, kit_bool_str, kit_bool_list, kit_bool_tuple, kit_int_bool, kit_int_int, kit_int_str, kit_int_list, kit_int_tuple, kit_str_bool, kit_str_int, kit_str_str, kit_str_list, kit_str_tuple, kit_list_bool, kit_list_int, kit_list_str, kit_list_list, kit_list_tuple, kit_tuple_bool, kit_tuple_int, kit_tuple_str, kit_tuple_list, kit_tuple_tuple, V.ty.injEq, rSortQ, rSlQ, rMulS, tJn, rAtX, rSlS, tSl, tPart, tNoPart, cut_lo2, cut_hi2, rInQ, gLq, gTq, gC_c, gNil, tChain, List.cons_append, List.nil_append, tBL, tBL0, tBad, tCr, tCe, tXF, cxH_K, HO.xd.injEq, rApp, rPopN, rRevL, seqAt_lst, seqAt_tup, at_0, at_1, at_2, at_3, at_4, ix_0, ix_1, ix_2, ix_3, ix_4, cx_K, upd_same, List.length_cons, List.length_nil, Nat.reduceAdd,  rEq, rNe, tRevL, V.int.injEq, V.bl.injEq, V.str.injEq, V.ref.injEq, List.cons.injEq, and_true, true_and, exists_and_left, exists_and_right, exists_eq_left, exists_eq_left', exists_eq_right, exists_eq_right', exists_const, Option.some.injEq, List.getElem?_cons_zero, List.getElem?_cons_succ, List.set_cons_zero, List.set_cons_succ, decide_eq_true_eq, decide_true, decide_false,  scal_ii, scal_bb, scal_ss, cmul_r, cdiv_l, cpow_12, cpow_18, cpow_40, HO.lst.injEq, HO.tup.injEq, upd_upd, Int.reduceToNat,  decide_not, Bool.not_eq_true', decide_eq_false_iff_not, if_true, if_false, Bool.false_eq_true, Bool.true_eq_false, reduceCtorEq, Int.reduceNeg, Nat.reduceLT, Int.reduceLT, Int.reducePow, gt_iff_lt]
    refine ⟨p, a, b, ns, g1, g2, rfl, hp, hn, ha, hb, l1, l2, tx, fun z hz d H1 r1 hd => ⟨true, sub, fun _ x hx => ?_, fun h => by cases h⟩, fun is js P1 P2 ain => ⟨fun e H1 r1 => ⟨sz_of (by decide), fun t ht => q _ _ _ (fun b o e => same_new ht b o (r1 b o e)) (.non ain (fst_none nd P1 P2 e)) ?_⟩, fun r e t H1 r1 ft ht => ⟨sz_of (by decide), fun u hu => ?_⟩⟩⟩
    · simp only [tSeq, tNext, tDrop, tRet, tRetN, tIfS, tAsg, gName, tAug, ipI, tVar, tC, tOp, tUn, rI, rI0, rU, tCons, tNil, tCB, tTup, tLst, tTest, tB, tAnd, tOr, tNot, tAndV, tOrV, tNotV, tIf, tCl, tCd, tCk, gSub, rPutL, rAtQ, rIntI, rLenQ, rLenS, rListQ, rTupL, rTupQ, rIsQ_c, kd_non, kd_bl, kd_int, kd_str, kd_ref, kdO_lst, kdO_tup, kit_NoneType_bool, kit_NoneType_int, kit_NoneType_str, kit_NoneType_list, kit_NoneType_tuple, kit_bool_bool, kit_bool_int, kit_bool_str, kit_bool_list, kit_bool_tuple, kit_int_bool, kit_int_int, kit_int_str, kit_int_list, kit_int_tuple, kit_str_bool, kit_str_int, kit_str_str, kit_str_list, kit_str_tuple, kit_list_bool, kit_list_int, kit_list_str, kit_list_list, kit_list_tuple, kit_tuple_bool, kit_tuple_int, kit_tuple_str, kit_tuple_list, kit_tuple_tuple, V.ty.injEq, rSortQ, rSlQ, rMulS, tJn, rAtX, rSlS, tSl, tPart, tNoPart, cut_lo2, cut_hi2, rInQ, gLq, gTq, gC_c, gNil, tChain, List.cons_append, List.nil_append, tBL, tBL0, tBad, tCr, tCe, tXF, cxH_K, HO.xd.injEq, rApp, rPopN, rRevL, seqAt_lst, seqAt_tup, at_0, at_1, at_2, at_3, at_4, ix_0, ix_1, ix_2, ix_3, ix_4, cx_K, upd_same, List.length_cons, List.length_nil, Nat.reduceAdd,  rEq, rNe, tRevL, V.int.injEq, V.bl.injEq, V.str.injEq, V.ref.injEq, List.cons.injEq, and_true, true_and, exists_and_left, exists_and_right, exists_eq_left, exists_eq_left', exists_eq_right, exists_eq_right', exists_const, Option.some.injEq, List.getElem?_cons_zero, List.getElem?_cons_succ, List.set_cons_zero, List.set_cons_succ, decide_eq_true_eq, decide_true, decide_false,  scal_ii, scal_bb, scal_ss, cmul_r, cdiv_l, cpow_12, cpow_18, cpow_40, HO.lst.injEq, HO.tup.injEq, upd_upd, Int.reduceToNat,  decide_not, Bool.not_eq_true', decide_eq_false_iff_not, if_true, if_false, Bool.false_eq_true, Bool.true_eq_false, reduceCtorEq, Int.reduceNeg, Nat.reduceLT, Int.reduceLT, Int.reducePow, gt_iff_lt]
      refine ⟨d, z, rfl, rfl, rfl, hd, fun l t H2 r2 nl nt hl ht => ⟨sz_of (by decide), fun p hp => q _ _ _ (fun b o e => same_new hp b o (r2 b o (r1 b o e))) (.bad hz) ?_⟩⟩
      exact ⟨p, _, rfl, trivial, upd_same, (by show 2 ≤ 1000; decide), .cons rfl (.cons ⟨l, _, rfl, trivial, (upd_ne (ne_of_none hl hp)).trans hl, (by show 1 ≤ 1000; decide), .cons ⟨t, _, rfl, trivial, (upd_ne (ne_of_none ht hp)).trans ht, (by show 2 ≤ 1000; decide), .cons rfl (.cons rfl .nil)⟩ .nil⟩ .nil)⟩
    · exact ⟨t, _, rfl, trivial, upd_same, by show 2 ≤ 1000; decide, .cons rfl (.cons rfl .nil)⟩
    · obtain ⟨i, j, k, m, rfl, F⟩ := fst_some nd P1 P2 (fun z hz => ain z (List.mem_append_left _ hz)) (fun z hz => ain z (List.mem_append_right _ hz)) e
      refine q _ _ _ (fun b o e => same_new hu b o (r1 b o e)) (.four ain F) ?_
      exact ⟨u, _, rfl, trivial, upd_same, (by show 2 ≤ 1000; decide), .cons rfl (.cons ⟨t, _, rfl, trivial, (upd_ne (ne_of_none ht hu)).trans ht, (by show 4 ≤ 1000; decide), .cons rfl (.cons rfl (.cons rfl (.cons rfl .nil)))⟩ .nil)⟩
end
end Z
set_option Elab.async false
set_option linter.all false
set_option maxRecDepth 100000
set_option maxHeartbeats 4000000
namespace Z
open PySem PySem.Spec PyProof.Rows L2 L2H
section
variable {P : Program} {w : World} {K : PySem.W.Frag} {mg : Str → Option Value} {base : Heap}
theorem SqX.at {H : Hp} {a : Addr} {xs : List V} (h : SqX H a xs) : seqAt (H a) = some xs := by
  rcases h with h | h <;> (rw [h] <;> rfl)
theorem sqx_of {H : Hp} {a : Addr} {xs : List V} (h : seqAt (H a) = some xs) : SqX H a xs := by
  obtain ⟨o, e, h⟩ := seq_some h
  cases o with
  | lst ys => cases h; exact .inl e
  | tup ys => cases h; exact .inr e
  | _ => cases h
theorem fl_strs (g : List Str) : (g.map V.str).all flatV = true := by
  rw [List.all_eq_true]
  intro v hv
  obtain ⟨z, _, rfl⟩ := List.mem_map.mp hv
  rfl
abbrev s_law_due : Stmt := topS 70
abbrev N_law_due : List Str := ["lot_names", "one_group", "two_group", "word"]
theorem sc_law_due : FnScope N_law_due ["lot_names", "one_group", "two_group"] (defScope s_law_due) := ⟨rfl, rfl, rfl, by decide +kernel, rfl, by decide +kernel, by decide +kernel⟩
theorem b_law_due : BindO "_law_due" s_law_due ["lot_names", "one_group", "two_group"] := fun _ _ _ _ _ _ us hl => match us, hl with | [_, _, _], _ => rfl

def sp_due : Sp := fun vs H Q _ => ∃ (p a b : Addr) (ns g1 g2 : List Str), vs = [.ref p, .ref a, .ref b] ∧ H p = some (.lst (ns.map V.str)) ∧ ns.length ≤ 10 ∧ SqX H a (g1.map V.str) ∧ SqX H b (g2.map V.str) ∧ g1.length ≤ 50 ∧ g2.length ≤ 50 ∧
  ∀ (v : V) (H' : Hp) (d : Dt), Same H H' → DueD ns g1 g2 d → Rp AnyN H' 5 v d → Q v H'
theorem ok_due (D : Dn K mg "_law_due" s_law_due) (B : Blt mg) (c_law_group_quad : Cl P w K mg base 1 "_law_group_quad" sp_quad) : Cl P w K mg base 2 "_law_due" sp_due := by
  refine cl_of D sc_law_due b_law_due (fun vs H Q E h => ?_) (fun f cdv A outer s H vs Q E hr h => ?_)
  · obtain ⟨p, a, b, ns, g1, g2, rfl, _⟩ := h
    rfl
  · obtain ⟨p, a, b, ns, g1, g2, rfl, hp, hn, ha, hb, l1, l2, q⟩ := h
    refine ⟨_, (pss_cons (ps_for PassesOwn.never rfl (pi_list (pe_op op_catQ (pe_callTy call_listQ (by rfl) B.list (by decide +kernel) (pa_cons (pv 1) pa_nil)) (pe_callTy call_listQ (by rfl) B.list (by decide +kernel) (pa_cons (pv 2) pa_nil)))) (pg_name (i := 3) sc_law_due.nd rfl (.inl rfl)) (pss_one (ps_if (pt_cmpR op_ninQ (pv 3) (pv 0) (by rfl)) (pss_one (ps_ret (pe_tup (pa_cons pe_str (pa_cons (pe_lst (pa_cons (pe_tup (pa_cons pe_str (pa_cons (pv 3) pa_nil))) pa_nil)) pa_nil))))) pss_nil)))
      (pss_one (ps_ret (pe_tup (pa_cons pe_str (pa_cons (pe_cl c_law_group_quad hr (by omega) rfl (pa_cons (pv 0) (pa_cons (pv 1) (pa_cons (pv 2) pa_nil)))) pa_nil)))))), ?_⟩
    rw [show L2.start N_law_due [.ref p, .ref a, .ref b] = [some (.ref p), some (.ref a), some (.ref b), none] from rfl]
    simp only [tSeq, tNext, tDrop, tRet, tRetN, tIfS, tAsg, gName, tAug, ipI, tVar, tC, tOp, tUn, rI, rI0, rU, tCons, tNil, tCB, tTup, tLst, tTest, tB, tAnd, tOr, tNot, tAndV, tOrV, tNotV, tIf, tCl, tCd, tCk, gSub, rPutL, rAtQ, rIntI, rLenQ, rLenS, rListQ, rTupL, rTupQ, rIsQ_c, kd_non, kd_bl, kd_int, kd_str, kd_ref, kdO_lst, kdO_tup, kit_NoneType_bool, kit_NoneType_int, kit_NoneType_str, kit_NoneType_list, kit_NoneType_tuple, kit_bool_bool, kit_bool_int, kit_bool_str, kit_bool_list, kit_bool_tuple, kit_int_bool, kit_int_int, kit_int_str, kit_int_list, kit_int_tuple, kit_str_bool, kit_str_int, kit_str_str, kit_str_list, kit_str_tuple, kit_list_bool, kit_list_int, kit_list_str, kit_list_list, kit_list_tuple, kit_tuple_bool, kit_tuple_int, kit_tuple_str, kit_tuple_list, kit_tuple_tuple, V.ty.injEq, rSortQ, rSlQ, rMulS, tJn, rAtX, rSlS, tSl, tPart, tNoPart, cut_lo2, cut_hi2, rInQ, gLq, gTq, gC_c, gNil, tChain, List.cons_append, List.nil_append, tBL, tBL0, tBad, tCr, tCe, tXF, cxH_K, HO.xd.injEq, rApp, rPopN, rRevL, seqAt_lst, seqAt_tup, at_0, at_1, at_2, at_3, at_4, ix_0, ix_1, ix_2, ix_3, ix_4, cx_K, upd_same, List.length_cons, List.length_nil, Nat.reduceAdd,  rEq, rNe, tRevL, V.int.injEq, V.bl.injEq, V.str.injEq, V.ref.injEq, List.cons.injEq, and_true, true_and, exists_and_left, exists_and_right, exists_eq_left, exists_eq_left', exists_eq_right, exists_eq_right', exists_const, Option.some.injEq, List.getElem?_cons_zero, List.getElem?_cons_succ, List.set_cons_zero, List.set_cons_succ, decide_eq_true_eq, decide_true, decide_false,  scal_ii, scal_bb, scal_ss, cmul_r, cdiv_l, cpow_12, cpow_18, cpow_40, HO.lst.injEq, HO.tup.injEq, upd_upd, Int.reduceToNat,  decide_not, Bool.not_eq_true', decide_eq_false_iff_not, if_true, if_false, Bool.false_eq_true, Bool.true_eq_false, reduceCtorEq, Int.reduceNeg, Nat.reduceLT, Int.reduceLT, Int.reducePow, gt_iff_lt]
    refine forLE (fun l Hl => Hl l = some (.lst ((g1 ++ g2).map V.str)) ∧ Same H Hl) (fun X hX => ?_) (fun l Hl ⟨hl, sl⟩ => ?_)
    · simp only [tSeq, tNext, tDrop, tRet, tRetN, tIfS, tAsg, gName, tAug, ipI, tVar, tC, tOp, tUn, rI, rI0, rU, tCons, tNil, tCB, tTup, tLst, tTest, tB, tAnd, tOr, tNot, tAndV, tOrV, tNotV, tIf, tCl, tCd, tCk, gSub, rPutL, rAtQ, rIntI, rLenQ, rLenS, rListQ, rTupL, rTupQ, rIsQ_c, kd_non, kd_bl, kd_int, kd_str, kd_ref, kdO_lst, kdO_tup, kit_NoneType_bool, kit_NoneType_int, kit_NoneType_str, kit_NoneType_list, kit_NoneType_tuple, kit_bool_bool, kit_bool_int, kit_bool_str, kit_bool_list, kit_bool_tuple, kit_int_bool, kit_int_int, kit_int_str, kit_int_list, kit_int_tuple, kit_str_bool, kit_str_int, kit_str_str, kit_str_list, kit_str_tuple, kit_list_bool, kit_list_int, kit_list_str, kit_list_list, kit_list_tuple, kit_tuple_bool, kit_tuple_int, kit_tuple_str, kit_tuple_list, kit_tuple_tuple, V.ty.injEq, rSortQ, rSlQ, rMulS, tJn, rAtX, rSlS, tSl, tPart, tNoPart, cut_lo2, cut_hi2, rInQ, gLq, gTq, gC_c, gNil, tChain, List.cons_append, List.nil_append, tBL, tBL0, tBad, tCr, tCe, tXF, cxH_K, HO.xd.injEq, rApp, rPopN, rRevL, seqAt_lst, seqAt_tup, at_0, at_1, at_2, at_3, at_4, ix_0, ix_1, ix_2, ix_3, ix_4, cx_K, upd_same, List.length_cons, List.length_nil, Nat.reduceAdd,  rEq, rNe, tRevL, V.int.injEq, V.bl.injEq, V.str.injEq, V.ref.injEq, List.cons.injEq, and_true, true_and, exists_and_left, exists_and_right, exists_eq_left, exists_eq_left', exists_eq_right, exists_eq_right', exists_const, Option.some.injEq, List.getElem?_cons_zero, List.getElem?_cons_succ, List.set_cons_zero, List.set_cons_succ, decide_eq_true_eq, decide_true, decide_false,  scal_ii, scal_bb, scal_ss, cmul_r, cdiv_l, cpow_12, cpow_18, cpow_40, HO.lst.injEq, HO.tup.injEq, upd_upd, Int.reduceToNat,  decide_not, Bool.not_eq_true', decide_eq_false_iff_not, if_true, if_false, Bool.false_eq_true, Bool.true_eq_false, reduceCtorEq, Int.reduceNeg, Nat.reduceLT, Int.reduceLT, Int.reducePow, gt_iff_lt, rCatQ]
      refine ⟨_, ha.at, fun m1 f1 => ⟨_, (hb.same (same_new f1)).at, fun m2 f2 => ⟨_, same_new f2 _ _ upd_same, ?_, fun l hl => hX l _ ⟨by rw [upd_same, List.map_append], fun c o e => same_new hl c o (same_new f2 c o (same_new f1 c o e))⟩⟩⟩⟩
      rw [List.length_map, List.length_map]
      exact sz_of (by omega)
    refine z_forL l ((g1 ++ g2).map V.str) (fun Q q => q) (SqL.of hl) (fun i σ' H' => ∃ c, σ' = [some (.ref p), some (.ref a), some (.ref b), c] ∧ H' = Hl ∧ ∀ z ∈ (g1 ++ g2).take i, z ∈ ns) ⟨none, rfl, rfl, fun z hz => by simp at hz⟩ (fun i σ' H' hi hI => ?_) (fun i v σ' H' hv hI => ?_) (fun σ' H' hI => ?_)
    · obtain ⟨c, rfl, rfl, _⟩ := hI
      exact SqL.of hl
    · obtain ⟨c, rfl, rfl, hz⟩ := hI
      rw [List.getElem?_map] at hv
      obtain ⟨z, ez, rfl⟩ := Option.map_eq_some_iff.mp hv
      simp only [tSeq, tNext, tDrop, tRet, tRetN, tIfS, tAsg, gName, tAug, ipI, tVar, tC, tOp, tUn, rI, rI0, rU, tCons, tNil, tCB, tTup, tLst, tTest, tB, tAnd, tOr, tNot, tAndV, tOrV, tNotV, tIf, tCl, tCd, tCk, gSub, rPutL, rAtQ, rIntI, rLenQ, rLenS, rListQ, rTupL, rTupQ, rIsQ_c, kd_non, kd_bl, kd_int, kd_str, kd_ref, kdO_lst, kdO_tup, kit_NoneType_bool, kit_NoneType_int, kit_NoneType_str, kit_NoneType_list, kit_NoneType_tuple, kit_bool_bool, kit_bool_int, kit_bool_str, kit_bool_list, kit_bool_tuple, kit_int_bool, kit_int_int, kit_int_str, kit_int_list, kit_int_tuple, kit_str_bool, kit_str_int, kit_str_str, kit_str_list, kit_str_tuple, kit_list_bool, kit_list_int, kit_list_str, kit_list_list, kit_list_tuple, kit_tuple_bool, kit_tuple_int, kit_tuple_str, kit_tuple_list, kit_tuple_tuple, V.ty.injEq, rSortQ, rSlQ, rMulS, tJn, rAtX, rSlS, tSl, tPart, tNoPart, cut_lo2, cut_hi2, rInQ, gLq, gTq, gC_c, gNil, tChain, List.cons_append, List.nil_append, tBL, tBL0, tBad, tCr, tCe, tXF, cxH_K, HO.xd.injEq, rApp, rPopN, rRevL, seqAt_lst, seqAt_tup, at_0, at_1, at_2, at_3, at_4, ix_0, ix_1, ix_2, ix_3, ix_4, cx_K, upd_same, List.length_cons, List.length_nil, Nat.reduceAdd,  rEq, rNe, tRevL, V.int.injEq, V.bl.injEq, V.str.injEq, V.ref.injEq, List.cons.injEq, and_true, true_and, exists_and_left, exists_and_right, exists_eq_left, exists_eq_left', exists_eq_right, exists_eq_right', exists_const, Option.some.injEq, List.getElem?_cons_zero, List.getElem?_cons_succ, List.set_cons_zero, List.set_cons_succ, decide_eq_true_eq, decide_true, decide_false,  scal_ii, scal_bb, scal_ss, cmul_r, cdiv_l, cpow_12, cpow_18, cpow_40, HO.lst.injEq, HO.tup.injEq, upd_upd, Int.reduceToNat,  decide_not, Bool.not_eq_true', decide_eq_false_iff_not, if_true, if_false, Bool.false_eq_true, Bool.true_eq_false, reduceCtorEq, Int.reduceNeg, Nat.reduceLT, Int.reduceLT, Int.reducePow, gt_iff_lt]
      refine ⟨_, by rw [sl _ _ hp] <;> rfl, rfl, fl_strs ns, ?_⟩
      rw [inV_strs]
      by_cases hm : z ∈ ns
      · rw [if_neg (by simp [hm])]
        refine ⟨⟨_, rfl⟩, fun y hy => ?_⟩
        rw [List.take_succ, ez] at hy
        rcases List.mem_append.mp hy with h | h
        · exact hz y h
        · rw [show y = z by simpa using h]; exact hm
      · rw [if_pos (by simp [hm])]
        refine ⟨sz_of (by decide), fun t ht => ⟨sz_of (by decide), fun m hm2 => ⟨sz_of (by decide), fun u hu => q _ _ _ (fun c o e => same_new hu c o (same_new hm2 c o (same_new ht c o (sl c o e)))) (.bad (ff_hit hz ez hm)) ?_⟩⟩⟩
        exact ⟨u, _, rfl, trivial, upd_same, (by show 2 ≤ 1000; decide), .cons rfl (.cons ⟨m, _, rfl, trivial, same_new hu _ _ upd_same, (by show 1 ≤ 1000; decide), .cons ⟨t, _, rfl, trivial, same_new hu _ _ (same_new hm2 _ _ upd_same), (by show 2 ≤ 1000; decide), .cons rfl (.cons rfl .nil)⟩ .nil⟩ .nil)⟩
    · obtain ⟨c, rfl, rfl, hz⟩ := hI
      rw [List.length_map, List.take_length] at hz
      simp only [tSeq, tNext, tDrop, tRet, tRetN, tIfS, tAsg, gName, tAug, ipI, tVar, tC, tOp, tUn, rI, rI0, rU, tCons, tNil, tCB, tTup, tLst, tTest, tB, tAnd, tOr, tNot, tAndV, tOrV, tNotV, tIf, tCl, tCd, tCk, gSub, rPutL, rAtQ, rIntI, rLenQ, rLenS, rListQ, rTupL, rTupQ, rIsQ_c, kd_non, kd_bl, kd_int, kd_str, kd_ref, kdO_lst, kdO_tup, kit_NoneType_bool, kit_NoneType_int, kit_NoneType_str, kit_NoneType_list, kit_NoneType_tuple, kit_bool_bool, kit_bool_int, kit_bool_str, kit_bool_list, kit_bool_tuple, kit_int_bool, kit_int_int, kit_int_str, kit_int_list, kit_int_tuple, kit_str_bool, kit_str_int, kit_str_str, kit_str_list, kit_str_tuple, kit_list_bool, kit_list_int, kit_list_str, kit_list_list, kit_list_tuple, kit_tuple_bool, kit_tuple_int, kit_tuple_str, kit_tuple_list, kit_tuple_tuple, V.ty.injEq, rSortQ, rSlQ, rMulS, tJn, rAtX, rSlS, tSl, tPart, tNoPart, cut_lo2, cut_hi2, rInQ, gLq, gTq, gC_c, gNil, tChain, List.cons_append, List.nil_append, tBL, tBL0, tBad, tCr, tCe, tXF, cxH_K, HO.xd.injEq, rApp, rPopN, rRevL, seqAt_lst, seqAt_tup, at_0, at_1, at_2, at_3, at_4, ix_0, ix_1, ix_2, ix_3, ix_4, cx_K, upd_same, List.length_cons, List.length_nil, Nat.reduceAdd,  rEq, rNe, tRevL, V.int.injEq, V.bl.injEq, V.str.injEq, V.ref.injEq, List.cons.injEq, and_true, true_and, exists_and_left, exists_and_right, exists_eq_left, exists_eq_left', exists_eq_right, exists_eq_right', exists_const, Option.some.injEq, List.getElem?_cons_zero, List.getElem?_cons_succ, List.set_cons_zero, List.set_cons_succ, decide_eq_true_eq, decide_true, decide_false,  scal_ii, scal_bb, scal_ss, cmul_r, cdiv_l, cpow_12, cpow_18, cpow_40, HO.lst.injEq, HO.tup.injEq, upd_upd, Int.reduceToNat,  decide_not, Bool.not_eq_true', decide_eq_false_iff_not, if_true, if_false, Bool.false_eq_true, Bool.true_eq_false, reduceCtorEq, Int.reduceNeg, Nat.reduceLT, Int.reduceLT, Int.reducePow, gt_iff_lt]
      refine ⟨p, a, b, ns, g1, g2, rfl, sl _ _ hp, hn, same_seq sl ha.at, same_seq sl hb.at, fun F H1 s1 => ⟨sz_of (by decide), fun t ht => q _ _ _ (fun c o e => same_new ht c o (s1 c o (sl c o e))) (.non hz F) ?_⟩, fun i j k m F t H1 s1 ft ht => ⟨sz_of (by decide), fun u hu => q _ _ _ (fun c o e => same_new hu c o (s1 c o (sl c o e))) (.four hz F) ?_⟩⟩
      · exact ⟨t, _, rfl, trivial, upd_same, (by show 2 ≤ 1000; decide), .cons rfl (.cons rfl .nil)⟩
      · exact ⟨u, _, rfl, trivial, upd_same, (by show 2 ≤ 1000; decide), .cons rfl (.cons ⟨t, _, rfl, trivial, same_new hu _ _ ht, (by show 4 ≤ 1000; decide), .cons rfl (.cons rfl (.cons rfl (.cons rfl .nil)))⟩ .nil)⟩
theorem paired_strs {N : Addr → Prop} {H : Hp} {k : Nat} : ∀ ns : List Str, Paired (fun v d => Rp N H (k + 1) v d) (ns.map V.str) (ns.map Dt.str)
  | [] => .nil
  | n :: ns => .cons rfl (paired_strs ns)
def pairD (q : Str × Str) : Dt := .tup [.str q.1, .str q.2]
theorem rp_pairs {H : Hp} {k : Nat} : ∀ {ts : List Addr} {ss : List (Str × Str)}, Paired (fun (a : Addr) (q : Str × Str) => H a = some (.tup (pairV q))) ts ss → Paired (fun v d => Rp AnyN H (k + 2) v d) (ts.map V.ref) (ss.map pairD)
  | _, _, .nil => .nil
  | _, _, .cons r t => .cons ⟨_, _, rfl, trivial, r, (by show 2 ≤ 1000; decide), .cons rfl (.cons rfl .nil)⟩ (rp_pairs t)
abbrev s_law_pond_is : Stmt := topS 61
abbrev N_law_pond_is : List Str := ["some_pond", "lot_names", "strife_pairs"]
theorem sc_law_pond_is : FnScope N_law_pond_is ["some_pond", "lot_names", "strife_pairs"] (defScope s_law_pond_is) := ⟨rfl, rfl, rfl, by decide +kernel, rfl, by decide +kernel, by decide +kernel⟩
theorem b_law_pond_is : BindO "_law_pond_is" s_law_pond_is ["some_pond", "lot_names", "strife_pairs"] := fun _ _ _ _ _ _ us hl => match us, hl with | [_, _, _], _ => rfl

def sp_pond_is (CP : Addr) : Sp := fun vs H Q _ => ∃ (p l t : Addr) (ns : List Str) (ss : List (Str × Str)) (ts : List Addr), vs = [.ref p, .ref l, .ref t] ∧ PondAt CP H p ns ss ∧ H l = some (.lst (ns.map V.str)) ∧ ns.length ≤ 10 ∧ ss.length ≤ 1000 ∧ H t = some (.tup (ts.map V.ref)) ∧ Paired (fun (a : Addr) (q : Str × Str) => H a = some (.tup (pairV q))) ts ss ∧ ∀ H', Same H H' → Q (.bl true) H'
theorem ok_pond_is (D : Dn K mg "_law_pond_is" s_law_pond_is) (B : Blt mg) {CP : Addr} (pr_names : Pr P w K mg base CP "names" "_names") (pr_strifes : Pr P w K mg base CP "strifes" "_strifes") (c_law_same : Cl P w K mg base 3 "_law_same" (sp_same 3)) : Cl P w K mg base 4 "_law_pond_is" (sp_pond_is CP) := by
  refine cl_of D sc_law_pond_is b_law_pond_is (fun vs H Q E h => ?_) (fun f cdv A outer s H vs Q E hr h => ?_)
  · obtain ⟨p, l, t, ns, ss, ts, rfl, _⟩ := h
    rfl
  · obtain ⟨p, l, t, ns, ss, ts, rfl, hp, hl, hn, hss, ht, pr, q⟩ := h
    refine ⟨_, (pss_one (ps_ret (pe_and (pe_cl c_law_same hr (by omega) rfl (pa_cons (pe_pr pr_names hr (by omega) (pv 0)) (pa_cons (pe_callTy call_tupL (by rfl) B.tuple (by decide +kernel) (pa_cons (pv 1) pa_nil)) pa_nil))) (pe_one (pe_cl c_law_same hr (by omega) rfl (pa_cons (pe_pr pr_strifes hr (by omega) (pv 0)) (pa_cons (pe_callTy call_tupQ (by rfl) B.tuple (by decide +kernel) (pa_cons (pv 2) pa_nil)) pa_nil))))))), ?_⟩
    rw [show L2.start N_law_pond_is [.ref p, .ref l, .ref t] = [some (.ref p), some (.ref l), some (.ref t)] from rfl]
    simp only [tSeq, tNext, tDrop, tRet, tRetN, tIfS, tAsg, gName, tAug, ipI, tVar, tC, tOp, tUn, rI, rI0, rU, tCons, tNil, tCB, tTup, tLst, tTest, tB, tAnd, tOr, tNot, tAndV, tOrV, tNotV, tIf, tCl, tCd, tCk, gSub, rPutL, rAtQ, rIntI, rLenQ, rLenS, rListQ, rTupL, rTupQ, rIsQ_c, kd_non, kd_bl, kd_int, kd_str, kd_ref, kdO_lst, kdO_tup, kit_NoneType_bool, kit_NoneType_int, kit_NoneType_str, kit_NoneType_list, kit_NoneType_tuple, kit_bool_bool, kit_bool_int, kit_bool_str, kit_bool_list, kit_bool_tuple, kit_int_bool, kit_int_int, kit_int_str, kit_int_list, kit_int_tuple, kit_str_bool, kit_str_int, kit_str_str, kit_str_list, kit_str_tuple, kit_list_bool, kit_list_int, kit_list_str, kit_list_list, kit_list_tuple, kit_tuple_bool, kit_tuple_int, kit_tuple_str, kit_tuple_list, kit_tuple_tuple, V.ty.injEq, rSortQ, rSlQ, rMulS, tJn, rAtX, rSlS, tSl, tPart, tNoPart, cut_lo2, cut_hi2, rInQ, gLq, gTq, gC_c, gNil, tChain, List.cons_append, List.nil_append, tBL, tBL0, tBad, tCr, tCe, tXF, cxH_K, HO.xd.injEq, rApp, rPopN, rRevL, seqAt_lst, seqAt_tup, at_0, at_1, at_2, at_3, at_4, ix_0, ix_1, ix_2, ix_3, ix_4, cx_K, upd_same, List.length_cons, List.length_nil, Nat.reduceAdd,  rEq, rNe, tRevL, V.int.injEq, V.bl.injEq, V.str.injEq, V.ref.injEq, List.cons.injEq, and_true, true_and, exists_and_left, exists_and_right, exists_eq_left, exists_eq_left', exists_eq_right, exists_eq_right', exists_const, Option.some.injEq, List.getElem?_cons_zero, List.getElem?_cons_succ, List.set_cons_zero, List.set_cons_succ, decide_eq_true_eq, decide_true, decide_false,  scal_ii, scal_bb, scal_ss, cmul_r, cdiv_l, cpow_12, cpow_18, cpow_40, HO.lst.injEq, HO.tup.injEq, upd_upd, Int.reduceToNat,  decide_not, Bool.not_eq_true', decide_eq_false_iff_not, if_true, if_false, Bool.false_eq_true, Bool.true_eq_false, reduceCtorEq, Int.reduceNeg, Nat.reduceLT, Int.reduceLT, Int.reducePow, gt_iff_lt, tPr]
    obtain ⟨dx, n, d, t', e1, e2, e3, ts', e4, pr'⟩ := id hp
    refine ⟨dx, _, e1, .ref n, rfl, _, hl, fun u hu => ?_⟩
    have su : Same H (upd H u (.tup (ns.map V.str))) := same_new hu
    have lns : (ns.map V.str).length ≤ 1000 := by rw [List.length_map]; omega
    refine ⟨AnyN, _, _, .tup (ns.map Dt.str), rfl, ⟨n, _, rfl, trivial, su _ _ e2, lns, paired_strs ns⟩, ⟨u, _, rfl, trivial, upd_same, lns, paired_strs ns⟩, true, rfl, ?_⟩
    rw [if_pos rfl]
    have l1 : (ts.map V.ref).length ≤ 1000 := by rw [List.length_map, paired_len pr]; exact hss
    have l2 : (ts'.map V.ref).length ≤ 1000 := by rw [List.length_map, paired_len pr']; exact hss
    refine ⟨dx, _, su _ _ e1, .ref t', rfl, _, .inr ⟨su _ _ ht, AnyN, _, _, .tup (ss.map pairD), rfl, ⟨t', _, rfl, trivial, su _ _ e4, l2, rp_pairs (paired_imp (fun _ _ h => su _ _ h) pr')⟩, ⟨t, _, rfl, trivial, su _ _ ht, l1, rp_pairs (paired_imp (fun _ _ h => su _ _ h) pr)⟩, q _ su⟩⟩
end
end Z
set_option Elab.async false
set_option linter.all false
set_option maxRecDepth 100000
set_option maxHeartbeats 4000000
namespace Z
open PySem PySem.Spec PyProof.Rows L2 L2H
section
variable {P : Program} {w : World} {K : PySem.W.Frag} {mg : Str → Option Value} {base : Heap}
/-! ### groups and pairs of groups, as data -/
def GoodG (e : Dt) : Prop := ∃ g : List Str, (e = .lst (g.map Dt.str) ∨ e = .tup (g.map Dt.str)) ∧ g.length ≤ 50 ∧ ∀ z ∈ g, Tx 1000 z
def GV (N : Addr → Prop) (H : Hp) (a : Addr) : Prop := ∃ e, GoodG e ∧ Rp N H 2 (.ref a) e
def GoodP (d : Dt) : Prop := ∃ e1 e2, d = .lst [e1, e2] ∧ GoodG e1 ∧ GoodG e2
def PV (N : Addr → Prop) (H : Hp) (v : V) : Prop := ∃ d, GoodP d ∧ Rp N H 3 v d
theorem gv_of {N : Addr → Prop} {H : Hp} {a : Addr} {g : List Str} (n : N a) (h : seqAt (H a) = some (g.map V.str)) (l : g.length ≤ 50) (tx : ∀ z ∈ g, Tx 1000 z) : GV N H a := by
  have l2 : (g.map V.str).length ≤ 1000 := by rw [List.length_map]; omega
  rcases sqx_of h with h | h
  · exact ⟨.lst (g.map Dt.str), ⟨g, .inl rfl, l, tx⟩, a, _, rfl, n, h, l2, paired_strs g⟩
  · exact ⟨.tup (g.map Dt.str), ⟨g, .inr rfl, l, tx⟩, a, _, rfl, n, h, l2, paired_strs g⟩
theorem paired_strs_inv {N : Addr → Prop} {H : Hp} {k : Nat} : ∀ {xs : List V} {ns : List Str}, Paired (fun v d => Rp N H (k + 1) v d) xs (ns.map Dt.str) → xs = ns.map V.str
  | [], [], _ => rfl
  | [], _ :: _, h => nomatch h
  | _ :: _, [], h => nomatch h
  | x :: xs, n :: ns, h => by
    cases h with
    | cons r t =>
      have e : x = .str n := r
      rw [e, paired_strs_inv t]
      rfl
theorem good_seq {N : Addr → Prop} {H : Hp} {k : Nat} {v : V} {e : Dt} {g : List Str} (he : e = .lst (g.map Dt.str) ∨ e = .tup (g.map Dt.str)) (h : Rp N H (k + 2) v e) : ∃ a, v = .ref a ∧ N a ∧ SqX H a (g.map V.str) := by
  rcases he with rfl | rfl
  · obtain ⟨a, xs, ev, na, ha, l, p⟩ := h
    rw [paired_strs_inv p] at ha
    exact ⟨a, ev, na, .inl ha⟩
  · obtain ⟨a, xs, ev, na, ha, l, p⟩ := h
    rw [paired_strs_inv p] at ha
    exact ⟨a, ev, na, .inr ha⟩
theorem GV.seq {N : Addr → Prop} {H : Hp} {a : Addr} (h : GV N H a) : ∃ g : List Str, N a ∧ seqAt (H a) = some (g.map V.str) ∧ g.length ≤ 50 ∧ ∀ z ∈ g, Tx 1000 z := by
  obtain ⟨e, ⟨g, he, l, tx⟩, r⟩ := h
  obtain ⟨b, eb, nb, hb⟩ := good_seq (k := 0) he r
  cases eb
  exact ⟨g, nb, hb.at, l, tx⟩
theorem GV.keep {N : Addr → Prop} {H H' : Hp} {a : Addr} (k : ∀ b o, N b → H b = some o → H' b = some o) (h : GV N H a) : GV N H' a := let ⟨e, g, r⟩ := h; ⟨e, g, r.keep k⟩
theorem PV.keep {N : Addr → Prop} {H H' : Hp} {v : V} (k : ∀ b o, N b → H b = some o → H' b = some o) (h : PV N H v) : PV N H' v := let ⟨e, g, r⟩ := h; ⟨e, g, r.keep k⟩
theorem GV.mono {N N' : Addr → Prop} {H : Hp} {a : Addr} (k : ∀ b, N b → N' b) (h : GV N H a) : GV N' H a := let ⟨e, g, r⟩ := h; ⟨e, g, r.mono fun b _ _ n => k b n⟩
theorem pv_of {N : Addr → Prop} {H : Hp} {x a b : Addr} (n : N x) (h : H x = some (.lst [.ref a, .ref b])) (ga : GV N H a) (gb : GV N H b) : PV N H (.ref x) := by
  obtain ⟨e1, g1, r1⟩ := ga
  obtain ⟨e2, g2, r2⟩ := gb
  exact ⟨.lst [e1, e2], ⟨e1, e2, rfl, g1, g2⟩, x, _, rfl, n, h, (by show 2 ≤ 1000; decide), .cons r1 (.cons r2 .nil)⟩
theorem pv_all {N : Addr → Prop} {H : Hp} : ∀ {ys : List V}, (∀ v ∈ ys, PV N H v) → ∃ ds, Paired (fun v d => Rp N H 3 v d) ys ds ∧ ∀ d ∈ ds, GoodP d
  | [], _ => ⟨[], .nil, fun d hd => by cases hd⟩
  | v :: ys, h => by
    obtain ⟨d, g, r⟩ := h v List.mem_cons_self
    obtain ⟨ds, p, gs⟩ := pv_all (ys := ys) fun u hu => h u (List.mem_cons_of_mem _ hu)
    exact ⟨d :: ds, .cons r p, fun e he => (List.mem_cons.mp he).elim (fun h => by rw [h]; exact g) (gs e)⟩
/-- a row of lots -/
def LV (N : Addr → Prop) (H : Hp) (a : Addr) : Prop := ∃ g : List Str, N a ∧ seqAt (H a) = some (g.map V.str) ∧ g.length ≤ 12 ∧ ∀ z ∈ g, Tx 1000 z
theorem LV.keep {N : Addr → Prop} {H H' : Hp} {a : Addr} (k : ∀ b o, N b → H b = some o → H' b = some o) (h : LV N H a) : LV N H' a := by
  obtain ⟨g, n, e, l, t⟩ := h
  obtain ⟨o, e1, e2⟩ := seq_some e
  exact ⟨g, n, by rw [k _ _ n e1]; exact e2, l, t⟩
theorem LV.mono {N N' : Addr → Prop} {H : Hp} {a : Addr} (k : ∀ b, N b → N' b) (h : LV N H a) : LV N' H a := let ⟨g, n, r⟩ := h; ⟨g, k _ n, r⟩
theorem LV.gv {N : Addr → Prop} {H : Hp} {a : Addr} (h : LV N H a) : GV N H a := let ⟨g, n, e, l, t⟩ := h; gv_of n e (by omega) t
theorem put_map {g : List Str} {x : Str} {k : Nat} : (g.map V.str).take k ++ [.str x] ++ (g.map V.str).drop k = (g.take k ++ [x] ++ g.drop k).map V.str := by simp
theorem put_len {g : List Str} {x : Str} {k : Nat} (h : g.length ≤ 12) : (g.take k ++ [x] ++ g.drop k).length ≤ 50 := by
  simp
  omega
theorem put_tx {g : List Str} {x : Str} {k : Nat} (h : ∀ z ∈ g, Tx 1000 z) (hx : Tx 1000 x) : ∀ z ∈ g.take k ++ [x] ++ g.drop k, Tx 1000 z := fun z hz => by
  rcases List.mem_append.mp hz with hz | hz
  · rcases List.mem_append.mp hz with hz | hz
    · exact h z (List.mem_of_mem_take hz)
    · rw [show z = x by simpa using hz]; exact hx
  · exact h z (List.mem_of_mem_drop hz)
abbrev s_law_group_pairs : Stmt := topS 71
abbrev N_law_group_pairs : List Str := ["store", "lot_names", "loose", "half", "others", "made", "one_bent", "two_bent", "k", "word"]
theorem sc_law_group_pairs : FnScope N_law_group_pairs ["store", "lot_names"] (defScope s_law_group_pairs) := ⟨rfl, rfl, rfl, by decide +kernel, rfl, by decide +kernel, by decide +kernel⟩
theorem b_law_group_pairs : BindO "_law_group_pairs" s_law_group_pairs ["store", "lot_names"] := fun _ _ _ _ _ _ us hl => match us, hl with | [_, _], _ => rfl

def sp_gpairs : Sp := fun vs H Q _ => ∃ (S : Sto) (p : Addr) (ns : List Str), vs = [.ref S.a, .ref p] ∧ Store S H ∧ H p = some (.lst (ns.map V.str)) ∧ p ≠ S.a ∧ Nms ns ∧
  ∀ (r : Addr) (ds : List Dt) (H' : Hp), Drew S H H' → Rp AnyN H' 4 (.ref r) (.lst ds) → ds.length = 7 → (∀ d ∈ ds, GoodP d) → Q (.ref r) H'
theorem ok_gpairs (D : Dn K mg "_law_group_pairs" s_law_group_pairs) (B : Blt mg) (c_law_loose_row : Cl P w K mg base 4 "_law_loose_row" sp_loose) (c_law_some : Cl P w K mg base 3 "_law_some" sp_some) (c_law_shuffled : Cl P w K mg base 3 "_law_shuffled" sp_shuffled)
    (c_law_row : Cl P w K mg base 3 "_law_row" sp_row) (c_law_put : Cl P w K mg base 3 "_law_put" sp_put) (c_law_foreign : Cl P w K mg base 5 "_law_foreign" sp_foreign) : Cl P w K mg base 6 "_law_group_pairs" sp_gpairs := by
  refine cl_of D sc_law_group_pairs b_law_group_pairs (fun vs H Q E h => ?_) (fun f cdv A outer s H vs Q E hr h => ?_)
  · obtain ⟨S, p, ns, rfl, _⟩ := h
    rfl
  · obtain ⟨S, p, ns, rfl, st, hp, npa, nm, q⟩ := h
    refine ⟨_, (pss_cons (ps_setLc (i := 2) (own := [("k", 8)]) (g := gName 8) rfl sc_law_group_pairs.nd rfl rfl (sw_true rfl rfl rfl (by decide +kernel)) (pi_range1 (by rfl) B.range (pa_cons pe_int pa_nil)) (blkOk_by (N := N_law_group_pairs) (sc := defScope s_law_group_pairs) (own := [("k", 8)]) (by decide +kernel)) (fun _ _ _ _ _ => (pg_name (i := 8) sc_law_group_pairs.nd rfl (Or.inl rfl))) (fun _ _ _ _ _ => pts_nil) (fun _ _ _ _ _ => (pe_cl c_law_loose_row hr (by omega) rfl (pa_cons (pv 0) (pa_cons (pv 1) pa_nil)))))
      (pss_cons (ps_set (i := 3) sc_law_group_pairs.nd rfl (.inr rfl) (pe_cl c_law_some hr (by omega) rfl (pa_cons (pv 0) (pa_cons (pv 1) pa_nil))))
      (pss_cons (ps_setLc (i := 4) (own := [("word", 9)]) (g := gName 9) rfl sc_law_group_pairs.nd rfl rfl (sw_true rfl rfl rfl (by decide +kernel)) (pi_list (pv 1)) (blkOk_by (N := N_law_group_pairs) (sc := defScope s_law_group_pairs) (own := [("word", 9)]) (by decide +kernel)) (fun _ _ _ _ _ => (pg_name (i := 9) sc_law_group_pairs.nd rfl (Or.inl rfl))) (fun _ _ _ _ _ => (pts_one (pt_cmpR op_ninQ (pv 9) (pv 3) (by rfl)))) (fun _ _ _ _ _ => (pv 9)))
      (pss_cons (ps_set (i := 5) sc_law_group_pairs.nd rfl (.inl rfl) (pe_lst (pa_cons (pe_lst (pa_cons (pe_ix at_seq (pv 2) pe_int (fun _ _ => rfl)) (pa_cons (pe_ix at_seq (pv 2) pe_int (fun _ _ => rfl)) pa_nil))) (pa_cons (pe_lst (pa_cons (pe_ix at_seq (pv 2) pe_int (fun _ _ => rfl)) (pa_cons (pe_ix at_seq (pv 2) pe_int (fun _ _ => rfl)) pa_nil))) (pa_cons (pe_lst (pa_cons (pe_cl c_law_shuffled hr (by omega) rfl (pa_cons (pv 0) (pa_cons (pv 3) pa_nil))) (pa_cons (pe_callTy call_tupL (by rfl) B.tuple (by decide +kernel) (pa_cons (pv 4) pa_nil)) pa_nil))) pa_nil)))))
      (pss_cons (ps_set (i := 5) sc_law_group_pairs.nd rfl (.inl rfl) (pe_op op_catQ (pv 5) (pe_lst (pa_cons (pe_lst (pa_cons (pe_callTy call_tupL (by rfl) B.tuple (by decide +kernel) (pa_cons (pv 1) pa_nil)) (pa_cons (pe_ix at_seq (pv 2) pe_int (fun _ _ => rfl)) pa_nil))) pa_nil))))
      (pss_cons (ps_set (i := 6) sc_law_group_pairs.nd rfl (.inl rfl) (pe_cl c_law_row hr (by omega) rfl (pa_cons (pv 0) (pa_cons (pe_cl c_law_put hr (by omega) rfl (pa_cons (pv 0) (pa_cons (pe_ix at_seq (pv 2) pe_int (fun _ _ => rfl)) (pa_cons (pe_cl c_law_foreign hr (by omega) rfl (pa_cons (pv 0) (pa_cons (pv 1) pa_nil))) pa_nil)))) pa_nil))))
      (pss_cons (ps_set (i := 7) sc_law_group_pairs.nd rfl (.inl rfl) (pe_cl c_law_row hr (by omega) rfl (pa_cons (pv 0) (pa_cons (pe_cl c_law_put hr (by omega) rfl (pa_cons (pv 0) (pa_cons (pe_ix at_seq (pv 2) pe_int (fun _ _ => rfl)) (pa_cons (pe_cl c_law_foreign hr (by omega) rfl (pa_cons (pv 0) (pa_cons (pv 1) pa_nil))) pa_nil)))) pa_nil))))
      (pss_one (ps_ret (pe_cl c_law_shuffled hr (by omega) rfl (pa_cons (pv 0) (pa_cons (pe_op op_catQ (pv 5) (pe_lst (pa_cons (pe_lst (pa_cons (pv 6) (pa_cons (pe_ix at_seq (pv 2) pe_int (fun _ _ => rfl)) pa_nil))) (pa_cons (pe_lst (pa_cons (pe_ix at_seq (pv 2) pe_int (fun _ _ => rfl)) (pa_cons (pv 7) pa_nil))) (pa_cons (pe_lst (pa_cons (pv 6) (pa_cons (pv 7) pa_nil))) pa_nil))))) pa_nil)))))))))))), ?_⟩
    rw [show L2.start N_law_group_pairs [.ref S.a, .ref p] = [some (.ref S.a), some (.ref p), none, none, none, none, none, none, none, none] from rfl]
    simp only [tSeq, tNext, tDrop, tRet, tRetN, tIfS, tAsg, gName, tAug, ipI, tVar, tC, tOp, tUn, rI, rI0, rU, tCons, tNil, tCB, tTup, tLst, tTest, tB, tAnd, tOr, tNot, tAndV, tOrV, tNotV, tIf, tCl, tCd, tCk, gSub, rPutL, rAtQ, rIntI, rLenQ, rLenS, rListQ, rTupL, rTupQ, rIsQ_c, kd_non, kd_bl, kd_int, kd_str, kd_ref, kdO_lst, kdO_tup, kit_NoneType_bool, kit_NoneType_int, kit_NoneType_str, kit_NoneType_list, kit_NoneType_tuple, kit_bool_bool, kit_bool_int, kit_bool_str, kit_bool_list, kit_bool_tuple, kit_int_bool, kit_int_int, kit_int_str, kit_int_list, kit_int_tuple, kit_str_bool, kit_str_int, kit_str_str, kit_str_list, kit_str_tuple, kit_list_bool, kit_list_int, kit_list_str, kit_list_list, kit_list_tuple, kit_tuple_bool, kit_tuple_int, kit_tuple_str, kit_tuple_list, kit_tuple_tuple, V.ty.injEq, rSortQ, rSlQ, rMulS, tJn, rAtX, rSlS, tSl, tPart, tNoPart, cut_lo2, cut_hi2, rInQ, gLq, gTq, gC_c, gNil, tChain, List.cons_append, List.nil_append, tBL, tBL0, tBad, tCr, tCe, tXF, cxH_K, HO.xd.injEq, rApp, rPopN, rRevL, seqAt_lst, seqAt_tup, at_0, at_1, at_2, at_3, at_4, ix_0, ix_1, ix_2, ix_3, ix_4, cx_K, upd_same, List.length_cons, List.length_nil, Nat.reduceAdd,  rEq, rNe, tRevL, V.int.injEq, V.bl.injEq, V.str.injEq, V.ref.injEq, List.cons.injEq, and_true, true_and, exists_and_left, exists_and_right, exists_eq_left, exists_eq_left', exists_eq_right, exists_eq_right', exists_const, Option.some.injEq, List.getElem?_cons_zero, List.getElem?_cons_succ, List.set_cons_zero, List.set_cons_succ, decide_eq_true_eq, decide_true, decide_false,  scal_ii, scal_bb, scal_ss, cmul_r, cdiv_l, cpow_12, cpow_18, cpow_40, HO.lst.injEq, HO.tup.injEq, upd_upd, Int.reduceToNat,  decide_not, Bool.not_eq_true', decide_eq_false_iff_not, if_true, if_false, Bool.false_eq_true, Bool.true_eq_false, reduceCtorEq, Int.reduceNeg, Nat.reduceLT, Int.reduceLT, Int.reducePow, gt_iff_lt]
    have hn := nm.hi
    have KD : ∀ {Hx Hy : Hp}, Drew S Hx Hy → ∀ b o, b ≠ S.a → Hx b = some o → Hy b = some o := fun d b o n e => d.but b o n e
    refine z_lcR 4 (fun Q q => q) (by decide) (fun D i H' => Drew S H H' ∧ ∃ ps : List Addr, H' D = some (.lst (ps.map V.ref)) ∧ ps.length = i ∧ ∀ a ∈ ps, LV (fun b => b ≠ S.a ∧ b ≠ D) H' a) (fun D hD => ?_) ⟨rfl, fun _ => rfl⟩ (fun D i H' hD hi hI => ?_) (fun L H1 hL hI => ?_)
    · exact ⟨(Drew.mk (But.refl H) st).new hD, [], upd_same, rfl, fun a ha => by cases ha⟩
    · obtain ⟨r1, ps, hD1, lp, gv⟩ := hI
      have nD : D ≠ S.a := st.neA hD
      simp only [tSeq, tNext, tDrop, tRet, tRetN, tIfS, tAsg, gName, tAug, ipI, tVar, tC, tOp, tUn, rI, rI0, rU, tCons, tNil, tCB, tTup, tLst, tTest, tB, tAnd, tOr, tNot, tAndV, tOrV, tNotV, tIf, tCl, tCd, tCk, gSub, rPutL, rAtQ, rIntI, rLenQ, rLenS, rListQ, rTupL, rTupQ, rIsQ_c, kd_non, kd_bl, kd_int, kd_str, kd_ref, kdO_lst, kdO_tup, kit_NoneType_bool, kit_NoneType_int, kit_NoneType_str, kit_NoneType_list, kit_NoneType_tuple, kit_bool_bool, kit_bool_int, kit_bool_str, kit_bool_list, kit_bool_tuple, kit_int_bool, kit_int_int, kit_int_str, kit_int_list, kit_int_tuple, kit_str_bool, kit_str_int, kit_str_str, kit_str_list, kit_str_tuple, kit_list_bool, kit_list_int, kit_list_str, kit_list_list, kit_list_tuple, kit_tuple_bool, kit_tuple_int, kit_tuple_str, kit_tuple_list, kit_tuple_tuple, V.ty.injEq, rSortQ, rSlQ, rMulS, tJn, rAtX, rSlS, tSl, tPart, tNoPart, cut_lo2, cut_hi2, rInQ, gLq, gTq, gC_c, gNil, tChain, List.cons_append, List.nil_append, tBL, tBL0, tBad, tCr, tCe, tXF, cxH_K, HO.xd.injEq, rApp, rPopN, rRevL, seqAt_lst, seqAt_tup, at_0, at_1, at_2, at_3, at_4, ix_0, ix_1, ix_2, ix_3, ix_4, cx_K, upd_same, List.length_cons, List.length_nil, Nat.reduceAdd,  rEq, rNe, tRevL, V.int.injEq, V.bl.injEq, V.str.injEq, V.ref.injEq, List.cons.injEq, and_true, true_and, exists_and_left, exists_and_right, exists_eq_left, exists_eq_left', exists_eq_right, exists_eq_right', exists_const, Option.some.injEq, List.getElem?_cons_zero, List.getElem?_cons_succ, List.set_cons_zero, List.set_cons_succ, decide_eq_true_eq, decide_true, decide_false,  scal_ii, scal_bb, scal_ss, cmul_r, cdiv_l, cpow_12, cpow_18, cpow_40, HO.lst.injEq, HO.tup.injEq, upd_upd, Int.reduceToNat,  decide_not, Bool.not_eq_true', decide_eq_false_iff_not, if_true, if_false, Bool.false_eq_true, Bool.true_eq_false, reduceCtorEq, Int.reduceNeg, Nat.reduceLT, Int.reduceLT, Int.reducePow, gt_iff_lt, wipe, List.map_cons, List.map_nil, tYes]
      refine ⟨S, p, ns, rfl, r1.st, r1.but p _ npa hp, npa, nm.lo, nm.hi, fun a g H2 r2 fa ea lg gm => ?_⟩
      have naS : a ≠ S.a := r1.st.neA fa
      have naD : a ≠ D := fun e => by rw [e, hD1] at fa; cases fa
      have hD2 : H2 D = some (.lst (ps.map V.ref)) := r2.but D _ nD hD1
      refine ⟨_, hD2, by rw [List.length_map]; exact sz_lt (by omega), (r1.trans r2).at st hD, ps ++ [a], by rw [List.map_append] <;> rfl, by rw [List.length_append, lp] <;> rfl, fun b hb => ?_⟩
      rcases List.mem_append.mp hb with h | h
      · exact (gv b h).keep fun c o nc e => by rw [upd_ne nc.2]; exact r2.but c o nc.1 e
      · rw [show b = a by simpa using h]
        exact ⟨g, ⟨naS, naD⟩, by rw [upd_ne naD]; exact ea, lg, fun z hz => nm.tx z (gm z hz)⟩
    · obtain ⟨r1, ps, hL1, lp, gv⟩ := hI
      have nLS : L ≠ S.a := st.neA hL
      obtain ⟨a0, a1, a2, a3, rfl⟩ : ∃ a0 a1 a2 a3, ps = [a0, a1, a2, a3] := by
        match ps, lp with
        | [a0, a1, a2, a3], _ => exact ⟨a0, a1, a2, a3, rfl⟩
      have g0 := (gv a0 (by simp)).mono fun b h => h.1
      have g1 := (gv a1 (by simp)).mono fun b h => h.1
      have g2 := (gv a2 (by simp)).mono fun b h => h.1
      have g3 := (gv a3 (by simp)).mono fun b h => h.1
      clear gv
      have Lat : ∀ {Hx}, Drew S H1 Hx → seqAt (Hx L) = some [.ref a0, .ref a1, .ref a2, .ref a3] := fun d => by rw [d.but L _ nLS hL1] <;> rfl
      have Pat : ∀ {Hx}, Drew S H1 Hx → Hx p = some (.lst (ns.map V.str)) := fun d => d.but p _ npa (r1.but p _ npa hp)
      have D11 : Drew S H1 H1 := ⟨But.refl H1, r1.st⟩
      refine ⟨S, p, ns.map V.str, rfl, r1.st, Pat D11, npa, by rw [List.length_map]; omega, fun hf ys H2 r2 fh eh sub => ?_⟩
      have nhS : hf ≠ S.a := r1.st.neA fh
      have fly : ys.all flatV = true := by
        rw [List.all_eq_true]
        intro v hv
        obtain ⟨z, _, rfl⟩ := List.mem_map.mp (sub.subset hv)
        rfl
      have D22 : Drew S H2 H2 := ⟨But.refl H2, r2.st⟩
      refine lcG_list p (ns.map V.str) (fun Q q => ?_) (SqL.of (Pat r2)) (fun D i H' => Drew S H2 H' ∧ ∃ g : List Str, H' D = some (.lst (g.map V.str)) ∧ g.length ≤ i ∧ ∀ z ∈ g, z ∈ ns) (fun D hD => ⟨D22.new hD, [], upd_same, Nat.le_refl 0, fun z hz => by cases hz⟩) (fun D i H' hD h => SqL.of (Pat (r2.trans h.1))) (fun D i x H' hD hx hI => ?_) (fun O H3 hO hI => ?_)
      · simp only [tSeq, tNext, tDrop, tRet, tRetN, tIfS, tAsg, gName, tAug, ipI, tVar, tC, tOp, tUn, rI, rI0, rU, tCons, tNil, tCB, tTup, tLst, tTest, tB, tAnd, tOr, tNot, tAndV, tOrV, tNotV, tIf, tCl, tCd, tCk, gSub, rPutL, rAtQ, rIntI, rLenQ, rLenS, rListQ, rTupL, rTupQ, rIsQ_c, kd_non, kd_bl, kd_int, kd_str, kd_ref, kdO_lst, kdO_tup, kit_NoneType_bool, kit_NoneType_int, kit_NoneType_str, kit_NoneType_list, kit_NoneType_tuple, kit_bool_bool, kit_bool_int, kit_bool_str, kit_bool_list, kit_bool_tuple, kit_int_bool, kit_int_int, kit_int_str, kit_int_list, kit_int_tuple, kit_str_bool, kit_str_int, kit_str_str, kit_str_list, kit_str_tuple, kit_list_bool, kit_list_int, kit_list_str, kit_list_list, kit_list_tuple, kit_tuple_bool, kit_tuple_int, kit_tuple_str, kit_tuple_list, kit_tuple_tuple, V.ty.injEq, rSortQ, rSlQ, rMulS, tJn, rAtX, rSlS, tSl, tPart, tNoPart, cut_lo2, cut_hi2, rInQ, gLq, gTq, gC_c, gNil, tChain, List.cons_append, List.nil_append, tBL, tBL0, tBad, tCr, tCe, tXF, cxH_K, HO.xd.injEq, rApp, rPopN, rRevL, seqAt_lst, seqAt_tup, at_0, at_1, at_2, at_3, at_4, ix_0, ix_1, ix_2, ix_3, ix_4, cx_K, upd_same, List.length_cons, List.length_nil, Nat.reduceAdd,  rEq, rNe, tRevL, V.int.injEq, V.bl.injEq, V.str.injEq, V.ref.injEq, List.cons.injEq, and_true, true_and, exists_and_left, exists_and_right, exists_eq_left, exists_eq_left', exists_eq_right, exists_eq_right', exists_const, Option.some.injEq, List.getElem?_cons_zero, List.getElem?_cons_succ, List.set_cons_zero, List.set_cons_succ, decide_eq_true_eq, decide_true, decide_false,  scal_ii, scal_bb, scal_ss, cmul_r, cdiv_l, cpow_12, cpow_18, cpow_40, HO.lst.injEq, HO.tup.injEq, upd_upd, Int.reduceToNat,  decide_not, Bool.not_eq_true', decide_eq_false_iff_not, if_true, if_false, Bool.false_eq_true, Bool.true_eq_false, reduceCtorEq, Int.reduceNeg, Nat.reduceLT, Int.reduceLT, Int.reducePow, gt_iff_lt]
        exact q
      · obtain ⟨d1, g, hg, lg, gm⟩ := hI
        rw [List.getElem?_map] at hx
        obtain ⟨z, ez, rfl⟩ := Option.map_eq_some_iff.mp hx
        have iz : i < ns.length := (List.getElem?_eq_some_iff.mp ez).1
        simp only [tSeq, tNext, tDrop, tRet, tRetN, tIfS, tAsg, gName, tAug, ipI, tVar, tC, tOp, tUn, rI, rI0, rU, tCons, tNil, tCB, tTup, tLst, tTest, tB, tAnd, tOr, tNot, tAndV, tOrV, tNotV, tIf, tCl, tCd, tCk, gSub, rPutL, rAtQ, rIntI, rLenQ, rLenS, rListQ, rTupL, rTupQ, rIsQ_c, kd_non, kd_bl, kd_int, kd_str, kd_ref, kdO_lst, kdO_tup, kit_NoneType_bool, kit_NoneType_int, kit_NoneType_str, kit_NoneType_list, kit_NoneType_tuple, kit_bool_bool, kit_bool_int, kit_bool_str, kit_bool_list, kit_bool_tuple, kit_int_bool, kit_int_int, kit_int_str, kit_int_list, kit_int_tuple, kit_str_bool, kit_str_int, kit_str_str, kit_str_list, kit_str_tuple, kit_list_bool, kit_list_int, kit_list_str, kit_list_list, kit_list_tuple, kit_tuple_bool, kit_tuple_int, kit_tuple_str, kit_tuple_list, kit_tuple_tuple, V.ty.injEq, rSortQ, rSlQ, rMulS, tJn, rAtX, rSlS, tSl, tPart, tNoPart, cut_lo2, cut_hi2, rInQ, gLq, gTq, gC_c, gNil, tChain, List.cons_append, List.nil_append, tBL, tBL0, tBad, tCr, tCe, tXF, cxH_K, HO.xd.injEq, rApp, rPopN, rRevL, seqAt_lst, seqAt_tup, at_0, at_1, at_2, at_3, at_4, ix_0, ix_1, ix_2, ix_3, ix_4, cx_K, upd_same, List.length_cons, List.length_nil, Nat.reduceAdd,  rEq, rNe, tRevL, V.int.injEq, V.bl.injEq, V.str.injEq, V.ref.injEq, List.cons.injEq, and_true, true_and, exists_and_left, exists_and_right, exists_eq_left, exists_eq_left', exists_eq_right, exists_eq_right', exists_const, Option.some.injEq, List.getElem?_cons_zero, List.getElem?_cons_succ, List.set_cons_zero, List.set_cons_succ, decide_eq_true_eq, decide_true, decide_false,  scal_ii, scal_bb, scal_ss, cmul_r, cdiv_l, cpow_12, cpow_18, cpow_40, HO.lst.injEq, HO.tup.injEq, upd_upd, Int.reduceToNat,  decide_not, Bool.not_eq_true', decide_eq_false_iff_not, if_true, if_false, Bool.false_eq_true, Bool.true_eq_false, reduceCtorEq, Int.reduceNeg, Nat.reduceLT, Int.reduceLT, Int.reducePow, gt_iff_lt, wipe, List.map_cons, List.map_nil]
        refine ⟨ys, by rw [d1.but hf _ nhS eh] <;> rfl, rfl, fly, ?_⟩
        by_cases hc : inV (V.str z) ys = false
        · simp only [hc, if_true, Bool.not_false, decide_true]
          refine ⟨_, hg, by rw [List.length_map]; exact sz_lt (by omega), d1.at r2.st hD, g ++ [z], by rw [List.map_append] <;> rfl, by rw [List.length_append]; simp; omega, fun y hy => ?_⟩
          rcases List.mem_append.mp hy with h | h
          · exact gm y h
          · rw [show y = z by simpa using h]; exact List.mem_of_getElem? ez
        · simp only [hc, if_false, Bool.not_true, decide_false, Bool.false_eq_true, if_false]
          exact ⟨d1, g, hg, by omega, gm⟩
      · obtain ⟨d3, gO, hO3, lO, mO⟩ := hI
        have nOS : O ≠ S.a := r2.st.neA hO
        rw [List.length_map] at lO
        have d13 := r2.trans d3
        simp only [tSeq, tNext, tDrop, tRet, tRetN, tIfS, tAsg, gName, tAug, ipI, tVar, tC, tOp, tUn, rI, rI0, rU, tCons, tNil, tCB, tTup, tLst, tTest, tB, tAnd, tOr, tNot, tAndV, tOrV, tNotV, tIf, tCl, tCd, tCk, gSub, rPutL, rAtQ, rIntI, rLenQ, rLenS, rListQ, rTupL, rTupQ, rIsQ_c, kd_non, kd_bl, kd_int, kd_str, kd_ref, kdO_lst, kdO_tup, kit_NoneType_bool, kit_NoneType_int, kit_NoneType_str, kit_NoneType_list, kit_NoneType_tuple, kit_bool_bool, kit_bool_int, kit_bool_str, kit_bool_list, kit_bool_tuple, kit_int_bool, kit_int_int, kit_int_str, kit_int_list, kit_int_tuple, kit_str_bool, kit_str_int, kit_str_str, kit_str_list, kit_str_tuple, kit_list_bool, kit_list_int, kit_list_str, kit_list_list, kit_list_tuple, kit_tuple_bool, kit_tuple_int, kit_tuple_str, kit_tuple_list, kit_tuple_tuple, V.ty.injEq, rSortQ, rSlQ, rMulS, tJn, rAtX, rSlS, tSl, tPart, tNoPart, cut_lo2, cut_hi2, rInQ, gLq, gTq, gC_c, gNil, tChain, List.cons_append, List.nil_append, tBL, tBL0, tBad, tCr, tCe, tXF, cxH_K, HO.xd.injEq, rApp, rPopN, rRevL, seqAt_lst, seqAt_tup, at_0, at_1, at_2, at_3, at_4, ix_0, ix_1, ix_2, ix_3, ix_4, cx_K, upd_same, List.length_cons, List.length_nil, Nat.reduceAdd,  rEq, rNe, tRevL, V.int.injEq, V.bl.injEq, V.str.injEq, V.ref.injEq, List.cons.injEq, and_true, true_and, exists_and_left, exists_and_right, exists_eq_left, exists_eq_left', exists_eq_right, exists_eq_right', exists_const, Option.some.injEq, List.getElem?_cons_zero, List.getElem?_cons_succ, List.set_cons_zero, List.set_cons_succ, decide_eq_true_eq, decide_true, decide_false,  scal_ii, scal_bb, scal_ss, cmul_r, cdiv_l, cpow_12, cpow_18, cpow_40, HO.lst.injEq, HO.tup.injEq, upd_upd, Int.reduceToNat,  decide_not, Bool.not_eq_true', decide_eq_false_iff_not, if_true, if_false, Bool.false_eq_true, Bool.true_eq_false, reduceCtorEq, Int.reduceNeg, Nat.reduceLT, Int.reduceLT, Int.reducePow, gt_iff_lt]
        refine ⟨_, Lat d13, _, at_0, _, Lat d13, _, at_1, sz_of (by decide), fun m1 f1 => ?_⟩
        have e1 : upd H3 m1 (.lst [.ref a0, .ref a1]) m1 = some (.lst [.ref a0, .ref a1]) := upd_same
        have d4 : Drew S H3 (upd H3 m1 (.lst [.ref a0, .ref a1])) := (Drew.mk (But.refl H3) d3.st).new f1
        have n1 : m1 ≠ S.a := d3.st.neA f1
        generalize upd H3 m1 (.lst [.ref a0, .ref a1]) = H4 at e1 d4 ⊢
        have d14 := d13.trans d4
        refine ⟨_, Lat d14, _, at_2, _, Lat d14, _, at_2, sz_of (by decide), fun m2 f2 => ?_⟩
        have e2 : upd H4 m2 (.lst [.ref a2, .ref a2]) m2 = some (.lst [.ref a2, .ref a2]) := upd_same
        have d5 : Drew S H4 (upd H4 m2 (.lst [.ref a2, .ref a2])) := (Drew.mk (But.refl H4) d4.st).new f2
        have n2 : m2 ≠ S.a := d4.st.neA f2
        generalize upd H4 m2 (.lst [.ref a2, .ref a2]) = H5 at e2 d5 ⊢
        have d15 := d14.trans d5
        have hh5 : H5 hf = some (.lst ys) := (d3.trans (d4.trans d5)).but hf _ nhS eh
        have lys : ys.length ≤ 10 := by
          have := sub.length_le
          rw [List.length_map] at this
          omega
        refine ⟨S, hf, ys, rfl, d5.st, by rw [hh5] <;> rfl, nhS, by omega, fun sf zs H6 d6 fs es pm => ?_⟩
        have nsS : sf ≠ S.a := d5.st.neA fs
        refine ⟨_, (d4.trans (d5.trans d6)).but O _ nOS hO3, fun t1 f3 => ⟨sz_of (by decide), fun m3 f4 => ⟨sz_of (by decide), fun M f5 => ?_⟩⟩⟩
        have d66 : Drew S H6 H6 := ⟨But.refl H6, d6.st⟩
        have d7 : Drew S H6 (upd (upd (upd H6 t1 (.tup (gO.map V.str))) m3 (.lst [.ref sf, .ref t1])) M (.lst [.ref m1, .ref m2, .ref m3])) := ((d66.new f3).new f4).new f5
        have eM : upd (upd (upd H6 t1 (.tup (gO.map V.str))) m3 (.lst [.ref sf, .ref t1])) M (.lst [.ref m1, .ref m2, .ref m3]) M = some (.lst [.ref m1, .ref m2, .ref m3]) := upd_same
        have e3 : upd (upd (upd H6 t1 (.tup (gO.map V.str))) m3 (.lst [.ref sf, .ref t1])) M (.lst [.ref m1, .ref m2, .ref m3]) m3 = some (.lst [.ref sf, .ref t1]) := same_new f5 _ _ upd_same
        have et1 : upd (upd (upd H6 t1 (.tup (gO.map V.str))) m3 (.lst [.ref sf, .ref t1])) M (.lst [.ref m1, .ref m2, .ref m3]) t1 = some (.tup (gO.map V.str)) := same_new f5 _ _ (same_new f4 _ _ upd_same)
        have n3 : m3 ≠ S.a := (d66.new f3).st.neA f4
        have nt1 : t1 ≠ S.a := d6.st.neA f3
        have nM : M ≠ S.a := ((d66.new f3).new f4).st.neA f5
        generalize upd (upd (upd H6 t1 (.tup (gO.map V.str))) m3 (.lst [.ref sf, .ref t1])) M (.lst [.ref m1, .ref m2, .ref m3]) = H7 at d7 eM e3 et1 ⊢
        have d17 := d15.trans (d6.trans d7)
        refine ⟨_, Pat d17, fun t2 f6 => ⟨_, Lat (d17.new f6), _, at_3, sz_of (by decide), fun m4 f7 => ⟨sz_of (by decide), fun o1 f8 => ?_⟩⟩⟩
        have d77 : Drew S H7 H7 := ⟨But.refl H7, d7.st⟩
        have d8 : Drew S H7 (upd (upd (upd H7 t2 (.tup (ns.map V.str))) m4 (.lst [.ref t2, .ref a3])) o1 (.lst [.ref m4])) := ((d77.new f6).new f7).new f8
        have eo : upd (upd (upd H7 t2 (.tup (ns.map V.str))) m4 (.lst [.ref t2, .ref a3])) o1 (.lst [.ref m4]) o1 = some (.lst [.ref m4]) := upd_same
        have e4 : upd (upd (upd H7 t2 (.tup (ns.map V.str))) m4 (.lst [.ref t2, .ref a3])) o1 (.lst [.ref m4]) m4 = some (.lst [.ref t2, .ref a3]) := same_new f8 _ _ upd_same
        have et2 : upd (upd (upd H7 t2 (.tup (ns.map V.str))) m4 (.lst [.ref t2, .ref a3])) o1 (.lst [.ref m4]) t2 = some (.tup (ns.map V.str)) := same_new f8 _ _ (same_new f7 _ _ upd_same)
        have n4 : m4 ≠ S.a := (d77.new f6).st.neA f7
        have nt2 : t2 ≠ S.a := d7.st.neA f6
        generalize upd (upd (upd H7 t2 (.tup (ns.map V.str))) m4 (.lst [.ref t2, .ref a3])) o1 (.lst [.ref m4]) = H8 at d8 eo e4 et2 ⊢
        simp only [tSeq, tNext, tDrop, tRet, tRetN, tIfS, tAsg, gName, tAug, ipI, tVar, tC, tOp, tUn, rI, rI0, rU, tCons, tNil, tCB, tTup, tLst, tTest, tB, tAnd, tOr, tNot, tAndV, tOrV, tNotV, tIf, tCl, tCd, tCk, gSub, rPutL, rAtQ, rIntI, rLenQ, rLenS, rListQ, rTupL, rTupQ, rIsQ_c, kd_non, kd_bl, kd_int, kd_str, kd_ref, kdO_lst, kdO_tup, kit_NoneType_bool, kit_NoneType_int, kit_NoneType_str, kit_NoneType_list, kit_NoneType_tuple, kit_bool_bool, kit_bool_int, kit_bool_str, kit_bool_list, kit_bool_tuple, kit_int_bool, kit_int_int, kit_int_str, kit_int_list, kit_int_tuple, kit_str_bool, kit_str_int, kit_str_str, kit_str_list, kit_str_tuple, kit_list_bool, kit_list_int, kit_list_str, kit_list_list, kit_list_tuple, kit_tuple_bool, kit_tuple_int, kit_tuple_str, kit_tuple_list, kit_tuple_tuple, V.ty.injEq, rSortQ, rSlQ, rMulS, tJn, rAtX, rSlS, tSl, tPart, tNoPart, cut_lo2, cut_hi2, rInQ, gLq, gTq, gC_c, gNil, tChain, List.cons_append, List.nil_append, tBL, tBL0, tBad, tCr, tCe, tXF, cxH_K, HO.xd.injEq, rApp, rPopN, rRevL, seqAt_lst, seqAt_tup, at_0, at_1, at_2, at_3, at_4, ix_0, ix_1, ix_2, ix_3, ix_4, cx_K, upd_same, List.length_cons, List.length_nil, Nat.reduceAdd,  rEq, rNe, tRevL, V.int.injEq, V.bl.injEq, V.str.injEq, V.ref.injEq, List.cons.injEq, and_true, true_and, exists_and_left, exists_and_right, exists_eq_left, exists_eq_left', exists_eq_right, exists_eq_right', exists_const, Option.some.injEq, List.getElem?_cons_zero, List.getElem?_cons_succ, List.set_cons_zero, List.set_cons_succ, decide_eq_true_eq, decide_true, decide_false,  scal_ii, scal_bb, scal_ss, cmul_r, cdiv_l, cpow_12, cpow_18, cpow_40, HO.lst.injEq, HO.tup.injEq, upd_upd, Int.reduceToNat,  decide_not, Bool.not_eq_true', decide_eq_false_iff_not, if_true, if_false, Bool.false_eq_true, Bool.true_eq_false, reduceCtorEq, Int.reduceNeg, Nat.reduceLT, Int.reduceLT, Int.reducePow, gt_iff_lt, rCatQ]
        refine ⟨_, d8.but M _ nM eM, _, eo, sz_of (show 4 ≤ 100000 by decide), fun M2 f9 => ?_⟩
        have d88 : Drew S H8 H8 := ⟨But.refl H8, d8.st⟩
        have d9 : Drew S H8 (upd H8 M2 (.lst ([V.ref m1, V.ref m2, V.ref m3] ++ [V.ref m4]))) := d88.new f9
        have eM2 : upd H8 M2 (.lst ([V.ref m1, V.ref m2, V.ref m3] ++ [V.ref m4])) M2 = some (.lst ([V.ref m1, V.ref m2, V.ref m3] ++ [V.ref m4])) := upd_same
        have nM2 : M2 ≠ S.a := d8.st.neA f9
        generalize upd H8 M2 (.lst ([V.ref m1, V.ref m2, V.ref m3] ++ [V.ref m4])) = H9 at d9 eM2 ⊢
        have d19 := d17.trans (d8.trans d9)
        refine ⟨_, Lat d19, _, at_0, S, p, ns, rfl, d9.st, Pat d19, npa, nm, fun x1 H10 d10 tx1 => ?_⟩
        have d110 := d19.trans d10
        obtain ⟨r0, nr0, er0, lr0, tr0⟩ := g0.keep (KD d110)
        refine ⟨S, a0, r0.map V.str, .str x1, rfl, d10.st, er0, nr0, by rw [List.length_map]; omega, fun b1 k1 H11 d11 fb1 lk1 eb1 => ?_⟩
        have nb1 : b1 ≠ S.a := d10.st.neA fb1
        refine ⟨S, b1, _, rfl, d11.st, eb1, nb1, fun c1 H12 d12 fc1 ec1 => ?_⟩
        have nc1 : c1 ≠ S.a := d11.st.neA fc1
        rw [put_map] at ec1
        have gc1 : GV (fun b => b ≠ S.a) H12 c1 := gv_of nc1 ec1 (put_len lr0) (put_tx tr0 tx1)
        have d112 := d110.trans (d11.trans d12)
        refine ⟨_, Lat d112, _, at_1, S, p, ns, rfl, d12.st, Pat d112, npa, nm, fun x2 H13 d13' tx2 => ?_⟩
        have d113 := d112.trans d13'
        obtain ⟨r1', nr1, er1, lr1, tr1⟩ := g1.keep (KD d113)
        refine ⟨S, a1, r1'.map V.str, .str x2, rfl, d13'.st, er1, nr1, by rw [List.length_map]; omega, fun b2 k2 H14 d14' fb2 lk2 eb2 => ?_⟩
        have nb2 : b2 ≠ S.a := d13'.st.neA fb2
        refine ⟨S, b2, _, rfl, d14'.st, eb2, nb2, fun c2 H15 d15' fc2 ec2 => ?_⟩
        have nc2 : c2 ≠ S.a := d14'.st.neA fc2
        rw [put_map] at ec2
        have gc2 : GV (fun b => b ≠ S.a) H15 c2 := gv_of nc2 ec2 (put_len lr1) (put_tx tr1 tx2)
        have d1215 := d13'.trans (d14'.trans d15')
        have d115 := d112.trans d1215
        have d1515 : Drew S H15 H15 := ⟨But.refl H15, d15'.st⟩
        refine ⟨_, Lat d115, _, at_3, sz_of (by decide), fun m5 f10 => ⟨_, Lat (d115.new f10), _, at_2, sz_of (by decide), fun m6 f11 => ⟨sz_of (by decide), fun m7 f12 => ⟨sz_of (by decide), fun o2 f13 => ?_⟩⟩⟩⟩
        have d16 : Drew S H15 (upd (upd (upd (upd H15 m5 (.lst [.ref c1, .ref a3])) m6 (.lst [.ref a2, .ref c2])) m7 (.lst [.ref c1, .ref c2])) o2 (.lst [.ref m5, .ref m6, .ref m7])) := (((d1515.new f10).new f11).new f12).new f13
        have e5 : (upd (upd (upd (upd H15 m5 (.lst [.ref c1, .ref a3])) m6 (.lst [.ref a2, .ref c2])) m7 (.lst [.ref c1, .ref c2])) o2 (.lst [.ref m5, .ref m6, .ref m7])) m5 = some (.lst [.ref c1, .ref a3]) := same_new f13 _ _ (same_new f12 _ _ (same_new f11 _ _ upd_same))
        have e6 : (upd (upd (upd (upd H15 m5 (.lst [.ref c1, .ref a3])) m6 (.lst [.ref a2, .ref c2])) m7 (.lst [.ref c1, .ref c2])) o2 (.lst [.ref m5, .ref m6, .ref m7])) m6 = some (.lst [.ref a2, .ref c2]) := same_new f13 _ _ (same_new f12 _ _ upd_same)
        have e7 : (upd (upd (upd (upd H15 m5 (.lst [.ref c1, .ref a3])) m6 (.lst [.ref a2, .ref c2])) m7 (.lst [.ref c1, .ref c2])) o2 (.lst [.ref m5, .ref m6, .ref m7])) m7 = some (.lst [.ref c1, .ref c2]) := same_new f13 _ _ upd_same
        have n5 : m5 ≠ S.a := d15'.st.neA f10
        have n6 : m6 ≠ S.a := (d1515.new f10).st.neA f11
        have n7 : m7 ≠ S.a := ((d1515.new f10).new f11).st.neA f12
        generalize upd (upd (upd (upd H15 m5 (.lst [.ref c1, .ref a3])) m6 (.lst [.ref a2, .ref c2])) m7 (.lst [.ref c1, .ref c2])) o2 (.lst [.ref m5, .ref m6, .ref m7]) = H16 at d16 e5 e6 e7 ⊢
        have d916 := d10.trans (d11.trans (d12.trans (d1215.trans d16)))
        refine ⟨_, d916.but M2 _ nM2 eM2, sz_of (show 4 + 3 ≤ 100000 by decide), fun M3 f14 => ?_⟩
        have d1616 : Drew S H16 H16 := ⟨But.refl H16, d16.st⟩
        have d17' := d1616.new (o := .lst ([V.ref m1, V.ref m2, V.ref m3] ++ [V.ref m4] ++ [V.ref m5, V.ref m6, V.ref m7])) f14
        refine ⟨S, M3, [V.ref m1, V.ref m2, V.ref m3] ++ [V.ref m4] ++ [V.ref m5, V.ref m6, V.ref m7], rfl, d17'.st, by rw [upd_same] <;> rfl, d16.st.neA f14, (show 7 ≤ 1000 by decide), fun r zs' Hf df fr er pm' => ?_⟩
        have dEf : Drew S H16 Hf := d17'.trans df
        have d15f := d16.trans dEf
        have d12f := d1215.trans d15f
        have d9f := d10.trans (d11.trans (d12.trans d12f))
        have d8f := d9.trans d9f
        have d7f := d8.trans d8f
        have d6f := d7.trans d7f
        have d5f := d6.trans d6f
        have d4f := d5.trans d5f
        have d1f := d14.trans d4f
        have G0 := (g0.keep (KD d1f)).gv
        have G1 := (g1.keep (KD d1f)).gv
        have G2 := (g2.keep (KD d1f)).gv
        have G3 := (g3.keep (KD d1f)).gv
        have C1 := gc1.keep (KD d12f)
        have C2 := gc2.keep (KD d15f)
        have T1 : GV (fun b => b ≠ S.a) Hf t1 := gv_of nt1 (by rw [d7f.but t1 _ nt1 et1] <;> rfl) (by omega) fun z hz => nm.tx z (mO z hz)
        have T2 : GV (fun b => b ≠ S.a) Hf t2 := gv_of nt2 (by rw [d8f.but t2 _ nt2 et2] <;> rfl) (by omega) nm.tx
        obtain ⟨gs, egs, hgs⟩ := strs_of (F := fun z => z ∈ ns) (ys := zs) fun y hy => by
          obtain ⟨z, hz, e⟩ := List.mem_map.mp (sub.subset (pm.mem_iff.mp hy))
          exact ⟨z, e.symm, hz⟩
        have lgs : gs.length ≤ 10 := by
          have l := pm.length_eq
          rw [egs, List.length_map] at l
          omega
        have SF : GV (fun b => b ≠ S.a) Hf sf := gv_of nsS (by rw [d6f.but sf _ nsS es, egs] <;> rfl) (by omega) fun z hz => nm.tx z (hgs z hz)
        have P1 := pv_of (N := fun b => b ≠ S.a) n1 (d4f.but m1 _ n1 e1) G0 G1
        have P2 := pv_of (N := fun b => b ≠ S.a) n2 (d5f.but m2 _ n2 e2) G2 G2
        have P3 := pv_of (N := fun b => b ≠ S.a) n3 (d7f.but m3 _ n3 e3) SF T1
        have P4 := pv_of (N := fun b => b ≠ S.a) n4 (d8f.but m4 _ n4 e4) T2 G3
        have P5 := pv_of (N := fun b => b ≠ S.a) n5 (dEf.but m5 _ n5 e5) C1 G3
        have P6 := pv_of (N := fun b => b ≠ S.a) n6 (dEf.but m6 _ n6 e6) G2 C2
        have P7 := pv_of (N := fun b => b ≠ S.a) n7 (dEf.but m7 _ n7 e7) C1 C2
        obtain ⟨ds, pr, gd⟩ := pv_all (N := fun b => b ≠ S.a) (H := Hf) (ys := zs') fun v hv => by
          have hv := pm'.mem_iff.mp hv
          simp only [List.cons_append, List.nil_append, List.mem_cons, List.not_mem_nil, or_false] at hv
          rcases hv with rfl | rfl | rfl | rfl | rfl | rfl | rfl
          · exact P1
          · exact P2
          · exact P3
          · exact P4
          · exact P5
          · exact P6
          · exact P7
        have l7 : zs'.length = 7 := pm'.length_eq
        exact q r ds Hf (r1.trans d1f) ⟨r, zs', rfl, trivial, er, by omega, paired_imp (fun v d h => h.mono fun _ _ _ _ => trivial) pr⟩ (by rw [← paired_len pr]; exact l7) gd
end
end Z
set_option Elab.async false
set_option linter.all false
set_option maxRecDepth 100000
set_option maxHeartbeats 4000000
namespace Z
open PySem PySem.Spec PyProof.Rows L2 L2H
/-! ### C(.., k = v), an own class -/
structure Mkw (P : Program) (w : World) (K : PySem.W.Frag) (mg : Str → Option Value) (base : Heap) (k : Nat) (x : Str) (C : Addr) (n : Nat) (ks : List Str) (gV : List V → List V → List V) (sp : Sp) : Prop where
  ex : ∃ (f : Addr) (fd : FuncData) (ps : List Str) (g : List Value → List Value → List Value), Mk K C f ∧ FnOk P w K mg base CX0 k f fd ps sp ∧ mg x = some (.ref C) ∧ KBn K fd ps (n + 1) ks g gV
theorem pe_mk {X : Cx} {k j n : Nat} {x : Str} {C : Addr} {ks : List Str} {gV : List V → List V → List V} {sp : Sp} {p pos : Pos} {e : Expr} {es : List Expr} {kws : List Keyword} {t tk : TA} (c : Mkw X.prog X.w X.K X.mg X.base k x C n ks gV sp) (hr : Room j X.A) (hk : k + 1 ≤ j) (hg : Gl X x) (ha : PA X (e :: es) t) (hkw : PK X kws tk)
    (hall : (backToKw pos (keywordEach kws X.env)).all (·.1.isSome) = true := by rfl) (hks : (backToKw pos (keywordEach kws X.env)).filterMap (·.1) = ks := by rfl) (hdb : (x == ("__debug__" : Str)) = false := by decide)
    (he : starEach (e :: es) X.env = (false, eval e X.env) :: starEach es X.env := by rfl) (hpl : ((backTo pos (starEach (e :: es) X.env)).any (·.1) || (backToKw pos (keywordEach kws X.env)).any (·.1.isNone)) = false := by rfl) :
    PE X (.Call (.Name x p) (e :: es) kws pos) (tMakeK C n ks.length sp gV E0 t tk) := by
  obtain ⟨f, fd, ps, g, M, F, hm, b⟩ := c.ex
  exact pe_makeK M F (hr.mono hk) hg hm b pass0 ha hkw hall hks hdb he hpl
section
variable {P : Program} {w : World} {K : PySem.W.Frag} {mg : Str → Option Value} {base : Heap}
theorem mk_pond {CP CZ CN CR CU CS : Addr} {kws : List (Str × V)} {f : Addr} {fd : FuncData} (FD : FunD K "__init__" "Pond.__init__" (defArgs s_Pond___init__) (defBody s_Pond___init__) (defScope s_Pond___init__) [] kws f fd) (M : Mk K CP f) (hm : mg "Pond" = some (.ref CP)) (clsP : Cls K CP) (B : Blt mg)
    (na_names : NoAttr K CP "_names") (na_places : NoAttr K CP "_places") (na_strifes : NoAttr K CP "_strifes") (c_check_names : Cr P w K mg base 4 "check_names" (sp_check_names CZ CN CR)) (cm_pair_of : Cm P w K mg base 4 CP "pair_of" (sp_pair_of CP CU CS)) (c_in_pair_order : Cl P w K mg base 4 "in_pair_order" (sp_in_pair_order CP)) :
    Mkw P w K mg base 5 "Pond" CP 1 ["strifes"] (fun vs zs => vs ++ zs) (sp_init CP) := by
  have F0 := fn_calm (ok_init (w := w) (P := P) (base := base) FD clsP B na_names na_places na_strifes c_check_names cm_pair_of c_in_pair_order)
  have F : FnOk P w K mg base CX0 5 f fd ["self", "names", "strifes"] (sp_init CP) := F0
  obtain ⟨oc, od, dV, kV, doc, pm, an, cdv, ct, osl, rfl, lk, hcd, hD, hK⟩ := id FD.ex
  rcases hD with ⟨_, rfl⟩ | ⟨e, _⟩
  · exact ⟨f, _, _, fun us ws => us ++ ws, M, F, hm, ⟨fun s us ws X l1 l2 => .of_eq (match us, l1, ws, l2 with
      | [_, _], _, [_], _ => rfl), fun r1 r2 => r1.append r2⟩⟩
  · exact absurd rfl e
theorem PondAt.keep {C : Addr} {H H' : Hp} {p : Addr} {ns : List Str} {ss : List (Str × Str)} (s : ∀ b o, (∀ xs, o ≠ .lst xs) → H b = some o → H' b = some o) (h : PondAt C H p ns ss) : PondAt C H' p ns ss := by
  obtain ⟨dx, n, d, t, e1, e2, e3, ts, e4, pr⟩ := h
  exact ⟨dx, n, d, t, s _ _ (fun _ h => by cases h) e1, s _ _ (fun _ h => by cases h) e2, s _ _ (fun _ h => by cases h) e3, ts, s _ _ (fun _ h => by cases h) e4, paired_imp (fun _ _ h => s _ _ (fun _ h => by cases h) h) pr⟩
theorem Drew.nol {S : Sto} {H H' : Hp} (st : Store S H) (d : Drew S H H') : ∀ b o, (∀ xs, o ≠ .lst xs) → H b = some o → H' b = some o := fun b o n e => d.but b o (fun h => by
  obtain ⟨i, x, y, z, h1, _⟩ := st.ex
  rw [h, h1] at e
  cases e
  exact n _ rfl) e
/-- a pair of groups, its data told -/
structure PG (d : Dt) (g1 g2 : List Str) : Prop where
  ex : ∃ e1 e2, d = .lst [e1, e2] ∧ (e1 = .lst (g1.map Dt.str) ∨ e1 = .tup (g1.map Dt.str)) ∧ (e2 = .lst (g2.map Dt.str) ∨ e2 = .tup (g2.map Dt.str))
  l1 : g1.length ≤ 50
  l2 : g2.length ≤ 50
  tx : ∀ z ∈ g1 ++ g2, Tx 1000 z
theorem pg_of {d : Dt} (h : GoodP d) : ∃ g1 g2, PG d g1 g2 := by
  obtain ⟨e1, e2, rfl, ⟨g1, h1, l1, t1⟩, ⟨g2, h2, l2, t2⟩⟩ := h
  exact ⟨g1, g2, ⟨e1, e2, rfl, h1, h2⟩, l1, l2, fun z hz => (List.mem_append.mp hz).elim (t1 z) (t2 z)⟩
theorem pg_at {H : Hp} {A : Addr} {ds : List Dt} {k : Nat} {d : Dt} {g1 g2 : List Str} (h : Rp AnyN H 4 (.ref A) (.lst ds)) (e : ds[k]? = some d) (g : PG d g1 g2) : ∃ (xs : List V) (y u1 u2 : Addr), seqAt (H A) = some xs ∧ atI xs (k : Int) = some (.ref y) ∧ seqAt (H y) = some [.ref u1, .ref u2] ∧ SqX H u1 (g1.map V.str) ∧ SqX H u2 (g2.map V.str) := by
  obtain ⟨a, xs, ea, _, ha, l, p⟩ := h
  cases ea
  obtain ⟨v, ev, rv⟩ := paired_getR p e
  obtain ⟨e1, e2, rfl, h1, h2⟩ := g.ex
  obtain ⟨y, ys, rfl, _, hy, _, py⟩ := rv
  cases py with
  | cons r1 t =>
    cases t with
    | cons r2 t =>
      cases t
      obtain ⟨u1, rfl, _, s1⟩ := good_seq (k := 0) h1 r1
      obtain ⟨u2, rfl, _, s2⟩ := good_seq (k := 0) h2 r2
      exact ⟨xs, y, u1, u2, by rw [ha] <;> rfl, atI_nat ev, by rw [hy] <;> rfl, s1, s2⟩
theorem pr2_mem {ns : List Str} (nd : ns.Nodup) {qs : List (Str × Str)} (tw : ∀ q ∈ qs, Two ns q) {q : Str × Str} (hq : q ∈ nmP ns) : q ∈ qs.map (fun q => pr2 ns q.1 q.2) ↔ q ∈ qs ++ qs.map swP := by
  have lt : ns.idxOf q.1 < ns.idxOf q.2 := by
    rw [nmP] at hq
    obtain ⟨ij, hm, rfl⟩ := List.mem_map.mp hq
    obtain ⟨l1, l2⟩ := ix2_lt hm
    have e : ∀ {i : Nat}, i < ns.length → ns.idxOf (ns.getD i Str.empty) = i := fun {i} h => by
      rw [List.getD_eq_getElem?_getD, List.getElem?_eq_getElem h]
      exact List.Nodup.idxOf_getElem nd i h
    show ns.idxOf (ns.getD ij.1 Str.empty) < ns.idxOf (ns.getD ij.2 Str.empty)
    rw [e l2, e (by omega)]
    exact l1
  constructor
  · intro h
    obtain ⟨r, hr, e⟩ := List.mem_map.mp h
    unfold pr2 at e
    split at e
    · rw [← e]; exact List.mem_append_left _ hr
    · rw [← e]; exact List.mem_append_right _ (List.mem_map.mpr ⟨r, hr, rfl⟩)
  · intro h
    rcases List.mem_append.mp h with h | h
    · refine List.mem_map.mpr ⟨q, h, ?_⟩
      unfold pr2
      rw [if_pos (Nat.le_of_lt lt)]
    · obtain ⟨r, hr, e⟩ := List.mem_map.mp h
      refine List.mem_map.mpr ⟨r, hr, ?_⟩
      rw [← e] at lt
      unfold pr2
      rw [if_neg (by show ¬ ns.idxOf r.1 ≤ ns.idxOf r.2; have : ns.idxOf r.2 < ns.idxOf r.1 := lt; omega)]
      exact e
theorem kept_eq {ns : List Str} (nd : ns.Nodup) {qs : List (Str × Str)} (tw : ∀ q ∈ qs, Two ns q) : (nmP ns).filter (fun q => decide (q ∈ qs ++ qs.map swP)) = (nmP ns).filter fun q => decide (q ∈ qs.map fun q => pr2 ns q.1 q.2) :=
  List.filter_congr fun q hq => by
    rw [decide_eq_decide]
    exact (pr2_mem nd tw hq).symm
end
end Z
set_option Elab.async false
set_option linter.all false
set_option maxRecDepth 100000
set_option maxHeartbeats 4000000
namespace Z
open PySem PySem.Spec PyProof.Rows L2 L2H
section
variable {P : Program} {w : World} {K : PySem.W.Frag} {mg : Str → Option Value} {base : Heap}
theorem paired_and {α β : Type} {F : α → β → Prop} {G : β → Prop} : ∀ {l : List α} {m : List β}, Paired F l m → (∀ b ∈ m, G b) → Paired (fun a b => F a b ∧ G b) l m
  | _, _, .nil, _ => .nil
  | _, _, .cons r t, h => .cons ⟨r, h _ List.mem_cons_self⟩ (paired_and t fun b hb => h b (List.mem_cons_of_mem _ hb))
abbrev s_law : Stmt := topS 72
abbrev N_law : List Str := ["script", "store", "lot_names", "pair_row", "some_pond", "asked", "kept_asked", "k", "due"]
theorem sc_law : FnScope N_law ["script"] (defScope s_law) := ⟨rfl, rfl, rfl, by decide +kernel, rfl, by decide +kernel, by decide +kernel⟩
theorem b_law : BindO "law" s_law ["script"] := fun _ _ _ _ _ _ us hl => match us, hl with | [_], _ => rfl

theorem fn_law {CP : Addr} {f : Addr} {fd : FuncData} (F : Fun K "law" "law" s_law f fd) (B : Blt mg) (c_law_store : Cl P w K mg base 1 "_law_store" (sp_store K)) (c_law_many : Cl P w K mg base 4 "_law_many" sp_lotmany) (c_law_lots : Cl P w K mg base 5 "_law_lots" sp_lots)
    (c_law_few_pairs : Cl P w K mg base 5 "_law_few_pairs" sp_few) (mk_Pond : Mkw P w K mg base 5 "Pond" CP 1 ["strifes"] (fun vs zs => vs ++ zs) (sp_init CP)) (c_law_group_pairs : Cl P w K mg base 6 "_law_group_pairs" sp_gpairs) (c_law_copy : Cl P w K mg base 4 "_law_copy" (sp_copy 4))
    (c_law_due : Cl P w K mg base 2 "_law_due" sp_due) (c_law_told : Cl P w K mg base 5 "_law_told" (sp_told CP)) (c_law_same : Cl P w K mg base 6 "_law_same" (sp_same 6)) (c_law_pond_is : Cl P w K mg base 4 "_law_pond_is" (sp_pond_is CP)) (c_law_kept : Cl P w K mg base 2 "_law_kept" sp_kept) : FnOk P w K mg base CX0 7 f fd ["script"] (sp_top K) := by
  refine F.ok sc_law (fun vs H Q E h => ?_) (fun cdv A outer s H vs Q E hr h => ?_)
  · obtain ⟨a, ns, rfl, _⟩ := h
    rfl
  · obtain ⟨a, cs, rfl, hs, hc, q⟩ := h
    refine ⟨_, (pss_cons (ps_set (i := 1) sc_law.nd rfl (.inl rfl) (pe_cl c_law_store hr (by omega) rfl (pa_cons (pv 0) pa_nil)))
      (pss_cons (ps_set (i := 2) sc_law.nd rfl (.inl rfl) (pe_cl c_law_lots hr (by omega) rfl (pa_cons (pv 1) (pa_cons (pe_cl c_law_many hr (by omega) rfl (pa_cons (pv 1) pa_nil)) pa_nil))))
      (pss_cons (ps_set (i := 3) sc_law.nd rfl (.inl rfl) (pe_cl c_law_few_pairs hr (by omega) rfl (pa_cons (pv 1) (pa_cons (pv 2) pa_nil))))
      (pss_cons (ps_set (i := 4) sc_law.nd rfl (.inl rfl) (pe_mk mk_Pond hr (by omega) rfl (pa_cons (pe_callTy call_tupL (by rfl) B.tuple (by decide +kernel) (pa_cons (pv 2) pa_nil)) pa_nil) (pk_cons (pv 3) pk_nil)))
      (pss_cons (ps_set (i := 5) sc_law.nd rfl (.inl rfl) (pe_cl c_law_group_pairs hr (by omega) rfl (pa_cons (pv 1) (pa_cons (pv 2) pa_nil))))
      (pss_cons (ps_set (i := 6) sc_law.nd rfl (.inl rfl) (pe_cl c_law_copy hr (by omega) rfl (pa_cons (pv 5) pa_nil)))
      (pss_cons (ps_for PassesOwn.never rfl (pi_range1 (by rfl) B.range (pa_cons (pe_callB call_lenQ (by rfl) B.len PySem.boot_len (pa_cons (pv 5) pa_nil)) pa_nil)) (pg_name (i := 7) sc_law.nd rfl (.inl rfl)) (pss_cons (ps_set (i := 8) sc_law.nd rfl (.inl rfl) (pe_cl c_law_due hr (by omega) rfl (pa_cons (pv 2) (pa_cons (pe_ix at_seq (pe_ix at_seq (pv 6) (pv 7) (fun _ _ => rfl)) pe_int (fun _ _ => rfl)) (pa_cons (pe_ix at_seq (pe_ix at_seq (pv 6) (pv 7) (fun _ _ => rfl)) pe_int (fun _ _ => rfl)) pa_nil)))))
      (pss_cons (ps_if (pt_not (pt_val (pe_cl c_law_same hr (by omega) rfl (pa_cons (pe_cl c_law_told hr (by omega) rfl (pa_cons (pv 4) (pa_cons (pe_ix at_seq (pe_ix at_seq (pv 5) (pv 7) (fun _ _ => rfl)) pe_int (fun _ _ => rfl)) (pa_cons (pe_ix at_seq (pe_ix at_seq (pv 5) (pv 7) (fun _ _ => rfl)) pe_int (fun _ _ => rfl)) pa_nil)))) (pa_cons (pv 8) pa_nil))))) (pss_one (ps_ret pe_bl)) pss_nil)
      (pss_cons (ps_set (i := 8) sc_law.nd rfl (.inl rfl) (pe_cl c_law_due hr (by omega) rfl (pa_cons (pv 2) (pa_cons (pe_ix at_seq (pe_ix at_seq (pv 6) (pv 7) (fun _ _ => rfl)) pe_int (fun _ _ => rfl)) (pa_cons (pe_ix at_seq (pe_ix at_seq (pv 6) (pv 7) (fun _ _ => rfl)) pe_int (fun _ _ => rfl)) pa_nil)))))
      (pss_one (ps_if (pt_not (pt_val (pe_cl c_law_same hr (by omega) rfl (pa_cons (pe_cl c_law_told hr (by omega) rfl (pa_cons (pv 4) (pa_cons (pe_ix at_seq (pe_ix at_seq (pv 5) (pv 7) (fun _ _ => rfl)) pe_int (fun _ _ => rfl)) (pa_cons (pe_ix at_seq (pe_ix at_seq (pv 5) (pv 7) (fun _ _ => rfl)) pe_int (fun _ _ => rfl)) pa_nil)))) (pa_cons (pv 8) pa_nil))))) (pss_one (ps_ret pe_bl)) pss_nil))))))
      (pss_cons (ps_set (i := 8) sc_law.nd rfl (.inl rfl) (pe_cl c_law_due hr (by omega) rfl (pa_cons (pv 2) (pa_cons (pe_ix at_seq (pe_ix at_seq (pv 6) pe_int (fun _ _ => rfl)) pe_int (fun _ _ => rfl)) (pa_cons (pe_ix at_seq (pe_ix at_seq (pv 6) pe_int (fun _ _ => rfl)) pe_int (fun _ _ => rfl)) pa_nil)))))
      (pss_cons (ps_if (pt_not (pt_val (pe_cl c_law_same hr (by omega) rfl (pa_cons (pe_lst (pa_cons (pe_cl c_law_told hr (by omega) rfl (pa_cons (pv 4) (pa_cons (pe_ix at_seq (pe_ix at_seq (pv 5) pe_int (fun _ _ => rfl)) pe_int (fun _ _ => rfl)) (pa_cons (pe_ix at_seq (pe_ix at_seq (pv 5) pe_int (fun _ _ => rfl)) pe_int (fun _ _ => rfl)) pa_nil)))) (pa_cons (pv 5) pa_nil))) (pa_cons (pe_lst (pa_cons (pv 8) (pa_cons (pv 6) pa_nil))) pa_nil))))) (pss_one (ps_ret pe_bl)) pss_nil)
      (pss_one (ps_ret (pe_cl c_law_pond_is hr (by omega) rfl (pa_cons (pv 4) (pa_cons (pv 2) (pa_cons (pe_cl c_law_kept hr (by omega) rfl (pa_cons (pv 2) (pa_cons (pv 3) pa_nil))) pa_nil))))))))))))))), ?_⟩
    rw [show L2.start N_law [.ref a] = [some (.ref a), none, none, none, none, none, none, none, none] from rfl]
    simp only [tSeq, tNext, tDrop, tRet, tRetN, tIfS, tAsg, gName, tAug, ipI, tVar, tC, tOp, tUn, rI, rI0, rU, tCons, tNil, tCB, tTup, tLst, tTest, tB, tAnd, tOr, tNot, tAndV, tOrV, tNotV, tIf, tCl, tCd, tCk, gSub, rPutL, rAtQ, rIntI, rLenQ, rLenS, rListQ, rTupL, rTupQ, rIsQ_c, kd_non, kd_bl, kd_int, kd_str, kd_ref, kdO_lst, kdO_tup, kit_NoneType_bool, kit_NoneType_int, kit_NoneType_str, kit_NoneType_list, kit_NoneType_tuple, kit_bool_bool, kit_bool_int, kit_bool_str, kit_bool_list, kit_bool_tuple, kit_int_bool, kit_int_int, kit_int_str, kit_int_list, kit_int_tuple, kit_str_bool, kit_str_int, kit_str_str, kit_str_list, kit_str_tuple, kit_list_bool, kit_list_int, kit_list_str, kit_list_list, kit_list_tuple, kit_tuple_bool, kit_tuple_int, kit_tuple_str, kit_tuple_list, kit_tuple_tuple, V.ty.injEq, rSortQ, rSlQ, rMulS, tJn, rAtX, rSlS, tSl, tPart, tNoPart, cut_lo2, cut_hi2, rInQ, gLq, gTq, gC_c, gNil, tChain, List.cons_append, List.nil_append, tBL, tBL0, tBad, tCr, tCe, tXF, cxH_K, HO.xd.injEq, rApp, rPopN, rRevL, seqAt_lst, seqAt_tup, at_0, at_1, at_2, at_3, at_4, ix_0, ix_1, ix_2, ix_3, ix_4, cx_K, upd_same, List.length_cons, List.length_nil, Nat.reduceAdd,  rEq, rNe, tRevL, V.int.injEq, V.bl.injEq, V.str.injEq, V.ref.injEq, List.cons.injEq, and_true, true_and, exists_and_left, exists_and_right, exists_eq_left, exists_eq_left', exists_eq_right, exists_eq_right', exists_const, Option.some.injEq, List.getElem?_cons_zero, List.getElem?_cons_succ, List.set_cons_zero, List.set_cons_succ, decide_eq_true_eq, decide_true, decide_false,  scal_ii, scal_bb, scal_ss, cmul_r, cdiv_l, cpow_12, cpow_18, cpow_40, HO.lst.injEq, HO.tup.injEq, upd_upd, Int.reduceToNat,  decide_not, Bool.not_eq_true', decide_eq_false_iff_not, if_true, if_false, Bool.false_eq_true, Bool.true_eq_false, reduceCtorEq, Int.reduceNeg, Nat.reduceLT, Int.reduceLT, Int.reducePow, gt_iff_lt]
    refine ⟨a, cs, rfl, hs, hc, fun S H0 r0 st0 => ?_⟩
    refine ⟨S, rfl, st0, fun m H1 r1 m1 m2 => ?_⟩
    refine ⟨S, m, rfl, r1.st, m1, m2, fun p ns H2 r2 fp ep nm => ?_⟩
    have npa : p ≠ S.a := r1.st.neA fp
    refine ⟨S, p, ns, rfl, r2.st, ep, npa, nm.hi, nm.nd, fun r ts qs H3 r3 fr er lts pq tw => ?_⟩
    have st3 := r3.st
    have d23 := r3
    have ep3 : H3 p = some (.lst (ns.map V.str)) := r3.but p _ npa ep
    have tq : Paired (fun (a : Addr) (q : Str × Str) => H3 a = some (.tup (pairV q))) ts qs := paired_imp (fun _ _ h => h.2) pq
    simp only [tSeq, tNext, tDrop, tRet, tRetN, tIfS, tAsg, gName, tAug, ipI, tVar, tC, tOp, tUn, rI, rI0, rU, tCons, tNil, tCB, tTup, tLst, tTest, tB, tAnd, tOr, tNot, tAndV, tOrV, tNotV, tIf, tCl, tCd, tCk, gSub, rPutL, rAtQ, rIntI, rLenQ, rLenS, rListQ, rTupL, rTupQ, rIsQ_c, kd_non, kd_bl, kd_int, kd_str, kd_ref, kdO_lst, kdO_tup, kit_NoneType_bool, kit_NoneType_int, kit_NoneType_str, kit_NoneType_list, kit_NoneType_tuple, kit_bool_bool, kit_bool_int, kit_bool_str, kit_bool_list, kit_bool_tuple, kit_int_bool, kit_int_int, kit_int_str, kit_int_list, kit_int_tuple, kit_str_bool, kit_str_int, kit_str_str, kit_str_list, kit_str_tuple, kit_list_bool, kit_list_int, kit_list_str, kit_list_list, kit_list_tuple, kit_tuple_bool, kit_tuple_int, kit_tuple_str, kit_tuple_list, kit_tuple_tuple, V.ty.injEq, rSortQ, rSlQ, rMulS, tJn, rAtX, rSlS, tSl, tPart, tNoPart, cut_lo2, cut_hi2, rInQ, gLq, gTq, gC_c, gNil, tChain, List.cons_append, List.nil_append, tBL, tBL0, tBad, tCr, tCe, tXF, cxH_K, HO.xd.injEq, rApp, rPopN, rRevL, seqAt_lst, seqAt_tup, at_0, at_1, at_2, at_3, at_4, ix_0, ix_1, ix_2, ix_3, ix_4, cx_K, upd_same, List.length_cons, List.length_nil, Nat.reduceAdd,  rEq, rNe, tRevL, V.int.injEq, V.bl.injEq, V.str.injEq, V.ref.injEq, List.cons.injEq, and_true, true_and, exists_and_left, exists_and_right, exists_eq_left, exists_eq_left', exists_eq_right, exists_eq_right', exists_const, Option.some.injEq, List.getElem?_cons_zero, List.getElem?_cons_succ, List.set_cons_zero, List.set_cons_succ, decide_eq_true_eq, decide_true, decide_false,  scal_ii, scal_bb, scal_ss, cmul_r, cdiv_l, cpow_12, cpow_18, cpow_40, HO.lst.injEq, HO.tup.injEq, upd_upd, Int.reduceToNat,  decide_not, Bool.not_eq_true', decide_eq_false_iff_not, if_true, if_false, Bool.false_eq_true, Bool.true_eq_false, reduceCtorEq, Int.reduceNeg, Nat.reduceLT, Int.reduceLT, Int.reducePow, gt_iff_lt, tMakeK]
    refine ⟨_, ep3, fun l fl x dx fx fdx nx => ?_⟩
    have s4 : Same H3 (upd (upd (upd H3 l (.tup (ns.map V.str))) dx (.own x)) x (.ins CP dx [])) := fun b o e => by
      have e1 := same_new (o := .tup (ns.map V.str)) fl b o e
      have n1 : b ≠ x := ne_of_none e1 fx
      have n2 : b ≠ dx := ne_of_none e1 fdx
      rw [upd_ne n1, upd_ne n2]
      exact e1
    have nrS : r ≠ S.a := r2.st.neA fr
    have hl4 : upd (upd (upd H3 l (.tup (ns.map V.str))) dx (.own x)) x (.ins CP dx []) l = some (.tup (ns.map V.str)) := by
      have e1 : upd H3 l (.tup (ns.map V.str)) l = some (.tup (ns.map V.str)) := upd_same
      rw [upd_ne (ne_of_none e1 fx), upd_ne (ne_of_none e1 fdx)]
      exact e1
    refine ⟨x, l, r, dx, ns, ts, qs, rfl, upd_same, hl4, nm, s4 _ _ er, lts, paired_imp (fun _ _ h => ⟨s4 _ _ h.1, h.2⟩) (paired_and tq tw), fun H5 kp pond => ⟨rfl, ?_⟩⟩
    have fx3 : H3 x = none := by
      by_cases e : x = l
      · rw [e, upd_same] at fx; cases fx
      · rw [upd_ne e] at fx; exact fx
    have s5 : Same H3 H5 := fun b o e => kp b o (ne_of_none e fx3) (s4 b o e)
    clear kp s4 hl4
    have st5 := st3.keep s5
    refine ⟨S, p, ns, rfl, st5, s5 _ _ ep3, npa, nm, fun A ds H6 d6 rA lA gA => ?_⟩
    refine ⟨AnyN, .ref A, .lst ds, rfl, rA, fun _ _ => trivial, fun v H7 s7 rB => ?_⟩
    obtain ⟨Bk, ys, rfl, _, hB, _, _⟩ := id rB
    have pond7 := (pond.keep (Drew.nol st5 d6)).same s7
    have p7 : H7 p = some (.lst (ns.map V.str)) := s7 _ _ (d6.but p _ npa (s5 _ _ ep3))
    have r7 : H7 r = some (.lst (ts.map V.ref)) := s7 _ _ (d6.but r _ nrS (s5 _ _ er))
    have t7 : Paired (fun (a : Addr) (q : Str × Str) => H7 a = some (.tup (pairV q))) ts qs := paired_imp (fun a q h => s7 _ _ (Drew.nol st5 d6 _ _ (fun _ e => by cases e) (s5 _ _ h))) tq
    have rA7 := rA.same s7
    clear pond rA s7 d6 s5 st5 ep3 er tq st3 d23 ep fx fx3 fdx nx fl r0 r1 r2 r3
    obtain ⟨A', xs, eA, _, hA, lxs, pA⟩ := id rA7
    cases eA
    have lx : xs.length = ds.length := paired_len pA
    refine z_forR xs.length (fun Q q => ?_) (by omega) (fun i σ' H' => ∃ c d, σ' = [some (.ref a), some (.ref S.a), some (.ref p), some (.ref r), some (.ref x), some (.ref A), some (.ref Bk), c, d] ∧ Same H7 H') ⟨none, none, rfl, fun _ _ h => h⟩ (fun i σ' H' hi hI => ?_) (fun σ' H' hI => ?_)
    · simp only [tSeq, tNext, tDrop, tRet, tRetN, tIfS, tAsg, gName, tAug, ipI, tVar, tC, tOp, tUn, rI, rI0, rU, tCons, tNil, tCB, tTup, tLst, tTest, tB, tAnd, tOr, tNot, tAndV, tOrV, tNotV, tIf, tCl, tCd, tCk, gSub, rPutL, rAtQ, rIntI, rLenQ, rLenS, rListQ, rTupL, rTupQ, rIsQ_c, kd_non, kd_bl, kd_int, kd_str, kd_ref, kdO_lst, kdO_tup, kit_NoneType_bool, kit_NoneType_int, kit_NoneType_str, kit_NoneType_list, kit_NoneType_tuple, kit_bool_bool, kit_bool_int, kit_bool_str, kit_bool_list, kit_bool_tuple, kit_int_bool, kit_int_int, kit_int_str, kit_int_list, kit_int_tuple, kit_str_bool, kit_str_int, kit_str_str, kit_str_list, kit_str_tuple, kit_list_bool, kit_list_int, kit_list_str, kit_list_list, kit_list_tuple, kit_tuple_bool, kit_tuple_int, kit_tuple_str, kit_tuple_list, kit_tuple_tuple, V.ty.injEq, rSortQ, rSlQ, rMulS, tJn, rAtX, rSlS, tSl, tPart, tNoPart, cut_lo2, cut_hi2, rInQ, gLq, gTq, gC_c, gNil, tChain, List.cons_append, List.nil_append, tBL, tBL0, tBad, tCr, tCe, tXF, cxH_K, HO.xd.injEq, rApp, rPopN, rRevL, seqAt_lst, seqAt_tup, at_0, at_1, at_2, at_3, at_4, ix_0, ix_1, ix_2, ix_3, ix_4, cx_K, upd_same, List.length_cons, List.length_nil, Nat.reduceAdd,  rEq, rNe, tRevL, V.int.injEq, V.bl.injEq, V.str.injEq, V.ref.injEq, List.cons.injEq, and_true, true_and, exists_and_left, exists_and_right, exists_eq_left, exists_eq_left', exists_eq_right, exists_eq_right', exists_const, Option.some.injEq, List.getElem?_cons_zero, List.getElem?_cons_succ, List.set_cons_zero, List.set_cons_succ, decide_eq_true_eq, decide_true, decide_false,  scal_ii, scal_bb, scal_ss, cmul_r, cdiv_l, cpow_12, cpow_18, cpow_40, HO.lst.injEq, HO.tup.injEq, upd_upd, Int.reduceToNat,  decide_not, Bool.not_eq_true', decide_eq_false_iff_not, if_true, if_false, Bool.false_eq_true, Bool.true_eq_false, reduceCtorEq, Int.reduceNeg, Nat.reduceLT, Int.reduceLT, Int.reducePow, gt_iff_lt]
      exact ⟨xs, by rw [hA] <;> rfl, q⟩
    · obtain ⟨c, d, rfl, s8⟩ := hI
      obtain ⟨di, hdi⟩ : ∃ di, ds[i]? = some di := ⟨_, List.getElem?_eq_getElem (by omega)⟩
      obtain ⟨g1, g2, pg⟩ := pg_of (gA di (List.mem_of_getElem? hdi))
      obtain ⟨xa, ya, ua, va, a1, a2, a3, a4, a5⟩ := pg_at (rA7.same s8) hdi pg
      obtain ⟨xb, yb, ub, vb, b1, b2, b3, b4, b5⟩ := pg_at (rB.same s8) hdi pg
      simp only [tSeq, tNext, tDrop, tRet, tRetN, tIfS, tAsg, gName, tAug, ipI, tVar, tC, tOp, tUn, rI, rI0, rU, tCons, tNil, tCB, tTup, tLst, tTest, tB, tAnd, tOr, tNot, tAndV, tOrV, tNotV, tIf, tCl, tCd, tCk, gSub, rPutL, rAtQ, rIntI, rLenQ, rLenS, rListQ, rTupL, rTupQ, rIsQ_c, kd_non, kd_bl, kd_int, kd_str, kd_ref, kdO_lst, kdO_tup, kit_NoneType_bool, kit_NoneType_int, kit_NoneType_str, kit_NoneType_list, kit_NoneType_tuple, kit_bool_bool, kit_bool_int, kit_bool_str, kit_bool_list, kit_bool_tuple, kit_int_bool, kit_int_int, kit_int_str, kit_int_list, kit_int_tuple, kit_str_bool, kit_str_int, kit_str_str, kit_str_list, kit_str_tuple, kit_list_bool, kit_list_int, kit_list_str, kit_list_list, kit_list_tuple, kit_tuple_bool, kit_tuple_int, kit_tuple_str, kit_tuple_list, kit_tuple_tuple, V.ty.injEq, rSortQ, rSlQ, rMulS, tJn, rAtX, rSlS, tSl, tPart, tNoPart, cut_lo2, cut_hi2, rInQ, gLq, gTq, gC_c, gNil, tChain, List.cons_append, List.nil_append, tBL, tBL0, tBad, tCr, tCe, tXF, cxH_K, HO.xd.injEq, rApp, rPopN, rRevL, seqAt_lst, seqAt_tup, at_0, at_1, at_2, at_3, at_4, ix_0, ix_1, ix_2, ix_3, ix_4, cx_K, upd_same, List.length_cons, List.length_nil, Nat.reduceAdd,  rEq, rNe, tRevL, V.int.injEq, V.bl.injEq, V.str.injEq, V.ref.injEq, List.cons.injEq, and_true, true_and, exists_and_left, exists_and_right, exists_eq_left, exists_eq_left', exists_eq_right, exists_eq_right', exists_const, Option.some.injEq, List.getElem?_cons_zero, List.getElem?_cons_succ, List.set_cons_zero, List.set_cons_succ, decide_eq_true_eq, decide_true, decide_false,  scal_ii, scal_bb, scal_ss, cmul_r, cdiv_l, cpow_12, cpow_18, cpow_40, HO.lst.injEq, HO.tup.injEq, upd_upd, Int.reduceToNat,  decide_not, Bool.not_eq_true', decide_eq_false_iff_not, if_true, if_false, Bool.false_eq_true, Bool.true_eq_false, reduceCtorEq, Int.reduceNeg, Nat.reduceLT, Int.reduceLT, Int.reducePow, gt_iff_lt]
      refine ⟨xb, b1, _, b2, _, rfl, _, b3, _, at_0, xb, b1, _, b2, _, rfl, _, b3, _, at_1, p, ub, vb, ns, g1, g2, rfl, s8 _ _ p7, nm.hi, b4, b5, pg.l1, pg.l2, fun v1 Hd d1 sd du rp => ?_⟩
      refine ⟨xa, same_seq sd a1, _, a2, _, rfl, _, same_seq sd a3, _, at_0, xa, same_seq sd a1, _, a2, _, rfl, _, same_seq sd a3, _, at_1, x, ua, va, ns, g1, g2, rfl, ((pond7.same s8).same sd).pl, nm.hi, nm.nd, a4.same sd, a5.same sd, pg.l1, pg.l2, pg.tx, fun v2 He d2 se du2 rp2 => ?_⟩
      obtain rfl := due_un du2 du
      refine ⟨AnyN, v2, v1, _, rfl, rp2.up, (rp.same se).up, ?_⟩
      have s9 : Same H' He := fun b o e => se b o (sd b o e)
      have S9 : Same H7 He := fun b o e => s9 b o (s8 b o e)
      clear rp rp2 du2 du se sd
      simp only [tSeq, tNext, tDrop, tRet, tRetN, tIfS, tAsg, gName, tAug, ipI, tVar, tC, tOp, tUn, rI, rI0, rU, tCons, tNil, tCB, tTup, tLst, tTest, tB, tAnd, tOr, tNot, tAndV, tOrV, tNotV, tIf, tCl, tCd, tCk, gSub, rPutL, rAtQ, rIntI, rLenQ, rLenS, rListQ, rTupL, rTupQ, rIsQ_c, kd_non, kd_bl, kd_int, kd_str, kd_ref, kdO_lst, kdO_tup, kit_NoneType_bool, kit_NoneType_int, kit_NoneType_str, kit_NoneType_list, kit_NoneType_tuple, kit_bool_bool, kit_bool_int, kit_bool_str, kit_bool_list, kit_bool_tuple, kit_int_bool, kit_int_int, kit_int_str, kit_int_list, kit_int_tuple, kit_str_bool, kit_str_int, kit_str_str, kit_str_list, kit_str_tuple, kit_list_bool, kit_list_int, kit_list_str, kit_list_list, kit_list_tuple, kit_tuple_bool, kit_tuple_int, kit_tuple_str, kit_tuple_list, kit_tuple_tuple, V.ty.injEq, rSortQ, rSlQ, rMulS, tJn, rAtX, rSlS, tSl, tPart, tNoPart, cut_lo2, cut_hi2, rInQ, gLq, gTq, gC_c, gNil, tChain, List.cons_append, List.nil_append, tBL, tBL0, tBad, tCr, tCe, tXF, cxH_K, HO.xd.injEq, rApp, rPopN, rRevL, seqAt_lst, seqAt_tup, at_0, at_1, at_2, at_3, at_4, ix_0, ix_1, ix_2, ix_3, ix_4, cx_K, upd_same, List.length_cons, List.length_nil, Nat.reduceAdd,  rEq, rNe, tRevL, V.int.injEq, V.bl.injEq, V.str.injEq, V.ref.injEq, List.cons.injEq, and_true, true_and, exists_and_left, exists_and_right, exists_eq_left, exists_eq_left', exists_eq_right, exists_eq_right', exists_const, Option.some.injEq, List.getElem?_cons_zero, List.getElem?_cons_succ, List.set_cons_zero, List.set_cons_succ, decide_eq_true_eq, decide_true, decide_false,  scal_ii, scal_bb, scal_ss, cmul_r, cdiv_l, cpow_12, cpow_18, cpow_40, HO.lst.injEq, HO.tup.injEq, upd_upd, Int.reduceToNat,  decide_not, Bool.not_eq_true', decide_eq_false_iff_not, if_true, if_false, Bool.false_eq_true, Bool.true_eq_false, reduceCtorEq, Int.reduceNeg, Nat.reduceLT, Int.reduceLT, Int.reducePow, gt_iff_lt]
      refine ⟨xb, same_seq s9 b1, _, b2, _, rfl, _, same_seq s9 b3, _, at_1, xb, same_seq s9 b1, _, b2, _, rfl, _, same_seq s9 b3, _, at_0, p, vb, ub, ns, g2, g1, rfl, S9 _ _ p7, nm.hi, b5.same s9, b4.same s9, pg.l2, pg.l1, fun v1 Hd d1 sd du rp => ?_⟩
      have s10 : Same H' Hd := fun b o e => sd b o (s9 b o e)
      refine ⟨xa, same_seq s10 a1, _, a2, _, rfl, _, same_seq s10 a3, _, at_1, xa, same_seq s10 a1, _, a2, _, rfl, _, same_seq s10 a3, _, at_0, x, va, ua, ns, g2, g1, rfl, ((pond7.same S9).same sd).pl, nm.hi, nm.nd, a5.same s10, a4.same s10, pg.l2, pg.l1, fun z hz => pg.tx z ((List.mem_append.mp hz).elim (List.mem_append_right _) (List.mem_append_left _)), fun v2 Hf d2 se du2 rp2 => ?_⟩
      obtain rfl := due_un du2 du
      refine ⟨AnyN, v2, v1, _, rfl, rp2.up, (rp.same se).up, ?_⟩
      simp only [tSeq, tNext, tDrop, tRet, tRetN, tIfS, tAsg, gName, tAug, ipI, tVar, tC, tOp, tUn, rI, rI0, rU, tCons, tNil, tCB, tTup, tLst, tTest, tB, tAnd, tOr, tNot, tAndV, tOrV, tNotV, tIf, tCl, tCd, tCk, gSub, rPutL, rAtQ, rIntI, rLenQ, rLenS, rListQ, rTupL, rTupQ, rIsQ_c, kd_non, kd_bl, kd_int, kd_str, kd_ref, kdO_lst, kdO_tup, kit_NoneType_bool, kit_NoneType_int, kit_NoneType_str, kit_NoneType_list, kit_NoneType_tuple, kit_bool_bool, kit_bool_int, kit_bool_str, kit_bool_list, kit_bool_tuple, kit_int_bool, kit_int_int, kit_int_str, kit_int_list, kit_int_tuple, kit_str_bool, kit_str_int, kit_str_str, kit_str_list, kit_str_tuple, kit_list_bool, kit_list_int, kit_list_str, kit_list_list, kit_list_tuple, kit_tuple_bool, kit_tuple_int, kit_tuple_str, kit_tuple_list, kit_tuple_tuple, V.ty.injEq, rSortQ, rSlQ, rMulS, tJn, rAtX, rSlS, tSl, tPart, tNoPart, cut_lo2, cut_hi2, rInQ, gLq, gTq, gC_c, gNil, tChain, List.cons_append, List.nil_append, tBL, tBL0, tBad, tCr, tCe, tXF, cxH_K, HO.xd.injEq, rApp, rPopN, rRevL, seqAt_lst, seqAt_tup, at_0, at_1, at_2, at_3, at_4, ix_0, ix_1, ix_2, ix_3, ix_4, cx_K, upd_same, List.length_cons, List.length_nil, Nat.reduceAdd,  rEq, rNe, tRevL, V.int.injEq, V.bl.injEq, V.str.injEq, V.ref.injEq, List.cons.injEq, and_true, true_and, exists_and_left, exists_and_right, exists_eq_left, exists_eq_left', exists_eq_right, exists_eq_right', exists_const, Option.some.injEq, List.getElem?_cons_zero, List.getElem?_cons_succ, List.set_cons_zero, List.set_cons_succ, decide_eq_true_eq, decide_true, decide_false,  scal_ii, scal_bb, scal_ss, cmul_r, cdiv_l, cpow_12, cpow_18, cpow_40, HO.lst.injEq, HO.tup.injEq, upd_upd, Int.reduceToNat,  decide_not, Bool.not_eq_true', decide_eq_false_iff_not, if_true, if_false, Bool.false_eq_true, Bool.true_eq_false, reduceCtorEq, Int.reduceNeg, Nat.reduceLT, Int.reduceLT, Int.reducePow, gt_iff_lt]
      exact ⟨⟨⟨_, rfl⟩, _, rfl⟩, fun b o e => se b o (sd b o (S9 b o e))⟩
    · obtain ⟨c, d, rfl, s8⟩ := hI
      obtain ⟨di, hdi⟩ : ∃ di, ds[0]? = some di := ⟨_, List.getElem?_eq_getElem (by omega)⟩
      obtain ⟨g1, g2, pg⟩ := pg_of (gA di (List.mem_of_getElem? hdi))
      obtain ⟨xa, ya, ua, va, a1, a2, a3, a4, a5⟩ := pg_at (rA7.same s8) hdi pg
      obtain ⟨xb, yb, ub, vb, b1, b2, b3, b4, b5⟩ := pg_at (rB.same s8) hdi pg
      have a2 : atI xa 0 = some (.ref ya) := a2
      have b2 : atI xb 0 = some (.ref yb) := b2
      simp only [tSeq, tNext, tDrop, tRet, tRetN, tIfS, tAsg, gName, tAug, ipI, tVar, tC, tOp, tUn, rI, rI0, rU, tCons, tNil, tCB, tTup, tLst, tTest, tB, tAnd, tOr, tNot, tAndV, tOrV, tNotV, tIf, tCl, tCd, tCk, gSub, rPutL, rAtQ, rIntI, rLenQ, rLenS, rListQ, rTupL, rTupQ, rIsQ_c, kd_non, kd_bl, kd_int, kd_str, kd_ref, kdO_lst, kdO_tup, kit_NoneType_bool, kit_NoneType_int, kit_NoneType_str, kit_NoneType_list, kit_NoneType_tuple, kit_bool_bool, kit_bool_int, kit_bool_str, kit_bool_list, kit_bool_tuple, kit_int_bool, kit_int_int, kit_int_str, kit_int_list, kit_int_tuple, kit_str_bool, kit_str_int, kit_str_str, kit_str_list, kit_str_tuple, kit_list_bool, kit_list_int, kit_list_str, kit_list_list, kit_list_tuple, kit_tuple_bool, kit_tuple_int, kit_tuple_str, kit_tuple_list, kit_tuple_tuple, V.ty.injEq, rSortQ, rSlQ, rMulS, tJn, rAtX, rSlS, tSl, tPart, tNoPart, cut_lo2, cut_hi2, rInQ, gLq, gTq, gC_c, gNil, tChain, List.cons_append, List.nil_append, tBL, tBL0, tBad, tCr, tCe, tXF, cxH_K, HO.xd.injEq, rApp, rPopN, rRevL, seqAt_lst, seqAt_tup, at_0, at_1, at_2, at_3, at_4, ix_0, ix_1, ix_2, ix_3, ix_4, cx_K, upd_same, List.length_cons, List.length_nil, Nat.reduceAdd,  rEq, rNe, tRevL, V.int.injEq, V.bl.injEq, V.str.injEq, V.ref.injEq, List.cons.injEq, and_true, true_and, exists_and_left, exists_and_right, exists_eq_left, exists_eq_left', exists_eq_right, exists_eq_right', exists_const, Option.some.injEq, List.getElem?_cons_zero, List.getElem?_cons_succ, List.set_cons_zero, List.set_cons_succ, decide_eq_true_eq, decide_true, decide_false,  scal_ii, scal_bb, scal_ss, cmul_r, cdiv_l, cpow_12, cpow_18, cpow_40, HO.lst.injEq, HO.tup.injEq, upd_upd, Int.reduceToNat,  decide_not, Bool.not_eq_true', decide_eq_false_iff_not, if_true, if_false, Bool.false_eq_true, Bool.true_eq_false, reduceCtorEq, Int.reduceNeg, Nat.reduceLT, Int.reduceLT, Int.reducePow, gt_iff_lt]
      refine ⟨xb, b1, _, b2, _, rfl, _, b3, _, at_0, xb, b1, _, b2, _, rfl, _, b3, _, at_1, p, ub, vb, ns, g1, g2, rfl, s8 _ _ p7, nm.hi, b4, b5, pg.l1, pg.l2, fun v1 Hd d1 sd du rp => ?_⟩
      refine ⟨xa, same_seq sd a1, _, a2, _, rfl, _, same_seq sd a3, _, at_0, xa, same_seq sd a1, _, a2, _, rfl, _, same_seq sd a3, _, at_1, x, ua, va, ns, g1, g2, rfl, ((pond7.same s8).same sd).pl, nm.hi, nm.nd, a4.same sd, a5.same sd, pg.l1, pg.l2, pg.tx, fun v2 He d2 se du2 rp2 => ?_⟩
      obtain rfl := due_un du2 du
      have S9 : Same H7 He := fun b o e => se b o (sd b o (s8 b o e))
      refine ⟨sz_of (by decide), fun k1 f1 => ⟨sz_of (by decide), fun k2 f2 => ?_⟩⟩
      have t1 := same_new (o := .lst [v2, V.ref A]) f1
      have t2 := same_new (o := .lst [v1, V.ref Bk]) f2
      have t12 : Same He _ := fun b o e => t2 b o (t1 b o e)
      refine ⟨AnyN, _, _, .lst [d2, .lst ds], rfl, ⟨k1, _, rfl, trivial, t2 _ _ upd_same, (by show 2 ≤ 1000; decide), .cons (rp2.same t12) (.cons ((rA7.same S9).same t12).up .nil)⟩, ⟨k2, _, rfl, trivial, upd_same, (by show 2 ≤ 1000; decide), .cons ((rp.same se).same t12) (.cons ((rB.same S9).same t12).up .nil)⟩, ?_⟩
      simp only [tSeq, tNext, tDrop, tRet, tRetN, tIfS, tAsg, gName, tAug, ipI, tVar, tC, tOp, tUn, rI, rI0, rU, tCons, tNil, tCB, tTup, tLst, tTest, tB, tAnd, tOr, tNot, tAndV, tOrV, tNotV, tIf, tCl, tCd, tCk, gSub, rPutL, rAtQ, rIntI, rLenQ, rLenS, rListQ, rTupL, rTupQ, rIsQ_c, kd_non, kd_bl, kd_int, kd_str, kd_ref, kdO_lst, kdO_tup, kit_NoneType_bool, kit_NoneType_int, kit_NoneType_str, kit_NoneType_list, kit_NoneType_tuple, kit_bool_bool, kit_bool_int, kit_bool_str, kit_bool_list, kit_bool_tuple, kit_int_bool, kit_int_int, kit_int_str, kit_int_list, kit_int_tuple, kit_str_bool, kit_str_int, kit_str_str, kit_str_list, kit_str_tuple, kit_list_bool, kit_list_int, kit_list_str, kit_list_list, kit_list_tuple, kit_tuple_bool, kit_tuple_int, kit_tuple_str, kit_tuple_list, kit_tuple_tuple, V.ty.injEq, rSortQ, rSlQ, rMulS, tJn, rAtX, rSlS, tSl, tPart, tNoPart, cut_lo2, cut_hi2, rInQ, gLq, gTq, gC_c, gNil, tChain, List.cons_append, List.nil_append, tBL, tBL0, tBad, tCr, tCe, tXF, cxH_K, HO.xd.injEq, rApp, rPopN, rRevL, seqAt_lst, seqAt_tup, at_0, at_1, at_2, at_3, at_4, ix_0, ix_1, ix_2, ix_3, ix_4, cx_K, upd_same, List.length_cons, List.length_nil, Nat.reduceAdd,  rEq, rNe, tRevL, V.int.injEq, V.bl.injEq, V.str.injEq, V.ref.injEq, List.cons.injEq, and_true, true_and, exists_and_left, exists_and_right, exists_eq_left, exists_eq_left', exists_eq_right, exists_eq_right', exists_const, Option.some.injEq, List.getElem?_cons_zero, List.getElem?_cons_succ, List.set_cons_zero, List.set_cons_succ, decide_eq_true_eq, decide_true, decide_false,  scal_ii, scal_bb, scal_ss, cmul_r, cdiv_l, cpow_12, cpow_18, cpow_40, HO.lst.injEq, HO.tup.injEq, upd_upd, Int.reduceToNat,  decide_not, Bool.not_eq_true', decide_eq_false_iff_not, if_true, if_false, Bool.false_eq_true, Bool.true_eq_false, reduceCtorEq, Int.reduceNeg, Nat.reduceLT, Int.reduceLT, Int.reducePow, gt_iff_lt]
      have S10 : Same H7 _ := fun b o e => t12 b o (S9 b o e)
      refine ⟨p, r, ns, ts, qs, rfl, S10 _ _ p7, nm.hi, fun z hz => tx_ok (nm.tx z hz), S10 _ _ r7, lts, paired_imp (fun _ _ h => S10 _ _ h) t7, fun q hq => ⟨tx_ok (nm.tx _ (tw q hq).1), tx_ok (nm.tx _ (tw q hq).2.1)⟩, fun t H8 s8' g8 => ?_⟩
      rw [kept_eq nm.nd tw] at g8
      obtain ⟨_, ts8, e8, pr8⟩ := g8
      have S11 : Same H7 H8 := fun b o e => s8' b o (S10 b o e)
      refine ⟨x, p, t, ns, _, ts8, rfl, pond7.same S11, S11 _ _ p7, nm.hi, ?_, e8, paired_imp (fun _ _ h => h.2) pr8, fun H9 _ => q H9⟩
      refine Nat.le_trans (List.length_filter_le _ _) ?_
      have z := ix2_len ns.length
      have z2 : ns.length * ns.length ≤ 10 * 10 := Nat.mul_le_mul nm.hi nm.hi
      rw [nmP, List.length_map]
      omega
end
end Z
set_option Elab.async false
set_option linter.all false
set_option maxRecDepth 100000
set_option maxHeartbeats 4000000
namespace Z
open PySem PySem.Spec PyProof.Rows L2 L2H
section
variable {P : Program} {w : World} {K : PySem.W.Frag} {mg : Str → Option Value} {base : Heap}
abbrev s_RepeatedName___init__ : Stmt := inClass (topS 4) 0
abbrev N_RepeatedName___init__ : List Str := ["self", "name"]
theorem sc_RepeatedName___init__ : FnScope N_RepeatedName___init__ ["self", "name"] (defScope s_RepeatedName___init__) := ⟨rfl, rfl, rfl, by decide +kernel, rfl, by decide +kernel, by decide +kernel⟩
theorem b_RepeatedName___init__ : BindO "__init__" s_RepeatedName___init__ ["self", "name"] := fun _ _ _ _ _ _ us hl => match us, hl with | [_, _], _ => rfl

theorem fn_RepeatedName (bs_HedgeError : BaseC K mg "HedgeError") {C f : Addr} {fd : FuncData} (F : Fun K "__init__" "RepeatedName.__init__" s_RepeatedName___init__ f fd) : FnOk P w K mg base CX0 1 f fd ["self", "name"] (sp_init1 K C "name") := by
  refine F.ok sc_RepeatedName___init__ (fun vs H Q E h => ?_) (fun cdv A outer s H vs Q E hr h => ?_)
  · obtain ⟨a, x, rfl, _⟩ := h
    rfl
  · obtain ⟨a, x, rfl, ox, no, hz, ha, q⟩ := h
    refine ⟨_, (pss_cons (ps_expr (pe_binit bs_HedgeError rfl (pa_cons (pv 0) (pa_cons (pe_joined (.cons (pe_fmtR (pv 1)) (.cons pe_str .nil))) pa_nil))))
      (pss_one (ps_ost (pv 0) (pv 1)))), ?_⟩
    rw [show L2.start N_RepeatedName___init__ [.ref a, .str x] = [some (.ref a), some (.str x)] from rfl]
    simp only [tSeq, tNext, tDrop, tRet, tRetN, tIfS, tAsg, gName, tAug, ipI, tVar, tC, tOp, tUn, rI, rI0, rU, tCons, tNil, tCB, tTup, tLst, tTest, tB, tAnd, tOr, tNot, tAndV, tOrV, tNotV, tIf, tCl, tCd, tCk, gSub, rPutL, rAtQ, rIntI, rLenQ, rLenS, rListQ, rTupL, rTupQ, rIsQ_c, kd_non, kd_bl, kd_int, kd_str, kd_ref, kdO_lst, kdO_tup, kit_NoneType_bool, kit_NoneType_int, kit_NoneType_str, kit_NoneType_list, kit_NoneType_tuple, kit_bool_bool, kit_bool_int, kit_bool_str, kit_bool_list, kit_bool_tuple, kit_int_bool, kit_int_int, kit_int_str, kit_int_list, kit_int_tuple, kit_str_bool, kit_str_int, kit_str_str, kit_str_list, kit_str_tuple, kit_list_bool, kit_list_int, kit_list_str, kit_list_list, kit_list_tuple, kit_tuple_bool, kit_tuple_int, kit_tuple_str, kit_tuple_list, kit_tuple_tuple, V.ty.injEq, rSortQ, rSlQ, rMulS, tJn, rAtX, rSlS, tSl, tPart, tNoPart, cut_lo2, cut_hi2, rInQ, gLq, gTq, gC_c, gNil, tChain, List.cons_append, List.nil_append, tBL, tBL0, tBad, tCr, tCe, tXF, cxH_K, HO.xd.injEq, rApp, rPopN, rRevL, seqAt_lst, seqAt_tup, at_0, at_1, at_2, at_3, at_4, ix_0, ix_1, ix_2, ix_3, ix_4, cx_K, upd_same, List.length_cons, List.length_nil, Nat.reduceAdd,  rEq, rNe, tRevL, V.int.injEq, V.bl.injEq, V.str.injEq, V.ref.injEq, List.cons.injEq, and_true, true_and, exists_and_left, exists_and_right, exists_eq_left, exists_eq_left', exists_eq_right, exists_eq_right', exists_const, Option.some.injEq, List.getElem?_cons_zero, List.getElem?_cons_succ, List.set_cons_zero, List.set_cons_succ, decide_eq_true_eq, decide_true, decide_false,  scal_ii, scal_bb, scal_ss, cmul_r, cdiv_l, cpow_12, cpow_18, cpow_40, HO.lst.injEq, HO.tup.injEq, upd_upd, Int.reduceToNat,  decide_not, Bool.not_eq_true', decide_eq_false_iff_not, if_true, if_false, Bool.false_eq_true, Bool.true_eq_false, reduceCtorEq, Int.reduceNeg, Nat.reduceLT, Int.reduceLT, Int.reducePow, gt_iff_lt]
    simp only [tVeI, tJs, tFmtR, tOst]
    simp only [tSeq, tNext, tDrop, tRet, tRetN, tIfS, tAsg, gName, tAug, ipI, tVar, tC, tOp, tUn, rI, rI0, rU, tCons, tNil, tCB, tTup, tLst, tTest, tB, tAnd, tOr, tNot, tAndV, tOrV, tNotV, tIf, tCl, tCd, tCk, gSub, rPutL, rAtQ, rIntI, rLenQ, rLenS, rListQ, rTupL, rTupQ, rIsQ_c, kd_non, kd_bl, kd_int, kd_str, kd_ref, kdO_lst, kdO_tup, kit_NoneType_bool, kit_NoneType_int, kit_NoneType_str, kit_NoneType_list, kit_NoneType_tuple, kit_bool_bool, kit_bool_int, kit_bool_str, kit_bool_list, kit_bool_tuple, kit_int_bool, kit_int_int, kit_int_str, kit_int_list, kit_int_tuple, kit_str_bool, kit_str_int, kit_str_str, kit_str_list, kit_str_tuple, kit_list_bool, kit_list_int, kit_list_str, kit_list_list, kit_list_tuple, kit_tuple_bool, kit_tuple_int, kit_tuple_str, kit_tuple_list, kit_tuple_tuple, V.ty.injEq, rSortQ, rSlQ, rMulS, tJn, rAtX, rSlS, tSl, tPart, tNoPart, cut_lo2, cut_hi2, rInQ, gLq, gTq, gC_c, gNil, tChain, List.cons_append, List.nil_append, tBL, tBL0, tBad, tCr, tCe, tXF, cxH_K, HO.xd.injEq, rApp, rPopN, rRevL, seqAt_lst, seqAt_tup, at_0, at_1, at_2, at_3, at_4, ix_0, ix_1, ix_2, ix_3, ix_4, cx_K, upd_same, List.length_cons, List.length_nil, Nat.reduceAdd,  rEq, rNe, tRevL, V.int.injEq, V.bl.injEq, V.str.injEq, V.ref.injEq, List.cons.injEq, and_true, true_and, exists_and_left, exists_and_right, exists_eq_left, exists_eq_left', exists_eq_right, exists_eq_right', exists_const, Option.some.injEq, List.getElem?_cons_zero, List.getElem?_cons_succ, List.set_cons_zero, List.set_cons_succ, decide_eq_true_eq, decide_true, decide_false,  scal_ii, scal_bb, scal_ss, cmul_r, cdiv_l, cpow_12, cpow_18, cpow_40, HO.lst.injEq, HO.tup.injEq, upd_upd, Int.reduceToNat,  decide_not, Bool.not_eq_true', decide_eq_false_iff_not, if_true, if_false, Bool.false_eq_true, Bool.true_eq_false, reduceCtorEq, Int.reduceNeg, Nat.reduceLT, Int.reduceLT, Int.reducePow, gt_iff_lt]
    have e0 : (Str.empty : Str).length = 0 := rfl
    have e1 : (Str.ofString " is repeated").length = 12 := by decide +kernel
    refine .inl ⟨sz_of (by omega), sz_of (by rw [str_cat_len]; omega), sz_of (by rw [str_cat_len, str_cat_len]; omega), a, C, _, ⟨rfl, rfl⟩, show 1 ≤ 1000 by decide, ox, ha, C, ox, no, .inl ⟨ha, q⟩⟩
abbrev s_UnknownLot___init__ : Stmt := inClass (topS 5) 0
abbrev N_UnknownLot___init__ : List Str := ["self", "name"]
theorem sc_UnknownLot___init__ : FnScope N_UnknownLot___init__ ["self", "name"] (defScope s_UnknownLot___init__) := ⟨rfl, rfl, rfl, by decide +kernel, rfl, by decide +kernel, by decide +kernel⟩
theorem b_UnknownLot___init__ : BindO "__init__" s_UnknownLot___init__ ["self", "name"] := fun _ _ _ _ _ _ us hl => match us, hl with | [_, _], _ => rfl

theorem fn_UnknownLot (bs_HedgeError : BaseC K mg "HedgeError") {C f : Addr} {fd : FuncData} (F : Fun K "__init__" "UnknownLot.__init__" s_UnknownLot___init__ f fd) : FnOk P w K mg base CX0 1 f fd ["self", "name"] (sp_init1 K C "name") := by
  refine F.ok sc_UnknownLot___init__ (fun vs H Q E h => ?_) (fun cdv A outer s H vs Q E hr h => ?_)
  · obtain ⟨a, x, rfl, _⟩ := h
    rfl
  · obtain ⟨a, x, rfl, ox, no, hz, ha, q⟩ := h
    refine ⟨_, (pss_cons (ps_expr (pe_binit bs_HedgeError rfl (pa_cons (pv 0) (pa_cons (pe_joined (.cons (pe_fmtR (pv 1)) (.cons pe_str .nil))) pa_nil))))
      (pss_one (ps_ost (pv 0) (pv 1)))), ?_⟩
    rw [show L2.start N_UnknownLot___init__ [.ref a, .str x] = [some (.ref a), some (.str x)] from rfl]
    simp only [tSeq, tNext, tDrop, tRet, tRetN, tIfS, tAsg, gName, tAug, ipI, tVar, tC, tOp, tUn, rI, rI0, rU, tCons, tNil, tCB, tTup, tLst, tTest, tB, tAnd, tOr, tNot, tAndV, tOrV, tNotV, tIf, tCl, tCd, tCk, gSub, rPutL, rAtQ, rIntI, rLenQ, rLenS, rListQ, rTupL, rTupQ, rIsQ_c, kd_non, kd_bl, kd_int, kd_str, kd_ref, kdO_lst, kdO_tup, kit_NoneType_bool, kit_NoneType_int, kit_NoneType_str, kit_NoneType_list, kit_NoneType_tuple, kit_bool_bool, kit_bool_int, kit_bool_str, kit_bool_list, kit_bool_tuple, kit_int_bool, kit_int_int, kit_int_str, kit_int_list, kit_int_tuple, kit_str_bool, kit_str_int, kit_str_str, kit_str_list, kit_str_tuple, kit_list_bool, kit_list_int, kit_list_str, kit_list_list, kit_list_tuple, kit_tuple_bool, kit_tuple_int, kit_tuple_str, kit_tuple_list, kit_tuple_tuple, V.ty.injEq, rSortQ, rSlQ, rMulS, tJn, rAtX, rSlS, tSl, tPart, tNoPart, cut_lo2, cut_hi2, rInQ, gLq, gTq, gC_c, gNil, tChain, List.cons_append, List.nil_append, tBL, tBL0, tBad, tCr, tCe, tXF, cxH_K, HO.xd.injEq, rApp, rPopN, rRevL, seqAt_lst, seqAt_tup, at_0, at_1, at_2, at_3, at_4, ix_0, ix_1, ix_2, ix_3, ix_4, cx_K, upd_same, List.length_cons, List.length_nil, Nat.reduceAdd,  rEq, rNe, tRevL, V.int.injEq, V.bl.injEq, V.str.injEq, V.ref.injEq, List.cons.injEq, and_true, true_and, exists_and_left, exists_and_right, exists_eq_left, exists_eq_left', exists_eq_right, exists_eq_right', exists_const, Option.some.injEq, List.getElem?_cons_zero, List.getElem?_cons_succ, List.set_cons_zero, List.set_cons_succ, decide_eq_true_eq, decide_true, decide_false,  scal_ii, scal_bb, scal_ss, cmul_r, cdiv_l, cpow_12, cpow_18, cpow_40, HO.lst.injEq, HO.tup.injEq, upd_upd, Int.reduceToNat,  decide_not, Bool.not_eq_true', decide_eq_false_iff_not, if_true, if_false, Bool.false_eq_true, Bool.true_eq_false, reduceCtorEq, Int.reduceNeg, Nat.reduceLT, Int.reduceLT, Int.reducePow, gt_iff_lt]
    simp only [tVeI, tJs, tFmtR, tOst]
    simp only [tSeq, tNext, tDrop, tRet, tRetN, tIfS, tAsg, gName, tAug, ipI, tVar, tC, tOp, tUn, rI, rI0, rU, tCons, tNil, tCB, tTup, tLst, tTest, tB, tAnd, tOr, tNot, tAndV, tOrV, tNotV, tIf, tCl, tCd, tCk, gSub, rPutL, rAtQ, rIntI, rLenQ, rLenS, rListQ, rTupL, rTupQ, rIsQ_c, kd_non, kd_bl, kd_int, kd_str, kd_ref, kdO_lst, kdO_tup, kit_NoneType_bool, kit_NoneType_int, kit_NoneType_str, kit_NoneType_list, kit_NoneType_tuple, kit_bool_bool, kit_bool_int, kit_bool_str, kit_bool_list, kit_bool_tuple, kit_int_bool, kit_int_int, kit_int_str, kit_int_list, kit_int_tuple, kit_str_bool, kit_str_int, kit_str_str, kit_str_list, kit_str_tuple, kit_list_bool, kit_list_int, kit_list_str, kit_list_list, kit_list_tuple, kit_tuple_bool, kit_tuple_int, kit_tuple_str, kit_tuple_list, kit_tuple_tuple, V.ty.injEq, rSortQ, rSlQ, rMulS, tJn, rAtX, rSlS, tSl, tPart, tNoPart, cut_lo2, cut_hi2, rInQ, gLq, gTq, gC_c, gNil, tChain, List.cons_append, List.nil_append, tBL, tBL0, tBad, tCr, tCe, tXF, cxH_K, HO.xd.injEq, rApp, rPopN, rRevL, seqAt_lst, seqAt_tup, at_0, at_1, at_2, at_3, at_4, ix_0, ix_1, ix_2, ix_3, ix_4, cx_K, upd_same, List.length_cons, List.length_nil, Nat.reduceAdd,  rEq, rNe, tRevL, V.int.injEq, V.bl.injEq, V.str.injEq, V.ref.injEq, List.cons.injEq, and_true, true_and, exists_and_left, exists_and_right, exists_eq_left, exists_eq_left', exists_eq_right, exists_eq_right', exists_const, Option.some.injEq, List.getElem?_cons_zero, List.getElem?_cons_succ, List.set_cons_zero, List.set_cons_succ, decide_eq_true_eq, decide_true, decide_false,  scal_ii, scal_bb, scal_ss, cmul_r, cdiv_l, cpow_12, cpow_18, cpow_40, HO.lst.injEq, HO.tup.injEq, upd_upd, Int.reduceToNat,  decide_not, Bool.not_eq_true', decide_eq_false_iff_not, if_true, if_false, Bool.false_eq_true, Bool.true_eq_false, reduceCtorEq, Int.reduceNeg, Nat.reduceLT, Int.reduceLT, Int.reducePow, gt_iff_lt]
    have e0 : (Str.empty : Str).length = 0 := rfl
    have e1 : (Str.ofString " is no lot of the pond").length = 22 := by decide +kernel
    refine .inl ⟨sz_of (by omega), sz_of (by rw [str_cat_len]; omega), sz_of (by rw [str_cat_len, str_cat_len]; omega), a, C, _, ⟨rfl, rfl⟩, show 1 ≤ 1000 by decide, ox, ha, C, ox, no, .inl ⟨ha, q⟩⟩
abbrev s_SameLot___init__ : Stmt := inClass (topS 6) 0
abbrev N_SameLot___init__ : List Str := ["self", "name"]
theorem sc_SameLot___init__ : FnScope N_SameLot___init__ ["self", "name"] (defScope s_SameLot___init__) := ⟨rfl, rfl, rfl, by decide +kernel, rfl, by decide +kernel, by decide +kernel⟩
theorem b_SameLot___init__ : BindO "__init__" s_SameLot___init__ ["self", "name"] := fun _ _ _ _ _ _ us hl => match us, hl with | [_, _], _ => rfl

theorem fn_SameLot (bs_HedgeError : BaseC K mg "HedgeError") {C f : Addr} {fd : FuncData} (F : Fun K "__init__" "SameLot.__init__" s_SameLot___init__ f fd) : FnOk P w K mg base CX0 1 f fd ["self", "name"] (sp_init1 K C "name") := by
  refine F.ok sc_SameLot___init__ (fun vs H Q E h => ?_) (fun cdv A outer s H vs Q E hr h => ?_)
  · obtain ⟨a, x, rfl, _⟩ := h
    rfl
  · obtain ⟨a, x, rfl, ox, no, hz, ha, q⟩ := h
    refine ⟨_, (pss_cons (ps_expr (pe_binit bs_HedgeError rfl (pa_cons (pv 0) (pa_cons (pe_joined (.cons (pe_fmtR (pv 1)) (.cons pe_str .nil))) pa_nil))))
      (pss_one (ps_ost (pv 0) (pv 1)))), ?_⟩
    rw [show L2.start N_SameLot___init__ [.ref a, .str x] = [some (.ref a), some (.str x)] from rfl]
    simp only [tSeq, tNext, tDrop, tRet, tRetN, tIfS, tAsg, gName, tAug, ipI, tVar, tC, tOp, tUn, rI, rI0, rU, tCons, tNil, tCB, tTup, tLst, tTest, tB, tAnd, tOr, tNot, tAndV, tOrV, tNotV, tIf, tCl, tCd, tCk, gSub, rPutL, rAtQ, rIntI, rLenQ, rLenS, rListQ, rTupL, rTupQ, rIsQ_c, kd_non, kd_bl, kd_int, kd_str, kd_ref, kdO_lst, kdO_tup, kit_NoneType_bool, kit_NoneType_int, kit_NoneType_str, kit_NoneType_list, kit_NoneType_tuple, kit_bool_bool, kit_bool_int, kit_bool_str, kit_bool_list, kit_bool_tuple, kit_int_bool, kit_int_int, kit_int_str, kit_int_list, kit_int_tuple, kit_str_bool, kit_str_int, kit_str_str, kit_str_list, kit_str_tuple, kit_list_bool, kit_list_int, kit_list_str, kit_list_list, kit_list_tuple, kit_tuple_bool, kit_tuple_int, kit_tuple_str, kit_tuple_list, kit_tuple_tuple, V.ty.injEq, rSortQ, rSlQ, rMulS, tJn, rAtX, rSlS, tSl, tPart, tNoPart, cut_lo2, cut_hi2, rInQ, gLq, gTq, gC_c, gNil, tChain, List.cons_append, List.nil_append, tBL, tBL0, tBad, tCr, tCe, tXF, cxH_K, HO.xd.injEq, rApp, rPopN, rRevL, seqAt_lst, seqAt_tup, at_0, at_1, at_2, at_3, at_4, ix_0, ix_1, ix_2, ix_3, ix_4, cx_K, upd_same, List.length_cons, List.length_nil, Nat.reduceAdd,  rEq, rNe, tRevL, V.int.injEq, V.bl.injEq, V.str.injEq, V.ref.injEq, List.cons.injEq, and_true, true_and, exists_and_left, exists_and_right, exists_eq_left, exists_eq_left', exists_eq_right, exists_eq_right', exists_const, Option.some.injEq, List.getElem?_cons_zero, List.getElem?_cons_succ, List.set_cons_zero, List.set_cons_succ, decide_eq_true_eq, decide_true, decide_false,  scal_ii, scal_bb, scal_ss, cmul_r, cdiv_l, cpow_12, cpow_18, cpow_40, HO.lst.injEq, HO.tup.injEq, upd_upd, Int.reduceToNat,  decide_not, Bool.not_eq_true', decide_eq_false_iff_not, if_true, if_false, Bool.false_eq_true, Bool.true_eq_false, reduceCtorEq, Int.reduceNeg, Nat.reduceLT, Int.reduceLT, Int.reducePow, gt_iff_lt]
    simp only [tVeI, tJs, tFmtR, tOst]
    simp only [tSeq, tNext, tDrop, tRet, tRetN, tIfS, tAsg, gName, tAug, ipI, tVar, tC, tOp, tUn, rI, rI0, rU, tCons, tNil, tCB, tTup, tLst, tTest, tB, tAnd, tOr, tNot, tAndV, tOrV, tNotV, tIf, tCl, tCd, tCk, gSub, rPutL, rAtQ, rIntI, rLenQ, rLenS, rListQ, rTupL, rTupQ, rIsQ_c, kd_non, kd_bl, kd_int, kd_str, kd_ref, kdO_lst, kdO_tup, kit_NoneType_bool, kit_NoneType_int, kit_NoneType_str, kit_NoneType_list, kit_NoneType_tuple, kit_bool_bool, kit_bool_int, kit_bool_str, kit_bool_list, kit_bool_tuple, kit_int_bool, kit_int_int, kit_int_str, kit_int_list, kit_int_tuple, kit_str_bool, kit_str_int, kit_str_str, kit_str_list, kit_str_tuple, kit_list_bool, kit_list_int, kit_list_str, kit_list_list, kit_list_tuple, kit_tuple_bool, kit_tuple_int, kit_tuple_str, kit_tuple_list, kit_tuple_tuple, V.ty.injEq, rSortQ, rSlQ, rMulS, tJn, rAtX, rSlS, tSl, tPart, tNoPart, cut_lo2, cut_hi2, rInQ, gLq, gTq, gC_c, gNil, tChain, List.cons_append, List.nil_append, tBL, tBL0, tBad, tCr, tCe, tXF, cxH_K, HO.xd.injEq, rApp, rPopN, rRevL, seqAt_lst, seqAt_tup, at_0, at_1, at_2, at_3, at_4, ix_0, ix_1, ix_2, ix_3, ix_4, cx_K, upd_same, List.length_cons, List.length_nil, Nat.reduceAdd,  rEq, rNe, tRevL, V.int.injEq, V.bl.injEq, V.str.injEq, V.ref.injEq, List.cons.injEq, and_true, true_and, exists_and_left, exists_and_right, exists_eq_left, exists_eq_left', exists_eq_right, exists_eq_right', exists_const, Option.some.injEq, List.getElem?_cons_zero, List.getElem?_cons_succ, List.set_cons_zero, List.set_cons_succ, decide_eq_true_eq, decide_true, decide_false,  scal_ii, scal_bb, scal_ss, cmul_r, cdiv_l, cpow_12, cpow_18, cpow_40, HO.lst.injEq, HO.tup.injEq, upd_upd, Int.reduceToNat,  decide_not, Bool.not_eq_true', decide_eq_false_iff_not, if_true, if_false, Bool.false_eq_true, Bool.true_eq_false, reduceCtorEq, Int.reduceNeg, Nat.reduceLT, Int.reduceLT, Int.reducePow, gt_iff_lt]
    have e0 : (Str.empty : Str).length = 0 := rfl
    have e1 : (Str.ofString " is named where two different lots are due").length = 42 := by decide +kernel
    refine .inl ⟨sz_of (by omega), sz_of (by rw [str_cat_len]; omega), sz_of (by rw [str_cat_len, str_cat_len]; omega), a, C, _, ⟨rfl, rfl⟩, show 1 ≤ 1000 by decide, ox, ha, C, ox, no, .inl ⟨ha, q⟩⟩
abbrev s_BadSize___init__ : Stmt := inClass (topS 7) 0
abbrev N_BadSize___init__ : List Str := ["self", "size"]
theorem sc_BadSize___init__ : FnScope N_BadSize___init__ ["self", "size"] (defScope s_BadSize___init__) := ⟨rfl, rfl, rfl, by decide +kernel, rfl, by decide +kernel, by decide +kernel⟩
theorem b_BadSize___init__ : BindO "__init__" s_BadSize___init__ ["self", "size"] := fun _ _ _ _ _ _ us hl => match us, hl with | [_, _], _ => rfl

theorem fn_BadSize (bs_HedgeError : BaseC K mg "HedgeError") {C f : Addr} {fd : FuncData} (F : Fun K "__init__" "BadSize.__init__" s_BadSize___init__ f fd) : FnOk P w K mg base CX0 1 f fd ["self", "size"] (sp_initN K C 1 nSize fSize) := by
  refine F.ok sc_BadSize___init__ (fun vs H Q E h => ?_) (fun cdv A outer s H vs Q E hr h => ?_)
  · obtain ⟨a, ys, rfl, hl, _⟩ := h
    rw [List.length_cons, hl] <;> rfl
  · obtain ⟨a, ys, rfl, hl, ox, no, ha, q⟩ := h
    obtain ⟨y, rfl⟩ : ∃ y, ys = [y] := match ys, hl with | [y], _ => ⟨y, rfl⟩
    refine ⟨_, (pss_cons (ps_expr (pe_binit bs_HedgeError rfl (pa_cons (pv 0) (pa_cons pe_str pa_nil))))
      (pss_one (ps_ost (pv 0) (pv 1)))), ?_⟩
    rw [show L2.start N_BadSize___init__ [.ref a, y] = [some (.ref a), some y] from rfl]
    simp only [tSeq, tNext, tDrop, tRet, tRetN, tIfS, tAsg, gName, tAug, ipI, tVar, tC, tOp, tUn, rI, rI0, rU, tCons, tNil, tCB, tTup, tLst, tTest, tB, tAnd, tOr, tNot, tAndV, tOrV, tNotV, tIf, tCl, tCd, tCk, gSub, rPutL, rAtQ, rIntI, rLenQ, rLenS, rListQ, rTupL, rTupQ, rIsQ_c, kd_non, kd_bl, kd_int, kd_str, kd_ref, kdO_lst, kdO_tup, kit_NoneType_bool, kit_NoneType_int, kit_NoneType_str, kit_NoneType_list, kit_NoneType_tuple, kit_bool_bool, kit_bool_int, kit_bool_str, kit_bool_list, kit_bool_tuple, kit_int_bool, kit_int_int, kit_int_str, kit_int_list, kit_int_tuple, kit_str_bool, kit_str_int, kit_str_str, kit_str_list, kit_str_tuple, kit_list_bool, kit_list_int, kit_list_str, kit_list_list, kit_list_tuple, kit_tuple_bool, kit_tuple_int, kit_tuple_str, kit_tuple_list, kit_tuple_tuple, V.ty.injEq, rSortQ, rSlQ, rMulS, tJn, rAtX, rSlS, tSl, tPart, tNoPart, cut_lo2, cut_hi2, rInQ, gLq, gTq, gC_c, gNil, tChain, List.cons_append, List.nil_append, tBL, tBL0, tBad, tCr, tCe, tXF, cxH_K, HO.xd.injEq, rApp, rPopN, rRevL, seqAt_lst, seqAt_tup, at_0, at_1, at_2, at_3, at_4, ix_0, ix_1, ix_2, ix_3, ix_4, cx_K, upd_same, List.length_cons, List.length_nil, Nat.reduceAdd,  rEq, rNe, tRevL, V.int.injEq, V.bl.injEq, V.str.injEq, V.ref.injEq, List.cons.injEq, and_true, true_and, exists_and_left, exists_and_right, exists_eq_left, exists_eq_left', exists_eq_right, exists_eq_right', exists_const, Option.some.injEq, List.getElem?_cons_zero, List.getElem?_cons_succ, List.set_cons_zero, List.set_cons_succ, decide_eq_true_eq, decide_true, decide_false,  scal_ii, scal_bb, scal_ss, cmul_r, cdiv_l, cpow_12, cpow_18, cpow_40, HO.lst.injEq, HO.tup.injEq, upd_upd, Int.reduceToNat,  decide_not, Bool.not_eq_true', decide_eq_false_iff_not, if_true, if_false, Bool.false_eq_true, Bool.true_eq_false, reduceCtorEq, Int.reduceNeg, Nat.reduceLT, Int.reduceLT, Int.reducePow, gt_iff_lt]
    simp only [tVeI, tOst]
    simp only [tSeq, tNext, tDrop, tRet, tRetN, tIfS, tAsg, gName, tAug, ipI, tVar, tC, tOp, tUn, rI, rI0, rU, tCons, tNil, tCB, tTup, tLst, tTest, tB, tAnd, tOr, tNot, tAndV, tOrV, tNotV, tIf, tCl, tCd, tCk, gSub, rPutL, rAtQ, rIntI, rLenQ, rLenS, rListQ, rTupL, rTupQ, rIsQ_c, kd_non, kd_bl, kd_int, kd_str, kd_ref, kdO_lst, kdO_tup, kit_NoneType_bool, kit_NoneType_int, kit_NoneType_str, kit_NoneType_list, kit_NoneType_tuple, kit_bool_bool, kit_bool_int, kit_bool_str, kit_bool_list, kit_bool_tuple, kit_int_bool, kit_int_int, kit_int_str, kit_int_list, kit_int_tuple, kit_str_bool, kit_str_int, kit_str_str, kit_str_list, kit_str_tuple, kit_list_bool, kit_list_int, kit_list_str, kit_list_list, kit_list_tuple, kit_tuple_bool, kit_tuple_int, kit_tuple_str, kit_tuple_list, kit_tuple_tuple, V.ty.injEq, rSortQ, rSlQ, rMulS, tJn, rAtX, rSlS, tSl, tPart, tNoPart, cut_lo2, cut_hi2, rInQ, gLq, gTq, gC_c, gNil, tChain, List.cons_append, List.nil_append, tBL, tBL0, tBad, tCr, tCe, tXF, cxH_K, HO.xd.injEq, rApp, rPopN, rRevL, seqAt_lst, seqAt_tup, at_0, at_1, at_2, at_3, at_4, ix_0, ix_1, ix_2, ix_3, ix_4, cx_K, upd_same, List.length_cons, List.length_nil, Nat.reduceAdd,  rEq, rNe, tRevL, V.int.injEq, V.bl.injEq, V.str.injEq, V.ref.injEq, List.cons.injEq, and_true, true_and, exists_and_left, exists_and_right, exists_eq_left, exists_eq_left', exists_eq_right, exists_eq_right', exists_const, Option.some.injEq, List.getElem?_cons_zero, List.getElem?_cons_succ, List.set_cons_zero, List.set_cons_succ, decide_eq_true_eq, decide_true, decide_false,  scal_ii, scal_bb, scal_ss, cmul_r, cdiv_l, cpow_12, cpow_18, cpow_40, HO.lst.injEq, HO.tup.injEq, upd_upd, Int.reduceToNat,  decide_not, Bool.not_eq_true', decide_eq_false_iff_not, if_true, if_false, Bool.false_eq_true, Bool.true_eq_false, reduceCtorEq, Int.reduceNeg, Nat.reduceLT, Int.reduceLT, Int.reducePow, gt_iff_lt]
    exact ⟨a, C, _, ⟨rfl, rfl⟩, show 1 ≤ 1000 by decide, ox, ha, C, ox, no "size" (by decide +kernel), .inl ⟨ha, q⟩⟩
end
end Z
set_option Elab.async false
set_option linter.all false
set_option maxRecDepth 100000
set_option maxHeartbeats 4000000
namespace Z
open PySem PySem.Spec PyProof.Rows L2 L2H
theorem all_cons {α : Type} {F : α → Prop} {a : α} {l : List α} (h : F a) (t : ∀ b ∈ l, F b) : ∀ b ∈ a :: l, F b := fun b hb => (List.mem_cons.mp hb).elim (fun e => e ▸ h) (t b)
theorem all_none {α : Type} {F : α → Prop} : ∀ b ∈ ([] : List α), F b := fun b hb => by cases hb
abbrev s_Pond_names : Stmt := inClass (topS 39) 1
abbrev N_Pond_names : List Str := ["self"]
theorem sc_Pond_names : FnScope N_Pond_names ["self"] (defScope s_Pond_names) := ⟨rfl, rfl, rfl, by decide +kernel, rfl, by decide +kernel, by decide +kernel⟩
abbrev s_Pond_strifes : Stmt := inClass (topS 39) 2
abbrev N_Pond_strifes : List Str := ["self"]
theorem sc_Pond_strifes : FnScope N_Pond_strifes ["self"] (defScope s_Pond_strifes) := ⟨rfl, rfl, rfl, by decide +kernel, rfl, by decide +kernel, by decide +kernel⟩
def oth_UnknownLot : List PySem.Str := ["AtStrife", "BadName", "BadParting", "BadRow", "BadSize", "BadSplit", "BadText", "CrossedField", "Crossing", "EmptyBook", "EndsDiffer", "NoRun", "NoStrife", "NotWithin", "OrderRefused", "OtherPond", "OutOfRange", "RepeatedName", "SameField", "SameLot", "StepRefused", "Stuck", "TooMany", "Ungranted"]
def gd_Pond_names : GetD := ⟨"Pond", "names", "Pond.names", defArgs s_Pond_names, defBody s_Pond_names, defScope s_Pond_names⟩
def gd_Pond_strifes : GetD := ⟨"Pond", "strifes", "Pond.strifes", defArgs s_Pond_strifes, defBody s_Pond_strifes, defScope s_Pond_strifes⟩
def fnH : List He.DefD := [dPl "is_name" s_is_name, dPl "check_name" s_check_name, dPl "place_pairs" s_place_pairs, dPl "crossing_places" s_crossing_places, dPl "crossings_from" s_crossings_from, dPl "check_names" s_check_names, dPl "lot_pairs" s_lot_pairs, dPl "in_pair_order" s_in_pair_order, dPl "groups_cross" s_groups_cross, dPl "_law_store" s_law_store, dPl "_law_mixed" s_law_mixed, dPl "_law_take" s_law_take, dPl "_law_number" s_law_number, dPl "_law_pick" s_law_pick, dPl "_law_some" s_law_some, dPl "_law_shuffled" s_law_shuffled, dPl "_law_put" s_law_put, dPl "_law_row" s_law_row, dPl "_law_same" s_law_same, dPl "_law_copy" s_law_copy, dPl "_law_name" s_law_name, dPl "_law_unlike" s_law_unlike, dPl "_law_all_pairs" s_law_all_pairs, dPl "_law_kept" s_law_kept, dPl "_law_pond_is" s_law_pond_is, dPl "_law_loose_row" s_law_loose_row, dPl "_law_group_quad" s_law_group_quad, dPl "_law_many" s_law_many, dPl "_law_lots" s_law_lots, dPl "_law_few_pairs" s_law_few_pairs, dPl "_law_foreign" s_law_foreign, dPl "_law_error" s_law_error, dPl "_law_told" s_law_told, dPl "_law_due" s_law_due, dPl "_law_group_pairs" s_law_group_pairs, dPl "law" s_law, dIn "BadName" s_BadName___init__, dIn "RepeatedName" s_RepeatedName___init__, dIn "UnknownLot" s_UnknownLot___init__, dIn "SameLot" s_SameLot___init__, dIn "BadSize" s_BadSize___init__, dMt "Pond" "position" s_Pond_position [], dMt "Pond" "pair_of" s_Pond_pair_of [], dMt "Pond" "__init__" s_Pond___init__ [("strifes", .adr (kwAt "Pond" "__init__" "strifes"))]]
def faH : List He.Fa := [.glo "is_name", .glo "check_name", .glo "place_pairs", .glo "crossing_places", .glo "crossings_from", .glo "check_names", .glo "lot_pairs", .glo "in_pair_order", .glo "groups_cross", .glo "_law_store", .glo "_law_mixed", .glo "_law_take", .glo "_law_number", .glo "_law_pick", .glo "_law_some", .glo "_law_shuffled", .glo "_law_put", .glo "_law_row", .glo "_law_same", .glo "_law_copy", .glo "_law_name", .glo "_law_unlike", .glo "_law_all_pairs", .glo "_law_kept", .glo "_law_pond_is", .glo "_law_loose_row", .glo "_law_group_quad", .glo "_law_many", .glo "_law_lots", .glo "_law_few_pairs", .glo "_law_foreign", .glo "_law_error", .glo "_law_told", .glo "_law_due", .glo "_law_group_pairs", .glo "law", .glo "AtStrife", .glo "BadName", .glo "BadParting", .glo "BadRow", .glo "BadSize", .glo "BadSplit", .glo "BadText", .glo "CrossedField", .glo "Crossing", .glo "EmptyBook", .glo "EndsDiffer", .glo "HedgeError", .glo "NoRun", .glo "NoStrife", .glo "NotWithin", .glo "OrderRefused", .glo "OtherPond", .glo "OutOfRange", .glo "Pond", .glo "RepeatedName", .glo "SameField", .glo "SameLot", .glo "StepRefused", .glo "Stuck", .glo "TooMany", .glo "Ungranted", .glo "UnknownLot", .free "len", .free "list", .free "tuple", .free "int", .free "range", .free "isinstance", .free "sorted", .free "all", .free "any", .free "str", .free "bool", .free "enumerate", .free "zip", .free "max", .free "min", .free "set", .free "ValueError", .free "sum", .int "MOST_LOTS" 10, .int "LONGEST_NAME" 8, .str "LETTERS" "abcdefghijklmnopqrstuvwxyz", .str "DIGITS" "0123456789", .cls "Pond", .mkr "Pond", .noat "Pond" "_names", .noat "Pond" "_places", .noat "Pond" "_strifes", .meth "Pond" "position", .meth "Pond" "pair_of"]
def gdH : List GetD := [gd_Pond_names, gd_Pond_strifes]
def exL : List (Frg → Bool) := [fun K => excB K "BadName" ["name"], fun K => excB K "RepeatedName" ["name"], fun K => excB K "UnknownLot" ["name"], fun K => excB K "SameLot" ["name"], fun K => excB K "BadSize" ["size"], fun K => baseB K "HedgeError", fun K => exmB K "UnknownLot" "HedgeError", fun K => notB K "UnknownLot" oth_UnknownLot, fun K => propB K gd_Pond_names, fun K => propB K gd_Pond_strifes]
def exH (K : Frg) : Bool := exL.all fun f => f K
abbrev RH : PySem.W.OpenRow := PySem.W.OpenLaw.row PySem.Challenge.rw_hedgejoin_k10_groups_that_cross
abbrev hkH : PySem.W.Hook := hookY 5 faH fnH gdH exH
def obH (s : PySem.W.SharedT) : AlY := obsY 5 faH fnH gdH exH (HandSHeadRun.getT s)
theorem obH_eq (s : PySem.W.SharedT) : obH s = hkH.obs s.abs := obsY_eq (HandSHeadRun.getT_eq s)
def loose0 : List PySem.Str := ["_wall", "HedgeError", "BadName", "RepeatedName", "UnknownLot", "SameLot", "BadSize", "BadParting", "EndsDiffer", "OtherPond", "NoRun", "EmptyBook", "Crossing", "AtStrife", "NoStrife", "SameField", "NotWithin", "CrossedField", "StepRefused", "OrderRefused", "Stuck", "OutOfRange", "TooMany", "BadText", "BadSplit", "BadRow", "Ungranted", "MOST_LOTS", "LONGEST_NAME", "LETTERS"]
def loose1 : List PySem.Str := ["DIGITS", "is_name", "check_name", "place_pairs", "crossing_places", "crossings_from", "Pond", "check_names", "lot_pairs", "in_pair_order", "groups_cross", "_law_store", "_law_mixed", "_law_take", "_law_number", "_law_pick", "_law_some", "_law_shuffled", "_law_put", "_law_row", "_law_same", "_law_copy", "_law_name", "_law_unlike", "_law_all_pairs", "_law_kept", "_law_pond_is", "_law_loose_row", "_law_group_quad", "_law_many"]
def loose2 : List PySem.Str := ["_law_lots", "_law_few_pairs", "_law_foreign", "_law_error", "_law_told", "_law_due", "_law_group_pairs"]
def looseH : List PySem.Str := loose0 ++ loose1 ++ loose2
--%RUN
set_option maxHeartbeats 0 in
theorem runH (w : World) : HandSHeadRun.RunEq RH (PySem.W.view RH.prog [72]) hkH obH 30000 looseH w := by
  intro os
  kernel_rfl
--%END
theorem ex_at {K : Frg} (h : exH K = true) (i : Nat) {f : Frg → Bool} (e : exL[i]? = some f := by rfl) : f K = true := List.all_eq_true.mp h f (List.mem_of_getElem? e)
theorem factsH {P : Program} {w : World} {K : PySem.W.Frag} {h : Heap} {mg : Str → Option Value} {f : Addr} (X : K.In h) (G : h.Ns mainGlobals mg) (hfa : mg ("law" : Str) = some (.ref f)) (c : SaysY faH fnH gdH exH w K) :
    ∃ fd : FuncData, (∀ (s : Shared) (v : Value), BindsTo s fd ⟨[v], []⟩ [("script", v)]) ∧ ∀ base : Heap, K.In base → base.Ns mainGlobals mg → FnOk P w K mg base CX0 7 f fd ["script"] (sp_top K) := by
  have cd := c.t.d
  have n_is_name := He.glo_ok X G (cd.fact 0 (f := .glo "is_name") rfl)
  have n_check_name := He.glo_ok X G (cd.fact 1 (f := .glo "check_name") rfl)
  have n_place_pairs := He.glo_ok X G (cd.fact 2 (f := .glo "place_pairs") rfl)
  have n_crossing_places := He.glo_ok X G (cd.fact 3 (f := .glo "crossing_places") rfl)
  have n_crossings_from := He.glo_ok X G (cd.fact 4 (f := .glo "crossings_from") rfl)
  have n_check_names := He.glo_ok X G (cd.fact 5 (f := .glo "check_names") rfl)
  have n_lot_pairs := He.glo_ok X G (cd.fact 6 (f := .glo "lot_pairs") rfl)
  have n_in_pair_order := He.glo_ok X G (cd.fact 7 (f := .glo "in_pair_order") rfl)
  have n_groups_cross := He.glo_ok X G (cd.fact 8 (f := .glo "groups_cross") rfl)
  have n_law_store := He.glo_ok X G (cd.fact 9 (f := .glo "_law_store") rfl)
  have n_law_mixed := He.glo_ok X G (cd.fact 10 (f := .glo "_law_mixed") rfl)
  have n_law_take := He.glo_ok X G (cd.fact 11 (f := .glo "_law_take") rfl)
  have n_law_number := He.glo_ok X G (cd.fact 12 (f := .glo "_law_number") rfl)
  have n_law_pick := He.glo_ok X G (cd.fact 13 (f := .glo "_law_pick") rfl)
  have n_law_some := He.glo_ok X G (cd.fact 14 (f := .glo "_law_some") rfl)
  have n_law_shuffled := He.glo_ok X G (cd.fact 15 (f := .glo "_law_shuffled") rfl)
  have n_law_put := He.glo_ok X G (cd.fact 16 (f := .glo "_law_put") rfl)
  have n_law_row := He.glo_ok X G (cd.fact 17 (f := .glo "_law_row") rfl)
  have n_law_same := He.glo_ok X G (cd.fact 18 (f := .glo "_law_same") rfl)
  have n_law_copy := He.glo_ok X G (cd.fact 19 (f := .glo "_law_copy") rfl)
  have n_law_name := He.glo_ok X G (cd.fact 20 (f := .glo "_law_name") rfl)
  have n_law_unlike := He.glo_ok X G (cd.fact 21 (f := .glo "_law_unlike") rfl)
  have n_law_all_pairs := He.glo_ok X G (cd.fact 22 (f := .glo "_law_all_pairs") rfl)
  have n_law_kept := He.glo_ok X G (cd.fact 23 (f := .glo "_law_kept") rfl)
  have n_law_pond_is := He.glo_ok X G (cd.fact 24 (f := .glo "_law_pond_is") rfl)
  have n_law_loose_row := He.glo_ok X G (cd.fact 25 (f := .glo "_law_loose_row") rfl)
  have n_law_group_quad := He.glo_ok X G (cd.fact 26 (f := .glo "_law_group_quad") rfl)
  have n_law_many := He.glo_ok X G (cd.fact 27 (f := .glo "_law_many") rfl)
  have n_law_lots := He.glo_ok X G (cd.fact 28 (f := .glo "_law_lots") rfl)
  have n_law_few_pairs := He.glo_ok X G (cd.fact 29 (f := .glo "_law_few_pairs") rfl)
  have n_law_foreign := He.glo_ok X G (cd.fact 30 (f := .glo "_law_foreign") rfl)
  have n_law_error := He.glo_ok X G (cd.fact 31 (f := .glo "_law_error") rfl)
  have n_law_told := He.glo_ok X G (cd.fact 32 (f := .glo "_law_told") rfl)
  have n_law_due := He.glo_ok X G (cd.fact 33 (f := .glo "_law_due") rfl)
  have n_law_group_pairs := He.glo_ok X G (cd.fact 34 (f := .glo "_law_group_pairs") rfl)
  have n_law := He.glo_ok X G (cd.fact 35 (f := .glo "law") rfl)
  have n_AtStrife := He.glo_ok X G (cd.fact 36 (f := .glo "AtStrife") rfl)
  have n_BadName := He.glo_ok X G (cd.fact 37 (f := .glo "BadName") rfl)
  have n_BadParting := He.glo_ok X G (cd.fact 38 (f := .glo "BadParting") rfl)
  have n_BadRow := He.glo_ok X G (cd.fact 39 (f := .glo "BadRow") rfl)
  have n_BadSize := He.glo_ok X G (cd.fact 40 (f := .glo "BadSize") rfl)
  have n_BadSplit := He.glo_ok X G (cd.fact 41 (f := .glo "BadSplit") rfl)
  have n_BadText := He.glo_ok X G (cd.fact 42 (f := .glo "BadText") rfl)
  have n_CrossedField := He.glo_ok X G (cd.fact 43 (f := .glo "CrossedField") rfl)
  have n_Crossing := He.glo_ok X G (cd.fact 44 (f := .glo "Crossing") rfl)
  have n_EmptyBook := He.glo_ok X G (cd.fact 45 (f := .glo "EmptyBook") rfl)
  have n_EndsDiffer := He.glo_ok X G (cd.fact 46 (f := .glo "EndsDiffer") rfl)
  have n_HedgeError := He.glo_ok X G (cd.fact 47 (f := .glo "HedgeError") rfl)
  have n_NoRun := He.glo_ok X G (cd.fact 48 (f := .glo "NoRun") rfl)
  have n_NoStrife := He.glo_ok X G (cd.fact 49 (f := .glo "NoStrife") rfl)
  have n_NotWithin := He.glo_ok X G (cd.fact 50 (f := .glo "NotWithin") rfl)
  have n_OrderRefused := He.glo_ok X G (cd.fact 51 (f := .glo "OrderRefused") rfl)
  have n_OtherPond := He.glo_ok X G (cd.fact 52 (f := .glo "OtherPond") rfl)
  have n_OutOfRange := He.glo_ok X G (cd.fact 53 (f := .glo "OutOfRange") rfl)
  have n_Pond := He.glo_ok X G (cd.fact 54 (f := .glo "Pond") rfl)
  have n_RepeatedName := He.glo_ok X G (cd.fact 55 (f := .glo "RepeatedName") rfl)
  have n_SameField := He.glo_ok X G (cd.fact 56 (f := .glo "SameField") rfl)
  have n_SameLot := He.glo_ok X G (cd.fact 57 (f := .glo "SameLot") rfl)
  have n_StepRefused := He.glo_ok X G (cd.fact 58 (f := .glo "StepRefused") rfl)
  have n_Stuck := He.glo_ok X G (cd.fact 59 (f := .glo "Stuck") rfl)
  have n_TooMany := He.glo_ok X G (cd.fact 60 (f := .glo "TooMany") rfl)
  have n_Ungranted := He.glo_ok X G (cd.fact 61 (f := .glo "Ungranted") rfl)
  have n_UnknownLot := He.glo_ok X G (cd.fact 62 (f := .glo "UnknownLot") rfl)
  have g_MOST_LOTS : ∃ u, mg "MOST_LOTS" = some u ∧ RelV (.int 10) u := (He.int_ok X G (cd.fact 81 (f := .int "MOST_LOTS" 10) rfl)).elim fun t e => ⟨_, e, t, rfl⟩
  have g_LONGEST_NAME : ∃ u, mg "LONGEST_NAME" = some u ∧ RelV (.int 8) u := (He.int_ok X G (cd.fact 82 (f := .int "LONGEST_NAME" 8) rfl)).elim fun t e => ⟨_, e, t, rfl⟩
  have g_LETTERS : ∃ u, mg "LETTERS" = some u ∧ RelV (.str (Str.ofString "abcdefghijklmnopqrstuvwxyz")) u := (He.str_ok X G (cd.fact 83 (f := .str "LETTERS" "abcdefghijklmnopqrstuvwxyz") rfl)).elim fun t e => ⟨_, e, t, rfl⟩
  have g_DIGITS : ∃ u, mg "DIGITS" = some u ∧ RelV (.str (Str.ofString "0123456789")) u := (He.str_ok X G (cd.fact 84 (f := .str "DIGITS" "0123456789") rfl)).elim fun t e => ⟨_, e, t, rfl⟩
  have cls_Pond := He.cls_ok (cd.fact 85 (f := .cls "Pond") rfl)
  have mkr_Pond := He.mkr_ok (cd.fact 86 (f := .mkr "Pond") rfl)
  have na_Pond__names := He.noat_ok (cd.fact 87 (f := .noat "Pond" "_names") rfl)
  have na_Pond__places := He.noat_ok (cd.fact 88 (f := .noat "Pond" "_places") rfl)
  have na_Pond__strifes := He.noat_ok (cd.fact 89 (f := .noat "Pond" "_strifes") rfl)
  have me_Pond_position := He.meth_ok (cd.fact 90 (f := .meth "Pond" "position") rfl)
  have me_Pond_pair_of := He.meth_ok (cd.fact 91 (f := .meth "Pond" "pair_of") rfl)
  have B : Blt mg := ⟨He.free_ok X G (cd.fact 63 (f := .free "len") rfl), He.free_ok X G (cd.fact 64 (f := .free "list") rfl), He.free_ok X G (cd.fact 65 (f := .free "tuple") rfl), He.free_ok X G (cd.fact 66 (f := .free "int") rfl), He.free_ok X G (cd.fact 67 (f := .free "range") rfl), He.free_ok X G (cd.fact 68 (f := .free "isinstance") rfl), He.free_ok X G (cd.fact 69 (f := .free "sorted") rfl), He.free_ok X G (cd.fact 70 (f := .free "all") rfl), He.free_ok X G (cd.fact 71 (f := .free "any") rfl), He.free_ok X G (cd.fact 72 (f := .free "str") rfl), He.free_ok X G (cd.fact 73 (f := .free "bool") rfl), He.free_ok X G (cd.fact 74 (f := .free "enumerate") rfl), He.free_ok X G (cd.fact 75 (f := .free "zip") rfl), He.free_ok X G (cd.fact 76 (f := .free "max") rfl), He.free_ok X G (cd.fact 77 (f := .free "min") rfl), He.free_ok X G (cd.fact 78 (f := .free "set") rfl), He.free_ok X G (cd.fact 79 (f := .free "ValueError") rfl), He.free_ok X G (cd.fact 80 (f := .free "sum") rfl)⟩
  obtain ⟨fd_is_name, F_is_name⟩ := cd.def_ 0 (d := dPl "is_name" s_is_name) rfl
  have D_is_name : Dn K mg "is_name" s_is_name := dnD F_is_name n_is_name
  obtain ⟨fd_check_name, F_check_name⟩ := cd.def_ 1 (d := dPl "check_name" s_check_name) rfl
  have D_check_name : Dn K mg "check_name" s_check_name := dnD F_check_name n_check_name
  obtain ⟨fd_place_pairs, F_place_pairs⟩ := cd.def_ 2 (d := dPl "place_pairs" s_place_pairs) rfl
  have D_place_pairs : Dn K mg "place_pairs" s_place_pairs := dnD F_place_pairs n_place_pairs
  obtain ⟨fd_crossing_places, F_crossing_places⟩ := cd.def_ 3 (d := dPl "crossing_places" s_crossing_places) rfl
  have D_crossing_places : Dn K mg "crossing_places" s_crossing_places := dnD F_crossing_places n_crossing_places
  obtain ⟨fd_crossings_from, F_crossings_from⟩ := cd.def_ 4 (d := dPl "crossings_from" s_crossings_from) rfl
  have D_crossings_from : Dn K mg "crossings_from" s_crossings_from := dnD F_crossings_from n_crossings_from
  obtain ⟨fd_check_names, F_check_names⟩ := cd.def_ 5 (d := dPl "check_names" s_check_names) rfl
  have D_check_names : Dn K mg "check_names" s_check_names := dnD F_check_names n_check_names
  obtain ⟨fd_lot_pairs, F_lot_pairs⟩ := cd.def_ 6 (d := dPl "lot_pairs" s_lot_pairs) rfl
  have D_lot_pairs : Dn K mg "lot_pairs" s_lot_pairs := dnD F_lot_pairs n_lot_pairs
  obtain ⟨fd_in_pair_order, F_in_pair_order⟩ := cd.def_ 7 (d := dPl "in_pair_order" s_in_pair_order) rfl
  have D_in_pair_order : Dn K mg "in_pair_order" s_in_pair_order := dnD F_in_pair_order n_in_pair_order
  obtain ⟨fd_groups_cross, F_groups_cross⟩ := cd.def_ 8 (d := dPl "groups_cross" s_groups_cross) rfl
  have D_groups_cross : Dn K mg "groups_cross" s_groups_cross := dnD F_groups_cross n_groups_cross
  obtain ⟨fd_law_store, F_law_store⟩ := cd.def_ 9 (d := dPl "_law_store" s_law_store) rfl
  have D_law_store : Dn K mg "_law_store" s_law_store := dnD F_law_store n_law_store
  obtain ⟨fd_law_mixed, F_law_mixed⟩ := cd.def_ 10 (d := dPl "_law_mixed" s_law_mixed) rfl
  have D_law_mixed : Dn K mg "_law_mixed" s_law_mixed := dnD F_law_mixed n_law_mixed
  obtain ⟨fd_law_take, F_law_take⟩ := cd.def_ 11 (d := dPl "_law_take" s_law_take) rfl
  have D_law_take : Dn K mg "_law_take" s_law_take := dnD F_law_take n_law_take
  obtain ⟨fd_law_number, F_law_number⟩ := cd.def_ 12 (d := dPl "_law_number" s_law_number) rfl
  have D_law_number : Dn K mg "_law_number" s_law_number := dnD F_law_number n_law_number
  obtain ⟨fd_law_pick, F_law_pick⟩ := cd.def_ 13 (d := dPl "_law_pick" s_law_pick) rfl
  have D_law_pick : Dn K mg "_law_pick" s_law_pick := dnD F_law_pick n_law_pick
  obtain ⟨fd_law_some, F_law_some⟩ := cd.def_ 14 (d := dPl "_law_some" s_law_some) rfl
  have D_law_some : Dn K mg "_law_some" s_law_some := dnD F_law_some n_law_some
  obtain ⟨fd_law_shuffled, F_law_shuffled⟩ := cd.def_ 15 (d := dPl "_law_shuffled" s_law_shuffled) rfl
  have D_law_shuffled : Dn K mg "_law_shuffled" s_law_shuffled := dnD F_law_shuffled n_law_shuffled
  obtain ⟨fd_law_put, F_law_put⟩ := cd.def_ 16 (d := dPl "_law_put" s_law_put) rfl
  have D_law_put : Dn K mg "_law_put" s_law_put := dnD F_law_put n_law_put
  obtain ⟨fd_law_row, F_law_row⟩ := cd.def_ 17 (d := dPl "_law_row" s_law_row) rfl
  have D_law_row : Dn K mg "_law_row" s_law_row := dnD F_law_row n_law_row
  obtain ⟨fd_law_same, F_law_same⟩ := cd.def_ 18 (d := dPl "_law_same" s_law_same) rfl
  have D_law_same : Dn K mg "_law_same" s_law_same := dnD F_law_same n_law_same
  obtain ⟨fd_law_copy, F_law_copy⟩ := cd.def_ 19 (d := dPl "_law_copy" s_law_copy) rfl
  have D_law_copy : Dn K mg "_law_copy" s_law_copy := dnD F_law_copy n_law_copy
  obtain ⟨fd_law_name, F_law_name⟩ := cd.def_ 20 (d := dPl "_law_name" s_law_name) rfl
  have D_law_name : Dn K mg "_law_name" s_law_name := dnD F_law_name n_law_name
  obtain ⟨fd_law_unlike, F_law_unlike⟩ := cd.def_ 21 (d := dPl "_law_unlike" s_law_unlike) rfl
  have D_law_unlike : Dn K mg "_law_unlike" s_law_unlike := dnD F_law_unlike n_law_unlike
  obtain ⟨fd_law_all_pairs, F_law_all_pairs⟩ := cd.def_ 22 (d := dPl "_law_all_pairs" s_law_all_pairs) rfl
  have D_law_all_pairs : Dn K mg "_law_all_pairs" s_law_all_pairs := dnD F_law_all_pairs n_law_all_pairs
  obtain ⟨fd_law_kept, F_law_kept⟩ := cd.def_ 23 (d := dPl "_law_kept" s_law_kept) rfl
  have D_law_kept : Dn K mg "_law_kept" s_law_kept := dnD F_law_kept n_law_kept
  obtain ⟨fd_law_pond_is, F_law_pond_is⟩ := cd.def_ 24 (d := dPl "_law_pond_is" s_law_pond_is) rfl
  have D_law_pond_is : Dn K mg "_law_pond_is" s_law_pond_is := dnD F_law_pond_is n_law_pond_is
  obtain ⟨fd_law_loose_row, F_law_loose_row⟩ := cd.def_ 25 (d := dPl "_law_loose_row" s_law_loose_row) rfl
  have D_law_loose_row : Dn K mg "_law_loose_row" s_law_loose_row := dnD F_law_loose_row n_law_loose_row
  obtain ⟨fd_law_group_quad, F_law_group_quad⟩ := cd.def_ 26 (d := dPl "_law_group_quad" s_law_group_quad) rfl
  have D_law_group_quad : Dn K mg "_law_group_quad" s_law_group_quad := dnD F_law_group_quad n_law_group_quad
  obtain ⟨fd_law_many, F_law_many⟩ := cd.def_ 27 (d := dPl "_law_many" s_law_many) rfl
  have D_law_many : Dn K mg "_law_many" s_law_many := dnD F_law_many n_law_many
  obtain ⟨fd_law_lots, F_law_lots⟩ := cd.def_ 28 (d := dPl "_law_lots" s_law_lots) rfl
  have D_law_lots : Dn K mg "_law_lots" s_law_lots := dnD F_law_lots n_law_lots
  obtain ⟨fd_law_few_pairs, F_law_few_pairs⟩ := cd.def_ 29 (d := dPl "_law_few_pairs" s_law_few_pairs) rfl
  have D_law_few_pairs : Dn K mg "_law_few_pairs" s_law_few_pairs := dnD F_law_few_pairs n_law_few_pairs
  obtain ⟨fd_law_foreign, F_law_foreign⟩ := cd.def_ 30 (d := dPl "_law_foreign" s_law_foreign) rfl
  have D_law_foreign : Dn K mg "_law_foreign" s_law_foreign := dnD F_law_foreign n_law_foreign
  obtain ⟨fd_law_error, F_law_error⟩ := cd.def_ 31 (d := dPl "_law_error" s_law_error) rfl
  have D_law_error : Dn K mg "_law_error" s_law_error := dnD F_law_error n_law_error
  obtain ⟨fd_law_told, F_law_told⟩ := cd.def_ 32 (d := dPl "_law_told" s_law_told) rfl
  have D_law_told : Dn K mg "_law_told" s_law_told := dnD F_law_told n_law_told
  obtain ⟨fd_law_due, F_law_due⟩ := cd.def_ 33 (d := dPl "_law_due" s_law_due) rfl
  have D_law_due : Dn K mg "_law_due" s_law_due := dnD F_law_due n_law_due
  obtain ⟨fd_law_group_pairs, F_law_group_pairs⟩ := cd.def_ 34 (d := dPl "_law_group_pairs" s_law_group_pairs) rfl
  have D_law_group_pairs : Dn K mg "_law_group_pairs" s_law_group_pairs := dnD F_law_group_pairs n_law_group_pairs
  obtain ⟨fd_law, F_law⟩ := cd.def_ 35 (d := dPl "law" s_law) rfl
  obtain ⟨fdI_BadName, FI_BadName⟩ := cd.def_ 36 (d := dIn "BadName" s_BadName___init__) rfl
  obtain ⟨fdI_RepeatedName, FI_RepeatedName⟩ := cd.def_ 37 (d := dIn "RepeatedName" s_RepeatedName___init__) rfl
  obtain ⟨fdI_UnknownLot, FI_UnknownLot⟩ := cd.def_ 38 (d := dIn "UnknownLot" s_UnknownLot___init__) rfl
  obtain ⟨fdI_SameLot, FI_SameLot⟩ := cd.def_ 39 (d := dIn "SameLot" s_SameLot___init__) rfl
  obtain ⟨fdI_BadSize, FI_BadSize⟩ := cd.def_ 40 (d := dIn "BadSize" s_BadSize___init__) rfl
  obtain ⟨fdM_Pond_position, FM_Pond_position⟩ := cd.def_ 41 (d := dMt "Pond" "position" s_Pond_position []) rfl
  have DM_Pond_position : Dm K (He.ga K "Pond") "position" "Pond.position" s_Pond_position := dm_mk me_Pond_position cls_Pond FM_Pond_position
  obtain ⟨fdM_Pond_pair_of, FM_Pond_pair_of⟩ := cd.def_ 42 (d := dMt "Pond" "pair_of" s_Pond_pair_of []) rfl
  have DM_Pond_pair_of : Dm K (He.ga K "Pond") "pair_of" "Pond.pair_of" s_Pond_pair_of := dm_mk me_Pond_pair_of cls_Pond FM_Pond_pair_of
  obtain ⟨fdC_Pond, FC_Pond⟩ := cd.def_ 43 (d := dMt "Pond" "__init__" s_Pond___init__ [("strifes", .adr (kwAt "Pond" "__init__" "strifes"))]) rfl
  have bx_BadName : BadX K mg "BadName" ["name"] (He.ga K "BadName") s_BadName___init__ := excB_ok (ex_at c.more 0 (f := fun K => excB K "BadName" ["name"]) rfl) n_BadName (fun_of FI_BadName)
  have bx_RepeatedName : BadX K mg "RepeatedName" ["name"] (He.ga K "RepeatedName") s_RepeatedName___init__ := excB_ok (ex_at c.more 1 (f := fun K => excB K "RepeatedName" ["name"]) rfl) n_RepeatedName (fun_of FI_RepeatedName)
  have bx_UnknownLot : BadX K mg "UnknownLot" ["name"] (He.ga K "UnknownLot") s_UnknownLot___init__ := excB_ok (ex_at c.more 2 (f := fun K => excB K "UnknownLot" ["name"]) rfl) n_UnknownLot (fun_of FI_UnknownLot)
  have bx_SameLot : BadX K mg "SameLot" ["name"] (He.ga K "SameLot") s_SameLot___init__ := excB_ok (ex_at c.more 3 (f := fun K => excB K "SameLot" ["name"]) rfl) n_SameLot (fun_of FI_SameLot)
  have bx_BadSize : BadX K mg "BadSize" ["size"] (He.ga K "BadSize") s_BadSize___init__ := excB_ok (ex_at c.more 4 (f := fun K => excB K "BadSize" ["size"]) rfl) n_BadSize (fun_of FI_BadSize)
  have bs_HedgeError : BaseC K mg "HedgeError" := baseB_ok (ex_at c.more 5 (f := fun K => baseB K "HedgeError") rfl) n_HedgeError
  have ex_UnknownLot := eB_ok (ex_at c.more 6 (f := fun K => exmB K "UnknownLot" "HedgeError") rfl)
  have nt_UnknownLot := ex_at c.more 7 (f := fun K => notB K "UnknownLot" oth_UnknownLot) rfl
  have o_UnknownLot_AtStrife := notB_ok (m := "AtStrife") nt_UnknownLot (by decide +kernel)
  have o_UnknownLot_BadName := notB_ok (m := "BadName") nt_UnknownLot (by decide +kernel)
  have o_UnknownLot_BadParting := notB_ok (m := "BadParting") nt_UnknownLot (by decide +kernel)
  have o_UnknownLot_BadRow := notB_ok (m := "BadRow") nt_UnknownLot (by decide +kernel)
  have o_UnknownLot_BadSize := notB_ok (m := "BadSize") nt_UnknownLot (by decide +kernel)
  have o_UnknownLot_BadSplit := notB_ok (m := "BadSplit") nt_UnknownLot (by decide +kernel)
  have o_UnknownLot_BadText := notB_ok (m := "BadText") nt_UnknownLot (by decide +kernel)
  have o_UnknownLot_CrossedField := notB_ok (m := "CrossedField") nt_UnknownLot (by decide +kernel)
  have o_UnknownLot_Crossing := notB_ok (m := "Crossing") nt_UnknownLot (by decide +kernel)
  have o_UnknownLot_EmptyBook := notB_ok (m := "EmptyBook") nt_UnknownLot (by decide +kernel)
  have o_UnknownLot_EndsDiffer := notB_ok (m := "EndsDiffer") nt_UnknownLot (by decide +kernel)
  have o_UnknownLot_NoRun := notB_ok (m := "NoRun") nt_UnknownLot (by decide +kernel)
  have o_UnknownLot_NoStrife := notB_ok (m := "NoStrife") nt_UnknownLot (by decide +kernel)
  have o_UnknownLot_NotWithin := notB_ok (m := "NotWithin") nt_UnknownLot (by decide +kernel)
  have o_UnknownLot_OrderRefused := notB_ok (m := "OrderRefused") nt_UnknownLot (by decide +kernel)
  have o_UnknownLot_OtherPond := notB_ok (m := "OtherPond") nt_UnknownLot (by decide +kernel)
  have o_UnknownLot_OutOfRange := notB_ok (m := "OutOfRange") nt_UnknownLot (by decide +kernel)
  have o_UnknownLot_RepeatedName := notB_ok (m := "RepeatedName") nt_UnknownLot (by decide +kernel)
  have o_UnknownLot_SameField := notB_ok (m := "SameField") nt_UnknownLot (by decide +kernel)
  have o_UnknownLot_SameLot := notB_ok (m := "SameLot") nt_UnknownLot (by decide +kernel)
  have o_UnknownLot_StepRefused := notB_ok (m := "StepRefused") nt_UnknownLot (by decide +kernel)
  have o_UnknownLot_Stuck := notB_ok (m := "Stuck") nt_UnknownLot (by decide +kernel)
  have o_UnknownLot_TooMany := notB_ok (m := "TooMany") nt_UnknownLot (by decide +kernel)
  have o_UnknownLot_Ungranted := notB_ok (m := "Ungranted") nt_UnknownLot (by decide +kernel)
  have gp_Pond_names := ex_at c.more 8 (f := fun K => propB K gd_Pond_names) rfl
  have ge_Pond_names := c.get 0 (d := gd_Pond_names) rfl
  have gp_Pond_strifes := ex_at c.more 9 (f := fun K => propB K gd_Pond_strifes) rfl
  have ge_Pond_strifes := c.get 1 (d := gd_Pond_strifes) rfl
  have eL := hfa.symm.trans n_law
  cases eL
  have F : Fun K "law" "law" s_law (He.ga K "law") fd_law := fun_of (st := s_law) F_law
  refine ⟨fd_law, fun s v => FunD.bindsA (ps := ["script"]) F_law (fun _ _ _ _ _ _ us hl => match us, hl with | [_], _ => rfl) s [v] rfl, fun base _ _ => ?_⟩
  obtain ⟨fI_BadName, fdJ_BadName, i1_BadName, i2_BadName, FJ_BadName⟩ := bx_BadName.ini
  have bad_BadName : Bad P w K mg base "BadName" "name" (He.ga K "BadName") := ⟨bx_BadName.nm, bx_BadName.ox, ⟨fI_BadName, fdJ_BadName, _, i1_BadName, i2_BadName, fn_BadName bs_HedgeError FJ_BadName, FJ_BadName.binds (ps := ["self", "name"]) fun _ _ _ _ _ _ us hl => match us, hl with | [_, _], _ => rfl⟩, bx_BadName.no "name" (by decide +kernel), bx_BadName.ex, bx_BadName.xf⟩
  obtain ⟨fI_RepeatedName, fdJ_RepeatedName, i1_RepeatedName, i2_RepeatedName, FJ_RepeatedName⟩ := bx_RepeatedName.ini
  have bad_RepeatedName : Bad P w K mg base "RepeatedName" "name" (He.ga K "RepeatedName") := ⟨bx_RepeatedName.nm, bx_RepeatedName.ox, ⟨fI_RepeatedName, fdJ_RepeatedName, _, i1_RepeatedName, i2_RepeatedName, fn_RepeatedName bs_HedgeError FJ_RepeatedName, FJ_RepeatedName.binds (ps := ["self", "name"]) fun _ _ _ _ _ _ us hl => match us, hl with | [_, _], _ => rfl⟩, bx_RepeatedName.no "name" (by decide +kernel), bx_RepeatedName.ex, bx_RepeatedName.xf⟩
  obtain ⟨fI_UnknownLot, fdJ_UnknownLot, i1_UnknownLot, i2_UnknownLot, FJ_UnknownLot⟩ := bx_UnknownLot.ini
  have bad_UnknownLot : Bad P w K mg base "UnknownLot" "name" (He.ga K "UnknownLot") := ⟨bx_UnknownLot.nm, bx_UnknownLot.ox, ⟨fI_UnknownLot, fdJ_UnknownLot, _, i1_UnknownLot, i2_UnknownLot, fn_UnknownLot bs_HedgeError FJ_UnknownLot, FJ_UnknownLot.binds (ps := ["self", "name"]) fun _ _ _ _ _ _ us hl => match us, hl with | [_, _], _ => rfl⟩, bx_UnknownLot.no "name" (by decide +kernel), bx_UnknownLot.ex, bx_UnknownLot.xf⟩
  obtain ⟨fI_SameLot, fdJ_SameLot, i1_SameLot, i2_SameLot, FJ_SameLot⟩ := bx_SameLot.ini
  have bad_SameLot : Bad P w K mg base "SameLot" "name" (He.ga K "SameLot") := ⟨bx_SameLot.nm, bx_SameLot.ox, ⟨fI_SameLot, fdJ_SameLot, _, i1_SameLot, i2_SameLot, fn_SameLot bs_HedgeError FJ_SameLot, FJ_SameLot.binds (ps := ["self", "name"]) fun _ _ _ _ _ _ us hl => match us, hl with | [_, _], _ => rfl⟩, bx_SameLot.no "name" (by decide +kernel), bx_SameLot.ex, bx_SameLot.xf⟩
  obtain ⟨fI_Z, fdJ_Z, i1_Z, i2_Z, FJ_Z⟩ := bx_BadSize.ini
  have bad_BadSize : BadN P w K mg base "BadSize" 1 nSize fSize (He.ga K "BadSize") := ⟨bx_BadSize.nm, bx_BadSize.ox, ⟨fI_Z, fdJ_Z, _, i1_Z, i2_Z, fn_BadSize bs_HedgeError FJ_Z, FJ_Z.binds (ps := ["self", "size"]) fun _ _ _ _ _ _ us hl => match us, hl with | [_, _], _ => rfl⟩, bx_BadSize.no, bx_BadSize.ex, bx_BadSize.xf⟩
  have T : OthU K mg (He.ga K "UnknownLot") := ⟨⟨He.ga K, all_cons ⟨n_AtStrife, o_UnknownLot_AtStrife⟩ <| all_cons ⟨n_BadName, o_UnknownLot_BadName⟩ <| all_cons ⟨n_BadParting, o_UnknownLot_BadParting⟩ <| all_cons ⟨n_BadRow, o_UnknownLot_BadRow⟩ <| all_cons ⟨n_BadSize, o_UnknownLot_BadSize⟩ <| all_cons ⟨n_BadSplit, o_UnknownLot_BadSplit⟩ <| all_cons ⟨n_BadText, o_UnknownLot_BadText⟩ <| all_cons ⟨n_CrossedField, o_UnknownLot_CrossedField⟩ <| all_cons ⟨n_Crossing, o_UnknownLot_Crossing⟩ <| all_cons ⟨n_EmptyBook, o_UnknownLot_EmptyBook⟩ <| all_cons ⟨n_EndsDiffer, o_UnknownLot_EndsDiffer⟩ <| all_cons ⟨n_NoRun, o_UnknownLot_NoRun⟩ <| all_cons ⟨n_NoStrife, o_UnknownLot_NoStrife⟩ <| all_cons ⟨n_NotWithin, o_UnknownLot_NotWithin⟩ <| all_cons ⟨n_OrderRefused, o_UnknownLot_OrderRefused⟩ <| all_cons ⟨n_OtherPond, o_UnknownLot_OtherPond⟩ <| all_cons ⟨n_OutOfRange, o_UnknownLot_OutOfRange⟩ <| all_cons ⟨n_RepeatedName, o_UnknownLot_RepeatedName⟩ <| all_cons ⟨n_SameField, o_UnknownLot_SameField⟩ <| all_cons ⟨n_SameLot, o_UnknownLot_SameLot⟩ <| all_cons ⟨n_StepRefused, o_UnknownLot_StepRefused⟩ <| all_cons ⟨n_Stuck, o_UnknownLot_Stuck⟩ <| all_cons ⟨n_TooMany, o_UnknownLot_TooMany⟩ <| all_cons ⟨n_Ungranted, o_UnknownLot_Ungranted⟩ <| all_none⟩, bx_UnknownLot.ve⟩
  have pr_names : Pr P w K mg base (He.ga K "Pond") "names" "_names" := pr_mk (d := gd_Pond_names) gp_Pond_names ge_Pond_names cls_Pond na_Pond__names sc_Pond_names rfl (fun _ _ _ _ _ _ us hl => match us, hl with | [_], _ => rfl)
  have pr_strifes : Pr P w K mg base (He.ga K "Pond") "strifes" "_strifes" := pr_mk (d := gd_Pond_strifes) gp_Pond_strifes ge_Pond_strifes cls_Pond na_Pond__strifes sc_Pond_strifes rfl (fun _ _ _ _ _ _ us hl => match us, hl with | [_], _ => rfl)
  have c_mixed : Cl P w K mg base 1 "_law_mixed" sp_mixed := ok_mixed D_law_mixed B
  have c_take := ok_take D_law_take B c_mixed
  have c_number := ok_number D_law_number c_take
  have c_store : Cl P w K mg base 1 "_law_store" (sp_store K) := ok_store D_law_store B
  have c_same : ∀ n, Cl P w K mg base n "_law_same" (sp_same n) := ok_same D_law_same B
  have c_copy : ∀ n, Cl P w K mg base n "_law_copy" (sp_copy n) := ok_copy D_law_copy B
  have c_shuffled := ok_shuffled D_law_shuffled B c_take
  have c_row := ok_row D_law_row B c_take
  have c_pick := ok_pick D_law_pick B c_take
  have c_some := ok_some D_law_some B c_take
  have c_put := ok_put D_law_put B c_take
  have c_name := ok_namey D_law_name B c_take c_number
  have c_unlike : Cl P w K mg base 1 "_law_unlike" sp_unlike := ok_unlike D_law_unlike B
  have c_many := ok_lotmany D_law_many B c_take c_pick
  have c_lots := ok_lots D_law_lots B c_take c_name c_unlike
  have c_all_pairs : Cl P w K mg base 1 "_law_all_pairs" sp_all_pairs := ok_all_pairs D_law_all_pairs B
  have c_kept := ok_kept D_law_kept B c_all_pairs
  have c_few := ok_few D_law_few_pairs B c_take c_all_pairs
  have c_foreign := ok_foreign D_law_foreign B c_pick c_name
  have c_loose := ok_loose D_law_loose_row B c_number c_pick c_row
  have c_gpairs := ok_gpairs D_law_group_pairs B c_loose c_some c_shuffled c_row c_put c_foreign
  have c_is_name : Cl P w K mg base 1 "is_name" sp_is_name := ok_is_name D_is_name B g_LETTERS g_DIGITS g_LONGEST_NAME
  have c_check_name := ok_check_name D_check_name bad_BadName c_is_name
  have c_check_names := ok_check_names D_check_names B g_MOST_LOTS bad_BadSize bad_RepeatedName c_check_name
  have c_place_pairs : Cl P w K mg base 1 "place_pairs" sp_place_pairs := ok_place_pairs D_place_pairs B
  have c_lot_pairs := ok_lot_pairs D_lot_pairs B pr_names c_place_pairs
  have c_in_pair_order := ok_in_pair_order D_in_pair_order B c_lot_pairs
  have cm_position := ok_position DM_Pond_position na_Pond__places bad_UnknownLot
  have cm_pair_of := ok_pair_of DM_Pond_pair_of B na_Pond__names bad_SameLot cm_position
  have mk_Pond := mk_pond FC_Pond mkr_Pond n_Pond cls_Pond B na_Pond__names na_Pond__places na_Pond__strifes c_check_names cm_pair_of c_in_pair_order
  have c_crossings_from : Cl P w K mg base 1 "crossings_from" sp_crossings_from := ok_crossings_from D_crossings_from B
  have c_crossing_places := ok_crossing_places D_crossing_places B c_crossings_from
  have c_groups_cross := ok_groups_cross D_groups_cross B pr_names cm_position c_crossing_places
  have c_error := ok_law_error D_law_error B bad_UnknownLot T
  have c_told := ok_told D_law_told n_HedgeError ex_UnknownLot c_groups_cross c_error
  have c_quad : Cl P w K mg base 1 "_law_group_quad" sp_quad := ok_quad D_law_group_quad B
  have c_due := ok_due D_law_due B c_quad
  have c_pond_is := ok_pond_is D_law_pond_is B pr_names pr_strifes (c_same 3)
  exact fn_law F B c_store c_many c_lots c_few mk_Pond c_gpairs (c_copy 4) c_due c_told (c_same 6) c_pond_is c_kept
end Z
set_option Elab.async false
set_option linter.all false
set_option maxRecDepth 100000
open PySem PySem.W PySem.Calls PyProof.Rows
set_option maxHeartbeats 0 in
theorem PySem.Challenge.cw_hedgejoin_k10_groups_that_cross_holds : PySem.Challenge.rw_hedgejoin_k10_groups_that_cross.Holds := by
  w_on; o_law
  refine HandSHeadRun.head_any (r := OpenLaw.row PySem.Challenge.rw_hedgejoin_k10_groups_that_cross) (q := view (OpenLaw.row PySem.Challenge.rw_hedgejoin_k10_groups_that_cross).prog [72]) (H := Z.hkH) (ob := Z.obH) (M := 30000) (loose := Z.looseH) (d := HandSHeadRun.topDef (OpenLaw.row PySem.Challenge.rw_hedgejoin_k10_groups_that_cross).prog 72) (kwd := []) Z.obH_eq
    (by kernel_rfl) (fun s => by kernel_rfl) Z.runH (by kernel_rfl) (by kernel_rfl) (by kernel_rfl) (by rfl) (by first | assumption | decide +kernel) (by decide +kernel) ⟨rfl, rfl, rfl, rfl, rfl, by decide +kernel⟩ ?hw ?hc
  case hw => w_witness2
  case hc =>
    refine L2.walk_ofE (l := PySem.Challenge.rw_hedgejoin_k10_groups_that_cross) (n := 63) (k := 7) (x := "script") (CX := L2.CX0) rfl (by decide) (by kernel_rfl) ⟨rfl, by decide, by decide⟩ ?F (fun _ _ _ _ z => z)
    intro w mg fa h Y G hmg0
    obtain ⟨K, KX, c⟩ := Y
    have hmg : mg ("law" : PySem.Str) = some (.ref fa) := by
      have e : (HandSHeadRun.topDef (OpenLaw.row PySem.Challenge.rw_hedgejoin_k10_groups_that_cross).prog 72).name = ("law" : PySem.Str) := by kernel_rfl
      rw [← e]
      exact hmg0
    obtain ⟨fd, hb, hF⟩ := Z.factsH (P := (PySem.Challenge.rw_hedgejoin_k10_groups_that_cross).prog) (w := w) KX G hmg c
    exact ⟨K, fd, Z.sp_top K, KX, hb, fun H a ns hl _ hS => ⟨a, ns, rfl, hS, hl, fun _ => rfl⟩, hF⟩
