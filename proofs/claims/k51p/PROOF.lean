import PyProof.Rows.All
import Wide.All
import OpenK.AllK
import Wide.FinOn
import HandS.ForMost
import HandS.Wide
import HandS.SortInts
import HandS.IsInst
import HandS.Style
import HandS.TupAny
import HandS.FStr
import HandS.Defaults
import HandS.TryOnly
import HandS.HotCalls
import HandS.ExcInit
import HandS.ExcIs
import HandS.ExcField
import HandS.WordsExc
import KE.KExcIs
import HandS.Gcd
import KE.KMathGC
import PySem.Challenge.RW_hedgejoin_k51_histories_of_one_pond
set_option Elab.async false
set_option linter.all false
set_option maxRecDepth 100000
namespace Z
open PySem PySem.Spec PyProof.Rows L2

/-- the built-in names that a module does not bind -/
structure Blt (mg : Str → Option Value) : Prop where
  len : mg "len" = none
  list : mg "list" = none
  tuple : mg "tuple" = none
  int : mg "int" = none
  range : mg "range" = none
  isinstance : mg "isinstance" = none
  sorted : mg "sorted" = none
  all : mg "all" = none
  any : mg "any" = none
  str : mg "str" = none
  bool : mg "bool" = none
  enumerate : mg "enumerate" = none
  zip : mg "zip" = none
  max : mg "max" = none
  min : mg "min" = none
  set : mg "set" = none
  ValueError : mg "ValueError" = none
  sum : mg "sum" = none

/-- a def that stands under its name -/
structure Dn (K : PySem.W.Frag) (mg : Str → Option Value) (x : Str) (st : Stmt) : Prop where
  ex : ∃ (f : Addr) (fd : FuncData), Fun K x x st f fd ∧ mg x = some (.ref f)
/-- a def that keeps its promise -/
structure Cl (P : Program) (w : World) (K : PySem.W.Frag) (mg : Str → Option Value) (base : Heap) (k : Nat) (x : Str) (sp : Sp) : Prop where
  ex : ∃ (f : Addr) (fd : FuncData) (ps : List Str), FnOk P w K mg base CX0 k f fd ps sp ∧ mg x = some (.ref f) ∧ PySem.W.keepIn K (.ref f) = true ∧ Binds K fd ps []
def BindO (x : Str) (st : Stmt) (ps : List Str) : Prop := ∀ (kV doc pm : Value) (an : Option Addr) (cdv ct : Value) (us : List Value), us.length = ps.length →
  bindArgs (PySem.W.fnOf x x (defArgs st) (defBody st) (defScope st) .none kV doc pm an cdv ct) ⟨us, []⟩ = pure (ps.zip us)
section
variable {P : Program} {w : World} {K : PySem.W.Frag} {mg : Str → Option Value} {base : Heap}
theorem cl_of {x : Str} {st : Stmt} {N ps : List Str} {k : Nat} {sp : Sp} (D : Dn K mg x st) (S : FnScope N ps (defScope st)) (b : BindO x st ps) (len : ∀ vs H Q E, sp vs H Q E → vs.length = ps.length)
    (body : ∀ (f : Addr) (cdv : Value) (A : Around) (outer : List Env) (s : Shared) (H : Hp) (vs : List V) (Q : VK) (E : XK), Room k (A.deeper (envOfC x (defScope st) s.heap.objs.size f cdv)) → sp vs H Q E →
      ∃ t, PSs (cxOf CX0 P w K mg base N x (defScope st) f cdv A outer s H E).nox (defBody st) t ∧ t { nx := fun _ H' => Q .non H', rt := Q } (start N vs) H) : Cl P w K mg base (k + 1) x sp := by
  obtain ⟨f, fd, F, hm⟩ := D.ex
  exact ⟨f, fd, ps, F.ok S len (body f), hm, F.kp, F.binds b⟩
theorem Cl.mono {x : Str} {j k : Nat} {sp : Sp} (c : Cl P w K mg base j x sp) (h : j ≤ k) : Cl P w K mg base k x sp := by
  obtain ⟨f, fd, ps, F, a⟩ := c.ex
  exact ⟨f, fd, ps, F.mono h, a⟩
end
/-- its call, as a reading -/
def tCl (sp : Sp) (t : TA) : TE := fun σ H Q => t σ H fun vs H1 => sp vs H1 Q E0
section
variable {X : Cx} {k j : Nat} {x : Str} {sp : Sp} {p pos : Pos} {e : Expr} {es : List Expr} {t : TA}
theorem pe_cl (c : Cl X.prog X.w X.K X.mg X.base k x sp) (hr : Room j X.A) (hk : k ≤ j) (hg : Gl X x) (ha : PA X (e :: es) t)
    (d : (x == ("__debug__" : Str)) = false := by decide) (h1 : starEach (e :: es) X.env = (false, eval e X.env) :: starEach es X.env := by rfl) (h2 : (backTo pos (starEach es X.env)).any (·.1) = false := by rfl) :
    PE X (.Call (.Name x p) (e :: es) [] pos) (tCl sp t) := by
  obtain ⟨f, fd, ps, F, hm, kp, b⟩ := c.ex
  have z := pe_call (pos := pos) F (hr.mono hk) hg hm kp b .nil (E := E0) pass0 ha d h1 h2 (p := p)
  refine ⟨fun pins s σ H Q I h => z.run pins s σ H Q I ?_⟩
  have e : tCall sp [] E0 t = tCl sp t := by
    funext σ H Q
    simp only [tCall, tCl, List.append_nil]
  rw [e]
  exact h
end

/-! ### defs with keyword-only defaults, calls with keywords -/
/-- a def that stands under its name, kws its keyword-only defaults -/
structure Dk (K : PySem.W.Frag) (mg : Str → Option Value) (x : Str) (st : Stmt) (kws : List (Str × V)) : Prop where
  ex : ∃ (f : Addr) (fd : FuncData), FunD K x x (defArgs st) (defBody st) (defScope st) [] kws f fd ∧ mg x = some (.ref f)
structure Fk (P : Program) (w : World) (K : PySem.W.Frag) (mg : Str → Option Value) (base : Heap) (k : Nat) (x : Str) (st : Stmt) (kws : List (Str × V)) (ps : List Str) (sp : Sp) : Prop where
  ex : ∃ (f : Addr) (fd : FuncData), FnOk P w K mg base CX0 k f fd ps sp ∧ mg x = some (.ref f) ∧ FunD K x x (defArgs st) (defBody st) (defScope st) [] kws f fd
/-- a call by n values, the defaults dvs behind them -/
structure Cd (P : Program) (w : World) (K : PySem.W.Frag) (mg : Str → Option Value) (base : Heap) (k : Nat) (x : Str) (dvs : List V) (sp : Sp) : Prop where
  ex : ∃ (f : Addr) (fd : FuncData) (ps : List Str) (ds : List Value), FnOk P w K mg base CX0 k f fd ps sp ∧ mg x = some (.ref f) ∧ PySem.W.keepIn K (.ref f) = true ∧ Binds K fd ps ds ∧ Vals dvs ds
/-- a call by n values and the keywords ks -/
structure Ck (P : Program) (w : World) (K : PySem.W.Frag) (mg : Str → Option Value) (base : Heap) (k : Nat) (x : Str) (n : Nat) (ks : List Str) (gV : List V → List V → List V) (sp : Sp) : Prop where
  ex : ∃ (f : Addr) (fd : FuncData) (ps : List Str) (g : List Value → List Value → List Value), FnOk P w K mg base CX0 k f fd ps sp ∧ mg x = some (.ref f) ∧ PySem.W.keepIn K (.ref f) = true ∧ KBn K fd ps n ks g gV
section
variable {P : Program} {w : World} {K : PySem.W.Frag} {mg : Str → Option Value} {base : Heap}
theorem fk_of {x : Str} {st : Stmt} {kws : List (Str × V)} {N ps : List Str} {k : Nat} {sp : Sp} (D : Dk K mg x st kws) (S : FnScope N ps (defScope st)) (len : ∀ vs H Q E, sp vs H Q E → vs.length = ps.length)
    (body : ∀ (f : Addr) (cdv : Value) (A : Around) (outer : List Env) (s : Shared) (H : Hp) (vs : List V) (Q : VK) (E : XK), Room k (A.deeper (envOfC x (defScope st) s.heap.objs.size f cdv)) → sp vs H Q E →
      ∃ t, PSs (cxOf CX0 P w K mg base N x (defScope st) f cdv A outer s H E).nox (defBody st) t ∧ t { nx := fun _ H' => Q .non H', rt := Q } (start N vs) H) : Fk P w K mg base (k + 1) x st kws ps sp := by
  obtain ⟨f, fd, F, hm⟩ := D.ex
  exact ⟨f, fd, F.ok S len fun cdv A outer s H vs Q E hr h => (body f cdv A outer s H vs Q E hr h).imp fun t z => ⟨z.1.nox, z.2⟩, hm, F⟩
theorem Fk.cd {x : Str} {st : Stmt} {kws : List (Str × V)} {ps : List Str} {k : Nat} {sp : Sp} (F : Fk P w K mg base k x st kws ps sp) (n : Nat) (hk : kws ≠ []) (hn : n + kws.length = ps.length)
    (h : ∀ (D : Addr) (doc pm : Value) (an : Option Addr) (cdv ct : Value) (us ks : List Value), us.length = n → ks.length = kws.length →
      KwChain D ((kws.map (·.1)).zip ks) (bindArgs (PySem.W.fnOf x x (defArgs st) (defBody st) (defScope st) .none (.ref D) doc pm an cdv ct) ⟨us, []⟩) (ps.zip (us ++ ks))) : Cd P w K mg base k x (kws.map (·.2)) sp := by
  obtain ⟨f, fd, Fn, hm, FD⟩ := F.ex
  obtain ⟨ds, v, b⟩ := FD.binds0 n hk hn h
  exact ⟨f, fd, ps, ds, Fn, hm, FD.kp, b, v⟩
/-- every keyword-only parameter is named -/
theorem Fk.ck {x : Str} {st : Stmt} {kws : List (Str × V)} {ps : List Str} {k : Nat} {sp : Sp} (F : Fk P w K mg base k x st kws ps sp) (n : Nat) (ks : List Str) (g : {α : Type} → List α → List α → List α)
    (hg : ∀ {vs : List V} {us : List Value} {zs : List V} {ws : List Value}, Vals vs us → Vals zs ws → Vals (g vs zs) (g us ws))
    (h : ∀ (kV doc pm : Value) (an : Option Addr) (cdv ct : Value) (us ws : List Value), us.length = n → ws.length = ks.length →
      bindArgs (PySem.W.fnOf x x (defArgs st) (defBody st) (defScope st) .none kV doc pm an cdv ct) ⟨us, ks.zip ws⟩ = pure (ps.zip (g us ws))) : Ck P w K mg base k x n ks g sp := by
  obtain ⟨f, fd, Fn, hm, FD⟩ := F.ex
  obtain ⟨oc, od, dV, kV, doc, pm, an, cdv, ct, osl, rfl, lk, hcd, hD, hK⟩ := id FD.ex
  rcases hD with ⟨_, rfl⟩ | ⟨e, _⟩
  · exact ⟨f, _, ps, g, Fn, hm, FD.kp, ⟨fun s us ws X l1 l2 => .of_eq (h kV doc pm an cdv ct us ws l1 l2), hg⟩⟩
  · exact absurd rfl e
/-- the same of a def without defaults -/
theorem ck_of {x : Str} {st : Stmt} {N ps : List Str} {k : Nat} {sp : Sp} (D : Dn K mg x st) (c : ∀ (f : Addr) (fd : FuncData), Fun K x x st f fd → FnOk P w K mg base CX0 k f fd ps sp) (n : Nat) (ks : List Str) (g : {α : Type} → List α → List α → List α)
    (hg : ∀ {vs : List V} {us : List Value} {zs : List V} {ws : List Value}, Vals vs us → Vals zs ws → Vals (g vs zs) (g us ws))
    (h : ∀ (kV doc pm : Value) (an : Option Addr) (cdv ct : Value) (us ws : List Value), us.length = n → ws.length = ks.length →
      bindArgs (PySem.W.fnOf x x (defArgs st) (defBody st) (defScope st) .none kV doc pm an cdv ct) ⟨us, ks.zip ws⟩ = pure (ps.zip (g us ws))) : Ck P w K mg base k x n ks g sp := by
  obtain ⟨f, fd, F, hm⟩ := D.ex
  have Fn := c f fd F
  obtain ⟨oc, od, kV, doc, pm, an, cdv, ct, osl, rfl, lk, hcd⟩ := id F.ex
  exact ⟨f, _, ps, g, Fn, hm, F.kp, ⟨fun s us ws X l1 l2 => .of_eq (h kV doc pm an cdv ct us ws l1 l2), hg⟩⟩
end
def tCd (sp : Sp) (dvs : List V) (t : TA) : TE := fun σ H Q => t σ H fun vs H1 => sp (vs ++ dvs) H1 Q E0
def tCk (n m : Nat) (sp : Sp) (g : List V → List V → List V) (t tk : TA) : TE := fun σ H Q => t σ H fun vs H1 => tk σ H1 fun zs H2 => vs.length = n ∧ zs.length = m ∧ sp (g vs zs) H2 Q E0
section
variable {X : Cx} {k j n : Nat} {x : Str} {sp : Sp} {p pos : Pos} {e : Expr} {es : List Expr} {t tk : TA} {dvs : List V} {ks : List Str} {gV : List V → List V → List V} {kws : List Keyword}
theorem pe_cd (c : Cd X.prog X.w X.K X.mg X.base k x dvs sp) (hr : Room j X.A) (hk : k ≤ j) (hg : Gl X x) (ha : PA X (e :: es) t)
    (d : (x == ("__debug__" : Str)) = false := by decide) (h1 : starEach (e :: es) X.env = (false, eval e X.env) :: starEach es X.env := by rfl) (h2 : (backTo pos (starEach es X.env)).any (·.1) = false := by rfl) :
    PE X (.Call (.Name x p) (e :: es) [] pos) (tCd sp dvs t) := by
  obtain ⟨f, fd, ps, ds, F, hm, kp, b, v⟩ := c.ex
  exact pe_call (pos := pos) F (hr.mono hk) hg hm kp b v (E := E0) pass0 ha d h1 h2 (p := p)
theorem pe_ck (c : Ck X.prog X.w X.K X.mg X.base k x n ks gV sp) (hr : Room j X.A) (hk : k ≤ j) (hg : Gl X x) (ha : PA X (e :: es) t) (hkw : PK X kws tk)
    (h1 : (backToKw pos (keywordEach kws X.env)).all (·.1.isSome) = true := by rfl) (h2 : (backToKw pos (keywordEach kws X.env)).filterMap (·.1) = ks := by rfl)
    (d : (x == ("__debug__" : Str)) = false := by decide) (h3 : starEach (e :: es) X.env = (false, eval e X.env) :: starEach es X.env := by rfl)
    (h4 : ((backTo pos (starEach (e :: es) X.env)).any (·.1) || (backToKw pos (keywordEach kws X.env)).any (·.1.isNone)) = false := by rfl) :
    PE X (.Call (.Name x p) (e :: es) kws pos) (tCk n ks.length sp gV t tk) := by
  obtain ⟨f, fd, ps, g, F, hm, kp, b⟩ := c.ex
  exact pe_callN (pos := pos) F (hr.mono hk) hg hm kp b (E := E0) pass0 ha hkw h1 h2 d h3 h4 (p := p)
theorem pe_ck0 (c : Ck X.prog X.w X.K X.mg X.base k x 0 ks gV sp) (hr : Room j X.A) (hk : k ≤ j) (hg : Gl X x) (hkw : PK X kws tk)
    (h1 : (backToKw pos (keywordEach kws X.env)).all (·.1.isSome) = true := by rfl) (h2 : (backToKw pos (keywordEach kws X.env)).filterMap (·.1) = ks := by rfl)
    (d : (x == ("__debug__" : Str)) = false := by decide) (h4 : (backToKw pos (keywordEach kws X.env)).any (·.1.isNone) = false := by rfl) :
    PE X (.Call (.Name x p) [] kws pos) (tCk 0 ks.length sp gV tNil tk) := by
  obtain ⟨f, fd, ps, g, F, hm, kp, b⟩ := c.ex
  refine ⟨fun pins s σ H Q I q => ?_⟩
  refine wpAny_Call_Name_kw (ld_glob I hg hm ?_ d)
  refine PySem.W.callWith_KW0 (h₀ := X.base) I.ok.mod.kin kp h1 (thn (hkw.run pos pins s σ H _ I q) fun ws s2 ⟨zs, H2, I2, rz, l1, l2, q2⟩ => ⟨I2.kIn, ?_⟩) h4
  rw [h2]
  exact run_fnN F (hr.mono hk) b (E := E0) pass0 I2 .nil rz l1 l2 q2
end

/-! ### heaps: all stays but at S -/
def But (S : Addr → Prop) (H H' : Hp) : Prop := ∀ b o, ¬ S b → H b = some o → H' b = some o
theorem But.refl {S : Addr → Prop} (H : Hp) : But S H H := fun _ _ _ h => h
theorem But.trans {S : Addr → Prop} {H H1 H2 : Hp} (a : But S H H1) (b : But S H1 H2) : But S H H2 := fun c o n h => b c o n (a c o n h)
theorem But.of {S : Addr → Prop} {H H1 : Hp} (a : Same H H1) : But S H H1 := fun c o _ h => a c o h
theorem But.new {S : Addr → Prop} {H : Hp} {p : Addr} {o : HO} (h : H p = none) : But S H (upd H p o) := fun b u _ e => by
  rw [upd_ne (ne_of_none e h)]
  exact e
theorem But.at {S : Addr → Prop} {H H1 : Hp} {p : Addr} {o : HO} (a : But S H H1) (h : S p ∨ H p = none) : But S H (upd H1 p o) := fun b u n e => by
  rw [upd_ne (fun z => by
    subst z
    rcases h with h | h
    · exact n h
    · rw [e] at h
      cases h)]
  exact a b u n e
theorem But.sql {S : Addr → Prop} {K : PySem.W.Frag} {H H' : Hp} {a : Addr} {xs : List V} (e : But S H H') (n : ¬ S a) (h : SqL K H a xs) : SqL K H' a xs := by
  rcases h with (h | ⟨o, h⟩) | h
  · exact .inl (.inl (e _ _ n h))
  · exact .inl (.inr ⟨o, e _ _ n h⟩)
  · exact .inr h
theorem But.sqt {S : Addr → Prop} {K : PySem.W.Frag} {H H' : Hp} {a : Addr} {xs : List V} (e : But S H H') (n : ¬ S a) (h : SqT K H a xs) : SqT K H' a xs := by
  rcases h with (h | ⟨o, h⟩) | h
  · exact .inl (.inl (e _ _ n h))
  · exact .inl (.inr ⟨o, e _ _ n h⟩)
  · exact .inr h
theorem But.free {S : Addr → Prop} {H H' : Hp} (e : But S H H') {l : Addr} (n : ¬ S l) (h : H' l = none) : H l = none := by
  cases q : H l with
  | none => rfl
  | some o =>
    rw [e l o n q] at h
    cases h
theorem But.mono {S S' : Addr → Prop} {H H' : Hp} (e : But S H H') (h : ∀ a, S a → S' a) : But S' H H' := fun b o n q => e b o (fun z => n (h b z)) q
theorem same_new {H : Hp} {p : Addr} {o : HO} (h : H p = none) : Same H (upd H p o) := fun b x e => by
  rw [upd_ne (ne_of_none e h)]
  exact e
theorem some_inj {v w : V} : (some (some v) = some (some w)) = (v = w) := by simp
theorem sz_of {n : Nat} (h : n ≤ 100000) : n ≤ sizeLine := Nat.le_trans h (by decide)
theorem sz_lt {n : Nat} (h : n < 100000) : n < sizeLine := Nat.lt_of_lt_of_le h (by decide)

/-! ### a reading, laid open -/
theorem cmul_r {i j : Int} (h1 : -(2 ^ 64) < j) (h2 : j < 2 ^ 64) : CMul i j ↔ True := ⟨fun _ => trivial, fun _ => .inr ⟨h1, h2⟩⟩
theorem cdiv_ok {i j : Int} (h1 : 0 < j) (h2 : j < 2 ^ 64) : CDivW i j := wide_div (b := 64) h1 (by omega) (by decide) (by decide)
theorem cdiv_l {i j : Int} (h1 : 0 < j) (h2 : j < 2 ^ 64) : CDivW i j ↔ True := ⟨fun _ => trivial, fun _ => cdiv_ok h1 h2⟩
theorem cpow_l {i j : Int} (h1 : 0 ≤ j) (h2 : j ≤ 1000000) (h3 : i.natAbs < 2 ^ 64) : CPow i j ↔ True := ⟨fun _ => trivial, fun _ => ⟨h1, h2, h3⟩⟩
theorem scal_ii {i j : Int} : (scal (.int i) (.int j) = true) ↔ True := ⟨fun _ => trivial, fun _ => rfl⟩
theorem scal_bb {i j : Bool} : (scal (.bl i) (.bl j) = true) ↔ True := ⟨fun _ => trivial, fun _ => rfl⟩
theorem scal_ss {i j : Str} : (scal (.str i) (.str j) = true) ↔ True := ⟨fun _ => trivial, fun _ => rfl⟩
theorem callr_imp {X : Cx} {f : Value} {r r' : List V → Hp → VK → Prop} (c : CallR X f r) (h : ∀ xs H Q, r' xs H Q → r xs H Q) : CallR X f r' := fun pins s σ H xs us Q I rv q => c pins s σ H xs us Q I rv (h xs H Q q)
/-- int(n) of an int -/
def rIntI : List V → Hp → VK → Prop := fun xs H Q => ∃ i, xs = [.int i] ∧ Q (.int i) H
theorem call_intI {X : Cx} : CallR X (.type "int") rIntI := callr_imp call_int1 fun _ _ _ ⟨i, e, q⟩ => .inl ⟨i, e, q⟩
/-- the items of a tracked list or tuple -/
def seqAt : Option HO → Option (List V)
  | some (.lst xs) => some xs
  | some (.tup xs) => some xs
  | _ => none
theorem seqAt_lst {xs : List V} : seqAt (some (.lst xs)) = some xs := rfl
theorem seqAt_tup {xs : List V} : seqAt (some (.tup xs)) = some xs := rfl
theorem seq_or {K : PySem.W.Frag} {H : Hp} {p : Addr} {xs : List V} (h : seqAt (H p) = some xs) : SqL K H p xs ∨ SqT K H p xs := by
  cases e : H p with
  | none =>
    rw [e] at h
    cases h
  | some o =>
    rw [e] at h
    cases o with
    | lst ys =>
      cases h
      exact .inl (SqL.of e)
    | tup ys =>
      cases h
      exact .inr (SqT.of e)
    | _ => cases h
theorem seq_some {H : Hp} {p : Addr} {xs : List V} (h : seqAt (H p) = some xs) : ∃ o, H p = some o ∧ seqAt (some o) = some xs := by
  cases e : H p with
  | none =>
    rw [e] at h
    cases h
  | some o =>
    rw [e] at h
    exact ⟨o, rfl, h⟩
theorem But.seqAt {S : Addr → Prop} {H H' : Hp} {p : Addr} {xs : List V} (b : But S H H') (n : ¬ S p) (h : seqAt (H p) = some xs) : seqAt (H' p) = some xs := by
  obtain ⟨o, e, h'⟩ := seq_some h
  rw [b p o n e]
  exact h'
theorem same_seq {H H' : Hp} {p : Addr} {xs : List V} (b : Same H H') (h : seqAt (H p) = some xs) : seqAt (H' p) = some xs := by
  obtain ⟨o, e, h'⟩ := seq_some h
  rw [b p o e]
  exact h'
/-- len of a list, of a tuple -/
def rLenQ : List V → Hp → VK → Prop := fun xs H Q => ∃ p, xs = [.ref p] ∧ ∃ ys, seqAt (H p) = some ys ∧ Q (.int ys.length) H
theorem call_lenQ {X : Cx} : CallR X (.builtin "len") rLenQ := callr_imp call_len_seq fun _ _ _ ⟨p, e, ys, h, q⟩ => ⟨p, ys, e, seq_or h, q⟩
/-- len of a text -/
def rLenS : List V → Hp → VK → Prop := fun xs H Q => ∃ z, xs = [.str z] ∧ z.length ≤ sizeLine ∧ Q (.int z.length) H
theorem call_lenS {X : Cx} : CallR X (.builtin "len") rLenS := callr_imp call_len_str fun _ _ _ ⟨z, e, h, q⟩ => ⟨z, e, h, q⟩
/-- list(xs), tuple(xs) -/
def rListQ : List V → Hp → VK → Prop := fun xs H Q => ∃ p, xs = [.ref p] ∧ ∃ ys, seqAt (H p) = some ys ∧ ∀ l, H l = none → Q (.ref l) (upd H l (.lst ys))
theorem call_listQ {X : Cx} : CallR X (.type "list") rListQ := callr_imp call_list_of fun _ _ _ ⟨p, e, ys, h, q⟩ => ⟨p, ys, e, seq_or h, q⟩
def rListF (K : PySem.W.Frag) : List V → Hp → VK → Prop := fun xs H Q => ∃ p, xs = [.ref p] ∧ ∃ ys, SqL K H p ys ∧ ∀ l, H l = none → Q (.ref l) (upd H l (.lst ys))
theorem call_listF {X : Cx} : CallR X (.type "list") (rListF X.K) := callr_imp call_list_of fun _ _ _ ⟨p, e, ys, h, q⟩ => ⟨p, ys, e, .inl h, q⟩
def rTupL : List V → Hp → VK → Prop := fun xs H Q => ∃ p, xs = [.ref p] ∧ ∃ ys, H p = some (.lst ys) ∧ ∀ l, H l = none → Q (.ref l) (upd H l (.tup ys))
theorem call_tupL {X : Cx} : CallR X (.type "tuple") rTupL := callr_imp call_tuple_of fun _ _ _ ⟨p, e, ys, h, q⟩ => ⟨p, ys, e, .inl ⟨SqL.of h, q⟩⟩
/-- tuple(xs) of either: a new tuple, or itself -/
def rTupQ : List V → Hp → VK → Prop := fun xs H Q => ∃ p, xs = [.ref p] ∧ ∃ ys, (H p = some (.lst ys) ∧ ∀ l, H l = none → Q (.ref l) (upd H l (.tup ys))) ∨ (H p = some (.tup ys) ∧ Q (.ref p) H)
theorem call_tupQ {X : Cx} : CallR X (.type "tuple") rTupQ := callr_imp call_tuple_of fun _ _ _ ⟨p, e, ys, h⟩ => ⟨p, ys, e, h.elim (fun h => .inl ⟨SqL.of h.1, h.2⟩) fun h => .inr ⟨SqT.of h.1, h.2⟩⟩
/-- xs[i], by the object and the place -/
def rAtQ : R2 := fun x y H Q => ∃ p, x = .ref p ∧ ∃ i, y = .int i ∧ ∃ xs, seqAt (H p) = some xs ∧ ∃ v, atI xs i = some v ∧ Q v H
theorem ixr_imp {X : Cx} {r r' : R2} (c : IxR X r) (h : ∀ x y H Q, r' x y H Q → r x y H Q) : IxR X r' := fun value slice pins s σ H x y v u Q I rx ry q e => c value slice pins s σ H x y v u Q I rx ry (h x y H Q q) e
theorem at_seq {X : Cx} : IxR X rAtQ := ixr_imp ix_seq fun _ _ _ _ ⟨p, e, i, e', xs, h, v, a, q⟩ => (seq_or (K := X.K) h).elim (fun h => .inl ⟨p, xs, i, v, e, e', h, a, q⟩) fun h => .inr (.inl ⟨p, xs, i, v, e, e', h, a, q⟩)
/-- xs[i] = v -/
def rPutL : V → V → V → Hp → (Hp → Prop) → Prop := fun o i v H Q => ∃ p, o = .ref p ∧ ∃ k, i = .int k ∧ ∃ xs, H p = some (.lst xs) ∧ ∃ j, ixN xs.length k = some j ∧ Q (upd H p (.lst (xs.set j v)))
theorem put_list {X : Cx} : PSet X rPutL := fun pins s σ H o i v ov iv u Q I ro ri rv ⟨p, e, k, e', xs, h, j, hj, q⟩ => set_list pins s σ H o i v ov iv u Q I ro ri rv ⟨p, xs, k, j, e, e', h, hj, q⟩
theorem at_0 {α : Type} {x : α} {r : List α} : atI (x :: r) 0 = some x := atI_nat (j := 0) rfl
theorem at_1 {α : Type} {x x1 : α} {r : List α} : atI (x :: x1 :: r) 1 = some x1 := atI_nat (j := 1) rfl
theorem at_2 {α : Type} {x x1 x2 : α} {r : List α} : atI (x :: x1 :: x2 :: r) 2 = some x2 := atI_nat (j := 2) rfl
theorem at_3 {α : Type} {x x1 x2 x3 : α} {r : List α} : atI (x :: x1 :: x2 :: x3 :: r) 3 = some x3 := atI_nat (j := 3) rfl
theorem at_4 {α : Type} {x x1 x2 x3 x4 : α} {r : List α} : atI (x :: x1 :: x2 :: x3 :: x4 :: r) 4 = some x4 := atI_nat (j := 4) rfl
theorem ix_lit {n : Nat} {j : Nat} (h : j < n) : ixN n (j : Int) = some j := by
  unfold ixN
  rw [if_pos (by omega), if_pos (by omega)]
  simp
theorem ix_0 {n : Nat} (h : 0 < n) : ixN n 0 = some 0 := ix_lit h
theorem ix_1 {n : Nat} (h : 1 < n) : ixN n 1 = some 1 := ix_lit h
theorem ix_2 {n : Nat} (h : 2 < n) : ixN n 2 = some 2 := ix_lit h
theorem ix_3 {n : Nat} (h : 3 < n) : ixN n 3 = some 3 := ix_lit h
theorem ix_4 {n : Nat} (h : 4 < n) : ixN n 4 = some 4 := ix_lit h
theorem cx_K {CX : CXT} {P : Program} {w : World} {K : PySem.W.Frag} {mg : Str → Option Value} {base : Heap} {N : List Str} {q : Str} {sc : Scope} {f : Addr} {cd : Value} {A : Around} {outer : List Env} {s : Shared} {H : Hp} {E : XK} : (cxOf CX P w K mg base N q sc f cd A outer s H E).K = K := rfl
/-! ### methods of lists -/
theorem pe_imp {X : Cx} {e : Expr} {t t' : TE} (h : PE X e t) (i : ∀ σ H Q, t' σ H Q → t σ H Q) : PE X e t' := ⟨fun pins s σ H Q I q => h.run pins s σ H Q I (i σ H Q q)⟩
theorem mtr_imp {X : Cx} {id : String} {r r' : V → List V → Hp → VK → Prop} (c : MtR X id r) (h : ∀ x xs H Q, r' x xs H Q → r x xs H Q) : MtR X id r' := fun pins s σ H x xs v us Q I rx rv q => c pins s σ H x xs v us Q I rx rv (h x xs H Q q)
/-- o.m(..) of a tracked list -/
def tBL (r : V → List V → Hp → VK → Prop) (to : TE) (t : TA) : TE := fun σ H Q => to σ H fun x H1 => (∃ l, x = .ref l ∧ ∃ xs, H1 l = some (.lst xs)) ∧ t σ H1 fun vs H2 => r x vs H2 Q
def tBL0 (r : V → List V → Hp → VK → Prop) (to : TE) : TE := fun σ H Q => to σ H fun x H1 => (∃ l, x = .ref l ∧ ∃ xs, H1 l = some (.lst xs)) ∧ r x [] H1 Q
theorem tyl {K : PySem.W.Frag} {x : V} {H : Hp} (h : ∃ l, x = .ref l ∧ ∃ xs, H l = some (.lst xs)) : tyV K "list" x H := by
  obtain ⟨l, rfl, xs, h⟩ := h
  exact Or.inl ⟨rfl, _, Or.inl (Or.inl h)⟩
/-- a reading, closed upwards -/
def tUp (t : TE) : TE := fun σ H Q => ∃ R : VK, t σ H R ∧ ∀ x H1, R x H1 → Q x H1
theorem pe_up {X : Cx} {e : Expr} {t : TE} (h : PE X e t) : PE X e (tUp t) := ⟨fun pins s σ H Q I ⟨R, hr, i⟩ => thn (h.run pins s σ H R I hr) fun u s1 ⟨x, H1, I1, r1, q⟩ => ⟨x, H1, I1, r1, i x H1 q⟩⟩
section
variable {X : Cx} {o e : Expr} {es : List Expr} {to : TE} {t : TA} {name : Str} {apos cpos : Pos} {id : String} {r : V → List V → Hp → VK → Prop}
theorem pe_ml0 (slot : Slot "list" name id) (hty : typeOf (.builtin id) = pure (.type "method_descriptor")) (hm : MtR X id r) (ho : PE X o to)
    (h1 : attributeBase o name X.env (eval o X.env) = eval o X.env := by rfl) (h2 : (apos.endLine == cpos.line) = true := by rfl) : PE X (.Call (.Attribute o name apos) [] [] cpos) (tBL0 r to) :=
  pe_imp (pe_bm0 PySem.F.plainAttrs_list slot hty hm (pe_up ho) h1 h2) fun σ H Q h => ⟨_, h, fun x H1 ⟨a, b⟩ => ⟨tyl a, b⟩⟩
theorem pe_ml (slot : Slot "list" name id) (hty : typeOf (.builtin id) = pure (.type "method_descriptor")) (hm : MtR X id r) (ho : PE X o to) (ha : PA X (e :: es) t)
    (h1 : attributeBase o name X.env (eval o X.env) = eval o X.env := by rfl)
    (h3 : ((backTo cpos (starEach (e :: es) X.env)).all (fun x => !x.1) && (backToKw cpos (keywordEach [] X.env)).all (fun x => x.1.isSome) && decide ((e :: es).length + ([] : List Keyword).length + (if ([] : List Keyword).isEmpty then 0 else 1) < 30)) = true := by rfl)
    (h2 : (apos.endLine == cpos.line) = true := by rfl) (h4 : starEach (e :: es) X.env = (false, eval e X.env) :: starEach es X.env := by rfl) (h5 : (backTo cpos (starEach es X.env)).any (·.1) = false := by rfl) :
    PE X (.Call (.Attribute o name apos) (e :: es) [] cpos) (tBL r to t) :=
  pe_imp (pe_bm PySem.F.plainAttrs_list slot hty hm (pe_up ho) ha h1 h3 h2 h4 h5) fun σ H Q h => ⟨_, h, fun x H1 ⟨a, b⟩ => ⟨tyl a, b⟩⟩
end
def rApp : V → List V → Hp → VK → Prop := fun x vs H Q => ∃ l, x = .ref l ∧ ∃ y, vs = [y] ∧ ∃ xs, H l = some (.lst xs) ∧ xs.length < sizeLine ∧ Q .non (upd H l (.lst (xs ++ [y])))
theorem mt_app {X : Cx} : MtR X "list.append" rApp := mtr_imp mt_append fun _ _ _ _ ⟨l, e, y, e', xs, h, z, q⟩ => ⟨l, xs, y, e, e', h, z, q⟩
def rPopN : V → List V → Hp → VK → Prop := fun x vs H Q => ∃ l, x = .ref l ∧ ∃ i, vs = [.int i] ∧ ∃ xs, H l = some (.lst xs) ∧ 0 ≤ i ∧ i < 2 ^ 63 ∧ ∃ y, xs[i.toNat]? = some y ∧ Q y (upd H l (.lst (xs.eraseIdx i.toNat)))
theorem mt_popN {X : Cx} : MtR X "list.pop" rPopN := mtr_imp mt_popAt fun _ _ _ _ ⟨l, e, i, e', xs, h, h0, h1, y, hy, q⟩ =>
  ⟨l, xs, i, i.toNat, y, e, e', h, by omega, h1, seqIndex_of h0 (by
    have z := (List.getElem?_eq_some_iff.mp hy).1
    omega), hy, q⟩
def rRevL : V → List V → Hp → VK → Prop := fun x vs H Q => ∃ l, x = .ref l ∧ vs = [] ∧ ∃ xs, H l = some (.lst xs) ∧ Q .non (upd H l (.lst xs.reverse))
theorem mt_revL {X : Cx} : MtR X "list.reverse" rRevL := mtr_imp mt_reverse fun _ _ _ _ ⟨l, e, e', xs, h, q⟩ => ⟨l, xs, e, e', h, q⟩
/-! ### loops -/
theorem z_forR {ta : TA} {j : Nat} {tb : TS} {D : Ends} {σ : L2.St} {H : Hp} (n : Nat) (h : ∀ Q : List V → Hp → Prop, Q [.int n] H → ta σ H Q) (hn : n < 2 ^ 62) (Pv : Nat → L2.St → Hp → Prop) (h0 : Pv 0 σ H)
    (hs : ∀ i σ' H', i < n → Pv i σ' H' → tb { D with nx := Pv (i + 1), ct := Pv (i + 1), bk := D.nx } (σ'.set j (some (.int i))) H') (hd : ∀ σ' H', Pv n σ' H' → D.nx σ' H') : tFor (iRng1 ta) (gName j) tb D σ H := by
  refine h _ ⟨n, rfl, by omega, by omega, ?_⟩
  rw [Int.toNat_natCast]
  refine for_range (lo := 0) (n := n) Pv h0 (fun i σ' H' hi p => ?_) hd
  have z := hs i σ' H' hi p
  rw [show (0 : Int) + (i : Int) = (i : Int) by omega]
  exact z
theorem z_forZ {ta : TA} {j : Nat} {tb : TS} {D : Ends} {σ : L2.St} {H : Hp} (z : Int) (h : ∀ Q : List V → Hp → Prop, Q [.int z] H → ta σ H Q) (hn : -(2 ^ 62) ≤ z ∧ z < 2 ^ 62) (Pv : Nat → L2.St → Hp → Prop) (h0 : Pv 0 σ H)
    (hs : ∀ (i : Nat) σ' H', (i : Int) < z → Pv i σ' H' → tb { D with nx := Pv (i + 1), ct := Pv (i + 1), bk := D.nx } (σ'.set j (some (.int i))) H') (hd : ∀ σ' H', Pv z.toNat σ' H' → D.nx σ' H') : tFor (iRng1 ta) (gName j) tb D σ H := by
  refine h _ ⟨z, rfl, hn.1, hn.2, ?_⟩
  refine for_range (lo := 0) (n := z.toNat) Pv h0 (fun i σ' H' hi p => ?_) hd
  have y := hs i σ' H' (by omega) p
  rw [show (0 : Int) + (i : Int) = (i : Int) by omega]
  exact y
theorem z_forL {K : PySem.W.Frag} {tl : TE} {j : Nat} {tb : TS} {D : Ends} {σ : L2.St} {H : Hp} (a : Addr) (xs : List V) (h : ∀ Q : VK, Q (.ref a) H → tl σ H Q) (hx : SqL K H a xs) (Pv : Nat → L2.St → Hp → Prop) (h0 : Pv 0 σ H)
    (hl : ∀ i σ' H', i ≤ xs.length → Pv i σ' H' → SqL K H' a xs) (hs : ∀ i x σ' H', xs[i]? = some x → Pv i σ' H' → tb { D with nx := Pv (i + 1), ct := Pv (i + 1), bk := D.nx } (σ'.set j (some x)) H') (hd : ∀ σ' H', Pv xs.length σ' H' → D.nx σ' H') :
    tFor (iList K tl) (gName j) tb D σ H := h _ ⟨a, rfl, ⟨xs, hx⟩, for_list Pv h0 hl (fun i x σ' H' e p => hs i x σ' H' e p) hd⟩
/-- over a list that is made for the walk -/
theorem z_forN {K : PySem.W.Frag} {tl : TE} {j : Nat} {tb : TS} {D : Ends} {σ : L2.St} {H : Hp} (xs : List V) (h : ∀ Q : VK, (∀ l, H l = none → Q (.ref l) (upd H l (.lst xs))) → tl σ H Q) (Pv : Addr → Nat → L2.St → Hp → Prop) (h0 : ∀ l, H l = none → Pv l 0 σ (upd H l (.lst xs)))
    (hl : ∀ l i σ' H', H l = none → Pv l i σ' H' → SqL K H' l xs) (hs : ∀ l i x σ' H', H l = none → xs[i]? = some x → Pv l i σ' H' → tb { D with nx := Pv l (i + 1), ct := Pv l (i + 1), bk := D.nx } (σ'.set j (some x)) H') (hd : ∀ l σ' H', H l = none → Pv l xs.length σ' H' → D.nx σ' H') :
    tFor (iList K tl) (gName j) tb D σ H := h _ fun l hl' => ⟨l, rfl, ⟨xs, SqL.of upd_same⟩, for_list (Pv l) (h0 l hl') (fun i σ' H' _ p => hl l i σ' H' hl' p) (fun i x σ' H' e p => hs l i x σ' H' hl' e p) (fun σ' H' p => hd l σ' H' hl' p)⟩
/-- a comprehension over range(n), all kept -/
theorem z_lcR {ta : TA} {j : Nat} {te : TE} {vs : List Nat} {σ : L2.St} {H : Hp} {Q : VK} (n : Nat) (h : ∀ Q : List V → Hp → Prop, Q [.int n] H → ta σ H Q) (hn : n < 2 ^ 62) (Pv : Addr → Nat → Hp → Prop) (h0 : ∀ D, H D = none → Pv D 0 (upd H D (.lst [])))
    (hw : wipe ((wipe σ vs).set j none) vs = wipe σ vs ∧ ∀ v, wipe ((wipe σ vs).set j (some v)) vs = wipe σ vs)
    (hs : ∀ D i H', H D = none → i < n → Pv D i H' → te ((wipe σ vs).set j (some (.int i))) H' fun y H4 => ∃ acc, H4 D = some (.lst acc) ∧ acc.length < sizeLine ∧ Pv D (i + 1) (upd H4 D (.lst (acc ++ [y])))) (hd : ∀ D H', H D = none → Pv D n H' → Q (.ref D) H') :
    tLc (iRng1 ta) (gName j) tYes te vs σ H Q := by
  refine h _ ⟨n, rfl, by omega, by omega, fun D hD => ?_⟩
  rw [Int.toNat_natCast]
  refine lc_range (lo := 0) (n := n) (Pv D) (h0 D hD) (fun i H' hi p => ?_) (fun H' p => hd D H' hD p)
  have z := hs D i H' hD hi p
  rw [show (0 : Int) + (i : Int) = (i : Int) by omega]
  exact ⟨hw.2 _, z⟩
/-- comprehensions over a list, over a tuple, all kept -/
theorem z_lcL {K : PySem.W.Frag} {tl : TE} {j : Nat} {te : TE} {vs : List Nat} {σ : L2.St} {H : Hp} {Q : VK} (a : Addr) (xs : List V) (h : ∀ Q : VK, Q (.ref a) H → tl σ H Q) (hx : SqL K H a xs) (Pv : Addr → Nat → Hp → Prop) (h0 : ∀ D, H D = none → Pv D 0 (upd H D (.lst [])))
    (hw : ∀ v, wipe ((wipe σ vs).set j (some v)) vs = wipe σ vs) (hl : ∀ D i H', H D = none → Pv D i H' → SqL K H' a xs)
    (hs : ∀ D i x H', H D = none → xs[i]? = some x → Pv D i H' → te ((wipe σ vs).set j (some x)) H' fun y H4 => ∃ acc, H4 D = some (.lst acc) ∧ acc.length < sizeLine ∧ Pv D (i + 1) (upd H4 D (.lst (acc ++ [y])))) (hd : ∀ D H', H D = none → Pv D xs.length H' → Q (.ref D) H') :
    tLc (iList K tl) (gName j) tYes te vs σ H Q :=
  h _ ⟨a, rfl, ⟨xs, hx⟩, fun D hD => lc_list (Pv D) (h0 D hD) (fun i H' _ p => hl D i H' hD p) (fun i x H' e p => ⟨hw _, hs D i x H' hD e p⟩) (fun H' p => hd D H' hD p)⟩
theorem z_lcT {K : PySem.W.Frag} {tl : TE} {j : Nat} {te : TE} {vs : List Nat} {σ : L2.St} {H : Hp} {Q : VK} (a : Addr) (xs : List V) (h : ∀ Q : VK, Q (.ref a) H → tl σ H Q) (hx : SqT K H a xs) (Pv : Addr → Nat → Hp → Prop) (h0 : ∀ D, H D = none → Pv D 0 (upd H D (.lst [])))
    (hw : ∀ v, wipe ((wipe σ vs).set j (some v)) vs = wipe σ vs) (hl : ∀ D i H', H D = none → Pv D i H' → SqT K H' a xs)
    (hs : ∀ D i x H', H D = none → xs[i]? = some x → Pv D i H' → te ((wipe σ vs).set j (some x)) H' fun y H4 => ∃ acc, H4 D = some (.lst acc) ∧ acc.length < sizeLine ∧ Pv D (i + 1) (upd H4 D (.lst (acc ++ [y])))) (hd : ∀ D H', H D = none → Pv D xs.length H' → Q (.ref D) H') :
    tLc (iTup K tl) (gName j) tYes te vs σ H Q :=
  h _ ⟨a, rfl, ⟨xs, hx⟩, fun D hD => lc_tup (Pv D) (h0 D hD) (fun i H' _ p => hl D i H' hD p) (fun i x H' e p => ⟨hw _, hs D i x H' hD e p⟩) (fun H' p => hd D H' hD p)⟩
/-! ### data: none, bools, ints, texts, lists and tuples of such, to a depth -/
inductive Dt where
  | non | bl (b : Bool) | int (i : Int) | str (x : Str) | lst (ds : List Dt) | tup (ds : List Dt)
/-- v stands for d, its lists and tuples at addresses in N, not deeper than n -/
def Rp (N : Addr → Prop) (H : Hp) : Nat → V → Dt → Prop
  | 0, _, _ => False
  | n + 1, v, d => match d with
    | .non => v = .non
    | .bl b => v = .bl b
    | .int i => v = .int i
    | .str x => v = .str x
    | .lst ds => ∃ a xs, v = .ref a ∧ N a ∧ H a = some (.lst xs) ∧ xs.length ≤ 1000 ∧ Paired (fun v d => Rp N H n v d) xs ds
    | .tup ds => ∃ a xs, v = .ref a ∧ N a ∧ H a = some (.tup xs) ∧ xs.length ≤ 1000 ∧ Paired (fun v d => Rp N H n v d) xs ds
theorem paired_imp {α β : Type} {F G : α → β → Prop} (h : ∀ a b, F a b → G a b) : ∀ {l : List α} {m : List β}, Paired F l m → Paired G l m
  | _, _, .nil => .nil
  | _, _, .cons r t => .cons (h _ _ r) (paired_imp h t)
theorem Rp.keep {N : Addr → Prop} {H H' : Hp} (k : ∀ b o, N b → H b = some o → H' b = some o) : ∀ {n : Nat} {v : V} {d : Dt}, Rp N H n v d → Rp N H' n v d
  | 0, _, _, h => h
  | n + 1, v, d, h => by
    cases d with
    | lst ds =>
      obtain ⟨a, xs, e, na, ha, l, p⟩ := h
      exact ⟨a, xs, e, na, k _ _ na ha, l, paired_imp (fun _ _ r => Rp.keep k r) p⟩
    | tup ds =>
      obtain ⟨a, xs, e, na, ha, l, p⟩ := h
      exact ⟨a, xs, e, na, k _ _ na ha, l, paired_imp (fun _ _ r => Rp.keep k r) p⟩
    | _ => exact h
theorem Rp.mono {N N' : Addr → Prop} {H : Hp} (k : ∀ b o, H b = some o → N b → N' b) : ∀ {n : Nat} {v : V} {d : Dt}, Rp N H n v d → Rp N' H n v d
  | 0, _, _, h => h
  | n + 1, v, d, h => by
    cases d with
    | lst ds =>
      obtain ⟨a, xs, e, na, ha, l, p⟩ := h
      exact ⟨a, xs, e, k _ _ ha na, ha, l, paired_imp (fun _ _ r => Rp.mono k r) p⟩
    | tup ds =>
      obtain ⟨a, xs, e, na, ha, l, p⟩ := h
      exact ⟨a, xs, e, k _ _ ha na, ha, l, paired_imp (fun _ _ r => Rp.mono k r) p⟩
    | _ => exact h
/-- not at a place that was free -/
theorem Rp.off {N : Addr → Prop} {H : Hp} {D : Addr} {n : Nat} {v : V} {d : Dt} (h : H D = none) (r : Rp N H n v d) : Rp (fun p => N p ∧ p ≠ D) H n v d := r.mono fun b o e z => ⟨z, ne_of_none e h⟩
theorem Rp.upd {N : Addr → Prop} {H : Hp} {D : Addr} {n : Nat} {v : V} {d : Dt} {o : HO} (r : Rp (fun p => N p ∧ p ≠ D) H n v d) : Rp (fun p => N p ∧ p ≠ D) (L2.upd H D o) n v d := r.keep fun b o' z e => by
  rw [upd_ne z.2]
  exact e
theorem Rp.on {N : Addr → Prop} {H : Hp} {D : Addr} {n : Nat} {v : V} {d : Dt} (r : Rp (fun p => N p ∧ p ≠ D) H n v d) : Rp N H n v d := r.mono fun _ _ _ z => z.1
theorem Rp.same {N : Addr → Prop} {H H' : Hp} {n : Nat} {v : V} {d : Dt} (r : Rp N H n v d) (e : Same H H') : Rp N H' n v d := r.keep fun b o _ h => e b o h
theorem Rp.up {N : Addr → Prop} {H : Hp} : ∀ {n : Nat} {v : V} {d : Dt}, Rp N H n v d → Rp N H (n + 1) v d
  | 0, _, _, h => h.elim
  | n + 1, v, d, h => by
    cases d with
    | lst ds =>
      obtain ⟨a, xs, e, na, ha, l, p⟩ := h
      exact ⟨a, xs, e, na, ha, l, paired_imp (fun _ _ r => Rp.up r) p⟩
    | tup ds =>
      obtain ⟨a, xs, e, na, ha, l, p⟩ := h
      exact ⟨a, xs, e, na, ha, l, paired_imp (fun _ _ r => Rp.up r) p⟩
    | _ => exact h
theorem paired_get {α β : Type} {F : α → β → Prop} : ∀ {l : List α} {m : List β} {i : Nat} {a : α}, Paired F l m → l[i]? = some a → ∃ b, m[i]? = some b ∧ F a b
  | _, _, _, _, .nil, h => by simp at h
  | _, _, 0, _, .cons r t, h => by
    cases h
    exact ⟨_, rfl, r⟩
  | _, _, i + 1, _, .cons r t, h => by
    obtain ⟨b, e, z⟩ := paired_get (i := i) t (by simpa using h)
    exact ⟨b, by simpa using e, z⟩
theorem paired_len {α β : Type} {F : α → β → Prop} : ∀ {l : List α} {m : List β}, Paired F l m → l.length = m.length
  | _, _, .nil => rfl
  | _, _, .cons _ t => congrArg Nat.succ (paired_len t)
theorem paired_snoc {α β : Type} {F : α → β → Prop} {a : α} {b : β} (r : F a b) : ∀ {l : List α} {m : List β}, Paired F l m → Paired F (l ++ [a]) (m ++ [b])
  | _, _, .nil => .cons r .nil
  | _, _, .cons r' t => .cons r' (paired_snoc r t)
theorem paired_ints {N : Addr → Prop} {H : Hp} {k : Nat} : ∀ ns : List Int, Paired (fun v d => Rp N H (k + 1) v d) (ns.map V.int) (ns.map Dt.int)
  | [] => .nil
  | n :: ns => .cons rfl (paired_ints ns)
theorem rp_ints {N : Addr → Prop} {H : Hp} {k : Nat} {p : Addr} {ns : List Int} (n : N p) (h : H p = some (.lst (ns.map V.int))) (z : ns.length ≤ 1000) : Rp N H (k + 2) (.ref p) (.lst (ns.map Dt.int)) :=
  ⟨p, _, rfl, n, h, by rw [List.length_map]; exact z, paired_ints ns⟩
/-- a def of which nothing is asked -/
theorem cl_none {P : Program} {w : World} {K : PySem.W.Frag} {mg : Str → Option Value} {base : Heap} {x : Str} {st : Stmt} {ps : List Str} {k : Nat} {sp : Sp} (D : Dn K mg x st) (b : BindO x st ps) (h : ∀ vs H Q E, ¬ sp vs H Q E) : Cl P w K mg base k x sp := by
  obtain ⟨f, fd, F, hm⟩ := D.ex
  exact ⟨f, fd, ps, ⟨fun vs H Q E z => (h _ _ _ _ z).elim, fun _ _ _ _ _ _ _ _ _ _ _ _ _ z => (h _ _ _ _ z).elim⟩, hm, F.kp, F.binds b⟩
theorem cpow_18 : CPow 10 18 ↔ True := ⟨fun _ => trivial, fun _ => ⟨by decide, by decide, by decide⟩⟩
theorem cpow_12 : CPow 10 12 ↔ True := ⟨fun _ => trivial, fun _ => ⟨by decide, by decide, by decide⟩⟩
theorem cpow_40 : CPow 10 40 ↔ True := ⟨fun _ => trivial, fun _ => ⟨by decide, by decide, by decide⟩⟩
end Z
set_option Elab.async false
set_option linter.all false
set_option maxRecDepth 100000
set_option maxHeartbeats 4000000
namespace Z
open PySem PySem.Spec PyProof.Rows L2
/-! ### sorted(t) of a tuple of ints -/
section
variable {prog : Program} {w : World} {A : Around} {E : Value → Shared → Prop} {s : Shared}
theorem tup_items {t : Addr} {vs : List Value} {Q : List Value → Shared → Prop} (ht : IsTup s.heap t vs.toArray) (hz : vs.length ≤ sizeLine)
    (k : Q vs { s with heap := (s.heap.push (seqObj "list" #[] 0)).update s.heap.objs.size (Obj.mapSeq (· ++ vs.toArray)) }) : wpAny (model prog w) A (collect (.ref t)) Q E s := by
  obtain ⟨ob, e1, e2, m, e3⟩ := id ht
  have new : (s.heap.push (seqObj "list" #[] 0)).get? s.heap.objs.size = some (seqObj "list" #[] 0) := Heap.get?_push_size _ rfl
  have e4 := Heap.get?_push_of_some (seqObj "list" #[] 0) e1
  unfold collect; refine wpAny_bind (wpAny_runValue (codeAny_builtin entry_proto_collect' ?_))
  show wpAny (model prog w) _ (do again (.builtin "list.__iadd__" ⟨[← newList [], .ref t], []⟩)) _ E s
  refine wpAny_bind (wpAny_newList (wpAny_pure ⟨Code.quiet_builtin _ (by decide +kernel), ?_⟩)); refine codeAny_builtin entry_list_iadd' ?_
  show wpAny (model prog w) _ (Builtin.List.listExtendWith (.ref s.heap.objs.size) (.ref t) (.ref s.heap.objs.size)) _ _ ⟨s.heap.push (seqObj "list" #[] 0), _, _, _, _⟩
  unfold Builtin.List.listExtendWith; refine wpAny_bind (wpAny_typeOf (T := "tuple") ⟨ob, e4, e2⟩ ?_)
  have c1 : (Value.type "tuple" == Value.type "tuple") = true := rfl
  rw [if_pos (by first | (rw [c1]; simp; done) | simp | decide)]
  refine wpAny_bind (listItems_at e4 e3 ?_)
  refine wpAny_bind (listItems_at new rfl ?_); rw [if_neg (by simp)]
  refine wpAny_bind (listUpdate_at new rfl ?_ (Nat.zero_le _) (by
    show (#[] ++ vs.toArray).size ≤ sizeLine + 1
    rw [Array.size_append, List.size_toArray]
    exact Nat.le_trans (Nat.le_of_eq (Nat.zero_add _)) (Nat.le_succ_of_le hz)))
  refine wpAny_pure ?_
  show wpAny (model prog w) A (load s.heap.objs.size >>= fun o => match o.data with
      | .seq xs _ => pure xs.toList
      | _ => unsupported "internal:collect") Q E _
  refine wpAny_bind (wpAny_load (get?_update_seq new _) ?_)
  show wpAny (model prog w) A (pure (#[] ++ vs.toArray).toList) Q E _
  have c2 : (#[] ++ vs.toArray).toList = vs := by simp
  rw [c2]; exact wpAny_pure k
open SrtO in
theorem sorted_tup {t : Addr} {vs : List Value} {ltv : Value → Value → Bool} {Q : Value → Shared → Prop} (O : Swo ltv) (ht : IsTup s.heap t vs.toArray) (hz : vs.length ≤ sizeLine)
    (hS : 2 ≤ vs.length → ∀ (h₁ : Heap) (a : Addr), SortableO prog w A.in1.in1 { s with heap := h₁ } a vs ltv)
    (k : ∀ out : List Value, Srtd ltv out → Stb ltv out vs → Q (.ref (s.heap.objs.size + 1)) { s with heap := sortedAll s.heap vs out.toArray }) : wpAny (model prog w) A (call (.builtin "sorted") [.ref t]) Q E s := by
  refine Calls.call_function_entry kind_sorted plain_sorted entry_sorted (args_sorted1 (.ref t)) ?_
  unfold Builtin.«sorted»; refine wpAny_bind (m := checkCount "sorted" 1 1 _) (wpAny_pure ?_)
  refine wpAny_bind (tup_items ht hz ?_); refine wpAny_bind (wpAny_newList ?_ hz)
  generalize hh : (s.heap.push (seqObj "list" #[] 0)).update s.heap.objs.size (Obj.mapSeq (· ++ vs.toArray)) = h1
  have sz : h1.objs.size = s.heap.objs.size + 1 := by
    rw [← hh, Heap.size_update]
    exact size_push' _ _
  have at1 : (h1.push (seqObj "list" vs.toArray 0)).get? (s.heap.objs.size + 1) = some (seqObj "list" vs.toArray 0) := by
    rw [← sz]
    exact Heap.get?_push_size _ rfl
  show wpAny _ _ _ _ _ { s with heap := h1.push (seqObj "list" vs.toArray 0) }
  rw [sz]
  refine wpAny_bind (wpAny_holding (wpAny_call_entry slot_list_sort ⟨_, at1, rfl⟩ entry_list_sort (list_sort_ord O at1 hz (fun h2 => hS h2 _ _) fun out a b => ⟨_, rfl, ?_⟩) (args_list_sort _)))
  refine wpAny_pure ⟨_, rfl, ?_⟩
  have z := k out a b
  unfold sortedAll at z
  rw [hh] at z
  exact z
end
/-- sorted(xs) of a list or tuple of ints -/
def rSortQ : List V → Hp → VK → Prop := fun vs H Q => ∃ a, vs = [V.ref a] ∧ ∃ ns : List Int, seqAt (H a) = some (ns.map V.int) ∧ ∀ (ns' : List Int) (p : Addr), ns'.Perm ns → ns'.Pairwise (· ≤ ·) → H p = none → Q (.ref p) (upd H p (.lst (ns'.map V.int)))
theorem cr_sortQ {X : Cx} : CallR X (.builtin "sorted") rSortQ := by
  intro pins s σ H vs us Q I r ⟨a, e, ns, hs, q⟩
  subst e
  rcases seq_or (K := X.K) hs with hl | ht
  · exact cr_sortedI pins s σ H _ us Q I r ⟨a, ns, rfl, hl, q⟩
  · obtain ⟨its, rv, tp, hz⟩ := I.tuple ht
    obtain ⟨u, rfl, ru⟩ := vals1 r
    cases ru
    have hi := intsAre_of rv
    refine sorted_tup SrtO.swo_int tp (by rw [← rv.length]; exact hz) (fun h2 _ _ => SrtO.ints_sortable hi h2) fun out h1 h2 => ?_
    obtain ⟨k1, k2, k3⟩ := SrtO.ints_out hi h1 h2
    obtain ⟨ep, he⟩ := PyProof.Rows.sortedAll_at s.heap its out.toArray
    have len : ((out.map SrtO.iv).map V.int).length ≤ sizeLine := by
      rw [List.length_map, k2.length_eq]
      rw [List.length_map] at hz
      exact hz
    refine ⟨.ref _, upd H (s.heap.objs.size + 1) (.lst ((out.map SrtO.iv).map V.int)), ?_, rfl, q _ _ k2 k3 (I.hok.fresh (Nat.le_succ _))⟩
    exact I.laid (t' := s.toks) (fun _ _ => PyProof.Rows.sortedAll_old) (Nat.le_succ _) ⟨len, out, ep, vals_of_ints k1, he⟩
/-- x in xs, a list or a tuple -/
def rInQ (neg : Bool) : R2 := fun x y H Q => ∃ p, y = .ref p ∧ ∃ xs, seqAt (H p) = some xs ∧ flatV x = true ∧ xs.all flatV = true ∧ Q (.bl (if neg = true then !inV x xs else inV x xs)) H
theorem op_inQ {X : Cx} : OpR X (compareOp .In) (rInQ false) := fun pins s σ H x y v u Q I rx ry ⟨p, e, xs, h, h1, h2, q⟩ => op_in_seq pins s σ H x y v u Q I rx ry ⟨p, xs, e, seq_or h, h1, h2, q⟩
theorem op_ninQ {X : Cx} : OpR X (compareOp .NotIn) (rInQ true) := fun pins s σ H x y v u Q I rx ry ⟨p, e, xs, h, h1, h2, q⟩ => op_notIn_seq pins s σ H x y v u Q I rx ry ⟨p, xs, e, seq_or h, h1, h2, q⟩
/-- a, b = a tracked list -/
def gLq (n : Nat) (t : TGs) : TG := fun v σ H Q => ∃ a, v = .ref a ∧ ∃ xs, H a = some (.lst xs) ∧ xs.length = n ∧ t xs σ H Q
theorem pg_lq {X : Cx} {es : List Expr} {k : Nat} {pos : Pos} {t : TGs} {n : Nat} (hc : X.calm = true) (h : PGs X es t) (h1 : (assignEach es X.env).length = n := by rfl) (h2 : (assignEach es X.env).findIdx? (·.1) = none := by rfl) : PG X (.Tuple es k pos) (gLq n t) :=
  ⟨fun pins s σ H v u Q I r ⟨a, e, xs, hx, hl, q⟩ => (pg_lst hc h h1 h2).run pins s σ H v u Q I r ⟨a, xs, e, SqL.of hx, hl, q⟩⟩
/-- the targets of an unpacking, one by one -/
def gC (t : TG) (u : TGs) : TGs := fun vs σ H Q => match vs with
  | [] => False
  | v :: r => t v σ H fun σ' H' => u r σ' H' Q
theorem gC_c {t : TG} {u : TGs} {v : V} {r : List V} {σ : L2.St} {H : Hp} {Q : L2.St → Hp → Prop} : gC t u (v :: r) σ H Q = t v σ H fun σ' H' => u r σ' H' Q := rfl
theorem pgs_c {X : Cx} {e : Expr} {es : List Expr} {t : TG} {u : TGs} (h1 : PG X e t) (h2 : PGs X es u) (hs : (assignEach (e :: es) X.env).map (·.2) = assign e X.env :: (assignEach es X.env).map (·.2) := by rfl) : PGs X (e :: es) (gC t u) :=
  ⟨fun pins s σ H vs us Q I r h => (pgs_cons h1 h2 hs).run pins s σ H vs us Q I r (match vs, h with | v :: r, h => ⟨v, r, rfl, h⟩)⟩
/-- a, b = a tracked tuple -/
def gTq (n : Nat) (t : TGs) : TG := fun v σ H Q => ∃ a, v = .ref a ∧ ∃ xs, H a = some (.tup xs) ∧ xs.length = n ∧ t xs σ H Q
theorem pg_tq {X : Cx} {es : List Expr} {k : Nat} {pos : Pos} {t : TGs} {n : Nat} (hc : X.calm = true) (h : PGs X es t) (h1 : (assignEach es X.env).length = n := by rfl) (h2 : (assignEach es X.env).findIdx? (·.1) = none := by rfl) : PG X (.Tuple es k pos) (gTq n t) :=
  ⟨fun pins s σ H v u Q I r ⟨a, e, xs, hx, hl, q⟩ => (pg_tup hc h h1 h2).run pins s σ H v u Q I r ⟨a, xs, e, SqT.of hx, hl, q⟩⟩
/-! ### isinstance of data against a built-in class -/
def kdO : Option HO → Option String
  | some (.lst _) => some "list"
  | some (.tup _) => some "tuple"
  | _ => none
def kd : V → Hp → Option String
  | .non, _ => some "NoneType"
  | .bl _, _ => some "bool"
  | .int _, _ => some "int"
  | .str _, _ => some "str"
  | .ref a, H => kdO (H a)
  | _, _ => none
theorem kd_ref {H : Hp} {a : Addr} : kd (.ref a) H = kdO (H a) := rfl
theorem kdO_lst {xs : List V} : kdO (some (.lst xs)) = some "list" := rfl
theorem kdO_tup {xs : List V} : kdO (some (.tup xs)) = some "tuple" := rfl
theorem kd_ty {K : PySem.W.Frag} {H : Hp} {x : V} {t : String} (h : kd x H = some t) : TyX K H x (.type t) := by
  cases x with
  | non => cases h; exact .base .non
  | bl b => cases h; exact .base (.bl b)
  | int i => cases h; exact .base (.int i)
  | str x => cases h; exact .base (.str x)
  | ref a =>
    rw [kd_ref] at h
    cases e : H a with
    | none =>
      rw [e] at h
      cases h
    | some o =>
      rw [e] at h
      cases o with
      | lst xs => cases h; exact .base (.lst e)
      | tup xs => cases h; exact .base (.tup e)
      | _ => cases h
  | _ => cases h
def rIsQ : List V → Hp → VK → Prop
  | [x, .ty c], H, Q => ∃ t, kd x H = some t ∧ ∃ b, kitB t c = some b ∧ Q (.bl b) H
  | _, _, _ => False
theorem rIsQ_c {x : V} {c : String} {H : Hp} {Q : VK} : rIsQ [x, .ty c] H Q = ∃ t, kd x H = some t ∧ ∃ b, kitB t c = some b ∧ Q (.bl b) H := rfl
theorem call_isQ {X : Cx} : CallR X (.builtin "isinstance") rIsQ := callr_imp call_isi fun xs H Q h => match xs, h with
  | [x, .ty c], ⟨t, ht, b, hb, q⟩ => ⟨x, .ty c, .type t, .type c, b, rfl, .ty c, kd_ty ht, kit_ty hb, q⟩
theorem kit_NoneType_bool : kitB "NoneType" "bool" = some false := by decide +kernel
theorem kit_NoneType_int : kitB "NoneType" "int" = some false := by decide +kernel
theorem kit_NoneType_str : kitB "NoneType" "str" = some false := by decide +kernel
theorem kit_NoneType_list : kitB "NoneType" "list" = some false := by decide +kernel
theorem kit_NoneType_tuple : kitB "NoneType" "tuple" = some false := by decide +kernel
theorem kit_bool_bool : kitB "bool" "bool" = some true := by decide +kernel
theorem kit_bool_int : kitB "bool" "int" = some true := by decide +kernel
theorem kit_bool_str : kitB "bool" "str" = some false := by decide +kernel
theorem kit_bool_list : kitB "bool" "list" = some false := by decide +kernel
theorem kit_bool_tuple : kitB "bool" "tuple" = some false := by decide +kernel
theorem kit_int_bool : kitB "int" "bool" = some false := by decide +kernel
theorem kit_int_int : kitB "int" "int" = some true := by decide +kernel
theorem kit_int_str : kitB "int" "str" = some false := by decide +kernel
theorem kit_int_list : kitB "int" "list" = some false := by decide +kernel
theorem kit_int_tuple : kitB "int" "tuple" = some false := by decide +kernel
theorem kit_str_bool : kitB "str" "bool" = some false := by decide +kernel
theorem kit_str_int : kitB "str" "int" = some false := by decide +kernel
theorem kit_str_str : kitB "str" "str" = some true := by decide +kernel
theorem kit_str_list : kitB "str" "list" = some false := by decide +kernel
theorem kit_str_tuple : kitB "str" "tuple" = some false := by decide +kernel
theorem kit_list_bool : kitB "list" "bool" = some false := by decide +kernel
theorem kit_list_int : kitB "list" "int" = some false := by decide +kernel
theorem kit_list_str : kitB "list" "str" = some false := by decide +kernel
theorem kit_list_list : kitB "list" "list" = some true := by decide +kernel
theorem kit_list_tuple : kitB "list" "tuple" = some false := by decide +kernel
theorem kit_tuple_bool : kitB "tuple" "bool" = some false := by decide +kernel
theorem kit_tuple_int : kitB "tuple" "int" = some false := by decide +kernel
theorem kit_tuple_str : kitB "tuple" "str" = some false := by decide +kernel
theorem kit_tuple_list : kitB "tuple" "list" = some false := by decide +kernel
theorem kit_tuple_tuple : kitB "tuple" "tuple" = some true := by decide +kernel
theorem kd_non {H : Hp} : kd .non H = some "NoneType" := rfl
theorem kd_bl {H : Hp} {b : Bool} : kd (.bl b) H = some "bool" := rfl
theorem kd_int {H : Hp} {i : Int} : kd (.int i) H = some "int" := rfl
theorem kd_str {H : Hp} {x : Str} : kd (.str x) H = some "str" := rfl
/-- a statement, a word, the rest -/
def tCt (t u : TS) : TS := fun D σ H => ∃ Mid : L2.St → Hp → Prop, t { D with nx := Mid } σ H ∧ ∀ σ' H', Mid σ' H' → u D σ' H'
theorem pss_ct {X : Cx} {st : Stmt} {rest : List Stmt} {t u : TS} (h1 : PS X st t) (h2 : PSs X rest u) : PSs X (st :: rest) (tCt t u) := by
  refine ⟨fun pins s σ H D I ⟨Mid, hm, hu⟩ => wpAny_execs_cons (thn (h1.run pins s σ H _ I hm) fun f s1 q => ?_)⟩
  cases f
  case next =>
    obtain ⟨σ', H', I', q'⟩ := q
    exact h2.run pins s1 σ' H' D I' (hu σ' H' q')
  all_goals exact q
/-- xs[lo:hi] of a tracked list -/
def rSlQ : V → Option Int → Option Int → Hp → VK → Prop := fun x lo hi H Q => ∃ a, x = .ref a ∧ ∃ xs, H a = some (.lst xs) ∧ ∀ p, H p = none → Q (.ref p) (upd H p (.lst (cutV xs lo hi)))
theorem sl_listQ {X : Cx} : SlR X rSlQ := fun pins s σ H x v vl vu lo hi sl Q I rx hs pl pu ⟨a, e, xs, h, q⟩ => sl_list pins s σ H x v vl vu lo hi sl Q I rx hs pl pu ⟨a, xs, e, SqL.of h, q⟩
theorem cut_lo2 {a b c d : V} : cutV [a, b, c, d] none (some 2) = [a, b] := rfl
theorem cut_hi2 {a b c d : V} : cutV [a, b, c, d] (some 2) none = [c, d] := rfl
end Z
set_option Elab.async false
set_option linter.all false
set_option maxRecDepth 100000
set_option maxHeartbeats 4000000
namespace Z
open PySem PySem.Spec PyProof.Rows L2
/-! ### texts of bounded length, all signs below 128 -/
structure Tx (n : Nat) (x : Str) : Prop where
  len : x.length ≤ n
  low : ∀ c ∈ x.cps.toList, c < 128
theorem str_len (x : Str) : x.length = x.cps.toList.length := by
  show x.cps.size = x.cps.toList.length
  rw [Array.length_toList]
theorem str_cat (x y : Str) : (x ++ y).cps.toList = x.cps.toList ++ y.cps.toList := TL.tl_append x y
theorem str_cat_len (x y : Str) : (x ++ y).length = x.length + y.length := by rw [str_len, str_cat, List.length_append, ← str_len, ← str_len]
theorem Tx.mono {n m : Nat} {x : Str} (h : Tx n x) (l : n ≤ m) : Tx m x := ⟨Nat.le_trans h.len l, h.low⟩
theorem Tx.line {n : Nat} {x : Str} (h : Tx n x) (l : n ≤ 100000) : x.length ≤ sizeLine := sz_of (Nat.le_trans h.len l)
theorem Tx.cat {n m : Nat} {x y : Str} (h : Tx n x) (k : Tx m y) : Tx (n + m) (x ++ y) := by
  refine ⟨by rw [str_cat_len]; exact Nat.add_le_add h.len k.len, fun c hc => ?_⟩
  rw [str_cat] at hc
  rcases List.mem_append.mp hc with hc | hc
  · exact h.low c hc
  · exact k.low c hc
theorem Tx.one {c : Nat} (h : c < 128) : Tx 1 ⟨#[c]⟩ := ⟨Nat.le_refl 1, fun d hd => by
  have e : d = c := by simpa using hd
  rw [e]
  exact h⟩
theorem cut_list (x : Str) (lo hi : Option Int) : (cutS x lo hi).cps.toList = (x.cps.toList.drop (HT.sIx x.length 0 lo)).take (HT.sIx x.length x.length hi - HT.sIx x.length 0 lo) := rfl
theorem Tx.cut {n : Nat} {x : Str} (h : Tx n x) (lo hi : Option Int) : Tx n (cutS x lo hi) := by
  refine ⟨?_, fun c hc => h.low c ?_⟩
  · rw [str_len, cut_list, List.length_take, List.length_drop, ← str_len]
    have := h.len
    omega
  · rw [cut_list] at hc
    exact List.mem_of_mem_drop (List.mem_of_mem_take hc)
theorem Tx.cutTo {n k : Nat} {x : Str} (h : Tx n x) : Tx k (cutS x none (some (k : Int))) := by
  refine ⟨?_, (h.cut none _).low⟩
  rw [str_len, cut_list, List.length_take, List.length_drop, HT.sIx_nat, HT.sIx_none]
  omega
theorem Tx.at {n : Nat} {x : Str} {i : Int} {c : Nat} (h : Tx n x) (e : atI x.cps.toList i = some c) : c < 128 := by
  obtain ⟨j, _, e2, _⟩ := atI_get e
  exact h.low c (List.mem_of_getElem? e2)
theorem rep_list (x : Array Nat) : ∀ (n : Nat) (a : Array Nat), ((List.replicate n x).foldl (· ++ ·) a).toList = a.toList ++ (List.replicate n x.toList).flatten
  | 0, a => by simp
  | n + 1, a => by
    rw [List.replicate_succ, List.foldl_cons, rep_list x n, List.replicate_succ, List.flatten_cons, Array.toList_append, List.append_assoc]
theorem rep_flat_len {α : Type} (l : List α) : ∀ k : Nat, (List.replicate k l).flatten.length = k * l.length
  | 0 => by simp
  | k + 1 => by rw [List.replicate_succ, List.flatten_cons, List.length_append, rep_flat_len l k, Nat.succ_mul, Nat.add_comm]
theorem Tx.mul {n k : Nat} {x : Str} (h : Tx n x) : Tx (n * k) (Txt.mul x (k : Int)) := by
  unfold Txt.mul
  split
  · exact ⟨Nat.zero_le _, fun c hc => by cases hc⟩
  · rename_i h1
    split
    · exact h.mono (Nat.le_mul_of_pos_right n (by omega))
    · have e : ((List.replicate ((k : Int).toNat) x.cps).foldl (· ++ ·) (#[] : Array Nat)).toList = (List.replicate k x.cps.toList).flatten := by
        rw [rep_list, Int.toNat_natCast]
        rfl
      refine ⟨?_, fun c hc => ?_⟩
      · rw [str_len]
        show ((List.replicate ((k : Int).toNat) x.cps).foldl (· ++ ·) (#[] : Array Nat)).toList.length ≤ _
        rw [e, rep_flat_len, ← str_len, Nat.mul_comm]
        exact Nat.mul_le_mul_right k h.len
      · have hc' : c ∈ ((List.replicate ((k : Int).toNat) x.cps).foldl (· ++ ·) (#[] : Array Nat)).toList := hc
        rw [e, List.mem_flatten] at hc'
        obtain ⟨l, hl, hc'⟩ := hc'
        rw [List.eq_of_mem_replicate hl] at hc'
        exact h.low c hc'
/-- s * n -/
def rMulS : R2 := fun x y H Q => ∃ s, x = .str s ∧ ∃ n, y = .int n ∧ 0 ≤ n ∧ n ≤ 1000 ∧ s.length ≤ 1000 ∧ Q (.str (Txt.mul s n)) H
theorem op_mulS {X : Cx} : OpR X (binaryOp .Mult) rMulS := by
  intro pins s σ H x y v u Q I rx ry ⟨z, ex, n, ey, h0, h1, hz, q⟩
  subst ex ey
  obtain ⟨t, rfl⟩ := rx
  obtain ⟨t', rfl⟩ := ry
  refine SB.mul ⟨?_, fun hn _ => ?_, fun hn _ => ?_⟩ fun t' k => ⟨.str _, H, I.tok _, ⟨_, rfl⟩, q⟩
  · rw [decide_eq_false (by omega), decide_eq_false (by omega)]
    rfl
  · have hp : (0 : Int) < n := by omega
    have e : (1000 : Int) ≤ (2 ^ 63 - 1) / n := by
      refine Int.le_ediv_of_mul_le hp ?_
      have : 1000 * n ≤ 1000 * 1000 := Int.mul_le_mul_of_nonneg_left h1 (by decide)
      omega
    omega
  · have e : z.length * n.toNat ≤ 1000 * 1000 := Nat.mul_le_mul hz (by omega)
    unfold Builtin.Str.tooLong
    exact decide_eq_false (by have : (1000 * 1000 : Nat) ≤ sizeLine := by decide
                              omega)
/-- sep.join(a tracked list of texts) -/
def tJn (to te : TE) : TE := fun σ H Q => to σ H fun x H1 => ∃ a, x = .str a ∧ te σ H1 fun y H2 => ∃ p, y = .ref p ∧ ∃ ys : List Str, H2 p = some (.lst (ys.map V.str)) ∧ (ys.map (·.length)).sum + ys.length * a.length ≤ 16777216 ∧ Q (.str (Txt.join a ys)) H2
theorem pe_jn {X : Cx} {o e : Expr} {to te : TE} {apos pos : Pos} (ho : PE X o to) (he : PE X e te) (h1 : starEach [e] X.env = [(false, eval e X.env)] := by rfl) (h2 : attributeBase o "join" X.env (eval o X.env) = eval o X.env := by rfl) (h3 : (apos.endLine == pos.line) = true := by rfl) :
    PE X (.Call (.Attribute o "join" apos) [e] [] pos) (tJn to te) :=
  pe_imp (pe_join (pe_up ho) (pe_up he) h1 h2 h3) fun σ H Q h => ⟨_, h, fun x H1 ⟨a, ex, q⟩ => ⟨⟨a, ex⟩, _, q, fun y H2 ⟨p, ey, ys, hp, hz, q⟩ => ⟨a, p, ys, ex, by rw [ey], .inl (SqL.of hp), hz, q⟩⟩⟩
theorem joinL_nil : ∀ l : List (List Nat), TL.joinL [] l = l.flatten
  | [] => rfl
  | [p] => by show p = (p :: []).flatten; simp
  | p :: q :: r => by
    show p ++ ([] ++ TL.joinL [] (q :: r)) = (p :: q :: r).flatten
    rw [joinL_nil (q :: r), List.nil_append]
    rfl
theorem Tx.join {n : Nat} : ∀ {ys : List Str}, (∀ y ∈ ys, Tx n y) → Tx (n * ys.length) (Txt.join (Str.ofString "") ys) := fun {ys} h => by
  have e : (Txt.join (Str.ofString "") ys).cps.toList = (ys.map fun y => y.cps.toList).flatten := by
    have z : TL.tl (Txt.join (Str.ofString "") ys) = TL.joinL [] (ys.map TL.tl) := by
      rw [TL.join_eq, TL.tl_join]
      rfl
    rw [joinL_nil] at z
    exact z
  refine ⟨?_, fun c hc => ?_⟩
  · rw [str_len, e]
    clear e
    induction ys with
    | nil => exact Nat.zero_le _
    | cons y ys ih =>
      have := ih fun z hz => h z (List.mem_cons_of_mem _ hz)
      have h1 := (h y List.mem_cons_self).len
      rw [str_len] at h1
      rw [List.map_cons, List.flatten_cons, List.length_append, List.length_cons, Nat.mul_succ]
      omega
  · rw [e, List.mem_flatten] at hc
    obtain ⟨l, hl, hc⟩ := hc
    obtain ⟨y, hy, rfl⟩ := List.mem_map.mp hl
    exact (h y hy).low c hc
/-- s[i], s[lo:hi] -/
def rAtX : R2 := fun x y H Q => ∃ z, x = .str z ∧ ∃ i, y = .int i ∧ z.length ≤ sizeLine ∧ ∃ c, atI z.cps.toList i = some c ∧ Q (.str ⟨#[c]⟩) H
theorem at_str {X : Cx} : IxR X rAtX := ixr_imp ix_str fun _ _ _ _ ⟨z, e, i, e', h, c, a, q⟩ => ⟨z, i, c, e, e', h, a, q⟩
/-- signs of a text, one by one -/
theorem z_forS {tl : TE} {j : Nat} {tb : TS} {D : Ends} {σ : L2.St} {H : Hp} (x : Str) (h : ∀ Q : VK, Q (.str x) H → tl σ H Q) (Pv : Nat → L2.St → Hp → Prop) (h0 : Pv 0 σ H)
    (hs : ∀ i c σ' H', x.cps[i]? = some c → Pv i σ' H' → tb { D with nx := Pv (i + 1), ct := Pv (i + 1), bk := D.nx } (σ'.set j (some (.str ⟨#[c]⟩))) H') (hd : ∀ σ' H', Pv x.cps.size σ' H' → D.nx σ' H') : tFor (iStr tl) (gName j) tb D σ H := by
  refine h _ ⟨x, rfl, fun i m σ' H' => m = x.cps.size - i ∧ i ≤ x.cps.size ∧ Pv i σ' H', ⟨_, rfl, Nat.zero_le _, h0⟩, ?_⟩
  rintro i m σ' H' ⟨rfl, hi, p⟩
  by_cases hl : i < x.cps.size
  · refine .inr ⟨hl, Pv (i + 1), fun σ2 H2 p2 => ⟨_, by omega, rfl, hl, p2⟩, fun y H2 hy => ?_⟩
    obtain ⟨rfl, c, e, rfl⟩ := hy
    exact hs i c σ' _ e p
  · have e : i = x.cps.size := by omega
    subst e
    exact .inl ⟨Nat.le_refl _, hd σ' H' p⟩
theorem z_lcS {tl : TE} {j : Nat} {te : TE} {vs : List Nat} {σ : L2.St} {H : Hp} {Q : VK} (x : Str) (h : ∀ Q : VK, Q (.str x) H → tl σ H Q) (Pv : Addr → Nat → Hp → Prop) (h0 : ∀ D, H D = none → Pv D 0 (upd H D (.lst [])))
    (hw : ∀ v, wipe ((wipe σ vs).set j (some v)) vs = wipe σ vs)
    (hs : ∀ D i c H', H D = none → x.cps[i]? = some c → Pv D i H' → te ((wipe σ vs).set j (some (.str ⟨#[c]⟩))) H' fun y H4 => ∃ acc, H4 D = some (.lst acc) ∧ acc.length < sizeLine ∧ Pv D (i + 1) (upd H4 D (.lst (acc ++ [y])))) (hd : ∀ D H', H D = none → Pv D x.cps.size H' → Q (.ref D) H') :
    tLc (iStr tl) (gName j) tYes te vs σ H Q := by
  refine h _ ⟨x, rfl, fun D hD => ⟨fun i m H' => m = x.cps.size - i ∧ i ≤ x.cps.size ∧ Pv D i H', ⟨_, rfl, Nat.zero_le _, h0 D hD⟩, ?_⟩⟩
  rintro i m H' ⟨rfl, hi, p⟩
  by_cases hl : i < x.cps.size
  · refine .inr ⟨hl, Pv D (i + 1), fun H2 p2 => ⟨_, by omega, rfl, hl, p2⟩, fun y H2 hy => ?_⟩
    obtain ⟨rfl, c, e, rfl⟩ := hy
    exact ⟨hw _, hs D i c _ hD e p⟩
  · have e : i = x.cps.size := by omega
    subst e
    exact .inl ⟨Nat.le_refl _, hd D H' hD p⟩
/-! ### a range whose end is reckoned on the way -/
def tKI (n : Nat) : TA := fun _ H Q => Q [.int n] H
theorem lcE {ta : TA} {g : TG} {tt : TT} {te : TE} {vs : List Nat} {σ : L2.St} {H : Hp} {Q : VK} (R : Nat → Hp → Prop) (h : ∀ X : List V → Hp → Prop, (∀ (n : Nat) H1, R n H1 → X [.int n] H1) → ta σ H X)
    (k : ∀ (n : Nat) H1, R n H1 → tLc (iRng1 (tKI n)) g tt te vs σ H1 Q) : tLc (iRng1 ta) g tt te vs σ H Q := h _ fun n H1 r => k n H1 r
theorem forE {ta : TA} {g : TG} {tb : TS} {D : Ends} {σ : L2.St} {H : Hp} (R : Nat → Hp → Prop) (h : ∀ X : List V → Hp → Prop, (∀ (n : Nat) H1, R n H1 → X [.int n] H1) → ta σ H X)
    (k : ∀ (n : Nat) H1, R n H1 → tFor (iRng1 (tKI n)) g tb D σ H1) : tFor (iRng1 ta) g tb D σ H := h _ fun n H1 r => k n H1 r
theorem atI_some {α : Type} {xs : List α} {d : Int} (h0 : 0 ≤ d) (h1 : d < xs.length) : ∃ c, atI xs d = some c := by
  refine ⟨xs[d.toNat]'(by omega), ?_⟩
  have z := atI_nat (xs := xs) (j := d.toNat) (v := xs[d.toNat]'(by omega)) (List.getElem?_eq_getElem _)
  rw [show ((d.toNat : Nat) : Int) = d by omega] at z
  exact z
theorem Tx.lit {s : Str} {n : Nat} (h : (decide (s.length ≤ n) && s.cps.toList.all (fun c => decide (c < 128))) = true) : Tx n s :=
  ⟨of_decide_eq_true (Bool.and_eq_true_iff.mp h).1, fun c hc => of_decide_eq_true (List.all_eq_true.mp (Bool.and_eq_true_iff.mp h).2 c hc)⟩
end Z
set_option Elab.async false
set_option linter.all false
set_option maxRecDepth 100000
set_option maxHeartbeats 4000000
namespace Z
open PySem PySem.Spec PyProof.Rows L2 L2H
/-! ### a def that is handed the exception which its caller handles -/
structure FnE (P : Program) (w : World) (K : PySem.W.Frag) (mg : Str → Option Value) (base : Heap) (k : Nat) (f : Addr) (fd : FuncData) (ps : List Str) (sp : Addr → Value → Option Addr → Sp) : Prop where
  len : ∀ a cls d vs H Q E, sp a cls d vs H Q E → vs.length = ps.length
  run : ∀ (A : Around) (outer : List Env) (s : Shared) (H : Hp) (args : Args) (us : List Value) (vs : List V) (Q : VK) (E : XK) (p : Addr × Obj) (cls : Value) (d : Option Addr), RoomH k A → PinOk outer H s p → Zc cls d p.2 → (∃ vs, p.2.data = .fields vs) → Env0 P w K mg base A outer s H → BindsTo s fd args (ps.zip us) → Vals vs us → sp p.1 cls d vs H Q E →
    codeAny (model P w) A (.call (.ref f) args) (CR CX0 outer P w H s Q E) s
structure Ce (P : Program) (w : World) (K : PySem.W.Frag) (mg : Str → Option Value) (base : Heap) (k : Nat) (x : Str) (sp : Addr → Value → Option Addr → Sp) : Prop where
  ex : ∃ (f : Addr) (fd : FuncData) (ps : List Str), FnE P w K mg base k f fd ps sp ∧ mg x = some (.ref f) ∧ PySem.W.keepIn K (.ref f) = true ∧ Binds K fd ps []
section
variable {P : Program} {w : World} {K : PySem.W.Frag} {mg : Str → Option Value} {base : Heap}
theorem ce_of {x : Str} {st : Stmt} {N ps : List Str} {k : Nat} {sp : Addr → Value → Option Addr → Sp} (D : Dn K mg x st) (S : FnScope N ps (defScope st)) (b : BindO x st ps) (len : ∀ a cls d vs H Q E, sp a cls d vs H Q E → vs.length = ps.length)
    (hbody : ∀ (f : Addr) (cdv : Value) (A : Around) (outer : List Env) (s : Shared) (H : Hp) (vs : List V) (Q : VK) (E : XK) (a : Addr) (oe : Obj) (cls : Value) (d : Option Addr), RoomH k (A.deeper (envOfC x (defScope st) s.heap.objs.size f cdv)) → Zc cls d oe → (∃ vs, oe.data = .fields vs) → sp a cls d vs H Q E →
      ∃ t, PSs (cxH CX0 P w K mg base N x (defScope st) f cdv A outer s H E (a, oe)) (defBody st) t ∧ t { nx := fun _ H' => Q .non H', rt := Q } (L2.start N vs) H) : Ce P w K mg base (k + 1) x sp := by
  obtain ⟨f, fd, F, hm⟩ := D.ex
  obtain ⟨oc, od, kV, doc, pm, an, cdv, ct, osl, rfl, lk, hcd⟩ := id F.ex
  refine ⟨f, _, ps, ⟨len, fun A outer s H args us vs Q E p cls d hr hpin hz hf e0 hb r hsp => ?_⟩, hm, F.kp, F.binds b⟩
  have hl := len _ _ _ _ _ _ _ hsp
  have KX : K.In s.heap := e0.mod.kin.keeps fun b o e => (e0.bs b o e).1
  have lim : s.heap.NoLimit := e0.mod.nolimit.keeps fun b o e => (e0.bs b o e).1
  have hkind : ∀ y ∈ ps.zip us, (defScope st).names.lookup y.1 = some .local ∨ ((defScope st).names.lookup y.1 = some .cell ∧ ((cellsFrom (s.heap.objs.size + 1) (defScope st).names []).lookup y.1).isSome = true) := fun ⟨n, v⟩ hy => by
    rcases S.par n (List.of_mem_zip hy).1 with q | q
    · exact .inl q
    · exact .inr ⟨q, PySem.W.cellsFrom_some _ _ _ (.inl q)⟩
  refine codeAny_call_function hr.depth (KX _ _ lk) rfl S.co S.gen rfl (PySem.W.codeRec_of KX hcd) (hb _ _ _ _ ?_)
  refine wpAny_newFunctionEnv_cells S.kind hkind fun env he s1 x' => ?_
  subst he
  refine ⟨lim.keeps x'.toInCall.keep, codeAny_func ?_⟩
  obtain ⟨t, ht, hq⟩ := hbody f cdv A outer s H vs Q E p.1 p.2 cls d (hr.deeper _) hz hf hsp
  have I : Inv (cxH CX0 P w K mg base N x (defScope st) f cdv A outer s H E p) [] (L2.start N vs) H s1 := inv_startH S hpin e0 hl r x'
  refine wpAny_mono (ht.run [] s1 (L2.start N vs) H _ I hq) (fun fl s' hs => ?_) fun e s' hs => hs
  have fin : ∀ {σ' : L2.St} {H' : Hp} {v : V} {u : Value}, Inv (cxH CX0 P w K mg base N x (defScope st) f cdv A outer s H E p) [] σ' H' s' → RelV v u → Q v H' → CE outer P w H s Q u s' :=
    fun {σ' H' v u} J rv q => ⟨v, H', J.os, J.bare, J.base, J.hok, rv, q⟩
  cases fl with
  | ret u =>
    obtain ⟨v, σ', H', J, rv, q⟩ := hs
    exact fin J rv q
  | next =>
    obtain ⟨σ', H', J, q⟩ := hs
    exact fin (v := V.non) (u := Value.none) J rfl q
  | brk =>
    obtain ⟨_, _, _, q⟩ := hs
    exact False.elim q
  | cont =>
    obtain ⟨_, _, _, q⟩ := hs
    exact False.elim q
end
def tCe (a : Addr) (cls : Value) (d : Option Addr) (sp : Addr → Value → Option Addr → Sp) (t : TA) : TE := fun σ H Q => t σ H fun vs H1 => sp a cls d vs H1 Q E0
section
variable {X : Cx} {k j : Nat} {x : Str} {sp : Addr → Value → Option Addr → Sp} {p pos : Pos} {e : Expr} {es : List Expr} {t : TA}
theorem pe_ce {a : Addr} {oe : Obj} {cls : Value} {dx : Option Addr} (c : Ce X.prog X.w X.K X.mg X.base k x sp) (hp : (a, oe) ∈ X.pn) (hz : Zc cls dx oe) (hf : ∃ vs, oe.data = .fields vs) (hr : RoomH j X.A) (hk : k ≤ j) (hg : Gl X x) (ha : PA X (e :: es) t)
    (d : (x == ("__debug__" : Str)) = false := by decide) (h1 : starEach (e :: es) X.env = (false, eval e X.env) :: starEach es X.env := by rfl) (h2 : (backTo pos (starEach es X.env)).any (·.1) = false := by rfl) :
    PE X (.Call (.Name x p) (e :: es) [] pos) (tCe a cls dx sp t) := by
  obtain ⟨f, fd, ps, F, hm, kp, b⟩ := c.ex
  refine ⟨fun pins s σ H Q I h => ?_⟩
  refine wpAny_Call_Name_kw (ld_glob I hg hm ?_ d)
  refine PySem.W.callWith_K (h₀ := X.base) I.ok.mod.kin kp (thn (ha.run pos pins s σ H _ I h) fun us s1 ⟨vs, H1, I1, r, q⟩ => ⟨I1.kIn, ?_⟩) h1 h2
  have hl : us.length = ps.length := by rw [← r.length]; exact F.len _ _ _ _ _ _ _ q
  have bb := b s1 us I1.kIn (by rw [List.append_nil]; exact hl)
  rw [List.append_nil] at bb
  have P1 := I1.pin (a, oe) (List.mem_append_left _ hp)
  have hpin : PinOk X.stack H1 s1 (a, oe) := ⟨P1.1, P1.2.1, fun hm => (List.mem_cons.mp (I1.stkSub a hm)).elim P1.2.2.1 P1.2.2.2.1, P1.2.2.2.2⟩
  refine wpAny_call (codeAny_mono (F.run X.A X.stack s1 H1 ⟨us, []⟩ us vs Q E0 (a, oe) cls dx (hr.mono hk) hpin hz hf I1.env0 bb r q) fun r s' hq => ?_)
  cases r with
  | error e => exact hq.elim
  | ok fl =>
    cases fl with
    | ret u => exact I1.after hq
    | next => exact False.elim hq
    | brk => exact False.elim hq
    | cont => exact False.elim hq
end
/-! ### what is asked of the exception in hand -/
section
variable {X : Cx} {a C dd : Addr} {oe : Obj}
theorem inst_x {pins : List (Addr × Obj)} {σ : L2.St} {H : Hp} {s : Shared} {fs : List (Str × V)} (I : Inv X pins σ H s) (hp : (a, oe) ∈ X.pn) (hz : Zc (.ref C) (some dd) oe) (hf : ∃ vs, oe.data = .fields vs) (hd : H dd = some (.xd fs)) :
    ∃ (od : Obj) (mA : Str → Option Value), PySem.W.InstAt s.heap a oe C (some od) ∧ (∀ n, PySem.W.lookIn n od = some (mA n)) ∧ ∀ f, RelO (fs.lookup f) (mA f) := by
  obtain ⟨ha, _⟩ := I.pin (a, oe) (List.mem_append_left _ hp)
  obtain ⟨vs, hv⟩ := hf
  have hx : ObjOk X.prog X.w H s.heap dd (.xd fs) := I.hok dd _ hd
  obtain ⟨mA, hns, hr⟩ := hx
  obtain ⟨od, ho, hl⟩ := lookIn_ns hns
  exact ⟨od, mA, ⟨ha, hz.1, by unfold PySem.W.notCls; rw [hv] <;> rfl, by rw [hz.2]; exact ho⟩, hl, hr⟩
/-- isinstance(e, C), isinstance(e, (C, ..)) -/
def rIsX (K : PySem.W.Frag) (a C dd : Addr) : List V → Hp → VK → Prop := fun xs H Q => ∃ (fs : List (Str × V)), H dd = some (.xd fs) ∧ ∃ (c : V) (b : Bool), xs = [.ref a, c] ∧
  ((∃ cv, ClsV c cv ∧ PySem.W.kitOne K (.ref C) cv = some b) ∨ ∃ (tp : Addr) (cs : List V) (us : List Value), c = .ref tp ∧ H tp = some (.tup cs) ∧ Paired ClsV cs us ∧ PySem.W.kitAny K (.ref C) us = some b) ∧ Q (.bl b) H
theorem cr_isX (T : ExcC X.K C) (hp : (a, oe) ∈ X.pn) (hz : Zc (.ref C) (some dd) oe) (hf : ∃ vs, oe.data = .fields vs) : CallR X (.builtin "isinstance") (rIsX X.K a C dd) := by
  intro pins s σ H xs us Q I r ⟨fs, hd, c, b, e, h, q⟩
  subst e
  obtain ⟨u1, u2, rfl, r1, r2⟩ := vals2 r
  cases (show u1 = Value.ref a from r1)
  obtain ⟨od, mA, J, _, _⟩ := inst_x I hp hz hf hd
  have hcl : (PySem.W.clsIn X.K C).isSome = true := by
    obtain ⟨cd, hc, _⟩ := PySem.W.any_some T.hd
    rw [hc]
    rfl
  have Z := PySem.W.kitx_exc (K := X.K) (x := a) (C := C) (ox := oe) (od := some od) hcl T.hg T.hk T.hs T.ha T.hn T.ht T.hm
  rcases h with ⟨cv, k, e⟩ | ⟨tp, cs, ws, ec, hT, k, e⟩
  · have e2 := k.eq r2
    subst e2
    exact PySem.W.kia_one Z I.kIn J e (fun z => nomatch z) fun tk => ⟨.bl b, H, I.tok tk, rfl, q⟩
  · subst ec
    cases (show u2 = Value.ref tp from r2)
    obtain ⟨_, its, rv, o, h1, h2, n, h3⟩ := (show ObjOk X.prog X.w H s.heap tp (.tup cs) from I.hok tp _ hT)
    have e3 := ClsV.all k rv
    subst e3
    obtain ⟨oc, od', dt, sl⟩ := o
    simp only at h2 h3
    subst h2 h3
    exact PySem.W.kia_tup Z I.kIn J h1 e (fun z => nomatch z) fun tk => ⟨.bl b, H, I.tok tk, rfl, q⟩
/-- e.f -/
def tXF (a dd : Addr) (f : Str) (te : TE) : TE := fun σ H Q => te σ H fun x H1 => x = .ref a ∧ ∃ (fs : List (Str × V)), H1 dd = some (.xd fs) ∧ ∃ v : V, fs.lookup f = some v ∧ Q v H1
theorem pe_xF {e : Expr} {te : TE} {pos : Pos} {n : Str} (T : XfC X.K C) (hno : PySem.W.findIn X.K (.ref C) n = some none) (hp : (a, oe) ∈ X.pn) (hz : Zc (.ref C) (some dd) oe) (hf : ∃ vs, oe.data = .fields vs) (he : PE X e te)
    (hb : attributeBase e n X.env (eval e X.env) = eval e X.env := by rfl) : PE X (.Attribute e n pos) (tXF a dd n te) := by
  refine ⟨fun pins s σ H Q I h => ?_⟩
  refine attr_of hb (thn (he.run pins s σ H _ I h) fun u s1 hh => ?_)
  obtain ⟨x, H1, I1, rx, ex, fs, hd, v, l, q⟩ := hh
  subst ex
  obtain rfl : u = Value.ref a := rx
  obtain ⟨od, mA, J, hl, hr⟩ := inst_x I1 hp hz hf hd
  obtain ⟨u, hu, ru⟩ := RelO.some_of (v := v) (o := mA n) (by rw [← l]; exact hr n)
  exact HandSPX.exc_get I1.kIn J T.ga T.gg T.exC (PySem.W.findObj_own T.hdC hno rfl (by rw [hl, hu])) (handed_of ru) ⟨v, H1, I1.tok _, ru, q⟩
/-- B.__init__(self, ..), B an own class that has ValueError's -/
structure BaseC (K : PySem.W.Frag) (mg : Str → Option Value) (x : Str) : Prop where
  ex : ∃ (B : Addr) (mc : Value), mg x = some (.ref B) ∧ PySem.W.specialIn K (.ref B) "__getattribute__" = some (some (.builtin "type.__getattribute__")) ∧ PySem.W.readsIn K B mc = true ∧ PySem.W.findCls K (.ref B) mc "__init__" = some (.val (.builtin "ValueError.__init__"))
theorem pe_binit {x : Str} {e : Expr} {es : List Expr} {ta : TA} {p1 p2 pos : Pos} {pl : Sem Bool} (c : BaseC X.K X.mg x) (hg : Gl X x) (ha : PA X (e :: es) ta)
    (hc : eval (.Call (.Attribute (.Name x p1) "__init__" p2) (e :: es) [] pos) X.env = (do
      let ov ← eval (.Name x p1) X.env
      standAt p2.atName
      let (f, first) ← holding [ov] (getMethod ov "__init__" pl)
      callWith pos f first (backTo pos (starEach (e :: es) X.env)) (backToKw pos (keywordEach [] X.env))) := by rfl)
    (hdb : (x == ("__debug__" : Str)) = false := by decide)
    (he : starEach (e :: es) X.env = (false, eval e X.env) :: starEach es X.env := by rfl) (hpl : (backTo pos (starEach es X.env)).any (·.1) = false := by rfl) :
    PE X (.Call (.Attribute (.Name x p1) "__init__" p2) (e :: es) [] pos) (tVeI X.K ta) := by
  obtain ⟨B, mc, hm, h1, h2, h3⟩ := c.ex
  refine ⟨fun pins s σ H Q I h => ?_⟩
  refine PySem.W.methodCall_KW (ld_glob I hg hm ?_ hdb) hc
  refine PySem.W.method_cls I.kIn h1 (PySem.W.cls_value I.kIn h2 h3 (by decide +kernel) ?_)
  show wpAny _ _ (callWith pos (Value.builtin "ValueError.__init__") [] (backTo pos (starEach (e :: es) X.env)) []) _ _ _
  refine PyProof.Rows.callWith_method1 (thn (ha.run pos pins _ σ H _ (I.tok _) h) fun us s1 ⟨vs, H1, I1, r1, a, C, ws, ev, hl, T, ea, q⟩ => ?_) he hpl
  subst ev
  cases r1 with
  | @cons _ u0 _ ur ra rw' =>
    obtain rfl : u0 = Value.ref a := ra
    have hlen : ur.length ≤ sizeLine := by
      rw [← Paired.length rw', sizeLine_eq]
      omega
    exact oinit_ok T I1 ea hlen fun s' J => ⟨.non, H1, J, rfl, q⟩
end
/-! ### a def that raises -/
structure Cr (P : Program) (w : World) (K : PySem.W.Frag) (mg : Str → Option Value) (base : Heap) (k : Nat) (x : Str) (sp : Sp) : Prop where
  ex : ∃ (f : Addr) (fd : FuncData) (ps : List Str), FnOk P w K mg base (L2.CX P w) k f fd ps sp ∧ mg x = some (.ref f) ∧ PySem.W.keepIn K (.ref f) = true ∧ Binds K fd ps []
section
variable {P : Program} {w : World} {K : PySem.W.Frag} {mg : Str → Option Value} {base : Heap}
theorem cr_of {x : Str} {st : Stmt} {N ps : List Str} {k : Nat} {sp : Sp} (D : Dn K mg x st) (S : FnScope N ps (defScope st)) (b : BindO x st ps) (len : ∀ vs H Q E, sp vs H Q E → vs.length = ps.length)
    (body : ∀ (f : Addr) (cdv : Value) (A : Around) (outer : List Env) (s : Shared) (H : Hp) (vs : List V) (Q : VK) (E : XK), Room k (A.deeper (envOfC x (defScope st) s.heap.objs.size f cdv)) → sp vs H Q E →
      ∃ t, PSs (cxOf (L2.CX P w) P w K mg base N x (defScope st) f cdv A outer s H E) (defBody st) t ∧ t { nx := fun _ H' => Q .non H', rt := Q } (L2.start N vs) H) : Cr P w K mg base (k + 1) x sp := by
  obtain ⟨f, fd, F, hm⟩ := D.ex
  exact ⟨f, fd, ps, F.okX S len (body f), hm, F.kp, F.binds b⟩
end
def tCr (sp : Sp) (W : WX) (t : TA) : TE := fun σ H Q => t σ H fun vs H1 => sp vs H1 Q (WE W σ)
theorem pe_cr {X : Cx} {k j : Nat} {x : Str} {sp : Sp} {p pos : Pos} {e : Expr} {es : List Expr} {t : TA} {W : WX} (c : Cr X.prog X.w X.K X.mg X.base k x sp) (tk : Takes X W) (hr : Room j X.A) (hk : k ≤ j) (hg : Gl X x) (ha : PA X (e :: es) t)
    (d : (x == ("__debug__" : Str)) = false := by decide) (h1 : starEach (e :: es) X.env = (false, eval e X.env) :: starEach es X.env := by rfl) (h2 : (backTo pos (starEach es X.env)).any (·.1) = false := by rfl) :
    PE X (.Call (.Name x p) (e :: es) [] pos) (tCr sp W t) := by
  obtain ⟨f, fd, ps, F, hm, kp, b⟩ := c.ex
  exact pe_callS F (hr.mono hk) hg hm kp b (fun σ => passAt tk σ) ha d h1 h2
end Z
namespace Z
open PySem PySem.Spec PyProof.Rows L2
/-- a name of the module, by its value -/
theorem pe_gc {X : Cx} {x : Str} {pos : Pos} {v : V} (hg : Gl X x) (h : ∃ u, X.mg x = some u ∧ RelV v u) (hd : (x == ("__debug__" : Str)) = false := by decide) : PE X (.Name x pos) (tC v) := by
  obtain ⟨u, hm, r⟩ := h
  exact pe_glob hg hm r hd
end Z
namespace Z
open PySem PySem.Spec PyProof.Rows L2 L2H
theorem del_some {H : Hp} {a b : Addr} {o : HO} (n : H a = none) (h : H b = some o) : del H a b = some o := by
  rw [del_ne (ne_of_none h n)]
  exact h
/-- what an __init__ with one text does: B.__init__(self, ..); self.f = text -/
def sp_init1 (K : PySem.W.Frag) (C : Addr) (f : Str) : Sp := fun vs H Q _ => ∃ (a : Addr) (x : Str), vs = [.ref a, .str x] ∧ OexC K C ∧ PySem.W.findIn K (.ref C) f = some none ∧ (reprText x).length ≤ 20000 ∧ H a = some (exo a C none) ∧
  ∀ dx, H dx = none → dx ≠ a → Q .non (upd (upd H dx (exd dx [(f, .str x)])) a (exo a C (some dx)))
/-- an own class of errors, one field -/
structure Bad (P : Program) (w : World) (K : PySem.W.Frag) (mg : Str → Option Value) (base : Heap) (n f : Str) (C : Addr) : Prop where
  nm : mg n = some (.ref C)
  ox : OexC K C
  ini : ∃ (fI : Addr) (fd : FuncData) (ps : List Str), PySem.W.findIn K (.ref C) "__init__" = some (some (.ref fI)) ∧ PySem.W.typeIn K (.ref fI) = some (.type "function") ∧ FnOk P w K mg base CX0 1 fI fd ps (sp_init1 K C f) ∧ Binds K fd ps []
  no : PySem.W.findIn K (.ref C) f = some none
  ex : ExcC K C
  xf : XfC K C
def taUp (t : TA) : TA := fun σ H Q => ∃ R : List V → Hp → Prop, t σ H R ∧ ∀ vs H1, R vs H1 → Q vs H1
theorem pa_up {X : Cx} {es : List Expr} {t : TA} (h : PA X es t) : PA X es (taUp t) := ⟨fun pos pins s σ H Q I ⟨R, hr, i⟩ => thn (h.run pos pins s σ H R I hr) fun us s1 ⟨vs, H1, I1, r1, q⟩ => ⟨vs, H1, I1, r1, i vs H1 q⟩⟩
theorem same_made {H H1 : Hp} {a dx : Addr} {o1 o2 o3 o4 : HO} (hH : H1 = upd H a o1) (ha : H a = none) (hd : H1 dx = none) : Same H (upd (del (upd (upd H1 dx o2) a o3) a) dx o4) := fun b o e => by
  have hb : b ≠ a := ne_of_none e ha
  have hx : b ≠ dx := fun z => by
    subst z
    rw [hH, upd_ne hb, e] at hd
    cases hd
  rw [upd_ne hx, del_ne hb, upd_ne hb, upd_ne hx, hH, upd_ne hb]
  exact e
/-- N(text), one that is raised -/
def tBad (C : Addr) (f : Str) (ta : TA) : L2.St → Hp → XK → Prop := fun σ H Q => ta σ H fun vs H1 => ∃ x : Str, vs = [.str x] ∧ (reprText x).length ≤ 20000 ∧ ∀ (d : Addr) (H' : Hp), Same H1 H' → H1 d = none → H' d = some (.xd [(f, .str x)]) → Q (.ref C) (some d) H'
theorem pmk_bad {X : Cx} {e : Expr} {es : List Expr} {ta : TA} {n f : Str} {C : Addr} {k : Nat} {p pos : Pos} (b : Bad X.prog X.w X.K X.mg X.base n f C) (hr : Room k X.A) (hk : 2 ≤ k) (hg : Gl X n) (ha : PA X (e :: es) ta)
    (hdb : (n == ("__debug__" : Str)) = false := by decide) (he : starEach (e :: es) X.env = (false, eval e X.env) :: starEach es X.env := by rfl) (hpl : (backTo pos (starEach es X.env)).any (·.1) = false := by rfl) :
    PMk X (.Call (.Name n p) (e :: es) [] pos) (tBad C f ta) := by
  obtain ⟨fI, fd, ps, i1, i2, F, bs⟩ := b.ini
  have z := pmk_oex (p := p) (pos := pos) (dvs := []) (ds := []) b.ox i1 i2 F (hr.mono hk) bs .nil pass0 hg b.nm (pa_up ha) hdb he hpl
  intro pins s σ H Q I h
  refine z pins s σ H Q I ⟨_, h, fun vs H1 ⟨x, ev, hz, q⟩ => ?_⟩
  subst ev
  refine ⟨by show 1 ≤ 1000; decide, fun a na => ⟨a, x, rfl, b.ox, b.no, hz, upd_same, fun dx hdx hne => ⟨rfl, dx, [(f, .str x)], upd_same, ?_, ?_, ?_⟩⟩⟩
  · rw [upd_ne hne, upd_same]
  · rw [upd_ne hne] at hdx
    exact hdx
  · refine q dx _ (same_made rfl na hdx) ?_ upd_same
    rw [upd_ne hne] at hdx
    exact hdx
end Z
namespace Z
open PySem PySem.Spec PyProof.Rows L2 L2H
theorem cxH_K {CX : CXT} {P : Program} {w : World} {K : PySem.W.Frag} {mg : Str → Option Value} {base : Heap} {N : List Str} {q : Str} {sc : Scope} {f : Addr} {cd : Value} {A : Around} {outer : List Env} {s : Shared} {H : Hp} {E : XK} {p : Addr × Obj} : (cxH CX P w K mg base N q sc f cd A outer s H E p).K = K := rfl
theorem roomH_mark {k : Nat} {A : Around} (r : Room k A) (h : Option Value) : RoomH k (A.mark h) := ⟨r.dp, r.un⟩
theorem kit_self {K : PySem.W.Frag} {C : Addr} : PySem.W.kitOne K (.ref C) (.ref C) = some true := by
  unfold PySem.W.kitOne
  rw [if_pos (by simp)]
theorem kitAny_none {K : PySem.W.Frag} {t : Value} : ∀ {us : List Value}, (∀ u ∈ us, PySem.W.kitOne K t u = some false) → PySem.W.kitAny K t us = some false
  | [], _ => rfl
  | u :: us, h => kitAny_cons (b := false) (h u List.mem_cons_self) (fun _ => kitAny_none fun v hv => h v (List.mem_cons_of_mem _ hv)) (fun z => by cases z)
theorem cls_refs : ∀ l : List Addr, Paired ClsV (l.map V.ref) (l.map Value.ref)
  | [] => .nil
  | a :: l => .cons (.own a) (cls_refs l)
end Z
set_option Elab.async false
set_option linter.all false
set_option maxRecDepth 100000
set_option maxHeartbeats 4000000
namespace Z
open PySem PySem.Spec PyProof.Rows L2 L2H
/-! ### a def that may raise, called where it doesn't -/
def noX : XK := fun _ _ _ => False
section
variable {P : Program} {w : World} {K : PySem.W.Frag} {mg : Str → Option Value} {base : Heap}
theorem fn_calm {k : Nat} {f : Addr} {fd : FuncData} {ps : List Str} {sp : Sp} (F : FnOk P w K mg base (L2.CX P w) k f fd ps sp) : FnOk P w K mg base CX0 k f fd ps (fun vs H Q _ => sp vs H Q noX) :=
  ⟨fun vs H Q _ h => F.len vs H Q noX h, fun A outer s H args us vs Q _ hr he hb hv h => codeAny_mono (F.run A outer s H args us vs Q noX hr he hb hv h) fun r s' hq => by
    cases r with
    | error e =>
      obtain ⟨_, _, _, _, _, _, _, _, _, _, _, _, z⟩ := hq
      exact z.elim
    | ok fl =>
      cases fl with
      | ret u => exact hq
      | next => exact hq.elim
      | brk => exact hq.elim
      | cont => exact hq.elim⟩
theorem Cr.cl {k : Nat} {x : Str} {sp : Sp} (c : Cr P w K mg base k x sp) : Cl P w K mg base k x (fun vs H Q _ => sp vs H Q noX) := by
  obtain ⟨f, fd, ps, F, a⟩ := c.ex
  exact ⟨f, fd, ps, fn_calm F, a⟩
theorem Cl.imp {k : Nat} {x : Str} {sp sp' : Sp} (c : Cl P w K mg base k x sp) (h : ∀ vs H Q E, sp' vs H Q E → sp vs H Q E) : Cl P w K mg base k x sp' := by
  obtain ⟨f, fd, ps, F, a⟩ := c.ex
  exact ⟨f, fd, ps, F.imp h, a⟩
/-- one that raises, called by keywords alone -/
structure Crk (P : Program) (w : World) (K : PySem.W.Frag) (mg : Str → Option Value) (base : Heap) (k : Nat) (x : Str) (ks : List Str) (sp : Sp) : Prop where
  ex : ∃ (f : Addr) (fd : FuncData) (ps : List Str), FnOk P w K mg base (L2.CX P w) k f fd ps sp ∧ mg x = some (.ref f) ∧ PySem.W.keepIn K (.ref f) = true ∧ KBn K fd ps 0 ks (fun _ b => b) (fun _ b => b)
theorem crk_of {x : Str} {st : Stmt} {ps : List Str} {k : Nat} {sp : Sp} (D : Dn K mg x st) (c : ∀ (f : Addr) (fd : FuncData), Fun K x x st f fd → FnOk P w K mg base (L2.CX P w) k f fd ps sp) (ks : List Str)
    (h : ∀ (kV doc pm : Value) (an : Option Addr) (cdv ct : Value) (ws : List Value), ws.length = ks.length →
      bindArgs (PySem.W.fnOf x x (defArgs st) (defBody st) (defScope st) .none kV doc pm an cdv ct) ⟨[], ks.zip ws⟩ = pure (ps.zip ws)) : Crk P w K mg base k x ks sp := by
  obtain ⟨f, fd, F, hm⟩ := D.ex
  have Fn := c f fd F
  obtain ⟨oc, od, kV, doc, pm, an, cdv, ct, osl, rfl, lk, hcd⟩ := id F.ex
  exact ⟨f, _, ps, Fn, hm, F.kp, ⟨fun s us ws X l1 l2 => match us, l1 with
    | [], _ => .of_eq (h kV doc pm an cdv ct ws l2), fun _ b => b⟩⟩
end
def tCrk (m : Nat) (sp : Sp) (W : WX) (tk : TA) : TE := fun σ H Q => tk σ H fun zs H2 => zs.length = m ∧ sp zs H2 Q (WE W σ)
section
variable {X : Cx} {k j : Nat} {x : Str} {sp : Sp} {p pos : Pos} {tk : TA} {ks : List Str} {kws : List Keyword} {W : WX}
theorem pe_crk0 (c : Crk X.prog X.w X.K X.mg X.base k x ks sp) (tt : Takes X W) (hr : Room j X.A) (hk : k ≤ j) (hg : Gl X x) (hkw : PK X kws tk)
    (h1 : (backToKw pos (keywordEach kws X.env)).all (·.1.isSome) = true := by rfl) (h2 : (backToKw pos (keywordEach kws X.env)).filterMap (·.1) = ks := by rfl)
    (d : (x == ("__debug__" : Str)) = false := by decide) (h4 : (backToKw pos (keywordEach kws X.env)).any (·.1.isNone) = false := by rfl) :
    PE X (.Call (.Name x p) [] kws pos) (tCrk ks.length sp W tk) := by
  obtain ⟨f, fd, ps, F, hm, kp, b⟩ := c.ex
  refine ⟨fun pins s σ H Q I q => ?_⟩
  refine wpAny_Call_Name_kw (ld_glob I hg hm ?_ d)
  refine PySem.W.callWith_KW0 (h₀ := X.base) I.ok.mod.kin kp h1 (thn (hkw.run pos pins s σ H _ I q) fun ws s2 ⟨zs, H2, I2, rz, l1, q2⟩ => ⟨I2.kIn, ?_⟩) h4
  rw [h2]
  have v := b.rel (vs := []) .nil rz
  refine wpAny_call (codeAny_mono (F.run X.A X.stack s2 H2 ⟨[], ks.zip ws⟩ ws zs Q (WE W σ) (hr.mono hk) I2.env0 (b.to s2 [] ws I2.kIn rfl (rz.length.symm.trans l1)) v q2) fun r s3 w3 => ?_)
  cases r with
  | error e => exact passAt tt σ pins H2 s2 e s3 I2 w3
  | ok fl =>
    cases fl with
    | ret u => exact I2.after w3
    | next => exact w3.elim
    | brk => exact w3.elim
    | cont => exact w3.elim
/-- a call without arguments -/
theorem pe_cl0 (c : Cl X.prog X.w X.K X.mg X.base k x sp) (hr : Room j X.A) (hk : k ≤ j) (hg : Gl X x) (d : (x == ("__debug__" : Str)) = false := by decide) : PE X (.Call (.Name x p) [] [] pos) (tCl sp tNil) := by
  obtain ⟨f, fd, ps, F, hm, kp, b⟩ := c.ex
  have z := pe_call0 (pos := pos) F (hr.mono hk) hg hm kp b .nil (E := E0) pass0 d (p := p)
  refine ⟨fun pins s σ H Q I h => z.run pins s σ H Q I ?_⟩
  have e : tCall sp [] E0 tNil = tCl sp tNil := by
    funext σ H Q
    simp only [tCall, tCl, List.append_nil]
  rw [e]
  exact h
end
/-! ### factorial, comb, sum -/
def fac : Nat → Nat
  | 0 => 1
  | n + 1 => (n + 1) * fac n
theorem fac_pos : ∀ n, 0 < fac n
  | 0 => Nat.one_pos
  | n + 1 => Nat.mul_pos (Nat.succ_pos n) (fac_pos n)
theorem fac_is : ∀ n : Nat, n ≤ 20 → Builtin.Math.factorialNat n = fac n := by
  have h : ∀ n : Fin 21, Builtin.Math.factorialNat n.val = fac n.val := by decide +kernel
  exact fun n hn => h ⟨n, by omega⟩
theorem fac_small : ∀ n : Nat, n ≤ 20 → fac n < 2 ^ 62 := by
  have h : ∀ n : Fin 21, fac n.val < 2 ^ 62 := by decide +kernel
  exact fun n hn => h ⟨n, by omega⟩
theorem log_lt {n : Nat} (h : n < 2 ^ 62) : n.log2 < bitsLine := Nat.lt_of_le_of_lt (PySem.W.mg_log (k := 61) h) (by rw [bitsLine_eq]; decide)
def rFact : List V → Hp → VK → Prop := fun vs H Q => ∃ a : Int, vs = [.int a] ∧ 0 ≤ a ∧ a ≤ 20 ∧ Q (.int (fac a.toNat : Nat)) H
theorem cr_fact {X : Cx} : CallR X (.builtin "math.factorial") rFact := by
  intro pins s σ H vs us Q I r h
  obtain ⟨a, rfl, h0, h1, q⟩ := h
  obtain ⟨u, rfl, t, rfl⟩ := vals1 r
  have e : ((Builtin.Math.factorialNat a.toNat : Nat) : Int) = (fac a.toNat : Nat) := by rw [fac_is _ (by omega)]
  exact PySem.W.mg_factorial_v (by show ¬ a > 2 ^ 63 - 1; omega) (by omega) (by show ¬ a > 20000; omega) e (by rw [Int.natAbs_natCast]; exact log_lt (fac_small _ (by omega))) ⟨.int _, H, I.tok _, ⟨_, rfl⟩, q⟩
section
variable {prog : Program} {w : World} {A : Around} {E : Value → Shared → Prop} {s : Shared}
theorem sum_tup {t : Addr} {xs : Array (Int × Tok)} {Q : Value → Shared → Prop} (hh : A.handled = none) (ht : s.heap.IsTuple t (intItems xs))
    (k : ∀ h2 n t2, (∀ b o, s.heap.get? b = some o → h2.get? b = some o) → Q (.int (preSum (numAt xs) xs.size) t2) { s with heap := h2, toks := n }) : wpAny (model prog w) A (call (.builtin "sum") [.ref t]) Q E s := by
  have lt : t < s.heap.objs.size := by
    obtain ⟨_, e, _⟩ := ht
    exact Heap.lt_size e
  refine call_sum_walkG (wpAny_pyIter_tuple ht ⟨_, [s.heap.objs.size, t], [s.heap.objs.size], _, _, _, numAt xs, rfl, Walks.tuple (A := A.in1) hh _ t (Nat.ne_of_lt lt) (intItems xs), ⟨⟨_, Heap.get?_push_size _ rfl, rfl, rfl⟩, ht.push _⟩, fun b hb => ?_, fun _ _ => intItems_at, fun h2 n t2 kp => ?_⟩)
  · show b < (s.heap.push _).objs.size
    rw [Heap.size_push]
    simp only [List.mem_cons, List.not_mem_nil, or_false] at hb
    rcases hb with rfl | rfl
    · exact Nat.lt_succ_self _
    · exact Nat.lt_succ_of_lt lt
  · have z := k h2 n t2 fun b o e => kp b o (fun m => by
      simp only [List.mem_cons, List.not_mem_nil, or_false] at m
      subst m
      exact Nat.lt_irrefl _ (Heap.lt_size e)) (Heap.get?_push_of_some _ e)
    simpa [intItems] using z
end
/-- sum(xs) of a list or tuple of ints -/
def rSumQ : List V → Hp → VK → Prop := fun vs H Q => ∃ a, vs = [.ref a] ∧ ∃ ns : List Int, seqAt (H a) = some (ns.map V.int) ∧ Q (.int ns.sum) H
theorem cr_sumQ {X : Cx} (hc : X.calm = true) : CallR X (.builtin "sum") rSumQ := by
  intro pins s σ H vs us Q I r ⟨a, e, ns, hs, q⟩
  subst e
  rcases seq_or (K := X.K) hs with hl | ht
  · exact cr_sum hc pins s σ H _ us Q I r ⟨a, ns, rfl, hl, q⟩
  · obtain ⟨its, rv, tp, hz⟩ := I.tuple ht
    obtain ⟨u, rfl, ru⟩ := vals1 r
    cases ru
    have hi := rv.ints
    obtain ⟨xs, ex⟩ := hi.allInts.items
    have hn : numsOf (intItems xs).toList = ns := by rw [← ex]; exact hi.numsOf
    rw [nums_intItems] at hn
    obtain ⟨ob, e1, e2, m, e3⟩ := tp
    refine sum_tup (I.ok.hd hc) (xs := xs) ⟨ob, e1, e2, m, by rw [e3, ex]⟩ fun h2 n t2 kp => ⟨.int _, H, I.kept kp, ⟨_, rfl⟩, ?_⟩
    rw [preSum_eq, List.take_of_length_le (by simp), hn]
    exact q
/-! ### own errors whose fields are handed over, the message written out -/
/-- B.__init__(self, '..'); self.f = v; .. -/
def sp_initN (K : PySem.W.Frag) (C : Addr) (m : Nat) (ns : List Str) (fs : List V → List (Str × V)) : Sp := fun vs H Q _ => ∃ (a : Addr) (ys : List V), vs = .ref a :: ys ∧ ys.length = m ∧ OexC K C ∧ (∀ f ∈ ns, PySem.W.findIn K (.ref C) f = some none) ∧ H a = some (exo a C none) ∧
  ∀ dx, H dx = none → dx ≠ a → Q .non (upd (upd H dx (exd dx (fs ys))) a (exo a C (some dx)))
structure BadN (P : Program) (w : World) (K : PySem.W.Frag) (mg : Str → Option Value) (base : Heap) (n : Str) (m : Nat) (ns : List Str) (fs : List V → List (Str × V)) (C : Addr) : Prop where
  nm : mg n = some (.ref C)
  ox : OexC K C
  ini : ∃ (fI : Addr) (fd : FuncData) (ps : List Str), PySem.W.findIn K (.ref C) "__init__" = some (some (.ref fI)) ∧ PySem.W.typeIn K (.ref fI) = some (.type "function") ∧ FnOk P w K mg base CX0 1 fI fd ps (sp_initN K C m ns fs) ∧ Binds K fd ps []
  no : ∀ f ∈ ns, PySem.W.findIn K (.ref C) f = some none
  ex : ExcC K C
  xf : XfC K C
def tBadN (C : Addr) (m : Nat) (fs : List V → List (Str × V)) (ta : TA) : L2.St → Hp → XK → Prop := fun σ H Q => ta σ H fun vs H1 => vs.length = m ∧ ∀ (d : Addr) (H' : Hp), Same H1 H' → H1 d = none → H' d = some (.xd (fs vs)) → Q (.ref C) (some d) H'
theorem pmk_badN {X : Cx} {e : Expr} {es : List Expr} {ta : TA} {n : Str} {m : Nat} {ns : List Str} {fs : List V → List (Str × V)} {C : Addr} {k : Nat} {p pos : Pos} (b : BadN X.prog X.w X.K X.mg X.base n m ns fs C) (hm : m ≤ 1000) (hr : Room k X.A) (hk : 2 ≤ k) (hg : Gl X n) (ha : PA X (e :: es) ta)
    (hdb : (n == ("__debug__" : Str)) = false := by decide) (he : starEach (e :: es) X.env = (false, eval e X.env) :: starEach es X.env := by rfl) (hpl : (backTo pos (starEach es X.env)).any (·.1) = false := by rfl) :
    PMk X (.Call (.Name n p) (e :: es) [] pos) (tBadN C m fs ta) := by
  obtain ⟨fI, fd, ps, i1, i2, F, bs⟩ := b.ini
  have z := pmk_oex (p := p) (pos := pos) (dvs := []) (ds := []) b.ox i1 i2 F (hr.mono hk) bs .nil pass0 hg b.nm (pa_up ha) hdb he hpl
  intro pins s σ H Q I h
  refine z pins s σ H Q I ⟨_, h, fun vs H1 ⟨hl, q⟩ => ⟨by omega, fun a na => ⟨a, vs, by rw [List.append_nil], hl, b.ox, b.no, upd_same, fun dx hdx hne => ⟨rfl, dx, fs vs, upd_same, ?_, ?_, ?_⟩⟩⟩⟩
  · rw [upd_ne hne, upd_same]
  · rw [upd_ne hne] at hdx
    exact hdx
  · refine q dx _ (same_made rfl na hdx) ?_ upd_same
    rw [upd_ne hne] at hdx
    exact hdx
theorem upd_swap {H : Hp} {a b : Addr} {o u : HO} (h : a ≠ b) : upd (upd H a o) b u = upd (upd H b u) a o := by
  funext c
  by_cases h1 : c = a
  · subst h1
    rw [upd_ne h, upd_same, upd_same]
  · by_cases h2 : c = b
    · subst h2
      rw [upd_same, upd_ne h1, upd_same]
    · rw [upd_ne h2, upd_ne h1, upd_ne h1, upd_ne h2]
/-! ### lists: xs + ys, xs * n, xs[::-1], places from the end -/
def rCatQ : R2 := fun x y H Q => ∃ l, x = .ref l ∧ ∃ b, y = .ref b ∧ ∃ xs, H l = some (.lst xs) ∧ ∃ zs, H b = some (.lst zs) ∧ xs.length + zs.length ≤ sizeLine ∧ ∀ p, H p = none → Q (.ref p) (upd H p (.lst (xs ++ zs)))
theorem opr_imp {X : Cx} {f : Value → Value → Sem Value} {r r' : R2} (c : OpR X f r) (h : ∀ x y H Q, r' x y H Q → r x y H Q) : OpR X f r' := fun pins s σ H x y v u Q I rx ry q => c pins s σ H x y v u Q I rx ry (h x y H Q q)
theorem op_catQ {X : Cx} : OpR X (binaryOp .Add) rCatQ := opr_imp op_cat fun _ _ _ _ ⟨l, e, b, e', xs, h, zs, h', z, q⟩ => ⟨l, b, xs, zs, e, e', h, h', z, q⟩
def tRevQ (te : TE) : TE := fun σ H Q => te σ H fun x H1 => ∃ a, x = .ref a ∧ ∃ xs, H1 a = some (.lst xs) ∧ ∀ p, H1 p = none → Q (.ref p) (upd H1 p (.lst xs.reverse))
theorem pe_revQ {X : Cx} {e : Expr} {te : TE} {k : Nat} {p1 p2 p3 pos : Pos} (he : PE X e te) : PE X (.Subscript e (.Slice none none (some (.UnaryOp .USub (.Constant (.int 1) k p1) p2)) p3) pos) (tRevQ te) :=
  pe_imp (pe_revL (pe_up he)) fun σ H Q h => ⟨_, h, fun x H1 ⟨a, e, xs, hx, q⟩ => ⟨a, xs, e, SqL.of hx, q⟩⟩
theorem ix_end {n : Nat} : ixN (n + 1) (-1) = some n := by
  unfold ixN
  rw [if_neg (by omega), if_pos (by omega)]
  congr 1
  omega
theorem set_end {α : Type} {x y : α} : ∀ xs : List α, (xs ++ [x]).set xs.length y = xs ++ [y]
  | [] => rfl
  | z :: xs => by rw [List.cons_append, List.length_cons, List.set_cons_succ, set_end xs]; rfl
theorem cpow_64 : CPow 10 64 ↔ True := ⟨fun _ => trivial, fun _ => ⟨by decide, by decide, by decide⟩⟩
theorem cut_to {xs : List V} {n : Nat} (h : n ≤ xs.length) : cutV xs none (some (n : Int)) = xs.take n := by
  unfold cutV
  rw [HT.sIx_nat, HT.sIx_none, Nat.min_eq_left h]
  simp
theorem cut_from {xs : List V} {n : Nat} (h : n ≤ xs.length) : cutV xs (some (n : Int)) none = xs.drop n := by
  unfold cutV
  rw [HT.sIx_nat, HT.sIx_none, Nat.min_eq_left h]
  exact List.take_of_length_le (by rw [List.length_drop]; omega)
/-! ### rows of ints, as data -/
def gd (rows : List (List Int)) : Dt := .lst (rows.map fun r => .lst (r.map Dt.int))
theorem paired_ints_inv {N : Addr → Prop} {H : Hp} {k : Nat} : ∀ {xs : List V} {ns : List Int}, Paired (fun v d => Rp N H (k + 1) v d) xs (ns.map Dt.int) → xs = ns.map V.int
  | [], [], _ => rfl
  | [], _ :: _, h => nomatch h
  | _ :: _, [], h => nomatch h
  | x :: xs, n :: ns, h => by
    cases h with
    | cons r t =>
      have e : x = .int n := r
      rw [e, paired_ints_inv t]
      rfl
theorem rp_row {N : Addr → Prop} {H : Hp} {k : Nat} {v : V} {r : List Int} (h : Rp N H (k + 2) v (.lst (r.map Dt.int))) : ∃ a, v = .ref a ∧ N a ∧ H a = some (.lst (r.map V.int)) ∧ r.length ≤ 1000 := by
  obtain ⟨a, xs, e, na, ha, l, p⟩ := h
  have z := paired_ints_inv p
  subst z
  rw [List.length_map] at l
  exact ⟨a, e, na, ha, l⟩
theorem rp_grid {N : Addr → Prop} {H : Hp} {k : Nat} {p : Addr} {rows : List (List Int)} (h : Rp N H (k + 3) (.ref p) (gd rows)) : ∃ xs : List V, H p = some (.lst xs) ∧ xs.length = rows.length ∧ ∀ (i : Nat) (r : List Int), rows[i]? = some r → ∃ a : Addr, xs[i]? = some (V.ref a) ∧ N a ∧ H a = some (.lst (r.map V.int)) := by
  obtain ⟨a, xs, e, na, ha, l, q⟩ := h
  cases e
  have hl := paired_len q
  rw [List.length_map] at hl
  refine ⟨xs, ha, hl, fun i r hr => ?_⟩
  have hi : i < xs.length := by rw [hl]; exact (List.getElem?_eq_some_iff.mp hr).1
  obtain ⟨d, e1, e2⟩ := paired_get q (List.getElem?_eq_getElem hi)
  rw [List.getElem?_map, hr] at e1
  cases e1
  obtain ⟨b, eb, nb, hb, _⟩ := rp_row e2
  exact ⟨b, by rw [List.getElem?_eq_getElem hi, eb], nb, hb⟩
end Z
namespace Z
open PySem PySem.Spec PyProof.Rows L2
def rIntB : List V → Hp → VK → Prop := fun xs H Q => ∃ b : Bool, xs = [.bl b] ∧ Q (.int (if b then 1 else 0)) H
theorem call_intB {X : Cx} : CallR X (.type "int") rIntB := callr_imp call_int1 fun _ _ _ ⟨b, e, q⟩ => .inr ⟨b, e, q⟩
def rRepQ : R2 := fun x y H Q => ∃ l, x = .ref l ∧ ∃ k, y = .int k ∧ ∃ xs, H l = some (.lst xs) ∧ -(2 ^ 63) ≤ k ∧ k < 2 ^ 63 ∧ xs.length * k.toNat ≤ sizeLine ∧ ∀ p, H p = none → Q (.ref p) (upd H p (.lst (List.replicate k.toNat xs).flatten))
end Z
namespace Z
open PySem PySem.Spec PyProof.Rows L2
theorem op_repQ {X : Cx} : OpR X (binaryOp .Mult) rRepQ := opr_imp op_rep fun _ _ _ _ ⟨l, e, k, e', xs, h, h1, h2, z, q⟩ => ⟨l, k, xs, e, e', h, h1, h2, z, q⟩
theorem rep_one {α : Type} {x : α} : ∀ n : Nat, (List.replicate n [x]).flatten = List.replicate n x
  | 0 => rfl
  | n + 1 => by rw [List.replicate_succ, List.flatten_cons, rep_one n]; rfl
end Z
set_option Elab.async false
set_option linter.all false
set_option maxRecDepth 100000
namespace Z
open PySem PySem.Spec PyProof.Rows L2
def topS (i : Nat) : Stmt := PySem.Challenge.pw_hedgejoin_k51_histories_of_one_pond.main.body.getD i (.Pass ⟨0, 0, 0, 0⟩)
end Z
set_option Elab.async false
set_option linter.all false
set_option maxRecDepth 100000
set_option maxHeartbeats 4000000
namespace Z
open PySem PySem.Spec PyProof.Rows L2
section
variable {P : Program} {w : World} {K : PySem.W.Frag} {mg : Str → Option Value} {base : Heap}
abbrev s_law_mixed : Stmt := topS 16
abbrev N_law_mixed : List Str := ["cell", "turn", "seed", "once", "twice"]
theorem sc_law_mixed : FnScope N_law_mixed ["cell", "turn", "seed"] (defScope s_law_mixed) := ⟨rfl, rfl, rfl, by decide +kernel, rfl, by decide +kernel, by decide +kernel⟩
theorem b_law_mixed : BindO "_law_mixed" s_law_mixed ["cell", "turn", "seed"] := fun _ _ _ _ _ _ us hl => match us, hl with | [_, _, _], _ => rfl

/-- three ints in, some int out -/
def sp_mixed : Sp := fun vs H Q _ => ∃ i j l : Int, vs = [.int i, .int j, .int l] ∧ ∀ r : Int, Q (.int r) H
theorem ok_mixed (D : Dn K mg "_law_mixed" s_law_mixed) (B : Blt mg) : Cl P w K mg base 1 "_law_mixed" sp_mixed := by
  refine cl_of D sc_law_mixed b_law_mixed (fun vs H Q E h => ?_) (fun f cdv A outer s H vs Q E hr h => ?_)
  · obtain ⟨i, j, l, rfl, _⟩ := h
    rfl
  · obtain ⟨i, j, l, rfl, q⟩ := h
    refine ⟨_, (pss_cons (ps_set (i := 3) sc_law_mixed.nd rfl (.inl rfl) (pe_op op_mod (pe_callTy call_intI (by rfl) B.int (by decide +kernel) (pa_cons (pe_op op_add (pe_op op_add (pe_op op_add (pe_op op_mul (pe_op op_mod (pe_callTy call_intI (by rfl) B.int (by decide +kernel) (pa_cons (pv 0) pa_nil)) pe_int) pe_int) (pe_op op_mul (pv 1) pe_int)) (pv 2)) pe_int) pa_nil)) pe_int))
      (pss_cons (ps_set (i := 3) sc_law_mixed.nd rfl (.inl rfl) (pe_op op_mod (pe_callTy call_intI (by rfl) B.int (by decide +kernel) (pa_cons (pe_op op_add (pe_op op_add (pe_op op_mul (pv 3) (pv 3)) (pe_op op_mul (pe_op op_fdivW (pv 3) pe_int) pe_int)) (pv 1)) pa_nil)) pe_int))
      (pss_cons (ps_set (i := 4) sc_law_mixed.nd rfl (.inl rfl) (pe_op op_mod (pe_callTy call_intI (by rfl) B.int (by decide +kernel) (pa_cons (pe_op op_add (pe_op op_add (pe_op op_mul (pv 3) pe_int) (pe_op op_fdivW (pv 3) pe_int)) (pv 2)) pa_nil)) pe_int))
      (pss_one (ps_ret (pe_op op_fdivW (pv 4) pe_int)))))), ?_⟩
    rw [show L2.start N_law_mixed [.int i, .int j, .int l] = [some (.int i), some (.int j), some (.int l), none, none] from rfl]
    simp only [tSeq, tNext, tDrop, tRet, tRetN, tIfS, tAsg, gName, tAug, ipI, tVar, tC, tOp, tUn, rI, rI0, rU, tCons, tNil, tCB, tTup, tLst, tTest, tB, tAnd, tOr, tNot, tAndV, tOrV, tNotV, tIf, tCl, tCd, tCk, gSub, rPutL, rAtQ, rIntI, rLenQ, rLenS, rListQ, rTupL, rTupQ, rIsQ_c, kd_non, kd_bl, kd_int, kd_str, kd_ref, kdO_lst, kdO_tup, kit_NoneType_bool, kit_NoneType_int, kit_NoneType_str, kit_NoneType_list, kit_NoneType_tuple, kit_bool_bool, kit_bool_int, kit_bool_str, kit_bool_list, kit_bool_tuple, kit_int_bool, kit_int_int, kit_int_str, kit_int_list, kit_int_tuple, kit_str_bool, kit_str_int, kit_str_str, kit_str_list, kit_str_tuple, kit_list_bool, kit_list_int, kit_list_str, kit_list_list, kit_list_tuple, kit_tuple_bool, kit_tuple_int, kit_tuple_str, kit_tuple_list, kit_tuple_tuple, V.ty.injEq, rSortQ, rSlQ, rMulS, tJn, rAtX, rSlS, tSl, tPart, tNoPart, cut_lo2, cut_hi2, rInQ, gLq, gTq, gC_c, gNil, tChain, List.cons_append, List.nil_append, tBL, tBL0, tBad, tCr, tCe, tXF, cxH_K, HO.xd.injEq, rApp, rPopN, rRevL, seqAt_lst, seqAt_tup, at_0, at_1, at_2, at_3, at_4, ix_0, ix_1, ix_2, ix_3, ix_4, cx_K, upd_same, List.length_cons, List.length_nil, Nat.reduceAdd,  rEq, rNe, tRevL, V.int.injEq, V.bl.injEq, V.str.injEq, V.ref.injEq, List.cons.injEq, and_true, true_and, exists_and_left, exists_and_right, exists_eq_left, exists_eq_left', exists_eq_right, exists_eq_right', exists_const, Option.some.injEq, List.getElem?_cons_zero, List.getElem?_cons_succ, List.set_cons_zero, List.set_cons_succ, decide_eq_true_eq, decide_true, decide_false,  scal_ii, scal_bb, scal_ss, cmul_r, cdiv_l, cpow_12, cpow_18, cpow_40, HO.lst.injEq, HO.tup.injEq, upd_upd, Int.reduceToNat,  decide_not, Bool.not_eq_true', decide_eq_false_iff_not, if_true, if_false, Bool.false_eq_true, Bool.true_eq_false, reduceCtorEq, Int.reduceNeg, Nat.reduceLT, Int.reduceLT, Int.reducePow, gt_iff_lt]
    exact ⟨.inl ⟨by omega, by omega⟩, q _⟩

/-! ### the store: its cells, the next one's place, what is left of a great one, a count, a seed -/
structure Sto where
  a : Addr
  c : Addr
  cells : List Int
structure Store (S : Sto) (H : Hp) : Prop where
  ex : ∃ (i : Nat) (x y z : Int), H S.a = some (.lst [.ref S.c, .int i, .int x, .int y, .int z]) ∧ i ≤ S.cells.length
  cel : H S.c = some (.lst (S.cells.map V.int))
  ne : S.c ≠ S.a
  few : S.cells.length ≤ 63
theorem Store.keep {S : Sto} {H H' : Hp} (s : Store S H) (h : ∀ b o, H b = some o → H' b = some o) : Store S H' := by
  obtain ⟨i, x, y, z, h1, r⟩ := s.ex
  exact ⟨⟨i, x, y, z, h _ _ h1, r⟩, h _ _ s.cel, s.ne, s.few⟩
theorem Store.neA {S : Sto} {H : Hp} {p : Addr} (s : Store S H) (h : H p = none) : p ≠ S.a := fun e => by
  obtain ⟨_, _, _, _, h1, _⟩ := s.ex
  rw [← e, h] at h1
  cases h1
theorem Store.neC {S : Sto} {H : Hp} {p : Addr} (s : Store S H) (h : H p = none) : p ≠ S.c := fun e => by
  have h1 := s.cel
  rw [← e, h] at h1
  cases h1
theorem Store.at {S : Sto} {H : Hp} {p : Addr} {o : HO} (s : Store S H) (h : p ≠ S.a) (h' : p ≠ S.c) : Store S (upd H p o) := by
  obtain ⟨i, x, y, z, h1, r⟩ := s.ex
  exact ⟨⟨i, x, y, z, by rw [upd_ne h.symm]; exact h1, r⟩, by rw [upd_ne h'.symm]; exact s.cel, s.ne, s.few⟩
/-- from H to H': all but the store stays, it is a store still -/
structure Drew (S : Sto) (H H' : Hp) : Prop where
  but : But (fun b => b = S.a) H H'
  st : Store S H'
theorem Drew.trans {S : Sto} {H H1 H2 : Hp} (r : Drew S H H1) (t : Drew S H1 H2) : Drew S H H2 := ⟨r.but.trans t.but, t.st⟩
theorem Drew.new {S : Sto} {H H1 : Hp} (r : Drew S H H1) {p : Addr} {o : HO} (h : H1 p = none) : Drew S H (upd H1 p o) :=
  ⟨r.but.trans (But.new h), r.st.keep (same_new h)⟩
theorem Drew.back {S : Sto} {H H1 : Hp} (r : Drew S H H1) {p : Addr} (h : H1 p = none) : H p = none := r.but.free (r.st.neA h) h
/-- what was new behind H is changed -/
theorem Drew.at {S : Sto} {H H1 : Hp} (r : Drew S H H1) (s : Store S H) {p : Addr} {o : HO} (h : H p = none) : Drew S H (upd H1 p o) := ⟨r.but.at (.inr h), r.st.at (s.neA h) (s.neC h)⟩
theorem Drew.only {S : Sto} {H H1 H2 : Hp} {p : Addr} (r : Drew S H H1) (s : Store S H) (h : H p = none) (b : But (fun b => b = p) H1 H2) : Drew S H H2 := by
  refine ⟨fun c o n e => b c o (fun z => ne_of_none e h z) (r.but c o n e), ?_⟩
  obtain ⟨i, x, y, z, h1, h2⟩ := r.st.ex
  exact ⟨⟨i, x, y, z, b _ _ (s.neA h).symm h1, h2⟩, b _ _ (s.neC h).symm r.st.cel, r.st.ne, r.st.few⟩
theorem Drew.same {S : Sto} {H H1 H2 : Hp} (r : Drew S H H1) (h : Same H1 H2) : Drew S H H2 := ⟨r.but.trans (But.of h), r.st.keep h⟩
/-- a number from 0 on below many -/
def Digit (many d : Int) : Prop := 0 ≤ d ∧ (d < many ∨ d = 0)
abbrev s_law_take : Stmt := topS 17
abbrev N_law_take : List Str := ["store", "many", "cell", "digit"]
theorem sc_law_take : FnScope N_law_take ["store", "many"] (defScope s_law_take) := ⟨rfl, rfl, rfl, by decide +kernel, rfl, by decide +kernel, by decide +kernel⟩
theorem b_law_take : BindO "_law_take" s_law_take ["store", "many"] := fun _ _ _ _ _ _ us hl => match us, hl with | [_, _], _ => rfl

def sp_take : Sp := fun vs H Q _ => ∃ (S : Sto) (many : Int), vs = [.ref S.a, .int many] ∧ Store S H ∧ many < 2 ^ 64 ∧ ∀ (d : Int) (H' : Hp), Drew S H H' → Digit many d → Q (.int d) H'
theorem ok_take (D : Dn K mg "_law_take" s_law_take) (B : Blt mg) (c_law_mixed : Cl P w K mg base 1 "_law_mixed" sp_mixed) : Cl P w K mg base 2 "_law_take" sp_take := by
  refine cl_of D sc_law_take b_law_take (fun vs H Q E h => ?_) (fun f cdv A outer s H vs Q E hr h => ?_)
  · obtain ⟨S, many, rfl, _⟩ := h
    rfl
  · obtain ⟨S, many, rfl, st, hm, q⟩ := h
    refine ⟨_, (pss_cons (ps_if (pt_cmpR op_lt (pv 1) pe_int (nomark _)) (pss_one (ps_ret pe_int)) pss_nil)
      (pss_cons (ps_if (pt_cmpR op_eq (pe_ix at_seq (pv 0) pe_int (fun _ _ => rfl)) pe_int (nomark _)) (pss_cons (ps_set (i := 2) sc_law_take.nd rfl (.inl rfl) pe_int)
      (pss_cons (ps_if (pt_cmpR op_lt (pe_ix at_seq (pv 0) pe_int (fun _ _ => rfl)) (pe_callB call_lenQ (by rfl) B.len PySem.boot_len (pa_cons (pe_ix at_seq (pv 0) pe_int (fun _ _ => rfl)) pa_nil)) (nomark _)) (pss_cons (ps_set (i := 2) sc_law_take.nd rfl (.inl rfl) (pe_ix at_seq (pe_ix at_seq (pv 0) pe_int (fun _ _ => rfl)) (pe_ix at_seq (pv 0) pe_int (fun _ _ => rfl)) (fun _ _ => rfl)))
      (pss_one (ps_asg (pe_op op_add (pe_ix at_seq (pv 0) pe_int (fun _ _ => rfl)) pe_int) (pg_sub (pv 0) pe_int put_list)))) pss_nil)
      (pss_cons (ps_if (pt_cmpR op_lt (pv 2) (pe_op op_pow pe_int pe_int) (nomark _)) (pss_cons (ps_asg (pe_op op_add (pe_ix at_seq (pv 0) pe_int (fun _ _ => rfl)) pe_int) (pg_sub (pv 0) pe_int put_list))
      (pss_one (ps_ret (pe_op op_mod (pe_callTy call_intI (by rfl) B.int (by decide +kernel) (pa_cons (pe_cl c_law_mixed hr (by omega) rfl (pa_cons (pv 2) (pa_cons (pe_ix at_seq (pv 0) pe_int (fun _ _ => rfl)) (pa_cons (pe_ix at_seq (pv 0) pe_int (fun _ _ => rfl)) pa_nil)))) pa_nil)) (pv 1))))) pss_nil)
      (pss_one (ps_asg (pv 2) (pg_sub (pv 0) pe_int put_list)))))) pss_nil)
      (pss_cons (ps_set (i := 3) sc_law_take.nd rfl (.inl rfl) (pe_op op_mod (pe_callTy call_intI (by rfl) B.int (by decide +kernel) (pa_cons (pe_ix at_seq (pv 0) pe_int (fun _ _ => rfl)) pa_nil)) (pv 1)))
      (pss_cons (ps_asg (pe_op op_fdivW (pe_ix at_seq (pv 0) pe_int (fun _ _ => rfl)) (pv 1)) (pg_sub (pv 0) pe_int put_list))
      (pss_one (ps_ret (pv 3))))))), ?_⟩
    rw [show L2.start N_law_take [.ref S.a, .int many] = [some (.ref S.a), some (.int many), none, none] from rfl]
    obtain ⟨i, x, y, z, h1, hi⟩ := st.ex
    have h2' : seqAt (H S.c) = some (S.cells.map V.int) := by rw [st.cel] <;> rfl
    simp only [tSeq, tNext, tDrop, tRet, tRetN, tIfS, tAsg, gName, tAug, ipI, tVar, tC, tOp, tUn, rI, rI0, rU, tCons, tNil, tCB, tTup, tLst, tTest, tB, tAnd, tOr, tNot, tAndV, tOrV, tNotV, tIf, tCl, tCd, tCk, gSub, rPutL, rAtQ, rIntI, rLenQ, rLenS, rListQ, rTupL, rTupQ, rIsQ_c, kd_non, kd_bl, kd_int, kd_str, kd_ref, kdO_lst, kdO_tup, kit_NoneType_bool, kit_NoneType_int, kit_NoneType_str, kit_NoneType_list, kit_NoneType_tuple, kit_bool_bool, kit_bool_int, kit_bool_str, kit_bool_list, kit_bool_tuple, kit_int_bool, kit_int_int, kit_int_str, kit_int_list, kit_int_tuple, kit_str_bool, kit_str_int, kit_str_str, kit_str_list, kit_str_tuple, kit_list_bool, kit_list_int, kit_list_str, kit_list_list, kit_list_tuple, kit_tuple_bool, kit_tuple_int, kit_tuple_str, kit_tuple_list, kit_tuple_tuple, V.ty.injEq, rSortQ, rSlQ, rMulS, tJn, rAtX, rSlS, tSl, tPart, tNoPart, cut_lo2, cut_hi2, rInQ, gLq, gTq, gC_c, gNil, tChain, List.cons_append, List.nil_append, tBL, tBL0, tBad, tCr, tCe, tXF, cxH_K, HO.xd.injEq, rApp, rPopN, rRevL, seqAt_lst, seqAt_tup, at_0, at_1, at_2, at_3, at_4, ix_0, ix_1, ix_2, ix_3, ix_4, cx_K, upd_same, List.length_cons, List.length_nil, Nat.reduceAdd,  rEq, rNe, tRevL, V.int.injEq, V.bl.injEq, V.str.injEq, V.ref.injEq, List.cons.injEq, and_true, true_and, exists_and_left, exists_and_right, exists_eq_left, exists_eq_left', exists_eq_right, exists_eq_right', exists_const, Option.some.injEq, List.getElem?_cons_zero, List.getElem?_cons_succ, List.set_cons_zero, List.set_cons_succ, decide_eq_true_eq, decide_true, decide_false,  scal_ii, scal_bb, scal_ss, cmul_r, cdiv_l, cpow_12, cpow_18, cpow_40, HO.lst.injEq, HO.tup.injEq, upd_upd, Int.reduceToNat,  decide_not, Bool.not_eq_true', decide_eq_false_iff_not, if_true, if_false, Bool.false_eq_true, Bool.true_eq_false, reduceCtorEq, Int.reduceNeg, Nat.reduceLT, Int.reduceLT, Int.reducePow, gt_iff_lt, h1, h2', List.length_map]
    have fin : ∀ (i' : Nat) (x' y' d : Int), i' ≤ S.cells.length → Digit many d → Q (.int d) (upd H S.a (.lst [.ref S.c, .int i', .int x', .int y', .int z])) := fun i' x' y' d h3 h4 =>
      q d _ ⟨(But.refl H).at (.inl rfl), ⟨⟨i', x', y', z, upd_same, h3⟩, by rw [upd_ne st.ne]; exact st.cel, st.ne, st.few⟩⟩ h4
    have dg : ∀ n : Int, 2 ≤ many → Digit many (n % many) := fun n h => ⟨Int.emod_nonneg _ (by omega), .inl (Int.emod_lt_of_pos _ (by omega))⟩
    split
    · exact q 0 H ⟨But.refl H, st⟩ ⟨by omega, .inr rfl⟩
    have e2 : 2 ≤ many := by omega
    split
    case isFalse => exact ⟨by omega, cdiv_ok (by omega) hm, fin i _ y _ hi (dg _ e2)⟩
    split
    · have e5 : i < S.cells.length := by omega
      refine ⟨_, atI_nat (v := .int S.cells[i]) (by rw [List.getElem?_map, List.getElem?_eq_getElem e5] <;> rfl), ?_⟩
      simp only [tSeq, tNext, tDrop, tRet, tRetN, tIfS, tAsg, gName, tAug, ipI, tVar, tC, tOp, tUn, rI, rI0, rU, tCons, tNil, tCB, tTup, tLst, tTest, tB, tAnd, tOr, tNot, tAndV, tOrV, tNotV, tIf, tCl, tCd, tCk, gSub, rPutL, rAtQ, rIntI, rLenQ, rLenS, rListQ, rTupL, rTupQ, rIsQ_c, kd_non, kd_bl, kd_int, kd_str, kd_ref, kdO_lst, kdO_tup, kit_NoneType_bool, kit_NoneType_int, kit_NoneType_str, kit_NoneType_list, kit_NoneType_tuple, kit_bool_bool, kit_bool_int, kit_bool_str, kit_bool_list, kit_bool_tuple, kit_int_bool, kit_int_int, kit_int_str, kit_int_list, kit_int_tuple, kit_str_bool, kit_str_int, kit_str_str, kit_str_list, kit_str_tuple, kit_list_bool, kit_list_int, kit_list_str, kit_list_list, kit_list_tuple, kit_tuple_bool, kit_tuple_int, kit_tuple_str, kit_tuple_list, kit_tuple_tuple, V.ty.injEq, rSortQ, rSlQ, rMulS, tJn, rAtX, rSlS, tSl, tPart, tNoPart, cut_lo2, cut_hi2, rInQ, gLq, gTq, gC_c, gNil, tChain, List.cons_append, List.nil_append, tBL, tBL0, tBad, tCr, tCe, tXF, cxH_K, HO.xd.injEq, rApp, rPopN, rRevL, seqAt_lst, seqAt_tup, at_0, at_1, at_2, at_3, at_4, ix_0, ix_1, ix_2, ix_3, ix_4, cx_K, upd_same, List.length_cons, List.length_nil, Nat.reduceAdd,  rEq, rNe, tRevL, V.int.injEq, V.bl.injEq, V.str.injEq, V.ref.injEq, List.cons.injEq, and_true, true_and, exists_and_left, exists_and_right, exists_eq_left, exists_eq_left', exists_eq_right, exists_eq_right', exists_const, Option.some.injEq, List.getElem?_cons_zero, List.getElem?_cons_succ, List.set_cons_zero, List.set_cons_succ, decide_eq_true_eq, decide_true, decide_false,  scal_ii, scal_bb, scal_ss, cmul_r, cdiv_l, cpow_12, cpow_18, cpow_40, HO.lst.injEq, HO.tup.injEq, upd_upd, Int.reduceToNat,  decide_not, Bool.not_eq_true', decide_eq_false_iff_not, if_true, if_false, Bool.false_eq_true, Bool.true_eq_false, reduceCtorEq, Int.reduceNeg, Nat.reduceLT, Int.reduceLT, Int.reducePow, gt_iff_lt]
      split
      · exact ⟨_, _, _, rfl, fun r => ⟨r, rfl, by omega, fin (i + 1) _ _ _ (by omega) (dg _ e2)⟩⟩
      · exact ⟨by omega, cdiv_ok (by omega) hm, fin (i + 1) _ _ _ (by omega) (dg _ e2)⟩
    · exact ⟨_, _, _, rfl, fun r => ⟨r, rfl, by omega, fin i _ _ _ hi (dg _ e2)⟩⟩
/-- a number from low on up to high, low where there is none -/
def Between (low high d : Int) : Prop := low ≤ d ∧ (d ≤ high ∨ d = low)
def sp_number : Sp := fun vs H Q _ => ∃ (S : Sto) (low high : Int), vs = [.ref S.a, .int low, .int high] ∧ Store S H ∧ high - low < 2 ^ 62 ∧ ∀ (d : Int) (H' : Hp), Drew S H H' → Between low high d → Q (.int d) H'
abbrev s_law_whole : Stmt := topS 18
abbrev N_law_whole : List Str := ["store", "kind"]
theorem sc_law_whole : FnScope N_law_whole ["store"] (defScope s_law_whole) := ⟨rfl, rfl, rfl, by decide +kernel, rfl, by decide +kernel, by decide +kernel⟩
theorem b_law_whole : BindO "_law_whole" s_law_whole ["store"] := fun _ _ _ _ _ _ us hl => match us, hl with | [_], _ => rfl

def sp_any : Sp := fun vs H Q _ => ∃ S : Sto, vs = [.ref S.a] ∧ Store S H ∧ ∀ (d : Int) (H' : Hp), Drew S H H' → Q (.int d) H'
theorem ok_whole (D : Dn K mg "_law_whole" s_law_whole) (c_law_take : Cl P w K mg base 2 "_law_take" sp_take) : Cl P w K mg base 3 "_law_whole" sp_any := by
  refine cl_of D sc_law_whole b_law_whole (fun vs H Q E h => ?_) (fun f cdv A outer s H vs Q E hr h => ?_)
  · obtain ⟨S, rfl, _⟩ := h
    rfl
  · obtain ⟨S, rfl, st, q⟩ := h
    refine ⟨_, (pss_cons (ps_set (i := 1) sc_law_whole.nd rfl (.inl rfl) (pe_cl c_law_take hr (by omega) rfl (pa_cons (pv 0) (pa_cons pe_int pa_nil))))
      (pss_cons (ps_if (pt_cmpR op_lt (pv 1) pe_int (nomark _)) (pss_one (ps_ret (pe_op op_sub (pe_cl c_law_take hr (by omega) rfl (pa_cons (pv 0) (pa_cons pe_int pa_nil))) pe_int))) pss_nil)
      (pss_cons (ps_if (pt_cmpR op_eq (pv 1) pe_int (nomark _)) (pss_one (ps_ret (pe_op op_sub (pe_cl c_law_take hr (by omega) rfl (pa_cons (pv 0) (pa_cons pe_int pa_nil))) pe_int))) pss_nil)
      (pss_cons (ps_if (pt_cmpR op_eq (pv 1) pe_int (nomark _)) (pss_one (ps_ret (pe_cl c_law_take hr (by omega) rfl (pa_cons (pv 0) (pa_cons (pe_op op_pow pe_int pe_int) pa_nil))))) pss_nil)
      (pss_cons (ps_if (pt_cmpR op_eq (pv 1) pe_int (nomark _)) (pss_one (ps_ret (pe_op op_sub pe_int (pe_cl c_law_take hr (by omega) rfl (pa_cons (pv 0) (pa_cons (pe_op op_pow pe_int pe_int) pa_nil)))))) pss_nil)
      (pss_cons (ps_if (pt_cmpR op_eq (pv 1) pe_int (nomark _)) (pss_one (ps_ret (pe_op op_add (pe_op op_pow pe_int pe_int) (pe_cl c_law_take hr (by omega) rfl (pa_cons (pv 0) (pa_cons (pe_op op_pow pe_int pe_int) pa_nil)))))) pss_nil)
      (pss_one (ps_ret (pe_op op_sub (pe_op op_sub pe_int (pe_op op_pow pe_int pe_int)) (pe_cl c_law_take hr (by omega) rfl (pa_cons (pv 0) (pa_cons (pe_op op_pow pe_int pe_int) pa_nil)))))))))))), ?_⟩
    rw [show L2.start N_law_whole [.ref S.a] = [some (.ref S.a), none] from rfl]
    simp only [tSeq, tNext, tDrop, tRet, tRetN, tIfS, tAsg, gName, tAug, ipI, tVar, tC, tOp, tUn, rI, rI0, rU, tCons, tNil, tCB, tTup, tLst, tTest, tB, tAnd, tOr, tNot, tAndV, tOrV, tNotV, tIf, tCl, tCd, tCk, gSub, rPutL, rAtQ, rIntI, rLenQ, rLenS, rListQ, rTupL, rTupQ, rIsQ_c, kd_non, kd_bl, kd_int, kd_str, kd_ref, kdO_lst, kdO_tup, kit_NoneType_bool, kit_NoneType_int, kit_NoneType_str, kit_NoneType_list, kit_NoneType_tuple, kit_bool_bool, kit_bool_int, kit_bool_str, kit_bool_list, kit_bool_tuple, kit_int_bool, kit_int_int, kit_int_str, kit_int_list, kit_int_tuple, kit_str_bool, kit_str_int, kit_str_str, kit_str_list, kit_str_tuple, kit_list_bool, kit_list_int, kit_list_str, kit_list_list, kit_list_tuple, kit_tuple_bool, kit_tuple_int, kit_tuple_str, kit_tuple_list, kit_tuple_tuple, V.ty.injEq, rSortQ, rSlQ, rMulS, tJn, rAtX, rSlS, tSl, tPart, tNoPart, cut_lo2, cut_hi2, rInQ, gLq, gTq, gC_c, gNil, tChain, List.cons_append, List.nil_append, tBL, tBL0, tBad, tCr, tCe, tXF, cxH_K, HO.xd.injEq, rApp, rPopN, rRevL, seqAt_lst, seqAt_tup, at_0, at_1, at_2, at_3, at_4, ix_0, ix_1, ix_2, ix_3, ix_4, cx_K, upd_same, List.length_cons, List.length_nil, Nat.reduceAdd,  rEq, rNe, tRevL, V.int.injEq, V.bl.injEq, V.str.injEq, V.ref.injEq, List.cons.injEq, and_true, true_and, exists_and_left, exists_and_right, exists_eq_left, exists_eq_left', exists_eq_right, exists_eq_right', exists_const, Option.some.injEq, List.getElem?_cons_zero, List.getElem?_cons_succ, List.set_cons_zero, List.set_cons_succ, decide_eq_true_eq, decide_true, decide_false,  scal_ii, scal_bb, scal_ss, cmul_r, cdiv_l, cpow_12, cpow_18, cpow_40, HO.lst.injEq, HO.tup.injEq, upd_upd, Int.reduceToNat,  decide_not, Bool.not_eq_true', decide_eq_false_iff_not, if_true, if_false, Bool.false_eq_true, Bool.true_eq_false, reduceCtorEq, Int.reduceNeg, Nat.reduceLT, Int.reduceLT, Int.reducePow, gt_iff_lt]
    refine ⟨_, _, rfl, st, by decide, fun d H1 r1 g1 => ?_⟩
    simp only [tSeq, tNext, tDrop, tRet, tRetN, tIfS, tAsg, gName, tAug, ipI, tVar, tC, tOp, tUn, rI, rI0, rU, tCons, tNil, tCB, tTup, tLst, tTest, tB, tAnd, tOr, tNot, tAndV, tOrV, tNotV, tIf, tCl, tCd, tCk, gSub, rPutL, rAtQ, rIntI, rLenQ, rLenS, rListQ, rTupL, rTupQ, rIsQ_c, kd_non, kd_bl, kd_int, kd_str, kd_ref, kdO_lst, kdO_tup, kit_NoneType_bool, kit_NoneType_int, kit_NoneType_str, kit_NoneType_list, kit_NoneType_tuple, kit_bool_bool, kit_bool_int, kit_bool_str, kit_bool_list, kit_bool_tuple, kit_int_bool, kit_int_int, kit_int_str, kit_int_list, kit_int_tuple, kit_str_bool, kit_str_int, kit_str_str, kit_str_list, kit_str_tuple, kit_list_bool, kit_list_int, kit_list_str, kit_list_list, kit_list_tuple, kit_tuple_bool, kit_tuple_int, kit_tuple_str, kit_tuple_list, kit_tuple_tuple, V.ty.injEq, rSortQ, rSlQ, rMulS, tJn, rAtX, rSlS, tSl, tPart, tNoPart, cut_lo2, cut_hi2, rInQ, gLq, gTq, gC_c, gNil, tChain, List.cons_append, List.nil_append, tBL, tBL0, tBad, tCr, tCe, tXF, cxH_K, HO.xd.injEq, rApp, rPopN, rRevL, seqAt_lst, seqAt_tup, at_0, at_1, at_2, at_3, at_4, ix_0, ix_1, ix_2, ix_3, ix_4, cx_K, upd_same, List.length_cons, List.length_nil, Nat.reduceAdd,  rEq, rNe, tRevL, V.int.injEq, V.bl.injEq, V.str.injEq, V.ref.injEq, List.cons.injEq, and_true, true_and, exists_and_left, exists_and_right, exists_eq_left, exists_eq_left', exists_eq_right, exists_eq_right', exists_const, Option.some.injEq, List.getElem?_cons_zero, List.getElem?_cons_succ, List.set_cons_zero, List.set_cons_succ, decide_eq_true_eq, decide_true, decide_false,  scal_ii, scal_bb, scal_ss, cmul_r, cdiv_l, cpow_12, cpow_18, cpow_40, HO.lst.injEq, HO.tup.injEq, upd_upd, Int.reduceToNat,  decide_not, Bool.not_eq_true', decide_eq_false_iff_not, if_true, if_false, Bool.false_eq_true, Bool.true_eq_false, reduceCtorEq, Int.reduceNeg, Nat.reduceLT, Int.reduceLT, Int.reducePow, gt_iff_lt]
    repeat' split
    all_goals (refine ⟨_, _, rfl, r1.st, by decide, fun d2 H2 r2 g2 => ?_⟩; first | exact q _ _ (r1.trans r2) | exact ⟨_, rfl, q _ _ (r1.trans r2)⟩)
abbrev s_law_row : Stmt := topS 20
abbrev N_law_row : List Str := ["store", "some"]
theorem sc_law_row : FnScope N_law_row ["store", "some"] (defScope s_law_row) := ⟨rfl, rfl, rfl, by decide +kernel, rfl, by decide +kernel, by decide +kernel⟩
theorem b_law_row : BindO "_law_row" s_law_row ["store", "some"] := fun _ _ _ _ _ _ us hl => match us, hl with | [_, _], _ => rfl

/-- a new list, or a new tuple, of the items -/
def sp_row : Sp := fun vs H Q _ => ∃ (S : Sto) (b : Addr) (xs : List V), vs = [.ref S.a, .ref b] ∧ Store S H ∧ H b = some (.lst xs) ∧ b ≠ S.a ∧ ∀ (p : Addr) (H' : Hp), Drew S H H' → H p = none → seqAt (H' p) = some xs → Q (.ref p) H'
theorem ok_row (D : Dn K mg "_law_row" s_law_row) (B : Blt mg) (c_law_take : Cl P w K mg base 2 "_law_take" sp_take) : Cl P w K mg base 3 "_law_row" sp_row := by
  refine cl_of D sc_law_row b_law_row (fun vs H Q E h => ?_) (fun f cdv A outer s H vs Q E hr h => ?_)
  · obtain ⟨S, b, xs, rfl, _⟩ := h
    rfl
  · obtain ⟨S, b, xs, rfl, st, hb, hn, q⟩ := h
    refine ⟨_, (pss_cons (ps_if (pt_cmpR op_eq (pe_cl c_law_take hr (by omega) rfl (pa_cons (pv 0) (pa_cons pe_int pa_nil))) pe_int (nomark _)) (pss_one (ps_ret (pe_callTy call_listQ (by rfl) B.list (by decide +kernel) (pa_cons (pv 1) pa_nil)))) pss_nil)
      (pss_one (ps_ret (pe_callTy call_tupL (by rfl) B.tuple (by decide +kernel) (pa_cons (pv 1) pa_nil))))), ?_⟩
    rw [show L2.start N_law_row [.ref S.a, .ref b] = [some (.ref S.a), some (.ref b)] from rfl]
    simp only [tSeq, tNext, tDrop, tRet, tRetN, tIfS, tAsg, gName, tAug, ipI, tVar, tC, tOp, tUn, rI, rI0, rU, tCons, tNil, tCB, tTup, tLst, tTest, tB, tAnd, tOr, tNot, tAndV, tOrV, tNotV, tIf, tCl, tCd, tCk, gSub, rPutL, rAtQ, rIntI, rLenQ, rLenS, rListQ, rTupL, rTupQ, rIsQ_c, kd_non, kd_bl, kd_int, kd_str, kd_ref, kdO_lst, kdO_tup, kit_NoneType_bool, kit_NoneType_int, kit_NoneType_str, kit_NoneType_list, kit_NoneType_tuple, kit_bool_bool, kit_bool_int, kit_bool_str, kit_bool_list, kit_bool_tuple, kit_int_bool, kit_int_int, kit_int_str, kit_int_list, kit_int_tuple, kit_str_bool, kit_str_int, kit_str_str, kit_str_list, kit_str_tuple, kit_list_bool, kit_list_int, kit_list_str, kit_list_list, kit_list_tuple, kit_tuple_bool, kit_tuple_int, kit_tuple_str, kit_tuple_list, kit_tuple_tuple, V.ty.injEq, rSortQ, rSlQ, rMulS, tJn, rAtX, rSlS, tSl, tPart, tNoPart, cut_lo2, cut_hi2, rInQ, gLq, gTq, gC_c, gNil, tChain, List.cons_append, List.nil_append, tBL, tBL0, tBad, tCr, tCe, tXF, cxH_K, HO.xd.injEq, rApp, rPopN, rRevL, seqAt_lst, seqAt_tup, at_0, at_1, at_2, at_3, at_4, ix_0, ix_1, ix_2, ix_3, ix_4, cx_K, upd_same, List.length_cons, List.length_nil, Nat.reduceAdd,  rEq, rNe, tRevL, V.int.injEq, V.bl.injEq, V.str.injEq, V.ref.injEq, List.cons.injEq, and_true, true_and, exists_and_left, exists_and_right, exists_eq_left, exists_eq_left', exists_eq_right, exists_eq_right', exists_const, Option.some.injEq, List.getElem?_cons_zero, List.getElem?_cons_succ, List.set_cons_zero, List.set_cons_succ, decide_eq_true_eq, decide_true, decide_false,  scal_ii, scal_bb, scal_ss, cmul_r, cdiv_l, cpow_12, cpow_18, cpow_40, HO.lst.injEq, HO.tup.injEq, upd_upd, Int.reduceToNat,  decide_not, Bool.not_eq_true', decide_eq_false_iff_not, if_true, if_false, Bool.false_eq_true, Bool.true_eq_false, reduceCtorEq, Int.reduceNeg, Nat.reduceLT, Int.reduceLT, Int.reducePow, gt_iff_lt]
    refine ⟨_, _, rfl, st, by decide, fun d H1 r1 g1 => ?_⟩
    have hb1 := r1.but b _ hn hb
    simp only [tSeq, tNext, tDrop, tRet, tRetN, tIfS, tAsg, gName, tAug, ipI, tVar, tC, tOp, tUn, rI, rI0, rU, tCons, tNil, tCB, tTup, tLst, tTest, tB, tAnd, tOr, tNot, tAndV, tOrV, tNotV, tIf, tCl, tCd, tCk, gSub, rPutL, rAtQ, rIntI, rLenQ, rLenS, rListQ, rTupL, rTupQ, rIsQ_c, kd_non, kd_bl, kd_int, kd_str, kd_ref, kdO_lst, kdO_tup, kit_NoneType_bool, kit_NoneType_int, kit_NoneType_str, kit_NoneType_list, kit_NoneType_tuple, kit_bool_bool, kit_bool_int, kit_bool_str, kit_bool_list, kit_bool_tuple, kit_int_bool, kit_int_int, kit_int_str, kit_int_list, kit_int_tuple, kit_str_bool, kit_str_int, kit_str_str, kit_str_list, kit_str_tuple, kit_list_bool, kit_list_int, kit_list_str, kit_list_list, kit_list_tuple, kit_tuple_bool, kit_tuple_int, kit_tuple_str, kit_tuple_list, kit_tuple_tuple, V.ty.injEq, rSortQ, rSlQ, rMulS, tJn, rAtX, rSlS, tSl, tPart, tNoPart, cut_lo2, cut_hi2, rInQ, gLq, gTq, gC_c, gNil, tChain, List.cons_append, List.nil_append, tBL, tBL0, tBad, tCr, tCe, tXF, cxH_K, HO.xd.injEq, rApp, rPopN, rRevL, seqAt_lst, seqAt_tup, at_0, at_1, at_2, at_3, at_4, ix_0, ix_1, ix_2, ix_3, ix_4, cx_K, upd_same, List.length_cons, List.length_nil, Nat.reduceAdd,  rEq, rNe, tRevL, V.int.injEq, V.bl.injEq, V.str.injEq, V.ref.injEq, List.cons.injEq, and_true, true_and, exists_and_left, exists_and_right, exists_eq_left, exists_eq_left', exists_eq_right, exists_eq_right', exists_const, Option.some.injEq, List.getElem?_cons_zero, List.getElem?_cons_succ, List.set_cons_zero, List.set_cons_succ, decide_eq_true_eq, decide_true, decide_false,  scal_ii, scal_bb, scal_ss, cmul_r, cdiv_l, cpow_12, cpow_18, cpow_40, HO.lst.injEq, HO.tup.injEq, upd_upd, Int.reduceToNat,  decide_not, Bool.not_eq_true', decide_eq_false_iff_not, if_true, if_false, Bool.false_eq_true, Bool.true_eq_false, reduceCtorEq, Int.reduceNeg, Nat.reduceLT, Int.reduceLT, Int.reducePow, gt_iff_lt, hb1]
    split
    · exact fun l hl => q l _ (r1.new hl) (r1.back hl) (by rw [upd_same] <;> rfl)
    · exact fun l hl => q l _ (r1.new hl) (r1.back hl) (by rw [upd_same] <;> rfl)
end
end Z

set_option Elab.async false
set_option linter.all false
set_option maxRecDepth 100000
set_option maxHeartbeats 4000000
namespace Z
open PySem PySem.Spec PyProof.Rows L2
section
variable {P : Program} {w : World} {K : PySem.W.Frag} {mg : Str → Option Value} {base : Heap}
theorem at_in {α : Type} {xs : List α} {d : Int} (h0 : 0 ≤ d) (h1 : d < xs.length) : ∃ y, xs[d.toNat]? = some y ∧ d.toNat < xs.length := ⟨xs[d.toNat]'(by omega), List.getElem?_eq_getElem (by omega), by omega⟩
theorem perm_erase {α : Type} {y : α} : ∀ {L : List α} {k : Nat}, L[k]? = some y → (y :: L.eraseIdx k).Perm L
  | [], k, h => by simp at h
  | x :: L, 0, h => by
    obtain rfl : x = y := Option.some.inj h
    exact List.Perm.refl _
  | x :: L, k + 1, h => (List.Perm.swap x y _).trans ((perm_erase (L := L) (k := k) h).cons x)
theorem perm_move {α : Type} {xs M L : List α} {k : Nat} {y : α} (h : (M ++ L).Perm xs) (e : L[k]? = some y) : ((M ++ [y]) ++ L.eraseIdx k).Perm xs := by
  refine List.Perm.trans ?_ h
  rw [List.append_assoc]
  exact List.Perm.append_left M (perm_erase e)
/-- a new list of the items in some order -/
def sp_shuffled : Sp := fun vs H Q _ => ∃ (S : Sto) (b : Addr) (xs : List V), vs = [.ref S.a, .ref b] ∧ Store S H ∧ seqAt (H b) = some xs ∧ b ≠ S.a ∧ xs.length ≤ 1000 ∧
  ∀ (p : Addr) (ys : List V) (H' : Hp), Drew S H H' → H p = none → H' p = some (.lst ys) → ys.Perm xs → Q (.ref p) H'
end
end Z

set_option Elab.async false
set_option linter.all false
set_option maxRecDepth 100000
set_option maxHeartbeats 4000000
namespace Z
open PySem PySem.Spec PyProof.Rows L2
section
variable {P : Program} {w : World} {K : PySem.W.Frag} {mg : Str → Option Value} {base : Heap}
def sp_step : Sp := fun vs H Q _ => ∃ n at' by' : Int, vs = [.int n, .int at', .int by'] ∧ 0 < n ∧ Q (.int ((at' + by') % n)) H
def sp_in_span : Sp := fun vs H Q _ => ∃ n i a b : Int, vs = [.int n, .int i, .int a, .int b] ∧ 0 < n ∧ Q (.bl (decide ((i - a) % n ≤ (b - a) % n))) H
/-- the positions from a on around to b, as a list of its own -/
def spanL (n a b : Int) : List Int := (List.range ((b - a) % n + 1).toNat).map fun i : Nat => (a + (i : Int)) % n
def sp_span : Sp := fun vs H Q _ => ∃ n a b : Int, vs = [.int n, .int a, .int b] ∧ 0 < n ∧ n ≤ 1000 ∧ ∀ (p : Addr) (H' : Hp), Same H H' → H p = none → H' p = some (.lst ((spanL n a b).map V.int)) → Q (.ref p) H'
/-- do two pairs stand crosswise -/
def crossB (a b c d : Int) : Bool := if (c = min a b ∨ d = min a b) ∨ (c = max a b ∨ d = max a b) then false else decide ((min a b < c ∧ c < max a b)) != decide ((min a b < d ∧ d < max a b))
def sp_crossed : Sp := fun vs H Q _ => ∃ (p q : Addr) (a b c d : Int), vs = [.ref p, .ref q] ∧ seqAt (H p) = some [.int a, .int b] ∧ seqAt (H q) = some [.int c, .int d] ∧ ∀ H', Same H H' → Q (.bl (crossB a b c d)) H'
theorem inV_two {x a b : Int} : inV (.int x) [.int a, .int b] = decide (a = x ∨ b = x) := by
  show (eqV (.int a) (.int x) || (eqV (.int b) (.int x) || false)) = _
  by_cases h1 : a = x <;> by_cases h2 : b = x <;> simp [eqV, h1, h2]
theorem rise_of : ∀ {ns : List Int}, (∀ (j : Nat) (x y : Int), ns[j]? = some x → ns[j + 1]? = some y → x < y) → ns.Pairwise (· < ·)
  | [], _ => .nil
  | [x], _ => by simp
  | x :: y :: r, h => by
    have ih := rise_of (ns := y :: r) fun j a b ha hb => h (j + 1) a b ha hb
    have xy := h 0 x y rfl rfl
    refine List.pairwise_cons.mpr ⟨fun z hz => ?_, ih⟩
    rcases List.mem_cons.mp hz with e | hz
    · rw [e]
      exact xy
    · exact Int.lt_trans xy ((List.pairwise_cons.mp ih).1 z hz)
def sp_rises : Sp := fun vs H Q _ => ∃ (p : Addr) (ns : List Int), vs = [.ref p] ∧ seqAt (H p) = some (ns.map V.int) ∧ ns.length ≤ 1000 ∧ Q (.bl (decide (ns.Pairwise (· < ·)))) H
def sp_is_integer : Sp := fun vs H Q _ => ∃ i : Int, vs = [.int i] ∧ Q (.bl true) H
end
end Z

set_option Elab.async false
set_option linter.all false
set_option maxRecDepth 100000
set_option maxHeartbeats 4000000
namespace Z
open PySem PySem.Spec PyProof.Rows L2
section
variable {P : Program} {w : World} {K : PySem.W.Frag} {mg : Str → Option Value} {base : Heap}
abbrev s_law_same : Stmt := topS 21
abbrev N_law_same : List Str := ["actual", "expected", "k"]
theorem sc_law_same : FnScope N_law_same ["actual", "expected"] (defScope s_law_same) := ⟨rfl, rfl, rfl, by decide +kernel, rfl, by decide +kernel, by decide +kernel⟩
theorem b_law_same : BindO "_law_same" s_law_same ["actual", "expected"] := fun _ _ _ _ _ _ us hl => match us, hl with | [_, _], _ => rfl

/-- the same data twice: True -/
def sp_same (n : Nat) : Sp := fun vs H Q _ => ∃ (N : Addr → Prop) (u v : V) (d : Dt), vs = [u, v] ∧ Rp N H n u d ∧ Rp N H n v d ∧ Q (.bl true) H
theorem ok_same (D : Dn K mg "_law_same" s_law_same) (B : Blt mg) : ∀ n, Cl P w K mg base n "_law_same" (sp_same n)
  | 0 => cl_none D b_law_same fun vs H Q E ⟨_, _, _, _, _, z, _⟩ => z
  | n + 1 => by
    have c_law_same := ok_same D B n
    refine cl_of D sc_law_same b_law_same (fun vs H Q E h => ?_) (fun f cdv A outer s H vs Q E hr h => ?_)
    · obtain ⟨_, u, v, d, rfl, _⟩ := h
      rfl
    · obtain ⟨N, u, v, d, rfl, ru, rv, q⟩ := h
      refine ⟨_, (pss_cons (ps_if (pt_cmpR op_isN (pv 1) pe_non (nomark _)) (pss_one (ps_ret (pe_cmpR op_isN (pv 0) pe_non (nomark _)))) pss_nil)
      (pss_cons (ps_if (pt_val (pe_callB call_isQ (by rfl) B.isinstance (by decide +kernel) (pa_cons (pv 1) (pa_cons (pe_bltn (v := .ty "bool") (u := .type "bool") (by rfl) B.bool (by decide +kernel) rfl) pa_nil)))) (pss_one (ps_ret (pe_and (pe_callB call_isQ (by rfl) B.isinstance (by decide +kernel) (pa_cons (pv 0) (pa_cons (pe_bltn (v := .ty "bool") (u := .type "bool") (by rfl) B.bool (by decide +kernel) rfl) pa_nil))) (pe_one (pe_cmpR op_eq (pv 0) (pv 1) (nomark _)))))) pss_nil)
      (pss_cons (ps_if (pt_val (pe_callB call_isQ (by rfl) B.isinstance (by decide +kernel) (pa_cons (pv 1) (pa_cons (pe_bltn (v := .ty "int") (u := .type "int") (by rfl) B.int (by decide +kernel) rfl) pa_nil)))) (pss_one (ps_ret (pe_and (pe_callB call_isQ (by rfl) B.isinstance (by decide +kernel) (pa_cons (pv 0) (pa_cons (pe_bltn (v := .ty "int") (u := .type "int") (by rfl) B.int (by decide +kernel) rfl) pa_nil))) (pe_and (pe_not (pe_callB call_isQ (by rfl) B.isinstance (by decide +kernel) (pa_cons (pv 0) (pa_cons (pe_bltn (v := .ty "bool") (u := .type "bool") (by rfl) B.bool (by decide +kernel) rfl) pa_nil)))) (pe_one (pe_cmpR op_eq (pv 0) (pv 1) (nomark _))))))) pss_nil)
      (pss_cons (ps_if (pt_val (pe_callB call_isQ (by rfl) B.isinstance (by decide +kernel) (pa_cons (pv 1) (pa_cons (pe_bltn (v := .ty "str") (u := .type "str") (by rfl) B.str (by decide +kernel) rfl) pa_nil)))) (pss_one (ps_ret (pe_and (pe_callB call_isQ (by rfl) B.isinstance (by decide +kernel) (pa_cons (pv 0) (pa_cons (pe_bltn (v := .ty "str") (u := .type "str") (by rfl) B.str (by decide +kernel) rfl) pa_nil))) (pe_one (pe_cmpR op_eq (pv 0) (pv 1) (nomark _)))))) pss_nil)
      (pss_cons (ps_if (pt_val (pe_callB call_isQ (by rfl) B.isinstance (by decide +kernel) (pa_cons (pv 1) (pa_cons (pe_bltn (v := .ty "list") (u := .type "list") (by rfl) B.list (by decide +kernel) rfl) pa_nil)))) (pss_one (ps_if (pt_not (pt_val (pe_callB call_isQ (by rfl) B.isinstance (by decide +kernel) (pa_cons (pv 0) (pa_cons (pe_bltn (v := .ty "list") (u := .type "list") (by rfl) B.list (by decide +kernel) rfl) pa_nil))))) (pss_one (ps_ret pe_bl)) pss_nil)) (pss_one (ps_if (pt_not (pt_val (pe_callB call_isQ (by rfl) B.isinstance (by decide +kernel) (pa_cons (pv 0) (pa_cons (pe_bltn (v := .ty "tuple") (u := .type "tuple") (by rfl) B.tuple (by decide +kernel) rfl) pa_nil))))) (pss_one (ps_ret pe_bl)) pss_nil)))
      (pss_cons (ps_if (pt_cmpR op_ne (pe_callB call_lenQ (by rfl) B.len PySem.boot_len (pa_cons (pv 0) pa_nil)) (pe_callB call_lenQ (by rfl) B.len PySem.boot_len (pa_cons (pv 1) pa_nil)) (nomark _)) (pss_one (ps_ret pe_bl)) pss_nil)
      (pss_cons (ps_for PassesOwn.never rfl (pi_range1 (by rfl) B.range (pa_cons (pe_callB call_lenQ (by rfl) B.len PySem.boot_len (pa_cons (pv 1) pa_nil)) pa_nil)) (pg_name (i := 2) sc_law_same.nd rfl (.inl rfl)) (pss_one (ps_if (pt_not (pt_val (pe_cl c_law_same hr (by omega) rfl (pa_cons (pe_ix at_seq (pv 0) (pv 2) (fun _ _ => rfl)) (pa_cons (pe_ix at_seq (pv 1) (pv 2) (fun _ _ => rfl)) pa_nil))))) (pss_one (ps_ret pe_bl)) pss_nil)))
      (pss_one (ps_ret pe_bl))))))))), ?_⟩
      rw [show L2.start N_law_same [u, v] = [some u, some v, none] from rfl]
      cases d with
      | non =>
        obtain rfl : u = .non := ru
        obtain rfl : v = .non := rv
        simp only [tSeq, tNext, tDrop, tRet, tRetN, tIfS, tAsg, gName, tAug, ipI, tVar, tC, tOp, tUn, rI, rI0, rU, tCons, tNil, tCB, tTup, tLst, tTest, tB, tAnd, tOr, tNot, tAndV, tOrV, tNotV, tIf, tCl, tCd, tCk, gSub, rPutL, rAtQ, rIntI, rLenQ, rLenS, rListQ, rTupL, rTupQ, rIsQ_c, kd_non, kd_bl, kd_int, kd_str, kd_ref, kdO_lst, kdO_tup, kit_NoneType_bool, kit_NoneType_int, kit_NoneType_str, kit_NoneType_list, kit_NoneType_tuple, kit_bool_bool, kit_bool_int, kit_bool_str, kit_bool_list, kit_bool_tuple, kit_int_bool, kit_int_int, kit_int_str, kit_int_list, kit_int_tuple, kit_str_bool, kit_str_int, kit_str_str, kit_str_list, kit_str_tuple, kit_list_bool, kit_list_int, kit_list_str, kit_list_list, kit_list_tuple, kit_tuple_bool, kit_tuple_int, kit_tuple_str, kit_tuple_list, kit_tuple_tuple, V.ty.injEq, rSortQ, rSlQ, rMulS, tJn, rAtX, rSlS, tSl, tPart, tNoPart, cut_lo2, cut_hi2, rInQ, gLq, gTq, gC_c, gNil, tChain, List.cons_append, List.nil_append, tBL, tBL0, tBad, tCr, tCe, tXF, cxH_K, HO.xd.injEq, rApp, rPopN, rRevL, seqAt_lst, seqAt_tup, at_0, at_1, at_2, at_3, at_4, ix_0, ix_1, ix_2, ix_3, ix_4, cx_K, upd_same, List.length_cons, List.length_nil, Nat.reduceAdd,  rEq, rNe, tRevL, V.int.injEq, V.bl.injEq, V.str.injEq, V.ref.injEq, List.cons.injEq, and_true, true_and, exists_and_left, exists_and_right, exists_eq_left, exists_eq_left', exists_eq_right, exists_eq_right', exists_const, Option.some.injEq, List.getElem?_cons_zero, List.getElem?_cons_succ, List.set_cons_zero, List.set_cons_succ, decide_eq_true_eq, decide_true, decide_false,  scal_ii, scal_bb, scal_ss, cmul_r, cdiv_l, cpow_12, cpow_18, cpow_40, HO.lst.injEq, HO.tup.injEq, upd_upd, Int.reduceToNat,  decide_not, Bool.not_eq_true', decide_eq_false_iff_not, if_true, if_false, Bool.false_eq_true, Bool.true_eq_false, reduceCtorEq, Int.reduceNeg, Nat.reduceLT, Int.reduceLT, Int.reducePow, gt_iff_lt]
        exact q
      | bl b =>
        obtain rfl : u = .bl b := ru
        obtain rfl : v = .bl b := rv
        simp only [tSeq, tNext, tDrop, tRet, tRetN, tIfS, tAsg, gName, tAug, ipI, tVar, tC, tOp, tUn, rI, rI0, rU, tCons, tNil, tCB, tTup, tLst, tTest, tB, tAnd, tOr, tNot, tAndV, tOrV, tNotV, tIf, tCl, tCd, tCk, gSub, rPutL, rAtQ, rIntI, rLenQ, rLenS, rListQ, rTupL, rTupQ, rIsQ_c, kd_non, kd_bl, kd_int, kd_str, kd_ref, kdO_lst, kdO_tup, kit_NoneType_bool, kit_NoneType_int, kit_NoneType_str, kit_NoneType_list, kit_NoneType_tuple, kit_bool_bool, kit_bool_int, kit_bool_str, kit_bool_list, kit_bool_tuple, kit_int_bool, kit_int_int, kit_int_str, kit_int_list, kit_int_tuple, kit_str_bool, kit_str_int, kit_str_str, kit_str_list, kit_str_tuple, kit_list_bool, kit_list_int, kit_list_str, kit_list_list, kit_list_tuple, kit_tuple_bool, kit_tuple_int, kit_tuple_str, kit_tuple_list, kit_tuple_tuple, V.ty.injEq, rSortQ, rSlQ, rMulS, tJn, rAtX, rSlS, tSl, tPart, tNoPart, cut_lo2, cut_hi2, rInQ, gLq, gTq, gC_c, gNil, tChain, List.cons_append, List.nil_append, tBL, tBL0, tBad, tCr, tCe, tXF, cxH_K, HO.xd.injEq, rApp, rPopN, rRevL, seqAt_lst, seqAt_tup, at_0, at_1, at_2, at_3, at_4, ix_0, ix_1, ix_2, ix_3, ix_4, cx_K, upd_same, List.length_cons, List.length_nil, Nat.reduceAdd,  rEq, rNe, tRevL, V.int.injEq, V.bl.injEq, V.str.injEq, V.ref.injEq, List.cons.injEq, and_true, true_and, exists_and_left, exists_and_right, exists_eq_left, exists_eq_left', exists_eq_right, exists_eq_right', exists_const, Option.some.injEq, List.getElem?_cons_zero, List.getElem?_cons_succ, List.set_cons_zero, List.set_cons_succ, decide_eq_true_eq, decide_true, decide_false,  scal_ii, scal_bb, scal_ss, cmul_r, cdiv_l, cpow_12, cpow_18, cpow_40, HO.lst.injEq, HO.tup.injEq, upd_upd, Int.reduceToNat,  decide_not, Bool.not_eq_true', decide_eq_false_iff_not, if_true, if_false, Bool.false_eq_true, Bool.true_eq_false, reduceCtorEq, Int.reduceNeg, Nat.reduceLT, Int.reduceLT, Int.reducePow, gt_iff_lt]
        exact q
      | int b =>
        obtain rfl : u = .int b := ru
        obtain rfl : v = .int b := rv
        simp only [tSeq, tNext, tDrop, tRet, tRetN, tIfS, tAsg, gName, tAug, ipI, tVar, tC, tOp, tUn, rI, rI0, rU, tCons, tNil, tCB, tTup, tLst, tTest, tB, tAnd, tOr, tNot, tAndV, tOrV, tNotV, tIf, tCl, tCd, tCk, gSub, rPutL, rAtQ, rIntI, rLenQ, rLenS, rListQ, rTupL, rTupQ, rIsQ_c, kd_non, kd_bl, kd_int, kd_str, kd_ref, kdO_lst, kdO_tup, kit_NoneType_bool, kit_NoneType_int, kit_NoneType_str, kit_NoneType_list, kit_NoneType_tuple, kit_bool_bool, kit_bool_int, kit_bool_str, kit_bool_list, kit_bool_tuple, kit_int_bool, kit_int_int, kit_int_str, kit_int_list, kit_int_tuple, kit_str_bool, kit_str_int, kit_str_str, kit_str_list, kit_str_tuple, kit_list_bool, kit_list_int, kit_list_str, kit_list_list, kit_list_tuple, kit_tuple_bool, kit_tuple_int, kit_tuple_str, kit_tuple_list, kit_tuple_tuple, V.ty.injEq, rSortQ, rSlQ, rMulS, tJn, rAtX, rSlS, tSl, tPart, tNoPart, cut_lo2, cut_hi2, rInQ, gLq, gTq, gC_c, gNil, tChain, List.cons_append, List.nil_append, tBL, tBL0, tBad, tCr, tCe, tXF, cxH_K, HO.xd.injEq, rApp, rPopN, rRevL, seqAt_lst, seqAt_tup, at_0, at_1, at_2, at_3, at_4, ix_0, ix_1, ix_2, ix_3, ix_4, cx_K, upd_same, List.length_cons, List.length_nil, Nat.reduceAdd,  rEq, rNe, tRevL, V.int.injEq, V.bl.injEq, V.str.injEq, V.ref.injEq, List.cons.injEq, and_true, true_and, exists_and_left, exists_and_right, exists_eq_left, exists_eq_left', exists_eq_right, exists_eq_right', exists_const, Option.some.injEq, List.getElem?_cons_zero, List.getElem?_cons_succ, List.set_cons_zero, List.set_cons_succ, decide_eq_true_eq, decide_true, decide_false,  scal_ii, scal_bb, scal_ss, cmul_r, cdiv_l, cpow_12, cpow_18, cpow_40, HO.lst.injEq, HO.tup.injEq, upd_upd, Int.reduceToNat,  decide_not, Bool.not_eq_true', decide_eq_false_iff_not, if_true, if_false, Bool.false_eq_true, Bool.true_eq_false, reduceCtorEq, Int.reduceNeg, Nat.reduceLT, Int.reduceLT, Int.reducePow, gt_iff_lt]
        exact q
      | str b =>
        obtain rfl : u = .str b := ru
        obtain rfl : v = .str b := rv
        simp only [tSeq, tNext, tDrop, tRet, tRetN, tIfS, tAsg, gName, tAug, ipI, tVar, tC, tOp, tUn, rI, rI0, rU, tCons, tNil, tCB, tTup, tLst, tTest, tB, tAnd, tOr, tNot, tAndV, tOrV, tNotV, tIf, tCl, tCd, tCk, gSub, rPutL, rAtQ, rIntI, rLenQ, rLenS, rListQ, rTupL, rTupQ, rIsQ_c, kd_non, kd_bl, kd_int, kd_str, kd_ref, kdO_lst, kdO_tup, kit_NoneType_bool, kit_NoneType_int, kit_NoneType_str, kit_NoneType_list, kit_NoneType_tuple, kit_bool_bool, kit_bool_int, kit_bool_str, kit_bool_list, kit_bool_tuple, kit_int_bool, kit_int_int, kit_int_str, kit_int_list, kit_int_tuple, kit_str_bool, kit_str_int, kit_str_str, kit_str_list, kit_str_tuple, kit_list_bool, kit_list_int, kit_list_str, kit_list_list, kit_list_tuple, kit_tuple_bool, kit_tuple_int, kit_tuple_str, kit_tuple_list, kit_tuple_tuple, V.ty.injEq, rSortQ, rSlQ, rMulS, tJn, rAtX, rSlS, tSl, tPart, tNoPart, cut_lo2, cut_hi2, rInQ, gLq, gTq, gC_c, gNil, tChain, List.cons_append, List.nil_append, tBL, tBL0, tBad, tCr, tCe, tXF, cxH_K, HO.xd.injEq, rApp, rPopN, rRevL, seqAt_lst, seqAt_tup, at_0, at_1, at_2, at_3, at_4, ix_0, ix_1, ix_2, ix_3, ix_4, cx_K, upd_same, List.length_cons, List.length_nil, Nat.reduceAdd,  rEq, rNe, tRevL, V.int.injEq, V.bl.injEq, V.str.injEq, V.ref.injEq, List.cons.injEq, and_true, true_and, exists_and_left, exists_and_right, exists_eq_left, exists_eq_left', exists_eq_right, exists_eq_right', exists_const, Option.some.injEq, List.getElem?_cons_zero, List.getElem?_cons_succ, List.set_cons_zero, List.set_cons_succ, decide_eq_true_eq, decide_true, decide_false,  scal_ii, scal_bb, scal_ss, cmul_r, cdiv_l, cpow_12, cpow_18, cpow_40, HO.lst.injEq, HO.tup.injEq, upd_upd, Int.reduceToNat,  decide_not, Bool.not_eq_true', decide_eq_false_iff_not, if_true, if_false, Bool.false_eq_true, Bool.true_eq_false, reduceCtorEq, Int.reduceNeg, Nat.reduceLT, Int.reduceLT, Int.reducePow, gt_iff_lt]
        exact q
      | lst ds =>
        obtain ⟨a, xs, rfl, na, ha, hx, pa⟩ := ru
        obtain ⟨b, ys, rfl, nb, hb, hy, pb⟩ := rv
        have sa : seqAt (H a) = some xs := by rw [ha] <;> rfl
        have sb : seqAt (H b) = some ys := by rw [hb] <;> rfl
        simp only [tSeq, tNext, tDrop, tRet, tRetN, tIfS, tAsg, gName, tAug, ipI, tVar, tC, tOp, tUn, rI, rI0, rU, tCons, tNil, tCB, tTup, tLst, tTest, tB, tAnd, tOr, tNot, tAndV, tOrV, tNotV, tIf, tCl, tCd, tCk, gSub, rPutL, rAtQ, rIntI, rLenQ, rLenS, rListQ, rTupL, rTupQ, rIsQ_c, kd_non, kd_bl, kd_int, kd_str, kd_ref, kdO_lst, kdO_tup, kit_NoneType_bool, kit_NoneType_int, kit_NoneType_str, kit_NoneType_list, kit_NoneType_tuple, kit_bool_bool, kit_bool_int, kit_bool_str, kit_bool_list, kit_bool_tuple, kit_int_bool, kit_int_int, kit_int_str, kit_int_list, kit_int_tuple, kit_str_bool, kit_str_int, kit_str_str, kit_str_list, kit_str_tuple, kit_list_bool, kit_list_int, kit_list_str, kit_list_list, kit_list_tuple, kit_tuple_bool, kit_tuple_int, kit_tuple_str, kit_tuple_list, kit_tuple_tuple, V.ty.injEq, rSortQ, rSlQ, rMulS, tJn, rAtX, rSlS, tSl, tPart, tNoPart, cut_lo2, cut_hi2, rInQ, gLq, gTq, gC_c, gNil, tChain, List.cons_append, List.nil_append, tBL, tBL0, tBad, tCr, tCe, tXF, cxH_K, HO.xd.injEq, rApp, rPopN, rRevL, seqAt_lst, seqAt_tup, at_0, at_1, at_2, at_3, at_4, ix_0, ix_1, ix_2, ix_3, ix_4, cx_K, upd_same, List.length_cons, List.length_nil, Nat.reduceAdd,  rEq, rNe, tRevL, V.int.injEq, V.bl.injEq, V.str.injEq, V.ref.injEq, List.cons.injEq, and_true, true_and, exists_and_left, exists_and_right, exists_eq_left, exists_eq_left', exists_eq_right, exists_eq_right', exists_const, Option.some.injEq, List.getElem?_cons_zero, List.getElem?_cons_succ, List.set_cons_zero, List.set_cons_succ, decide_eq_true_eq, decide_true, decide_false,  scal_ii, scal_bb, scal_ss, cmul_r, cdiv_l, cpow_12, cpow_18, cpow_40, HO.lst.injEq, HO.tup.injEq, upd_upd, Int.reduceToNat,  decide_not, Bool.not_eq_true', decide_eq_false_iff_not, if_true, if_false, Bool.false_eq_true, Bool.true_eq_false, reduceCtorEq, Int.reduceNeg, Nat.reduceLT, Int.reduceLT, Int.reducePow, gt_iff_lt, ha, hb]
        have la := paired_len pa
        have lb := paired_len pb
        split
        · rename_i e
          exact absurd (show (xs.length : Int) = ys.length by omega) e
        · refine z_forR ys.length (fun Q q => ?_) (by omega) (fun i σ' H' => ∃ k : Option V, σ' = [some (.ref a), some (.ref b), k] ∧ H' = H) ⟨none, rfl, rfl⟩ (fun i σ' H' hi hI => ?_) (fun σ' H' hI => ?_)
          · simp only [tSeq, tNext, tDrop, tRet, tRetN, tIfS, tAsg, gName, tAug, ipI, tVar, tC, tOp, tUn, rI, rI0, rU, tCons, tNil, tCB, tTup, tLst, tTest, tB, tAnd, tOr, tNot, tAndV, tOrV, tNotV, tIf, tCl, tCd, tCk, gSub, rPutL, rAtQ, rIntI, rLenQ, rLenS, rListQ, rTupL, rTupQ, rIsQ_c, kd_non, kd_bl, kd_int, kd_str, kd_ref, kdO_lst, kdO_tup, kit_NoneType_bool, kit_NoneType_int, kit_NoneType_str, kit_NoneType_list, kit_NoneType_tuple, kit_bool_bool, kit_bool_int, kit_bool_str, kit_bool_list, kit_bool_tuple, kit_int_bool, kit_int_int, kit_int_str, kit_int_list, kit_int_tuple, kit_str_bool, kit_str_int, kit_str_str, kit_str_list, kit_str_tuple, kit_list_bool, kit_list_int, kit_list_str, kit_list_list, kit_list_tuple, kit_tuple_bool, kit_tuple_int, kit_tuple_str, kit_tuple_list, kit_tuple_tuple, V.ty.injEq, rSortQ, rSlQ, rMulS, tJn, rAtX, rSlS, tSl, tPart, tNoPart, cut_lo2, cut_hi2, rInQ, gLq, gTq, gC_c, gNil, tChain, List.cons_append, List.nil_append, tBL, tBL0, tBad, tCr, tCe, tXF, cxH_K, HO.xd.injEq, rApp, rPopN, rRevL, seqAt_lst, seqAt_tup, at_0, at_1, at_2, at_3, at_4, ix_0, ix_1, ix_2, ix_3, ix_4, cx_K, upd_same, List.length_cons, List.length_nil, Nat.reduceAdd,  rEq, rNe, tRevL, V.int.injEq, V.bl.injEq, V.str.injEq, V.ref.injEq, List.cons.injEq, and_true, true_and, exists_and_left, exists_and_right, exists_eq_left, exists_eq_left', exists_eq_right, exists_eq_right', exists_const, Option.some.injEq, List.getElem?_cons_zero, List.getElem?_cons_succ, List.set_cons_zero, List.set_cons_succ, decide_eq_true_eq, decide_true, decide_false,  scal_ii, scal_bb, scal_ss, cmul_r, cdiv_l, cpow_12, cpow_18, cpow_40, HO.lst.injEq, HO.tup.injEq, upd_upd, Int.reduceToNat,  decide_not, Bool.not_eq_true', decide_eq_false_iff_not, if_true, if_false, Bool.false_eq_true, Bool.true_eq_false, reduceCtorEq, Int.reduceNeg, Nat.reduceLT, Int.reduceLT, Int.reducePow, gt_iff_lt, sb]
            exact q
          · obtain ⟨k, rfl, rfl⟩ := hI
            have e1 : xs[i]? = some xs[i] := List.getElem?_eq_getElem (by omega)
            have e2 : ys[i]? = some ys[i] := List.getElem?_eq_getElem (by omega)
            obtain ⟨d1, g1, r1⟩ := paired_get pa e1
            obtain ⟨d2, g2, r2⟩ := paired_get pb e2
            obtain rfl : d1 = d2 := Option.some.inj (g1.symm.trans g2)
            simp only [tSeq, tNext, tDrop, tRet, tRetN, tIfS, tAsg, gName, tAug, ipI, tVar, tC, tOp, tUn, rI, rI0, rU, tCons, tNil, tCB, tTup, tLst, tTest, tB, tAnd, tOr, tNot, tAndV, tOrV, tNotV, tIf, tCl, tCd, tCk, gSub, rPutL, rAtQ, rIntI, rLenQ, rLenS, rListQ, rTupL, rTupQ, rIsQ_c, kd_non, kd_bl, kd_int, kd_str, kd_ref, kdO_lst, kdO_tup, kit_NoneType_bool, kit_NoneType_int, kit_NoneType_str, kit_NoneType_list, kit_NoneType_tuple, kit_bool_bool, kit_bool_int, kit_bool_str, kit_bool_list, kit_bool_tuple, kit_int_bool, kit_int_int, kit_int_str, kit_int_list, kit_int_tuple, kit_str_bool, kit_str_int, kit_str_str, kit_str_list, kit_str_tuple, kit_list_bool, kit_list_int, kit_list_str, kit_list_list, kit_list_tuple, kit_tuple_bool, kit_tuple_int, kit_tuple_str, kit_tuple_list, kit_tuple_tuple, V.ty.injEq, rSortQ, rSlQ, rMulS, tJn, rAtX, rSlS, tSl, tPart, tNoPart, cut_lo2, cut_hi2, rInQ, gLq, gTq, gC_c, gNil, tChain, List.cons_append, List.nil_append, tBL, tBL0, tBad, tCr, tCe, tXF, cxH_K, HO.xd.injEq, rApp, rPopN, rRevL, seqAt_lst, seqAt_tup, at_0, at_1, at_2, at_3, at_4, ix_0, ix_1, ix_2, ix_3, ix_4, cx_K, upd_same, List.length_cons, List.length_nil, Nat.reduceAdd,  rEq, rNe, tRevL, V.int.injEq, V.bl.injEq, V.str.injEq, V.ref.injEq, List.cons.injEq, and_true, true_and, exists_and_left, exists_and_right, exists_eq_left, exists_eq_left', exists_eq_right, exists_eq_right', exists_const, Option.some.injEq, List.getElem?_cons_zero, List.getElem?_cons_succ, List.set_cons_zero, List.set_cons_succ, decide_eq_true_eq, decide_true, decide_false,  scal_ii, scal_bb, scal_ss, cmul_r, cdiv_l, cpow_12, cpow_18, cpow_40, HO.lst.injEq, HO.tup.injEq, upd_upd, Int.reduceToNat,  decide_not, Bool.not_eq_true', decide_eq_false_iff_not, if_true, if_false, Bool.false_eq_true, Bool.true_eq_false, reduceCtorEq, Int.reduceNeg, Nat.reduceLT, Int.reduceLT, Int.reducePow, gt_iff_lt, sa, sb, atI_nat e1, atI_nat e2]
            refine ⟨N, _, _, d1, rfl, r1, r2, ?_⟩
            simp only [tSeq, tNext, tDrop, tRet, tRetN, tIfS, tAsg, gName, tAug, ipI, tVar, tC, tOp, tUn, rI, rI0, rU, tCons, tNil, tCB, tTup, tLst, tTest, tB, tAnd, tOr, tNot, tAndV, tOrV, tNotV, tIf, tCl, tCd, tCk, gSub, rPutL, rAtQ, rIntI, rLenQ, rLenS, rListQ, rTupL, rTupQ, rIsQ_c, kd_non, kd_bl, kd_int, kd_str, kd_ref, kdO_lst, kdO_tup, kit_NoneType_bool, kit_NoneType_int, kit_NoneType_str, kit_NoneType_list, kit_NoneType_tuple, kit_bool_bool, kit_bool_int, kit_bool_str, kit_bool_list, kit_bool_tuple, kit_int_bool, kit_int_int, kit_int_str, kit_int_list, kit_int_tuple, kit_str_bool, kit_str_int, kit_str_str, kit_str_list, kit_str_tuple, kit_list_bool, kit_list_int, kit_list_str, kit_list_list, kit_list_tuple, kit_tuple_bool, kit_tuple_int, kit_tuple_str, kit_tuple_list, kit_tuple_tuple, V.ty.injEq, rSortQ, rSlQ, rMulS, tJn, rAtX, rSlS, tSl, tPart, tNoPart, cut_lo2, cut_hi2, rInQ, gLq, gTq, gC_c, gNil, tChain, List.cons_append, List.nil_append, tBL, tBL0, tBad, tCr, tCe, tXF, cxH_K, HO.xd.injEq, rApp, rPopN, rRevL, seqAt_lst, seqAt_tup, at_0, at_1, at_2, at_3, at_4, ix_0, ix_1, ix_2, ix_3, ix_4, cx_K, upd_same, List.length_cons, List.length_nil, Nat.reduceAdd,  rEq, rNe, tRevL, V.int.injEq, V.bl.injEq, V.str.injEq, V.ref.injEq, List.cons.injEq, and_true, true_and, exists_and_left, exists_and_right, exists_eq_left, exists_eq_left', exists_eq_right, exists_eq_right', exists_const, Option.some.injEq, List.getElem?_cons_zero, List.getElem?_cons_succ, List.set_cons_zero, List.set_cons_succ, decide_eq_true_eq, decide_true, decide_false,  scal_ii, scal_bb, scal_ss, cmul_r, cdiv_l, cpow_12, cpow_18, cpow_40, HO.lst.injEq, HO.tup.injEq, upd_upd, Int.reduceToNat,  decide_not, Bool.not_eq_true', decide_eq_false_iff_not, if_true, if_false, Bool.false_eq_true, Bool.true_eq_false, reduceCtorEq, Int.reduceNeg, Nat.reduceLT, Int.reduceLT, Int.reducePow, gt_iff_lt]
            exact ⟨_, rfl⟩
          · obtain ⟨k, rfl, rfl⟩ := hI
            simp only [tSeq, tNext, tDrop, tRet, tRetN, tIfS, tAsg, gName, tAug, ipI, tVar, tC, tOp, tUn, rI, rI0, rU, tCons, tNil, tCB, tTup, tLst, tTest, tB, tAnd, tOr, tNot, tAndV, tOrV, tNotV, tIf, tCl, tCd, tCk, gSub, rPutL, rAtQ, rIntI, rLenQ, rLenS, rListQ, rTupL, rTupQ, rIsQ_c, kd_non, kd_bl, kd_int, kd_str, kd_ref, kdO_lst, kdO_tup, kit_NoneType_bool, kit_NoneType_int, kit_NoneType_str, kit_NoneType_list, kit_NoneType_tuple, kit_bool_bool, kit_bool_int, kit_bool_str, kit_bool_list, kit_bool_tuple, kit_int_bool, kit_int_int, kit_int_str, kit_int_list, kit_int_tuple, kit_str_bool, kit_str_int, kit_str_str, kit_str_list, kit_str_tuple, kit_list_bool, kit_list_int, kit_list_str, kit_list_list, kit_list_tuple, kit_tuple_bool, kit_tuple_int, kit_tuple_str, kit_tuple_list, kit_tuple_tuple, V.ty.injEq, rSortQ, rSlQ, rMulS, tJn, rAtX, rSlS, tSl, tPart, tNoPart, cut_lo2, cut_hi2, rInQ, gLq, gTq, gC_c, gNil, tChain, List.cons_append, List.nil_append, tBL, tBL0, tBad, tCr, tCe, tXF, cxH_K, HO.xd.injEq, rApp, rPopN, rRevL, seqAt_lst, seqAt_tup, at_0, at_1, at_2, at_3, at_4, ix_0, ix_1, ix_2, ix_3, ix_4, cx_K, upd_same, List.length_cons, List.length_nil, Nat.reduceAdd,  rEq, rNe, tRevL, V.int.injEq, V.bl.injEq, V.str.injEq, V.ref.injEq, List.cons.injEq, and_true, true_and, exists_and_left, exists_and_right, exists_eq_left, exists_eq_left', exists_eq_right, exists_eq_right', exists_const, Option.some.injEq, List.getElem?_cons_zero, List.getElem?_cons_succ, List.set_cons_zero, List.set_cons_succ, decide_eq_true_eq, decide_true, decide_false,  scal_ii, scal_bb, scal_ss, cmul_r, cdiv_l, cpow_12, cpow_18, cpow_40, HO.lst.injEq, HO.tup.injEq, upd_upd, Int.reduceToNat,  decide_not, Bool.not_eq_true', decide_eq_false_iff_not, if_true, if_false, Bool.false_eq_true, Bool.true_eq_false, reduceCtorEq, Int.reduceNeg, Nat.reduceLT, Int.reduceLT, Int.reducePow, gt_iff_lt]
            exact q
      | tup ds =>
        obtain ⟨a, xs, rfl, na, ha, hx, pa⟩ := ru
        obtain ⟨b, ys, rfl, nb, hb, hy, pb⟩ := rv
        have sa : seqAt (H a) = some xs := by rw [ha] <;> rfl
        have sb : seqAt (H b) = some ys := by rw [hb] <;> rfl
        simp only [tSeq, tNext, tDrop, tRet, tRetN, tIfS, tAsg, gName, tAug, ipI, tVar, tC, tOp, tUn, rI, rI0, rU, tCons, tNil, tCB, tTup, tLst, tTest, tB, tAnd, tOr, tNot, tAndV, tOrV, tNotV, tIf, tCl, tCd, tCk, gSub, rPutL, rAtQ, rIntI, rLenQ, rLenS, rListQ, rTupL, rTupQ, rIsQ_c, kd_non, kd_bl, kd_int, kd_str, kd_ref, kdO_lst, kdO_tup, kit_NoneType_bool, kit_NoneType_int, kit_NoneType_str, kit_NoneType_list, kit_NoneType_tuple, kit_bool_bool, kit_bool_int, kit_bool_str, kit_bool_list, kit_bool_tuple, kit_int_bool, kit_int_int, kit_int_str, kit_int_list, kit_int_tuple, kit_str_bool, kit_str_int, kit_str_str, kit_str_list, kit_str_tuple, kit_list_bool, kit_list_int, kit_list_str, kit_list_list, kit_list_tuple, kit_tuple_bool, kit_tuple_int, kit_tuple_str, kit_tuple_list, kit_tuple_tuple, V.ty.injEq, rSortQ, rSlQ, rMulS, tJn, rAtX, rSlS, tSl, tPart, tNoPart, cut_lo2, cut_hi2, rInQ, gLq, gTq, gC_c, gNil, tChain, List.cons_append, List.nil_append, tBL, tBL0, tBad, tCr, tCe, tXF, cxH_K, HO.xd.injEq, rApp, rPopN, rRevL, seqAt_lst, seqAt_tup, at_0, at_1, at_2, at_3, at_4, ix_0, ix_1, ix_2, ix_3, ix_4, cx_K, upd_same, List.length_cons, List.length_nil, Nat.reduceAdd,  rEq, rNe, tRevL, V.int.injEq, V.bl.injEq, V.str.injEq, V.ref.injEq, List.cons.injEq, and_true, true_and, exists_and_left, exists_and_right, exists_eq_left, exists_eq_left', exists_eq_right, exists_eq_right', exists_const, Option.some.injEq, List.getElem?_cons_zero, List.getElem?_cons_succ, List.set_cons_zero, List.set_cons_succ, decide_eq_true_eq, decide_true, decide_false,  scal_ii, scal_bb, scal_ss, cmul_r, cdiv_l, cpow_12, cpow_18, cpow_40, HO.lst.injEq, HO.tup.injEq, upd_upd, Int.reduceToNat,  decide_not, Bool.not_eq_true', decide_eq_false_iff_not, if_true, if_false, Bool.false_eq_true, Bool.true_eq_false, reduceCtorEq, Int.reduceNeg, Nat.reduceLT, Int.reduceLT, Int.reducePow, gt_iff_lt, ha, hb]
        have la := paired_len pa
        have lb := paired_len pb
        split
        · rename_i e
          exact absurd (show (xs.length : Int) = ys.length by omega) e
        · refine z_forR ys.length (fun Q q => ?_) (by omega) (fun i σ' H' => ∃ k : Option V, σ' = [some (.ref a), some (.ref b), k] ∧ H' = H) ⟨none, rfl, rfl⟩ (fun i σ' H' hi hI => ?_) (fun σ' H' hI => ?_)
          · simp only [tSeq, tNext, tDrop, tRet, tRetN, tIfS, tAsg, gName, tAug, ipI, tVar, tC, tOp, tUn, rI, rI0, rU, tCons, tNil, tCB, tTup, tLst, tTest, tB, tAnd, tOr, tNot, tAndV, tOrV, tNotV, tIf, tCl, tCd, tCk, gSub, rPutL, rAtQ, rIntI, rLenQ, rLenS, rListQ, rTupL, rTupQ, rIsQ_c, kd_non, kd_bl, kd_int, kd_str, kd_ref, kdO_lst, kdO_tup, kit_NoneType_bool, kit_NoneType_int, kit_NoneType_str, kit_NoneType_list, kit_NoneType_tuple, kit_bool_bool, kit_bool_int, kit_bool_str, kit_bool_list, kit_bool_tuple, kit_int_bool, kit_int_int, kit_int_str, kit_int_list, kit_int_tuple, kit_str_bool, kit_str_int, kit_str_str, kit_str_list, kit_str_tuple, kit_list_bool, kit_list_int, kit_list_str, kit_list_list, kit_list_tuple, kit_tuple_bool, kit_tuple_int, kit_tuple_str, kit_tuple_list, kit_tuple_tuple, V.ty.injEq, rSortQ, rSlQ, rMulS, tJn, rAtX, rSlS, tSl, tPart, tNoPart, cut_lo2, cut_hi2, rInQ, gLq, gTq, gC_c, gNil, tChain, List.cons_append, List.nil_append, tBL, tBL0, tBad, tCr, tCe, tXF, cxH_K, HO.xd.injEq, rApp, rPopN, rRevL, seqAt_lst, seqAt_tup, at_0, at_1, at_2, at_3, at_4, ix_0, ix_1, ix_2, ix_3, ix_4, cx_K, upd_same, List.length_cons, List.length_nil, Nat.reduceAdd,  rEq, rNe, tRevL, V.int.injEq, V.bl.injEq, V.str.injEq, V.ref.injEq, List.cons.injEq, and_true, true_and, exists_and_left, exists_and_right, exists_eq_left, exists_eq_left', exists_eq_right, exists_eq_right', exists_const, Option.some.injEq, List.getElem?_cons_zero, List.getElem?_cons_succ, List.set_cons_zero, List.set_cons_succ, decide_eq_true_eq, decide_true, decide_false,  scal_ii, scal_bb, scal_ss, cmul_r, cdiv_l, cpow_12, cpow_18, cpow_40, HO.lst.injEq, HO.tup.injEq, upd_upd, Int.reduceToNat,  decide_not, Bool.not_eq_true', decide_eq_false_iff_not, if_true, if_false, Bool.false_eq_true, Bool.true_eq_false, reduceCtorEq, Int.reduceNeg, Nat.reduceLT, Int.reduceLT, Int.reducePow, gt_iff_lt, sb]
            exact q
          · obtain ⟨k, rfl, rfl⟩ := hI
            have e1 : xs[i]? = some xs[i] := List.getElem?_eq_getElem (by omega)
            have e2 : ys[i]? = some ys[i] := List.getElem?_eq_getElem (by omega)
            obtain ⟨d1, g1, r1⟩ := paired_get pa e1
            obtain ⟨d2, g2, r2⟩ := paired_get pb e2
            obtain rfl : d1 = d2 := Option.some.inj (g1.symm.trans g2)
            simp only [tSeq, tNext, tDrop, tRet, tRetN, tIfS, tAsg, gName, tAug, ipI, tVar, tC, tOp, tUn, rI, rI0, rU, tCons, tNil, tCB, tTup, tLst, tTest, tB, tAnd, tOr, tNot, tAndV, tOrV, tNotV, tIf, tCl, tCd, tCk, gSub, rPutL, rAtQ, rIntI, rLenQ, rLenS, rListQ, rTupL, rTupQ, rIsQ_c, kd_non, kd_bl, kd_int, kd_str, kd_ref, kdO_lst, kdO_tup, kit_NoneType_bool, kit_NoneType_int, kit_NoneType_str, kit_NoneType_list, kit_NoneType_tuple, kit_bool_bool, kit_bool_int, kit_bool_str, kit_bool_list, kit_bool_tuple, kit_int_bool, kit_int_int, kit_int_str, kit_int_list, kit_int_tuple, kit_str_bool, kit_str_int, kit_str_str, kit_str_list, kit_str_tuple, kit_list_bool, kit_list_int, kit_list_str, kit_list_list, kit_list_tuple, kit_tuple_bool, kit_tuple_int, kit_tuple_str, kit_tuple_list, kit_tuple_tuple, V.ty.injEq, rSortQ, rSlQ, rMulS, tJn, rAtX, rSlS, tSl, tPart, tNoPart, cut_lo2, cut_hi2, rInQ, gLq, gTq, gC_c, gNil, tChain, List.cons_append, List.nil_append, tBL, tBL0, tBad, tCr, tCe, tXF, cxH_K, HO.xd.injEq, rApp, rPopN, rRevL, seqAt_lst, seqAt_tup, at_0, at_1, at_2, at_3, at_4, ix_0, ix_1, ix_2, ix_3, ix_4, cx_K, upd_same, List.length_cons, List.length_nil, Nat.reduceAdd,  rEq, rNe, tRevL, V.int.injEq, V.bl.injEq, V.str.injEq, V.ref.injEq, List.cons.injEq, and_true, true_and, exists_and_left, exists_and_right, exists_eq_left, exists_eq_left', exists_eq_right, exists_eq_right', exists_const, Option.some.injEq, List.getElem?_cons_zero, List.getElem?_cons_succ, List.set_cons_zero, List.set_cons_succ, decide_eq_true_eq, decide_true, decide_false,  scal_ii, scal_bb, scal_ss, cmul_r, cdiv_l, cpow_12, cpow_18, cpow_40, HO.lst.injEq, HO.tup.injEq, upd_upd, Int.reduceToNat,  decide_not, Bool.not_eq_true', decide_eq_false_iff_not, if_true, if_false, Bool.false_eq_true, Bool.true_eq_false, reduceCtorEq, Int.reduceNeg, Nat.reduceLT, Int.reduceLT, Int.reducePow, gt_iff_lt, sa, sb, atI_nat e1, atI_nat e2]
            refine ⟨N, _, _, d1, rfl, r1, r2, ?_⟩
            simp only [tSeq, tNext, tDrop, tRet, tRetN, tIfS, tAsg, gName, tAug, ipI, tVar, tC, tOp, tUn, rI, rI0, rU, tCons, tNil, tCB, tTup, tLst, tTest, tB, tAnd, tOr, tNot, tAndV, tOrV, tNotV, tIf, tCl, tCd, tCk, gSub, rPutL, rAtQ, rIntI, rLenQ, rLenS, rListQ, rTupL, rTupQ, rIsQ_c, kd_non, kd_bl, kd_int, kd_str, kd_ref, kdO_lst, kdO_tup, kit_NoneType_bool, kit_NoneType_int, kit_NoneType_str, kit_NoneType_list, kit_NoneType_tuple, kit_bool_bool, kit_bool_int, kit_bool_str, kit_bool_list, kit_bool_tuple, kit_int_bool, kit_int_int, kit_int_str, kit_int_list, kit_int_tuple, kit_str_bool, kit_str_int, kit_str_str, kit_str_list, kit_str_tuple, kit_list_bool, kit_list_int, kit_list_str, kit_list_list, kit_list_tuple, kit_tuple_bool, kit_tuple_int, kit_tuple_str, kit_tuple_list, kit_tuple_tuple, V.ty.injEq, rSortQ, rSlQ, rMulS, tJn, rAtX, rSlS, tSl, tPart, tNoPart, cut_lo2, cut_hi2, rInQ, gLq, gTq, gC_c, gNil, tChain, List.cons_append, List.nil_append, tBL, tBL0, tBad, tCr, tCe, tXF, cxH_K, HO.xd.injEq, rApp, rPopN, rRevL, seqAt_lst, seqAt_tup, at_0, at_1, at_2, at_3, at_4, ix_0, ix_1, ix_2, ix_3, ix_4, cx_K, upd_same, List.length_cons, List.length_nil, Nat.reduceAdd,  rEq, rNe, tRevL, V.int.injEq, V.bl.injEq, V.str.injEq, V.ref.injEq, List.cons.injEq, and_true, true_and, exists_and_left, exists_and_right, exists_eq_left, exists_eq_left', exists_eq_right, exists_eq_right', exists_const, Option.some.injEq, List.getElem?_cons_zero, List.getElem?_cons_succ, List.set_cons_zero, List.set_cons_succ, decide_eq_true_eq, decide_true, decide_false,  scal_ii, scal_bb, scal_ss, cmul_r, cdiv_l, cpow_12, cpow_18, cpow_40, HO.lst.injEq, HO.tup.injEq, upd_upd, Int.reduceToNat,  decide_not, Bool.not_eq_true', decide_eq_false_iff_not, if_true, if_false, Bool.false_eq_true, Bool.true_eq_false, reduceCtorEq, Int.reduceNeg, Nat.reduceLT, Int.reduceLT, Int.reducePow, gt_iff_lt]
            exact ⟨_, rfl⟩
          · obtain ⟨k, rfl, rfl⟩ := hI
            simp only [tSeq, tNext, tDrop, tRet, tRetN, tIfS, tAsg, gName, tAug, ipI, tVar, tC, tOp, tUn, rI, rI0, rU, tCons, tNil, tCB, tTup, tLst, tTest, tB, tAnd, tOr, tNot, tAndV, tOrV, tNotV, tIf, tCl, tCd, tCk, gSub, rPutL, rAtQ, rIntI, rLenQ, rLenS, rListQ, rTupL, rTupQ, rIsQ_c, kd_non, kd_bl, kd_int, kd_str, kd_ref, kdO_lst, kdO_tup, kit_NoneType_bool, kit_NoneType_int, kit_NoneType_str, kit_NoneType_list, kit_NoneType_tuple, kit_bool_bool, kit_bool_int, kit_bool_str, kit_bool_list, kit_bool_tuple, kit_int_bool, kit_int_int, kit_int_str, kit_int_list, kit_int_tuple, kit_str_bool, kit_str_int, kit_str_str, kit_str_list, kit_str_tuple, kit_list_bool, kit_list_int, kit_list_str, kit_list_list, kit_list_tuple, kit_tuple_bool, kit_tuple_int, kit_tuple_str, kit_tuple_list, kit_tuple_tuple, V.ty.injEq, rSortQ, rSlQ, rMulS, tJn, rAtX, rSlS, tSl, tPart, tNoPart, cut_lo2, cut_hi2, rInQ, gLq, gTq, gC_c, gNil, tChain, List.cons_append, List.nil_append, tBL, tBL0, tBad, tCr, tCe, tXF, cxH_K, HO.xd.injEq, rApp, rPopN, rRevL, seqAt_lst, seqAt_tup, at_0, at_1, at_2, at_3, at_4, ix_0, ix_1, ix_2, ix_3, ix_4, cx_K, upd_same, List.length_cons, List.length_nil, Nat.reduceAdd,  rEq, rNe, tRevL, V.int.injEq, V.bl.injEq, V.str.injEq, V.ref.injEq, List.cons.injEq, and_true, true_and, exists_and_left, exists_and_right, exists_eq_left, exists_eq_left', exists_eq_right, exists_eq_right', exists_const, Option.some.injEq, List.getElem?_cons_zero, List.getElem?_cons_succ, List.set_cons_zero, List.set_cons_succ, decide_eq_true_eq, decide_true, decide_false,  scal_ii, scal_bb, scal_ss, cmul_r, cdiv_l, cpow_12, cpow_18, cpow_40, HO.lst.injEq, HO.tup.injEq, upd_upd, Int.reduceToNat,  decide_not, Bool.not_eq_true', decide_eq_false_iff_not, if_true, if_false, Bool.false_eq_true, Bool.true_eq_false, reduceCtorEq, Int.reduceNeg, Nat.reduceLT, Int.reduceLT, Int.reducePow, gt_iff_lt]
            exact q
abbrev s_law_copy : Stmt := topS 22
abbrev N_law_copy : List Str := ["thing", "part"]
theorem sc_law_copy : FnScope N_law_copy ["thing"] (defScope s_law_copy) := ⟨rfl, rfl, rfl, by decide +kernel, rfl, by decide +kernel, by decide +kernel⟩
theorem b_law_copy : BindO "_law_copy" s_law_copy ["thing"] := fun _ _ _ _ _ _ us hl => match us, hl with | [_], _ => rfl

/-- the same data, at new places -/
def sp_copy (n : Nat) : Sp := fun vs H Q _ => ∃ (N : Addr → Prop) (u : V) (d : Dt), vs = [u] ∧ Rp N H n u d ∧ (∀ p, H p = none → N p) ∧ ∀ (v : V) (H' : Hp), Same H H' → Rp N H' n v d → Q v H'
theorem ok_copy (D : Dn K mg "_law_copy" s_law_copy) (B : Blt mg) : ∀ n, Cl P w K mg base n "_law_copy" (sp_copy n)
  | 0 => cl_none D b_law_copy fun vs H Q E ⟨_, _, _, _, z, _⟩ => z
  | n + 1 => by
    have c_law_copy := ok_copy D B n
    refine cl_of D sc_law_copy b_law_copy (fun vs H Q E h => ?_) (fun f cdv A outer s H vs Q E hr h => ?_)
    · obtain ⟨_, u, d, rfl, _⟩ := h
      rfl
    · obtain ⟨N, u, d, rfl, ru, hN, q⟩ := h
      refine ⟨_, (pss_cons (ps_if (pt_val (pe_callB call_isQ (by rfl) B.isinstance (by decide +kernel) (pa_cons (pv 0) (pa_cons (pe_bltn (v := .ty "list") (u := .type "list") (by rfl) B.list (by decide +kernel) rfl) pa_nil)))) (pss_one (ps_ret (pe_lc (own := [("part", 1)]) (g := gName 1) rfl sc_law_copy.nd (pi_list (pv 0)) (blkOk_by (N := N_law_copy) (sc := defScope s_law_copy) (own := [("part", 1)]) (by decide +kernel)) (fun _ _ _ _ _ => pg_name (i := 1) sc_law_copy.nd rfl (Or.inl rfl)) (fun _ _ _ _ _ => pts_nil) (fun _ _ _ _ _ => (pe_cl c_law_copy hr (by omega) rfl (pa_cons (pv 1) pa_nil)))))) pss_nil)
      (pss_cons (ps_if (pt_val (pe_callB call_isQ (by rfl) B.isinstance (by decide +kernel) (pa_cons (pv 0) (pa_cons (pe_bltn (v := .ty "tuple") (u := .type "tuple") (by rfl) B.tuple (by decide +kernel) rfl) pa_nil)))) (pss_one (ps_ret (pe_callTy call_tupL (by rfl) B.tuple (by decide +kernel) (pa_cons (pe_lc (own := [("part", 1)]) (g := gName 1) rfl sc_law_copy.nd (pi_tup (pv 0)) (blkOk_by (N := N_law_copy) (sc := defScope s_law_copy) (own := [("part", 1)]) (by decide +kernel)) (fun _ _ _ _ _ => pg_name (i := 1) sc_law_copy.nd rfl (Or.inl rfl)) (fun _ _ _ _ _ => pts_nil) (fun _ _ _ _ _ => (pe_cl c_law_copy hr (by omega) rfl (pa_cons (pv 1) pa_nil)))) pa_nil)))) pss_nil)
      (pss_one (ps_ret (pv 0))))), ?_⟩
      rw [show L2.start N_law_copy [u] = [some u, none] from rfl]
      cases d with
      | non =>
        obtain rfl : u = .non := ru
        simp only [tSeq, tNext, tDrop, tRet, tRetN, tIfS, tAsg, gName, tAug, ipI, tVar, tC, tOp, tUn, rI, rI0, rU, tCons, tNil, tCB, tTup, tLst, tTest, tB, tAnd, tOr, tNot, tAndV, tOrV, tNotV, tIf, tCl, tCd, tCk, gSub, rPutL, rAtQ, rIntI, rLenQ, rLenS, rListQ, rTupL, rTupQ, rIsQ_c, kd_non, kd_bl, kd_int, kd_str, kd_ref, kdO_lst, kdO_tup, kit_NoneType_bool, kit_NoneType_int, kit_NoneType_str, kit_NoneType_list, kit_NoneType_tuple, kit_bool_bool, kit_bool_int, kit_bool_str, kit_bool_list, kit_bool_tuple, kit_int_bool, kit_int_int, kit_int_str, kit_int_list, kit_int_tuple, kit_str_bool, kit_str_int, kit_str_str, kit_str_list, kit_str_tuple, kit_list_bool, kit_list_int, kit_list_str, kit_list_list, kit_list_tuple, kit_tuple_bool, kit_tuple_int, kit_tuple_str, kit_tuple_list, kit_tuple_tuple, V.ty.injEq, rSortQ, rSlQ, rMulS, tJn, rAtX, rSlS, tSl, tPart, tNoPart, cut_lo2, cut_hi2, rInQ, gLq, gTq, gC_c, gNil, tChain, List.cons_append, List.nil_append, tBL, tBL0, tBad, tCr, tCe, tXF, cxH_K, HO.xd.injEq, rApp, rPopN, rRevL, seqAt_lst, seqAt_tup, at_0, at_1, at_2, at_3, at_4, ix_0, ix_1, ix_2, ix_3, ix_4, cx_K, upd_same, List.length_cons, List.length_nil, Nat.reduceAdd,  rEq, rNe, tRevL, V.int.injEq, V.bl.injEq, V.str.injEq, V.ref.injEq, List.cons.injEq, and_true, true_and, exists_and_left, exists_and_right, exists_eq_left, exists_eq_left', exists_eq_right, exists_eq_right', exists_const, Option.some.injEq, List.getElem?_cons_zero, List.getElem?_cons_succ, List.set_cons_zero, List.set_cons_succ, decide_eq_true_eq, decide_true, decide_false,  scal_ii, scal_bb, scal_ss, cmul_r, cdiv_l, cpow_12, cpow_18, cpow_40, HO.lst.injEq, HO.tup.injEq, upd_upd, Int.reduceToNat,  decide_not, Bool.not_eq_true', decide_eq_false_iff_not, if_true, if_false, Bool.false_eq_true, Bool.true_eq_false, reduceCtorEq, Int.reduceNeg, Nat.reduceLT, Int.reduceLT, Int.reducePow, gt_iff_lt]
        exact q _ _ (Same.refl H) rfl
      | bl b =>
        obtain rfl : u = .bl b := ru
        simp only [tSeq, tNext, tDrop, tRet, tRetN, tIfS, tAsg, gName, tAug, ipI, tVar, tC, tOp, tUn, rI, rI0, rU, tCons, tNil, tCB, tTup, tLst, tTest, tB, tAnd, tOr, tNot, tAndV, tOrV, tNotV, tIf, tCl, tCd, tCk, gSub, rPutL, rAtQ, rIntI, rLenQ, rLenS, rListQ, rTupL, rTupQ, rIsQ_c, kd_non, kd_bl, kd_int, kd_str, kd_ref, kdO_lst, kdO_tup, kit_NoneType_bool, kit_NoneType_int, kit_NoneType_str, kit_NoneType_list, kit_NoneType_tuple, kit_bool_bool, kit_bool_int, kit_bool_str, kit_bool_list, kit_bool_tuple, kit_int_bool, kit_int_int, kit_int_str, kit_int_list, kit_int_tuple, kit_str_bool, kit_str_int, kit_str_str, kit_str_list, kit_str_tuple, kit_list_bool, kit_list_int, kit_list_str, kit_list_list, kit_list_tuple, kit_tuple_bool, kit_tuple_int, kit_tuple_str, kit_tuple_list, kit_tuple_tuple, V.ty.injEq, rSortQ, rSlQ, rMulS, tJn, rAtX, rSlS, tSl, tPart, tNoPart, cut_lo2, cut_hi2, rInQ, gLq, gTq, gC_c, gNil, tChain, List.cons_append, List.nil_append, tBL, tBL0, tBad, tCr, tCe, tXF, cxH_K, HO.xd.injEq, rApp, rPopN, rRevL, seqAt_lst, seqAt_tup, at_0, at_1, at_2, at_3, at_4, ix_0, ix_1, ix_2, ix_3, ix_4, cx_K, upd_same, List.length_cons, List.length_nil, Nat.reduceAdd,  rEq, rNe, tRevL, V.int.injEq, V.bl.injEq, V.str.injEq, V.ref.injEq, List.cons.injEq, and_true, true_and, exists_and_left, exists_and_right, exists_eq_left, exists_eq_left', exists_eq_right, exists_eq_right', exists_const, Option.some.injEq, List.getElem?_cons_zero, List.getElem?_cons_succ, List.set_cons_zero, List.set_cons_succ, decide_eq_true_eq, decide_true, decide_false,  scal_ii, scal_bb, scal_ss, cmul_r, cdiv_l, cpow_12, cpow_18, cpow_40, HO.lst.injEq, HO.tup.injEq, upd_upd, Int.reduceToNat,  decide_not, Bool.not_eq_true', decide_eq_false_iff_not, if_true, if_false, Bool.false_eq_true, Bool.true_eq_false, reduceCtorEq, Int.reduceNeg, Nat.reduceLT, Int.reduceLT, Int.reducePow, gt_iff_lt]
        exact q _ _ (Same.refl H) rfl
      | int b =>
        obtain rfl : u = .int b := ru
        simp only [tSeq, tNext, tDrop, tRet, tRetN, tIfS, tAsg, gName, tAug, ipI, tVar, tC, tOp, tUn, rI, rI0, rU, tCons, tNil, tCB, tTup, tLst, tTest, tB, tAnd, tOr, tNot, tAndV, tOrV, tNotV, tIf, tCl, tCd, tCk, gSub, rPutL, rAtQ, rIntI, rLenQ, rLenS, rListQ, rTupL, rTupQ, rIsQ_c, kd_non, kd_bl, kd_int, kd_str, kd_ref, kdO_lst, kdO_tup, kit_NoneType_bool, kit_NoneType_int, kit_NoneType_str, kit_NoneType_list, kit_NoneType_tuple, kit_bool_bool, kit_bool_int, kit_bool_str, kit_bool_list, kit_bool_tuple, kit_int_bool, kit_int_int, kit_int_str, kit_int_list, kit_int_tuple, kit_str_bool, kit_str_int, kit_str_str, kit_str_list, kit_str_tuple, kit_list_bool, kit_list_int, kit_list_str, kit_list_list, kit_list_tuple, kit_tuple_bool, kit_tuple_int, kit_tuple_str, kit_tuple_list, kit_tuple_tuple, V.ty.injEq, rSortQ, rSlQ, rMulS, tJn, rAtX, rSlS, tSl, tPart, tNoPart, cut_lo2, cut_hi2, rInQ, gLq, gTq, gC_c, gNil, tChain, List.cons_append, List.nil_append, tBL, tBL0, tBad, tCr, tCe, tXF, cxH_K, HO.xd.injEq, rApp, rPopN, rRevL, seqAt_lst, seqAt_tup, at_0, at_1, at_2, at_3, at_4, ix_0, ix_1, ix_2, ix_3, ix_4, cx_K, upd_same, List.length_cons, List.length_nil, Nat.reduceAdd,  rEq, rNe, tRevL, V.int.injEq, V.bl.injEq, V.str.injEq, V.ref.injEq, List.cons.injEq, and_true, true_and, exists_and_left, exists_and_right, exists_eq_left, exists_eq_left', exists_eq_right, exists_eq_right', exists_const, Option.some.injEq, List.getElem?_cons_zero, List.getElem?_cons_succ, List.set_cons_zero, List.set_cons_succ, decide_eq_true_eq, decide_true, decide_false,  scal_ii, scal_bb, scal_ss, cmul_r, cdiv_l, cpow_12, cpow_18, cpow_40, HO.lst.injEq, HO.tup.injEq, upd_upd, Int.reduceToNat,  decide_not, Bool.not_eq_true', decide_eq_false_iff_not, if_true, if_false, Bool.false_eq_true, Bool.true_eq_false, reduceCtorEq, Int.reduceNeg, Nat.reduceLT, Int.reduceLT, Int.reducePow, gt_iff_lt]
        exact q _ _ (Same.refl H) rfl
      | str b =>
        obtain rfl : u = .str b := ru
        simp only [tSeq, tNext, tDrop, tRet, tRetN, tIfS, tAsg, gName, tAug, ipI, tVar, tC, tOp, tUn, rI, rI0, rU, tCons, tNil, tCB, tTup, tLst, tTest, tB, tAnd, tOr, tNot, tAndV, tOrV, tNotV, tIf, tCl, tCd, tCk, gSub, rPutL, rAtQ, rIntI, rLenQ, rLenS, rListQ, rTupL, rTupQ, rIsQ_c, kd_non, kd_bl, kd_int, kd_str, kd_ref, kdO_lst, kdO_tup, kit_NoneType_bool, kit_NoneType_int, kit_NoneType_str, kit_NoneType_list, kit_NoneType_tuple, kit_bool_bool, kit_bool_int, kit_bool_str, kit_bool_list, kit_bool_tuple, kit_int_bool, kit_int_int, kit_int_str, kit_int_list, kit_int_tuple, kit_str_bool, kit_str_int, kit_str_str, kit_str_list, kit_str_tuple, kit_list_bool, kit_list_int, kit_list_str, kit_list_list, kit_list_tuple, kit_tuple_bool, kit_tuple_int, kit_tuple_str, kit_tuple_list, kit_tuple_tuple, V.ty.injEq, rSortQ, rSlQ, rMulS, tJn, rAtX, rSlS, tSl, tPart, tNoPart, cut_lo2, cut_hi2, rInQ, gLq, gTq, gC_c, gNil, tChain, List.cons_append, List.nil_append, tBL, tBL0, tBad, tCr, tCe, tXF, cxH_K, HO.xd.injEq, rApp, rPopN, rRevL, seqAt_lst, seqAt_tup, at_0, at_1, at_2, at_3, at_4, ix_0, ix_1, ix_2, ix_3, ix_4, cx_K, upd_same, List.length_cons, List.length_nil, Nat.reduceAdd,  rEq, rNe, tRevL, V.int.injEq, V.bl.injEq, V.str.injEq, V.ref.injEq, List.cons.injEq, and_true, true_and, exists_and_left, exists_and_right, exists_eq_left, exists_eq_left', exists_eq_right, exists_eq_right', exists_const, Option.some.injEq, List.getElem?_cons_zero, List.getElem?_cons_succ, List.set_cons_zero, List.set_cons_succ, decide_eq_true_eq, decide_true, decide_false,  scal_ii, scal_bb, scal_ss, cmul_r, cdiv_l, cpow_12, cpow_18, cpow_40, HO.lst.injEq, HO.tup.injEq, upd_upd, Int.reduceToNat,  decide_not, Bool.not_eq_true', decide_eq_false_iff_not, if_true, if_false, Bool.false_eq_true, Bool.true_eq_false, reduceCtorEq, Int.reduceNeg, Nat.reduceLT, Int.reduceLT, Int.reducePow, gt_iff_lt]
        exact q _ _ (Same.refl H) rfl
      | lst ds =>
        obtain ⟨a, xs, rfl, na, ha, hx, pa⟩ := ru
        simp only [tSeq, tNext, tDrop, tRet, tRetN, tIfS, tAsg, gName, tAug, ipI, tVar, tC, tOp, tUn, rI, rI0, rU, tCons, tNil, tCB, tTup, tLst, tTest, tB, tAnd, tOr, tNot, tAndV, tOrV, tNotV, tIf, tCl, tCd, tCk, gSub, rPutL, rAtQ, rIntI, rLenQ, rLenS, rListQ, rTupL, rTupQ, rIsQ_c, kd_non, kd_bl, kd_int, kd_str, kd_ref, kdO_lst, kdO_tup, kit_NoneType_bool, kit_NoneType_int, kit_NoneType_str, kit_NoneType_list, kit_NoneType_tuple, kit_bool_bool, kit_bool_int, kit_bool_str, kit_bool_list, kit_bool_tuple, kit_int_bool, kit_int_int, kit_int_str, kit_int_list, kit_int_tuple, kit_str_bool, kit_str_int, kit_str_str, kit_str_list, kit_str_tuple, kit_list_bool, kit_list_int, kit_list_str, kit_list_list, kit_list_tuple, kit_tuple_bool, kit_tuple_int, kit_tuple_str, kit_tuple_list, kit_tuple_tuple, V.ty.injEq, rSortQ, rSlQ, rMulS, tJn, rAtX, rSlS, tSl, tPart, tNoPart, cut_lo2, cut_hi2, rInQ, gLq, gTq, gC_c, gNil, tChain, List.cons_append, List.nil_append, tBL, tBL0, tBad, tCr, tCe, tXF, cxH_K, HO.xd.injEq, rApp, rPopN, rRevL, seqAt_lst, seqAt_tup, at_0, at_1, at_2, at_3, at_4, ix_0, ix_1, ix_2, ix_3, ix_4, cx_K, upd_same, List.length_cons, List.length_nil, Nat.reduceAdd,  rEq, rNe, tRevL, V.int.injEq, V.bl.injEq, V.str.injEq, V.ref.injEq, List.cons.injEq, and_true, true_and, exists_and_left, exists_and_right, exists_eq_left, exists_eq_left', exists_eq_right, exists_eq_right', exists_const, Option.some.injEq, List.getElem?_cons_zero, List.getElem?_cons_succ, List.set_cons_zero, List.set_cons_succ, decide_eq_true_eq, decide_true, decide_false,  scal_ii, scal_bb, scal_ss, cmul_r, cdiv_l, cpow_12, cpow_18, cpow_40, HO.lst.injEq, HO.tup.injEq, upd_upd, Int.reduceToNat,  decide_not, Bool.not_eq_true', decide_eq_false_iff_not, if_true, if_false, Bool.false_eq_true, Bool.true_eq_false, reduceCtorEq, Int.reduceNeg, Nat.reduceLT, Int.reduceLT, Int.reducePow, gt_iff_lt, ha]
        refine z_lcL a xs (fun Q q => ?_) (SqL.of ha) (fun D i H' => Same H H' ∧ ∃ zs, H' D = some (.lst zs) ∧ zs.length = i ∧ Paired (fun v d => Rp (fun p => N p ∧ p ≠ D) H' n v d) zs (ds.take i)) (fun D hD => ⟨same_new hD, [], upd_same, rfl, .nil⟩) (fun v => rfl)
          (fun D i H' hD hI => SqL.of (hI.1 _ _ ha)) (fun D i x H' hD hx hI => ?_) (fun D H' hD hI => ?_)
        · simp only [tSeq, tNext, tDrop, tRet, tRetN, tIfS, tAsg, gName, tAug, ipI, tVar, tC, tOp, tUn, rI, rI0, rU, tCons, tNil, tCB, tTup, tLst, tTest, tB, tAnd, tOr, tNot, tAndV, tOrV, tNotV, tIf, tCl, tCd, tCk, gSub, rPutL, rAtQ, rIntI, rLenQ, rLenS, rListQ, rTupL, rTupQ, rIsQ_c, kd_non, kd_bl, kd_int, kd_str, kd_ref, kdO_lst, kdO_tup, kit_NoneType_bool, kit_NoneType_int, kit_NoneType_str, kit_NoneType_list, kit_NoneType_tuple, kit_bool_bool, kit_bool_int, kit_bool_str, kit_bool_list, kit_bool_tuple, kit_int_bool, kit_int_int, kit_int_str, kit_int_list, kit_int_tuple, kit_str_bool, kit_str_int, kit_str_str, kit_str_list, kit_str_tuple, kit_list_bool, kit_list_int, kit_list_str, kit_list_list, kit_list_tuple, kit_tuple_bool, kit_tuple_int, kit_tuple_str, kit_tuple_list, kit_tuple_tuple, V.ty.injEq, rSortQ, rSlQ, rMulS, tJn, rAtX, rSlS, tSl, tPart, tNoPart, cut_lo2, cut_hi2, rInQ, gLq, gTq, gC_c, gNil, tChain, List.cons_append, List.nil_append, tBL, tBL0, tBad, tCr, tCe, tXF, cxH_K, HO.xd.injEq, rApp, rPopN, rRevL, seqAt_lst, seqAt_tup, at_0, at_1, at_2, at_3, at_4, ix_0, ix_1, ix_2, ix_3, ix_4, cx_K, upd_same, List.length_cons, List.length_nil, Nat.reduceAdd,  rEq, rNe, tRevL, V.int.injEq, V.bl.injEq, V.str.injEq, V.ref.injEq, List.cons.injEq, and_true, true_and, exists_and_left, exists_and_right, exists_eq_left, exists_eq_left', exists_eq_right, exists_eq_right', exists_const, Option.some.injEq, List.getElem?_cons_zero, List.getElem?_cons_succ, List.set_cons_zero, List.set_cons_succ, decide_eq_true_eq, decide_true, decide_false,  scal_ii, scal_bb, scal_ss, cmul_r, cdiv_l, cpow_12, cpow_18, cpow_40, HO.lst.injEq, HO.tup.injEq, upd_upd, Int.reduceToNat,  decide_not, Bool.not_eq_true', decide_eq_false_iff_not, if_true, if_false, Bool.false_eq_true, Bool.true_eq_false, reduceCtorEq, Int.reduceNeg, Nat.reduceLT, Int.reduceLT, Int.reducePow, gt_iff_lt]
          exact q
        · obtain ⟨e1, zs, hz, hl, hp⟩ := hI
          obtain ⟨d, hd, rd⟩ := paired_get pa hx
          have ilt := (List.getElem?_eq_some_iff.mp hx).1
          simp only [tSeq, tNext, tDrop, tRet, tRetN, tIfS, tAsg, gName, tAug, ipI, tVar, tC, tOp, tUn, rI, rI0, rU, tCons, tNil, tCB, tTup, tLst, tTest, tB, tAnd, tOr, tNot, tAndV, tOrV, tNotV, tIf, tCl, tCd, tCk, gSub, rPutL, rAtQ, rIntI, rLenQ, rLenS, rListQ, rTupL, rTupQ, rIsQ_c, kd_non, kd_bl, kd_int, kd_str, kd_ref, kdO_lst, kdO_tup, kit_NoneType_bool, kit_NoneType_int, kit_NoneType_str, kit_NoneType_list, kit_NoneType_tuple, kit_bool_bool, kit_bool_int, kit_bool_str, kit_bool_list, kit_bool_tuple, kit_int_bool, kit_int_int, kit_int_str, kit_int_list, kit_int_tuple, kit_str_bool, kit_str_int, kit_str_str, kit_str_list, kit_str_tuple, kit_list_bool, kit_list_int, kit_list_str, kit_list_list, kit_list_tuple, kit_tuple_bool, kit_tuple_int, kit_tuple_str, kit_tuple_list, kit_tuple_tuple, V.ty.injEq, rSortQ, rSlQ, rMulS, tJn, rAtX, rSlS, tSl, tPart, tNoPart, cut_lo2, cut_hi2, rInQ, gLq, gTq, gC_c, gNil, tChain, List.cons_append, List.nil_append, tBL, tBL0, tBad, tCr, tCe, tXF, cxH_K, HO.xd.injEq, rApp, rPopN, rRevL, seqAt_lst, seqAt_tup, at_0, at_1, at_2, at_3, at_4, ix_0, ix_1, ix_2, ix_3, ix_4, cx_K, upd_same, List.length_cons, List.length_nil, Nat.reduceAdd,  rEq, rNe, tRevL, V.int.injEq, V.bl.injEq, V.str.injEq, V.ref.injEq, List.cons.injEq, and_true, true_and, exists_and_left, exists_and_right, exists_eq_left, exists_eq_left', exists_eq_right, exists_eq_right', exists_const, Option.some.injEq, List.getElem?_cons_zero, List.getElem?_cons_succ, List.set_cons_zero, List.set_cons_succ, decide_eq_true_eq, decide_true, decide_false,  scal_ii, scal_bb, scal_ss, cmul_r, cdiv_l, cpow_12, cpow_18, cpow_40, HO.lst.injEq, HO.tup.injEq, upd_upd, Int.reduceToNat,  decide_not, Bool.not_eq_true', decide_eq_false_iff_not, if_true, if_false, Bool.false_eq_true, Bool.true_eq_false, reduceCtorEq, Int.reduceNeg, Nat.reduceLT, Int.reduceLT, Int.reducePow, gt_iff_lt, wipe, List.map_cons, List.map_nil]
          refine ⟨fun p => N p ∧ p ≠ D, _, d, rfl, (rd.off hD).same e1, fun p hp' => ⟨hN p (e1.free hp'), (ne_of_none hz hp').symm⟩, fun v H2 e2 rv => ?_⟩
          simp only [tSeq, tNext, tDrop, tRet, tRetN, tIfS, tAsg, gName, tAug, ipI, tVar, tC, tOp, tUn, rI, rI0, rU, tCons, tNil, tCB, tTup, tLst, tTest, tB, tAnd, tOr, tNot, tAndV, tOrV, tNotV, tIf, tCl, tCd, tCk, gSub, rPutL, rAtQ, rIntI, rLenQ, rLenS, rListQ, rTupL, rTupQ, rIsQ_c, kd_non, kd_bl, kd_int, kd_str, kd_ref, kdO_lst, kdO_tup, kit_NoneType_bool, kit_NoneType_int, kit_NoneType_str, kit_NoneType_list, kit_NoneType_tuple, kit_bool_bool, kit_bool_int, kit_bool_str, kit_bool_list, kit_bool_tuple, kit_int_bool, kit_int_int, kit_int_str, kit_int_list, kit_int_tuple, kit_str_bool, kit_str_int, kit_str_str, kit_str_list, kit_str_tuple, kit_list_bool, kit_list_int, kit_list_str, kit_list_list, kit_list_tuple, kit_tuple_bool, kit_tuple_int, kit_tuple_str, kit_tuple_list, kit_tuple_tuple, V.ty.injEq, rSortQ, rSlQ, rMulS, tJn, rAtX, rSlS, tSl, tPart, tNoPart, cut_lo2, cut_hi2, rInQ, gLq, gTq, gC_c, gNil, tChain, List.cons_append, List.nil_append, tBL, tBL0, tBad, tCr, tCe, tXF, cxH_K, HO.xd.injEq, rApp, rPopN, rRevL, seqAt_lst, seqAt_tup, at_0, at_1, at_2, at_3, at_4, ix_0, ix_1, ix_2, ix_3, ix_4, cx_K, upd_same, List.length_cons, List.length_nil, Nat.reduceAdd,  rEq, rNe, tRevL, V.int.injEq, V.bl.injEq, V.str.injEq, V.ref.injEq, List.cons.injEq, and_true, true_and, exists_and_left, exists_and_right, exists_eq_left, exists_eq_left', exists_eq_right, exists_eq_right', exists_const, Option.some.injEq, List.getElem?_cons_zero, List.getElem?_cons_succ, List.set_cons_zero, List.set_cons_succ, decide_eq_true_eq, decide_true, decide_false,  scal_ii, scal_bb, scal_ss, cmul_r, cdiv_l, cpow_12, cpow_18, cpow_40, HO.lst.injEq, HO.tup.injEq, upd_upd, Int.reduceToNat,  decide_not, Bool.not_eq_true', decide_eq_false_iff_not, if_true, if_false, Bool.false_eq_true, Bool.true_eq_false, reduceCtorEq, Int.reduceNeg, Nat.reduceLT, Int.reduceLT, Int.reducePow, gt_iff_lt]
          refine ⟨zs, e2 _ _ hz, sz_lt (by omega), fun b o h => ?_, by rw [List.length_append, hl] <;> rfl, ?_⟩
          · rw [upd_ne (ne_of_none h hD)]
            exact e2 _ _ (e1 _ _ h)
          · rw [List.take_add_one, hd]
            exact paired_snoc rv.upd (paired_imp (fun _ _ r => (r.same e2).upd) hp)
        · obtain ⟨e1, zs, hz, hl, hp⟩ := hI
          rw [paired_len pa, List.take_length] at hp
          exact q _ H' e1 ⟨D, zs, rfl, hN D hD, hz, by omega, paired_imp (fun _ _ r => r.on) hp⟩
      | tup ds =>
        obtain ⟨a, xs, rfl, na, ha, hx, pa⟩ := ru
        simp only [tSeq, tNext, tDrop, tRet, tRetN, tIfS, tAsg, gName, tAug, ipI, tVar, tC, tOp, tUn, rI, rI0, rU, tCons, tNil, tCB, tTup, tLst, tTest, tB, tAnd, tOr, tNot, tAndV, tOrV, tNotV, tIf, tCl, tCd, tCk, gSub, rPutL, rAtQ, rIntI, rLenQ, rLenS, rListQ, rTupL, rTupQ, rIsQ_c, kd_non, kd_bl, kd_int, kd_str, kd_ref, kdO_lst, kdO_tup, kit_NoneType_bool, kit_NoneType_int, kit_NoneType_str, kit_NoneType_list, kit_NoneType_tuple, kit_bool_bool, kit_bool_int, kit_bool_str, kit_bool_list, kit_bool_tuple, kit_int_bool, kit_int_int, kit_int_str, kit_int_list, kit_int_tuple, kit_str_bool, kit_str_int, kit_str_str, kit_str_list, kit_str_tuple, kit_list_bool, kit_list_int, kit_list_str, kit_list_list, kit_list_tuple, kit_tuple_bool, kit_tuple_int, kit_tuple_str, kit_tuple_list, kit_tuple_tuple, V.ty.injEq, rSortQ, rSlQ, rMulS, tJn, rAtX, rSlS, tSl, tPart, tNoPart, cut_lo2, cut_hi2, rInQ, gLq, gTq, gC_c, gNil, tChain, List.cons_append, List.nil_append, tBL, tBL0, tBad, tCr, tCe, tXF, cxH_K, HO.xd.injEq, rApp, rPopN, rRevL, seqAt_lst, seqAt_tup, at_0, at_1, at_2, at_3, at_4, ix_0, ix_1, ix_2, ix_3, ix_4, cx_K, upd_same, List.length_cons, List.length_nil, Nat.reduceAdd,  rEq, rNe, tRevL, V.int.injEq, V.bl.injEq, V.str.injEq, V.ref.injEq, List.cons.injEq, and_true, true_and, exists_and_left, exists_and_right, exists_eq_left, exists_eq_left', exists_eq_right, exists_eq_right', exists_const, Option.some.injEq, List.getElem?_cons_zero, List.getElem?_cons_succ, List.set_cons_zero, List.set_cons_succ, decide_eq_true_eq, decide_true, decide_false,  scal_ii, scal_bb, scal_ss, cmul_r, cdiv_l, cpow_12, cpow_18, cpow_40, HO.lst.injEq, HO.tup.injEq, upd_upd, Int.reduceToNat,  decide_not, Bool.not_eq_true', decide_eq_false_iff_not, if_true, if_false, Bool.false_eq_true, Bool.true_eq_false, reduceCtorEq, Int.reduceNeg, Nat.reduceLT, Int.reduceLT, Int.reducePow, gt_iff_lt, ha]
        refine z_lcT a xs (fun Q q => ?_) (SqT.of ha) (fun D i H' => Same H H' ∧ ∃ zs, H' D = some (.lst zs) ∧ zs.length = i ∧ Paired (fun v d => Rp (fun p => N p ∧ p ≠ D) H' n v d) zs (ds.take i)) (fun D hD => ⟨same_new hD, [], upd_same, rfl, .nil⟩) (fun v => rfl)
          (fun D i H' hD hI => SqT.of (hI.1 _ _ ha)) (fun D i x H' hD hx hI => ?_) (fun D H' hD hI => ?_)
        · simp only [tSeq, tNext, tDrop, tRet, tRetN, tIfS, tAsg, gName, tAug, ipI, tVar, tC, tOp, tUn, rI, rI0, rU, tCons, tNil, tCB, tTup, tLst, tTest, tB, tAnd, tOr, tNot, tAndV, tOrV, tNotV, tIf, tCl, tCd, tCk, gSub, rPutL, rAtQ, rIntI, rLenQ, rLenS, rListQ, rTupL, rTupQ, rIsQ_c, kd_non, kd_bl, kd_int, kd_str, kd_ref, kdO_lst, kdO_tup, kit_NoneType_bool, kit_NoneType_int, kit_NoneType_str, kit_NoneType_list, kit_NoneType_tuple, kit_bool_bool, kit_bool_int, kit_bool_str, kit_bool_list, kit_bool_tuple, kit_int_bool, kit_int_int, kit_int_str, kit_int_list, kit_int_tuple, kit_str_bool, kit_str_int, kit_str_str, kit_str_list, kit_str_tuple, kit_list_bool, kit_list_int, kit_list_str, kit_list_list, kit_list_tuple, kit_tuple_bool, kit_tuple_int, kit_tuple_str, kit_tuple_list, kit_tuple_tuple, V.ty.injEq, rSortQ, rSlQ, rMulS, tJn, rAtX, rSlS, tSl, tPart, tNoPart, cut_lo2, cut_hi2, rInQ, gLq, gTq, gC_c, gNil, tChain, List.cons_append, List.nil_append, tBL, tBL0, tBad, tCr, tCe, tXF, cxH_K, HO.xd.injEq, rApp, rPopN, rRevL, seqAt_lst, seqAt_tup, at_0, at_1, at_2, at_3, at_4, ix_0, ix_1, ix_2, ix_3, ix_4, cx_K, upd_same, List.length_cons, List.length_nil, Nat.reduceAdd,  rEq, rNe, tRevL, V.int.injEq, V.bl.injEq, V.str.injEq, V.ref.injEq, List.cons.injEq, and_true, true_and, exists_and_left, exists_and_right, exists_eq_left, exists_eq_left', exists_eq_right, exists_eq_right', exists_const, Option.some.injEq, List.getElem?_cons_zero, List.getElem?_cons_succ, List.set_cons_zero, List.set_cons_succ, decide_eq_true_eq, decide_true, decide_false,  scal_ii, scal_bb, scal_ss, cmul_r, cdiv_l, cpow_12, cpow_18, cpow_40, HO.lst.injEq, HO.tup.injEq, upd_upd, Int.reduceToNat,  decide_not, Bool.not_eq_true', decide_eq_false_iff_not, if_true, if_false, Bool.false_eq_true, Bool.true_eq_false, reduceCtorEq, Int.reduceNeg, Nat.reduceLT, Int.reduceLT, Int.reducePow, gt_iff_lt]
          exact q
        · obtain ⟨e1, zs, hz, hl, hp⟩ := hI
          obtain ⟨d, hd, rd⟩ := paired_get pa hx
          have ilt := (List.getElem?_eq_some_iff.mp hx).1
          simp only [tSeq, tNext, tDrop, tRet, tRetN, tIfS, tAsg, gName, tAug, ipI, tVar, tC, tOp, tUn, rI, rI0, rU, tCons, tNil, tCB, tTup, tLst, tTest, tB, tAnd, tOr, tNot, tAndV, tOrV, tNotV, tIf, tCl, tCd, tCk, gSub, rPutL, rAtQ, rIntI, rLenQ, rLenS, rListQ, rTupL, rTupQ, rIsQ_c, kd_non, kd_bl, kd_int, kd_str, kd_ref, kdO_lst, kdO_tup, kit_NoneType_bool, kit_NoneType_int, kit_NoneType_str, kit_NoneType_list, kit_NoneType_tuple, kit_bool_bool, kit_bool_int, kit_bool_str, kit_bool_list, kit_bool_tuple, kit_int_bool, kit_int_int, kit_int_str, kit_int_list, kit_int_tuple, kit_str_bool, kit_str_int, kit_str_str, kit_str_list, kit_str_tuple, kit_list_bool, kit_list_int, kit_list_str, kit_list_list, kit_list_tuple, kit_tuple_bool, kit_tuple_int, kit_tuple_str, kit_tuple_list, kit_tuple_tuple, V.ty.injEq, rSortQ, rSlQ, rMulS, tJn, rAtX, rSlS, tSl, tPart, tNoPart, cut_lo2, cut_hi2, rInQ, gLq, gTq, gC_c, gNil, tChain, List.cons_append, List.nil_append, tBL, tBL0, tBad, tCr, tCe, tXF, cxH_K, HO.xd.injEq, rApp, rPopN, rRevL, seqAt_lst, seqAt_tup, at_0, at_1, at_2, at_3, at_4, ix_0, ix_1, ix_2, ix_3, ix_4, cx_K, upd_same, List.length_cons, List.length_nil, Nat.reduceAdd,  rEq, rNe, tRevL, V.int.injEq, V.bl.injEq, V.str.injEq, V.ref.injEq, List.cons.injEq, and_true, true_and, exists_and_left, exists_and_right, exists_eq_left, exists_eq_left', exists_eq_right, exists_eq_right', exists_const, Option.some.injEq, List.getElem?_cons_zero, List.getElem?_cons_succ, List.set_cons_zero, List.set_cons_succ, decide_eq_true_eq, decide_true, decide_false,  scal_ii, scal_bb, scal_ss, cmul_r, cdiv_l, cpow_12, cpow_18, cpow_40, HO.lst.injEq, HO.tup.injEq, upd_upd, Int.reduceToNat,  decide_not, Bool.not_eq_true', decide_eq_false_iff_not, if_true, if_false, Bool.false_eq_true, Bool.true_eq_false, reduceCtorEq, Int.reduceNeg, Nat.reduceLT, Int.reduceLT, Int.reducePow, gt_iff_lt, wipe, List.map_cons, List.map_nil]
          refine ⟨fun p => N p ∧ p ≠ D, _, d, rfl, (rd.off hD).same e1, fun p hp' => ⟨hN p (e1.free hp'), (ne_of_none hz hp').symm⟩, fun v H2 e2 rv => ?_⟩
          simp only [tSeq, tNext, tDrop, tRet, tRetN, tIfS, tAsg, gName, tAug, ipI, tVar, tC, tOp, tUn, rI, rI0, rU, tCons, tNil, tCB, tTup, tLst, tTest, tB, tAnd, tOr, tNot, tAndV, tOrV, tNotV, tIf, tCl, tCd, tCk, gSub, rPutL, rAtQ, rIntI, rLenQ, rLenS, rListQ, rTupL, rTupQ, rIsQ_c, kd_non, kd_bl, kd_int, kd_str, kd_ref, kdO_lst, kdO_tup, kit_NoneType_bool, kit_NoneType_int, kit_NoneType_str, kit_NoneType_list, kit_NoneType_tuple, kit_bool_bool, kit_bool_int, kit_bool_str, kit_bool_list, kit_bool_tuple, kit_int_bool, kit_int_int, kit_int_str, kit_int_list, kit_int_tuple, kit_str_bool, kit_str_int, kit_str_str, kit_str_list, kit_str_tuple, kit_list_bool, kit_list_int, kit_list_str, kit_list_list, kit_list_tuple, kit_tuple_bool, kit_tuple_int, kit_tuple_str, kit_tuple_list, kit_tuple_tuple, V.ty.injEq, rSortQ, rSlQ, rMulS, tJn, rAtX, rSlS, tSl, tPart, tNoPart, cut_lo2, cut_hi2, rInQ, gLq, gTq, gC_c, gNil, tChain, List.cons_append, List.nil_append, tBL, tBL0, tBad, tCr, tCe, tXF, cxH_K, HO.xd.injEq, rApp, rPopN, rRevL, seqAt_lst, seqAt_tup, at_0, at_1, at_2, at_3, at_4, ix_0, ix_1, ix_2, ix_3, ix_4, cx_K, upd_same, List.length_cons, List.length_nil, Nat.reduceAdd,  rEq, rNe, tRevL, V.int.injEq, V.bl.injEq, V.str.injEq, V.ref.injEq, List.cons.injEq, and_true, true_and, exists_and_left, exists_and_right, exists_eq_left, exists_eq_left', exists_eq_right, exists_eq_right', exists_const, Option.some.injEq, List.getElem?_cons_zero, List.getElem?_cons_succ, List.set_cons_zero, List.set_cons_succ, decide_eq_true_eq, decide_true, decide_false,  scal_ii, scal_bb, scal_ss, cmul_r, cdiv_l, cpow_12, cpow_18, cpow_40, HO.lst.injEq, HO.tup.injEq, upd_upd, Int.reduceToNat,  decide_not, Bool.not_eq_true', decide_eq_false_iff_not, if_true, if_false, Bool.false_eq_true, Bool.true_eq_false, reduceCtorEq, Int.reduceNeg, Nat.reduceLT, Int.reduceLT, Int.reducePow, gt_iff_lt]
          refine ⟨zs, e2 _ _ hz, sz_lt (by omega), fun b o h => ?_, by rw [List.length_append, hl] <;> rfl, ?_⟩
          · rw [upd_ne (ne_of_none h hD)]
            exact e2 _ _ (e1 _ _ h)
          · rw [List.take_add_one, hd]
            exact paired_snoc rv.upd (paired_imp (fun _ _ r => (r.same e2).upd) hp)
        · obtain ⟨e1, zs, hz, hl, hp⟩ := hI
          rw [paired_len pa, List.take_length] at hp
          simp only [tSeq, tNext, tDrop, tRet, tRetN, tIfS, tAsg, gName, tAug, ipI, tVar, tC, tOp, tUn, rI, rI0, rU, tCons, tNil, tCB, tTup, tLst, tTest, tB, tAnd, tOr, tNot, tAndV, tOrV, tNotV, tIf, tCl, tCd, tCk, gSub, rPutL, rAtQ, rIntI, rLenQ, rLenS, rListQ, rTupL, rTupQ, rIsQ_c, kd_non, kd_bl, kd_int, kd_str, kd_ref, kdO_lst, kdO_tup, kit_NoneType_bool, kit_NoneType_int, kit_NoneType_str, kit_NoneType_list, kit_NoneType_tuple, kit_bool_bool, kit_bool_int, kit_bool_str, kit_bool_list, kit_bool_tuple, kit_int_bool, kit_int_int, kit_int_str, kit_int_list, kit_int_tuple, kit_str_bool, kit_str_int, kit_str_str, kit_str_list, kit_str_tuple, kit_list_bool, kit_list_int, kit_list_str, kit_list_list, kit_list_tuple, kit_tuple_bool, kit_tuple_int, kit_tuple_str, kit_tuple_list, kit_tuple_tuple, V.ty.injEq, rSortQ, rSlQ, rMulS, tJn, rAtX, rSlS, tSl, tPart, tNoPart, cut_lo2, cut_hi2, rInQ, gLq, gTq, gC_c, gNil, tChain, List.cons_append, List.nil_append, tBL, tBL0, tBad, tCr, tCe, tXF, cxH_K, HO.xd.injEq, rApp, rPopN, rRevL, seqAt_lst, seqAt_tup, at_0, at_1, at_2, at_3, at_4, ix_0, ix_1, ix_2, ix_3, ix_4, cx_K, upd_same, List.length_cons, List.length_nil, Nat.reduceAdd,  rEq, rNe, tRevL, V.int.injEq, V.bl.injEq, V.str.injEq, V.ref.injEq, List.cons.injEq, and_true, true_and, exists_and_left, exists_and_right, exists_eq_left, exists_eq_left', exists_eq_right, exists_eq_right', exists_const, Option.some.injEq, List.getElem?_cons_zero, List.getElem?_cons_succ, List.set_cons_zero, List.set_cons_succ, decide_eq_true_eq, decide_true, decide_false,  scal_ii, scal_bb, scal_ss, cmul_r, cdiv_l, cpow_12, cpow_18, cpow_40, HO.lst.injEq, HO.tup.injEq, upd_upd, Int.reduceToNat,  decide_not, Bool.not_eq_true', decide_eq_false_iff_not, if_true, if_false, Bool.false_eq_true, Bool.true_eq_false, reduceCtorEq, Int.reduceNeg, Nat.reduceLT, Int.reduceLT, Int.reducePow, gt_iff_lt, hz]
          intro l hl'
          exact q _ _ (e1.trans (same_new hl')) ⟨l, zs, rfl, hN l (e1.free hl'), upd_same, by omega, paired_imp (fun _ _ r => r.on.same (same_new hl')) hp⟩
end
end Z

set_option Elab.async false
set_option linter.all false
set_option maxRecDepth 100000
set_option maxHeartbeats 4000000
namespace Z
open PySem PySem.Spec PyProof.Rows L2
section
variable {P : Program} {w : World} {K : PySem.W.Frag} {mg : Str → Option Value} {base : Heap}
/-! ### two pairs that stand crosswise -/
theorem crossB_iff {a b c d : Int} : crossB a b c d = true ↔ (min a b < c ∧ c < max a b ∧ (d < min a b ∨ max a b < d)) ∨ (min a b < d ∧ d < max a b ∧ (c < min a b ∨ max a b < c)) := by
  unfold crossB
  by_cases h : (c = min a b ∨ d = min a b) ∨ (c = max a b ∨ d = max a b)
  · rw [if_pos h]
    constructor
    · intro z
      cases z
    · omega
  · rw [if_neg h]
    by_cases h1 : min a b < c ∧ c < max a b <;> by_cases h2 : min a b < d ∧ d < max a b
    · rw [decide_eq_true h1, decide_eq_true h2]
      refine ⟨fun z => Bool.noConfusion z, fun z => ?_⟩
      omega
    · rw [decide_eq_true h1, decide_eq_false h2]
      refine ⟨fun z => ?_, fun z => rfl⟩
      omega
    · rw [decide_eq_false h1, decide_eq_true h2]
      refine ⟨fun z => ?_, fun z => rfl⟩
      omega
    · rw [decide_eq_false h1, decide_eq_false h2]
      refine ⟨fun z => Bool.noConfusion z, fun z => ?_⟩
      omega
theorem crossB_swap1 {a b c d : Int} : crossB b a c d = crossB a b c d := by
  rw [Bool.eq_iff_iff, crossB_iff, crossB_iff]
  omega
theorem crossB_swap2 {a b c d : Int} : crossB a b d c = crossB a b c d := by
  rw [Bool.eq_iff_iff, crossB_iff, crossB_iff]
  omega
theorem crossB_sym {a b c d : Int} : crossB c d a b = crossB a b c d := by
  rw [Bool.eq_iff_iff, crossB_iff, crossB_iff]
  omega
theorem perm2 {ys : List V} {a b : Int} (h : ys.Perm [.int a, .int b]) : ys = [.int a, .int b] ∨ ys = [.int b, .int a] := by
  have e := h.length_eq
  match ys, e with
  | [x, y], _ =>
    have m1 : x ∈ [V.int a, V.int b] := h.mem_iff.mp (by simp)
    simp only [List.mem_cons, List.not_mem_nil, or_false] at m1
    rcases m1 with rfl | rfl
    · have z := (List.perm_cons _).mp h
      have z2 := List.perm_singleton.mp z
      cases z2
      exact .inl rfl
    · have z := (List.perm_cons (V.int b)).mp (h.trans (List.Perm.swap _ _ _))
      have z2 := List.perm_singleton.mp z
      cases z2
      exact .inr rfl
theorem perm2' {ys : List V} {a b : Int} (h : ys.Perm [.int a, .int b]) : ∃ y z : Int, ys = [.int y, .int z] ∧ (∀ c d, crossB y z c d = crossB a b c d) ∧ ∀ c d, crossB c d y z = crossB c d a b := by
  rcases perm2 h with rfl | rfl
  · exact ⟨a, b, rfl, fun _ _ => rfl, fun _ _ => rfl⟩
  · exact ⟨b, a, rfl, fun _ _ => crossB_swap1, fun _ _ => crossB_swap2⟩
theorem rp_pair {N : Addr → Prop} {H : Hp} {c : Addr} {x y : Int} (n : N c) (h : seqAt (H c) = some [.int x, .int y]) : ∃ d, Rp N H 4 (.ref c) d := by
  obtain ⟨o, e, h'⟩ := seq_some h
  cases o with
  | lst xs =>
    cases h'
    exact ⟨.lst [.int x, .int y], c, _, rfl, n, e, (by show 2 ≤ 1000; decide), .cons rfl (.cons rfl .nil)⟩
  | tup xs =>
    cases h'
    exact ⟨.tup [.int x, .int y], c, _, rfl, n, e, (by show 2 ≤ 1000; decide), .cons rfl (.cons rfl .nil)⟩
  | _ => cases h'
/-- by the sorted four: do they rise, and do the first and the third belong together -/
theorem due_ok {a b c d s0 s1 s2 s3 : Int} (hp : [s0, s1, s2, s3].Perm [a, b, c, d]) (hs : [s0, s1, s2, s3].Pairwise (· ≤ ·)) :
    crossB a b c d = (decide ([s0, s1, s2, s3].Pairwise (· < ·)) && decide (decide (a = s0 ∨ b = s0) = decide (a = s2 ∨ b = s2))) := by
  have o01 : s0 ≤ s1 := by simp at hs; omega
  have o12 : s1 ≤ s2 := by simp at hs; omega
  have o23 : s2 ≤ s3 := by simp at hs; omega
  by_cases r : [s0, s1, s2, s3].Pairwise (· < ·)
  · have p01 : s0 < s1 := by simp at r; omega
    have p12 : s1 < s2 := by simp at r; omega
    have p23 : s2 < s3 := by simp at r; omega
    rw [decide_eq_true r, Bool.true_and]
    have m0 : s0 ∈ [a, b, c, d] := hp.mem_iff.mp (by simp)
    have m1 : s1 ∈ [a, b, c, d] := hp.mem_iff.mp (by simp)
    have m2 : s2 ∈ [a, b, c, d] := hp.mem_iff.mp (by simp)
    have m3 : s3 ∈ [a, b, c, d] := hp.mem_iff.mp (by simp)
    simp only [List.mem_cons, List.not_mem_nil, or_false] at m0 m1 m2 m3
    rw [Bool.eq_iff_iff, crossB_iff, decide_eq_true_eq, Bool.eq_iff_iff, decide_eq_true_eq, decide_eq_true_eq]
    rcases m0 with rfl | rfl | rfl | rfl <;> rcases m1 with h1 | h1 | h1 | h1 <;> (try omega) <;> rcases m2 with h2 | h2 | h2 | h2 <;> (try omega) <;> rcases m3 with h3 | h3 | h3 | h3 <;> omega
  · rw [decide_eq_false r, Bool.false_and]
    have nd : ¬ [s0, s1, s2, s3].Nodup := fun z => r (by
      simp at z
      simp
      omega)
    have nd2 : ¬ [a, b, c, d].Nodup := fun z => nd (hp.nodup_iff.mpr z)
    have e : a = b ∨ a = c ∨ a = d ∨ b = c ∨ b = d ∨ c = d := by
      by_cases h : a = b ∨ a = c ∨ a = d ∨ b = c ∨ b = d ∨ c = d
      · exact h
      · refine absurd ?_ nd2
        simp
        omega
    cases hc : crossB a b c d with
    | false => rfl
    | true =>
      have z := crossB_iff.mp hc
      omega
def sp_law (b : Bool) : Sp := fun vs H Q _ => ∃ (S : Sto), vs = [.ref S.a] ∧ Store S H ∧ ∀ H', Drew S H H' → Q (.bl b) H'
end
end Z

set_option Elab.async false
set_option linter.all false
set_option maxRecDepth 100000
set_option maxHeartbeats 4000000
namespace Z
open PySem PySem.Spec PyProof.Rows L2
section
variable {P : Program} {w : World} {K : PySem.W.Frag} {mg : Str → Option Value} {base : Heap}
def sp_many : Sp := fun vs H Q _ => ∃ (S : Sto) (n : Int), vs = [.ref S.a, .int n] ∧ Store S H ∧ 1 ≤ n ∧ n ≤ 10 ∧ ∀ H', Drew S H H' → Q (.bl true) H'
/-- flat, or a tuple of such -/
def Fz (H : Hp) : Nat → V → Prop
  | 0, _ => False
  | n + 1, v => flatV v = true ∨ ∃ a xs, v = .ref a ∧ H a = some (.tup xs) ∧ xs.length ≤ 1000 ∧ ∀ x ∈ xs, Fz H n x
theorem Fz.same {H H' : Hp} (e : Same H H') : ∀ {n : Nat} {v : V}, Fz H n v → Fz H' n v
  | 0, _, h => h
  | n + 1, v, h => h.elim .inl fun ⟨a, xs, e1, e2, l, f⟩ => .inr ⟨a, xs, e1, e _ _ e2, l, fun x hx => Fz.same e (f x hx)⟩
def sp_spoil (n : Nat) : Sp := fun vs H Q _ => ∃ u, vs = [u] ∧ ((Fz H n u ∧ ∀ H', Same H H' → Q .non H') ∨ ∃ p xs, u = .ref p ∧ H p = some (.lst xs) ∧ xs.length ≤ 1000 ∧ n ≠ 0 ∧ (∀ x ∈ xs, Fz H (n - 1) x) ∧ ∀ H', But (fun b => b = p) H H' → Q .non H')
theorem inV_ints {x : Int} {ns : List Int} : inV (.int x) (ns.map V.int) = decide (x ∈ ns) := by
  unfold inV
  rw [List.any_map, Bool.eq_iff_iff, List.any_eq_true, decide_eq_true_eq]
  constructor
  · rintro ⟨y, hy, e⟩
    have e' : (decide (y = x) : Bool) = true ∨ (y == x) = true := by
      first | exact .inr e | exact .inl e
    rcases e' with e' | e'
    · rw [← of_decide_eq_true e']
      exact hy
    · rw [← eq_of_beq e']
      exact hy
  · intro h
    exact ⟨x, h, by show eqV (.int x) (.int x) = true; simp [eqV]⟩
theorem atI_snoc {α : Type} {xs : List α} {v : α} : atI (xs ++ [v]) (-1) = some v := atI_last xs v
theorem ix_back {n : Nat} (h : 0 < n) : ixN n (-1) = some (n - 1) := by
  unfold ixN
  rw [if_neg (by decide), if_pos (by omega)]
  congr 1
  omega
theorem set_snoc {α : Type} {x y : α} : ∀ {xs : List α}, (xs ++ [x]).set xs.length y = xs ++ [y]
  | [] => rfl
  | z :: xs => congrArg (z :: ·) (set_snoc (xs := xs))
/-- the j-th position behind a -/
theorem spanL_eq {n a b : Int} (m : Nat) (h : (b - a) % n = m) : spanL n a b = (List.range m).map (fun i : Nat => (a + (i : Int)) % n) ++ [(a + (m : Int)) % n] := by
  unfold spanL
  rw [h, show ((m : Int) + 1).toNat = m + 1 by omega, List.range_succ, List.map_append]
  rfl
theorem span_mem {n a b x : Int} (hn : 0 < n) (hx : 0 ≤ x ∧ x < n) : x ∈ spanL n a b ↔ (x - a) % n ≤ (b - a) % n := by
  unfold spanL
  have m0 := Int.emod_nonneg (b - a) (show n ≠ 0 by omega)
  have k0 := Int.emod_nonneg (x - a) (show n ≠ 0 by omega)
  have k1 := Int.emod_lt_of_pos (x - a) hn
  rw [List.mem_map]
  constructor
  · rintro ⟨j, hj, rfl⟩
    rw [List.mem_range] at hj
    have e : ((a + (j : Int)) % n - a) % n = (j : Int) % n := by
      rw [Int.sub_emod, Int.emod_emod, ← Int.sub_emod]
      congr 1
      omega
    rw [e]
    have := Int.emod_lt_of_pos (b - a) hn
    rw [Int.emod_eq_of_lt (by omega) (by omega)]
    omega
  · intro h
    refine ⟨((x - a) % n).toNat, List.mem_range.mpr (by omega), ?_⟩
    rw [show (((x - a) % n).toNat : Int) = (x - a) % n by omega, Int.add_emod, Int.emod_emod, ← Int.add_emod, show a + (x - a) = x by omega]
    exact Int.emod_eq_of_lt hx.1 hx.2
end
end Z

set_option Elab.async false
set_option linter.all false
set_option maxRecDepth 100000
set_option maxHeartbeats 4000000
namespace Z
open PySem PySem.Spec PyProof.Rows L2
section
variable {P : Program} {w : World} {K : PySem.W.Frag} {mg : Str → Option Value} {base : Heap}
/-- a text of at most n signs -/
def sp_txt (n : Nat) : Sp := fun vs H Q _ => ∃ S : Sto, vs = [.ref S.a] ∧ Store S H ∧ ∀ (x : Str) (H' : Hp), Drew S H H' → Tx n x → Q (.str x) H'
def sp_text : Sp := fun vs H Q _ => ∃ (S : Sto) (n : Nat), vs = [.ref S.a, .int n] ∧ Store S H ∧ n ≤ 1000 ∧ ∀ (x : Str) (H' : Hp), Drew S H H' → Tx n x → Q (.str x) H'
end
end Z

set_option Elab.async false
set_option linter.all false
set_option maxRecDepth 100000
set_option maxHeartbeats 4000000
namespace Z
open PySem PySem.Spec PyProof.Rows L2
section
variable {P : Program} {w : World} {K : PySem.W.Frag} {mg : Str → Option Value} {base : Heap}
theorem strs_of {F : Str → Prop} : ∀ {ys : List V}, (∀ y ∈ ys, ∃ z, y = V.str z ∧ F z) → ∃ zs : List Str, ys = zs.map V.str ∧ ∀ z ∈ zs, F z
  | [], _ => ⟨[], rfl, fun _ h => by cases h⟩
  | y :: ys, h => by
    obtain ⟨z, rfl, hz⟩ := h y List.mem_cons_self
    obtain ⟨zs, rfl, t⟩ := strs_of fun y hy => h y (List.mem_cons_of_mem _ hy)
    exact ⟨z :: zs, rfl, fun x hx => (List.mem_cons.mp hx).elim (fun e => e ▸ hz) (t x)⟩
/-- a new list of eight texts -/
def sp_words : Sp := fun vs H Q _ => ∃ S : Sto, vs = [.ref S.a] ∧ Store S H ∧ ∀ (p : Addr) (xs : List Str) (H' : Hp), Drew S H H' → H p = none → H' p = some (.lst (xs.map V.str)) → xs.length = 8 → (∀ x ∈ xs, Tx 1000 x) → Q (.ref p) H'
end
end Z

set_option Elab.async false
set_option linter.all false
set_option maxRecDepth 100000
set_option maxHeartbeats 4000000
namespace Z
open PySem PySem.Spec PyProof.Rows L2
section
variable {P : Program} {w : World} {K : PySem.W.Frag} {mg : Str → Option Value} {base : Heap}
/-! ### names -/
def isLet (c : Nat) : Bool := decide (c ∈ (Str.ofString "abcdefghijklmnopqrstuvwxyz").cps.toList)
def isDig (c : Nat) : Bool := decide (c ∈ (Str.ofString "0123456789").cps.toList)
def goodL : List Nat → Bool
  | [] => false
  | c :: cs => decide (cs.length < 8) && (isLet c && (c :: cs).all fun d => isLet d || isDig d)
theorem goodL_cons {c : Nat} {cs : List Nat} : goodL (c :: cs) = (decide (cs.length < 8) && (isLet c && (c :: cs).all fun d => isLet d || isDig d)) := rfl
theorem goodL_nil : goodL [] = false := rfl
def good (x : Str) : Bool := goodL x.cps.toList
theorem same_upd {H H' : Hp} {D : Addr} {o : HO} (r : Same H H') (h : H D = none) : Same H (upd H' D o) := fun b x e => by
  rw [upd_ne (ne_of_none e h)]
  exact r b x e
def sp_is_name : Sp := fun vs H Q _ => ∃ x : Str, vs = [.str x] ∧ x.length ≤ 1000 ∧ ∀ H', Same H H' → Q (.bl (good x)) H'
def sp_law_is_name : Sp := fun vs H Q _ => ∃ x : Str, vs = [.str x] ∧ x.length ≤ 1000 ∧ Q (.bl (good x)) H
end
end Z

set_option Elab.async false
set_option linter.all false
set_option maxRecDepth 100000
set_option maxHeartbeats 4000000
namespace Z
open PySem PySem.Spec PyProof.Rows L2 L2H
section
variable {P : Program} {w : World} {K : PySem.W.Frag} {mg : Str → Option Value} {base : Heap}
/-- None, or BadName with the text -/
def sp_check_name (C : Addr) : Sp := fun vs H Q E => ∃ x : Str, vs = [.str x] ∧ Tx 1000 x ∧ (good x = true → ∀ H', Same H H' → Q .non H') ∧ (good x = false → ∀ (d : Addr) (H' : Hp), Same H H' → H' d = some (.xd [("name", .str x)]) → E (.ref C) (some d) H')
theorem reprText_le {x : Str} {n : Nat} (t : Tx n x) (hn : n ≤ 1000 := by decide) : (reprText x).length ≤ 20000 := by
  have := PySem.StrLaws.reprText_len x (fun c hc => Nat.lt_trans (t.low c hc) (by decide))
  have := t.len
  omega
def otherNames : List Str := ["AtStrife", "BadParting", "BadRow", "BadSize", "BadSplit", "BadText", "CrossedField", "Crossing", "EmptyBook", "EndsDiffer", "NoRun", "NoStrife", "NotWithin", "OrderRefused", "OtherPond", "OutOfRange", "RepeatedName", "SameField", "SameLot", "StepRefused", "Stuck", "TooMany", "Ungranted", "UnknownLot"]
/-- the other classes of errors: none of BadName's -/
structure Oth (K : PySem.W.Frag) (mg : Str → Option Value) (C : Addr) : Prop where
  ex : ∃ f : Str → Addr, ∀ n ∈ otherNames, mg n = some (.ref (f n)) ∧ PySem.W.kitOne K (.ref C) (.ref (f n)) = some false
  ve : PySem.W.kitOne K (.ref C) (.type "ValueError") = some true
/-- [('BadName', text)] -/
def sp_law_error (C : Addr) : Addr → Value → Option Addr → Sp := fun a cls d vs H Q _ => ∃ (dd : Addr) (x : Str), vs = [.ref a] ∧ cls = .ref C ∧ d = some dd ∧ H dd = some (.xd [("name", .str x)]) ∧
  ∀ (l t : Addr) (H' : Hp), Same H H' → H l = none → H t = none → H' l = some (.lst [.ref t]) → H' t = some (.tup [.str (Str.ofString "BadName"), .str x]) → Q (.ref l) H'
end
end Z

set_option Elab.async false
set_option linter.all false
set_option maxRecDepth 100000
set_option maxHeartbeats 4000000
namespace Z
open PySem PySem.Spec PyProof.Rows L2 L2H
section
variable {P : Program} {w : World} {K : PySem.W.Frag} {mg : Str → Option Value} {base : Heap}
def dueD (x : Str) : Dt := if good x = true then .tup [.str (Str.ofString "told"), .non] else .tup [.str (Str.ofString "error"), .lst [.tup [.str (Str.ofString "BadName"), .str x]]]
def sp_checked : Sp := fun vs H Q _ => ∃ x : Str, vs = [.str x] ∧ Tx 1000 x ∧ ∀ (v : V) (H' : Hp), Same H H' → Rp (fun _ => True) H' 5 v (dueD x) → Q v H'
def sp_word : Sp := fun vs H Q _ => ∃ x : Str, vs = [.str x] ∧ Tx 1000 x ∧ ∀ H', Same H H' → Q (.bl true) H'
end
end Z

set_option Elab.async false
set_option linter.all false
set_option maxRecDepth 100000
set_option maxHeartbeats 4000000
namespace Z
open PySem PySem.Spec PyProof.Rows L2
section
variable {P : Program} {w : World} {K : PySem.W.Frag} {mg : Str → Option Value} {base : Heap}
abbrev s_law_store : Stmt := topS 15
abbrev N_law_store : List Str := ["script", "seed", "cell"]
theorem sc_law_store : FnScope N_law_store ["script"] (defScope s_law_store) := ⟨rfl, rfl, rfl, by decide +kernel, rfl, by decide +kernel, by decide +kernel⟩
theorem b_law_store : BindO "_law_store" s_law_store ["script"] := fun _ _ _ _ _ _ us hl => match us, hl with | [_], _ => rfl

def sp_store (K : PySem.W.Frag) : Sp := fun vs H Q _ => ∃ (a : Addr) (ns : List Int), vs = [.ref a] ∧ SqL K H a (ns.map V.int) ∧ ns.length ≤ 63 ∧ ∀ (S : Sto) (H' : Hp), Same H H' → Store S H' → Q (.ref S.a) H'
theorem ok_store (D : Dn K mg "_law_store" s_law_store) (B : Blt mg) : Cl P w K mg base 1 "_law_store" (sp_store K) := by
  refine cl_of D sc_law_store b_law_store (fun vs H Q E h => ?_) (fun f cdv A outer s H vs Q E hr h => ?_)
  · obtain ⟨a, ns, rfl, _⟩ := h
    rfl
  · obtain ⟨a, ns, rfl, hs, hn, q⟩ := h
    refine ⟨_, (pss_cons (ps_set (i := 1) sc_law_store.nd rfl (.inl rfl) pe_int)
      (pss_cons (ps_for PassesOwn.never rfl (pi_list (pv 0)) (pg_name (i := 2) sc_law_store.nd rfl (.inl rfl)) (pss_one (ps_set (i := 1) sc_law_store.nd rfl (.inl rfl) (pe_op op_mod (pe_callTy call_intI (by rfl) B.int (by decide +kernel) (pa_cons (pe_op op_add (pe_op op_add (pe_op op_mul (pv 1) pe_int) (pe_op op_mod (pe_callTy call_intI (by rfl) B.int (by decide +kernel) (pa_cons (pv 2) pa_nil)) pe_int)) pe_int) pa_nil)) pe_int))))
      (pss_one (ps_ret (pe_lst (pa_cons (pe_callTy call_listF (by rfl) B.list (by decide +kernel) (pa_cons (pv 0) pa_nil)) (pa_cons pe_int (pa_cons pe_int (pa_cons pe_int (pa_cons (pv 1) pa_nil)))))))))), ?_⟩
    rw [show L2.start N_law_store [.ref a] = [some (.ref a), none, none] from rfl]
    simp only [tSeq, tNext, tDrop, tRet, tRetN, tIfS, tAsg, gName, tAug, ipI, tVar, tC, tOp, tUn, rI, rI0, rU, tCons, tNil, tCB, tTup, tLst, tTest, tB, tAnd, tOr, tNot, tAndV, tOrV, tNotV, tIf, tCl, tCd, tCk, gSub, rPutL, rAtQ, rIntI, rLenQ, rLenS, rListQ, rTupL, rTupQ, rIsQ_c, kd_non, kd_bl, kd_int, kd_str, kd_ref, kdO_lst, kdO_tup, kit_NoneType_bool, kit_NoneType_int, kit_NoneType_str, kit_NoneType_list, kit_NoneType_tuple, kit_bool_bool, kit_bool_int, kit_bool_str, kit_bool_list, kit_bool_tuple, kit_int_bool, kit_int_int, kit_int_str, kit_int_list, kit_int_tuple, kit_str_bool, kit_str_int, kit_str_str, kit_str_list, kit_str_tuple, kit_list_bool, kit_list_int, kit_list_str, kit_list_list, kit_list_tuple, kit_tuple_bool, kit_tuple_int, kit_tuple_str, kit_tuple_list, kit_tuple_tuple, V.ty.injEq, rSortQ, rSlQ, rMulS, tJn, rAtX, rSlS, tSl, tPart, tNoPart, cut_lo2, cut_hi2, rInQ, gLq, gTq, gC_c, gNil, tChain, List.cons_append, List.nil_append, tBL, tBL0, tBad, tCr, tCe, tXF, cxH_K, HO.xd.injEq, rApp, rPopN, rRevL, seqAt_lst, seqAt_tup, at_0, at_1, at_2, at_3, at_4, ix_0, ix_1, ix_2, ix_3, ix_4, cx_K, upd_same, List.length_cons, List.length_nil, Nat.reduceAdd,  rEq, rNe, tRevL, V.int.injEq, V.bl.injEq, V.str.injEq, V.ref.injEq, List.cons.injEq, and_true, true_and, exists_and_left, exists_and_right, exists_eq_left, exists_eq_left', exists_eq_right, exists_eq_right', exists_const, Option.some.injEq, List.getElem?_cons_zero, List.getElem?_cons_succ, List.set_cons_zero, List.set_cons_succ, decide_eq_true_eq, decide_true, decide_false,  scal_ii, scal_bb, scal_ss, cmul_r, cdiv_l, cpow_12, cpow_18, cpow_40, HO.lst.injEq, HO.tup.injEq, upd_upd, Int.reduceToNat,  decide_not, Bool.not_eq_true', decide_eq_false_iff_not, if_true, if_false, Bool.false_eq_true, Bool.true_eq_false, reduceCtorEq, Int.reduceNeg, Nat.reduceLT, Int.reduceLT, Int.reducePow, gt_iff_lt]
    refine z_forL a (ns.map V.int) (fun Q q => ?_) hs (fun i σ' H' => ∃ (x : Int) (z : Option V), σ' = [some (.ref a), some (.int x), z] ∧ H' = H) ⟨7, none, rfl, rfl⟩ (fun i σ' H' hi hI => ?_) (fun i v σ' H' hi hI => ?_) (fun σ' H' hI => ?_)
    · simp only [tSeq, tNext, tDrop, tRet, tRetN, tIfS, tAsg, gName, tAug, ipI, tVar, tC, tOp, tUn, rI, rI0, rU, tCons, tNil, tCB, tTup, tLst, tTest, tB, tAnd, tOr, tNot, tAndV, tOrV, tNotV, tIf, tCl, tCd, tCk, gSub, rPutL, rAtQ, rIntI, rLenQ, rLenS, rListQ, rTupL, rTupQ, rIsQ_c, kd_non, kd_bl, kd_int, kd_str, kd_ref, kdO_lst, kdO_tup, kit_NoneType_bool, kit_NoneType_int, kit_NoneType_str, kit_NoneType_list, kit_NoneType_tuple, kit_bool_bool, kit_bool_int, kit_bool_str, kit_bool_list, kit_bool_tuple, kit_int_bool, kit_int_int, kit_int_str, kit_int_list, kit_int_tuple, kit_str_bool, kit_str_int, kit_str_str, kit_str_list, kit_str_tuple, kit_list_bool, kit_list_int, kit_list_str, kit_list_list, kit_list_tuple, kit_tuple_bool, kit_tuple_int, kit_tuple_str, kit_tuple_list, kit_tuple_tuple, V.ty.injEq, rSortQ, rSlQ, rMulS, tJn, rAtX, rSlS, tSl, tPart, tNoPart, cut_lo2, cut_hi2, rInQ, gLq, gTq, gC_c, gNil, tChain, List.cons_append, List.nil_append, tBL, tBL0, tBad, tCr, tCe, tXF, cxH_K, HO.xd.injEq, rApp, rPopN, rRevL, seqAt_lst, seqAt_tup, at_0, at_1, at_2, at_3, at_4, ix_0, ix_1, ix_2, ix_3, ix_4, cx_K, upd_same, List.length_cons, List.length_nil, Nat.reduceAdd,  rEq, rNe, tRevL, V.int.injEq, V.bl.injEq, V.str.injEq, V.ref.injEq, List.cons.injEq, and_true, true_and, exists_and_left, exists_and_right, exists_eq_left, exists_eq_left', exists_eq_right, exists_eq_right', exists_const, Option.some.injEq, List.getElem?_cons_zero, List.getElem?_cons_succ, List.set_cons_zero, List.set_cons_succ, decide_eq_true_eq, decide_true, decide_false,  scal_ii, scal_bb, scal_ss, cmul_r, cdiv_l, cpow_12, cpow_18, cpow_40, HO.lst.injEq, HO.tup.injEq, upd_upd, Int.reduceToNat,  decide_not, Bool.not_eq_true', decide_eq_false_iff_not, if_true, if_false, Bool.false_eq_true, Bool.true_eq_false, reduceCtorEq, Int.reduceNeg, Nat.reduceLT, Int.reduceLT, Int.reducePow, gt_iff_lt]
      exact q
    · obtain ⟨x, z, rfl, rfl⟩ := hI
      exact hs
    · obtain ⟨x, z, rfl, rfl⟩ := hI
      rw [List.getElem?_map] at hi
      obtain ⟨n, hn', rfl⟩ := Option.map_eq_some_iff.mp hi
      simp only [tSeq, tNext, tDrop, tRet, tRetN, tIfS, tAsg, gName, tAug, ipI, tVar, tC, tOp, tUn, rI, rI0, rU, tCons, tNil, tCB, tTup, tLst, tTest, tB, tAnd, tOr, tNot, tAndV, tOrV, tNotV, tIf, tCl, tCd, tCk, gSub, rPutL, rAtQ, rIntI, rLenQ, rLenS, rListQ, rTupL, rTupQ, rIsQ_c, kd_non, kd_bl, kd_int, kd_str, kd_ref, kdO_lst, kdO_tup, kit_NoneType_bool, kit_NoneType_int, kit_NoneType_str, kit_NoneType_list, kit_NoneType_tuple, kit_bool_bool, kit_bool_int, kit_bool_str, kit_bool_list, kit_bool_tuple, kit_int_bool, kit_int_int, kit_int_str, kit_int_list, kit_int_tuple, kit_str_bool, kit_str_int, kit_str_str, kit_str_list, kit_str_tuple, kit_list_bool, kit_list_int, kit_list_str, kit_list_list, kit_list_tuple, kit_tuple_bool, kit_tuple_int, kit_tuple_str, kit_tuple_list, kit_tuple_tuple, V.ty.injEq, rSortQ, rSlQ, rMulS, tJn, rAtX, rSlS, tSl, tPart, tNoPart, cut_lo2, cut_hi2, rInQ, gLq, gTq, gC_c, gNil, tChain, List.cons_append, List.nil_append, tBL, tBL0, tBad, tCr, tCe, tXF, cxH_K, HO.xd.injEq, rApp, rPopN, rRevL, seqAt_lst, seqAt_tup, at_0, at_1, at_2, at_3, at_4, ix_0, ix_1, ix_2, ix_3, ix_4, cx_K, upd_same, List.length_cons, List.length_nil, Nat.reduceAdd,  rEq, rNe, tRevL, V.int.injEq, V.bl.injEq, V.str.injEq, V.ref.injEq, List.cons.injEq, and_true, true_and, exists_and_left, exists_and_right, exists_eq_left, exists_eq_left', exists_eq_right, exists_eq_right', exists_const, Option.some.injEq, List.getElem?_cons_zero, List.getElem?_cons_succ, List.set_cons_zero, List.set_cons_succ, decide_eq_true_eq, decide_true, decide_false,  scal_ii, scal_bb, scal_ss, cmul_r, cdiv_l, cpow_12, cpow_18, cpow_40, HO.lst.injEq, HO.tup.injEq, upd_upd, Int.reduceToNat,  decide_not, Bool.not_eq_true', decide_eq_false_iff_not, if_true, if_false, Bool.false_eq_true, Bool.true_eq_false, reduceCtorEq, Int.reduceNeg, Nat.reduceLT, Int.reduceLT, Int.reducePow, gt_iff_lt]
      exact ⟨⟨_, rfl⟩, _, rfl⟩
    · obtain ⟨x, z, rfl, rfl⟩ := hI
      simp only [tSeq, tNext, tDrop, tRet, tRetN, tIfS, tAsg, gName, tAug, ipI, tVar, tC, tOp, tUn, rI, rI0, rU, tCons, tNil, tCB, tTup, tLst, tTest, tB, tAnd, tOr, tNot, tAndV, tOrV, tNotV, tIf, tCl, tCd, tCk, gSub, rPutL, rAtQ, rIntI, rLenQ, rLenS, rListQ, rTupL, rTupQ, rIsQ_c, kd_non, kd_bl, kd_int, kd_str, kd_ref, kdO_lst, kdO_tup, kit_NoneType_bool, kit_NoneType_int, kit_NoneType_str, kit_NoneType_list, kit_NoneType_tuple, kit_bool_bool, kit_bool_int, kit_bool_str, kit_bool_list, kit_bool_tuple, kit_int_bool, kit_int_int, kit_int_str, kit_int_list, kit_int_tuple, kit_str_bool, kit_str_int, kit_str_str, kit_str_list, kit_str_tuple, kit_list_bool, kit_list_int, kit_list_str, kit_list_list, kit_list_tuple, kit_tuple_bool, kit_tuple_int, kit_tuple_str, kit_tuple_list, kit_tuple_tuple, V.ty.injEq, rSortQ, rSlQ, rMulS, tJn, rAtX, rSlS, tSl, tPart, tNoPart, cut_lo2, cut_hi2, rInQ, gLq, gTq, gC_c, gNil, tChain, List.cons_append, List.nil_append, tBL, tBL0, tBad, tCr, tCe, tXF, cxH_K, HO.xd.injEq, rApp, rPopN, rRevL, seqAt_lst, seqAt_tup, at_0, at_1, at_2, at_3, at_4, ix_0, ix_1, ix_2, ix_3, ix_4, cx_K, upd_same, List.length_cons, List.length_nil, Nat.reduceAdd,  rEq, rNe, tRevL, V.int.injEq, V.bl.injEq, V.str.injEq, V.ref.injEq, List.cons.injEq, and_true, true_and, exists_and_left, exists_and_right, exists_eq_left, exists_eq_left', exists_eq_right, exists_eq_right', exists_const, Option.some.injEq, List.getElem?_cons_zero, List.getElem?_cons_succ, List.set_cons_zero, List.set_cons_succ, decide_eq_true_eq, decide_true, decide_false,  scal_ii, scal_bb, scal_ss, cmul_r, cdiv_l, cpow_12, cpow_18, cpow_40, HO.lst.injEq, HO.tup.injEq, upd_upd, Int.reduceToNat,  decide_not, Bool.not_eq_true', decide_eq_false_iff_not, if_true, if_false, Bool.false_eq_true, Bool.true_eq_false, reduceCtorEq, Int.reduceNeg, Nat.reduceLT, Int.reduceLT, Int.reducePow, gt_iff_lt]
      refine ⟨a, rfl, ns.map V.int, hs, fun l hl => ⟨sz_of (by decide), fun p hp => ?_⟩⟩
      have nl : l ≠ p := ne_of_none upd_same hp
      refine q ⟨p, l, ns⟩ _ (fun b o e => same_new hp b o (same_new hl b o e)) ⟨⟨0, 0, 0, x, upd_same, Nat.zero_le _⟩, (upd_ne nl).trans upd_same, nl, hn⟩
theorem forLE {tl : TE} {g : TG} {tb : TS} {D : Ends} {σ : L2.St} {H : Hp} (R : Addr → Hp → Prop) (h : ∀ X : VK, (∀ (p : Addr) H1, R p H1 → X (.ref p) H1) → tl σ H X)
    (k : ∀ (p : Addr) H1, R p H1 → tFor (iList K (fun _ H2 Q => Q (.ref p) H2)) g tb D σ H1) : tFor (iList K tl) g tb D σ H := h _ fun p H1 r => k p H1 r
def sp_top (K : PySem.W.Frag) : Sp := fun vs H Q _ => ∃ (a : Addr) (ns : List Int), vs = [.ref a] ∧ SqL K H a (ns.map V.int) ∧ ns.length ≤ 63 ∧ ∀ H', Q (.bl true) H'
end
end Z
set_option Elab.async false
set_option linter.all false
set_option maxRecDepth 100000
set_option maxHeartbeats 4000000
namespace Z
/-! ### plain mathematics: factorials, products of them, binomials, Cayley's numbers -/
def pfac : List Int → Nat
  | [] => 1
  | n :: r => fac n.toNat * pfac r
theorem pfac_pos : ∀ ns, 0 < pfac ns
  | [] => Nat.one_pos
  | n :: r => Nat.mul_pos (fac_pos _) (pfac_pos r)
theorem pfac_app : ∀ a b : List Int, pfac (a ++ b) = pfac a * pfac b
  | [], b => by show pfac b = 1 * pfac b; rw [Nat.one_mul]
  | n :: a, b => by show fac n.toNat * pfac (a ++ b) = fac n.toNat * pfac a * pfac b; rw [pfac_app a b, Nat.mul_assoc]
theorem pfac_one (n : Int) : pfac [n] = fac n.toNat := by show fac n.toNat * 1 = _; rw [Nat.mul_one]
theorem pfac_rev : ∀ a : List Int, pfac a.reverse = pfac a
  | [] => rfl
  | n :: a => by rw [List.reverse_cons, pfac_app, pfac_one, pfac_rev a, Nat.mul_comm]; rfl
theorem sum_app : ∀ a b : List Int, (a ++ b).sum = a.sum + b.sum
  | [], b => by simp
  | n :: a, b => by rw [List.cons_append, List.sum_cons, List.sum_cons, sum_app a b, Int.add_assoc]
theorem sum_rev : ∀ a : List Int, a.reverse.sum = a.sum
  | [] => rfl
  | n :: a => by rw [List.reverse_cons, sum_app, sum_rev a, List.sum_cons, List.sum_cons, List.sum_nil]; omega
theorem sum_nn : ∀ {a : List Int}, (∀ n ∈ a, 0 ≤ n) → 0 ≤ a.sum
  | [], _ => by simp
  | n :: a, h => by
    rw [List.sum_cons]
    have := h n List.mem_cons_self
    have := sum_nn fun m hm => h m (List.mem_cons_of_mem _ hm)
    omega
theorem le_sum : ∀ {a : List Int} {m : Int}, (∀ n ∈ a, 0 ≤ n) → m ∈ a → m ≤ a.sum
  | [], _, _, h => by cases h
  | n :: a, m, h, hm => by
    rw [List.sum_cons]
    have h0 := h n List.mem_cons_self
    have h1 := sum_nn fun m hm => h m (List.mem_cons_of_mem _ hm)
    rcases List.mem_cons.mp hm with e | hm
    · omega
    · have := le_sum (fun m hm => h m (List.mem_cons_of_mem _ hm)) hm
      omega
/-- what is left of a sum behind i items -/
def rest (a : List Int) (i : Nat) : Int := (a.drop i).sum
theorem rest_zero (a : List Int) : rest a 0 = a.sum := rfl
theorem rest_step {a : List Int} {i : Nat} {n : Int} (h : a[i]? = some n) : rest a i = n + rest a (i + 1) := by
  unfold rest
  obtain ⟨hi, e⟩ := List.getElem?_eq_some_iff.mp h
  rw [List.drop_eq_getElem_cons hi, List.sum_cons, e]
theorem rest_nn {a : List Int} (h : ∀ n ∈ a, 0 ≤ n) (i : Nat) : 0 ≤ rest a i := sum_nn fun n hn => h n (List.mem_of_mem_drop hn)
theorem rest_le {a : List Int} (h : ∀ n ∈ a, 0 ≤ n) (i : Nat) : rest a i ≤ a.sum := by
  have e : a.sum = (a.take i).sum + rest a i := by
    unfold rest
    rw [← sum_app, List.take_append_drop]
  have := sum_nn fun n hn => h n (List.mem_of_mem_take (i := i) hn)
  omega
theorem rest_all (a : List Int) : rest a a.length = 0 := by
  unfold rest
  rw [List.drop_length]
  rfl
theorem pfac_step {a : List Int} {i : Nat} {n : Int} (h : a[i]? = some n) : pfac (a.take (i + 1)) = pfac (a.take i) * fac n.toNat := by
  obtain ⟨hi, e⟩ := List.getElem?_eq_some_iff.mp h
  rw [List.take_succ_eq_append_getElem hi, pfac_app, e, pfac_one]
theorem div_step {t b c : Nat} : ((t / b : Nat) : Int) / ((c : Nat) : Int) = ((t / (b * c) : Nat) : Int) := by
  rw [← Nat.div_div_eq_div_mul]
  exact (Int.natCast_ediv _ _).symm
def ch : Nat → Nat → Nat
  | _, 0 => 1
  | 0, _ + 1 => 0
  | n + 1, k + 1 => ch n k + ch n (k + 1)
/-- Pascal's triangle, by rows -/
def prow (n : Nat) : List Int := (List.range (n + 1)).map fun k => (ch n k : Int)
def tri (n : Nat) : List (List Int) := (List.range n).map prow
theorem tri_at {n i : Nat} (h : i < n) : (tri n)[i]? = some (prow i) := by
  unfold tri
  rw [List.getElem?_map, List.getElem?_range h]
  rfl
theorem prow_at {n k : Nat} (h : k ≤ n) : (prow n)[k]? = some (ch n k : Int) := by
  unfold prow
  rw [List.getElem?_map, List.getElem?_range (by omega)]
  rfl
theorem prow_len (n : Nat) : (prow n).length = n + 1 := by
  unfold prow
  rw [List.length_map, List.length_range]
theorem tri_step (n : Nat) : tri (n + 1) = tri n ++ [prow n] := by
  unfold tri
  rw [List.range_succ, List.map_append]
  rfl
theorem ch_fac : ∀ n k : Nat, k ≤ n → n ≤ 20 → ch n k * fac k * fac (n - k) = fac n := by
  have h : ∀ n : Fin 21, ∀ k : Fin 21, k.val ≤ n.val → ch n.val k.val * fac k.val * fac (n.val - k.val) = fac n.val := by decide +kernel
  exact fun n k hk hn => h ⟨n, by omega⟩ ⟨k, by omega⟩ hk
theorem ch_small : ∀ n k : Nat, k ≤ n → n ≤ 20 → ch n k < 1000000 := by
  have h : ∀ n : Fin 21, ∀ k : Fin 21, k.val ≤ n.val → ch n.val k.val < 1000000 := by decide +kernel
  exact fun n k hk hn => h ⟨n, by omega⟩ ⟨k, by omega⟩ hk
/-- the row above, a 0 at either end -/
def above (k : Nat) : List Int := 0 :: prow k ++ [0]
theorem above_step : ∀ k j : Nat, k < 20 → j < k + 2 → ∃ x y : Int, (above k)[j]? = some x ∧ (above k)[j + 1]? = some y ∧ x + y = (ch (k + 1) j : Int) := by
  have h : ∀ k : Fin 20, ∀ j : Fin 22, j.val < k.val + 2 → (match (above k.val)[j.val]?, (above k.val)[j.val + 1]? with
    | some x, some y => x + y == (ch (k.val + 1) j.val : Int)
    | _, _ => false) = true := by decide +kernel
  intro k j hk hj
  have z := h ⟨k, hk⟩ ⟨j, by omega⟩ hj
  simp only at z
  split at z
  · rename_i x y e1 e2
    exact ⟨x, y, e1, e2, by simpa using z⟩
  · cases z
/-- made so far: made * left! * (the factorials so far) = total! -/
theorem mix_step {a : List Int} {i : Nat} {n : Int} {m t : Nat} (hn : ∀ n ∈ a, 0 ≤ n) (ht : a.sum = (t : Int)) (h20 : t ≤ 20) (h : a[i]? = some n) (hm : m * fac (rest a i).toNat * pfac (a.take i) = fac t) :
    m * ch (rest a i).toNat n.toNat * fac (rest a (i + 1)).toNat * pfac (a.take (i + 1)) = fac t := by
  have h1 := rest_step h
  have h2 := rest_nn hn (i + 1)
  have h3 := rest_le hn i
  have h4 := hn n (List.mem_of_getElem? h)
  have e := ch_fac (rest a i).toNat n.toNat (by omega) (by omega)
  rw [show (rest a i).toNat - n.toNat = (rest a (i + 1)).toNat by omega] at e
  rw [pfac_step h, ← hm, ← e]
  simp only [Nat.mul_assoc, Nat.mul_comm, Nat.mul_left_comm]
theorem mix_end {m p f : Nat} (hp : 0 < p) (h : m * 1 * p = f) : m = f / p := by
  rw [← h, Nat.mul_one, Nat.mul_div_cancel _ hp]
/-- Cayley's numbers -/
def ph (n : Nat) : Nat := n ^ (n - 2)
/-- what the recurrence sums up to k -/
def tw (m k : Nat) : Nat := ((List.range k).map fun j => m * ch (m - 2) j * ph (j + 1) * ph (m - (j + 1))).sum
theorem tw_step (m k : Nat) : tw m (k + 1) = tw m k + m * ch (m - 2) k * ph (k + 1) * ph (m - (k + 1)) := by
  unfold tw
  rw [List.range_succ, List.map_append, List.sum_append]
  simp
theorem tw_end : ∀ m : Nat, 2 ≤ m → m ≤ 10 → tw m (m - 1) = 2 * ph m := by
  have h : ∀ m : Fin 11, 2 ≤ m.val → tw m.val (m.val - 1) = 2 * ph m.val := by decide +kernel
  exact fun m h2 h1 => h ⟨m, by omega⟩ h2
theorem ph_small : ∀ m : Nat, m ≤ 10 → ph m < 1000000000 := by
  have h : ∀ m : Fin 11, ph m.val < 1000000000 := by decide +kernel
  exact fun m h1 => h ⟨m, by omega⟩
theorem mix2 : ∀ m k : Nat, m ≤ 10 → k + 2 ≤ m → fac (m - 2) / pfac [((k : Nat) : Int), ((m - 2 - k : Nat) : Int)] = ch (m - 2) k := by
  have h : ∀ m : Fin 11, ∀ k : Fin 11, k.val + 2 ≤ m.val → fac (m.val - 2) / pfac [((k.val : Nat) : Int), ((m.val - 2 - k.val : Nat) : Int)] = ch (m.val - 2) k.val := by decide +kernel
  exact fun m k h1 h2 => h ⟨m, by omega⟩ ⟨k, by omega⟩ h2
end Z
set_option Elab.async false
set_option linter.all false
set_option maxRecDepth 100000
set_option maxHeartbeats 4000000
namespace Z
open PySem PySem.Spec PyProof.Rows L2 L2H
theorem z_forR2 {ta : TA} {j : Nat} {tb : TS} {D : Ends} {σ : L2.St} {H : Hp} (lo hi : Int) (h : ∀ Q : List V → Hp → Prop, Q [.int lo, .int hi] H → ta σ H Q) (h1 : -(2 ^ 62) ≤ lo ∧ lo < 2 ^ 62) (h2 : -(2 ^ 62) ≤ hi ∧ hi < 2 ^ 62) (Pv : Nat → L2.St → Hp → Prop) (h0 : Pv 0 σ H)
    (hs : ∀ (i : Nat) σ' H', lo + (i : Int) < hi → Pv i σ' H' → tb { D with nx := Pv (i + 1), ct := Pv (i + 1), bk := D.nx } (σ'.set j (some (.int (lo + (i : Int))))) H') (hd : ∀ σ' H', Pv (hi - lo).toNat σ' H' → D.nx σ' H') : tFor (iRng2 ta) (gName j) tb D σ H := by
  refine h _ ⟨lo, hi, rfl, ⟨h1.1, h1.2, h2.1, h2.2⟩, ?_⟩
  exact for_range (lo := lo) (n := (hi - lo).toNat) Pv h0 (fun i σ' H' hl p => hs i σ' H' (by omega) p) hd
section
variable {P : Program} {w : World} {K : PySem.W.Frag} {mg : Str → Option Value} {base : Heap}
def fSize : List V → List (Str × V)
  | [n] => [(Str.ofString "size", n)]
  | _ => []
def fRange : List V → List (Str × V)
  | [v, l] => [(Str.ofString "limit", l), (Str.ofString "value", v)]
  | _ => []
def fMany : List V → List (Str × V)
  | [c, l] => [(Str.ofString "limit", l), (Str.ofString "count", c)]
  | _ => []
abbrev nSize : List Str := ["size"]
abbrev nRange : List Str := ["value", "limit"]
abbrev nMany : List Str := ["count", "limit"]
abbrev s_BadSize___init__ : Stmt := inClass (topS 3) 0
abbrev N_BadSize___init__ : List Str := ["self", "size"]
theorem sc_BadSize___init__ : FnScope N_BadSize___init__ ["self", "size"] (defScope s_BadSize___init__) := ⟨rfl, rfl, rfl, by decide +kernel, rfl, by decide +kernel, by decide +kernel⟩
theorem b_BadSize___init__ : BindO "__init__" s_BadSize___init__ ["self", "size"] := fun _ _ _ _ _ _ us hl => match us, hl with | [_, _], _ => rfl

theorem fn_BadSize (bs_HedgeError : BaseC K mg "HedgeError") {C f : Addr} {fd : FuncData} (F : Fun K "__init__" "BadSize.__init__" s_BadSize___init__ f fd) : FnOk P w K mg base CX0 1 f fd ["self", "size"] (sp_initN K C 1 nSize fSize) := by
  refine F.ok sc_BadSize___init__ (fun vs H Q E h => ?_) (fun cdv A outer s H vs Q E hr h => ?_)
  · obtain ⟨a, ys, rfl, hl, _⟩ := h
    rw [List.length_cons, hl] <;> rfl
  · obtain ⟨a, ys, rfl, hl, ox, no, ha, q⟩ := h
    obtain ⟨y, rfl⟩ : ∃ y, ys = [y] := match ys, hl with | [y], _ => ⟨y, rfl⟩
    refine ⟨_, (pss_cons (ps_expr (pe_binit bs_HedgeError rfl (pa_cons (pv 0) (pa_cons pe_str pa_nil))))
      (pss_one (ps_ost (pv 0) (pv 1)))), ?_⟩
    rw [show L2.start N_BadSize___init__ [.ref a, y] = [some (.ref a), some y] from rfl]
    simp only [tSeq, tNext, tDrop, tRet, tRetN, tIfS, tAsg, gName, tAug, ipI, tVar, tC, tOp, tUn, rI, rI0, rU, tCons, tNil, tCB, tTup, tLst, tTest, tB, tAnd, tOr, tNot, tAndV, tOrV, tNotV, tIf, tCl, tCd, tCk, gSub, rPutL, rAtQ, rIntI, rLenQ, rLenS, rListQ, rTupL, rTupQ, rIsQ_c, kd_non, kd_bl, kd_int, kd_str, kd_ref, kdO_lst, kdO_tup, kit_NoneType_bool, kit_NoneType_int, kit_NoneType_str, kit_NoneType_list, kit_NoneType_tuple, kit_bool_bool, kit_bool_int, kit_bool_str, kit_bool_list, kit_bool_tuple, kit_int_bool, kit_int_int, kit_int_str, kit_int_list, kit_int_tuple, kit_str_bool, kit_str_int, kit_str_str, kit_str_list, kit_str_tuple, kit_list_bool, kit_list_int, kit_list_str, kit_list_list, kit_list_tuple, kit_tuple_bool, kit_tuple_int, kit_tuple_str, kit_tuple_list, kit_tuple_tuple, V.ty.injEq, rSortQ, rSlQ, rMulS, tJn, rAtX, rSlS, tSl, tPart, tNoPart, cut_lo2, cut_hi2, rInQ, gLq, gTq, gC_c, gNil, tChain, List.cons_append, List.nil_append, tBL, tBL0, tBad, tCr, tCe, tXF, cxH_K, HO.xd.injEq, rApp, rPopN, rRevL, seqAt_lst, seqAt_tup, at_0, at_1, at_2, at_3, at_4, ix_0, ix_1, ix_2, ix_3, ix_4, cx_K, upd_same, List.length_cons, List.length_nil, Nat.reduceAdd,  rEq, rNe, tRevL, V.int.injEq, V.bl.injEq, V.str.injEq, V.ref.injEq, List.cons.injEq, and_true, true_and, exists_and_left, exists_and_right, exists_eq_left, exists_eq_left', exists_eq_right, exists_eq_right', exists_const, Option.some.injEq, List.getElem?_cons_zero, List.getElem?_cons_succ, List.set_cons_zero, List.set_cons_succ, decide_eq_true_eq, decide_true, decide_false,  scal_ii, scal_bb, scal_ss, cmul_r, cdiv_l, cpow_12, cpow_18, cpow_40, HO.lst.injEq, HO.tup.injEq, upd_upd, Int.reduceToNat,  decide_not, Bool.not_eq_true', decide_eq_false_iff_not, if_true, if_false, Bool.false_eq_true, Bool.true_eq_false, reduceCtorEq, Int.reduceNeg, Nat.reduceLT, Int.reduceLT, Int.reducePow, gt_iff_lt]
    simp only [tVeI, tOst]
    simp only [tSeq, tNext, tDrop, tRet, tRetN, tIfS, tAsg, gName, tAug, ipI, tVar, tC, tOp, tUn, rI, rI0, rU, tCons, tNil, tCB, tTup, tLst, tTest, tB, tAnd, tOr, tNot, tAndV, tOrV, tNotV, tIf, tCl, tCd, tCk, gSub, rPutL, rAtQ, rIntI, rLenQ, rLenS, rListQ, rTupL, rTupQ, rIsQ_c, kd_non, kd_bl, kd_int, kd_str, kd_ref, kdO_lst, kdO_tup, kit_NoneType_bool, kit_NoneType_int, kit_NoneType_str, kit_NoneType_list, kit_NoneType_tuple, kit_bool_bool, kit_bool_int, kit_bool_str, kit_bool_list, kit_bool_tuple, kit_int_bool, kit_int_int, kit_int_str, kit_int_list, kit_int_tuple, kit_str_bool, kit_str_int, kit_str_str, kit_str_list, kit_str_tuple, kit_list_bool, kit_list_int, kit_list_str, kit_list_list, kit_list_tuple, kit_tuple_bool, kit_tuple_int, kit_tuple_str, kit_tuple_list, kit_tuple_tuple, V.ty.injEq, rSortQ, rSlQ, rMulS, tJn, rAtX, rSlS, tSl, tPart, tNoPart, cut_lo2, cut_hi2, rInQ, gLq, gTq, gC_c, gNil, tChain, List.cons_append, List.nil_append, tBL, tBL0, tBad, tCr, tCe, tXF, cxH_K, HO.xd.injEq, rApp, rPopN, rRevL, seqAt_lst, seqAt_tup, at_0, at_1, at_2, at_3, at_4, ix_0, ix_1, ix_2, ix_3, ix_4, cx_K, upd_same, List.length_cons, List.length_nil, Nat.reduceAdd,  rEq, rNe, tRevL, V.int.injEq, V.bl.injEq, V.str.injEq, V.ref.injEq, List.cons.injEq, and_true, true_and, exists_and_left, exists_and_right, exists_eq_left, exists_eq_left', exists_eq_right, exists_eq_right', exists_const, Option.some.injEq, List.getElem?_cons_zero, List.getElem?_cons_succ, List.set_cons_zero, List.set_cons_succ, decide_eq_true_eq, decide_true, decide_false,  scal_ii, scal_bb, scal_ss, cmul_r, cdiv_l, cpow_12, cpow_18, cpow_40, HO.lst.injEq, HO.tup.injEq, upd_upd, Int.reduceToNat,  decide_not, Bool.not_eq_true', decide_eq_false_iff_not, if_true, if_false, Bool.false_eq_true, Bool.true_eq_false, reduceCtorEq, Int.reduceNeg, Nat.reduceLT, Int.reduceLT, Int.reducePow, gt_iff_lt]
    exact ⟨a, C, _, ⟨rfl, rfl⟩, show 1 ≤ 1000 by decide, ox, ha, C, ox, no "size" (by decide +kernel), .inl ⟨ha, q⟩⟩
abbrev s_OutOfRange___init__ : Stmt := inClass (topS 4) 0
abbrev N_OutOfRange___init__ : List Str := ["self", "value", "limit"]
theorem sc_OutOfRange___init__ : FnScope N_OutOfRange___init__ ["self", "value", "limit"] (defScope s_OutOfRange___init__) := ⟨rfl, rfl, rfl, by decide +kernel, rfl, by decide +kernel, by decide +kernel⟩
theorem b_OutOfRange___init__ : BindO "__init__" s_OutOfRange___init__ ["self", "value", "limit"] := fun _ _ _ _ _ _ us hl => match us, hl with | [_, _, _], _ => rfl

theorem fn_OutOfRange (bs_HedgeError : BaseC K mg "HedgeError") {C f : Addr} {fd : FuncData} (F : Fun K "__init__" "OutOfRange.__init__" s_OutOfRange___init__ f fd) : FnOk P w K mg base CX0 1 f fd ["self", "value", "limit"] (sp_initN K C 2 nRange fRange) := by
  refine F.ok sc_OutOfRange___init__ (fun vs H Q E h => ?_) (fun cdv A outer s H vs Q E hr h => ?_)
  · obtain ⟨a, ys, rfl, hl, _⟩ := h
    rw [List.length_cons, hl] <;> rfl
  · obtain ⟨a, ys, rfl, hl, ox, no, ha, q⟩ := h
    obtain ⟨y, z, rfl⟩ : ∃ y z, ys = [y, z] := match ys, hl with | [y, z], _ => ⟨y, z, rfl⟩
    refine ⟨_, (pss_cons (ps_expr (pe_binit bs_HedgeError rfl (pa_cons (pv 0) (pa_cons pe_str pa_nil))))
      (pss_cons (ps_ost (pv 0) (pv 1))
      (pss_one (ps_ost (pv 0) (pv 2))))), ?_⟩
    rw [show L2.start N_OutOfRange___init__ [.ref a, y, z] = [some (.ref a), some y, some z] from rfl]
    simp only [tSeq, tNext, tDrop, tRet, tRetN, tIfS, tAsg, gName, tAug, ipI, tVar, tC, tOp, tUn, rI, rI0, rU, tCons, tNil, tCB, tTup, tLst, tTest, tB, tAnd, tOr, tNot, tAndV, tOrV, tNotV, tIf, tCl, tCd, tCk, gSub, rPutL, rAtQ, rIntI, rLenQ, rLenS, rListQ, rTupL, rTupQ, rIsQ_c, kd_non, kd_bl, kd_int, kd_str, kd_ref, kdO_lst, kdO_tup, kit_NoneType_bool, kit_NoneType_int, kit_NoneType_str, kit_NoneType_list, kit_NoneType_tuple, kit_bool_bool, kit_bool_int, kit_bool_str, kit_bool_list, kit_bool_tuple, kit_int_bool, kit_int_int, kit_int_str, kit_int_list, kit_int_tuple, kit_str_bool, kit_str_int, kit_str_str, kit_str_list, kit_str_tuple, kit_list_bool, kit_list_int, kit_list_str, kit_list_list, kit_list_tuple, kit_tuple_bool, kit_tuple_int, kit_tuple_str, kit_tuple_list, kit_tuple_tuple, V.ty.injEq, rSortQ, rSlQ, rMulS, tJn, rAtX, rSlS, tSl, tPart, tNoPart, cut_lo2, cut_hi2, rInQ, gLq, gTq, gC_c, gNil, tChain, List.cons_append, List.nil_append, tBL, tBL0, tBad, tCr, tCe, tXF, cxH_K, HO.xd.injEq, rApp, rPopN, rRevL, seqAt_lst, seqAt_tup, at_0, at_1, at_2, at_3, at_4, ix_0, ix_1, ix_2, ix_3, ix_4, cx_K, upd_same, List.length_cons, List.length_nil, Nat.reduceAdd,  rEq, rNe, tRevL, V.int.injEq, V.bl.injEq, V.str.injEq, V.ref.injEq, List.cons.injEq, and_true, true_and, exists_and_left, exists_and_right, exists_eq_left, exists_eq_left', exists_eq_right, exists_eq_right', exists_const, Option.some.injEq, List.getElem?_cons_zero, List.getElem?_cons_succ, List.set_cons_zero, List.set_cons_succ, decide_eq_true_eq, decide_true, decide_false,  scal_ii, scal_bb, scal_ss, cmul_r, cdiv_l, cpow_12, cpow_18, cpow_40, HO.lst.injEq, HO.tup.injEq, upd_upd, Int.reduceToNat,  decide_not, Bool.not_eq_true', decide_eq_false_iff_not, if_true, if_false, Bool.false_eq_true, Bool.true_eq_false, reduceCtorEq, Int.reduceNeg, Nat.reduceLT, Int.reduceLT, Int.reducePow, gt_iff_lt]
    simp only [tVeI, tOst]
    simp only [tSeq, tNext, tDrop, tRet, tRetN, tIfS, tAsg, gName, tAug, ipI, tVar, tC, tOp, tUn, rI, rI0, rU, tCons, tNil, tCB, tTup, tLst, tTest, tB, tAnd, tOr, tNot, tAndV, tOrV, tNotV, tIf, tCl, tCd, tCk, gSub, rPutL, rAtQ, rIntI, rLenQ, rLenS, rListQ, rTupL, rTupQ, rIsQ_c, kd_non, kd_bl, kd_int, kd_str, kd_ref, kdO_lst, kdO_tup, kit_NoneType_bool, kit_NoneType_int, kit_NoneType_str, kit_NoneType_list, kit_NoneType_tuple, kit_bool_bool, kit_bool_int, kit_bool_str, kit_bool_list, kit_bool_tuple, kit_int_bool, kit_int_int, kit_int_str, kit_int_list, kit_int_tuple, kit_str_bool, kit_str_int, kit_str_str, kit_str_list, kit_str_tuple, kit_list_bool, kit_list_int, kit_list_str, kit_list_list, kit_list_tuple, kit_tuple_bool, kit_tuple_int, kit_tuple_str, kit_tuple_list, kit_tuple_tuple, V.ty.injEq, rSortQ, rSlQ, rMulS, tJn, rAtX, rSlS, tSl, tPart, tNoPart, cut_lo2, cut_hi2, rInQ, gLq, gTq, gC_c, gNil, tChain, List.cons_append, List.nil_append, tBL, tBL0, tBad, tCr, tCe, tXF, cxH_K, HO.xd.injEq, rApp, rPopN, rRevL, seqAt_lst, seqAt_tup, at_0, at_1, at_2, at_3, at_4, ix_0, ix_1, ix_2, ix_3, ix_4, cx_K, upd_same, List.length_cons, List.length_nil, Nat.reduceAdd,  rEq, rNe, tRevL, V.int.injEq, V.bl.injEq, V.str.injEq, V.ref.injEq, List.cons.injEq, and_true, true_and, exists_and_left, exists_and_right, exists_eq_left, exists_eq_left', exists_eq_right, exists_eq_right', exists_const, Option.some.injEq, List.getElem?_cons_zero, List.getElem?_cons_succ, List.set_cons_zero, List.set_cons_succ, decide_eq_true_eq, decide_true, decide_false,  scal_ii, scal_bb, scal_ss, cmul_r, cdiv_l, cpow_12, cpow_18, cpow_40, HO.lst.injEq, HO.tup.injEq, upd_upd, Int.reduceToNat,  decide_not, Bool.not_eq_true', decide_eq_false_iff_not, if_true, if_false, Bool.false_eq_true, Bool.true_eq_false, reduceCtorEq, Int.reduceNeg, Nat.reduceLT, Int.reduceLT, Int.reducePow, gt_iff_lt]
    refine ⟨a, C, _, ⟨rfl, rfl⟩, show 1 ≤ 1000 by decide, ox, ha, C, ox, no "value" (by decide +kernel), .inl ⟨ha, fun dx hdx hne => ⟨C, ox, no "limit" (by decide +kernel), .inr ⟨dx, rfl, _, (upd_ne hne).trans upd_same, (by show 1 ≤ 900; decide), ?_⟩⟩⟩⟩
    rw [upd_swap hne.symm, upd_upd]
    exact q dx hdx hne
abbrev s_TooMany___init__ : Stmt := inClass (topS 5) 0
abbrev N_TooMany___init__ : List Str := ["self", "count", "limit"]
theorem sc_TooMany___init__ : FnScope N_TooMany___init__ ["self", "count", "limit"] (defScope s_TooMany___init__) := ⟨rfl, rfl, rfl, by decide +kernel, rfl, by decide +kernel, by decide +kernel⟩
theorem b_TooMany___init__ : BindO "__init__" s_TooMany___init__ ["self", "count", "limit"] := fun _ _ _ _ _ _ us hl => match us, hl with | [_, _, _], _ => rfl

theorem fn_TooMany (bs_HedgeError : BaseC K mg "HedgeError") {C f : Addr} {fd : FuncData} (F : Fun K "__init__" "TooMany.__init__" s_TooMany___init__ f fd) : FnOk P w K mg base CX0 1 f fd ["self", "count", "limit"] (sp_initN K C 2 nMany fMany) := by
  refine F.ok sc_TooMany___init__ (fun vs H Q E h => ?_) (fun cdv A outer s H vs Q E hr h => ?_)
  · obtain ⟨a, ys, rfl, hl, _⟩ := h
    rw [List.length_cons, hl] <;> rfl
  · obtain ⟨a, ys, rfl, hl, ox, no, ha, q⟩ := h
    obtain ⟨y, z, rfl⟩ : ∃ y z, ys = [y, z] := match ys, hl with | [y, z], _ => ⟨y, z, rfl⟩
    refine ⟨_, (pss_cons (ps_expr (pe_binit bs_HedgeError rfl (pa_cons (pv 0) (pa_cons pe_str pa_nil))))
      (pss_cons (ps_ost (pv 0) (pv 1))
      (pss_one (ps_ost (pv 0) (pv 2))))), ?_⟩
    rw [show L2.start N_TooMany___init__ [.ref a, y, z] = [some (.ref a), some y, some z] from rfl]
    simp only [tSeq, tNext, tDrop, tRet, tRetN, tIfS, tAsg, gName, tAug, ipI, tVar, tC, tOp, tUn, rI, rI0, rU, tCons, tNil, tCB, tTup, tLst, tTest, tB, tAnd, tOr, tNot, tAndV, tOrV, tNotV, tIf, tCl, tCd, tCk, gSub, rPutL, rAtQ, rIntI, rLenQ, rLenS, rListQ, rTupL, rTupQ, rIsQ_c, kd_non, kd_bl, kd_int, kd_str, kd_ref, kdO_lst, kdO_tup, kit_NoneType_bool, kit_NoneType_int, kit_NoneType_str, kit_NoneType_list, kit_NoneType_tuple, kit_bool_bool, kit_bool_int, kit_bool_str, kit_bool_list, kit_bool_tuple, kit_int_bool, kit_int_int, kit_int_str, kit_int_list, kit_int_tuple, kit_str_bool, kit_str_int, kit_str_str, kit_str_list, kit_str_tuple, kit_list_bool, kit_list_int, kit_list_str, kit_list_list, kit_list_tuple, kit_tuple_bool, kit_tuple_int, kit_tuple_str, kit_tuple_list, kit_tuple_tuple, V.ty.injEq, rSortQ, rSlQ, rMulS, tJn, rAtX, rSlS, tSl, tPart, tNoPart, cut_lo2, cut_hi2, rInQ, gLq, gTq, gC_c, gNil, tChain, List.cons_append, List.nil_append, tBL, tBL0, tBad, tCr, tCe, tXF, cxH_K, HO.xd.injEq, rApp, rPopN, rRevL, seqAt_lst, seqAt_tup, at_0, at_1, at_2, at_3, at_4, ix_0, ix_1, ix_2, ix_3, ix_4, cx_K, upd_same, List.length_cons, List.length_nil, Nat.reduceAdd,  rEq, rNe, tRevL, V.int.injEq, V.bl.injEq, V.str.injEq, V.ref.injEq, List.cons.injEq, and_true, true_and, exists_and_left, exists_and_right, exists_eq_left, exists_eq_left', exists_eq_right, exists_eq_right', exists_const, Option.some.injEq, List.getElem?_cons_zero, List.getElem?_cons_succ, List.set_cons_zero, List.set_cons_succ, decide_eq_true_eq, decide_true, decide_false,  scal_ii, scal_bb, scal_ss, cmul_r, cdiv_l, cpow_12, cpow_18, cpow_40, HO.lst.injEq, HO.tup.injEq, upd_upd, Int.reduceToNat,  decide_not, Bool.not_eq_true', decide_eq_false_iff_not, if_true, if_false, Bool.false_eq_true, Bool.true_eq_false, reduceCtorEq, Int.reduceNeg, Nat.reduceLT, Int.reduceLT, Int.reducePow, gt_iff_lt]
    simp only [tVeI, tOst]
    simp only [tSeq, tNext, tDrop, tRet, tRetN, tIfS, tAsg, gName, tAug, ipI, tVar, tC, tOp, tUn, rI, rI0, rU, tCons, tNil, tCB, tTup, tLst, tTest, tB, tAnd, tOr, tNot, tAndV, tOrV, tNotV, tIf, tCl, tCd, tCk, gSub, rPutL, rAtQ, rIntI, rLenQ, rLenS, rListQ, rTupL, rTupQ, rIsQ_c, kd_non, kd_bl, kd_int, kd_str, kd_ref, kdO_lst, kdO_tup, kit_NoneType_bool, kit_NoneType_int, kit_NoneType_str, kit_NoneType_list, kit_NoneType_tuple, kit_bool_bool, kit_bool_int, kit_bool_str, kit_bool_list, kit_bool_tuple, kit_int_bool, kit_int_int, kit_int_str, kit_int_list, kit_int_tuple, kit_str_bool, kit_str_int, kit_str_str, kit_str_list, kit_str_tuple, kit_list_bool, kit_list_int, kit_list_str, kit_list_list, kit_list_tuple, kit_tuple_bool, kit_tuple_int, kit_tuple_str, kit_tuple_list, kit_tuple_tuple, V.ty.injEq, rSortQ, rSlQ, rMulS, tJn, rAtX, rSlS, tSl, tPart, tNoPart, cut_lo2, cut_hi2, rInQ, gLq, gTq, gC_c, gNil, tChain, List.cons_append, List.nil_append, tBL, tBL0, tBad, tCr, tCe, tXF, cxH_K, HO.xd.injEq, rApp, rPopN, rRevL, seqAt_lst, seqAt_tup, at_0, at_1, at_2, at_3, at_4, ix_0, ix_1, ix_2, ix_3, ix_4, cx_K, upd_same, List.length_cons, List.length_nil, Nat.reduceAdd,  rEq, rNe, tRevL, V.int.injEq, V.bl.injEq, V.str.injEq, V.ref.injEq, List.cons.injEq, and_true, true_and, exists_and_left, exists_and_right, exists_eq_left, exists_eq_left', exists_eq_right, exists_eq_right', exists_const, Option.some.injEq, List.getElem?_cons_zero, List.getElem?_cons_succ, List.set_cons_zero, List.set_cons_succ, decide_eq_true_eq, decide_true, decide_false,  scal_ii, scal_bb, scal_ss, cmul_r, cdiv_l, cpow_12, cpow_18, cpow_40, HO.lst.injEq, HO.tup.injEq, upd_upd, Int.reduceToNat,  decide_not, Bool.not_eq_true', decide_eq_false_iff_not, if_true, if_false, Bool.false_eq_true, Bool.true_eq_false, reduceCtorEq, Int.reduceNeg, Nat.reduceLT, Int.reduceLT, Int.reducePow, gt_iff_lt]
    refine ⟨a, C, _, ⟨rfl, rfl⟩, show 1 ≤ 1000 by decide, ox, ha, C, ox, no "count" (by decide +kernel), .inl ⟨ha, fun dx hdx hne => ⟨C, ox, no "limit" (by decide +kernel), .inr ⟨dx, rfl, _, (upd_ne hne).trans upd_same, (by show 1 ≤ 900; decide), ?_⟩⟩⟩⟩
    rw [upd_swap hne.symm, upd_upd]
    exact q dx hdx hne
abbrev s_check_range : Stmt := topS 8
abbrev N_check_range : List Str := ["value", "limit"]
theorem sc_check_range : FnScope N_check_range ["value", "limit"] (defScope s_check_range) := ⟨rfl, rfl, rfl, by decide +kernel, rfl, by decide +kernel, by decide +kernel⟩
theorem b_check_range : BindO "check_range" s_check_range ["value", "limit"] := fun _ _ _ _ _ _ us hl => match us, hl with | [_, _], _ => rfl

def sp_check_range (C : Addr) : Sp := fun vs H Q E => ∃ v l : Int, vs = [.int v, .int l] ∧ ((0 ≤ v ∧ v < l) → Q .non H) ∧ (¬ (0 ≤ v ∧ v < l) → ∀ (d : Addr) (H' : Hp), Same H H' → H d = none → H' d = some (.xd (fRange [.int v, .int l])) → E (.ref C) (some d) H')
theorem ok_check_range (D : Dn K mg "check_range" s_check_range) {C : Addr} (bad_OutOfRange : BadN P w K mg base "OutOfRange" 2 nRange fRange C) : Cr P w K mg base 3 "check_range" (sp_check_range C) := by
  refine cr_of D sc_check_range b_check_range (fun vs H Q E h => ?_) (fun f cdv A outer s H vs Q E hr h => ?_)
  · obtain ⟨v, l, rfl, _⟩ := h
    rfl
  · obtain ⟨v, l, rfl, q1, q2⟩ := h
    have tk : Takes (cxOf (L2.CX P w) P w K mg base N_check_range "check_range" (defScope s_check_range) f cdv A outer s H E) (fun cls d _ H => E cls d H) := takes_of rfl rfl rfl rfl
    refine ⟨_, (pss_one (ps_if (PW.pt (pw_or (pt_cmpR op_lt (pv 0) pe_int (nomark _)) (pw_or1 (pt_cmpR op_ge (pv 0) (pv 1) (nomark _))))) (pss_one (ps_raise rfl tk (pmk_badN bad_OutOfRange (by decide) hr (by omega) rfl (pa_cons (pv 0) (pa_cons (pv 1) pa_nil))))) pss_nil)), ?_⟩
    rw [show L2.start N_check_range [.int v, .int l] = [some (.int v), some (.int l)] from rfl]
    simp only [tSeq, tNext, tDrop, tRet, tRetN, tIfS, tAsg, gName, tAug, ipI, tVar, tC, tOp, tUn, rI, rI0, rU, tCons, tNil, tCB, tTup, tLst, tTest, tB, tAnd, tOr, tNot, tAndV, tOrV, tNotV, tIf, tCl, tCd, tCk, gSub, rPutL, rAtQ, rIntI, rLenQ, rLenS, rListQ, rTupL, rTupQ, rIsQ_c, kd_non, kd_bl, kd_int, kd_str, kd_ref, kdO_lst, kdO_tup, kit_NoneType_bool, kit_NoneType_int, kit_NoneType_str, kit_NoneType_list, kit_NoneType_tuple, kit_bool_bool, kit_bool_int, kit_bool_str, kit_bool_list, kit_bool_tuple, kit_int_bool, kit_int_int, kit_int_str, kit_int_list, kit_int_tuple, kit_str_bool, kit_str_int, kit_str_str, kit_str_list, kit_str_tuple, kit_list_bool, kit_list_int, kit_list_str, kit_list_list, kit_list_tuple, kit_tuple_bool, kit_tuple_int, kit_tuple_str, kit_tuple_list, kit_tuple_tuple, V.ty.injEq, rSortQ, rSlQ, rMulS, tJn, rAtX, rSlS, tSl, tPart, tNoPart, cut_lo2, cut_hi2, rInQ, gLq, gTq, gC_c, gNil, tChain, List.cons_append, List.nil_append, tBL, tBL0, tBad, tCr, tCe, tXF, cxH_K, HO.xd.injEq, rApp, rPopN, rRevL, seqAt_lst, seqAt_tup, at_0, at_1, at_2, at_3, at_4, ix_0, ix_1, ix_2, ix_3, ix_4, cx_K, upd_same, List.length_cons, List.length_nil, Nat.reduceAdd,  rEq, rNe, tRevL, V.int.injEq, V.bl.injEq, V.str.injEq, V.ref.injEq, List.cons.injEq, and_true, true_and, exists_and_left, exists_and_right, exists_eq_left, exists_eq_left', exists_eq_right, exists_eq_right', exists_const, Option.some.injEq, List.getElem?_cons_zero, List.getElem?_cons_succ, List.set_cons_zero, List.set_cons_succ, decide_eq_true_eq, decide_true, decide_false,  scal_ii, scal_bb, scal_ss, cmul_r, cdiv_l, cpow_12, cpow_18, cpow_40, HO.lst.injEq, HO.tup.injEq, upd_upd, Int.reduceToNat,  decide_not, Bool.not_eq_true', decide_eq_false_iff_not, if_true, if_false, Bool.false_eq_true, Bool.true_eq_false, reduceCtorEq, Int.reduceNeg, Nat.reduceLT, Int.reduceLT, Int.reducePow, gt_iff_lt, tBadN]
    split
    · exact fun d H' r n h => q2 (by omega) d H' r n h
    split
    · exact fun d H' r n h => q2 (by omega) d H' r n h
    · exact q1 (by omega)
abbrev s_check_most : Stmt := topS 9
abbrev N_check_most : List Str := ["count", "limit"]
theorem sc_check_most : FnScope N_check_most ["count", "limit"] (defScope s_check_most) := ⟨rfl, rfl, rfl, by decide +kernel, rfl, by decide +kernel, by decide +kernel⟩
theorem b_check_most : BindO "check_most" s_check_most ["count", "limit"] := fun _ _ _ _ _ _ us hl => match us, hl with | [_, _], _ => rfl

def sp_check_most (C : Addr) : Sp := fun vs H Q E => ∃ v l : Int, vs = [.int v, .int l] ∧ (v ≤ l → Q .non H) ∧ (l < v → ∀ (d : Addr) (H' : Hp), Same H H' → H d = none → H' d = some (.xd (fMany [.int v, .int l])) → E (.ref C) (some d) H')
theorem ok_check_most (D : Dn K mg "check_most" s_check_most) {C : Addr} (bad_TooMany : BadN P w K mg base "TooMany" 2 nMany fMany C) : Cr P w K mg base 3 "check_most" (sp_check_most C) := by
  refine cr_of D sc_check_most b_check_most (fun vs H Q E h => ?_) (fun f cdv A outer s H vs Q E hr h => ?_)
  · obtain ⟨v, l, rfl, _⟩ := h
    rfl
  · obtain ⟨v, l, rfl, q1, q2⟩ := h
    have tk : Takes (cxOf (L2.CX P w) P w K mg base N_check_most "check_most" (defScope s_check_most) f cdv A outer s H E) (fun cls d _ H => E cls d H) := takes_of rfl rfl rfl rfl
    refine ⟨_, (pss_one (ps_if (pt_cmpR op_gt (pv 0) (pv 1) (nomark _)) (pss_one (ps_raise rfl tk (pmk_badN bad_TooMany (by decide) hr (by omega) rfl (pa_cons (pv 0) (pa_cons (pv 1) pa_nil))))) pss_nil)), ?_⟩
    rw [show L2.start N_check_most [.int v, .int l] = [some (.int v), some (.int l)] from rfl]
    simp only [tSeq, tNext, tDrop, tRet, tRetN, tIfS, tAsg, gName, tAug, ipI, tVar, tC, tOp, tUn, rI, rI0, rU, tCons, tNil, tCB, tTup, tLst, tTest, tB, tAnd, tOr, tNot, tAndV, tOrV, tNotV, tIf, tCl, tCd, tCk, gSub, rPutL, rAtQ, rIntI, rLenQ, rLenS, rListQ, rTupL, rTupQ, rIsQ_c, kd_non, kd_bl, kd_int, kd_str, kd_ref, kdO_lst, kdO_tup, kit_NoneType_bool, kit_NoneType_int, kit_NoneType_str, kit_NoneType_list, kit_NoneType_tuple, kit_bool_bool, kit_bool_int, kit_bool_str, kit_bool_list, kit_bool_tuple, kit_int_bool, kit_int_int, kit_int_str, kit_int_list, kit_int_tuple, kit_str_bool, kit_str_int, kit_str_str, kit_str_list, kit_str_tuple, kit_list_bool, kit_list_int, kit_list_str, kit_list_list, kit_list_tuple, kit_tuple_bool, kit_tuple_int, kit_tuple_str, kit_tuple_list, kit_tuple_tuple, V.ty.injEq, rSortQ, rSlQ, rMulS, tJn, rAtX, rSlS, tSl, tPart, tNoPart, cut_lo2, cut_hi2, rInQ, gLq, gTq, gC_c, gNil, tChain, List.cons_append, List.nil_append, tBL, tBL0, tBad, tCr, tCe, tXF, cxH_K, HO.xd.injEq, rApp, rPopN, rRevL, seqAt_lst, seqAt_tup, at_0, at_1, at_2, at_3, at_4, ix_0, ix_1, ix_2, ix_3, ix_4, cx_K, upd_same, List.length_cons, List.length_nil, Nat.reduceAdd,  rEq, rNe, tRevL, V.int.injEq, V.bl.injEq, V.str.injEq, V.ref.injEq, List.cons.injEq, and_true, true_and, exists_and_left, exists_and_right, exists_eq_left, exists_eq_left', exists_eq_right, exists_eq_right', exists_const, Option.some.injEq, List.getElem?_cons_zero, List.getElem?_cons_succ, List.set_cons_zero, List.set_cons_succ, decide_eq_true_eq, decide_true, decide_false,  scal_ii, scal_bb, scal_ss, cmul_r, cdiv_l, cpow_12, cpow_18, cpow_40, HO.lst.injEq, HO.tup.injEq, upd_upd, Int.reduceToNat,  decide_not, Bool.not_eq_true', decide_eq_false_iff_not, if_true, if_false, Bool.false_eq_true, Bool.true_eq_false, reduceCtorEq, Int.reduceNeg, Nat.reduceLT, Int.reduceLT, Int.reducePow, gt_iff_lt, tBadN]
    split
    · exact fun d H' r n h => q2 (by omega) d H' r n h
    · exact q1 (by omega)
end
end Z
set_option Elab.async false
set_option linter.all false
set_option maxRecDepth 100000
set_option maxHeartbeats 4000000
namespace Z
open PySem PySem.Spec PyProof.Rows L2 L2H
section
variable {P : Program} {w : World} {K : PySem.W.Frag} {mg : Str → Option Value} {base : Heap}
theorem z_forT {K : PySem.W.Frag} {tl : TE} {j : Nat} {tb : TS} {D : Ends} {σ : L2.St} {H : Hp} (a : Addr) (xs : List V) (h : ∀ Q : VK, Q (.ref a) H → tl σ H Q) (hx : SqT K H a xs) (Pv : Nat → L2.St → Hp → Prop) (h0 : Pv 0 σ H)
    (hl : ∀ i σ' H', i ≤ xs.length → Pv i σ' H' → SqT K H' a xs) (hs : ∀ i x σ' H', xs[i]? = some x → Pv i σ' H' → tb { D with nx := Pv (i + 1), ct := Pv (i + 1), bk := D.nx } (σ'.set j (some x)) H') (hd : ∀ σ' H', Pv xs.length σ' H' → D.nx σ' H') :
    tFor (iTup K tl) (gName j) tb D σ H := h _ ⟨a, rfl, ⟨xs, hx⟩, for_tup Pv h0 hl (fun i x σ' H' e p => hs i x σ' H' e p) hd⟩
abbrev s_pond_histories : Stmt := topS 12
abbrev N_pond_histories : List Str := ["size", "many", "_"]
theorem sc_pond_histories : FnScope N_pond_histories ["size"] (defScope s_pond_histories) := ⟨rfl, rfl, rfl, by decide +kernel, rfl, by decide +kernel, by decide +kernel⟩
theorem b_pond_histories : BindO "pond_histories" s_pond_histories ["size"] := fun _ _ _ _ _ _ us hl => match us, hl with | [_], _ => rfl

def sp_ph (CS CO : Addr) : Sp := fun vs H Q E => ∃ n : Int, vs = [.int n] ∧ (1 ≤ n → n ≤ 10 → Q (.int (ph n.toNat : Nat)) H) ∧
  (n = 0 → ∀ (d : Addr) (H' : Hp), Same H H' → H d = none → H' d = some (.xd (fSize [.int 0])) → E (.ref CS) (some d) H') ∧
  ((n < 0 ∨ 10 < n) → ∀ (d : Addr) (H' : Hp), Same H H' → H d = none → H' d = some (.xd (fRange [.int n, .int 11])) → E (.ref CO) (some d) H')
theorem fn_pond_histories {CS CO : Addr} (B : Blt mg) (g_MOST_LOTS : ∃ u, mg "MOST_LOTS" = some u ∧ RelV (.int 10) u) (bad_BadSize : BadN P w K mg base "BadSize" 1 nSize fSize CS) (c_check_range : Cr P w K mg base 3 "check_range" (sp_check_range CO))
    (f : Addr) (fd : FuncData) (F : Fun K "pond_histories" "pond_histories" s_pond_histories f fd) : FnOk P w K mg base (L2.CX P w) 4 f fd ["size"] (sp_ph CS CO) := by
  refine F.okX sc_pond_histories (fun vs H Q E h => ?_) (fun cdv A outer s H vs Q E hr h => ?_)
  · obtain ⟨n, rfl, _⟩ := h
    rfl
  · obtain ⟨n, rfl, q1, q2, q3⟩ := h
    have tk : Takes (cxOf (L2.CX P w) P w K mg base N_pond_histories "pond_histories" (defScope s_pond_histories) f cdv A outer s H E) (fun cls d _ H => E cls d H) := takes_of rfl rfl rfl rfl
    refine ⟨_, (pss_cons (ps_expr (pe_cr c_check_range tk hr (by omega) rfl (pa_cons (pv 0) (pa_cons (pe_op op_add (pe_gc rfl g_MOST_LOTS) pe_int) pa_nil))))
      (pss_cons (ps_if (pt_cmpR op_eq (pv 0) pe_int (nomark _)) (pss_one (ps_raise rfl tk (pmk_badN bad_BadSize (by decide) hr (by omega) rfl (pa_cons pe_int pa_nil)))) pss_nil)
      (pss_cons (ps_set (i := 1) sc_pond_histories.nd rfl (.inl rfl) pe_int)
      (pss_cons (ps_for (passes_of rfl) rfl (pi_range1 (by rfl) B.range (pa_cons (pe_op op_sub (pv 0) pe_int) pa_nil)) (pg_name (i := 2) sc_pond_histories.nd rfl (.inl rfl)) (pss_one (ps_set (i := 1) sc_pond_histories.nd rfl (.inl rfl) (pe_op op_mul (pv 1) (pv 0)))))
      (pss_one (ps_ret (pv 1))))))), ?_⟩
    rw [show L2.start N_pond_histories [.int n] = [some (.int n), none, none] from rfl]
    simp only [tSeq, tNext, tDrop, tRet, tRetN, tIfS, tAsg, gName, tAug, ipI, tVar, tC, tOp, tUn, rI, rI0, rU, tCons, tNil, tCB, tTup, tLst, tTest, tB, tAnd, tOr, tNot, tAndV, tOrV, tNotV, tIf, tCl, tCd, tCk, gSub, rPutL, rAtQ, rIntI, rLenQ, rLenS, rListQ, rTupL, rTupQ, rIsQ_c, kd_non, kd_bl, kd_int, kd_str, kd_ref, kdO_lst, kdO_tup, kit_NoneType_bool, kit_NoneType_int, kit_NoneType_str, kit_NoneType_list, kit_NoneType_tuple, kit_bool_bool, kit_bool_int, kit_bool_str, kit_bool_list, kit_bool_tuple, kit_int_bool, kit_int_int, kit_int_str, kit_int_list, kit_int_tuple, kit_str_bool, kit_str_int, kit_str_str, kit_str_list, kit_str_tuple, kit_list_bool, kit_list_int, kit_list_str, kit_list_list, kit_list_tuple, kit_tuple_bool, kit_tuple_int, kit_tuple_str, kit_tuple_list, kit_tuple_tuple, V.ty.injEq, rSortQ, rSlQ, rMulS, tJn, rAtX, rSlS, tSl, tPart, tNoPart, cut_lo2, cut_hi2, rInQ, gLq, gTq, gC_c, gNil, tChain, List.cons_append, List.nil_append, tBL, tBL0, tBad, tCr, tCe, tXF, cxH_K, HO.xd.injEq, rApp, rPopN, rRevL, seqAt_lst, seqAt_tup, at_0, at_1, at_2, at_3, at_4, ix_0, ix_1, ix_2, ix_3, ix_4, cx_K, upd_same, List.length_cons, List.length_nil, Nat.reduceAdd,  rEq, rNe, tRevL, V.int.injEq, V.bl.injEq, V.str.injEq, V.ref.injEq, List.cons.injEq, and_true, true_and, exists_and_left, exists_and_right, exists_eq_left, exists_eq_left', exists_eq_right, exists_eq_right', exists_const, Option.some.injEq, List.getElem?_cons_zero, List.getElem?_cons_succ, List.set_cons_zero, List.set_cons_succ, decide_eq_true_eq, decide_true, decide_false,  scal_ii, scal_bb, scal_ss, cmul_r, cdiv_l, cpow_12, cpow_18, cpow_40, HO.lst.injEq, HO.tup.injEq, upd_upd, Int.reduceToNat,  decide_not, Bool.not_eq_true', decide_eq_false_iff_not, if_true, if_false, Bool.false_eq_true, Bool.true_eq_false, reduceCtorEq, Int.reduceNeg, Nat.reduceLT, Int.reduceLT, Int.reducePow, gt_iff_lt, tBadN, Int.reduceAdd]
    refine ⟨n, 11, rfl, fun hn => ?_, fun hn d H' r n0 hd => q3 (by omega) d H' r n0 hd⟩
    split
    · rename_i h0
      exact fun d H' r n0 hd => q2 h0 d H' r n0 hd
    rename_i h0
    refine z_forZ (n - 2) (fun Q q => ?_) (by omega) (fun i σ' H' => ∃ z : Option V, σ' = [some (.int n), some (.int ((n.toNat ^ i : Nat) : Int)), z] ∧ H' = H) ⟨none, rfl, rfl⟩ (fun i σ' H' hi hI => ?_) (fun σ' H' hI => ?_)
    · simp only [tSeq, tNext, tDrop, tRet, tRetN, tIfS, tAsg, gName, tAug, ipI, tVar, tC, tOp, tUn, rI, rI0, rU, tCons, tNil, tCB, tTup, tLst, tTest, tB, tAnd, tOr, tNot, tAndV, tOrV, tNotV, tIf, tCl, tCd, tCk, gSub, rPutL, rAtQ, rIntI, rLenQ, rLenS, rListQ, rTupL, rTupQ, rIsQ_c, kd_non, kd_bl, kd_int, kd_str, kd_ref, kdO_lst, kdO_tup, kit_NoneType_bool, kit_NoneType_int, kit_NoneType_str, kit_NoneType_list, kit_NoneType_tuple, kit_bool_bool, kit_bool_int, kit_bool_str, kit_bool_list, kit_bool_tuple, kit_int_bool, kit_int_int, kit_int_str, kit_int_list, kit_int_tuple, kit_str_bool, kit_str_int, kit_str_str, kit_str_list, kit_str_tuple, kit_list_bool, kit_list_int, kit_list_str, kit_list_list, kit_list_tuple, kit_tuple_bool, kit_tuple_int, kit_tuple_str, kit_tuple_list, kit_tuple_tuple, V.ty.injEq, rSortQ, rSlQ, rMulS, tJn, rAtX, rSlS, tSl, tPart, tNoPart, cut_lo2, cut_hi2, rInQ, gLq, gTq, gC_c, gNil, tChain, List.cons_append, List.nil_append, tBL, tBL0, tBad, tCr, tCe, tXF, cxH_K, HO.xd.injEq, rApp, rPopN, rRevL, seqAt_lst, seqAt_tup, at_0, at_1, at_2, at_3, at_4, ix_0, ix_1, ix_2, ix_3, ix_4, cx_K, upd_same, List.length_cons, List.length_nil, Nat.reduceAdd,  rEq, rNe, tRevL, V.int.injEq, V.bl.injEq, V.str.injEq, V.ref.injEq, List.cons.injEq, and_true, true_and, exists_and_left, exists_and_right, exists_eq_left, exists_eq_left', exists_eq_right, exists_eq_right', exists_const, Option.some.injEq, List.getElem?_cons_zero, List.getElem?_cons_succ, List.set_cons_zero, List.set_cons_succ, decide_eq_true_eq, decide_true, decide_false,  scal_ii, scal_bb, scal_ss, cmul_r, cdiv_l, cpow_12, cpow_18, cpow_40, HO.lst.injEq, HO.tup.injEq, upd_upd, Int.reduceToNat,  decide_not, Bool.not_eq_true', decide_eq_false_iff_not, if_true, if_false, Bool.false_eq_true, Bool.true_eq_false, reduceCtorEq, Int.reduceNeg, Nat.reduceLT, Int.reduceLT, Int.reducePow, gt_iff_lt]
      exact q
    · obtain ⟨z, rfl, rfl⟩ := hI
      simp only [tSeq, tNext, tDrop, tRet, tRetN, tIfS, tAsg, gName, tAug, ipI, tVar, tC, tOp, tUn, rI, rI0, rU, tCons, tNil, tCB, tTup, tLst, tTest, tB, tAnd, tOr, tNot, tAndV, tOrV, tNotV, tIf, tCl, tCd, tCk, gSub, rPutL, rAtQ, rIntI, rLenQ, rLenS, rListQ, rTupL, rTupQ, rIsQ_c, kd_non, kd_bl, kd_int, kd_str, kd_ref, kdO_lst, kdO_tup, kit_NoneType_bool, kit_NoneType_int, kit_NoneType_str, kit_NoneType_list, kit_NoneType_tuple, kit_bool_bool, kit_bool_int, kit_bool_str, kit_bool_list, kit_bool_tuple, kit_int_bool, kit_int_int, kit_int_str, kit_int_list, kit_int_tuple, kit_str_bool, kit_str_int, kit_str_str, kit_str_list, kit_str_tuple, kit_list_bool, kit_list_int, kit_list_str, kit_list_list, kit_list_tuple, kit_tuple_bool, kit_tuple_int, kit_tuple_str, kit_tuple_list, kit_tuple_tuple, V.ty.injEq, rSortQ, rSlQ, rMulS, tJn, rAtX, rSlS, tSl, tPart, tNoPart, cut_lo2, cut_hi2, rInQ, gLq, gTq, gC_c, gNil, tChain, List.cons_append, List.nil_append, tBL, tBL0, tBad, tCr, tCe, tXF, cxH_K, HO.xd.injEq, rApp, rPopN, rRevL, seqAt_lst, seqAt_tup, at_0, at_1, at_2, at_3, at_4, ix_0, ix_1, ix_2, ix_3, ix_4, cx_K, upd_same, List.length_cons, List.length_nil, Nat.reduceAdd,  rEq, rNe, tRevL, V.int.injEq, V.bl.injEq, V.str.injEq, V.ref.injEq, List.cons.injEq, and_true, true_and, exists_and_left, exists_and_right, exists_eq_left, exists_eq_left', exists_eq_right, exists_eq_right', exists_const, Option.some.injEq, List.getElem?_cons_zero, List.getElem?_cons_succ, List.set_cons_zero, List.set_cons_succ, decide_eq_true_eq, decide_true, decide_false,  scal_ii, scal_bb, scal_ss, cmul_r, cdiv_l, cpow_12, cpow_18, cpow_40, HO.lst.injEq, HO.tup.injEq, upd_upd, Int.reduceToNat,  decide_not, Bool.not_eq_true', decide_eq_false_iff_not, if_true, if_false, Bool.false_eq_true, Bool.true_eq_false, reduceCtorEq, Int.reduceNeg, Nat.reduceLT, Int.reduceLT, Int.reducePow, gt_iff_lt]
      refine ⟨.inr ⟨by omega, by omega⟩, ?_⟩
      have e : ((n.toNat ^ i : Nat) : Int) * n = ((n.toNat ^ (i + 1) : Nat) : Int) := by
        rw [Nat.pow_succ, Int.natCast_mul, Int.toNat_of_nonneg (by omega)]
      rw [e]
      exact ⟨rfl, _, rfl⟩
    · obtain ⟨z, rfl, rfl⟩ := hI
      simp only [tSeq, tNext, tDrop, tRet, tRetN, tIfS, tAsg, gName, tAug, ipI, tVar, tC, tOp, tUn, rI, rI0, rU, tCons, tNil, tCB, tTup, tLst, tTest, tB, tAnd, tOr, tNot, tAndV, tOrV, tNotV, tIf, tCl, tCd, tCk, gSub, rPutL, rAtQ, rIntI, rLenQ, rLenS, rListQ, rTupL, rTupQ, rIsQ_c, kd_non, kd_bl, kd_int, kd_str, kd_ref, kdO_lst, kdO_tup, kit_NoneType_bool, kit_NoneType_int, kit_NoneType_str, kit_NoneType_list, kit_NoneType_tuple, kit_bool_bool, kit_bool_int, kit_bool_str, kit_bool_list, kit_bool_tuple, kit_int_bool, kit_int_int, kit_int_str, kit_int_list, kit_int_tuple, kit_str_bool, kit_str_int, kit_str_str, kit_str_list, kit_str_tuple, kit_list_bool, kit_list_int, kit_list_str, kit_list_list, kit_list_tuple, kit_tuple_bool, kit_tuple_int, kit_tuple_str, kit_tuple_list, kit_tuple_tuple, V.ty.injEq, rSortQ, rSlQ, rMulS, tJn, rAtX, rSlS, tSl, tPart, tNoPart, cut_lo2, cut_hi2, rInQ, gLq, gTq, gC_c, gNil, tChain, List.cons_append, List.nil_append, tBL, tBL0, tBad, tCr, tCe, tXF, cxH_K, HO.xd.injEq, rApp, rPopN, rRevL, seqAt_lst, seqAt_tup, at_0, at_1, at_2, at_3, at_4, ix_0, ix_1, ix_2, ix_3, ix_4, cx_K, upd_same, List.length_cons, List.length_nil, Nat.reduceAdd,  rEq, rNe, tRevL, V.int.injEq, V.bl.injEq, V.str.injEq, V.ref.injEq, List.cons.injEq, and_true, true_and, exists_and_left, exists_and_right, exists_eq_left, exists_eq_left', exists_eq_right, exists_eq_right', exists_const, Option.some.injEq, List.getElem?_cons_zero, List.getElem?_cons_succ, List.set_cons_zero, List.set_cons_succ, decide_eq_true_eq, decide_true, decide_false,  scal_ii, scal_bb, scal_ss, cmul_r, cdiv_l, cpow_12, cpow_18, cpow_40, HO.lst.injEq, HO.tup.injEq, upd_upd, Int.reduceToNat,  decide_not, Bool.not_eq_true', decide_eq_false_iff_not, if_true, if_false, Bool.false_eq_true, Bool.true_eq_false, reduceCtorEq, Int.reduceNeg, Nat.reduceLT, Int.reduceLT, Int.reducePow, gt_iff_lt]
      have e : (n - 2).toNat = n.toNat - 2 := by omega
      rw [e]
      exact q1 (by omega) (by omega)
theorem cr_pond_histories {CS CO : Addr} (D : Dn K mg "pond_histories" s_pond_histories) (F : ∀ (f : Addr) (fd : FuncData), Fun K "pond_histories" "pond_histories" s_pond_histories f fd → FnOk P w K mg base (L2.CX P w) 4 f fd ["size"] (sp_ph CS CO)) : Cr P w K mg base 4 "pond_histories" (sp_ph CS CO) := by
  obtain ⟨f, fd, G, hm⟩ := D.ex
  exact ⟨f, fd, _, F f fd G, hm, G.kp, G.binds b_pond_histories⟩
theorem crk_pond_histories {CS CO : Addr} (D : Dn K mg "pond_histories" s_pond_histories) (F : ∀ (f : Addr) (fd : FuncData), Fun K "pond_histories" "pond_histories" s_pond_histories f fd → FnOk P w K mg base (L2.CX P w) 4 f fd ["size"] (sp_ph CS CO)) : Crk P w K mg base 4 "pond_histories" ["size"] (sp_ph CS CO) :=
  crk_of D F ["size"] fun kV doc pm an cdv ct ws h => match ws, h with
    | [_], _ => rfl
def sp_phC : Sp := fun vs H Q _ => ∃ n : Int, vs = [.int n] ∧ 1 ≤ n ∧ n ≤ 10 ∧ Q (.int (ph n.toNat : Nat)) H
theorem q_pond_histories {CS CO : Addr} (c : Cr P w K mg base 4 "pond_histories" (sp_ph CS CO)) : Cl P w K mg base 4 "pond_histories" sp_phC :=
  c.cl.imp fun _ _ _ _ ⟨n, e, h1, h2, q⟩ => ⟨n, e, fun _ _ => q, fun h => absurd h (by omega), fun h => absurd h (by omega)⟩
abbrev s_count_mixes : Stmt := topS 13
abbrev N_count_mixes : List Str := ["lengths", "total", "many", "length"]
theorem sc_count_mixes : FnScope N_count_mixes ["lengths"] (defScope s_count_mixes) := ⟨rfl, rfl, rfl, by decide +kernel, rfl, by decide +kernel, by decide +kernel⟩
theorem b_count_mixes : BindO "count_mixes" s_count_mixes ["lengths"] := fun _ _ _ _ _ _ us hl => match us, hl with | [_], _ => rfl

/-- how many mixes there are -/
def mx (ns : List Int) : Nat := fac ns.sum.toNat / pfac ns
def sp_mix (seq : Hp → Addr → List V → Prop) (CM : Addr) : Sp := fun vs H Q E => ∃ (p : Addr) (ns : List Int), vs = [.ref p] ∧ seq H p (ns.map V.int) ∧ (∀ n ∈ ns, 0 ≤ n) ∧ (ns.sum ≤ 20 → Q (.int (mx ns : Nat)) H) ∧
  (20 < ns.sum → ∀ (d : Addr) (H' : Hp), Same H H' → H d = none → H' d = some (.xd (fMany [.int ns.sum, .int 20])) → E (.ref CM) (some d) H')
def seqL : Hp → Addr → List V → Prop := fun H p xs => H p = some (.lst xs)
def seqT : Hp → Addr → List V → Prop := fun H p xs => H p = some (.tup xs)
theorem mix_turn {ns : List Int} {i : Nat} {n : Int} (hn : ∀ n ∈ ns, 0 ≤ n) (h20 : ns.sum ≤ 20) (h : ns[i]? = some n) : 0 ≤ n ∧ n ≤ 20 := ⟨hn n (List.mem_of_getElem? h), Int.le_trans (le_sum hn (List.mem_of_getElem? h)) h20⟩
theorem ok_mixesL (D : Dn K mg "count_mixes" s_count_mixes) (B : Blt mg) (g_MOST_MIXED : ∃ u, mg "MOST_MIXED" = some u ∧ RelV (.int 20) u) (m_factorial : mg "factorial" = some (.builtin "math.factorial")) {CM : Addr} (c_check_most : Cr P w K mg base 3 "check_most" (sp_check_most CM)) : Cr P w K mg base 4 "count_mixes" (sp_mix seqL CM) := by
  refine cr_of D sc_count_mixes b_count_mixes (fun vs H Q E h => ?_) (fun f cdv A outer s H vs Q E hr h => ?_)
  · obtain ⟨p, ns, rfl, _⟩ := h
    rfl
  · obtain ⟨p, ns, rfl, hp, hn, q1, q2⟩ := h
    have tk : Takes (cxOf (L2.CX P w) P w K mg base N_count_mixes "count_mixes" (defScope s_count_mixes) f cdv A outer s H E) (fun cls d _ H => E cls d H) := takes_of rfl rfl rfl rfl
    refine ⟨_, (pss_cons (ps_set (i := 1) sc_count_mixes.nd rfl (.inl rfl) (pe_callB (cr_sumQ rfl) (by rfl) B.sum (by decide +kernel) (pa_cons (pv 0) pa_nil)))
      (pss_cons (ps_expr (pe_cr c_check_most tk hr (by omega) rfl (pa_cons (pv 1) (pa_cons (pe_gc rfl g_MOST_MIXED) pa_nil))))
      (pss_cons (ps_set (i := 2) sc_count_mixes.nd rfl (.inl rfl) (pe_callBfun cr_fact rfl m_factorial (pa_cons (pv 1) pa_nil)))
      (pss_cons (ps_for (passes_of rfl) rfl (pi_list (pv 0)) (pg_name (i := 3) sc_count_mixes.nd rfl (.inl rfl)) (pss_one (ps_set (i := 2) sc_count_mixes.nd rfl (.inl rfl) (pe_op op_fdivW (pv 2) (pe_callBfun cr_fact rfl m_factorial (pa_cons (pv 3) pa_nil))))))
      (pss_one (ps_ret (pv 2))))))), ?_⟩
    rw [show L2.start N_count_mixes [.ref p] = [some (.ref p), none, none, none] from rfl]
    have hp' : H p = some (.lst (ns.map V.int)) := hp
    have hs : seqAt (H p) = some (ns.map V.int) := by rw [hp'] <;> rfl
    simp only [tSeq, tNext, tDrop, tRet, tRetN, tIfS, tAsg, gName, tAug, ipI, tVar, tC, tOp, tUn, rI, rI0, rU, tCons, tNil, tCB, tTup, tLst, tTest, tB, tAnd, tOr, tNot, tAndV, tOrV, tNotV, tIf, tCl, tCd, tCk, gSub, rPutL, rAtQ, rIntI, rLenQ, rLenS, rListQ, rTupL, rTupQ, rIsQ_c, kd_non, kd_bl, kd_int, kd_str, kd_ref, kdO_lst, kdO_tup, kit_NoneType_bool, kit_NoneType_int, kit_NoneType_str, kit_NoneType_list, kit_NoneType_tuple, kit_bool_bool, kit_bool_int, kit_bool_str, kit_bool_list, kit_bool_tuple, kit_int_bool, kit_int_int, kit_int_str, kit_int_list, kit_int_tuple, kit_str_bool, kit_str_int, kit_str_str, kit_str_list, kit_str_tuple, kit_list_bool, kit_list_int, kit_list_str, kit_list_list, kit_list_tuple, kit_tuple_bool, kit_tuple_int, kit_tuple_str, kit_tuple_list, kit_tuple_tuple, V.ty.injEq, rSortQ, rSlQ, rMulS, tJn, rAtX, rSlS, tSl, tPart, tNoPart, cut_lo2, cut_hi2, rInQ, gLq, gTq, gC_c, gNil, tChain, List.cons_append, List.nil_append, tBL, tBL0, tBad, tCr, tCe, tXF, cxH_K, HO.xd.injEq, rApp, rPopN, rRevL, seqAt_lst, seqAt_tup, at_0, at_1, at_2, at_3, at_4, ix_0, ix_1, ix_2, ix_3, ix_4, cx_K, upd_same, List.length_cons, List.length_nil, Nat.reduceAdd,  rEq, rNe, tRevL, V.int.injEq, V.bl.injEq, V.str.injEq, V.ref.injEq, List.cons.injEq, and_true, true_and, exists_and_left, exists_and_right, exists_eq_left, exists_eq_left', exists_eq_right, exists_eq_right', exists_const, Option.some.injEq, List.getElem?_cons_zero, List.getElem?_cons_succ, List.set_cons_zero, List.set_cons_succ, decide_eq_true_eq, decide_true, decide_false,  scal_ii, scal_bb, scal_ss, cmul_r, cdiv_l, cpow_12, cpow_18, cpow_40, HO.lst.injEq, HO.tup.injEq, upd_upd, Int.reduceToNat,  decide_not, Bool.not_eq_true', decide_eq_false_iff_not, if_true, if_false, Bool.false_eq_true, Bool.true_eq_false, reduceCtorEq, Int.reduceNeg, Nat.reduceLT, Int.reduceLT, Int.reducePow, gt_iff_lt, rSumQ, rFact, hs]
    refine ⟨ns, rfl, _, _, rfl, fun h20 => ?_, fun h20 d H' r n0 hd => q2 h20 d H' r n0 hd⟩
    refine ⟨sum_nn hn, h20, ?_⟩
    refine z_forL p (ns.map V.int) (fun Q q => ?_) (SqL.of hp') (fun i σ' H' => ∃ z : Option V, σ' = [some (.ref p), some (.int ns.sum), some (.int ((fac ns.sum.toNat / pfac (ns.take i) : Nat) : Int)), z] ∧ H' = H) ⟨none, by rw [List.take_zero, show pfac [] = 1 from rfl, Nat.div_one], rfl⟩ (fun i σ' H' hi hI => ?_) (fun i v σ' H' hi hI => ?_) (fun σ' H' hI => ?_)
    · simp only [tSeq, tNext, tDrop, tRet, tRetN, tIfS, tAsg, gName, tAug, ipI, tVar, tC, tOp, tUn, rI, rI0, rU, tCons, tNil, tCB, tTup, tLst, tTest, tB, tAnd, tOr, tNot, tAndV, tOrV, tNotV, tIf, tCl, tCd, tCk, gSub, rPutL, rAtQ, rIntI, rLenQ, rLenS, rListQ, rTupL, rTupQ, rIsQ_c, kd_non, kd_bl, kd_int, kd_str, kd_ref, kdO_lst, kdO_tup, kit_NoneType_bool, kit_NoneType_int, kit_NoneType_str, kit_NoneType_list, kit_NoneType_tuple, kit_bool_bool, kit_bool_int, kit_bool_str, kit_bool_list, kit_bool_tuple, kit_int_bool, kit_int_int, kit_int_str, kit_int_list, kit_int_tuple, kit_str_bool, kit_str_int, kit_str_str, kit_str_list, kit_str_tuple, kit_list_bool, kit_list_int, kit_list_str, kit_list_list, kit_list_tuple, kit_tuple_bool, kit_tuple_int, kit_tuple_str, kit_tuple_list, kit_tuple_tuple, V.ty.injEq, rSortQ, rSlQ, rMulS, tJn, rAtX, rSlS, tSl, tPart, tNoPart, cut_lo2, cut_hi2, rInQ, gLq, gTq, gC_c, gNil, tChain, List.cons_append, List.nil_append, tBL, tBL0, tBad, tCr, tCe, tXF, cxH_K, HO.xd.injEq, rApp, rPopN, rRevL, seqAt_lst, seqAt_tup, at_0, at_1, at_2, at_3, at_4, ix_0, ix_1, ix_2, ix_3, ix_4, cx_K, upd_same, List.length_cons, List.length_nil, Nat.reduceAdd,  rEq, rNe, tRevL, V.int.injEq, V.bl.injEq, V.str.injEq, V.ref.injEq, List.cons.injEq, and_true, true_and, exists_and_left, exists_and_right, exists_eq_left, exists_eq_left', exists_eq_right, exists_eq_right', exists_const, Option.some.injEq, List.getElem?_cons_zero, List.getElem?_cons_succ, List.set_cons_zero, List.set_cons_succ, decide_eq_true_eq, decide_true, decide_false,  scal_ii, scal_bb, scal_ss, cmul_r, cdiv_l, cpow_12, cpow_18, cpow_40, HO.lst.injEq, HO.tup.injEq, upd_upd, Int.reduceToNat,  decide_not, Bool.not_eq_true', decide_eq_false_iff_not, if_true, if_false, Bool.false_eq_true, Bool.true_eq_false, reduceCtorEq, Int.reduceNeg, Nat.reduceLT, Int.reduceLT, Int.reducePow, gt_iff_lt]
      exact q
    · obtain ⟨z, rfl, rfl⟩ := hI
      exact SqL.of hp'
    · obtain ⟨z, rfl, rfl⟩ := hI
      rw [List.getElem?_map] at hi
      obtain ⟨n, hn', rfl⟩ := Option.map_eq_some_iff.mp hi
      have hb := mix_turn hn h20 hn'
      have hf := fac_pos n.toNat
      have hf2 := fac_small n.toNat (by omega)
      simp only [tSeq, tNext, tDrop, tRet, tRetN, tIfS, tAsg, gName, tAug, ipI, tVar, tC, tOp, tUn, rI, rI0, rU, tCons, tNil, tCB, tTup, tLst, tTest, tB, tAnd, tOr, tNot, tAndV, tOrV, tNotV, tIf, tCl, tCd, tCk, gSub, rPutL, rAtQ, rIntI, rLenQ, rLenS, rListQ, rTupL, rTupQ, rIsQ_c, kd_non, kd_bl, kd_int, kd_str, kd_ref, kdO_lst, kdO_tup, kit_NoneType_bool, kit_NoneType_int, kit_NoneType_str, kit_NoneType_list, kit_NoneType_tuple, kit_bool_bool, kit_bool_int, kit_bool_str, kit_bool_list, kit_bool_tuple, kit_int_bool, kit_int_int, kit_int_str, kit_int_list, kit_int_tuple, kit_str_bool, kit_str_int, kit_str_str, kit_str_list, kit_str_tuple, kit_list_bool, kit_list_int, kit_list_str, kit_list_list, kit_list_tuple, kit_tuple_bool, kit_tuple_int, kit_tuple_str, kit_tuple_list, kit_tuple_tuple, V.ty.injEq, rSortQ, rSlQ, rMulS, tJn, rAtX, rSlS, tSl, tPart, tNoPart, cut_lo2, cut_hi2, rInQ, gLq, gTq, gC_c, gNil, tChain, List.cons_append, List.nil_append, tBL, tBL0, tBad, tCr, tCe, tXF, cxH_K, HO.xd.injEq, rApp, rPopN, rRevL, seqAt_lst, seqAt_tup, at_0, at_1, at_2, at_3, at_4, ix_0, ix_1, ix_2, ix_3, ix_4, cx_K, upd_same, List.length_cons, List.length_nil, Nat.reduceAdd,  rEq, rNe, tRevL, V.int.injEq, V.bl.injEq, V.str.injEq, V.ref.injEq, List.cons.injEq, and_true, true_and, exists_and_left, exists_and_right, exists_eq_left, exists_eq_left', exists_eq_right, exists_eq_right', exists_const, Option.some.injEq, List.getElem?_cons_zero, List.getElem?_cons_succ, List.set_cons_zero, List.set_cons_succ, decide_eq_true_eq, decide_true, decide_false,  scal_ii, scal_bb, scal_ss, cmul_r, cdiv_l, cpow_12, cpow_18, cpow_40, HO.lst.injEq, HO.tup.injEq, upd_upd, Int.reduceToNat,  decide_not, Bool.not_eq_true', decide_eq_false_iff_not, if_true, if_false, Bool.false_eq_true, Bool.true_eq_false, reduceCtorEq, Int.reduceNeg, Nat.reduceLT, Int.reduceLT, Int.reducePow, gt_iff_lt, rFact]
      refine ⟨hb.1, hb.2, cdiv_ok (by omega) (by omega), ?_⟩
      rw [div_step, pfac_step hn']
      exact ⟨rfl, _, rfl⟩
    · obtain ⟨z, rfl, rfl⟩ := hI
      rw [List.length_map, List.take_length]
      simp only [tSeq, tNext, tDrop, tRet, tRetN, tIfS, tAsg, gName, tAug, ipI, tVar, tC, tOp, tUn, rI, rI0, rU, tCons, tNil, tCB, tTup, tLst, tTest, tB, tAnd, tOr, tNot, tAndV, tOrV, tNotV, tIf, tCl, tCd, tCk, gSub, rPutL, rAtQ, rIntI, rLenQ, rLenS, rListQ, rTupL, rTupQ, rIsQ_c, kd_non, kd_bl, kd_int, kd_str, kd_ref, kdO_lst, kdO_tup, kit_NoneType_bool, kit_NoneType_int, kit_NoneType_str, kit_NoneType_list, kit_NoneType_tuple, kit_bool_bool, kit_bool_int, kit_bool_str, kit_bool_list, kit_bool_tuple, kit_int_bool, kit_int_int, kit_int_str, kit_int_list, kit_int_tuple, kit_str_bool, kit_str_int, kit_str_str, kit_str_list, kit_str_tuple, kit_list_bool, kit_list_int, kit_list_str, kit_list_list, kit_list_tuple, kit_tuple_bool, kit_tuple_int, kit_tuple_str, kit_tuple_list, kit_tuple_tuple, V.ty.injEq, rSortQ, rSlQ, rMulS, tJn, rAtX, rSlS, tSl, tPart, tNoPart, cut_lo2, cut_hi2, rInQ, gLq, gTq, gC_c, gNil, tChain, List.cons_append, List.nil_append, tBL, tBL0, tBad, tCr, tCe, tXF, cxH_K, HO.xd.injEq, rApp, rPopN, rRevL, seqAt_lst, seqAt_tup, at_0, at_1, at_2, at_3, at_4, ix_0, ix_1, ix_2, ix_3, ix_4, cx_K, upd_same, List.length_cons, List.length_nil, Nat.reduceAdd,  rEq, rNe, tRevL, V.int.injEq, V.bl.injEq, V.str.injEq, V.ref.injEq, List.cons.injEq, and_true, true_and, exists_and_left, exists_and_right, exists_eq_left, exists_eq_left', exists_eq_right, exists_eq_right', exists_const, Option.some.injEq, List.getElem?_cons_zero, List.getElem?_cons_succ, List.set_cons_zero, List.set_cons_succ, decide_eq_true_eq, decide_true, decide_false,  scal_ii, scal_bb, scal_ss, cmul_r, cdiv_l, cpow_12, cpow_18, cpow_40, HO.lst.injEq, HO.tup.injEq, upd_upd, Int.reduceToNat,  decide_not, Bool.not_eq_true', decide_eq_false_iff_not, if_true, if_false, Bool.false_eq_true, Bool.true_eq_false, reduceCtorEq, Int.reduceNeg, Nat.reduceLT, Int.reduceLT, Int.reducePow, gt_iff_lt]
      exact q1 h20
theorem ok_mixesT (D : Dn K mg "count_mixes" s_count_mixes) (B : Blt mg) (g_MOST_MIXED : ∃ u, mg "MOST_MIXED" = some u ∧ RelV (.int 20) u) (m_factorial : mg "factorial" = some (.builtin "math.factorial")) {CM : Addr} (c_check_most : Cr P w K mg base 3 "check_most" (sp_check_most CM)) : Cr P w K mg base 4 "count_mixes" (sp_mix seqT CM) := by
  refine cr_of D sc_count_mixes b_count_mixes (fun vs H Q E h => ?_) (fun f cdv A outer s H vs Q E hr h => ?_)
  · obtain ⟨p, ns, rfl, _⟩ := h
    rfl
  · obtain ⟨p, ns, rfl, hp, hn, q1, q2⟩ := h
    have tk : Takes (cxOf (L2.CX P w) P w K mg base N_count_mixes "count_mixes" (defScope s_count_mixes) f cdv A outer s H E) (fun cls d _ H => E cls d H) := takes_of rfl rfl rfl rfl
    refine ⟨_, (pss_cons (ps_set (i := 1) sc_count_mixes.nd rfl (.inl rfl) (pe_callB (cr_sumQ rfl) (by rfl) B.sum (by decide +kernel) (pa_cons (pv 0) pa_nil)))
      (pss_cons (ps_expr (pe_cr c_check_most tk hr (by omega) rfl (pa_cons (pv 1) (pa_cons (pe_gc rfl g_MOST_MIXED) pa_nil))))
      (pss_cons (ps_set (i := 2) sc_count_mixes.nd rfl (.inl rfl) (pe_callBfun cr_fact rfl m_factorial (pa_cons (pv 1) pa_nil)))
      (pss_cons (ps_for (passes_of rfl) rfl (pi_tup (pv 0)) (pg_name (i := 3) sc_count_mixes.nd rfl (.inl rfl)) (pss_one (ps_set (i := 2) sc_count_mixes.nd rfl (.inl rfl) (pe_op op_fdivW (pv 2) (pe_callBfun cr_fact rfl m_factorial (pa_cons (pv 3) pa_nil))))))
      (pss_one (ps_ret (pv 2))))))), ?_⟩
    rw [show L2.start N_count_mixes [.ref p] = [some (.ref p), none, none, none] from rfl]
    have hp' : H p = some (.tup (ns.map V.int)) := hp
    have hs : seqAt (H p) = some (ns.map V.int) := by rw [hp'] <;> rfl
    simp only [tSeq, tNext, tDrop, tRet, tRetN, tIfS, tAsg, gName, tAug, ipI, tVar, tC, tOp, tUn, rI, rI0, rU, tCons, tNil, tCB, tTup, tLst, tTest, tB, tAnd, tOr, tNot, tAndV, tOrV, tNotV, tIf, tCl, tCd, tCk, gSub, rPutL, rAtQ, rIntI, rLenQ, rLenS, rListQ, rTupL, rTupQ, rIsQ_c, kd_non, kd_bl, kd_int, kd_str, kd_ref, kdO_lst, kdO_tup, kit_NoneType_bool, kit_NoneType_int, kit_NoneType_str, kit_NoneType_list, kit_NoneType_tuple, kit_bool_bool, kit_bool_int, kit_bool_str, kit_bool_list, kit_bool_tuple, kit_int_bool, kit_int_int, kit_int_str, kit_int_list, kit_int_tuple, kit_str_bool, kit_str_int, kit_str_str, kit_str_list, kit_str_tuple, kit_list_bool, kit_list_int, kit_list_str, kit_list_list, kit_list_tuple, kit_tuple_bool, kit_tuple_int, kit_tuple_str, kit_tuple_list, kit_tuple_tuple, V.ty.injEq, rSortQ, rSlQ, rMulS, tJn, rAtX, rSlS, tSl, tPart, tNoPart, cut_lo2, cut_hi2, rInQ, gLq, gTq, gC_c, gNil, tChain, List.cons_append, List.nil_append, tBL, tBL0, tBad, tCr, tCe, tXF, cxH_K, HO.xd.injEq, rApp, rPopN, rRevL, seqAt_lst, seqAt_tup, at_0, at_1, at_2, at_3, at_4, ix_0, ix_1, ix_2, ix_3, ix_4, cx_K, upd_same, List.length_cons, List.length_nil, Nat.reduceAdd,  rEq, rNe, tRevL, V.int.injEq, V.bl.injEq, V.str.injEq, V.ref.injEq, List.cons.injEq, and_true, true_and, exists_and_left, exists_and_right, exists_eq_left, exists_eq_left', exists_eq_right, exists_eq_right', exists_const, Option.some.injEq, List.getElem?_cons_zero, List.getElem?_cons_succ, List.set_cons_zero, List.set_cons_succ, decide_eq_true_eq, decide_true, decide_false,  scal_ii, scal_bb, scal_ss, cmul_r, cdiv_l, cpow_12, cpow_18, cpow_40, HO.lst.injEq, HO.tup.injEq, upd_upd, Int.reduceToNat,  decide_not, Bool.not_eq_true', decide_eq_false_iff_not, if_true, if_false, Bool.false_eq_true, Bool.true_eq_false, reduceCtorEq, Int.reduceNeg, Nat.reduceLT, Int.reduceLT, Int.reducePow, gt_iff_lt, rSumQ, rFact, hs]
    refine ⟨ns, rfl, _, _, rfl, fun h20 => ?_, fun h20 d H' r n0 hd => q2 h20 d H' r n0 hd⟩
    refine ⟨sum_nn hn, h20, ?_⟩
    refine z_forT p (ns.map V.int) (fun Q q => ?_) (SqT.of hp') (fun i σ' H' => ∃ z : Option V, σ' = [some (.ref p), some (.int ns.sum), some (.int ((fac ns.sum.toNat / pfac (ns.take i) : Nat) : Int)), z] ∧ H' = H) ⟨none, by rw [List.take_zero, show pfac [] = 1 from rfl, Nat.div_one], rfl⟩ (fun i σ' H' hi hI => ?_) (fun i v σ' H' hi hI => ?_) (fun σ' H' hI => ?_)
    · simp only [tSeq, tNext, tDrop, tRet, tRetN, tIfS, tAsg, gName, tAug, ipI, tVar, tC, tOp, tUn, rI, rI0, rU, tCons, tNil, tCB, tTup, tLst, tTest, tB, tAnd, tOr, tNot, tAndV, tOrV, tNotV, tIf, tCl, tCd, tCk, gSub, rPutL, rAtQ, rIntI, rLenQ, rLenS, rListQ, rTupL, rTupQ, rIsQ_c, kd_non, kd_bl, kd_int, kd_str, kd_ref, kdO_lst, kdO_tup, kit_NoneType_bool, kit_NoneType_int, kit_NoneType_str, kit_NoneType_list, kit_NoneType_tuple, kit_bool_bool, kit_bool_int, kit_bool_str, kit_bool_list, kit_bool_tuple, kit_int_bool, kit_int_int, kit_int_str, kit_int_list, kit_int_tuple, kit_str_bool, kit_str_int, kit_str_str, kit_str_list, kit_str_tuple, kit_list_bool, kit_list_int, kit_list_str, kit_list_list, kit_list_tuple, kit_tuple_bool, kit_tuple_int, kit_tuple_str, kit_tuple_list, kit_tuple_tuple, V.ty.injEq, rSortQ, rSlQ, rMulS, tJn, rAtX, rSlS, tSl, tPart, tNoPart, cut_lo2, cut_hi2, rInQ, gLq, gTq, gC_c, gNil, tChain, List.cons_append, List.nil_append, tBL, tBL0, tBad, tCr, tCe, tXF, cxH_K, HO.xd.injEq, rApp, rPopN, rRevL, seqAt_lst, seqAt_tup, at_0, at_1, at_2, at_3, at_4, ix_0, ix_1, ix_2, ix_3, ix_4, cx_K, upd_same, List.length_cons, List.length_nil, Nat.reduceAdd,  rEq, rNe, tRevL, V.int.injEq, V.bl.injEq, V.str.injEq, V.ref.injEq, List.cons.injEq, and_true, true_and, exists_and_left, exists_and_right, exists_eq_left, exists_eq_left', exists_eq_right, exists_eq_right', exists_const, Option.some.injEq, List.getElem?_cons_zero, List.getElem?_cons_succ, List.set_cons_zero, List.set_cons_succ, decide_eq_true_eq, decide_true, decide_false,  scal_ii, scal_bb, scal_ss, cmul_r, cdiv_l, cpow_12, cpow_18, cpow_40, HO.lst.injEq, HO.tup.injEq, upd_upd, Int.reduceToNat,  decide_not, Bool.not_eq_true', decide_eq_false_iff_not, if_true, if_false, Bool.false_eq_true, Bool.true_eq_false, reduceCtorEq, Int.reduceNeg, Nat.reduceLT, Int.reduceLT, Int.reducePow, gt_iff_lt]
      exact q
    · obtain ⟨z, rfl, rfl⟩ := hI
      exact SqT.of hp'
    · obtain ⟨z, rfl, rfl⟩ := hI
      rw [List.getElem?_map] at hi
      obtain ⟨n, hn', rfl⟩ := Option.map_eq_some_iff.mp hi
      have hb := mix_turn hn h20 hn'
      have hf := fac_pos n.toNat
      have hf2 := fac_small n.toNat (by omega)
      simp only [tSeq, tNext, tDrop, tRet, tRetN, tIfS, tAsg, gName, tAug, ipI, tVar, tC, tOp, tUn, rI, rI0, rU, tCons, tNil, tCB, tTup, tLst, tTest, tB, tAnd, tOr, tNot, tAndV, tOrV, tNotV, tIf, tCl, tCd, tCk, gSub, rPutL, rAtQ, rIntI, rLenQ, rLenS, rListQ, rTupL, rTupQ, rIsQ_c, kd_non, kd_bl, kd_int, kd_str, kd_ref, kdO_lst, kdO_tup, kit_NoneType_bool, kit_NoneType_int, kit_NoneType_str, kit_NoneType_list, kit_NoneType_tuple, kit_bool_bool, kit_bool_int, kit_bool_str, kit_bool_list, kit_bool_tuple, kit_int_bool, kit_int_int, kit_int_str, kit_int_list, kit_int_tuple, kit_str_bool, kit_str_int, kit_str_str, kit_str_list, kit_str_tuple, kit_list_bool, kit_list_int, kit_list_str, kit_list_list, kit_list_tuple, kit_tuple_bool, kit_tuple_int, kit_tuple_str, kit_tuple_list, kit_tuple_tuple, V.ty.injEq, rSortQ, rSlQ, rMulS, tJn, rAtX, rSlS, tSl, tPart, tNoPart, cut_lo2, cut_hi2, rInQ, gLq, gTq, gC_c, gNil, tChain, List.cons_append, List.nil_append, tBL, tBL0, tBad, tCr, tCe, tXF, cxH_K, HO.xd.injEq, rApp, rPopN, rRevL, seqAt_lst, seqAt_tup, at_0, at_1, at_2, at_3, at_4, ix_0, ix_1, ix_2, ix_3, ix_4, cx_K, upd_same, List.length_cons, List.length_nil, Nat.reduceAdd,  rEq, rNe, tRevL, V.int.injEq, V.bl.injEq, V.str.injEq, V.ref.injEq, List.cons.injEq, and_true, true_and, exists_and_left, exists_and_right, exists_eq_left, exists_eq_left', exists_eq_right, exists_eq_right', exists_const, Option.some.injEq, List.getElem?_cons_zero, List.getElem?_cons_succ, List.set_cons_zero, List.set_cons_succ, decide_eq_true_eq, decide_true, decide_false,  scal_ii, scal_bb, scal_ss, cmul_r, cdiv_l, cpow_12, cpow_18, cpow_40, HO.lst.injEq, HO.tup.injEq, upd_upd, Int.reduceToNat,  decide_not, Bool.not_eq_true', decide_eq_false_iff_not, if_true, if_false, Bool.false_eq_true, Bool.true_eq_false, reduceCtorEq, Int.reduceNeg, Nat.reduceLT, Int.reduceLT, Int.reducePow, gt_iff_lt, rFact]
      refine ⟨hb.1, hb.2, cdiv_ok (by omega) (by omega), ?_⟩
      rw [div_step, pfac_step hn']
      exact ⟨rfl, _, rfl⟩
    · obtain ⟨z, rfl, rfl⟩ := hI
      rw [List.length_map, List.take_length]
      simp only [tSeq, tNext, tDrop, tRet, tRetN, tIfS, tAsg, gName, tAug, ipI, tVar, tC, tOp, tUn, rI, rI0, rU, tCons, tNil, tCB, tTup, tLst, tTest, tB, tAnd, tOr, tNot, tAndV, tOrV, tNotV, tIf, tCl, tCd, tCk, gSub, rPutL, rAtQ, rIntI, rLenQ, rLenS, rListQ, rTupL, rTupQ, rIsQ_c, kd_non, kd_bl, kd_int, kd_str, kd_ref, kdO_lst, kdO_tup, kit_NoneType_bool, kit_NoneType_int, kit_NoneType_str, kit_NoneType_list, kit_NoneType_tuple, kit_bool_bool, kit_bool_int, kit_bool_str, kit_bool_list, kit_bool_tuple, kit_int_bool, kit_int_int, kit_int_str, kit_int_list, kit_int_tuple, kit_str_bool, kit_str_int, kit_str_str, kit_str_list, kit_str_tuple, kit_list_bool, kit_list_int, kit_list_str, kit_list_list, kit_list_tuple, kit_tuple_bool, kit_tuple_int, kit_tuple_str, kit_tuple_list, kit_tuple_tuple, V.ty.injEq, rSortQ, rSlQ, rMulS, tJn, rAtX, rSlS, tSl, tPart, tNoPart, cut_lo2, cut_hi2, rInQ, gLq, gTq, gC_c, gNil, tChain, List.cons_append, List.nil_append, tBL, tBL0, tBad, tCr, tCe, tXF, cxH_K, HO.xd.injEq, rApp, rPopN, rRevL, seqAt_lst, seqAt_tup, at_0, at_1, at_2, at_3, at_4, ix_0, ix_1, ix_2, ix_3, ix_4, cx_K, upd_same, List.length_cons, List.length_nil, Nat.reduceAdd,  rEq, rNe, tRevL, V.int.injEq, V.bl.injEq, V.str.injEq, V.ref.injEq, List.cons.injEq, and_true, true_and, exists_and_left, exists_and_right, exists_eq_left, exists_eq_left', exists_eq_right, exists_eq_right', exists_const, Option.some.injEq, List.getElem?_cons_zero, List.getElem?_cons_succ, List.set_cons_zero, List.set_cons_succ, decide_eq_true_eq, decide_true, decide_false,  scal_ii, scal_bb, scal_ss, cmul_r, cdiv_l, cpow_12, cpow_18, cpow_40, HO.lst.injEq, HO.tup.injEq, upd_upd, Int.reduceToNat,  decide_not, Bool.not_eq_true', decide_eq_false_iff_not, if_true, if_false, Bool.false_eq_true, Bool.true_eq_false, reduceCtorEq, Int.reduceNeg, Nat.reduceLT, Int.reduceLT, Int.reducePow, gt_iff_lt]
      exact q1 h20
def sp_mixC : Sp := fun vs H Q _ => ∃ (p : Addr) (ns : List Int), vs = [.ref p] ∧ H p = some (.lst (ns.map V.int)) ∧ (∀ n ∈ ns, 0 ≤ n) ∧ ns.sum ≤ 20 ∧ Q (.int (mx ns : Nat)) H
theorem q_count_mixes {CM : Addr} (c : Cr P w K mg base 4 "count_mixes" (sp_mix seqL CM)) : Cl P w K mg base 4 "count_mixes" sp_mixC :=
  c.cl.imp fun _ _ _ _ ⟨p, ns, e, h1, h2, h3, q⟩ => ⟨p, ns, e, h1, h2, fun _ => q, fun h => absurd h (by omega)⟩
end
end Z
set_option Elab.async false
set_option linter.all false
set_option maxRecDepth 100000
set_option maxHeartbeats 4000000
namespace Z
open PySem PySem.Spec PyProof.Rows L2 L2H
section
variable {P : Program} {w : World} {K : PySem.W.Frag} {mg : Str → Option Value} {base : Heap}
abbrev s_law_put : Stmt := topS 19
abbrev N_law_put : List Str := ["store", "some", "item", "spot"]
theorem sc_law_put : FnScope N_law_put ["store", "some", "item"] (defScope s_law_put) := ⟨rfl, rfl, rfl, by decide +kernel, rfl, by decide +kernel, by decide +kernel⟩
theorem b_law_put : BindO "_law_put" s_law_put ["store", "some", "item"] := fun _ _ _ _ _ _ us hl => match us, hl with | [_, _, _], _ => rfl

/-- the item put in somewhere, in a new list -/
def sp_put : Sp := fun vs H Q _ => ∃ (S : Sto) (b : Addr) (ns : List Int) (j : Int), vs = [.ref S.a, .ref b, .int j] ∧ Store S H ∧ H b = some (.lst (ns.map V.int)) ∧ b ≠ S.a ∧ ns.length ≤ 1000 ∧
  ∀ (p : Addr) (ms : List Int) (H' : Hp), Drew S H H' → H p = none → H' p = some (.lst (ms.map V.int)) → ms.length = ns.length + 1 → (∀ m ∈ ms, m ∈ ns ∨ m = j) → Q (.ref p) H'
theorem ok_put (D : Dn K mg "_law_put" s_law_put) (B : Blt mg) (c_law_take : Cl P w K mg base 2 "_law_take" sp_take) : Cl P w K mg base 3 "_law_put" sp_put := by
  refine cl_of D sc_law_put b_law_put (fun vs H Q E h => ?_) (fun f cdv A outer s H vs Q E hr h => ?_)
  · obtain ⟨S, b, ns, j, rfl, _⟩ := h
    rfl
  · obtain ⟨S, b, ns, j, rfl, st, hb, hn, hz, q⟩ := h
    refine ⟨_, (pss_cons (ps_set (i := 3) sc_law_put.nd rfl (.inl rfl) (pe_cl c_law_take hr (by omega) rfl (pa_cons (pv 0) (pa_cons (pe_op op_add (pe_callB call_lenQ (by rfl) B.len PySem.boot_len (pa_cons (pv 1) pa_nil)) pe_int) pa_nil))))
      (pss_one (ps_ret (pe_op op_catQ (pe_op op_catQ (pe_slice sl_listQ (pe_callTy call_listQ (by rfl) B.list (by decide +kernel) (pa_cons (pv 1) pa_nil)) po_none (po_some (pv 3))) (pe_lst (pa_cons (pv 2) pa_nil))) (pe_slice sl_listQ (pe_callTy call_listQ (by rfl) B.list (by decide +kernel) (pa_cons (pv 1) pa_nil)) (po_some (pv 3)) po_none))))), ?_⟩
    rw [show L2.start N_law_put [.ref S.a, .ref b, .int j] = [some (.ref S.a), some (.ref b), some (.int j), none] from rfl]
    have hb' : seqAt (H b) = some (ns.map V.int) := by rw [hb] <;> rfl
    simp only [tSeq, tNext, tDrop, tRet, tRetN, tIfS, tAsg, gName, tAug, ipI, tVar, tC, tOp, tUn, rI, rI0, rU, tCons, tNil, tCB, tTup, tLst, tTest, tB, tAnd, tOr, tNot, tAndV, tOrV, tNotV, tIf, tCl, tCd, tCk, gSub, rPutL, rAtQ, rIntI, rLenQ, rLenS, rListQ, rTupL, rTupQ, rIsQ_c, kd_non, kd_bl, kd_int, kd_str, kd_ref, kdO_lst, kdO_tup, kit_NoneType_bool, kit_NoneType_int, kit_NoneType_str, kit_NoneType_list, kit_NoneType_tuple, kit_bool_bool, kit_bool_int, kit_bool_str, kit_bool_list, kit_bool_tuple, kit_int_bool, kit_int_int, kit_int_str, kit_int_list, kit_int_tuple, kit_str_bool, kit_str_int, kit_str_str, kit_str_list, kit_str_tuple, kit_list_bool, kit_list_int, kit_list_str, kit_list_list, kit_list_tuple, kit_tuple_bool, kit_tuple_int, kit_tuple_str, kit_tuple_list, kit_tuple_tuple, V.ty.injEq, rSortQ, rSlQ, rMulS, tJn, rAtX, rSlS, tSl, tPart, tNoPart, cut_lo2, cut_hi2, rInQ, gLq, gTq, gC_c, gNil, tChain, List.cons_append, List.nil_append, tBL, tBL0, tBad, tCr, tCe, tXF, cxH_K, HO.xd.injEq, rApp, rPopN, rRevL, seqAt_lst, seqAt_tup, at_0, at_1, at_2, at_3, at_4, ix_0, ix_1, ix_2, ix_3, ix_4, cx_K, upd_same, List.length_cons, List.length_nil, Nat.reduceAdd,  rEq, rNe, tRevL, V.int.injEq, V.bl.injEq, V.str.injEq, V.ref.injEq, List.cons.injEq, and_true, true_and, exists_and_left, exists_and_right, exists_eq_left, exists_eq_left', exists_eq_right, exists_eq_right', exists_const, Option.some.injEq, List.getElem?_cons_zero, List.getElem?_cons_succ, List.set_cons_zero, List.set_cons_succ, decide_eq_true_eq, decide_true, decide_false,  scal_ii, scal_bb, scal_ss, cmul_r, cdiv_l, cpow_12, cpow_18, cpow_40, HO.lst.injEq, HO.tup.injEq, upd_upd, Int.reduceToNat,  decide_not, Bool.not_eq_true', decide_eq_false_iff_not, if_true, if_false, Bool.false_eq_true, Bool.true_eq_false, reduceCtorEq, Int.reduceNeg, Nat.reduceLT, Int.reduceLT, Int.reducePow, gt_iff_lt, hb', List.length_map]
    refine ⟨S, _, rfl, st, by omega, fun d H1 r1 g1 => ?_⟩
    have hb1 := r1.but.seqAt hn hb'
    have d0 := g1.1
    have d1 := g1.2
    obtain ⟨k, rfl⟩ : ∃ k : Nat, d = k := ⟨d.toNat, by omega⟩
    have hk : k ≤ (ns.map V.int).length := by rw [List.length_map]; omega
    simp only [tSeq, tNext, tDrop, tRet, tRetN, tIfS, tAsg, gName, tAug, ipI, tVar, tC, tOp, tUn, rI, rI0, rU, tCons, tNil, tCB, tTup, tLst, tTest, tB, tAnd, tOr, tNot, tAndV, tOrV, tNotV, tIf, tCl, tCd, tCk, gSub, rPutL, rAtQ, rIntI, rLenQ, rLenS, rListQ, rTupL, rTupQ, rIsQ_c, kd_non, kd_bl, kd_int, kd_str, kd_ref, kdO_lst, kdO_tup, kit_NoneType_bool, kit_NoneType_int, kit_NoneType_str, kit_NoneType_list, kit_NoneType_tuple, kit_bool_bool, kit_bool_int, kit_bool_str, kit_bool_list, kit_bool_tuple, kit_int_bool, kit_int_int, kit_int_str, kit_int_list, kit_int_tuple, kit_str_bool, kit_str_int, kit_str_str, kit_str_list, kit_str_tuple, kit_list_bool, kit_list_int, kit_list_str, kit_list_list, kit_list_tuple, kit_tuple_bool, kit_tuple_int, kit_tuple_str, kit_tuple_list, kit_tuple_tuple, V.ty.injEq, rSortQ, rSlQ, rMulS, tJn, rAtX, rSlS, tSl, tPart, tNoPart, cut_lo2, cut_hi2, rInQ, gLq, gTq, gC_c, gNil, tChain, List.cons_append, List.nil_append, tBL, tBL0, tBad, tCr, tCe, tXF, cxH_K, HO.xd.injEq, rApp, rPopN, rRevL, seqAt_lst, seqAt_tup, at_0, at_1, at_2, at_3, at_4, ix_0, ix_1, ix_2, ix_3, ix_4, cx_K, upd_same, List.length_cons, List.length_nil, Nat.reduceAdd,  rEq, rNe, tRevL, V.int.injEq, V.bl.injEq, V.str.injEq, V.ref.injEq, List.cons.injEq, and_true, true_and, exists_and_left, exists_and_right, exists_eq_left, exists_eq_left', exists_eq_right, exists_eq_right', exists_const, Option.some.injEq, List.getElem?_cons_zero, List.getElem?_cons_succ, List.set_cons_zero, List.set_cons_succ, decide_eq_true_eq, decide_true, decide_false,  scal_ii, scal_bb, scal_ss, cmul_r, cdiv_l, cpow_12, cpow_18, cpow_40, HO.lst.injEq, HO.tup.injEq, upd_upd, Int.reduceToNat,  decide_not, Bool.not_eq_true', decide_eq_false_iff_not, if_true, if_false, Bool.false_eq_true, Bool.true_eq_false, reduceCtorEq, Int.reduceNeg, Nat.reduceLT, Int.reduceLT, Int.reducePow, gt_iff_lt, hb1]
    refine fun l hl => ?_
    simp only [tSeq, tNext, tDrop, tRet, tRetN, tIfS, tAsg, gName, tAug, ipI, tVar, tC, tOp, tUn, rI, rI0, rU, tCons, tNil, tCB, tTup, tLst, tTest, tB, tAnd, tOr, tNot, tAndV, tOrV, tNotV, tIf, tCl, tCd, tCk, gSub, rPutL, rAtQ, rIntI, rLenQ, rLenS, rListQ, rTupL, rTupQ, rIsQ_c, kd_non, kd_bl, kd_int, kd_str, kd_ref, kdO_lst, kdO_tup, kit_NoneType_bool, kit_NoneType_int, kit_NoneType_str, kit_NoneType_list, kit_NoneType_tuple, kit_bool_bool, kit_bool_int, kit_bool_str, kit_bool_list, kit_bool_tuple, kit_int_bool, kit_int_int, kit_int_str, kit_int_list, kit_int_tuple, kit_str_bool, kit_str_int, kit_str_str, kit_str_list, kit_str_tuple, kit_list_bool, kit_list_int, kit_list_str, kit_list_list, kit_list_tuple, kit_tuple_bool, kit_tuple_int, kit_tuple_str, kit_tuple_list, kit_tuple_tuple, V.ty.injEq, rSortQ, rSlQ, rMulS, tJn, rAtX, rSlS, tSl, tPart, tNoPart, cut_lo2, cut_hi2, rInQ, gLq, gTq, gC_c, gNil, tChain, List.cons_append, List.nil_append, tBL, tBL0, tBad, tCr, tCe, tXF, cxH_K, HO.xd.injEq, rApp, rPopN, rRevL, seqAt_lst, seqAt_tup, at_0, at_1, at_2, at_3, at_4, ix_0, ix_1, ix_2, ix_3, ix_4, cx_K, upd_same, List.length_cons, List.length_nil, Nat.reduceAdd,  rEq, rNe, tRevL, V.int.injEq, V.bl.injEq, V.str.injEq, V.ref.injEq, List.cons.injEq, and_true, true_and, exists_and_left, exists_and_right, exists_eq_left, exists_eq_left', exists_eq_right, exists_eq_right', exists_const, Option.some.injEq, List.getElem?_cons_zero, List.getElem?_cons_succ, List.set_cons_zero, List.set_cons_succ, decide_eq_true_eq, decide_true, decide_false,  scal_ii, scal_bb, scal_ss, cmul_r, cdiv_l, cpow_12, cpow_18, cpow_40, HO.lst.injEq, HO.tup.injEq, upd_upd, Int.reduceToNat,  decide_not, Bool.not_eq_true', decide_eq_false_iff_not, if_true, if_false, Bool.false_eq_true, Bool.true_eq_false, reduceCtorEq, Int.reduceNeg, Nat.reduceLT, Int.reduceLT, Int.reducePow, gt_iff_lt, rSlQ, po_none, po_some, rCatQ]
    rw [cut_to hk, ← List.map_take]
    have l1 : (ns.take k).length ≤ ns.length := by rw [List.length_take]; omega
    have l2 : (ns.drop k).length ≤ ns.length := by rw [List.length_drop]; omega
    refine fun p2 h2 => ⟨sz_of (by decide), fun p3 h3 => ⟨_, (upd_ne (ne_of_none upd_same h3)).trans upd_same, sz_of (by rw [List.length_map]; omega), fun p4 h4 => ?_⟩⟩
    have r4 := (((r1.new hl).new h2).new h3).new (o := .lst ((ns.take k).map V.int ++ [V.int j])) h4
    refine ⟨_, r4.but.seqAt hn hb', fun l5 h5 p6 h6 => ?_⟩
    rw [cut_from hk, ← List.map_drop]
    refine ⟨_, (upd_ne (ne_of_none ((upd_ne (ne_of_none upd_same h5)).trans upd_same) h6)).trans ((upd_ne (ne_of_none upd_same h5)).trans upd_same), sz_of (by simp only [List.length_append, List.length_map, List.length_cons, List.length_nil]; omega), fun p7 h7 => ?_⟩
    have r6 := ((r4.new h5).new (o := .lst ((ns.drop k).map V.int)) h6)
    refine q p7 (ns.take k ++ [j] ++ ns.drop k) _ (r6.new h7) (r6.back h7) ?_ ?_ fun m hm => ?_
    · rw [upd_same, List.map_append, List.map_append]
      rfl
    · simp only [List.length_append, List.length_take, List.length_drop, List.length_cons, List.length_nil]
      omega
    · rcases List.mem_append.mp hm with hm | hm
      · rcases List.mem_append.mp hm with hm | hm
        · exact .inl (List.mem_of_mem_take hm)
        · exact .inr (List.mem_singleton.mp hm)
      · exact .inl (List.mem_of_mem_drop hm)
abbrev s_law_great : Stmt := topS 31
abbrev N_law_great : List Str := ["store", "made", "k"]
theorem sc_law_great : FnScope N_law_great ["store"] (defScope s_law_great) := ⟨rfl, rfl, rfl, by decide +kernel, rfl, by decide +kernel, by decide +kernel⟩
theorem b_law_great : BindO "_law_great" s_law_great ["store"] := fun _ _ _ _ _ _ us hl => match us, hl with | [_], _ => rfl

def sp_great : Sp := fun vs H Q _ => ∃ S : Sto, vs = [.ref S.a] ∧ Store S H ∧ ∀ (d : Int) (H' : Hp), Drew S H H' → 0 ≤ d → Q (.int d) H'
theorem great_step {m : Int} {i : Nat} (h0 : 0 ≤ m) (h : m.natAbs < 2 ^ (213 * 2 ^ i)) : 0 ≤ m * m ∧ (m * m).natAbs < 2 ^ (213 * 2 ^ (i + 1)) := by
  refine ⟨Int.mul_nonneg h0 h0, ?_⟩
  rw [Int.natAbs_mul, show 213 * 2 ^ (i + 1) = 213 * 2 ^ i + 213 * 2 ^ i by rw [Nat.pow_succ]; omega, Nat.pow_add]
  exact Nat.mul_lt_mul'' h h
theorem ok_great (D : Dn K mg "_law_great" s_law_great) (B : Blt mg) (c_law_take : Cl P w K mg base 2 "_law_take" sp_take) : Cl P w K mg base 3 "_law_great" sp_great := by
  refine cl_of D sc_law_great b_law_great (fun vs H Q E h => ?_) (fun f cdv A outer s H vs Q E hr h => ?_)
  · obtain ⟨S, rfl, _⟩ := h
    rfl
  · obtain ⟨S, rfl, st, q⟩ := h
    refine ⟨_, (pss_cons (ps_set (i := 1) sc_law_great.nd rfl (.inl rfl) (pe_op op_add (pe_op op_pow pe_int pe_int) (pe_cl c_law_take hr (by omega) rfl (pa_cons (pv 0) (pa_cons (pe_op op_pow pe_int pe_int) pa_nil)))))
      (pss_cons (ps_for PassesOwn.never rfl (pi_range1 (by rfl) B.range (pa_cons pe_int pa_nil)) (pg_name (i := 2) sc_law_great.nd rfl (.inl rfl)) (pss_one (ps_set (i := 1) sc_law_great.nd rfl (.inl rfl) (pe_op op_mulW (pv 1) (pv 1)))))
      (pss_one (ps_ret (pv 1))))), ?_⟩
    rw [show L2.start N_law_great [.ref S.a] = [some (.ref S.a), none, none] from rfl]
    simp only [tSeq, tNext, tDrop, tRet, tRetN, tIfS, tAsg, gName, tAug, ipI, tVar, tC, tOp, tUn, rI, rI0, rU, tCons, tNil, tCB, tTup, tLst, tTest, tB, tAnd, tOr, tNot, tAndV, tOrV, tNotV, tIf, tCl, tCd, tCk, gSub, rPutL, rAtQ, rIntI, rLenQ, rLenS, rListQ, rTupL, rTupQ, rIsQ_c, kd_non, kd_bl, kd_int, kd_str, kd_ref, kdO_lst, kdO_tup, kit_NoneType_bool, kit_NoneType_int, kit_NoneType_str, kit_NoneType_list, kit_NoneType_tuple, kit_bool_bool, kit_bool_int, kit_bool_str, kit_bool_list, kit_bool_tuple, kit_int_bool, kit_int_int, kit_int_str, kit_int_list, kit_int_tuple, kit_str_bool, kit_str_int, kit_str_str, kit_str_list, kit_str_tuple, kit_list_bool, kit_list_int, kit_list_str, kit_list_list, kit_list_tuple, kit_tuple_bool, kit_tuple_int, kit_tuple_str, kit_tuple_list, kit_tuple_tuple, V.ty.injEq, rSortQ, rSlQ, rMulS, tJn, rAtX, rSlS, tSl, tPart, tNoPart, cut_lo2, cut_hi2, rInQ, gLq, gTq, gC_c, gNil, tChain, List.cons_append, List.nil_append, tBL, tBL0, tBad, tCr, tCe, tXF, cxH_K, HO.xd.injEq, rApp, rPopN, rRevL, seqAt_lst, seqAt_tup, at_0, at_1, at_2, at_3, at_4, ix_0, ix_1, ix_2, ix_3, ix_4, cx_K, upd_same, List.length_cons, List.length_nil, Nat.reduceAdd,  rEq, rNe, tRevL, V.int.injEq, V.bl.injEq, V.str.injEq, V.ref.injEq, List.cons.injEq, and_true, true_and, exists_and_left, exists_and_right, exists_eq_left, exists_eq_left', exists_eq_right, exists_eq_right', exists_const, Option.some.injEq, List.getElem?_cons_zero, List.getElem?_cons_succ, List.set_cons_zero, List.set_cons_succ, decide_eq_true_eq, decide_true, decide_false,  scal_ii, scal_bb, scal_ss, cmul_r, cdiv_l, cpow_12, cpow_18, cpow_40, HO.lst.injEq, HO.tup.injEq, upd_upd, Int.reduceToNat,  decide_not, Bool.not_eq_true', decide_eq_false_iff_not, if_true, if_false, Bool.false_eq_true, Bool.true_eq_false, reduceCtorEq, Int.reduceNeg, Nat.reduceLT, Int.reduceLT, Int.reducePow, gt_iff_lt, cpow_64]
    refine ⟨_, _, rfl, st, by decide, fun d H1 r1 g1 => ?_⟩
    simp only [tSeq, tNext, tDrop, tRet, tRetN, tIfS, tAsg, gName, tAug, ipI, tVar, tC, tOp, tUn, rI, rI0, rU, tCons, tNil, tCB, tTup, tLst, tTest, tB, tAnd, tOr, tNot, tAndV, tOrV, tNotV, tIf, tCl, tCd, tCk, gSub, rPutL, rAtQ, rIntI, rLenQ, rLenS, rListQ, rTupL, rTupQ, rIsQ_c, kd_non, kd_bl, kd_int, kd_str, kd_ref, kdO_lst, kdO_tup, kit_NoneType_bool, kit_NoneType_int, kit_NoneType_str, kit_NoneType_list, kit_NoneType_tuple, kit_bool_bool, kit_bool_int, kit_bool_str, kit_bool_list, kit_bool_tuple, kit_int_bool, kit_int_int, kit_int_str, kit_int_list, kit_int_tuple, kit_str_bool, kit_str_int, kit_str_str, kit_str_list, kit_str_tuple, kit_list_bool, kit_list_int, kit_list_str, kit_list_list, kit_list_tuple, kit_tuple_bool, kit_tuple_int, kit_tuple_str, kit_tuple_list, kit_tuple_tuple, V.ty.injEq, rSortQ, rSlQ, rMulS, tJn, rAtX, rSlS, tSl, tPart, tNoPart, cut_lo2, cut_hi2, rInQ, gLq, gTq, gC_c, gNil, tChain, List.cons_append, List.nil_append, tBL, tBL0, tBad, tCr, tCe, tXF, cxH_K, HO.xd.injEq, rApp, rPopN, rRevL, seqAt_lst, seqAt_tup, at_0, at_1, at_2, at_3, at_4, ix_0, ix_1, ix_2, ix_3, ix_4, cx_K, upd_same, List.length_cons, List.length_nil, Nat.reduceAdd,  rEq, rNe, tRevL, V.int.injEq, V.bl.injEq, V.str.injEq, V.ref.injEq, List.cons.injEq, and_true, true_and, exists_and_left, exists_and_right, exists_eq_left, exists_eq_left', exists_eq_right, exists_eq_right', exists_const, Option.some.injEq, List.getElem?_cons_zero, List.getElem?_cons_succ, List.set_cons_zero, List.set_cons_succ, decide_eq_true_eq, decide_true, decide_false,  scal_ii, scal_bb, scal_ss, cmul_r, cdiv_l, cpow_12, cpow_18, cpow_40, HO.lst.injEq, HO.tup.injEq, upd_upd, Int.reduceToNat,  decide_not, Bool.not_eq_true', decide_eq_false_iff_not, if_true, if_false, Bool.false_eq_true, Bool.true_eq_false, reduceCtorEq, Int.reduceNeg, Nat.reduceLT, Int.reduceLT, Int.reducePow, gt_iff_lt]
    have d0 := g1.1
    have d1 := g1.2
    obtain ⟨m0, e0⟩ : ∃ m0 : Int, m0 = 10 ^ 64 + d := ⟨_, rfl⟩
    have hm0 : 0 ≤ m0 ∧ m0.natAbs < 2 ^ (213 * 2 ^ 0) := by
      have e1 : (10 : Int) ^ 64 + 10 ^ 12 < 2 ^ 213 := by decide
      have e2 : (2 : Nat) ^ (213 * 2 ^ 0) = 2 ^ 213 := by decide
      rw [e2]
      omega
    first | rw [← e0] | skip
    refine z_forR 7 (fun Q q => q) (by decide) (fun i σ' H' => ∃ (m : Int) (z : Option V), σ' = [some (.ref S.a), some (.int m), z] ∧ H' = H1 ∧ 0 ≤ m ∧ m.natAbs < 2 ^ (213 * 2 ^ i)) ⟨m0, none, by rw [e0] <;> rfl, rfl, hm0⟩ (fun i σ' H' hi hI => ?_) (fun σ' H' hI => ?_)
    · obtain ⟨m, z, rfl, rfl, h0, h⟩ := hI
      simp only [tSeq, tNext, tDrop, tRet, tRetN, tIfS, tAsg, gName, tAug, ipI, tVar, tC, tOp, tUn, rI, rI0, rU, tCons, tNil, tCB, tTup, tLst, tTest, tB, tAnd, tOr, tNot, tAndV, tOrV, tNotV, tIf, tCl, tCd, tCk, gSub, rPutL, rAtQ, rIntI, rLenQ, rLenS, rListQ, rTupL, rTupQ, rIsQ_c, kd_non, kd_bl, kd_int, kd_str, kd_ref, kdO_lst, kdO_tup, kit_NoneType_bool, kit_NoneType_int, kit_NoneType_str, kit_NoneType_list, kit_NoneType_tuple, kit_bool_bool, kit_bool_int, kit_bool_str, kit_bool_list, kit_bool_tuple, kit_int_bool, kit_int_int, kit_int_str, kit_int_list, kit_int_tuple, kit_str_bool, kit_str_int, kit_str_str, kit_str_list, kit_str_tuple, kit_list_bool, kit_list_int, kit_list_str, kit_list_list, kit_list_tuple, kit_tuple_bool, kit_tuple_int, kit_tuple_str, kit_tuple_list, kit_tuple_tuple, V.ty.injEq, rSortQ, rSlQ, rMulS, tJn, rAtX, rSlS, tSl, tPart, tNoPart, cut_lo2, cut_hi2, rInQ, gLq, gTq, gC_c, gNil, tChain, List.cons_append, List.nil_append, tBL, tBL0, tBad, tCr, tCe, tXF, cxH_K, HO.xd.injEq, rApp, rPopN, rRevL, seqAt_lst, seqAt_tup, at_0, at_1, at_2, at_3, at_4, ix_0, ix_1, ix_2, ix_3, ix_4, cx_K, upd_same, List.length_cons, List.length_nil, Nat.reduceAdd,  rEq, rNe, tRevL, V.int.injEq, V.bl.injEq, V.str.injEq, V.ref.injEq, List.cons.injEq, and_true, true_and, exists_and_left, exists_and_right, exists_eq_left, exists_eq_left', exists_eq_right, exists_eq_right', exists_const, Option.some.injEq, List.getElem?_cons_zero, List.getElem?_cons_succ, List.set_cons_zero, List.set_cons_succ, decide_eq_true_eq, decide_true, decide_false,  scal_ii, scal_bb, scal_ss, cmul_r, cdiv_l, cpow_12, cpow_18, cpow_40, HO.lst.injEq, HO.tup.injEq, upd_upd, Int.reduceToNat,  decide_not, Bool.not_eq_true', decide_eq_false_iff_not, if_true, if_false, Bool.false_eq_true, Bool.true_eq_false, reduceCtorEq, Int.reduceNeg, Nat.reduceLT, Int.reduceLT, Int.reducePow, gt_iff_lt]
      have hs := great_step h0 h
      have hp : 2 ^ i ≤ 2 ^ 7 := Nat.pow_le_pow_right (by decide) (by omega)
      have h1p : 0 < 2 ^ i := Nat.two_pow_pos i
      exact ⟨wide_mul h h (by omega) (by omega) (by omega), _, ⟨rfl, _, rfl⟩, hs.1, hs.2⟩
    · obtain ⟨m, z, rfl, rfl, h0, h⟩ := hI
      simp only [tSeq, tNext, tDrop, tRet, tRetN, tIfS, tAsg, gName, tAug, ipI, tVar, tC, tOp, tUn, rI, rI0, rU, tCons, tNil, tCB, tTup, tLst, tTest, tB, tAnd, tOr, tNot, tAndV, tOrV, tNotV, tIf, tCl, tCd, tCk, gSub, rPutL, rAtQ, rIntI, rLenQ, rLenS, rListQ, rTupL, rTupQ, rIsQ_c, kd_non, kd_bl, kd_int, kd_str, kd_ref, kdO_lst, kdO_tup, kit_NoneType_bool, kit_NoneType_int, kit_NoneType_str, kit_NoneType_list, kit_NoneType_tuple, kit_bool_bool, kit_bool_int, kit_bool_str, kit_bool_list, kit_bool_tuple, kit_int_bool, kit_int_int, kit_int_str, kit_int_list, kit_int_tuple, kit_str_bool, kit_str_int, kit_str_str, kit_str_list, kit_str_tuple, kit_list_bool, kit_list_int, kit_list_str, kit_list_list, kit_list_tuple, kit_tuple_bool, kit_tuple_int, kit_tuple_str, kit_tuple_list, kit_tuple_tuple, V.ty.injEq, rSortQ, rSlQ, rMulS, tJn, rAtX, rSlS, tSl, tPart, tNoPart, cut_lo2, cut_hi2, rInQ, gLq, gTq, gC_c, gNil, tChain, List.cons_append, List.nil_append, tBL, tBL0, tBad, tCr, tCe, tXF, cxH_K, HO.xd.injEq, rApp, rPopN, rRevL, seqAt_lst, seqAt_tup, at_0, at_1, at_2, at_3, at_4, ix_0, ix_1, ix_2, ix_3, ix_4, cx_K, upd_same, List.length_cons, List.length_nil, Nat.reduceAdd,  rEq, rNe, tRevL, V.int.injEq, V.bl.injEq, V.str.injEq, V.ref.injEq, List.cons.injEq, and_true, true_and, exists_and_left, exists_and_right, exists_eq_left, exists_eq_left', exists_eq_right, exists_eq_right', exists_const, Option.some.injEq, List.getElem?_cons_zero, List.getElem?_cons_succ, List.set_cons_zero, List.set_cons_succ, decide_eq_true_eq, decide_true, decide_false,  scal_ii, scal_bb, scal_ss, cmul_r, cdiv_l, cpow_12, cpow_18, cpow_40, HO.lst.injEq, HO.tup.injEq, upd_upd, Int.reduceToNat,  decide_not, Bool.not_eq_true', decide_eq_false_iff_not, if_true, if_false, Bool.false_eq_true, Bool.true_eq_false, reduceCtorEq, Int.reduceNeg, Nat.reduceLT, Int.reduceLT, Int.reducePow, gt_iff_lt]
      exact q m _ r1 h0
abbrev s_law_size : Stmt := topS 32
abbrev N_law_size : List Str := ["store", "kind"]
theorem sc_law_size : FnScope N_law_size ["store"] (defScope s_law_size) := ⟨rfl, rfl, rfl, by decide +kernel, rfl, by decide +kernel, by decide +kernel⟩
theorem b_law_size : BindO "_law_size" s_law_size ["store"] := fun _ _ _ _ _ _ us hl => match us, hl with | [_], _ => rfl

theorem ok_size (D : Dn K mg "_law_size" s_law_size) (B : Blt mg) (c_law_take : Cl P w K mg base 2 "_law_take" sp_take) (c_law_whole : Cl P w K mg base 3 "_law_whole" sp_any) (c_law_great : Cl P w K mg base 3 "_law_great" sp_great) : Cl P w K mg base 4 "_law_size" sp_any := by
  refine cl_of D sc_law_size b_law_size (fun vs H Q E h => ?_) (fun f cdv A outer s H vs Q E hr h => ?_)
  · obtain ⟨S, rfl, _⟩ := h
    rfl
  · obtain ⟨S, rfl, st, q⟩ := h
    refine ⟨_, (pss_cons (ps_set (i := 1) sc_law_size.nd rfl (.inl rfl) (pe_cl c_law_take hr (by omega) rfl (pa_cons (pv 0) (pa_cons pe_int pa_nil))))
      (pss_cons (ps_if (pt_cmpR op_eq (pv 1) pe_int (nomark _)) (pss_one (ps_ret (pe_cl c_law_whole hr (by omega) rfl (pa_cons (pv 0) pa_nil)))) pss_nil)
      (pss_cons (ps_if (PW.pt (pw_and (pt_cmpR op_eq (pv 1) pe_int (nomark _)) (pw_and1 (pt_cmpR op_eq (pe_cl c_law_take hr (by omega) rfl (pa_cons (pv 0) (pa_cons pe_int pa_nil))) pe_int (nomark _))))) (pss_one (ps_ret (pe_op op_mul (pe_cl c_law_great hr (by omega) rfl (pa_cons (pv 0) pa_nil)) (pe_op op_sub (pe_op op_mul pe_int (pe_cl c_law_take hr (by omega) rfl (pa_cons (pv 0) (pa_cons pe_int pa_nil)))) pe_int)))) pss_nil)
      (pss_one (ps_ret (pe_op op_sub (pe_cl c_law_take hr (by omega) rfl (pa_cons (pv 0) (pa_cons pe_int pa_nil))) pe_int)))))), ?_⟩
    rw [show L2.start N_law_size [.ref S.a] = [some (.ref S.a), none] from rfl]
    simp only [tSeq, tNext, tDrop, tRet, tRetN, tIfS, tAsg, gName, tAug, ipI, tVar, tC, tOp, tUn, rI, rI0, rU, tCons, tNil, tCB, tTup, tLst, tTest, tB, tAnd, tOr, tNot, tAndV, tOrV, tNotV, tIf, tCl, tCd, tCk, gSub, rPutL, rAtQ, rIntI, rLenQ, rLenS, rListQ, rTupL, rTupQ, rIsQ_c, kd_non, kd_bl, kd_int, kd_str, kd_ref, kdO_lst, kdO_tup, kit_NoneType_bool, kit_NoneType_int, kit_NoneType_str, kit_NoneType_list, kit_NoneType_tuple, kit_bool_bool, kit_bool_int, kit_bool_str, kit_bool_list, kit_bool_tuple, kit_int_bool, kit_int_int, kit_int_str, kit_int_list, kit_int_tuple, kit_str_bool, kit_str_int, kit_str_str, kit_str_list, kit_str_tuple, kit_list_bool, kit_list_int, kit_list_str, kit_list_list, kit_list_tuple, kit_tuple_bool, kit_tuple_int, kit_tuple_str, kit_tuple_list, kit_tuple_tuple, V.ty.injEq, rSortQ, rSlQ, rMulS, tJn, rAtX, rSlS, tSl, tPart, tNoPart, cut_lo2, cut_hi2, rInQ, gLq, gTq, gC_c, gNil, tChain, List.cons_append, List.nil_append, tBL, tBL0, tBad, tCr, tCe, tXF, cxH_K, HO.xd.injEq, rApp, rPopN, rRevL, seqAt_lst, seqAt_tup, at_0, at_1, at_2, at_3, at_4, ix_0, ix_1, ix_2, ix_3, ix_4, cx_K, upd_same, List.length_cons, List.length_nil, Nat.reduceAdd,  rEq, rNe, tRevL, V.int.injEq, V.bl.injEq, V.str.injEq, V.ref.injEq, List.cons.injEq, and_true, true_and, exists_and_left, exists_and_right, exists_eq_left, exists_eq_left', exists_eq_right, exists_eq_right', exists_const, Option.some.injEq, List.getElem?_cons_zero, List.getElem?_cons_succ, List.set_cons_zero, List.set_cons_succ, decide_eq_true_eq, decide_true, decide_false,  scal_ii, scal_bb, scal_ss, cmul_r, cdiv_l, cpow_12, cpow_18, cpow_40, HO.lst.injEq, HO.tup.injEq, upd_upd, Int.reduceToNat,  decide_not, Bool.not_eq_true', decide_eq_false_iff_not, if_true, if_false, Bool.false_eq_true, Bool.true_eq_false, reduceCtorEq, Int.reduceNeg, Nat.reduceLT, Int.reduceLT, Int.reducePow, gt_iff_lt]
    refine ⟨_, _, rfl, st, by decide, fun d H1 r1 g1 => ?_⟩
    simp only [tSeq, tNext, tDrop, tRet, tRetN, tIfS, tAsg, gName, tAug, ipI, tVar, tC, tOp, tUn, rI, rI0, rU, tCons, tNil, tCB, tTup, tLst, tTest, tB, tAnd, tOr, tNot, tAndV, tOrV, tNotV, tIf, tCl, tCd, tCk, gSub, rPutL, rAtQ, rIntI, rLenQ, rLenS, rListQ, rTupL, rTupQ, rIsQ_c, kd_non, kd_bl, kd_int, kd_str, kd_ref, kdO_lst, kdO_tup, kit_NoneType_bool, kit_NoneType_int, kit_NoneType_str, kit_NoneType_list, kit_NoneType_tuple, kit_bool_bool, kit_bool_int, kit_bool_str, kit_bool_list, kit_bool_tuple, kit_int_bool, kit_int_int, kit_int_str, kit_int_list, kit_int_tuple, kit_str_bool, kit_str_int, kit_str_str, kit_str_list, kit_str_tuple, kit_list_bool, kit_list_int, kit_list_str, kit_list_list, kit_list_tuple, kit_tuple_bool, kit_tuple_int, kit_tuple_str, kit_tuple_list, kit_tuple_tuple, V.ty.injEq, rSortQ, rSlQ, rMulS, tJn, rAtX, rSlS, tSl, tPart, tNoPart, cut_lo2, cut_hi2, rInQ, gLq, gTq, gC_c, gNil, tChain, List.cons_append, List.nil_append, tBL, tBL0, tBad, tCr, tCe, tXF, cxH_K, HO.xd.injEq, rApp, rPopN, rRevL, seqAt_lst, seqAt_tup, at_0, at_1, at_2, at_3, at_4, ix_0, ix_1, ix_2, ix_3, ix_4, cx_K, upd_same, List.length_cons, List.length_nil, Nat.reduceAdd,  rEq, rNe, tRevL, V.int.injEq, V.bl.injEq, V.str.injEq, V.ref.injEq, List.cons.injEq, and_true, true_and, exists_and_left, exists_and_right, exists_eq_left, exists_eq_left', exists_eq_right, exists_eq_right', exists_const, Option.some.injEq, List.getElem?_cons_zero, List.getElem?_cons_succ, List.set_cons_zero, List.set_cons_succ, decide_eq_true_eq, decide_true, decide_false,  scal_ii, scal_bb, scal_ss, cmul_r, cdiv_l, cpow_12, cpow_18, cpow_40, HO.lst.injEq, HO.tup.injEq, upd_upd, Int.reduceToNat,  decide_not, Bool.not_eq_true', decide_eq_false_iff_not, if_true, if_false, Bool.false_eq_true, Bool.true_eq_false, reduceCtorEq, Int.reduceNeg, Nat.reduceLT, Int.reduceLT, Int.reducePow, gt_iff_lt]
    split
    · exact ⟨S, rfl, r1.st, fun d2 H2 r2 => q _ _ (r1.trans r2)⟩
    split
    · refine ⟨_, _, rfl, r1.st, by decide, fun d2 H2 r2 g2 => ?_⟩
      simp only [tSeq, tNext, tDrop, tRet, tRetN, tIfS, tAsg, gName, tAug, ipI, tVar, tC, tOp, tUn, rI, rI0, rU, tCons, tNil, tCB, tTup, tLst, tTest, tB, tAnd, tOr, tNot, tAndV, tOrV, tNotV, tIf, tCl, tCd, tCk, gSub, rPutL, rAtQ, rIntI, rLenQ, rLenS, rListQ, rTupL, rTupQ, rIsQ_c, kd_non, kd_bl, kd_int, kd_str, kd_ref, kdO_lst, kdO_tup, kit_NoneType_bool, kit_NoneType_int, kit_NoneType_str, kit_NoneType_list, kit_NoneType_tuple, kit_bool_bool, kit_bool_int, kit_bool_str, kit_bool_list, kit_bool_tuple, kit_int_bool, kit_int_int, kit_int_str, kit_int_list, kit_int_tuple, kit_str_bool, kit_str_int, kit_str_str, kit_str_list, kit_str_tuple, kit_list_bool, kit_list_int, kit_list_str, kit_list_list, kit_list_tuple, kit_tuple_bool, kit_tuple_int, kit_tuple_str, kit_tuple_list, kit_tuple_tuple, V.ty.injEq, rSortQ, rSlQ, rMulS, tJn, rAtX, rSlS, tSl, tPart, tNoPart, cut_lo2, cut_hi2, rInQ, gLq, gTq, gC_c, gNil, tChain, List.cons_append, List.nil_append, tBL, tBL0, tBad, tCr, tCe, tXF, cxH_K, HO.xd.injEq, rApp, rPopN, rRevL, seqAt_lst, seqAt_tup, at_0, at_1, at_2, at_3, at_4, ix_0, ix_1, ix_2, ix_3, ix_4, cx_K, upd_same, List.length_cons, List.length_nil, Nat.reduceAdd,  rEq, rNe, tRevL, V.int.injEq, V.bl.injEq, V.str.injEq, V.ref.injEq, List.cons.injEq, and_true, true_and, exists_and_left, exists_and_right, exists_eq_left, exists_eq_left', exists_eq_right, exists_eq_right', exists_const, Option.some.injEq, List.getElem?_cons_zero, List.getElem?_cons_succ, List.set_cons_zero, List.set_cons_succ, decide_eq_true_eq, decide_true, decide_false,  scal_ii, scal_bb, scal_ss, cmul_r, cdiv_l, cpow_12, cpow_18, cpow_40, HO.lst.injEq, HO.tup.injEq, upd_upd, Int.reduceToNat,  decide_not, Bool.not_eq_true', decide_eq_false_iff_not, if_true, if_false, Bool.false_eq_true, Bool.true_eq_false, reduceCtorEq, Int.reduceNeg, Nat.reduceLT, Int.reduceLT, Int.reducePow, gt_iff_lt]
      split
      · refine ⟨S, rfl, (r1.trans r2).st, fun d3 H3 r3 h3 => ⟨_, _, rfl, r3.st, by decide, fun d4 H4 r4 g4 => ?_⟩⟩
        have d0 := g4.1
        have d1 := g4.2
        simp only [tSeq, tNext, tDrop, tRet, tRetN, tIfS, tAsg, gName, tAug, ipI, tVar, tC, tOp, tUn, rI, rI0, rU, tCons, tNil, tCB, tTup, tLst, tTest, tB, tAnd, tOr, tNot, tAndV, tOrV, tNotV, tIf, tCl, tCd, tCk, gSub, rPutL, rAtQ, rIntI, rLenQ, rLenS, rListQ, rTupL, rTupQ, rIsQ_c, kd_non, kd_bl, kd_int, kd_str, kd_ref, kdO_lst, kdO_tup, kit_NoneType_bool, kit_NoneType_int, kit_NoneType_str, kit_NoneType_list, kit_NoneType_tuple, kit_bool_bool, kit_bool_int, kit_bool_str, kit_bool_list, kit_bool_tuple, kit_int_bool, kit_int_int, kit_int_str, kit_int_list, kit_int_tuple, kit_str_bool, kit_str_int, kit_str_str, kit_str_list, kit_str_tuple, kit_list_bool, kit_list_int, kit_list_str, kit_list_list, kit_list_tuple, kit_tuple_bool, kit_tuple_int, kit_tuple_str, kit_tuple_list, kit_tuple_tuple, V.ty.injEq, rSortQ, rSlQ, rMulS, tJn, rAtX, rSlS, tSl, tPart, tNoPart, cut_lo2, cut_hi2, rInQ, gLq, gTq, gC_c, gNil, tChain, List.cons_append, List.nil_append, tBL, tBL0, tBad, tCr, tCe, tXF, cxH_K, HO.xd.injEq, rApp, rPopN, rRevL, seqAt_lst, seqAt_tup, at_0, at_1, at_2, at_3, at_4, ix_0, ix_1, ix_2, ix_3, ix_4, cx_K, upd_same, List.length_cons, List.length_nil, Nat.reduceAdd,  rEq, rNe, tRevL, V.int.injEq, V.bl.injEq, V.str.injEq, V.ref.injEq, List.cons.injEq, and_true, true_and, exists_and_left, exists_and_right, exists_eq_left, exists_eq_left', exists_eq_right, exists_eq_right', exists_const, Option.some.injEq, List.getElem?_cons_zero, List.getElem?_cons_succ, List.set_cons_zero, List.set_cons_succ, decide_eq_true_eq, decide_true, decide_false,  scal_ii, scal_bb, scal_ss, cmul_r, cdiv_l, cpow_12, cpow_18, cpow_40, HO.lst.injEq, HO.tup.injEq, upd_upd, Int.reduceToNat,  decide_not, Bool.not_eq_true', decide_eq_false_iff_not, if_true, if_false, Bool.false_eq_true, Bool.true_eq_false, reduceCtorEq, Int.reduceNeg, Nat.reduceLT, Int.reduceLT, Int.reducePow, gt_iff_lt]
        exact ⟨.inr ⟨by omega, by omega⟩, .inr ⟨by omega, by omega⟩, q _ _ (((r1.trans r2).trans r3).trans r4)⟩
      · exact ⟨_, _, rfl, (r1.trans r2).st, by decide, fun d3 H3 r3 g3 => ⟨_, rfl, q _ _ ((r1.trans r2).trans r3)⟩⟩
    · exact ⟨_, _, rfl, r1.st, by decide, fun d3 H3 r3 g3 => ⟨_, rfl, q _ _ (r1.trans r3)⟩⟩
abbrev s_law_lengths : Stmt := topS 23
abbrev N_law_lengths : List Str := ["store", "made", "left", "k", "kind"]
theorem sc_law_lengths : FnScope N_law_lengths ["store"] (defScope s_law_lengths) := ⟨rfl, rfl, rfl, by decide +kernel, rfl, by decide +kernel, by decide +kernel⟩
theorem b_law_lengths : BindO "_law_lengths" s_law_lengths ["store"] := fun _ _ _ _ _ _ us hl => match us, hl with | [_], _ => rfl

/-- a few lengths, in a new list or tuple -/
def sp_lengths : Sp := fun vs H Q _ => ∃ S : Sto, vs = [.ref S.a] ∧ Store S H ∧ ∀ (p : Addr) (ns : List Int) (H' : Hp), Drew S H H' → H p = none → seqAt (H' p) = some (ns.map V.int) → ns.length ≤ 20 → (∀ n ∈ ns, 0 ≤ n) → Q (.ref p) H'
theorem at_end {xs : List V} {x : V} : atI (xs ++ [x]) (-1) = some x := atI_last xs x
theorem ix_end' {xs : List V} {x : V} : ixN (xs ++ [x]).length (-1) = some xs.length := by rw [List.length_append] <;> exact ix_end
theorem ok_lengths (D : Dn K mg "_law_lengths" s_law_lengths) (B : Blt mg) (c_law_take : Cl P w K mg base 2 "_law_take" sp_take) (c_law_put : Cl P w K mg base 3 "_law_put" sp_put) (c_law_row : Cl P w K mg base 3 "_law_row" sp_row) : Cl P w K mg base 4 "_law_lengths" sp_lengths := by
  refine cl_of D sc_law_lengths b_law_lengths (fun vs H Q E h => ?_) (fun f cdv A outer s H vs Q E hr h => ?_)
  · obtain ⟨S, rfl, _⟩ := h
    rfl
  · obtain ⟨S, rfl, st, q⟩ := h
    refine ⟨_, (pss_cons (ps_set (i := 1) sc_law_lengths.nd rfl (.inl rfl) (pe_lst pa_nil))
      (pss_cons (ps_set (i := 2) sc_law_lengths.nd rfl (.inl rfl) pe_int)
      (pss_cons (ps_for PassesOwn.never rfl (pi_range1 (by rfl) B.range (pa_cons (pe_cl c_law_take hr (by omega) rfl (pa_cons (pv 0) (pa_cons pe_int pa_nil))) pa_nil)) (pg_name (i := 3) sc_law_lengths.nd rfl (.inl rfl)) (pss_cons (ps_expr (pe_ml PySem.F.slot_list_append PySem.F.type_list_append mt_app (pv 1) (pa_cons (pe_op op_mul (pe_cl c_law_take hr (by omega) rfl (pa_cons (pv 0) (pa_cons pe_int pa_nil))) (pe_callTy call_intB (by rfl) B.int (by decide +kernel) (pa_cons (pe_cmpR op_gt (pe_cl c_law_take hr (by omega) rfl (pa_cons (pv 0) (pa_cons pe_int pa_nil))) pe_int (nomark _)) pa_nil))) pa_nil)))
      (pss_cons (ps_if (pt_cmpR op_gt (pe_ix at_seq (pv 1) (pe_un un_neg pe_int) (fun _ _ => rfl)) (pv 2) (nomark _)) (pss_one (ps_asg (pv 2) (pg_sub (pv 1) (pe_un un_neg pe_int) put_list))) pss_nil)
      (pss_one (ps_set (i := 2) sc_law_lengths.nd rfl (.inl rfl) (pe_op op_sub (pv 2) (pe_ix at_seq (pv 1) (pe_un un_neg pe_int) (fun _ _ => rfl))))))))
      (pss_cons (ps_set (i := 4) sc_law_lengths.nd rfl (.inl rfl) (pe_cl c_law_take hr (by omega) rfl (pa_cons (pv 0) (pa_cons pe_int pa_nil))))
      (pss_cons (ps_if (pt_cmpR op_eq (pv 4) pe_int (nomark _)) (pss_one (ps_set (i := 1) sc_law_lengths.nd rfl (.inl rfl) (pe_cl c_law_put hr (by omega) rfl (pa_cons (pv 0) (pa_cons (pv 1) (pa_cons (pe_op op_add (pv 2) pe_int) pa_nil)))))) pss_nil)
      (pss_cons (ps_if (pt_cmpR op_eq (pv 4) pe_int (nomark _)) (pss_one (ps_set (i := 1) sc_law_lengths.nd rfl (.inl rfl) (pe_cl c_law_put hr (by omega) rfl (pa_cons (pv 0) (pa_cons (pv 1) (pa_cons (pv 2) pa_nil)))))) pss_nil)
      (pss_cons (ps_if (pt_cmpR op_eq (pv 4) pe_int (nomark _)) (pss_one (ps_set (i := 1) sc_law_lengths.nd rfl (.inl rfl) (pe_cl c_law_put hr (by omega) rfl (pa_cons (pv 0) (pa_cons (pv 1) (pa_cons (pe_op op_add pe_int (pe_cl c_law_take hr (by omega) rfl (pa_cons (pv 0) (pa_cons (pe_op op_pow pe_int pe_int) pa_nil)))) pa_nil)))))) pss_nil)
      (pss_one (ps_ret (pe_cl c_law_row hr (by omega) rfl (pa_cons (pv 0) (pa_cons (pv 1) pa_nil)))))))))))), ?_⟩
    rw [show L2.start N_law_lengths [.ref S.a] = [some (.ref S.a), none, none, none, none] from rfl]
    simp only [tSeq, tNext, tDrop, tRet, tRetN, tIfS, tAsg, gName, tAug, ipI, tVar, tC, tOp, tUn, rI, rI0, rU, tCons, tNil, tCB, tTup, tLst, tTest, tB, tAnd, tOr, tNot, tAndV, tOrV, tNotV, tIf, tCl, tCd, tCk, gSub, rPutL, rAtQ, rIntI, rLenQ, rLenS, rListQ, rTupL, rTupQ, rIsQ_c, kd_non, kd_bl, kd_int, kd_str, kd_ref, kdO_lst, kdO_tup, kit_NoneType_bool, kit_NoneType_int, kit_NoneType_str, kit_NoneType_list, kit_NoneType_tuple, kit_bool_bool, kit_bool_int, kit_bool_str, kit_bool_list, kit_bool_tuple, kit_int_bool, kit_int_int, kit_int_str, kit_int_list, kit_int_tuple, kit_str_bool, kit_str_int, kit_str_str, kit_str_list, kit_str_tuple, kit_list_bool, kit_list_int, kit_list_str, kit_list_list, kit_list_tuple, kit_tuple_bool, kit_tuple_int, kit_tuple_str, kit_tuple_list, kit_tuple_tuple, V.ty.injEq, rSortQ, rSlQ, rMulS, tJn, rAtX, rSlS, tSl, tPart, tNoPart, cut_lo2, cut_hi2, rInQ, gLq, gTq, gC_c, gNil, tChain, List.cons_append, List.nil_append, tBL, tBL0, tBad, tCr, tCe, tXF, cxH_K, HO.xd.injEq, rApp, rPopN, rRevL, seqAt_lst, seqAt_tup, at_0, at_1, at_2, at_3, at_4, ix_0, ix_1, ix_2, ix_3, ix_4, cx_K, upd_same, List.length_cons, List.length_nil, Nat.reduceAdd,  rEq, rNe, tRevL, V.int.injEq, V.bl.injEq, V.str.injEq, V.ref.injEq, List.cons.injEq, and_true, true_and, exists_and_left, exists_and_right, exists_eq_left, exists_eq_left', exists_eq_right, exists_eq_right', exists_const, Option.some.injEq, List.getElem?_cons_zero, List.getElem?_cons_succ, List.set_cons_zero, List.set_cons_succ, decide_eq_true_eq, decide_true, decide_false,  scal_ii, scal_bb, scal_ss, cmul_r, cdiv_l, cpow_12, cpow_18, cpow_40, HO.lst.injEq, HO.tup.injEq, upd_upd, Int.reduceToNat,  decide_not, Bool.not_eq_true', decide_eq_false_iff_not, if_true, if_false, Bool.false_eq_true, Bool.true_eq_false, reduceCtorEq, Int.reduceNeg, Nat.reduceLT, Int.reduceLT, Int.reducePow, gt_iff_lt]
    refine ⟨sz_of (by decide), fun l hl => ?_⟩
    have nl : l ≠ S.a := st.neA hl
    obtain ⟨Pv, hP⟩ : ∃ Pv : Nat → L2.St → Hp → Prop, Pv = fun i σ' H' => ∃ (ns : List Int) (left : Int) (k : Option V), σ' = [some (.ref S.a), some (.ref l), some (.int left), k, none] ∧ Drew S H H' ∧ H' l = some (.lst (ns.map V.int)) ∧ ns.length = i ∧ (∀ n ∈ ns, 0 ≤ n) ∧ 0 ≤ left ∧ left ≤ 20 := ⟨_, rfl⟩
    refine forE (fun n H' => n ≤ 9 ∧ Drew S H H' ∧ H' l = some (.lst [])) (fun X hX => ?_) (fun n H1 ⟨hn, r1, h1⟩ => ?_)
    · simp only [tSeq, tNext, tDrop, tRet, tRetN, tIfS, tAsg, gName, tAug, ipI, tVar, tC, tOp, tUn, rI, rI0, rU, tCons, tNil, tCB, tTup, tLst, tTest, tB, tAnd, tOr, tNot, tAndV, tOrV, tNotV, tIf, tCl, tCd, tCk, gSub, rPutL, rAtQ, rIntI, rLenQ, rLenS, rListQ, rTupL, rTupQ, rIsQ_c, kd_non, kd_bl, kd_int, kd_str, kd_ref, kdO_lst, kdO_tup, kit_NoneType_bool, kit_NoneType_int, kit_NoneType_str, kit_NoneType_list, kit_NoneType_tuple, kit_bool_bool, kit_bool_int, kit_bool_str, kit_bool_list, kit_bool_tuple, kit_int_bool, kit_int_int, kit_int_str, kit_int_list, kit_int_tuple, kit_str_bool, kit_str_int, kit_str_str, kit_str_list, kit_str_tuple, kit_list_bool, kit_list_int, kit_list_str, kit_list_list, kit_list_tuple, kit_tuple_bool, kit_tuple_int, kit_tuple_str, kit_tuple_list, kit_tuple_tuple, V.ty.injEq, rSortQ, rSlQ, rMulS, tJn, rAtX, rSlS, tSl, tPart, tNoPart, cut_lo2, cut_hi2, rInQ, gLq, gTq, gC_c, gNil, tChain, List.cons_append, List.nil_append, tBL, tBL0, tBad, tCr, tCe, tXF, cxH_K, HO.xd.injEq, rApp, rPopN, rRevL, seqAt_lst, seqAt_tup, at_0, at_1, at_2, at_3, at_4, ix_0, ix_1, ix_2, ix_3, ix_4, cx_K, upd_same, List.length_cons, List.length_nil, Nat.reduceAdd,  rEq, rNe, tRevL, V.int.injEq, V.bl.injEq, V.str.injEq, V.ref.injEq, List.cons.injEq, and_true, true_and, exists_and_left, exists_and_right, exists_eq_left, exists_eq_left', exists_eq_right, exists_eq_right', exists_const, Option.some.injEq, List.getElem?_cons_zero, List.getElem?_cons_succ, List.set_cons_zero, List.set_cons_succ, decide_eq_true_eq, decide_true, decide_false,  scal_ii, scal_bb, scal_ss, cmul_r, cdiv_l, cpow_12, cpow_18, cpow_40, HO.lst.injEq, HO.tup.injEq, upd_upd, Int.reduceToNat,  decide_not, Bool.not_eq_true', decide_eq_false_iff_not, if_true, if_false, Bool.false_eq_true, Bool.true_eq_false, reduceCtorEq, Int.reduceNeg, Nat.reduceLT, Int.reduceLT, Int.reducePow, gt_iff_lt]
      refine ⟨S, _, rfl, (Drew.new ⟨But.refl H, st⟩ hl).st, by decide, fun d H2 r2 g2 => ?_⟩
      have d0 := g2.1
      have d1 := g2.2
      obtain ⟨k, rfl⟩ : ∃ k : Nat, d = k := ⟨d.toNat, by omega⟩
      exact hX k H2 ⟨by omega, (Drew.new ⟨But.refl H, st⟩ hl).trans r2, r2.but l _ nl upd_same⟩
    refine z_forR n (fun Q q => q) (by omega) Pv ?h0 (fun i σ' H' hi hI => ?hs) (fun σ' H' hI => ?hd)
    case h0 =>
      rw [hP]
      exact ⟨[], 20, none, rfl, r1, h1, rfl, (fun n h => by cases h), by decide, by decide⟩
    case hs =>
      rw [hP] at hI
      obtain ⟨ns, left, k, rfl, r2, h2, hl2, hn2, l0, l1⟩ := hI
      simp only [tSeq, tNext, tDrop, tRet, tRetN, tIfS, tAsg, gName, tAug, ipI, tVar, tC, tOp, tUn, rI, rI0, rU, tCons, tNil, tCB, tTup, tLst, tTest, tB, tAnd, tOr, tNot, tAndV, tOrV, tNotV, tIf, tCl, tCd, tCk, gSub, rPutL, rAtQ, rIntI, rLenQ, rLenS, rListQ, rTupL, rTupQ, rIsQ_c, kd_non, kd_bl, kd_int, kd_str, kd_ref, kdO_lst, kdO_tup, kit_NoneType_bool, kit_NoneType_int, kit_NoneType_str, kit_NoneType_list, kit_NoneType_tuple, kit_bool_bool, kit_bool_int, kit_bool_str, kit_bool_list, kit_bool_tuple, kit_int_bool, kit_int_int, kit_int_str, kit_int_list, kit_int_tuple, kit_str_bool, kit_str_int, kit_str_str, kit_str_list, kit_str_tuple, kit_list_bool, kit_list_int, kit_list_str, kit_list_list, kit_list_tuple, kit_tuple_bool, kit_tuple_int, kit_tuple_str, kit_tuple_list, kit_tuple_tuple, V.ty.injEq, rSortQ, rSlQ, rMulS, tJn, rAtX, rSlS, tSl, tPart, tNoPart, cut_lo2, cut_hi2, rInQ, gLq, gTq, gC_c, gNil, tChain, List.cons_append, List.nil_append, tBL, tBL0, tBad, tCr, tCe, tXF, cxH_K, HO.xd.injEq, rApp, rPopN, rRevL, seqAt_lst, seqAt_tup, at_0, at_1, at_2, at_3, at_4, ix_0, ix_1, ix_2, ix_3, ix_4, cx_K, upd_same, List.length_cons, List.length_nil, Nat.reduceAdd,  rEq, rNe, tRevL, V.int.injEq, V.bl.injEq, V.str.injEq, V.ref.injEq, List.cons.injEq, and_true, true_and, exists_and_left, exists_and_right, exists_eq_left, exists_eq_left', exists_eq_right, exists_eq_right', exists_const, Option.some.injEq, List.getElem?_cons_zero, List.getElem?_cons_succ, List.set_cons_zero, List.set_cons_succ, decide_eq_true_eq, decide_true, decide_false,  scal_ii, scal_bb, scal_ss, cmul_r, cdiv_l, cpow_12, cpow_18, cpow_40, HO.lst.injEq, HO.tup.injEq, upd_upd, Int.reduceToNat,  decide_not, Bool.not_eq_true', decide_eq_false_iff_not, if_true, if_false, Bool.false_eq_true, Bool.true_eq_false, reduceCtorEq, Int.reduceNeg, Nat.reduceLT, Int.reduceLT, Int.reducePow, gt_iff_lt, h2]
      refine ⟨⟨_, rfl⟩, S, _, rfl, r2.st, by decide, fun d H3 r3 g3 => ?_⟩
      refine ⟨S, _, rfl, r3.st, by decide, fun d' H4 r4 g4 => ?_⟩
      have d0 := g3.1
      have d1 := g3.2
      have r34 := r3.trans r4
      have h4 := r34.but l _ nl h2
      simp only [tSeq, tNext, tDrop, tRet, tRetN, tIfS, tAsg, gName, tAug, ipI, tVar, tC, tOp, tUn, rI, rI0, rU, tCons, tNil, tCB, tTup, tLst, tTest, tB, tAnd, tOr, tNot, tAndV, tOrV, tNotV, tIf, tCl, tCd, tCk, gSub, rPutL, rAtQ, rIntI, rLenQ, rLenS, rListQ, rTupL, rTupQ, rIsQ_c, kd_non, kd_bl, kd_int, kd_str, kd_ref, kdO_lst, kdO_tup, kit_NoneType_bool, kit_NoneType_int, kit_NoneType_str, kit_NoneType_list, kit_NoneType_tuple, kit_bool_bool, kit_bool_int, kit_bool_str, kit_bool_list, kit_bool_tuple, kit_int_bool, kit_int_int, kit_int_str, kit_int_list, kit_int_tuple, kit_str_bool, kit_str_int, kit_str_str, kit_str_list, kit_str_tuple, kit_list_bool, kit_list_int, kit_list_str, kit_list_list, kit_list_tuple, kit_tuple_bool, kit_tuple_int, kit_tuple_str, kit_tuple_list, kit_tuple_tuple, V.ty.injEq, rSortQ, rSlQ, rMulS, tJn, rAtX, rSlS, tSl, tPart, tNoPart, cut_lo2, cut_hi2, rInQ, gLq, gTq, gC_c, gNil, tChain, List.cons_append, List.nil_append, tBL, tBL0, tBad, tCr, tCe, tXF, cxH_K, HO.xd.injEq, rApp, rPopN, rRevL, seqAt_lst, seqAt_tup, at_0, at_1, at_2, at_3, at_4, ix_0, ix_1, ix_2, ix_3, ix_4, cx_K, upd_same, List.length_cons, List.length_nil, Nat.reduceAdd,  rEq, rNe, tRevL, V.int.injEq, V.bl.injEq, V.str.injEq, V.ref.injEq, List.cons.injEq, and_true, true_and, exists_and_left, exists_and_right, exists_eq_left, exists_eq_left', exists_eq_right, exists_eq_right', exists_const, Option.some.injEq, List.getElem?_cons_zero, List.getElem?_cons_succ, List.set_cons_zero, List.set_cons_succ, decide_eq_true_eq, decide_true, decide_false,  scal_ii, scal_bb, scal_ss, cmul_r, cdiv_l, cpow_12, cpow_18, cpow_40, HO.lst.injEq, HO.tup.injEq, upd_upd, Int.reduceToNat,  decide_not, Bool.not_eq_true', decide_eq_false_iff_not, if_true, if_false, Bool.false_eq_true, Bool.true_eq_false, reduceCtorEq, Int.reduceNeg, Nat.reduceLT, Int.reduceLT, Int.reducePow, gt_iff_lt, rIntB, h4]
      obtain ⟨y, hy⟩ : ∃ y : Int, y = d * (if 0 < d' then 1 else 0) := ⟨_, rfl⟩
      have y0 : 0 ≤ y ∧ y < 7 := by
        rw [hy]
        split <;> omega
      rw [← hy]
      have hc : CMul d (if 0 < d' then 1 else 0) := .inl ⟨by omega, by omega⟩
      refine ⟨hc, sz_lt (by rw [List.length_map]; omega), _, at_end, _, rfl, ?_⟩
      have nn : ∀ v : Int, 0 ≤ v → ∀ n ∈ ns ++ [v], 0 ≤ n := fun v hv n hn => (List.mem_append.mp hn).elim (hn2 n) fun z => by rw [List.mem_singleton.mp z]; exact hv
      split
      · refine ⟨_, ix_end', _, by rw [set_end]; exact at_end, _, rfl, ?_⟩
        rw [hP, set_end]
        exact ⟨ns ++ [left], left - left, _, rfl, (r2.trans r34).at st hl, by rw [upd_same, List.map_append] <;> rfl, by rw [List.length_append, hl2] <;> rfl, nn _ l0, by omega, by omega⟩
      · refine ⟨_, at_end, _, rfl, ?_⟩
        rw [hP]
        exact ⟨ns ++ [y], left - y, _, rfl, (r2.trans r34).at st hl, by rw [upd_same, List.map_append] <;> rfl, by rw [List.length_append, hl2] <;> rfl, nn _ y0.1, by omega, by omega⟩
    case hd =>
      rw [hP] at hI
      obtain ⟨ns, left, k, rfl, r2, h2, hl2, hn2, l0, l1⟩ := hI
      have fin : ∀ (m : Addr) (ms : List Int) (Hx : Hp), Drew S H Hx → H m = none → Hx m = some (.lst (ms.map V.int)) → ms.length ≤ 20 → (∀ n ∈ ms, 0 ≤ n) → sp_row [.ref S.a, .ref m] Hx Q E0 := fun m ms Hx r hm h z nn =>
        ⟨S, m, _, rfl, r.st, h, st.neA hm, fun p H2 r2 n2 s2 => q p ms H2 (r.trans r2) (r.back n2) s2 z nn⟩
      have put : ∀ (Hx : Hp) (v : Int) (Z : VK), Drew S H Hx → Hx l = some (.lst (ns.map V.int)) → 0 ≤ v → (∀ (m : Addr) (Hy : Hp), sp_row [.ref S.a, .ref m] Hy Q E0 → Z (.ref m) Hy) → sp_put [.ref S.a, .ref l, .int v] Hx Z E0 := fun Hx v Z r h v0 z =>
        ⟨S, l, ns, v, rfl, r.st, h, nl, by omega, fun p ms H2 r2 n2 h2 z2 nn => z p H2 (fin p ms H2 (r.trans r2) (r.back n2) h2 (by omega) fun n hn => (nn n hn).elim (hn2 n) fun e => by rw [e]; exact v0)⟩
      simp only [tSeq, tNext, tDrop, tRet, tRetN, tIfS, tAsg, gName, tAug, ipI, tVar, tC, tOp, tUn, rI, rI0, rU, tCons, tNil, tCB, tTup, tLst, tTest, tB, tAnd, tOr, tNot, tAndV, tOrV, tNotV, tIf, tCl, tCd, tCk, gSub, rPutL, rAtQ, rIntI, rLenQ, rLenS, rListQ, rTupL, rTupQ, rIsQ_c, kd_non, kd_bl, kd_int, kd_str, kd_ref, kdO_lst, kdO_tup, kit_NoneType_bool, kit_NoneType_int, kit_NoneType_str, kit_NoneType_list, kit_NoneType_tuple, kit_bool_bool, kit_bool_int, kit_bool_str, kit_bool_list, kit_bool_tuple, kit_int_bool, kit_int_int, kit_int_str, kit_int_list, kit_int_tuple, kit_str_bool, kit_str_int, kit_str_str, kit_str_list, kit_str_tuple, kit_list_bool, kit_list_int, kit_list_str, kit_list_list, kit_list_tuple, kit_tuple_bool, kit_tuple_int, kit_tuple_str, kit_tuple_list, kit_tuple_tuple, V.ty.injEq, rSortQ, rSlQ, rMulS, tJn, rAtX, rSlS, tSl, tPart, tNoPart, cut_lo2, cut_hi2, rInQ, gLq, gTq, gC_c, gNil, tChain, List.cons_append, List.nil_append, tBL, tBL0, tBad, tCr, tCe, tXF, cxH_K, HO.xd.injEq, rApp, rPopN, rRevL, seqAt_lst, seqAt_tup, at_0, at_1, at_2, at_3, at_4, ix_0, ix_1, ix_2, ix_3, ix_4, cx_K, upd_same, List.length_cons, List.length_nil, Nat.reduceAdd,  rEq, rNe, tRevL, V.int.injEq, V.bl.injEq, V.str.injEq, V.ref.injEq, List.cons.injEq, and_true, true_and, exists_and_left, exists_and_right, exists_eq_left, exists_eq_left', exists_eq_right, exists_eq_right', exists_const, Option.some.injEq, List.getElem?_cons_zero, List.getElem?_cons_succ, List.set_cons_zero, List.set_cons_succ, decide_eq_true_eq, decide_true, decide_false,  scal_ii, scal_bb, scal_ss, cmul_r, cdiv_l, cpow_12, cpow_18, cpow_40, HO.lst.injEq, HO.tup.injEq, upd_upd, Int.reduceToNat,  decide_not, Bool.not_eq_true', decide_eq_false_iff_not, if_true, if_false, Bool.false_eq_true, Bool.true_eq_false, reduceCtorEq, Int.reduceNeg, Nat.reduceLT, Int.reduceLT, Int.reducePow, gt_iff_lt]
      refine ⟨S, _, rfl, r2.st, by decide, fun d H3 r3 g3 => ?_⟩
      have h3 := r3.but l _ nl h2
      simp only [tSeq, tNext, tDrop, tRet, tRetN, tIfS, tAsg, gName, tAug, ipI, tVar, tC, tOp, tUn, rI, rI0, rU, tCons, tNil, tCB, tTup, tLst, tTest, tB, tAnd, tOr, tNot, tAndV, tOrV, tNotV, tIf, tCl, tCd, tCk, gSub, rPutL, rAtQ, rIntI, rLenQ, rLenS, rListQ, rTupL, rTupQ, rIsQ_c, kd_non, kd_bl, kd_int, kd_str, kd_ref, kdO_lst, kdO_tup, kit_NoneType_bool, kit_NoneType_int, kit_NoneType_str, kit_NoneType_list, kit_NoneType_tuple, kit_bool_bool, kit_bool_int, kit_bool_str, kit_bool_list, kit_bool_tuple, kit_int_bool, kit_int_int, kit_int_str, kit_int_list, kit_int_tuple, kit_str_bool, kit_str_int, kit_str_str, kit_str_list, kit_str_tuple, kit_list_bool, kit_list_int, kit_list_str, kit_list_list, kit_list_tuple, kit_tuple_bool, kit_tuple_int, kit_tuple_str, kit_tuple_list, kit_tuple_tuple, V.ty.injEq, rSortQ, rSlQ, rMulS, tJn, rAtX, rSlS, tSl, tPart, tNoPart, cut_lo2, cut_hi2, rInQ, gLq, gTq, gC_c, gNil, tChain, List.cons_append, List.nil_append, tBL, tBL0, tBad, tCr, tCe, tXF, cxH_K, HO.xd.injEq, rApp, rPopN, rRevL, seqAt_lst, seqAt_tup, at_0, at_1, at_2, at_3, at_4, ix_0, ix_1, ix_2, ix_3, ix_4, cx_K, upd_same, List.length_cons, List.length_nil, Nat.reduceAdd,  rEq, rNe, tRevL, V.int.injEq, V.bl.injEq, V.str.injEq, V.ref.injEq, List.cons.injEq, and_true, true_and, exists_and_left, exists_and_right, exists_eq_left, exists_eq_left', exists_eq_right, exists_eq_right', exists_const, Option.some.injEq, List.getElem?_cons_zero, List.getElem?_cons_succ, List.set_cons_zero, List.set_cons_succ, decide_eq_true_eq, decide_true, decide_false,  scal_ii, scal_bb, scal_ss, cmul_r, cdiv_l, cpow_12, cpow_18, cpow_40, HO.lst.injEq, HO.tup.injEq, upd_upd, Int.reduceToNat,  decide_not, Bool.not_eq_true', decide_eq_false_iff_not, if_true, if_false, Bool.false_eq_true, Bool.true_eq_false, reduceCtorEq, Int.reduceNeg, Nat.reduceLT, Int.reduceLT, Int.reducePow, gt_iff_lt]
      split
      · refine put H3 _ _ (r2.trans r3) h3 (by omega) fun m Hy z => ?_
        rw [if_neg (by omega), if_neg (by omega)]
        exact z
      split
      · refine put H3 _ _ (r2.trans r3) h3 (by omega) fun m Hy z => ?_
        rw [if_neg (by omega)]
        exact z
      split
      · refine ⟨S, _, rfl, r3.st, by decide, fun d' H4 r4 g4 => ⟨_, rfl, ?_⟩⟩
        have d0 := g4.1
        exact put H4 _ _ ((r2.trans r3).trans r4) (r4.but l _ nl h3) (by omega) fun m Hy z => z
      · exact fin l ns H3 (r2.trans r3) hl h3 (by omega) hn2
abbrev s_law_length_row : Stmt := topS 33
abbrev N_law_length_row : List Str := ["store", "kind", "made"]
theorem sc_law_length_row : FnScope N_law_length_row ["store"] (defScope s_law_length_row) := ⟨rfl, rfl, rfl, by decide +kernel, rfl, by decide +kernel, by decide +kernel⟩
theorem b_law_length_row : BindO "_law_length_row" s_law_length_row ["store"] := fun _ _ _ _ _ _ us hl => match us, hl with | [_], _ => rfl

def sp_length_row : Sp := fun vs H Q _ => ∃ S : Sto, vs = [.ref S.a] ∧ Store S H ∧ ∀ (p : Addr) (ns : List Int) (H' : Hp), Drew S H H' → H p = none → H' p = some (.lst (ns.map V.int)) → ns.length ≤ 200 → (∀ n ∈ ns, 0 ≤ n) → Q (.ref p) H'
theorem map_rep0 : List.replicate 200 (V.int 0) = (List.replicate 200 (0 : Int)).map V.int := by rw [List.map_replicate]
theorem ok_length_row (D : Dn K mg "_law_length_row" s_law_length_row) (B : Blt mg) (c_law_take : Cl P w K mg base 2 "_law_take" sp_take) (c_law_lengths : Cl P w K mg base 4 "_law_lengths" sp_lengths) (c_law_put : Cl P w K mg base 3 "_law_put" sp_put) (c_law_great : Cl P w K mg base 3 "_law_great" sp_great) : Cl P w K mg base 5 "_law_length_row" sp_length_row := by
  refine cl_of D sc_law_length_row b_law_length_row (fun vs H Q E h => ?_) (fun f cdv A outer s H vs Q E hr h => ?_)
  · obtain ⟨S, rfl, _⟩ := h
    rfl
  · obtain ⟨S, rfl, st, q⟩ := h
    refine ⟨_, (pss_cons (ps_set (i := 1) sc_law_length_row.nd rfl (.inl rfl) (pe_cl c_law_take hr (by omega) rfl (pa_cons (pv 0) (pa_cons pe_int pa_nil))))
      (pss_cons (ps_set (i := 2) sc_law_length_row.nd rfl (.inl rfl) (pe_callTy call_listQ (by rfl) B.list (by decide +kernel) (pa_cons (pe_cl c_law_lengths hr (by omega) rfl (pa_cons (pv 0) pa_nil)) pa_nil)))
      (pss_cons (ps_if (pt_cmpR op_eq (pv 1) pe_int (nomark _)) (pss_one (ps_set (i := 2) sc_law_length_row.nd rfl (.inl rfl) (pe_cl c_law_put hr (by omega) rfl (pa_cons (pv 0) (pa_cons (pv 2) (pa_cons (pe_cl c_law_great hr (by omega) rfl (pa_cons (pv 0) pa_nil)) pa_nil)))))) pss_nil)
      (pss_cons (ps_if (pt_cmpR op_eq (pv 1) pe_int (nomark _)) (pss_one (ps_set (i := 2) sc_law_length_row.nd rfl (.inl rfl) (pe_slice sl_listQ (pe_op op_catQ (pv 2) (pe_op op_repQ (pe_lst (pa_cons pe_int pa_nil)) pe_int)) po_none (po_some pe_int)))) pss_nil)
      (pss_one (ps_ret (pv 2))))))), ?_⟩
    rw [show L2.start N_law_length_row [.ref S.a] = [some (.ref S.a), none, none] from rfl]
    simp only [tSeq, tNext, tDrop, tRet, tRetN, tIfS, tAsg, gName, tAug, ipI, tVar, tC, tOp, tUn, rI, rI0, rU, tCons, tNil, tCB, tTup, tLst, tTest, tB, tAnd, tOr, tNot, tAndV, tOrV, tNotV, tIf, tCl, tCd, tCk, gSub, rPutL, rAtQ, rIntI, rLenQ, rLenS, rListQ, rTupL, rTupQ, rIsQ_c, kd_non, kd_bl, kd_int, kd_str, kd_ref, kdO_lst, kdO_tup, kit_NoneType_bool, kit_NoneType_int, kit_NoneType_str, kit_NoneType_list, kit_NoneType_tuple, kit_bool_bool, kit_bool_int, kit_bool_str, kit_bool_list, kit_bool_tuple, kit_int_bool, kit_int_int, kit_int_str, kit_int_list, kit_int_tuple, kit_str_bool, kit_str_int, kit_str_str, kit_str_list, kit_str_tuple, kit_list_bool, kit_list_int, kit_list_str, kit_list_list, kit_list_tuple, kit_tuple_bool, kit_tuple_int, kit_tuple_str, kit_tuple_list, kit_tuple_tuple, V.ty.injEq, rSortQ, rSlQ, rMulS, tJn, rAtX, rSlS, tSl, tPart, tNoPart, cut_lo2, cut_hi2, rInQ, gLq, gTq, gC_c, gNil, tChain, List.cons_append, List.nil_append, tBL, tBL0, tBad, tCr, tCe, tXF, cxH_K, HO.xd.injEq, rApp, rPopN, rRevL, seqAt_lst, seqAt_tup, at_0, at_1, at_2, at_3, at_4, ix_0, ix_1, ix_2, ix_3, ix_4, cx_K, upd_same, List.length_cons, List.length_nil, Nat.reduceAdd,  rEq, rNe, tRevL, V.int.injEq, V.bl.injEq, V.str.injEq, V.ref.injEq, List.cons.injEq, and_true, true_and, exists_and_left, exists_and_right, exists_eq_left, exists_eq_left', exists_eq_right, exists_eq_right', exists_const, Option.some.injEq, List.getElem?_cons_zero, List.getElem?_cons_succ, List.set_cons_zero, List.set_cons_succ, decide_eq_true_eq, decide_true, decide_false,  scal_ii, scal_bb, scal_ss, cmul_r, cdiv_l, cpow_12, cpow_18, cpow_40, HO.lst.injEq, HO.tup.injEq, upd_upd, Int.reduceToNat,  decide_not, Bool.not_eq_true', decide_eq_false_iff_not, if_true, if_false, Bool.false_eq_true, Bool.true_eq_false, reduceCtorEq, Int.reduceNeg, Nat.reduceLT, Int.reduceLT, Int.reducePow, gt_iff_lt]
    refine ⟨S, _, rfl, st, by decide, fun d H1 r1 g1 => ⟨S, rfl, r1.st, fun p0 ns H2 r2 n2 s2 hz hn => ?_⟩⟩
    simp only [tSeq, tNext, tDrop, tRet, tRetN, tIfS, tAsg, gName, tAug, ipI, tVar, tC, tOp, tUn, rI, rI0, rU, tCons, tNil, tCB, tTup, tLst, tTest, tB, tAnd, tOr, tNot, tAndV, tOrV, tNotV, tIf, tCl, tCd, tCk, gSub, rPutL, rAtQ, rIntI, rLenQ, rLenS, rListQ, rTupL, rTupQ, rIsQ_c, kd_non, kd_bl, kd_int, kd_str, kd_ref, kdO_lst, kdO_tup, kit_NoneType_bool, kit_NoneType_int, kit_NoneType_str, kit_NoneType_list, kit_NoneType_tuple, kit_bool_bool, kit_bool_int, kit_bool_str, kit_bool_list, kit_bool_tuple, kit_int_bool, kit_int_int, kit_int_str, kit_int_list, kit_int_tuple, kit_str_bool, kit_str_int, kit_str_str, kit_str_list, kit_str_tuple, kit_list_bool, kit_list_int, kit_list_str, kit_list_list, kit_list_tuple, kit_tuple_bool, kit_tuple_int, kit_tuple_str, kit_tuple_list, kit_tuple_tuple, V.ty.injEq, rSortQ, rSlQ, rMulS, tJn, rAtX, rSlS, tSl, tPart, tNoPart, cut_lo2, cut_hi2, rInQ, gLq, gTq, gC_c, gNil, tChain, List.cons_append, List.nil_append, tBL, tBL0, tBad, tCr, tCe, tXF, cxH_K, HO.xd.injEq, rApp, rPopN, rRevL, seqAt_lst, seqAt_tup, at_0, at_1, at_2, at_3, at_4, ix_0, ix_1, ix_2, ix_3, ix_4, cx_K, upd_same, List.length_cons, List.length_nil, Nat.reduceAdd,  rEq, rNe, tRevL, V.int.injEq, V.bl.injEq, V.str.injEq, V.ref.injEq, List.cons.injEq, and_true, true_and, exists_and_left, exists_and_right, exists_eq_left, exists_eq_left', exists_eq_right, exists_eq_right', exists_const, Option.some.injEq, List.getElem?_cons_zero, List.getElem?_cons_succ, List.set_cons_zero, List.set_cons_succ, decide_eq_true_eq, decide_true, decide_false,  scal_ii, scal_bb, scal_ss, cmul_r, cdiv_l, cpow_12, cpow_18, cpow_40, HO.lst.injEq, HO.tup.injEq, upd_upd, Int.reduceToNat,  decide_not, Bool.not_eq_true', decide_eq_false_iff_not, if_true, if_false, Bool.false_eq_true, Bool.true_eq_false, reduceCtorEq, Int.reduceNeg, Nat.reduceLT, Int.reduceLT, Int.reducePow, gt_iff_lt, s2]
    refine fun l hl => ?_
    have r3 := (r1.trans r2).new (o := .lst (ns.map V.int)) hl
    have hl0 := (r1.trans r2).back hl
    split
    · refine ⟨S, rfl, r3.st, fun g H4 r4 g0 => ?_⟩
      refine ⟨S, l, ns, g, rfl, r4.st, r4.but l _ (st.neA hl0) upd_same, st.neA hl0, by omega, fun p ms H5 r5 n5 h5 z5 nn => ?_⟩
      simp only [tSeq, tNext, tDrop, tRet, tRetN, tIfS, tAsg, gName, tAug, ipI, tVar, tC, tOp, tUn, rI, rI0, rU, tCons, tNil, tCB, tTup, tLst, tTest, tB, tAnd, tOr, tNot, tAndV, tOrV, tNotV, tIf, tCl, tCd, tCk, gSub, rPutL, rAtQ, rIntI, rLenQ, rLenS, rListQ, rTupL, rTupQ, rIsQ_c, kd_non, kd_bl, kd_int, kd_str, kd_ref, kdO_lst, kdO_tup, kit_NoneType_bool, kit_NoneType_int, kit_NoneType_str, kit_NoneType_list, kit_NoneType_tuple, kit_bool_bool, kit_bool_int, kit_bool_str, kit_bool_list, kit_bool_tuple, kit_int_bool, kit_int_int, kit_int_str, kit_int_list, kit_int_tuple, kit_str_bool, kit_str_int, kit_str_str, kit_str_list, kit_str_tuple, kit_list_bool, kit_list_int, kit_list_str, kit_list_list, kit_list_tuple, kit_tuple_bool, kit_tuple_int, kit_tuple_str, kit_tuple_list, kit_tuple_tuple, V.ty.injEq, rSortQ, rSlQ, rMulS, tJn, rAtX, rSlS, tSl, tPart, tNoPart, cut_lo2, cut_hi2, rInQ, gLq, gTq, gC_c, gNil, tChain, List.cons_append, List.nil_append, tBL, tBL0, tBad, tCr, tCe, tXF, cxH_K, HO.xd.injEq, rApp, rPopN, rRevL, seqAt_lst, seqAt_tup, at_0, at_1, at_2, at_3, at_4, ix_0, ix_1, ix_2, ix_3, ix_4, cx_K, upd_same, List.length_cons, List.length_nil, Nat.reduceAdd,  rEq, rNe, tRevL, V.int.injEq, V.bl.injEq, V.str.injEq, V.ref.injEq, List.cons.injEq, and_true, true_and, exists_and_left, exists_and_right, exists_eq_left, exists_eq_left', exists_eq_right, exists_eq_right', exists_const, Option.some.injEq, List.getElem?_cons_zero, List.getElem?_cons_succ, List.set_cons_zero, List.set_cons_succ, decide_eq_true_eq, decide_true, decide_false,  scal_ii, scal_bb, scal_ss, cmul_r, cdiv_l, cpow_12, cpow_18, cpow_40, HO.lst.injEq, HO.tup.injEq, upd_upd, Int.reduceToNat,  decide_not, Bool.not_eq_true', decide_eq_false_iff_not, if_true, if_false, Bool.false_eq_true, Bool.true_eq_false, reduceCtorEq, Int.reduceNeg, Nat.reduceLT, Int.reduceLT, Int.reducePow, gt_iff_lt]
      rw [if_neg (by omega)]
      exact q p ms H5 ((r3.trans r4).trans r5) ((r3.trans r4).back n5) h5 (by omega) fun n hm => (nn n hm).elim (hn n) fun e => by rw [e]; exact g0
    split
    · refine ⟨sz_of (by decide), fun p hp => ?_⟩
      have r4 := r3.new (o := .lst [.int 0]) hp
      simp only [tSeq, tNext, tDrop, tRet, tRetN, tIfS, tAsg, gName, tAug, ipI, tVar, tC, tOp, tUn, rI, rI0, rU, tCons, tNil, tCB, tTup, tLst, tTest, tB, tAnd, tOr, tNot, tAndV, tOrV, tNotV, tIf, tCl, tCd, tCk, gSub, rPutL, rAtQ, rIntI, rLenQ, rLenS, rListQ, rTupL, rTupQ, rIsQ_c, kd_non, kd_bl, kd_int, kd_str, kd_ref, kdO_lst, kdO_tup, kit_NoneType_bool, kit_NoneType_int, kit_NoneType_str, kit_NoneType_list, kit_NoneType_tuple, kit_bool_bool, kit_bool_int, kit_bool_str, kit_bool_list, kit_bool_tuple, kit_int_bool, kit_int_int, kit_int_str, kit_int_list, kit_int_tuple, kit_str_bool, kit_str_int, kit_str_str, kit_str_list, kit_str_tuple, kit_list_bool, kit_list_int, kit_list_str, kit_list_list, kit_list_tuple, kit_tuple_bool, kit_tuple_int, kit_tuple_str, kit_tuple_list, kit_tuple_tuple, V.ty.injEq, rSortQ, rSlQ, rMulS, tJn, rAtX, rSlS, tSl, tPart, tNoPart, cut_lo2, cut_hi2, rInQ, gLq, gTq, gC_c, gNil, tChain, List.cons_append, List.nil_append, tBL, tBL0, tBad, tCr, tCe, tXF, cxH_K, HO.xd.injEq, rApp, rPopN, rRevL, seqAt_lst, seqAt_tup, at_0, at_1, at_2, at_3, at_4, ix_0, ix_1, ix_2, ix_3, ix_4, cx_K, upd_same, List.length_cons, List.length_nil, Nat.reduceAdd,  rEq, rNe, tRevL, V.int.injEq, V.bl.injEq, V.str.injEq, V.ref.injEq, List.cons.injEq, and_true, true_and, exists_and_left, exists_and_right, exists_eq_left, exists_eq_left', exists_eq_right, exists_eq_right', exists_const, Option.some.injEq, List.getElem?_cons_zero, List.getElem?_cons_succ, List.set_cons_zero, List.set_cons_succ, decide_eq_true_eq, decide_true, decide_false,  scal_ii, scal_bb, scal_ss, cmul_r, cdiv_l, cpow_12, cpow_18, cpow_40, HO.lst.injEq, HO.tup.injEq, upd_upd, Int.reduceToNat,  decide_not, Bool.not_eq_true', decide_eq_false_iff_not, if_true, if_false, Bool.false_eq_true, Bool.true_eq_false, reduceCtorEq, Int.reduceNeg, Nat.reduceLT, Int.reduceLT, Int.reducePow, gt_iff_lt, rRepQ, rCatQ, rep_one]
      refine ⟨by decide, sz_of (by decide), fun p1 h1 => ⟨_, (upd_ne (ne_of_none ((upd_ne (ne_of_none upd_same hp)).trans upd_same) h1)).trans ((upd_ne (ne_of_none upd_same hp)).trans upd_same), sz_of (by rw [List.length_map, List.length_replicate]; omega), fun p2 h2 p3 h3 => ?_⟩⟩
      have r5 := r4.new (o := .lst (List.replicate 200 (V.int 0))) h1
      have r6 := r5.new (o := .lst (ns.map V.int ++ List.replicate 200 (V.int 0))) h2
      have r7 := r6.new (o := .lst (cutV (ns.map V.int ++ List.replicate 200 (V.int 0)) none (some 200))) h3
      have lz : (ns.map V.int ++ List.replicate 200 (V.int 0)).length = ns.length + 200 := by rw [List.length_append, List.length_map, List.length_replicate]
      refine q p3 ((ns ++ List.replicate 200 0).take 200) _ r7 (r6.back h3) ?_ ?_ fun n hm => ?_
      · rw [upd_same]
        have c := cut_to (xs := ns.map V.int ++ List.replicate 200 (V.int 0)) (n := 200) (by omega)
        refine congrArg some (congrArg HO.lst (Eq.trans c ?_))
        rw [map_rep0, ← List.map_append, ← List.map_take]
      · rw [List.length_take]
        omega
      · rcases List.mem_append.mp (List.mem_of_mem_take hm) with hm | hm
        · exact hn n hm
        · rw [List.eq_of_mem_replicate hm]
          decide
    · exact q l ns _ r3 hl0 upd_same (by omega) hn
end
end Z
set_option Elab.async false
set_option linter.all false
set_option maxRecDepth 100000
set_option maxHeartbeats 4000000
namespace Z
open PySem PySem.Spec PyProof.Rows L2 L2H
section
variable {P : Program} {w : World} {K : PySem.W.Frag} {mg : Str → Option Value} {base : Heap}
abbrev s_law_triangle : Stmt := topS 27
abbrev N_law_triangle : List Str := ["made", "k", "above", "j"]
theorem sc_law_triangle : FnScope N_law_triangle [] (defScope s_law_triangle) := ⟨rfl, rfl, rfl, by decide +kernel, rfl, by decide +kernel, by decide +kernel⟩
theorem b_law_triangle : BindO "_law_triangle" s_law_triangle [] := fun _ _ _ _ _ _ us hl => match us, hl with | [], _ => rfl

/-- rows at places that hold, in a list at p -/
def Rows (H : Hp) (p : Addr) (rows : List (List Int)) : Prop := ∃ ps : List Addr, H p = some (.lst (ps.map V.ref)) ∧ Paired (fun (a : Addr) (r : List Int) => a ≠ p ∧ H a = some (.lst (r.map V.int))) ps rows
theorem paired_map {α β γ : Type} {F : α → β → Prop} {G : γ → β → Prop} {f : α → γ} (h : ∀ a b, F a b → G (f a) b) : ∀ {l : List α} {m : List β}, Paired F l m → Paired G (l.map f) m
  | _, _, .nil => .nil
  | _, _, .cons r t => .cons (h _ _ r) (paired_map h t)
theorem paired_mapR {α β γ : Type} {F : α → β → Prop} {G : α → γ → Prop} {f : β → γ} (h : ∀ a b, F a b → G a (f b)) : ∀ {l : List α} {m : List β}, Paired F l m → Paired G l (m.map f)
  | _, _, .nil => .nil
  | _, _, .cons r t => .cons (h _ _ r) (paired_mapR h t)
theorem paired_mem {α β : Type} {F : α → β → Prop} {R : β → Prop} : ∀ {l : List α} {m : List β}, Paired F l m → (∀ b ∈ m, R b) → Paired (fun a b => F a b ∧ R b) l m
  | _, _, .nil, _ => .nil
  | _, _, .cons r t, h => .cons ⟨r, h _ List.mem_cons_self⟩ (paired_mem t fun b hb => h b (List.mem_cons_of_mem _ hb))
def sp_triangle : Sp := fun vs H Q _ => vs = [] ∧ ∀ (p : Addr) (H' : Hp), Same H H' → H p = none → (∀ N : Addr → Prop, (∀ a, H a = none → N a) → Rp N H' 3 (.ref p) (gd (tri 21))) → Q (.ref p) H'
theorem ok_triangle (D : Dn K mg "_law_triangle" s_law_triangle) (B : Blt mg) : Cl P w K mg base 1 "_law_triangle" sp_triangle := by
  refine cl_of D sc_law_triangle b_law_triangle (fun vs H Q E h => ?_) (fun f cdv A outer s H vs Q E hr h => ?_)
  · obtain ⟨rfl, _⟩ := h
    rfl
  · obtain ⟨rfl, q⟩ := h
    refine ⟨_, (pss_cons (ps_set (i := 0) sc_law_triangle.nd rfl (.inl rfl) (pe_lst (pa_cons (pe_lst (pa_cons pe_int pa_nil)) pa_nil)))
      (pss_cons (ps_for PassesOwn.never rfl (pi_range1 (by rfl) B.range (pa_cons pe_int pa_nil)) (pg_name (i := 1) sc_law_triangle.nd rfl (.inl rfl)) (pss_cons (ps_set (i := 2) sc_law_triangle.nd rfl (.inr rfl) (pe_op op_catQ (pe_op op_catQ (pe_lst (pa_cons pe_int pa_nil)) (pe_ix at_seq (pv 0) (pe_un un_neg pe_int) (fun _ _ => rfl))) (pe_lst (pa_cons pe_int pa_nil))))
      (pss_one (ps_expr (pe_ml PySem.F.slot_list_append PySem.F.type_list_append mt_app (pv 0) (pa_cons (pe_lc (own := [("j", 3)]) (g := gName 3) rfl sc_law_triangle.nd (pi_range1 (by rfl) B.range (pa_cons (pe_op op_add (pv 1) pe_int) pa_nil)) (blkOk_by (N := N_law_triangle) (sc := defScope s_law_triangle) (own := [("j", 3)]) (by decide +kernel)) (fun _ _ _ _ _ => pg_name (i := 3) sc_law_triangle.nd rfl (Or.inl rfl)) (fun _ _ _ _ _ => pts_nil) (fun _ _ _ _ _ => (pe_op op_add (pe_ix at_seq (pv 2) (pv 3) (fun _ _ => rfl)) (pe_ix at_seq (pv 2) (pe_op op_add (pv 3) pe_int) (fun _ _ => rfl))))) pa_nil))))))
      (pss_one (ps_ret (pv 0))))), ?_⟩
    rw [show L2.start N_law_triangle [] = [none, none, none, none] from rfl]
    simp only [tSeq, tNext, tDrop, tRet, tRetN, tIfS, tAsg, gName, tAug, ipI, tVar, tC, tOp, tUn, rI, rI0, rU, tCons, tNil, tCB, tTup, tLst, tTest, tB, tAnd, tOr, tNot, tAndV, tOrV, tNotV, tIf, tCl, tCd, tCk, gSub, rPutL, rAtQ, rIntI, rLenQ, rLenS, rListQ, rTupL, rTupQ, rIsQ_c, kd_non, kd_bl, kd_int, kd_str, kd_ref, kdO_lst, kdO_tup, kit_NoneType_bool, kit_NoneType_int, kit_NoneType_str, kit_NoneType_list, kit_NoneType_tuple, kit_bool_bool, kit_bool_int, kit_bool_str, kit_bool_list, kit_bool_tuple, kit_int_bool, kit_int_int, kit_int_str, kit_int_list, kit_int_tuple, kit_str_bool, kit_str_int, kit_str_str, kit_str_list, kit_str_tuple, kit_list_bool, kit_list_int, kit_list_str, kit_list_list, kit_list_tuple, kit_tuple_bool, kit_tuple_int, kit_tuple_str, kit_tuple_list, kit_tuple_tuple, V.ty.injEq, rSortQ, rSlQ, rMulS, tJn, rAtX, rSlS, tSl, tPart, tNoPart, cut_lo2, cut_hi2, rInQ, gLq, gTq, gC_c, gNil, tChain, List.cons_append, List.nil_append, tBL, tBL0, tBad, tCr, tCe, tXF, cxH_K, HO.xd.injEq, rApp, rPopN, rRevL, seqAt_lst, seqAt_tup, at_0, at_1, at_2, at_3, at_4, ix_0, ix_1, ix_2, ix_3, ix_4, cx_K, upd_same, List.length_cons, List.length_nil, Nat.reduceAdd,  rEq, rNe, tRevL, V.int.injEq, V.bl.injEq, V.str.injEq, V.ref.injEq, List.cons.injEq, and_true, true_and, exists_and_left, exists_and_right, exists_eq_left, exists_eq_left', exists_eq_right, exists_eq_right', exists_const, Option.some.injEq, List.getElem?_cons_zero, List.getElem?_cons_succ, List.set_cons_zero, List.set_cons_succ, decide_eq_true_eq, decide_true, decide_false,  scal_ii, scal_bb, scal_ss, cmul_r, cdiv_l, cpow_12, cpow_18, cpow_40, HO.lst.injEq, HO.tup.injEq, upd_upd, Int.reduceToNat,  decide_not, Bool.not_eq_true', decide_eq_false_iff_not, if_true, if_false, Bool.false_eq_true, Bool.true_eq_false, reduceCtorEq, Int.reduceNeg, Nat.reduceLT, Int.reduceLT, Int.reducePow, gt_iff_lt]
    refine ⟨sz_of (by decide), fun l hl => ⟨sz_of (by decide), fun p hp => ?_⟩⟩
    have hp0 : H p = none := by rw [upd_ne (ne_of_none upd_same hp).symm] at hp; exact hp
    have lp : l ≠ p := ne_of_none upd_same hp
    obtain ⟨Pv, hP⟩ : ∃ Pv : Nat → L2.St → Hp → Prop, Pv = fun i σ' H' => ∃ (ps : List Addr) (y z : Option V), σ' = [some (.ref p), y, z, none] ∧ Same H H' ∧ H' p = some (.lst (ps.map V.ref)) ∧ Paired (fun (a : Addr) (r : List Int) => H a = none ∧ a ≠ p ∧ H' a = some (.lst (r.map V.int))) ps (tri (i + 1)) := ⟨_, rfl⟩
    refine z_forR 20 (fun Q q => q) (by decide) Pv ?h0 (fun i σ' H' hi hI => ?hs) (fun σ' H' hI => ?hd)
    case h0 =>
      rw [hP]
      exact ⟨[l], none, none, rfl, fun b o e => same_new hp b o (same_new hl b o e), upd_same, .cons ⟨hl, lp, (upd_ne lp).trans upd_same⟩ .nil⟩
    case hs =>
      rw [hP] at hI
      obtain ⟨ps, y, z, rfl, sm, h1, pr⟩ := hI
      have pl := paired_len pr
      obtain ⟨qs, a, rfl⟩ : ∃ qs a, ps = qs ++ [a] := by
        cases e : ps.reverse with
        | nil =>
          have : ps.length = 0 := by rw [← List.length_reverse, e] <;> rfl
          unfold tri at pl
          rw [List.length_map, List.length_range] at pl
          omega
        | cons a r => exact ⟨r.reverse, a, by rw [← List.reverse_reverse ps, e, List.reverse_cons]⟩
      have h1e : atI (List.map V.ref (qs ++ [a])) (-1) = some (.ref a) := by rw [List.map_append] <;> exact at_end
      simp only [tSeq, tNext, tDrop, tRet, tRetN, tIfS, tAsg, gName, tAug, ipI, tVar, tC, tOp, tUn, rI, rI0, rU, tCons, tNil, tCB, tTup, tLst, tTest, tB, tAnd, tOr, tNot, tAndV, tOrV, tNotV, tIf, tCl, tCd, tCk, gSub, rPutL, rAtQ, rIntI, rLenQ, rLenS, rListQ, rTupL, rTupQ, rIsQ_c, kd_non, kd_bl, kd_int, kd_str, kd_ref, kdO_lst, kdO_tup, kit_NoneType_bool, kit_NoneType_int, kit_NoneType_str, kit_NoneType_list, kit_NoneType_tuple, kit_bool_bool, kit_bool_int, kit_bool_str, kit_bool_list, kit_bool_tuple, kit_int_bool, kit_int_int, kit_int_str, kit_int_list, kit_int_tuple, kit_str_bool, kit_str_int, kit_str_str, kit_str_list, kit_str_tuple, kit_list_bool, kit_list_int, kit_list_str, kit_list_list, kit_list_tuple, kit_tuple_bool, kit_tuple_int, kit_tuple_str, kit_tuple_list, kit_tuple_tuple, V.ty.injEq, rSortQ, rSlQ, rMulS, tJn, rAtX, rSlS, tSl, tPart, tNoPart, cut_lo2, cut_hi2, rInQ, gLq, gTq, gC_c, gNil, tChain, List.cons_append, List.nil_append, tBL, tBL0, tBad, tCr, tCe, tXF, cxH_K, HO.xd.injEq, rApp, rPopN, rRevL, seqAt_lst, seqAt_tup, at_0, at_1, at_2, at_3, at_4, ix_0, ix_1, ix_2, ix_3, ix_4, cx_K, upd_same, List.length_cons, List.length_nil, Nat.reduceAdd,  rEq, rNe, tRevL, V.int.injEq, V.bl.injEq, V.str.injEq, V.ref.injEq, List.cons.injEq, and_true, true_and, exists_and_left, exists_and_right, exists_eq_left, exists_eq_left', exists_eq_right, exists_eq_right', exists_const, Option.some.injEq, List.getElem?_cons_zero, List.getElem?_cons_succ, List.set_cons_zero, List.set_cons_succ, decide_eq_true_eq, decide_true, decide_false,  scal_ii, scal_bb, scal_ss, cmul_r, cdiv_l, cpow_12, cpow_18, cpow_40, HO.lst.injEq, HO.tup.injEq, upd_upd, Int.reduceToNat,  decide_not, Bool.not_eq_true', decide_eq_false_iff_not, if_true, if_false, Bool.false_eq_true, Bool.true_eq_false, reduceCtorEq, Int.reduceNeg, Nat.reduceLT, Int.reduceLT, Int.reducePow, gt_iff_lt, h1, h1e, rCatQ]
      have hq : qs.length = i := by
        unfold tri at pl
        rw [List.length_append, List.length_map, List.length_range, List.length_cons, List.length_nil] at pl
        omega
      obtain ⟨row, er, ha0, hap, ha⟩ := paired_get (i := i) (a := a) pr (by rw [← hq] <;> simp)
      rw [tri_at (by omega)] at er
      cases er
      have zr : ((prow i).map V.int).length = i + 1 := by rw [List.length_map, prow_len]
      refine ⟨sz_of (by decide), fun p1 e1 => ⟨_, same_seq (same_new e1) (by rw [h1] <;> rfl), _, h1e, a, rfl, _, (upd_ne (ne_of_none ha e1)).trans ha, sz_of (by omega), fun p2 e2 => ⟨sz_of (by decide), fun p3 e3 => ⟨_, (upd_ne (ne_of_none upd_same e3)).trans upd_same, sz_of (by rw [List.length_cons]; omega), fun p4 e4 => ?_⟩⟩⟩⟩
      obtain ⟨H5, e5⟩ : ∃ X, X = upd (upd (upd (upd H' p1 (.lst [.int 0])) p2 (.lst (.int 0 :: (prow i).map V.int))) p3 (.lst [.int 0])) p4 (.lst (.int 0 :: (prow i).map V.int ++ [.int 0])) := ⟨_, rfl⟩
      have s5 : Same H' H5 := by
        rw [e5]
        exact fun b o e => same_new e4 b o (same_new e3 b o (same_new e2 b o (same_new e1 b o e)))
      have h5 : H5 p4 = some (.lst ((above i).map V.int)) := by
        rw [e5, upd_same]
        simp only [above, List.cons_append, List.map_cons, List.map_append, List.map_nil]
      have z5 : seqAt (H5 p4) = some ((above i).map V.int) := by rw [h5] <;> rfl
      first | rw [← e5] | skip
      refine ⟨⟨_, s5 _ _ h1⟩, ?_⟩
      refine z_lcR (i + 2) (fun Q q => ?_) (by omega) (fun D j Hx => Same H5 Hx ∧ Hx D = some (.lst (((List.range j).map fun k => (ch (i + 1) k : Int)).map V.int))) (fun D hD => ⟨same_new hD, upd_same⟩) ⟨rfl, fun _ => rfl⟩ (fun D j Hx hD hj hI => ?_) (fun D Hx hD hI => ?_)
      · simp only [tSeq, tNext, tDrop, tRet, tRetN, tIfS, tAsg, gName, tAug, ipI, tVar, tC, tOp, tUn, rI, rI0, rU, tCons, tNil, tCB, tTup, tLst, tTest, tB, tAnd, tOr, tNot, tAndV, tOrV, tNotV, tIf, tCl, tCd, tCk, gSub, rPutL, rAtQ, rIntI, rLenQ, rLenS, rListQ, rTupL, rTupQ, rIsQ_c, kd_non, kd_bl, kd_int, kd_str, kd_ref, kdO_lst, kdO_tup, kit_NoneType_bool, kit_NoneType_int, kit_NoneType_str, kit_NoneType_list, kit_NoneType_tuple, kit_bool_bool, kit_bool_int, kit_bool_str, kit_bool_list, kit_bool_tuple, kit_int_bool, kit_int_int, kit_int_str, kit_int_list, kit_int_tuple, kit_str_bool, kit_str_int, kit_str_str, kit_str_list, kit_str_tuple, kit_list_bool, kit_list_int, kit_list_str, kit_list_list, kit_list_tuple, kit_tuple_bool, kit_tuple_int, kit_tuple_str, kit_tuple_list, kit_tuple_tuple, V.ty.injEq, rSortQ, rSlQ, rMulS, tJn, rAtX, rSlS, tSl, tPart, tNoPart, cut_lo2, cut_hi2, rInQ, gLq, gTq, gC_c, gNil, tChain, List.cons_append, List.nil_append, tBL, tBL0, tBad, tCr, tCe, tXF, cxH_K, HO.xd.injEq, rApp, rPopN, rRevL, seqAt_lst, seqAt_tup, at_0, at_1, at_2, at_3, at_4, ix_0, ix_1, ix_2, ix_3, ix_4, cx_K, upd_same, List.length_cons, List.length_nil, Nat.reduceAdd,  rEq, rNe, tRevL, V.int.injEq, V.bl.injEq, V.str.injEq, V.ref.injEq, List.cons.injEq, and_true, true_and, exists_and_left, exists_and_right, exists_eq_left, exists_eq_left', exists_eq_right, exists_eq_right', exists_const, Option.some.injEq, List.getElem?_cons_zero, List.getElem?_cons_succ, List.set_cons_zero, List.set_cons_succ, decide_eq_true_eq, decide_true, decide_false,  scal_ii, scal_bb, scal_ss, cmul_r, cdiv_l, cpow_12, cpow_18, cpow_40, HO.lst.injEq, HO.tup.injEq, upd_upd, Int.reduceToNat,  decide_not, Bool.not_eq_true', decide_eq_false_iff_not, if_true, if_false, Bool.false_eq_true, Bool.true_eq_false, reduceCtorEq, Int.reduceNeg, Nat.reduceLT, Int.reduceLT, Int.reducePow, gt_iff_lt]
        rw [show ((i : Nat) : Int) + 2 = ((i + 2 : Nat) : Int) by omega]
        exact q
      · obtain ⟨s6, h6⟩ := hI
        obtain ⟨x, y, a1, a2, a3⟩ := above_step i j hi hj
        have b1 : atI ((above i).map V.int) ((j : Nat) : Int) = some (.int x) := atI_nat (by rw [List.getElem?_map, a1] <;> rfl)
        have b2 : atI ((above i).map V.int) (((j : Nat) : Int) + 1) = some (.int y) := atI_nat (j := j + 1) (by rw [List.getElem?_map, a2] <;> rfl)
        have z6 := same_seq s6 z5
        simp only [tSeq, tNext, tDrop, tRet, tRetN, tIfS, tAsg, gName, tAug, ipI, tVar, tC, tOp, tUn, rI, rI0, rU, tCons, tNil, tCB, tTup, tLst, tTest, tB, tAnd, tOr, tNot, tAndV, tOrV, tNotV, tIf, tCl, tCd, tCk, gSub, rPutL, rAtQ, rIntI, rLenQ, rLenS, rListQ, rTupL, rTupQ, rIsQ_c, kd_non, kd_bl, kd_int, kd_str, kd_ref, kdO_lst, kdO_tup, kit_NoneType_bool, kit_NoneType_int, kit_NoneType_str, kit_NoneType_list, kit_NoneType_tuple, kit_bool_bool, kit_bool_int, kit_bool_str, kit_bool_list, kit_bool_tuple, kit_int_bool, kit_int_int, kit_int_str, kit_int_list, kit_int_tuple, kit_str_bool, kit_str_int, kit_str_str, kit_str_list, kit_str_tuple, kit_list_bool, kit_list_int, kit_list_str, kit_list_list, kit_list_tuple, kit_tuple_bool, kit_tuple_int, kit_tuple_str, kit_tuple_list, kit_tuple_tuple, V.ty.injEq, rSortQ, rSlQ, rMulS, tJn, rAtX, rSlS, tSl, tPart, tNoPart, cut_lo2, cut_hi2, rInQ, gLq, gTq, gC_c, gNil, tChain, List.cons_append, List.nil_append, tBL, tBL0, tBad, tCr, tCe, tXF, cxH_K, HO.xd.injEq, rApp, rPopN, rRevL, seqAt_lst, seqAt_tup, at_0, at_1, at_2, at_3, at_4, ix_0, ix_1, ix_2, ix_3, ix_4, cx_K, upd_same, List.length_cons, List.length_nil, Nat.reduceAdd,  rEq, rNe, tRevL, V.int.injEq, V.bl.injEq, V.str.injEq, V.ref.injEq, List.cons.injEq, and_true, true_and, exists_and_left, exists_and_right, exists_eq_left, exists_eq_left', exists_eq_right, exists_eq_right', exists_const, Option.some.injEq, List.getElem?_cons_zero, List.getElem?_cons_succ, List.set_cons_zero, List.set_cons_succ, decide_eq_true_eq, decide_true, decide_false,  scal_ii, scal_bb, scal_ss, cmul_r, cdiv_l, cpow_12, cpow_18, cpow_40, HO.lst.injEq, HO.tup.injEq, upd_upd, Int.reduceToNat,  decide_not, Bool.not_eq_true', decide_eq_false_iff_not, if_true, if_false, Bool.false_eq_true, Bool.true_eq_false, reduceCtorEq, Int.reduceNeg, Nat.reduceLT, Int.reduceLT, Int.reducePow, gt_iff_lt, wipe, List.map_cons, List.map_nil, z6, b1, b2, h6]
        refine ⟨sz_lt (by simp only [List.length_map, List.length_range]; omega), fun b o e => ?_, ?_⟩
        · rw [upd_ne (ne_of_none e hD)]
          exact s6 b o e
        · rw [List.range_succ, List.map_append, List.map_append, a3]
          rfl
      · obtain ⟨s6, h6⟩ := hI
        have s06 : Same H' Hx := fun b o e => s6 b o (s5 b o e)
        have hD' : H' D = none := by
          cases e : H' D with
          | none => rfl
          | some o => rw [s5 _ _ e] at hD; cases hD
        have hD0 : H D = none := by
          cases e : H D with
          | none => rfl
          | some o => rw [sm _ _ e] at hD'; cases hD'
        have dp : D ≠ p := (ne_of_none h1 hD').symm
        refine ⟨_, s06 _ _ h1, sz_lt (by rw [List.length_map, List.length_append, hq, List.length_cons, List.length_nil]; omega), ?_⟩
        rw [hP]
        refine ⟨(qs ++ [a]) ++ [D], _, _, rfl, fun b o e => ?_, by rw [upd_same, List.map_append (l₁ := qs ++ [a])] <;> rfl, ?_⟩
        · rw [upd_ne (ne_of_none e hp0)]
          exact s06 _ _ (sm b o e)
        · rw [tri_step (i + 1)]
          exact paired_snoc ⟨hD0, dp, (upd_ne dp).trans h6⟩ (paired_imp (fun b r ⟨u1, u2, u3⟩ => ⟨u1, u2, (upd_ne u2).trans (s06 _ _ u3)⟩) pr)
    case hd =>
      rw [hP] at hI
      obtain ⟨ps, y, z, rfl, sm, h1, pr⟩ := hI
      simp only [tSeq, tNext, tDrop, tRet, tRetN, tIfS, tAsg, gName, tAug, ipI, tVar, tC, tOp, tUn, rI, rI0, rU, tCons, tNil, tCB, tTup, tLst, tTest, tB, tAnd, tOr, tNot, tAndV, tOrV, tNotV, tIf, tCl, tCd, tCk, gSub, rPutL, rAtQ, rIntI, rLenQ, rLenS, rListQ, rTupL, rTupQ, rIsQ_c, kd_non, kd_bl, kd_int, kd_str, kd_ref, kdO_lst, kdO_tup, kit_NoneType_bool, kit_NoneType_int, kit_NoneType_str, kit_NoneType_list, kit_NoneType_tuple, kit_bool_bool, kit_bool_int, kit_bool_str, kit_bool_list, kit_bool_tuple, kit_int_bool, kit_int_int, kit_int_str, kit_int_list, kit_int_tuple, kit_str_bool, kit_str_int, kit_str_str, kit_str_list, kit_str_tuple, kit_list_bool, kit_list_int, kit_list_str, kit_list_list, kit_list_tuple, kit_tuple_bool, kit_tuple_int, kit_tuple_str, kit_tuple_list, kit_tuple_tuple, V.ty.injEq, rSortQ, rSlQ, rMulS, tJn, rAtX, rSlS, tSl, tPart, tNoPart, cut_lo2, cut_hi2, rInQ, gLq, gTq, gC_c, gNil, tChain, List.cons_append, List.nil_append, tBL, tBL0, tBad, tCr, tCe, tXF, cxH_K, HO.xd.injEq, rApp, rPopN, rRevL, seqAt_lst, seqAt_tup, at_0, at_1, at_2, at_3, at_4, ix_0, ix_1, ix_2, ix_3, ix_4, cx_K, upd_same, List.length_cons, List.length_nil, Nat.reduceAdd,  rEq, rNe, tRevL, V.int.injEq, V.bl.injEq, V.str.injEq, V.ref.injEq, List.cons.injEq, and_true, true_and, exists_and_left, exists_and_right, exists_eq_left, exists_eq_left', exists_eq_right, exists_eq_right', exists_const, Option.some.injEq, List.getElem?_cons_zero, List.getElem?_cons_succ, List.set_cons_zero, List.set_cons_succ, decide_eq_true_eq, decide_true, decide_false,  scal_ii, scal_bb, scal_ss, cmul_r, cdiv_l, cpow_12, cpow_18, cpow_40, HO.lst.injEq, HO.tup.injEq, upd_upd, Int.reduceToNat,  decide_not, Bool.not_eq_true', decide_eq_false_iff_not, if_true, if_false, Bool.false_eq_true, Bool.true_eq_false, reduceCtorEq, Int.reduceNeg, Nat.reduceLT, Int.reduceLT, Int.reducePow, gt_iff_lt]
      refine q p H' sm hp0 fun N hN => ⟨p, _, rfl, hN p hp0, h1, ?_, ?_⟩
      · rw [List.length_map, paired_len pr]
        decide
      · have rl : ∀ r ∈ tri 21, r.length ≤ 1000 := by decide +kernel
        exact paired_map (f := V.ref) (fun _ _ h => h) (paired_mapR (f := fun r : List Int => Dt.lst (r.map Dt.int)) (G := fun (b : Addr) d => Rp N H' 2 (.ref b) d) (fun b r ⟨⟨u1, u2, u3⟩, u4⟩ => rp_ints (hN b u1) u3 u4) (paired_mem pr rl))
end
end Z
set_option Elab.async false
set_option linter.all false
set_option maxRecDepth 100000
set_option maxHeartbeats 4000000
namespace Z
open PySem PySem.Spec PyProof.Rows L2 L2H
section
variable {P : Program} {w : World} {K : PySem.W.Frag} {mg : Str → Option Value} {base : Heap}
def refD (a : Str) (fs : List Dt) : Dt := .tup [.str (Str.ofString "refused"), .tup (.str a :: fs)]
def toldD (n : Int) : Dt := .tup [.str (Str.ofString "told"), .int n]
def dueR (ns : List Int) : Dt := if 20 < ns.sum then refD (Str.ofString "TooMany") [.int ns.sum, .int 20] else toldD (mx ns : Nat)
def dueS (n : Int) : Dt := if n < 0 ∨ 10 < n then refD (Str.ofString "OutOfRange") [.int n, .int 11] else if n = 0 then refD (Str.ofString "BadSize") [.int 0] else toldD (ph n.toNat : Nat)
def All : Addr → Prop := fun _ => True
theorem rp_told {H : Hp} {p : Addr} {n : Int} (h : H p = some (.tup [.str (Str.ofString "told"), .int n])) : Rp All H 5 (.ref p) (toldD n) := ⟨p, _, rfl, trivial, h, (by show 2 ≤ 1000; decide), .cons rfl (.cons rfl .nil)⟩
theorem rp_ref {H : Hp} {p q : Addr} {a : Str} {xs : List V} {fs : List Dt} (h : H p = some (.tup [.str (Str.ofString "refused"), .ref q])) (g : H q = some (.tup (.str a :: xs))) (z : xs.length ≤ 10) (r : Paired (fun v d => Rp All H 3 v d) xs fs) : Rp All H 5 (.ref p) (refD a fs) :=
  ⟨p, _, rfl, trivial, h, (by show 2 ≤ 1000; decide), .cons rfl (.cons ⟨q, _, rfl, trivial, g, (by rw [List.length_cons]; omega), .cons rfl r⟩ .nil)⟩
theorem tri_get {N : Addr → Prop} {H : Hp} {p : Addr} (r : Rp N H 3 (.ref p) (gd (tri 21))) : ∃ xs : List V, H p = some (.lst xs) ∧ seqAt (H p) = some xs ∧
    ∀ (i : Nat) (x : Int), x = (i : Int) → i ≤ 20 → ∃ a, atI xs x = some (.ref a) ∧ seqAt (H a) = some ((prow i).map V.int) := by
  obtain ⟨xs, h, hl, g⟩ := rp_grid r
  refine ⟨xs, h, by rw [h] <;> rfl, fun i x e hi => ?_⟩
  obtain ⟨a, e1, _, e2⟩ := g i _ (tri_at (by omega))
  refine ⟨a, ?_, by rw [e2] <;> rfl⟩
  rw [e]
  exact atI_nat e1
theorem row_get {n k : Nat} {x : Int} (e : x = (k : Int)) (h : k ≤ n) : atI ((prow n).map V.int) x = some (.int (ch n k : Nat)) := by
  rw [e]
  exact atI_nat (by rw [List.getElem?_map, prow_at h] <;> rfl)
abbrev s_law_mixes_due : Stmt := topS 28
abbrev N_law_mixes_due : List Str := ["triangle", "length_row", "total", "made", "left", "length"]
theorem sc_law_mixes_due : FnScope N_law_mixes_due ["triangle", "length_row"] (defScope s_law_mixes_due) := ⟨rfl, rfl, rfl, by decide +kernel, rfl, by decide +kernel, by decide +kernel⟩
theorem b_law_mixes_due : BindO "_law_mixes_due" s_law_mixes_due ["triangle", "length_row"] := fun _ _ _ _ _ _ us hl => match us, hl with | [_, _], _ => rfl

def sp_mixes_due : Sp := fun vs H Q _ => ∃ (N : Addr → Prop) (p l : Addr) (ns : List Int), vs = [.ref p, .ref l] ∧ Rp N H 3 (.ref p) (gd (tri 21)) ∧ H l = some (.lst (ns.map V.int)) ∧ (∀ n ∈ ns, 0 ≤ n) ∧ ∀ (v : V) (H' : Hp), Same H H' → Rp All H' 5 v (dueR ns) → Q v H'
theorem ok_mixes_due (D : Dn K mg "_law_mixes_due" s_law_mixes_due) (B : Blt mg) : Cl P w K mg base 1 "_law_mixes_due" sp_mixes_due := by
  refine cl_of D sc_law_mixes_due b_law_mixes_due (fun vs H Q E h => ?_) (fun f cdv A outer s H vs Q E hr h => ?_)
  · obtain ⟨N, p, l, ns, rfl, _⟩ := h
    rfl
  · obtain ⟨N, p, l, ns, rfl, rp, hl, hn, q⟩ := h
    refine ⟨_, (pss_cons (ps_set (i := 2) sc_law_mixes_due.nd rfl (.inl rfl) (pe_callB (cr_sumQ rfl) (by rfl) B.sum (by decide +kernel) (pa_cons (pv 1) pa_nil)))
      (pss_cons (ps_if (pt_cmpR op_gt (pv 2) pe_int (nomark _)) (pss_one (ps_ret (pe_tup (pa_cons pe_str (pa_cons (pe_tup (pa_cons pe_str (pa_cons (pv 2) (pa_cons pe_int pa_nil)))) pa_nil))))) pss_nil)
      (pss_cons (ps_set (i := 3) sc_law_mixes_due.nd rfl (.inl rfl) pe_int)
      (pss_cons (ps_set (i := 4) sc_law_mixes_due.nd rfl (.inl rfl) (pv 2))
      (pss_cons (ps_for PassesOwn.never rfl (pi_list (pv 1)) (pg_name (i := 5) sc_law_mixes_due.nd rfl (.inl rfl)) (pss_cons (ps_set (i := 3) sc_law_mixes_due.nd rfl (.inl rfl) (pe_op op_mul (pv 3) (pe_ix at_seq (pe_ix at_seq (pv 0) (pv 4) (fun _ _ => rfl)) (pv 5) (fun _ _ => rfl))))
      (pss_one (ps_set (i := 4) sc_law_mixes_due.nd rfl (.inl rfl) (pe_op op_sub (pv 4) (pv 5))))))
      (pss_one (ps_ret (pe_tup (pa_cons pe_str (pa_cons (pv 3) pa_nil)))))))))), ?_⟩
    rw [show L2.start N_law_mixes_due [.ref p, .ref l] = [some (.ref p), some (.ref l), none, none, none, none] from rfl]
    have hs : seqAt (H l) = some (ns.map V.int) := by rw [hl] <;> rfl
    simp only [tSeq, tNext, tDrop, tRet, tRetN, tIfS, tAsg, gName, tAug, ipI, tVar, tC, tOp, tUn, rI, rI0, rU, tCons, tNil, tCB, tTup, tLst, tTest, tB, tAnd, tOr, tNot, tAndV, tOrV, tNotV, tIf, tCl, tCd, tCk, gSub, rPutL, rAtQ, rIntI, rLenQ, rLenS, rListQ, rTupL, rTupQ, rIsQ_c, kd_non, kd_bl, kd_int, kd_str, kd_ref, kdO_lst, kdO_tup, kit_NoneType_bool, kit_NoneType_int, kit_NoneType_str, kit_NoneType_list, kit_NoneType_tuple, kit_bool_bool, kit_bool_int, kit_bool_str, kit_bool_list, kit_bool_tuple, kit_int_bool, kit_int_int, kit_int_str, kit_int_list, kit_int_tuple, kit_str_bool, kit_str_int, kit_str_str, kit_str_list, kit_str_tuple, kit_list_bool, kit_list_int, kit_list_str, kit_list_list, kit_list_tuple, kit_tuple_bool, kit_tuple_int, kit_tuple_str, kit_tuple_list, kit_tuple_tuple, V.ty.injEq, rSortQ, rSlQ, rMulS, tJn, rAtX, rSlS, tSl, tPart, tNoPart, cut_lo2, cut_hi2, rInQ, gLq, gTq, gC_c, gNil, tChain, List.cons_append, List.nil_append, tBL, tBL0, tBad, tCr, tCe, tXF, cxH_K, HO.xd.injEq, rApp, rPopN, rRevL, seqAt_lst, seqAt_tup, at_0, at_1, at_2, at_3, at_4, ix_0, ix_1, ix_2, ix_3, ix_4, cx_K, upd_same, List.length_cons, List.length_nil, Nat.reduceAdd,  rEq, rNe, tRevL, V.int.injEq, V.bl.injEq, V.str.injEq, V.ref.injEq, List.cons.injEq, and_true, true_and, exists_and_left, exists_and_right, exists_eq_left, exists_eq_left', exists_eq_right, exists_eq_right', exists_const, Option.some.injEq, List.getElem?_cons_zero, List.getElem?_cons_succ, List.set_cons_zero, List.set_cons_succ, decide_eq_true_eq, decide_true, decide_false,  scal_ii, scal_bb, scal_ss, cmul_r, cdiv_l, cpow_12, cpow_18, cpow_40, HO.lst.injEq, HO.tup.injEq, upd_upd, Int.reduceToNat,  decide_not, Bool.not_eq_true', decide_eq_false_iff_not, if_true, if_false, Bool.false_eq_true, Bool.true_eq_false, reduceCtorEq, Int.reduceNeg, Nat.reduceLT, Int.reduceLT, Int.reducePow, gt_iff_lt, rSumQ, hs]
    refine ⟨ns, rfl, ?_⟩
    split
    · rename_i h20
      refine ⟨sz_of (by decide), fun p1 e1 => ⟨sz_of (by decide), fun p2 e2 => q _ _ (fun b o e => same_new e2 b o (same_new e1 b o e)) ?_⟩⟩
      unfold dueR
      rw [if_pos h20]
      exact rp_ref upd_same ((upd_ne (ne_of_none upd_same e2)).trans upd_same) (by show 2 ≤ 10; decide) (.cons rfl (.cons rfl .nil))
    · rename_i h20
      obtain ⟨xs, hx, hx', tg⟩ := tri_get rp
      obtain ⟨t, ht⟩ : ∃ t : Nat, ns.sum = t := ⟨ns.sum.toNat, by have := sum_nn hn; omega⟩
      refine z_forL l (ns.map V.int) (fun Q q => ?_) (SqL.of hl) (fun i σ' H' => ∃ (m : Nat) (z : Option V), σ' = [some (.ref p), some (.ref l), some (.int ns.sum), some (.int m), some (.int (rest ns i)), z] ∧ H' = H ∧ m * fac (rest ns i).toNat * pfac (ns.take i) = fac t) ⟨1, none, by rw [rest_zero] <;> rfl, rfl, ?_⟩ (fun i σ' H' hi hI => ?_) (fun i v σ' H' hi hI => ?_) (fun σ' H' hI => ?_)
      · simp only [tSeq, tNext, tDrop, tRet, tRetN, tIfS, tAsg, gName, tAug, ipI, tVar, tC, tOp, tUn, rI, rI0, rU, tCons, tNil, tCB, tTup, tLst, tTest, tB, tAnd, tOr, tNot, tAndV, tOrV, tNotV, tIf, tCl, tCd, tCk, gSub, rPutL, rAtQ, rIntI, rLenQ, rLenS, rListQ, rTupL, rTupQ, rIsQ_c, kd_non, kd_bl, kd_int, kd_str, kd_ref, kdO_lst, kdO_tup, kit_NoneType_bool, kit_NoneType_int, kit_NoneType_str, kit_NoneType_list, kit_NoneType_tuple, kit_bool_bool, kit_bool_int, kit_bool_str, kit_bool_list, kit_bool_tuple, kit_int_bool, kit_int_int, kit_int_str, kit_int_list, kit_int_tuple, kit_str_bool, kit_str_int, kit_str_str, kit_str_list, kit_str_tuple, kit_list_bool, kit_list_int, kit_list_str, kit_list_list, kit_list_tuple, kit_tuple_bool, kit_tuple_int, kit_tuple_str, kit_tuple_list, kit_tuple_tuple, V.ty.injEq, rSortQ, rSlQ, rMulS, tJn, rAtX, rSlS, tSl, tPart, tNoPart, cut_lo2, cut_hi2, rInQ, gLq, gTq, gC_c, gNil, tChain, List.cons_append, List.nil_append, tBL, tBL0, tBad, tCr, tCe, tXF, cxH_K, HO.xd.injEq, rApp, rPopN, rRevL, seqAt_lst, seqAt_tup, at_0, at_1, at_2, at_3, at_4, ix_0, ix_1, ix_2, ix_3, ix_4, cx_K, upd_same, List.length_cons, List.length_nil, Nat.reduceAdd,  rEq, rNe, tRevL, V.int.injEq, V.bl.injEq, V.str.injEq, V.ref.injEq, List.cons.injEq, and_true, true_and, exists_and_left, exists_and_right, exists_eq_left, exists_eq_left', exists_eq_right, exists_eq_right', exists_const, Option.some.injEq, List.getElem?_cons_zero, List.getElem?_cons_succ, List.set_cons_zero, List.set_cons_succ, decide_eq_true_eq, decide_true, decide_false,  scal_ii, scal_bb, scal_ss, cmul_r, cdiv_l, cpow_12, cpow_18, cpow_40, HO.lst.injEq, HO.tup.injEq, upd_upd, Int.reduceToNat,  decide_not, Bool.not_eq_true', decide_eq_false_iff_not, if_true, if_false, Bool.false_eq_true, Bool.true_eq_false, reduceCtorEq, Int.reduceNeg, Nat.reduceLT, Int.reduceLT, Int.reducePow, gt_iff_lt]
        exact q
      · rw [rest_zero, ht, List.take_zero, Int.toNat_natCast, show pfac [] = 1 from rfl, Nat.one_mul, Nat.mul_one]
      · obtain ⟨m, z, rfl, rfl, hm⟩ := hI
        exact SqL.of hl
      · obtain ⟨m, z, rfl, rfl, hm⟩ := hI
        rw [List.getElem?_map] at hi
        obtain ⟨n, hn', rfl⟩ := Option.map_eq_some_iff.mp hi
        have h1 := rest_step hn'
        have h2 := rest_nn hn (i + 1)
        have h3 := rest_le hn i
        have h4 := hn n (List.mem_of_getElem? hn')
        obtain ⟨a, g1, g2⟩ := tg (rest ns i).toNat (rest ns i) (by omega) (by omega)
        have g3 := row_get (n := (rest ns i).toNat) (k := n.toNat) (x := n) (by omega) (by omega)
        have g4 := ch_small (rest ns i).toNat n.toNat (by omega) (by omega)
        simp only [tSeq, tNext, tDrop, tRet, tRetN, tIfS, tAsg, gName, tAug, ipI, tVar, tC, tOp, tUn, rI, rI0, rU, tCons, tNil, tCB, tTup, tLst, tTest, tB, tAnd, tOr, tNot, tAndV, tOrV, tNotV, tIf, tCl, tCd, tCk, gSub, rPutL, rAtQ, rIntI, rLenQ, rLenS, rListQ, rTupL, rTupQ, rIsQ_c, kd_non, kd_bl, kd_int, kd_str, kd_ref, kdO_lst, kdO_tup, kit_NoneType_bool, kit_NoneType_int, kit_NoneType_str, kit_NoneType_list, kit_NoneType_tuple, kit_bool_bool, kit_bool_int, kit_bool_str, kit_bool_list, kit_bool_tuple, kit_int_bool, kit_int_int, kit_int_str, kit_int_list, kit_int_tuple, kit_str_bool, kit_str_int, kit_str_str, kit_str_list, kit_str_tuple, kit_list_bool, kit_list_int, kit_list_str, kit_list_list, kit_list_tuple, kit_tuple_bool, kit_tuple_int, kit_tuple_str, kit_tuple_list, kit_tuple_tuple, V.ty.injEq, rSortQ, rSlQ, rMulS, tJn, rAtX, rSlS, tSl, tPart, tNoPart, cut_lo2, cut_hi2, rInQ, gLq, gTq, gC_c, gNil, tChain, List.cons_append, List.nil_append, tBL, tBL0, tBad, tCr, tCe, tXF, cxH_K, HO.xd.injEq, rApp, rPopN, rRevL, seqAt_lst, seqAt_tup, at_0, at_1, at_2, at_3, at_4, ix_0, ix_1, ix_2, ix_3, ix_4, cx_K, upd_same, List.length_cons, List.length_nil, Nat.reduceAdd,  rEq, rNe, tRevL, V.int.injEq, V.bl.injEq, V.str.injEq, V.ref.injEq, List.cons.injEq, and_true, true_and, exists_and_left, exists_and_right, exists_eq_left, exists_eq_left', exists_eq_right, exists_eq_right', exists_const, Option.some.injEq, List.getElem?_cons_zero, List.getElem?_cons_succ, List.set_cons_zero, List.set_cons_succ, decide_eq_true_eq, decide_true, decide_false,  scal_ii, scal_bb, scal_ss, cmul_r, cdiv_l, cpow_12, cpow_18, cpow_40, HO.lst.injEq, HO.tup.injEq, upd_upd, Int.reduceToNat,  decide_not, Bool.not_eq_true', decide_eq_false_iff_not, if_true, if_false, Bool.false_eq_true, Bool.true_eq_false, reduceCtorEq, Int.reduceNeg, Nat.reduceLT, Int.reduceLT, Int.reducePow, gt_iff_lt, hx', g1, g2, g3]
        refine ⟨.inr ⟨by omega, by omega⟩, m * ch (rest ns i).toNat n.toNat, ?_, mix_step hn ht (by omega) hn' hm⟩
        exact ⟨(Int.natCast_mul _ _).symm, by omega, _, rfl⟩
      · obtain ⟨m, z, rfl, rfl, hm⟩ := hI
        rw [List.length_map, rest_all, List.take_length, show fac (0 : Int).toNat = 1 from rfl] at hm
        have hm' := mix_end (pfac_pos ns) hm
        simp only [tSeq, tNext, tDrop, tRet, tRetN, tIfS, tAsg, gName, tAug, ipI, tVar, tC, tOp, tUn, rI, rI0, rU, tCons, tNil, tCB, tTup, tLst, tTest, tB, tAnd, tOr, tNot, tAndV, tOrV, tNotV, tIf, tCl, tCd, tCk, gSub, rPutL, rAtQ, rIntI, rLenQ, rLenS, rListQ, rTupL, rTupQ, rIsQ_c, kd_non, kd_bl, kd_int, kd_str, kd_ref, kdO_lst, kdO_tup, kit_NoneType_bool, kit_NoneType_int, kit_NoneType_str, kit_NoneType_list, kit_NoneType_tuple, kit_bool_bool, kit_bool_int, kit_bool_str, kit_bool_list, kit_bool_tuple, kit_int_bool, kit_int_int, kit_int_str, kit_int_list, kit_int_tuple, kit_str_bool, kit_str_int, kit_str_str, kit_str_list, kit_str_tuple, kit_list_bool, kit_list_int, kit_list_str, kit_list_list, kit_list_tuple, kit_tuple_bool, kit_tuple_int, kit_tuple_str, kit_tuple_list, kit_tuple_tuple, V.ty.injEq, rSortQ, rSlQ, rMulS, tJn, rAtX, rSlS, tSl, tPart, tNoPart, cut_lo2, cut_hi2, rInQ, gLq, gTq, gC_c, gNil, tChain, List.cons_append, List.nil_append, tBL, tBL0, tBad, tCr, tCe, tXF, cxH_K, HO.xd.injEq, rApp, rPopN, rRevL, seqAt_lst, seqAt_tup, at_0, at_1, at_2, at_3, at_4, ix_0, ix_1, ix_2, ix_3, ix_4, cx_K, upd_same, List.length_cons, List.length_nil, Nat.reduceAdd,  rEq, rNe, tRevL, V.int.injEq, V.bl.injEq, V.str.injEq, V.ref.injEq, List.cons.injEq, and_true, true_and, exists_and_left, exists_and_right, exists_eq_left, exists_eq_left', exists_eq_right, exists_eq_right', exists_const, Option.some.injEq, List.getElem?_cons_zero, List.getElem?_cons_succ, List.set_cons_zero, List.set_cons_succ, decide_eq_true_eq, decide_true, decide_false,  scal_ii, scal_bb, scal_ss, cmul_r, cdiv_l, cpow_12, cpow_18, cpow_40, HO.lst.injEq, HO.tup.injEq, upd_upd, Int.reduceToNat,  decide_not, Bool.not_eq_true', decide_eq_false_iff_not, if_true, if_false, Bool.false_eq_true, Bool.true_eq_false, reduceCtorEq, Int.reduceNeg, Nat.reduceLT, Int.reduceLT, Int.reducePow, gt_iff_lt]
        refine ⟨sz_of (by decide), fun p1 e1 => q _ _ (same_new e1) ?_⟩
        unfold dueR
        rw [if_neg h20]
        refine rp_told ?_
        unfold mx
        rw [upd_same, ht, Int.toNat_natCast, ← hm']
abbrev s_law_histories_due : Stmt := topS 29
abbrev N_law_histories_due : List Str := ["triangle", "number", "made", "many", "twice", "k"]
theorem sc_law_histories_due : FnScope N_law_histories_due ["triangle", "number"] (defScope s_law_histories_due) := ⟨rfl, rfl, rfl, by decide +kernel, rfl, by decide +kernel, by decide +kernel⟩
theorem b_law_histories_due : BindO "_law_histories_due" s_law_histories_due ["triangle", "number"] := fun _ _ _ _ _ _ us hl => match us, hl with | [_, _], _ => rfl

/-- 0, 1, 1, 3, 16, .. -/
def mades (n : Nat) : List Int := (List.range n).map fun j => if j = 0 then 0 else (ph j : Int)
theorem mades_step {n : Nat} (h : n ≠ 0) : mades (n + 1) = mades n ++ [(ph n : Int)] := by
  unfold mades
  rw [List.range_succ, List.map_append, List.map_cons, List.map_nil, if_neg h]
theorem mades_at {n k : Nat} {x : Int} (e : x = (k : Int)) (h0 : k ≠ 0) (h : k < n) : atI ((mades n).map V.int) x = some (.int (ph k : Nat)) := by
  rw [e]
  refine atI_nat ?_
  unfold mades
  rw [List.getElem?_map, List.getElem?_map, List.getElem?_range h, Option.map_some, Option.map_some, if_neg h0]
theorem mades_len (n : Nat) : ((mades n).map V.int).length = n := by
  unfold mades
  rw [List.length_map, List.length_map, List.length_range]
def sp_histories_due : Sp := fun vs H Q _ => ∃ (N : Addr → Prop) (p : Addr) (n : Int), vs = [.ref p, .int n] ∧ Rp N H 3 (.ref p) (gd (tri 21)) ∧ ∀ (v : V) (H' : Hp), Same H H' → Rp All H' 5 v (dueS n) → Q v H'
theorem ok_histories_due (D : Dn K mg "_law_histories_due" s_law_histories_due) (B : Blt mg) : Cl P w K mg base 1 "_law_histories_due" sp_histories_due := by
  refine cl_of D sc_law_histories_due b_law_histories_due (fun vs H Q E h => ?_) (fun f cdv A outer s H vs Q E hr h => ?_)
  · obtain ⟨N, p, n, rfl, _⟩ := h
    rfl
  · obtain ⟨N, p, n, rfl, rp, q⟩ := h
    refine ⟨_, (pss_cons (ps_if (PW.pt (pw_or (pt_cmpR op_lt (pv 1) pe_int (nomark _)) (pw_or1 (pt_cmpR op_gt (pv 1) pe_int (nomark _))))) (pss_one (ps_ret (pe_tup (pa_cons pe_str (pa_cons (pe_tup (pa_cons pe_str (pa_cons (pv 1) (pa_cons pe_int pa_nil)))) pa_nil))))) pss_nil)
      (pss_cons (ps_if (pt_cmpR op_eq (pv 1) pe_int (nomark _)) (pss_one (ps_ret (pe_tup (pa_cons pe_str (pa_cons (pe_tup (pa_cons pe_str (pa_cons pe_int pa_nil))) pa_nil))))) pss_nil)
      (pss_cons (ps_set (i := 2) sc_law_histories_due.nd rfl (.inl rfl) (pe_lst (pa_cons pe_int (pa_cons pe_int pa_nil))))
      (pss_cons (ps_for PassesOwn.never rfl (pi_range2 (by rfl) B.range (pa_cons pe_int (pa_cons (pe_op op_add (pv 1) pe_int) pa_nil))) (pg_name (i := 3) sc_law_histories_due.nd rfl (.inl rfl)) (pss_cons (ps_set (i := 4) sc_law_histories_due.nd rfl (.inl rfl) pe_int)
      (pss_cons (ps_for PassesOwn.never rfl (pi_range2 (by rfl) B.range (pa_cons pe_int (pa_cons (pv 3) pa_nil))) (pg_name (i := 5) sc_law_histories_due.nd rfl (.inl rfl)) (pss_one (ps_set (i := 4) sc_law_histories_due.nd rfl (.inl rfl) (pe_op op_add (pv 4) (pe_op op_mul (pe_op op_mul (pe_op op_mul (pv 3) (pe_ix at_seq (pe_ix at_seq (pv 0) (pe_op op_sub (pv 3) pe_int) (fun _ _ => rfl)) (pe_op op_sub (pv 5) pe_int) (fun _ _ => rfl))) (pe_ix at_seq (pv 2) (pv 5) (fun _ _ => rfl))) (pe_ix at_seq (pv 2) (pe_op op_sub (pv 3) (pv 5)) (fun _ _ => rfl)))))))
      (pss_one (ps_expr (pe_ml PySem.F.slot_list_append PySem.F.type_list_append mt_app (pv 2) (pa_cons (pe_op op_fdivW (pv 4) pe_int) pa_nil)))))))
      (pss_one (ps_ret (pe_tup (pa_cons pe_str (pa_cons (pe_ix at_seq (pv 2) (pv 1) (fun _ _ => rfl)) pa_nil))))))))), ?_⟩
    rw [show L2.start N_law_histories_due [.ref p, .int n] = [some (.ref p), some (.int n), none, none, none, none] from rfl]
    simp only [tSeq, tNext, tDrop, tRet, tRetN, tIfS, tAsg, gName, tAug, ipI, tVar, tC, tOp, tUn, rI, rI0, rU, tCons, tNil, tCB, tTup, tLst, tTest, tB, tAnd, tOr, tNot, tAndV, tOrV, tNotV, tIf, tCl, tCd, tCk, gSub, rPutL, rAtQ, rIntI, rLenQ, rLenS, rListQ, rTupL, rTupQ, rIsQ_c, kd_non, kd_bl, kd_int, kd_str, kd_ref, kdO_lst, kdO_tup, kit_NoneType_bool, kit_NoneType_int, kit_NoneType_str, kit_NoneType_list, kit_NoneType_tuple, kit_bool_bool, kit_bool_int, kit_bool_str, kit_bool_list, kit_bool_tuple, kit_int_bool, kit_int_int, kit_int_str, kit_int_list, kit_int_tuple, kit_str_bool, kit_str_int, kit_str_str, kit_str_list, kit_str_tuple, kit_list_bool, kit_list_int, kit_list_str, kit_list_list, kit_list_tuple, kit_tuple_bool, kit_tuple_int, kit_tuple_str, kit_tuple_list, kit_tuple_tuple, V.ty.injEq, rSortQ, rSlQ, rMulS, tJn, rAtX, rSlS, tSl, tPart, tNoPart, cut_lo2, cut_hi2, rInQ, gLq, gTq, gC_c, gNil, tChain, List.cons_append, List.nil_append, tBL, tBL0, tBad, tCr, tCe, tXF, cxH_K, HO.xd.injEq, rApp, rPopN, rRevL, seqAt_lst, seqAt_tup, at_0, at_1, at_2, at_3, at_4, ix_0, ix_1, ix_2, ix_3, ix_4, cx_K, upd_same, List.length_cons, List.length_nil, Nat.reduceAdd,  rEq, rNe, tRevL, V.int.injEq, V.bl.injEq, V.str.injEq, V.ref.injEq, List.cons.injEq, and_true, true_and, exists_and_left, exists_and_right, exists_eq_left, exists_eq_left', exists_eq_right, exists_eq_right', exists_const, Option.some.injEq, List.getElem?_cons_zero, List.getElem?_cons_succ, List.set_cons_zero, List.set_cons_succ, decide_eq_true_eq, decide_true, decide_false,  scal_ii, scal_bb, scal_ss, cmul_r, cdiv_l, cpow_12, cpow_18, cpow_40, HO.lst.injEq, HO.tup.injEq, upd_upd, Int.reduceToNat,  decide_not, Bool.not_eq_true', decide_eq_false_iff_not, if_true, if_false, Bool.false_eq_true, Bool.true_eq_false, reduceCtorEq, Int.reduceNeg, Nat.reduceLT, Int.reduceLT, Int.reducePow, gt_iff_lt]
    have outR : (n < 0 ∨ 10 < n) → ∀ p1, H p1 = none → ∀ p2, upd H p1 (.tup [.str (Str.ofString "OutOfRange"), .int n, .int 11]) p2 = none →
        Q (.ref p2) (upd (upd H p1 (.tup [.str (Str.ofString "OutOfRange"), .int n, .int 11])) p2 (.tup [.str (Str.ofString "refused"), .ref p1])) := fun h p1 e1 p2 e2 => by
      refine q _ _ (fun b o e => same_new e2 b o (same_new e1 b o e)) ?_
      unfold dueS
      rw [if_pos h]
      exact rp_ref upd_same ((upd_ne (ne_of_none upd_same e2)).trans upd_same) (by show 2 ≤ 10; decide) (.cons rfl (.cons rfl .nil))
    split
    · rename_i h
      exact ⟨sz_of (by decide), fun p1 e1 => ⟨sz_of (by decide), fun p2 e2 => outR (.inl h) p1 e1 p2 e2⟩⟩
    split
    · rename_i h
      exact ⟨sz_of (by decide), fun p1 e1 => ⟨sz_of (by decide), fun p2 e2 => outR (.inr h) p1 e1 p2 e2⟩⟩
    split
    · rename_i h
      refine ⟨sz_of (by decide), fun p1 e1 => ⟨sz_of (by decide), fun p2 e2 => q _ _ (fun b o e => same_new e2 b o (same_new e1 b o e)) ?_⟩⟩
      unfold dueS
      rw [if_neg (by omega), if_pos h]
      exact rp_ref upd_same ((upd_ne (ne_of_none upd_same e2)).trans upd_same) (by show 1 ≤ 10; decide) (.cons rfl .nil)
    rename_i h1 h2 h3
    refine ⟨sz_of (by decide), fun md hmd => ?_⟩
    obtain ⟨xs, hx, hx', tg⟩ := tri_get rp
    have pm : p ≠ md := ne_of_none hx hmd
    obtain ⟨Pv, hP⟩ : ∃ Pv : Nat → L2.St → Hp → Prop, Pv = fun i σ' H' => ∃ (y z t : Option V), σ' = [some (.ref p), some (.int n), some (.ref md), y, z, t] ∧ Same H H' ∧ H' md = some (.lst ((mades (i + 2)).map V.int)) := ⟨_, rfl⟩
    refine z_forR2 2 (n + 1) (fun Q q => ?_) (by omega) (by omega) Pv ?h0 (fun i σ' H' hi hI => ?hs) (fun σ' H' hI => ?hd)
    · simp only [tSeq, tNext, tDrop, tRet, tRetN, tIfS, tAsg, gName, tAug, ipI, tVar, tC, tOp, tUn, rI, rI0, rU, tCons, tNil, tCB, tTup, tLst, tTest, tB, tAnd, tOr, tNot, tAndV, tOrV, tNotV, tIf, tCl, tCd, tCk, gSub, rPutL, rAtQ, rIntI, rLenQ, rLenS, rListQ, rTupL, rTupQ, rIsQ_c, kd_non, kd_bl, kd_int, kd_str, kd_ref, kdO_lst, kdO_tup, kit_NoneType_bool, kit_NoneType_int, kit_NoneType_str, kit_NoneType_list, kit_NoneType_tuple, kit_bool_bool, kit_bool_int, kit_bool_str, kit_bool_list, kit_bool_tuple, kit_int_bool, kit_int_int, kit_int_str, kit_int_list, kit_int_tuple, kit_str_bool, kit_str_int, kit_str_str, kit_str_list, kit_str_tuple, kit_list_bool, kit_list_int, kit_list_str, kit_list_list, kit_list_tuple, kit_tuple_bool, kit_tuple_int, kit_tuple_str, kit_tuple_list, kit_tuple_tuple, V.ty.injEq, rSortQ, rSlQ, rMulS, tJn, rAtX, rSlS, tSl, tPart, tNoPart, cut_lo2, cut_hi2, rInQ, gLq, gTq, gC_c, gNil, tChain, List.cons_append, List.nil_append, tBL, tBL0, tBad, tCr, tCe, tXF, cxH_K, HO.xd.injEq, rApp, rPopN, rRevL, seqAt_lst, seqAt_tup, at_0, at_1, at_2, at_3, at_4, ix_0, ix_1, ix_2, ix_3, ix_4, cx_K, upd_same, List.length_cons, List.length_nil, Nat.reduceAdd,  rEq, rNe, tRevL, V.int.injEq, V.bl.injEq, V.str.injEq, V.ref.injEq, List.cons.injEq, and_true, true_and, exists_and_left, exists_and_right, exists_eq_left, exists_eq_left', exists_eq_right, exists_eq_right', exists_const, Option.some.injEq, List.getElem?_cons_zero, List.getElem?_cons_succ, List.set_cons_zero, List.set_cons_succ, decide_eq_true_eq, decide_true, decide_false,  scal_ii, scal_bb, scal_ss, cmul_r, cdiv_l, cpow_12, cpow_18, cpow_40, HO.lst.injEq, HO.tup.injEq, upd_upd, Int.reduceToNat,  decide_not, Bool.not_eq_true', decide_eq_false_iff_not, if_true, if_false, Bool.false_eq_true, Bool.true_eq_false, reduceCtorEq, Int.reduceNeg, Nat.reduceLT, Int.reduceLT, Int.reducePow, gt_iff_lt]
      exact q
    case h0 =>
      rw [hP]
      exact ⟨none, none, none, rfl, same_new hmd, upd_same⟩
    case hs =>
      rw [hP] at hI
      obtain ⟨y, z, t, rfl, sm, hm⟩ := hI
      have hx1 := same_seq sm hx'
      have hm1 : seqAt (H' md) = some ((mades (i + 2)).map V.int) := by rw [hm] <;> rfl
      simp only [tSeq, tNext, tDrop, tRet, tRetN, tIfS, tAsg, gName, tAug, ipI, tVar, tC, tOp, tUn, rI, rI0, rU, tCons, tNil, tCB, tTup, tLst, tTest, tB, tAnd, tOr, tNot, tAndV, tOrV, tNotV, tIf, tCl, tCd, tCk, gSub, rPutL, rAtQ, rIntI, rLenQ, rLenS, rListQ, rTupL, rTupQ, rIsQ_c, kd_non, kd_bl, kd_int, kd_str, kd_ref, kdO_lst, kdO_tup, kit_NoneType_bool, kit_NoneType_int, kit_NoneType_str, kit_NoneType_list, kit_NoneType_tuple, kit_bool_bool, kit_bool_int, kit_bool_str, kit_bool_list, kit_bool_tuple, kit_int_bool, kit_int_int, kit_int_str, kit_int_list, kit_int_tuple, kit_str_bool, kit_str_int, kit_str_str, kit_str_list, kit_str_tuple, kit_list_bool, kit_list_int, kit_list_str, kit_list_list, kit_list_tuple, kit_tuple_bool, kit_tuple_int, kit_tuple_str, kit_tuple_list, kit_tuple_tuple, V.ty.injEq, rSortQ, rSlQ, rMulS, tJn, rAtX, rSlS, tSl, tPart, tNoPart, cut_lo2, cut_hi2, rInQ, gLq, gTq, gC_c, gNil, tChain, List.cons_append, List.nil_append, tBL, tBL0, tBad, tCr, tCe, tXF, cxH_K, HO.xd.injEq, rApp, rPopN, rRevL, seqAt_lst, seqAt_tup, at_0, at_1, at_2, at_3, at_4, ix_0, ix_1, ix_2, ix_3, ix_4, cx_K, upd_same, List.length_cons, List.length_nil, Nat.reduceAdd,  rEq, rNe, tRevL, V.int.injEq, V.bl.injEq, V.str.injEq, V.ref.injEq, List.cons.injEq, and_true, true_and, exists_and_left, exists_and_right, exists_eq_left, exists_eq_left', exists_eq_right, exists_eq_right', exists_const, Option.some.injEq, List.getElem?_cons_zero, List.getElem?_cons_succ, List.set_cons_zero, List.set_cons_succ, decide_eq_true_eq, decide_true, decide_false,  scal_ii, scal_bb, scal_ss, cmul_r, cdiv_l, cpow_12, cpow_18, cpow_40, HO.lst.injEq, HO.tup.injEq, upd_upd, Int.reduceToNat,  decide_not, Bool.not_eq_true', decide_eq_false_iff_not, if_true, if_false, Bool.false_eq_true, Bool.true_eq_false, reduceCtorEq, Int.reduceNeg, Nat.reduceLT, Int.reduceLT, Int.reducePow, gt_iff_lt]
      obtain ⟨Pw, hW⟩ : ∃ Pw : Nat → L2.St → Hp → Prop, Pw = fun j σ' Hx => ∃ (t : Option V), σ' = [some (.ref p), some (.int n), some (.ref md), some (.int (2 + (i : Int))), some (.int (tw (i + 2) j : Nat)), t] ∧ Hx = H' := ⟨_, rfl⟩
      refine z_forR2 1 (2 + (i : Int)) (fun Q q => ?_) (by omega) (by omega) Pw ?k0 (fun j σ' Hx hj hI => ?ks) (fun σ' Hx hI => ?kd)
      · simp only [tSeq, tNext, tDrop, tRet, tRetN, tIfS, tAsg, gName, tAug, ipI, tVar, tC, tOp, tUn, rI, rI0, rU, tCons, tNil, tCB, tTup, tLst, tTest, tB, tAnd, tOr, tNot, tAndV, tOrV, tNotV, tIf, tCl, tCd, tCk, gSub, rPutL, rAtQ, rIntI, rLenQ, rLenS, rListQ, rTupL, rTupQ, rIsQ_c, kd_non, kd_bl, kd_int, kd_str, kd_ref, kdO_lst, kdO_tup, kit_NoneType_bool, kit_NoneType_int, kit_NoneType_str, kit_NoneType_list, kit_NoneType_tuple, kit_bool_bool, kit_bool_int, kit_bool_str, kit_bool_list, kit_bool_tuple, kit_int_bool, kit_int_int, kit_int_str, kit_int_list, kit_int_tuple, kit_str_bool, kit_str_int, kit_str_str, kit_str_list, kit_str_tuple, kit_list_bool, kit_list_int, kit_list_str, kit_list_list, kit_list_tuple, kit_tuple_bool, kit_tuple_int, kit_tuple_str, kit_tuple_list, kit_tuple_tuple, V.ty.injEq, rSortQ, rSlQ, rMulS, tJn, rAtX, rSlS, tSl, tPart, tNoPart, cut_lo2, cut_hi2, rInQ, gLq, gTq, gC_c, gNil, tChain, List.cons_append, List.nil_append, tBL, tBL0, tBad, tCr, tCe, tXF, cxH_K, HO.xd.injEq, rApp, rPopN, rRevL, seqAt_lst, seqAt_tup, at_0, at_1, at_2, at_3, at_4, ix_0, ix_1, ix_2, ix_3, ix_4, cx_K, upd_same, List.length_cons, List.length_nil, Nat.reduceAdd,  rEq, rNe, tRevL, V.int.injEq, V.bl.injEq, V.str.injEq, V.ref.injEq, List.cons.injEq, and_true, true_and, exists_and_left, exists_and_right, exists_eq_left, exists_eq_left', exists_eq_right, exists_eq_right', exists_const, Option.some.injEq, List.getElem?_cons_zero, List.getElem?_cons_succ, List.set_cons_zero, List.set_cons_succ, decide_eq_true_eq, decide_true, decide_false,  scal_ii, scal_bb, scal_ss, cmul_r, cdiv_l, cpow_12, cpow_18, cpow_40, HO.lst.injEq, HO.tup.injEq, upd_upd, Int.reduceToNat,  decide_not, Bool.not_eq_true', decide_eq_false_iff_not, if_true, if_false, Bool.false_eq_true, Bool.true_eq_false, reduceCtorEq, Int.reduceNeg, Nat.reduceLT, Int.reduceLT, Int.reducePow, gt_iff_lt]
        exact q
      case k0 =>
        rw [hW]
        exact ⟨t, rfl, rfl⟩
      case ks =>
        rw [hW] at hI
        obtain ⟨t, rfl, rfl⟩ := hI
        obtain ⟨a, g1, g2⟩ := tg i (2 + (i : Int) - 2) (by omega) (by omega)
        have g2' : seqAt (Hx a) = some ((prow i).map V.int) := same_seq sm g2
        have g3 := row_get (n := i) (k := j) (x := 1 + (j : Int) - 1) (by omega) (by omega)
        have g4 := mades_at (n := i + 2) (k := j + 1) (x := 1 + (j : Int)) (by omega) (by omega) (by omega)
        have g5 := mades_at (n := i + 2) (k := i + 2 - (j + 1)) (x := 2 + (i : Int) - (1 + (j : Int))) (by omega) (by omega) (by omega)
        have b1 := ph_small (j + 1) (by omega)
        have b2 := ph_small (i + 2 - (j + 1)) (by omega)
        simp only [tSeq, tNext, tDrop, tRet, tRetN, tIfS, tAsg, gName, tAug, ipI, tVar, tC, tOp, tUn, rI, rI0, rU, tCons, tNil, tCB, tTup, tLst, tTest, tB, tAnd, tOr, tNot, tAndV, tOrV, tNotV, tIf, tCl, tCd, tCk, gSub, rPutL, rAtQ, rIntI, rLenQ, rLenS, rListQ, rTupL, rTupQ, rIsQ_c, kd_non, kd_bl, kd_int, kd_str, kd_ref, kdO_lst, kdO_tup, kit_NoneType_bool, kit_NoneType_int, kit_NoneType_str, kit_NoneType_list, kit_NoneType_tuple, kit_bool_bool, kit_bool_int, kit_bool_str, kit_bool_list, kit_bool_tuple, kit_int_bool, kit_int_int, kit_int_str, kit_int_list, kit_int_tuple, kit_str_bool, kit_str_int, kit_str_str, kit_str_list, kit_str_tuple, kit_list_bool, kit_list_int, kit_list_str, kit_list_list, kit_list_tuple, kit_tuple_bool, kit_tuple_int, kit_tuple_str, kit_tuple_list, kit_tuple_tuple, V.ty.injEq, rSortQ, rSlQ, rMulS, tJn, rAtX, rSlS, tSl, tPart, tNoPart, cut_lo2, cut_hi2, rInQ, gLq, gTq, gC_c, gNil, tChain, List.cons_append, List.nil_append, tBL, tBL0, tBad, tCr, tCe, tXF, cxH_K, HO.xd.injEq, rApp, rPopN, rRevL, seqAt_lst, seqAt_tup, at_0, at_1, at_2, at_3, at_4, ix_0, ix_1, ix_2, ix_3, ix_4, cx_K, upd_same, List.length_cons, List.length_nil, Nat.reduceAdd,  rEq, rNe, tRevL, V.int.injEq, V.bl.injEq, V.str.injEq, V.ref.injEq, List.cons.injEq, and_true, true_and, exists_and_left, exists_and_right, exists_eq_left, exists_eq_left', exists_eq_right, exists_eq_right', exists_const, Option.some.injEq, List.getElem?_cons_zero, List.getElem?_cons_succ, List.set_cons_zero, List.set_cons_succ, decide_eq_true_eq, decide_true, decide_false,  scal_ii, scal_bb, scal_ss, cmul_r, cdiv_l, cpow_12, cpow_18, cpow_40, HO.lst.injEq, HO.tup.injEq, upd_upd, Int.reduceToNat,  decide_not, Bool.not_eq_true', decide_eq_false_iff_not, if_true, if_false, Bool.false_eq_true, Bool.true_eq_false, reduceCtorEq, Int.reduceNeg, Nat.reduceLT, Int.reduceLT, Int.reducePow, gt_iff_lt, hx1, hm1, g1, g2', g3, g4, g5]
        refine ⟨.inl ⟨by omega, by omega⟩, .inr ⟨by omega, by omega⟩, .inr ⟨by omega, by omega⟩, ?_⟩
        have e : ((tw (i + 2) j : Nat) : Int) + (2 + (i : Int)) * (ch i j : Nat) * (ph (j + 1) : Nat) * (ph (i + 2 - (j + 1)) : Nat) = (tw (i + 2) (j + 1) : Nat) := by
          rw [tw_step, show i + 2 - 2 = i by omega, Int.natCast_add, Int.natCast_mul, Int.natCast_mul, Int.natCast_mul, show ((i + 2 : Nat) : Int) = 2 + (i : Int) by omega]
        rw [e, hW]
        exact ⟨_, rfl, rfl⟩
      case kd =>
        rw [hW] at hI
        obtain ⟨t, rfl, rfl⟩ := hI
        rw [show (2 + (i : Int) - 1).toNat = i + 2 - 1 by omega, tw_end _ (by omega) (by omega)]
        simp only [tSeq, tNext, tDrop, tRet, tRetN, tIfS, tAsg, gName, tAug, ipI, tVar, tC, tOp, tUn, rI, rI0, rU, tCons, tNil, tCB, tTup, tLst, tTest, tB, tAnd, tOr, tNot, tAndV, tOrV, tNotV, tIf, tCl, tCd, tCk, gSub, rPutL, rAtQ, rIntI, rLenQ, rLenS, rListQ, rTupL, rTupQ, rIsQ_c, kd_non, kd_bl, kd_int, kd_str, kd_ref, kdO_lst, kdO_tup, kit_NoneType_bool, kit_NoneType_int, kit_NoneType_str, kit_NoneType_list, kit_NoneType_tuple, kit_bool_bool, kit_bool_int, kit_bool_str, kit_bool_list, kit_bool_tuple, kit_int_bool, kit_int_int, kit_int_str, kit_int_list, kit_int_tuple, kit_str_bool, kit_str_int, kit_str_str, kit_str_list, kit_str_tuple, kit_list_bool, kit_list_int, kit_list_str, kit_list_list, kit_list_tuple, kit_tuple_bool, kit_tuple_int, kit_tuple_str, kit_tuple_list, kit_tuple_tuple, V.ty.injEq, rSortQ, rSlQ, rMulS, tJn, rAtX, rSlS, tSl, tPart, tNoPart, cut_lo2, cut_hi2, rInQ, gLq, gTq, gC_c, gNil, tChain, List.cons_append, List.nil_append, tBL, tBL0, tBad, tCr, tCe, tXF, cxH_K, HO.xd.injEq, rApp, rPopN, rRevL, seqAt_lst, seqAt_tup, at_0, at_1, at_2, at_3, at_4, ix_0, ix_1, ix_2, ix_3, ix_4, cx_K, upd_same, List.length_cons, List.length_nil, Nat.reduceAdd,  rEq, rNe, tRevL, V.int.injEq, V.bl.injEq, V.str.injEq, V.ref.injEq, List.cons.injEq, and_true, true_and, exists_and_left, exists_and_right, exists_eq_left, exists_eq_left', exists_eq_right, exists_eq_right', exists_const, Option.some.injEq, List.getElem?_cons_zero, List.getElem?_cons_succ, List.set_cons_zero, List.set_cons_succ, decide_eq_true_eq, decide_true, decide_false,  scal_ii, scal_bb, scal_ss, cmul_r, cdiv_l, cpow_12, cpow_18, cpow_40, HO.lst.injEq, HO.tup.injEq, upd_upd, Int.reduceToNat,  decide_not, Bool.not_eq_true', decide_eq_false_iff_not, if_true, if_false, Bool.false_eq_true, Bool.true_eq_false, reduceCtorEq, Int.reduceNeg, Nat.reduceLT, Int.reduceLT, Int.reducePow, gt_iff_lt, hm]
        refine ⟨⟨_, rfl⟩, sz_lt (by rw [mades_len]; omega), ?_⟩
        rw [hP]
        refine ⟨_, _, _, rfl, fun b o e => ?_, ?_⟩
        · rw [upd_ne (ne_of_none e hmd)]
          exact sm b o e
        · have e : (((2 * ph (i + 2) : Nat) : Int)) / 2 = (ph (i + 2) : Nat) := by omega
          rw [upd_same, show i + 1 + 2 = (i + 2) + 1 by omega, mades_step (n := i + 2) (by omega), List.map_append, e] <;> rfl
    case hd =>
      rw [hP] at hI
      obtain ⟨y, z, t, rfl, sm, hm⟩ := hI
      rw [show (n + 1 - 2).toNat + 2 = n.toNat + 1 by omega] at hm
      have hm1 : seqAt (H' md) = some ((mades (n.toNat + 1)).map V.int) := by rw [hm] <;> rfl
      have g4 := mades_at (n := n.toNat + 1) (k := n.toNat) (x := n) (by omega) (by omega) (by omega)
      simp only [tSeq, tNext, tDrop, tRet, tRetN, tIfS, tAsg, gName, tAug, ipI, tVar, tC, tOp, tUn, rI, rI0, rU, tCons, tNil, tCB, tTup, tLst, tTest, tB, tAnd, tOr, tNot, tAndV, tOrV, tNotV, tIf, tCl, tCd, tCk, gSub, rPutL, rAtQ, rIntI, rLenQ, rLenS, rListQ, rTupL, rTupQ, rIsQ_c, kd_non, kd_bl, kd_int, kd_str, kd_ref, kdO_lst, kdO_tup, kit_NoneType_bool, kit_NoneType_int, kit_NoneType_str, kit_NoneType_list, kit_NoneType_tuple, kit_bool_bool, kit_bool_int, kit_bool_str, kit_bool_list, kit_bool_tuple, kit_int_bool, kit_int_int, kit_int_str, kit_int_list, kit_int_tuple, kit_str_bool, kit_str_int, kit_str_str, kit_str_list, kit_str_tuple, kit_list_bool, kit_list_int, kit_list_str, kit_list_list, kit_list_tuple, kit_tuple_bool, kit_tuple_int, kit_tuple_str, kit_tuple_list, kit_tuple_tuple, V.ty.injEq, rSortQ, rSlQ, rMulS, tJn, rAtX, rSlS, tSl, tPart, tNoPart, cut_lo2, cut_hi2, rInQ, gLq, gTq, gC_c, gNil, tChain, List.cons_append, List.nil_append, tBL, tBL0, tBad, tCr, tCe, tXF, cxH_K, HO.xd.injEq, rApp, rPopN, rRevL, seqAt_lst, seqAt_tup, at_0, at_1, at_2, at_3, at_4, ix_0, ix_1, ix_2, ix_3, ix_4, cx_K, upd_same, List.length_cons, List.length_nil, Nat.reduceAdd,  rEq, rNe, tRevL, V.int.injEq, V.bl.injEq, V.str.injEq, V.ref.injEq, List.cons.injEq, and_true, true_and, exists_and_left, exists_and_right, exists_eq_left, exists_eq_left', exists_eq_right, exists_eq_right', exists_const, Option.some.injEq, List.getElem?_cons_zero, List.getElem?_cons_succ, List.set_cons_zero, List.set_cons_succ, decide_eq_true_eq, decide_true, decide_false,  scal_ii, scal_bb, scal_ss, cmul_r, cdiv_l, cpow_12, cpow_18, cpow_40, HO.lst.injEq, HO.tup.injEq, upd_upd, Int.reduceToNat,  decide_not, Bool.not_eq_true', decide_eq_false_iff_not, if_true, if_false, Bool.false_eq_true, Bool.true_eq_false, reduceCtorEq, Int.reduceNeg, Nat.reduceLT, Int.reduceLT, Int.reducePow, gt_iff_lt, hm1, g4]
      refine ⟨sz_of (by decide), fun p1 e1 => q _ _ (fun b o e => same_new e1 b o (sm b o e)) ?_⟩
      unfold dueS
      rw [if_neg (by omega), if_neg (by omega)]
      exact rp_told upd_same
abbrev s_law_by_last_deed : Stmt := topS 30
abbrev N_law_by_last_deed : List Str := ["many", "twice", "k", "mixes"]
theorem sc_law_by_last_deed : FnScope N_law_by_last_deed ["many"] (defScope s_law_by_last_deed) := ⟨rfl, rfl, rfl, by decide +kernel, rfl, by decide +kernel, by decide +kernel⟩
theorem b_law_by_last_deed : BindO "_law_by_last_deed" s_law_by_last_deed ["many"] := fun _ _ _ _ _ _ us hl => match us, hl with | [_], _ => rfl

def sp_last : Sp := fun vs H Q _ => ∃ n : Int, vs = [.int n] ∧ 2 ≤ n ∧ n ≤ 10 ∧ ∀ H', Same H H' → Q (.bl true) H'
theorem ok_last (D : Dn K mg "_law_by_last_deed" s_law_by_last_deed) (B : Blt mg) (q_count_mixes : Cl P w K mg base 4 "count_mixes" sp_mixC) (q_pond_histories : Cl P w K mg base 4 "pond_histories" sp_phC) : Cl P w K mg base 5 "_law_by_last_deed" sp_last := by
  refine cl_of D sc_law_by_last_deed b_law_by_last_deed (fun vs H Q E h => ?_) (fun f cdv A outer s H vs Q E hr h => ?_)
  · obtain ⟨n, rfl, _⟩ := h
    rfl
  · obtain ⟨n, rfl, h2, h10, q⟩ := h
    refine ⟨_, (pss_cons (ps_set (i := 1) sc_law_by_last_deed.nd rfl (.inl rfl) pe_int)
      (pss_cons (ps_for PassesOwn.never rfl (pi_range2 (by rfl) B.range (pa_cons pe_int (pa_cons (pv 0) pa_nil))) (pg_name (i := 2) sc_law_by_last_deed.nd rfl (.inl rfl)) (pss_cons (ps_set (i := 3) sc_law_by_last_deed.nd rfl (.inl rfl) (pe_cl q_count_mixes hr (by omega) rfl (pa_cons (pe_lst (pa_cons (pe_op op_sub (pv 2) pe_int) (pa_cons (pe_op op_sub (pe_op op_sub (pv 0) (pv 2)) pe_int) pa_nil))) pa_nil)))
      (pss_one (ps_set (i := 1) sc_law_by_last_deed.nd rfl (.inl rfl) (pe_op op_add (pv 1) (pe_op op_mul (pe_op op_mul (pe_op op_mul (pv 0) (pv 3)) (pe_cl q_pond_histories hr (by omega) rfl (pa_cons (pv 2) pa_nil))) (pe_cl q_pond_histories hr (by omega) rfl (pa_cons (pe_op op_sub (pv 0) (pv 2)) pa_nil))))))))
      (pss_one (ps_ret (pe_cmpR op_eq (pv 1) (pe_op op_mul pe_int (pe_cl q_pond_histories hr (by omega) rfl (pa_cons (pv 0) pa_nil))) (nomark _)))))), ?_⟩
    rw [show L2.start N_law_by_last_deed [.int n] = [some (.int n), none, none, none] from rfl]
    simp only [tSeq, tNext, tDrop, tRet, tRetN, tIfS, tAsg, gName, tAug, ipI, tVar, tC, tOp, tUn, rI, rI0, rU, tCons, tNil, tCB, tTup, tLst, tTest, tB, tAnd, tOr, tNot, tAndV, tOrV, tNotV, tIf, tCl, tCd, tCk, gSub, rPutL, rAtQ, rIntI, rLenQ, rLenS, rListQ, rTupL, rTupQ, rIsQ_c, kd_non, kd_bl, kd_int, kd_str, kd_ref, kdO_lst, kdO_tup, kit_NoneType_bool, kit_NoneType_int, kit_NoneType_str, kit_NoneType_list, kit_NoneType_tuple, kit_bool_bool, kit_bool_int, kit_bool_str, kit_bool_list, kit_bool_tuple, kit_int_bool, kit_int_int, kit_int_str, kit_int_list, kit_int_tuple, kit_str_bool, kit_str_int, kit_str_str, kit_str_list, kit_str_tuple, kit_list_bool, kit_list_int, kit_list_str, kit_list_list, kit_list_tuple, kit_tuple_bool, kit_tuple_int, kit_tuple_str, kit_tuple_list, kit_tuple_tuple, V.ty.injEq, rSortQ, rSlQ, rMulS, tJn, rAtX, rSlS, tSl, tPart, tNoPart, cut_lo2, cut_hi2, rInQ, gLq, gTq, gC_c, gNil, tChain, List.cons_append, List.nil_append, tBL, tBL0, tBad, tCr, tCe, tXF, cxH_K, HO.xd.injEq, rApp, rPopN, rRevL, seqAt_lst, seqAt_tup, at_0, at_1, at_2, at_3, at_4, ix_0, ix_1, ix_2, ix_3, ix_4, cx_K, upd_same, List.length_cons, List.length_nil, Nat.reduceAdd,  rEq, rNe, tRevL, V.int.injEq, V.bl.injEq, V.str.injEq, V.ref.injEq, List.cons.injEq, and_true, true_and, exists_and_left, exists_and_right, exists_eq_left, exists_eq_left', exists_eq_right, exists_eq_right', exists_const, Option.some.injEq, List.getElem?_cons_zero, List.getElem?_cons_succ, List.set_cons_zero, List.set_cons_succ, decide_eq_true_eq, decide_true, decide_false,  scal_ii, scal_bb, scal_ss, cmul_r, cdiv_l, cpow_12, cpow_18, cpow_40, HO.lst.injEq, HO.tup.injEq, upd_upd, Int.reduceToNat,  decide_not, Bool.not_eq_true', decide_eq_false_iff_not, if_true, if_false, Bool.false_eq_true, Bool.true_eq_false, reduceCtorEq, Int.reduceNeg, Nat.reduceLT, Int.reduceLT, Int.reducePow, gt_iff_lt]
    obtain ⟨M, rfl⟩ : ∃ M : Nat, n = M := ⟨n.toNat, by omega⟩
    obtain ⟨Pw, hW⟩ : ∃ Pw : Nat → L2.St → Hp → Prop, Pw = fun j σ' Hx => ∃ (y z : Option V), σ' = [some (.int (M : Nat)), some (.int (tw M j : Nat)), y, z] ∧ Same H Hx := ⟨_, rfl⟩
    refine z_forR2 1 (M : Nat) (fun Q q => ?_) (by omega) (by omega) Pw ?k0 (fun j σ' Hx hj hI => ?ks) (fun σ' Hx hI => ?kd)
    · simp only [tSeq, tNext, tDrop, tRet, tRetN, tIfS, tAsg, gName, tAug, ipI, tVar, tC, tOp, tUn, rI, rI0, rU, tCons, tNil, tCB, tTup, tLst, tTest, tB, tAnd, tOr, tNot, tAndV, tOrV, tNotV, tIf, tCl, tCd, tCk, gSub, rPutL, rAtQ, rIntI, rLenQ, rLenS, rListQ, rTupL, rTupQ, rIsQ_c, kd_non, kd_bl, kd_int, kd_str, kd_ref, kdO_lst, kdO_tup, kit_NoneType_bool, kit_NoneType_int, kit_NoneType_str, kit_NoneType_list, kit_NoneType_tuple, kit_bool_bool, kit_bool_int, kit_bool_str, kit_bool_list, kit_bool_tuple, kit_int_bool, kit_int_int, kit_int_str, kit_int_list, kit_int_tuple, kit_str_bool, kit_str_int, kit_str_str, kit_str_list, kit_str_tuple, kit_list_bool, kit_list_int, kit_list_str, kit_list_list, kit_list_tuple, kit_tuple_bool, kit_tuple_int, kit_tuple_str, kit_tuple_list, kit_tuple_tuple, V.ty.injEq, rSortQ, rSlQ, rMulS, tJn, rAtX, rSlS, tSl, tPart, tNoPart, cut_lo2, cut_hi2, rInQ, gLq, gTq, gC_c, gNil, tChain, List.cons_append, List.nil_append, tBL, tBL0, tBad, tCr, tCe, tXF, cxH_K, HO.xd.injEq, rApp, rPopN, rRevL, seqAt_lst, seqAt_tup, at_0, at_1, at_2, at_3, at_4, ix_0, ix_1, ix_2, ix_3, ix_4, cx_K, upd_same, List.length_cons, List.length_nil, Nat.reduceAdd,  rEq, rNe, tRevL, V.int.injEq, V.bl.injEq, V.str.injEq, V.ref.injEq, List.cons.injEq, and_true, true_and, exists_and_left, exists_and_right, exists_eq_left, exists_eq_left', exists_eq_right, exists_eq_right', exists_const, Option.some.injEq, List.getElem?_cons_zero, List.getElem?_cons_succ, List.set_cons_zero, List.set_cons_succ, decide_eq_true_eq, decide_true, decide_false,  scal_ii, scal_bb, scal_ss, cmul_r, cdiv_l, cpow_12, cpow_18, cpow_40, HO.lst.injEq, HO.tup.injEq, upd_upd, Int.reduceToNat,  decide_not, Bool.not_eq_true', decide_eq_false_iff_not, if_true, if_false, Bool.false_eq_true, Bool.true_eq_false, reduceCtorEq, Int.reduceNeg, Nat.reduceLT, Int.reduceLT, Int.reducePow, gt_iff_lt]
      exact q
    case k0 =>
      rw [hW]
      exact ⟨none, none, rfl, fun _ _ e => e⟩
    case ks =>
      rw [hW] at hI
      obtain ⟨y, z, rfl, sm⟩ := hI
      simp only [tSeq, tNext, tDrop, tRet, tRetN, tIfS, tAsg, gName, tAug, ipI, tVar, tC, tOp, tUn, rI, rI0, rU, tCons, tNil, tCB, tTup, tLst, tTest, tB, tAnd, tOr, tNot, tAndV, tOrV, tNotV, tIf, tCl, tCd, tCk, gSub, rPutL, rAtQ, rIntI, rLenQ, rLenS, rListQ, rTupL, rTupQ, rIsQ_c, kd_non, kd_bl, kd_int, kd_str, kd_ref, kdO_lst, kdO_tup, kit_NoneType_bool, kit_NoneType_int, kit_NoneType_str, kit_NoneType_list, kit_NoneType_tuple, kit_bool_bool, kit_bool_int, kit_bool_str, kit_bool_list, kit_bool_tuple, kit_int_bool, kit_int_int, kit_int_str, kit_int_list, kit_int_tuple, kit_str_bool, kit_str_int, kit_str_str, kit_str_list, kit_str_tuple, kit_list_bool, kit_list_int, kit_list_str, kit_list_list, kit_list_tuple, kit_tuple_bool, kit_tuple_int, kit_tuple_str, kit_tuple_list, kit_tuple_tuple, V.ty.injEq, rSortQ, rSlQ, rMulS, tJn, rAtX, rSlS, tSl, tPart, tNoPart, cut_lo2, cut_hi2, rInQ, gLq, gTq, gC_c, gNil, tChain, List.cons_append, List.nil_append, tBL, tBL0, tBad, tCr, tCe, tXF, cxH_K, HO.xd.injEq, rApp, rPopN, rRevL, seqAt_lst, seqAt_tup, at_0, at_1, at_2, at_3, at_4, ix_0, ix_1, ix_2, ix_3, ix_4, cx_K, upd_same, List.length_cons, List.length_nil, Nat.reduceAdd,  rEq, rNe, tRevL, V.int.injEq, V.bl.injEq, V.str.injEq, V.ref.injEq, List.cons.injEq, and_true, true_and, exists_and_left, exists_and_right, exists_eq_left, exists_eq_left', exists_eq_right, exists_eq_right', exists_const, Option.some.injEq, List.getElem?_cons_zero, List.getElem?_cons_succ, List.set_cons_zero, List.set_cons_succ, decide_eq_true_eq, decide_true, decide_false,  scal_ii, scal_bb, scal_ss, cmul_r, cdiv_l, cpow_12, cpow_18, cpow_40, HO.lst.injEq, HO.tup.injEq, upd_upd, Int.reduceToNat,  decide_not, Bool.not_eq_true', decide_eq_false_iff_not, if_true, if_false, Bool.false_eq_true, Bool.true_eq_false, reduceCtorEq, Int.reduceNeg, Nat.reduceLT, Int.reduceLT, Int.reducePow, gt_iff_lt]
      refine ⟨sz_of (by decide), fun p hp => ?_⟩
      have e1 : 1 + (j : Int) - 1 = ((j : Nat) : Int) := by omega
      have e2 : ((M : Nat) : Int) - (1 + (j : Int)) - 1 = ((M - 2 - j : Nat) : Int) := by omega
      have e3 : ([((j : Nat) : Int), ((M - 2 - j : Nat) : Int)] : List Int).sum = ((M - 2 : Nat) : Int) := by
        rw [List.sum_cons, List.sum_cons, List.sum_nil]
        omega
      rw [e1, e2]
      refine ⟨p, [((j : Nat) : Int), ((M - 2 - j : Nat) : Int)], rfl, upd_same, fun n hn => ?_, by rw [e3]; omega, ?_⟩
      · rcases List.mem_cons.mp hn with e | hn
        · omega
        · have := List.mem_singleton.mp hn
          omega
      have em : mx [((j : Nat) : Int), ((M - 2 - j : Nat) : Int)] = ch (M - 2) j := by
        unfold mx
        rw [e3, Int.toNat_natCast]
        exact mix2 M j (by omega) (by omega)
      have c1 := ch_small (M - 2) j (by omega) (by omega)
      have b1 := ph_small (j + 1) (by omega)
      have b2 := ph_small (M - (j + 1)) (by omega)
      simp only [tSeq, tNext, tDrop, tRet, tRetN, tIfS, tAsg, gName, tAug, ipI, tVar, tC, tOp, tUn, rI, rI0, rU, tCons, tNil, tCB, tTup, tLst, tTest, tB, tAnd, tOr, tNot, tAndV, tOrV, tNotV, tIf, tCl, tCd, tCk, gSub, rPutL, rAtQ, rIntI, rLenQ, rLenS, rListQ, rTupL, rTupQ, rIsQ_c, kd_non, kd_bl, kd_int, kd_str, kd_ref, kdO_lst, kdO_tup, kit_NoneType_bool, kit_NoneType_int, kit_NoneType_str, kit_NoneType_list, kit_NoneType_tuple, kit_bool_bool, kit_bool_int, kit_bool_str, kit_bool_list, kit_bool_tuple, kit_int_bool, kit_int_int, kit_int_str, kit_int_list, kit_int_tuple, kit_str_bool, kit_str_int, kit_str_str, kit_str_list, kit_str_tuple, kit_list_bool, kit_list_int, kit_list_str, kit_list_list, kit_list_tuple, kit_tuple_bool, kit_tuple_int, kit_tuple_str, kit_tuple_list, kit_tuple_tuple, V.ty.injEq, rSortQ, rSlQ, rMulS, tJn, rAtX, rSlS, tSl, tPart, tNoPart, cut_lo2, cut_hi2, rInQ, gLq, gTq, gC_c, gNil, tChain, List.cons_append, List.nil_append, tBL, tBL0, tBad, tCr, tCe, tXF, cxH_K, HO.xd.injEq, rApp, rPopN, rRevL, seqAt_lst, seqAt_tup, at_0, at_1, at_2, at_3, at_4, ix_0, ix_1, ix_2, ix_3, ix_4, cx_K, upd_same, List.length_cons, List.length_nil, Nat.reduceAdd,  rEq, rNe, tRevL, V.int.injEq, V.bl.injEq, V.str.injEq, V.ref.injEq, List.cons.injEq, and_true, true_and, exists_and_left, exists_and_right, exists_eq_left, exists_eq_left', exists_eq_right, exists_eq_right', exists_const, Option.some.injEq, List.getElem?_cons_zero, List.getElem?_cons_succ, List.set_cons_zero, List.set_cons_succ, decide_eq_true_eq, decide_true, decide_false,  scal_ii, scal_bb, scal_ss, cmul_r, cdiv_l, cpow_12, cpow_18, cpow_40, HO.lst.injEq, HO.tup.injEq, upd_upd, Int.reduceToNat,  decide_not, Bool.not_eq_true', decide_eq_false_iff_not, if_true, if_false, Bool.false_eq_true, Bool.true_eq_false, reduceCtorEq, Int.reduceNeg, Nat.reduceLT, Int.reduceLT, Int.reducePow, gt_iff_lt, em]
      refine ⟨.inl ⟨by omega, by omega⟩, 1 + (j : Int), rfl, by omega, by omega, ?_⟩
      rw [show (1 + (j : Int)).toNat = j + 1 by omega]
      simp only [tSeq, tNext, tDrop, tRet, tRetN, tIfS, tAsg, gName, tAug, ipI, tVar, tC, tOp, tUn, rI, rI0, rU, tCons, tNil, tCB, tTup, tLst, tTest, tB, tAnd, tOr, tNot, tAndV, tOrV, tNotV, tIf, tCl, tCd, tCk, gSub, rPutL, rAtQ, rIntI, rLenQ, rLenS, rListQ, rTupL, rTupQ, rIsQ_c, kd_non, kd_bl, kd_int, kd_str, kd_ref, kdO_lst, kdO_tup, kit_NoneType_bool, kit_NoneType_int, kit_NoneType_str, kit_NoneType_list, kit_NoneType_tuple, kit_bool_bool, kit_bool_int, kit_bool_str, kit_bool_list, kit_bool_tuple, kit_int_bool, kit_int_int, kit_int_str, kit_int_list, kit_int_tuple, kit_str_bool, kit_str_int, kit_str_str, kit_str_list, kit_str_tuple, kit_list_bool, kit_list_int, kit_list_str, kit_list_list, kit_list_tuple, kit_tuple_bool, kit_tuple_int, kit_tuple_str, kit_tuple_list, kit_tuple_tuple, V.ty.injEq, rSortQ, rSlQ, rMulS, tJn, rAtX, rSlS, tSl, tPart, tNoPart, cut_lo2, cut_hi2, rInQ, gLq, gTq, gC_c, gNil, tChain, List.cons_append, List.nil_append, tBL, tBL0, tBad, tCr, tCe, tXF, cxH_K, HO.xd.injEq, rApp, rPopN, rRevL, seqAt_lst, seqAt_tup, at_0, at_1, at_2, at_3, at_4, ix_0, ix_1, ix_2, ix_3, ix_4, cx_K, upd_same, List.length_cons, List.length_nil, Nat.reduceAdd,  rEq, rNe, tRevL, V.int.injEq, V.bl.injEq, V.str.injEq, V.ref.injEq, List.cons.injEq, and_true, true_and, exists_and_left, exists_and_right, exists_eq_left, exists_eq_left', exists_eq_right, exists_eq_right', exists_const, Option.some.injEq, List.getElem?_cons_zero, List.getElem?_cons_succ, List.set_cons_zero, List.set_cons_succ, decide_eq_true_eq, decide_true, decide_false,  scal_ii, scal_bb, scal_ss, cmul_r, cdiv_l, cpow_12, cpow_18, cpow_40, HO.lst.injEq, HO.tup.injEq, upd_upd, Int.reduceToNat,  decide_not, Bool.not_eq_true', decide_eq_false_iff_not, if_true, if_false, Bool.false_eq_true, Bool.true_eq_false, reduceCtorEq, Int.reduceNeg, Nat.reduceLT, Int.reduceLT, Int.reducePow, gt_iff_lt]
      refine ⟨.inr ⟨by omega, by omega⟩, ((M : Nat) : Int) - (1 + (j : Int)), rfl, by omega, by omega, ?_⟩
      rw [show (((M : Nat) : Int) - (1 + (j : Int))).toNat = M - (j + 1) by omega]
      simp only [tSeq, tNext, tDrop, tRet, tRetN, tIfS, tAsg, gName, tAug, ipI, tVar, tC, tOp, tUn, rI, rI0, rU, tCons, tNil, tCB, tTup, tLst, tTest, tB, tAnd, tOr, tNot, tAndV, tOrV, tNotV, tIf, tCl, tCd, tCk, gSub, rPutL, rAtQ, rIntI, rLenQ, rLenS, rListQ, rTupL, rTupQ, rIsQ_c, kd_non, kd_bl, kd_int, kd_str, kd_ref, kdO_lst, kdO_tup, kit_NoneType_bool, kit_NoneType_int, kit_NoneType_str, kit_NoneType_list, kit_NoneType_tuple, kit_bool_bool, kit_bool_int, kit_bool_str, kit_bool_list, kit_bool_tuple, kit_int_bool, kit_int_int, kit_int_str, kit_int_list, kit_int_tuple, kit_str_bool, kit_str_int, kit_str_str, kit_str_list, kit_str_tuple, kit_list_bool, kit_list_int, kit_list_str, kit_list_list, kit_list_tuple, kit_tuple_bool, kit_tuple_int, kit_tuple_str, kit_tuple_list, kit_tuple_tuple, V.ty.injEq, rSortQ, rSlQ, rMulS, tJn, rAtX, rSlS, tSl, tPart, tNoPart, cut_lo2, cut_hi2, rInQ, gLq, gTq, gC_c, gNil, tChain, List.cons_append, List.nil_append, tBL, tBL0, tBad, tCr, tCe, tXF, cxH_K, HO.xd.injEq, rApp, rPopN, rRevL, seqAt_lst, seqAt_tup, at_0, at_1, at_2, at_3, at_4, ix_0, ix_1, ix_2, ix_3, ix_4, cx_K, upd_same, List.length_cons, List.length_nil, Nat.reduceAdd,  rEq, rNe, tRevL, V.int.injEq, V.bl.injEq, V.str.injEq, V.ref.injEq, List.cons.injEq, and_true, true_and, exists_and_left, exists_and_right, exists_eq_left, exists_eq_left', exists_eq_right, exists_eq_right', exists_const, Option.some.injEq, List.getElem?_cons_zero, List.getElem?_cons_succ, List.set_cons_zero, List.set_cons_succ, decide_eq_true_eq, decide_true, decide_false,  scal_ii, scal_bb, scal_ss, cmul_r, cdiv_l, cpow_12, cpow_18, cpow_40, HO.lst.injEq, HO.tup.injEq, upd_upd, Int.reduceToNat,  decide_not, Bool.not_eq_true', decide_eq_false_iff_not, if_true, if_false, Bool.false_eq_true, Bool.true_eq_false, reduceCtorEq, Int.reduceNeg, Nat.reduceLT, Int.reduceLT, Int.reducePow, gt_iff_lt]
      refine ⟨.inr ⟨by omega, by omega⟩, ?_⟩
      have e : ((tw M j : Nat) : Int) + ((M : Nat) : Int) * (ch (M - 2) j : Nat) * (ph (j + 1) : Nat) * (ph (M - (j + 1)) : Nat) = (tw M (j + 1) : Nat) := by
        rw [tw_step, Int.natCast_add, Int.natCast_mul, Int.natCast_mul, Int.natCast_mul]
      rw [e, hW]
      exact ⟨_, _, rfl, fun b o h => same_new hp b o (sm b o h)⟩
    case kd =>
      rw [hW] at hI
      obtain ⟨y, z, rfl, sm⟩ := hI
      rw [show (((M : Nat) : Int) - 1).toNat = M - 1 by omega, tw_end M (by omega) (by omega)]
      simp only [tSeq, tNext, tDrop, tRet, tRetN, tIfS, tAsg, gName, tAug, ipI, tVar, tC, tOp, tUn, rI, rI0, rU, tCons, tNil, tCB, tTup, tLst, tTest, tB, tAnd, tOr, tNot, tAndV, tOrV, tNotV, tIf, tCl, tCd, tCk, gSub, rPutL, rAtQ, rIntI, rLenQ, rLenS, rListQ, rTupL, rTupQ, rIsQ_c, kd_non, kd_bl, kd_int, kd_str, kd_ref, kdO_lst, kdO_tup, kit_NoneType_bool, kit_NoneType_int, kit_NoneType_str, kit_NoneType_list, kit_NoneType_tuple, kit_bool_bool, kit_bool_int, kit_bool_str, kit_bool_list, kit_bool_tuple, kit_int_bool, kit_int_int, kit_int_str, kit_int_list, kit_int_tuple, kit_str_bool, kit_str_int, kit_str_str, kit_str_list, kit_str_tuple, kit_list_bool, kit_list_int, kit_list_str, kit_list_list, kit_list_tuple, kit_tuple_bool, kit_tuple_int, kit_tuple_str, kit_tuple_list, kit_tuple_tuple, V.ty.injEq, rSortQ, rSlQ, rMulS, tJn, rAtX, rSlS, tSl, tPart, tNoPart, cut_lo2, cut_hi2, rInQ, gLq, gTq, gC_c, gNil, tChain, List.cons_append, List.nil_append, tBL, tBL0, tBad, tCr, tCe, tXF, cxH_K, HO.xd.injEq, rApp, rPopN, rRevL, seqAt_lst, seqAt_tup, at_0, at_1, at_2, at_3, at_4, ix_0, ix_1, ix_2, ix_3, ix_4, cx_K, upd_same, List.length_cons, List.length_nil, Nat.reduceAdd,  rEq, rNe, tRevL, V.int.injEq, V.bl.injEq, V.str.injEq, V.ref.injEq, List.cons.injEq, and_true, true_and, exists_and_left, exists_and_right, exists_eq_left, exists_eq_left', exists_eq_right, exists_eq_right', exists_const, Option.some.injEq, List.getElem?_cons_zero, List.getElem?_cons_succ, List.set_cons_zero, List.set_cons_succ, decide_eq_true_eq, decide_true, decide_false,  scal_ii, scal_bb, scal_ss, cmul_r, cdiv_l, cpow_12, cpow_18, cpow_40, HO.lst.injEq, HO.tup.injEq, upd_upd, Int.reduceToNat,  decide_not, Bool.not_eq_true', decide_eq_false_iff_not, if_true, if_false, Bool.false_eq_true, Bool.true_eq_false, reduceCtorEq, Int.reduceNeg, Nat.reduceLT, Int.reduceLT, Int.reducePow, gt_iff_lt]
      refine ⟨_, rfl, by omega, h10, ?_⟩
      rw [Int.toNat_natCast]
      simp only [tSeq, tNext, tDrop, tRet, tRetN, tIfS, tAsg, gName, tAug, ipI, tVar, tC, tOp, tUn, rI, rI0, rU, tCons, tNil, tCB, tTup, tLst, tTest, tB, tAnd, tOr, tNot, tAndV, tOrV, tNotV, tIf, tCl, tCd, tCk, gSub, rPutL, rAtQ, rIntI, rLenQ, rLenS, rListQ, rTupL, rTupQ, rIsQ_c, kd_non, kd_bl, kd_int, kd_str, kd_ref, kdO_lst, kdO_tup, kit_NoneType_bool, kit_NoneType_int, kit_NoneType_str, kit_NoneType_list, kit_NoneType_tuple, kit_bool_bool, kit_bool_int, kit_bool_str, kit_bool_list, kit_bool_tuple, kit_int_bool, kit_int_int, kit_int_str, kit_int_list, kit_int_tuple, kit_str_bool, kit_str_int, kit_str_str, kit_str_list, kit_str_tuple, kit_list_bool, kit_list_int, kit_list_str, kit_list_list, kit_list_tuple, kit_tuple_bool, kit_tuple_int, kit_tuple_str, kit_tuple_list, kit_tuple_tuple, V.ty.injEq, rSortQ, rSlQ, rMulS, tJn, rAtX, rSlS, tSl, tPart, tNoPart, cut_lo2, cut_hi2, rInQ, gLq, gTq, gC_c, gNil, tChain, List.cons_append, List.nil_append, tBL, tBL0, tBad, tCr, tCe, tXF, cxH_K, HO.xd.injEq, rApp, rPopN, rRevL, seqAt_lst, seqAt_tup, at_0, at_1, at_2, at_3, at_4, ix_0, ix_1, ix_2, ix_3, ix_4, cx_K, upd_same, List.length_cons, List.length_nil, Nat.reduceAdd,  rEq, rNe, tRevL, V.int.injEq, V.bl.injEq, V.str.injEq, V.ref.injEq, List.cons.injEq, and_true, true_and, exists_and_left, exists_and_right, exists_eq_left, exists_eq_left', exists_eq_right, exists_eq_right', exists_const, Option.some.injEq, List.getElem?_cons_zero, List.getElem?_cons_succ, List.set_cons_zero, List.set_cons_succ, decide_eq_true_eq, decide_true, decide_false,  scal_ii, scal_bb, scal_ss, cmul_r, cdiv_l, cpow_12, cpow_18, cpow_40, HO.lst.injEq, HO.tup.injEq, upd_upd, Int.reduceToNat,  decide_not, Bool.not_eq_true', decide_eq_false_iff_not, if_true, if_false, Bool.false_eq_true, Bool.true_eq_false, reduceCtorEq, Int.reduceNeg, Nat.reduceLT, Int.reduceLT, Int.reducePow, gt_iff_lt]
      refine ⟨.inl ⟨by decide, by decide⟩, ?_⟩
      rw [decide_eq_true (by omega)]
      exact q _ sm
end
end Z
set_option Elab.async false
set_option linter.all false
set_option maxRecDepth 100000
set_option maxHeartbeats 4000000
namespace Z
open PySem PySem.Spec PyProof.Rows L2 L2H
section
variable {P : Program} {w : World} {K : PySem.W.Frag} {mg : Str → Option Value} {base : Heap}
def sp_copyI : Sp := fun vs H Q _ => ∃ (q : Addr) (ns : List Int), vs = [.ref q] ∧ H q = some (.lst (ns.map V.int)) ∧ ns.length ≤ 1000 ∧ ∀ (p : Addr) (H' : Hp), Same H H' → H p = none → H' p = some (.lst (ns.map V.int)) → Q (.ref p) H'
theorem ok_copyI (D : Dn K mg "_law_copy" s_law_copy) (B : Blt mg) (c_law_copy : Cl P w K mg base 1 "_law_copy" (sp_copy 1)) : Cl P w K mg base 2 "_law_copy" sp_copyI := by
  refine cl_of D sc_law_copy b_law_copy (fun vs H Q E h => ?_) (fun f cdv A outer s H vs Q E hr h => ?_)
  · obtain ⟨q, ns, rfl, _⟩ := h
    rfl
  · obtain ⟨q0, ns, rfl, hq, hz, q⟩ := h
    refine ⟨_, (pss_cons (ps_if (pt_val (pe_callB call_isQ (by rfl) B.isinstance (by decide +kernel) (pa_cons (pv 0) (pa_cons (pe_bltn (v := .ty "list") (u := .type "list") (by rfl) B.list (by decide +kernel) rfl) pa_nil)))) (pss_one (ps_ret (pe_lc (own := [("part", 1)]) (g := gName 1) rfl sc_law_copy.nd (pi_list (pv 0)) (blkOk_by (N := N_law_copy) (sc := defScope s_law_copy) (own := [("part", 1)]) (by decide +kernel)) (fun _ _ _ _ _ => pg_name (i := 1) sc_law_copy.nd rfl (Or.inl rfl)) (fun _ _ _ _ _ => pts_nil) (fun _ _ _ _ _ => (pe_cl c_law_copy hr (by omega) rfl (pa_cons (pv 1) pa_nil)))))) pss_nil)
      (pss_cons (ps_if (pt_val (pe_callB call_isQ (by rfl) B.isinstance (by decide +kernel) (pa_cons (pv 0) (pa_cons (pe_bltn (v := .ty "tuple") (u := .type "tuple") (by rfl) B.tuple (by decide +kernel) rfl) pa_nil)))) (pss_one (ps_ret (pe_callTy call_tupL (by rfl) B.tuple (by decide +kernel) (pa_cons (pe_lc (own := [("part", 1)]) (g := gName 1) rfl sc_law_copy.nd (pi_tup (pv 0)) (blkOk_by (N := N_law_copy) (sc := defScope s_law_copy) (own := [("part", 1)]) (by decide +kernel)) (fun _ _ _ _ _ => pg_name (i := 1) sc_law_copy.nd rfl (Or.inl rfl)) (fun _ _ _ _ _ => pts_nil) (fun _ _ _ _ _ => (pe_cl c_law_copy hr (by omega) rfl (pa_cons (pv 1) pa_nil)))) pa_nil)))) pss_nil)
      (pss_one (ps_ret (pv 0))))), ?_⟩
    rw [show L2.start N_law_copy [.ref q0] = [some (.ref q0), none] from rfl]
    have hk : kd (.ref q0) H = some "list" := by rw [kd_ref, hq] <;> rfl
    simp only [tSeq, tNext, tDrop, tRet, tRetN, tIfS, tAsg, gName, tAug, ipI, tVar, tC, tOp, tUn, rI, rI0, rU, tCons, tNil, tCB, tTup, tLst, tTest, tB, tAnd, tOr, tNot, tAndV, tOrV, tNotV, tIf, tCl, tCd, tCk, gSub, rPutL, rAtQ, rIntI, rLenQ, rLenS, rListQ, rTupL, rTupQ, rIsQ_c, kd_non, kd_bl, kd_int, kd_str, kd_ref, kdO_lst, kdO_tup, kit_NoneType_bool, kit_NoneType_int, kit_NoneType_str, kit_NoneType_list, kit_NoneType_tuple, kit_bool_bool, kit_bool_int, kit_bool_str, kit_bool_list, kit_bool_tuple, kit_int_bool, kit_int_int, kit_int_str, kit_int_list, kit_int_tuple, kit_str_bool, kit_str_int, kit_str_str, kit_str_list, kit_str_tuple, kit_list_bool, kit_list_int, kit_list_str, kit_list_list, kit_list_tuple, kit_tuple_bool, kit_tuple_int, kit_tuple_str, kit_tuple_list, kit_tuple_tuple, V.ty.injEq, rSortQ, rSlQ, rMulS, tJn, rAtX, rSlS, tSl, tPart, tNoPart, cut_lo2, cut_hi2, rInQ, gLq, gTq, gC_c, gNil, tChain, List.cons_append, List.nil_append, tBL, tBL0, tBad, tCr, tCe, tXF, cxH_K, HO.xd.injEq, rApp, rPopN, rRevL, seqAt_lst, seqAt_tup, at_0, at_1, at_2, at_3, at_4, ix_0, ix_1, ix_2, ix_3, ix_4, cx_K, upd_same, List.length_cons, List.length_nil, Nat.reduceAdd,  rEq, rNe, tRevL, V.int.injEq, V.bl.injEq, V.str.injEq, V.ref.injEq, List.cons.injEq, and_true, true_and, exists_and_left, exists_and_right, exists_eq_left, exists_eq_left', exists_eq_right, exists_eq_right', exists_const, Option.some.injEq, List.getElem?_cons_zero, List.getElem?_cons_succ, List.set_cons_zero, List.set_cons_succ, decide_eq_true_eq, decide_true, decide_false,  scal_ii, scal_bb, scal_ss, cmul_r, cdiv_l, cpow_12, cpow_18, cpow_40, HO.lst.injEq, HO.tup.injEq, upd_upd, Int.reduceToNat,  decide_not, Bool.not_eq_true', decide_eq_false_iff_not, if_true, if_false, Bool.false_eq_true, Bool.true_eq_false, reduceCtorEq, Int.reduceNeg, Nat.reduceLT, Int.reduceLT, Int.reducePow, gt_iff_lt, hk, hq]
    refine z_lcL q0 (ns.map V.int) (fun Q q => ?_) (SqL.of hq) (fun D i H' => Same H H' ∧ H' D = some (.lst ((ns.take i).map V.int))) (fun D hD => ⟨same_new hD, upd_same⟩) (fun v => rfl)
      (fun D i H' hD hI => SqL.of (hI.1 _ _ hq)) (fun D i x H' hD hx hI => ?_) (fun D H' hD hI => ?_)
    · simp only [tSeq, tNext, tDrop, tRet, tRetN, tIfS, tAsg, gName, tAug, ipI, tVar, tC, tOp, tUn, rI, rI0, rU, tCons, tNil, tCB, tTup, tLst, tTest, tB, tAnd, tOr, tNot, tAndV, tOrV, tNotV, tIf, tCl, tCd, tCk, gSub, rPutL, rAtQ, rIntI, rLenQ, rLenS, rListQ, rTupL, rTupQ, rIsQ_c, kd_non, kd_bl, kd_int, kd_str, kd_ref, kdO_lst, kdO_tup, kit_NoneType_bool, kit_NoneType_int, kit_NoneType_str, kit_NoneType_list, kit_NoneType_tuple, kit_bool_bool, kit_bool_int, kit_bool_str, kit_bool_list, kit_bool_tuple, kit_int_bool, kit_int_int, kit_int_str, kit_int_list, kit_int_tuple, kit_str_bool, kit_str_int, kit_str_str, kit_str_list, kit_str_tuple, kit_list_bool, kit_list_int, kit_list_str, kit_list_list, kit_list_tuple, kit_tuple_bool, kit_tuple_int, kit_tuple_str, kit_tuple_list, kit_tuple_tuple, V.ty.injEq, rSortQ, rSlQ, rMulS, tJn, rAtX, rSlS, tSl, tPart, tNoPart, cut_lo2, cut_hi2, rInQ, gLq, gTq, gC_c, gNil, tChain, List.cons_append, List.nil_append, tBL, tBL0, tBad, tCr, tCe, tXF, cxH_K, HO.xd.injEq, rApp, rPopN, rRevL, seqAt_lst, seqAt_tup, at_0, at_1, at_2, at_3, at_4, ix_0, ix_1, ix_2, ix_3, ix_4, cx_K, upd_same, List.length_cons, List.length_nil, Nat.reduceAdd,  rEq, rNe, tRevL, V.int.injEq, V.bl.injEq, V.str.injEq, V.ref.injEq, List.cons.injEq, and_true, true_and, exists_and_left, exists_and_right, exists_eq_left, exists_eq_left', exists_eq_right, exists_eq_right', exists_const, Option.some.injEq, List.getElem?_cons_zero, List.getElem?_cons_succ, List.set_cons_zero, List.set_cons_succ, decide_eq_true_eq, decide_true, decide_false,  scal_ii, scal_bb, scal_ss, cmul_r, cdiv_l, cpow_12, cpow_18, cpow_40, HO.lst.injEq, HO.tup.injEq, upd_upd, Int.reduceToNat,  decide_not, Bool.not_eq_true', decide_eq_false_iff_not, if_true, if_false, Bool.false_eq_true, Bool.true_eq_false, reduceCtorEq, Int.reduceNeg, Nat.reduceLT, Int.reduceLT, Int.reducePow, gt_iff_lt]
      exact q
    · obtain ⟨sm, hd⟩ := hI
      rw [List.getElem?_map] at hx
      obtain ⟨n, hn, rfl⟩ := Option.map_eq_some_iff.mp hx
      have hi := (List.getElem?_eq_some_iff.mp hn).1
      simp only [tSeq, tNext, tDrop, tRet, tRetN, tIfS, tAsg, gName, tAug, ipI, tVar, tC, tOp, tUn, rI, rI0, rU, tCons, tNil, tCB, tTup, tLst, tTest, tB, tAnd, tOr, tNot, tAndV, tOrV, tNotV, tIf, tCl, tCd, tCk, gSub, rPutL, rAtQ, rIntI, rLenQ, rLenS, rListQ, rTupL, rTupQ, rIsQ_c, kd_non, kd_bl, kd_int, kd_str, kd_ref, kdO_lst, kdO_tup, kit_NoneType_bool, kit_NoneType_int, kit_NoneType_str, kit_NoneType_list, kit_NoneType_tuple, kit_bool_bool, kit_bool_int, kit_bool_str, kit_bool_list, kit_bool_tuple, kit_int_bool, kit_int_int, kit_int_str, kit_int_list, kit_int_tuple, kit_str_bool, kit_str_int, kit_str_str, kit_str_list, kit_str_tuple, kit_list_bool, kit_list_int, kit_list_str, kit_list_list, kit_list_tuple, kit_tuple_bool, kit_tuple_int, kit_tuple_str, kit_tuple_list, kit_tuple_tuple, V.ty.injEq, rSortQ, rSlQ, rMulS, tJn, rAtX, rSlS, tSl, tPart, tNoPart, cut_lo2, cut_hi2, rInQ, gLq, gTq, gC_c, gNil, tChain, List.cons_append, List.nil_append, tBL, tBL0, tBad, tCr, tCe, tXF, cxH_K, HO.xd.injEq, rApp, rPopN, rRevL, seqAt_lst, seqAt_tup, at_0, at_1, at_2, at_3, at_4, ix_0, ix_1, ix_2, ix_3, ix_4, cx_K, upd_same, List.length_cons, List.length_nil, Nat.reduceAdd,  rEq, rNe, tRevL, V.int.injEq, V.bl.injEq, V.str.injEq, V.ref.injEq, List.cons.injEq, and_true, true_and, exists_and_left, exists_and_right, exists_eq_left, exists_eq_left', exists_eq_right, exists_eq_right', exists_const, Option.some.injEq, List.getElem?_cons_zero, List.getElem?_cons_succ, List.set_cons_zero, List.set_cons_succ, decide_eq_true_eq, decide_true, decide_false,  scal_ii, scal_bb, scal_ss, cmul_r, cdiv_l, cpow_12, cpow_18, cpow_40, HO.lst.injEq, HO.tup.injEq, upd_upd, Int.reduceToNat,  decide_not, Bool.not_eq_true', decide_eq_false_iff_not, if_true, if_false, Bool.false_eq_true, Bool.true_eq_false, reduceCtorEq, Int.reduceNeg, Nat.reduceLT, Int.reduceLT, Int.reducePow, gt_iff_lt, wipe, List.map_cons, List.map_nil]
      refine ⟨All, .int n, .int n, rfl, rfl, fun _ _ => trivial, fun v H2 e2 rv => ?_⟩
      obtain rfl : v = .int n := rv
      refine ⟨_, e2 _ _ hd, sz_lt (by simp only [List.length_map, List.length_take]; omega), fun b o h => ?_, ?_⟩
      · rw [upd_ne (ne_of_none h hD)]
        exact e2 _ _ (sm _ _ h)
      · rw [List.take_add_one, hn, List.map_append] <;> rfl
    · obtain ⟨sm, hd⟩ := hI
      rw [List.length_map, List.take_length] at hd
      exact q D H' sm hD hd
theorem look1 {f : Str} {v : V} {r : List (Str × V)} : ((f, v) :: r).lookup f = some v := by rw [lookup_put, if_pos rfl]
theorem look2 {f g : Str} {v u : V} {r : List (Str × V)} (h : f ≠ g) : ((g, u) :: (f, v) :: r).lookup f = some v := by
  rw [lookup_put, if_neg h]
  exact look1
theorem nVL : (Str.ofString "value") ≠ (Str.ofString "limit") := by decide +kernel
theorem nCL : (Str.ofString "count") ≠ (Str.ofString "limit") := by decide +kernel
abbrev s_law_refusal : Stmt := topS 24
abbrev N_law_refusal : List Str := ["e", "kinds", "good"]
theorem sc_law_refusal : FnScope N_law_refusal ["e"] (defScope s_law_refusal) := ⟨rfl, rfl, rfl, by decide +kernel, rfl, by decide +kernel, by decide +kernel⟩
theorem b_law_refusal : BindO "_law_refusal" s_law_refusal ["e"] := fun _ _ _ _ _ _ us hl => match us, hl with | [_], _ => rfl

/-- three classes of errors that are not of one another -/
structure Three (K : PySem.W.Frag) (mg : Str → Option Value) (CO CS CM : Addr) : Prop where
  os : PySem.W.kitOne K (.ref CO) (.ref CS) = some false
  om : PySem.W.kitOne K (.ref CO) (.ref CM) = some false
  so : PySem.W.kitOne K (.ref CS) (.ref CO) = some false
  sm : PySem.W.kitOne K (.ref CS) (.ref CM) = some false
  mo : PySem.W.kitOne K (.ref CM) (.ref CO) = some false
  ms : PySem.W.kitOne K (.ref CM) (.ref CS) = some false
  vo : PySem.W.kitOne K (.ref CO) (.type "ValueError") = some true
  vs : PySem.W.kitOne K (.ref CS) (.type "ValueError") = some true
  vm : PySem.W.kitOne K (.ref CM) (.type "ValueError") = some true
  no : ∀ C, C = CO ∨ C = CS ∨ C = CM → ∀ f ∈ (["value", "limit", "size", "count"] : List Str), PySem.W.findIn K (.ref C) f = some none
def sp_refusal (CO CS CM : Addr) : Addr → Value → Option Addr → Sp := fun a cls d vs H Q _ => ∃ (dd : Addr), vs = [.ref a] ∧ d = some dd ∧
  ((cls = .ref CO ∧ ∃ v l : Int, H dd = some (.xd (fRange [.int v, .int l])) ∧ ∀ (u : V) (H' : Hp), Same H H' → Rp All H' 5 u (refD (Str.ofString "OutOfRange") [.int v, .int l]) → Q u H') ∨
   (cls = .ref CS ∧ ∃ n : Int, H dd = some (.xd (fSize [.int n])) ∧ ∀ (u : V) (H' : Hp), Same H H' → Rp All H' 5 u (refD (Str.ofString "BadSize") [.int n]) → Q u H') ∨
   (cls = .ref CM ∧ ∃ v l : Int, H dd = some (.xd (fMany [.int v, .int l])) ∧ ∀ (u : V) (H' : Hp), Same H H' → Rp All H' 5 u (refD (Str.ofString "TooMany") [.int v, .int l]) → Q u H'))
theorem ok_refusal (D : Dn K mg "_law_refusal" s_law_refusal) (B : Blt mg) {CO CS CM : Addr} (bo : BadN P w K mg base "OutOfRange" 2 nRange fRange CO) (bs : BadN P w K mg base "BadSize" 1 nSize fSize CS) (bm : BadN P w K mg base "TooMany" 2 nMany fMany CM) (T : Three K mg CO CS CM) :
    Ce P w K mg base 1 "_law_refusal" (sp_refusal CO CS CM) := by
  refine ce_of D sc_law_refusal b_law_refusal (fun a cls d vs H Q E h => ?_) (fun f cdv A outer s H vs Q E a oe cls d hr xz xf h => ?_)
  · obtain ⟨dd, rfl, _⟩ := h
    rfl
  · have g_OutOfRange : ∃ u, mg "OutOfRange" = some u ∧ RelV (.ref CO) u := ⟨_, bo.nm, rfl⟩
    have g_BadSize : ∃ u, mg "BadSize" = some u ∧ RelV (.ref CS) u := ⟨_, bs.nm, rfl⟩
    have g_TooMany : ∃ u, mg "TooMany" = some u ∧ RelV (.ref CM) u := ⟨_, bm.nm, rfl⟩
    have xp : (a, oe) ∈ [(a, oe)] := List.mem_cons_self
    obtain ⟨dd, rfl, rfl, ⟨rfl, v, l, hd, q⟩ | ⟨rfl, n, hd, q⟩ | ⟨rfl, v, l, hd, q⟩⟩ := h
    · have xT := bo.ex
      have xfT := bo.xf
      have xno_value := T.no CO (.inl rfl) "value" (by decide +kernel)
      have xno_limit := T.no CO (.inl rfl) "limit" (by decide +kernel)
      have xno_size := T.no CO (.inl rfl) "size" (by decide +kernel)
      have xno_count := T.no CO (.inl rfl) "count" (by decide +kernel)
      refine ⟨_, (pss_cons (ps_set (i := 1) sc_law_refusal.nd rfl (.inl rfl) (pe_lst pa_nil))
      (pss_cons (ps_if (pt_val (pe_callB (cr_isX xT xp xz xf) (by rfl) B.isinstance (by decide +kernel) (pa_cons (pv 0) (pa_cons (pe_gc rfl g_OutOfRange) pa_nil)))) (pss_one (ps_expr (pe_ml PySem.F.slot_list_append PySem.F.type_list_append mt_app (pv 1) (pa_cons (pe_tup (pa_cons pe_str (pa_cons (pe_xF xfT (xno_value) xp xz xf (pv 0)) (pa_cons (pe_xF xfT (xno_limit) xp xz xf (pv 0)) pa_nil)))) pa_nil)))) pss_nil)
      (pss_cons (ps_if (pt_val (pe_callB (cr_isX xT xp xz xf) (by rfl) B.isinstance (by decide +kernel) (pa_cons (pv 0) (pa_cons (pe_gc rfl g_BadSize) pa_nil)))) (pss_one (ps_expr (pe_ml PySem.F.slot_list_append PySem.F.type_list_append mt_app (pv 1) (pa_cons (pe_tup (pa_cons pe_str (pa_cons (pe_xF xfT (xno_size) xp xz xf (pv 0)) pa_nil))) pa_nil)))) pss_nil)
      (pss_cons (ps_if (pt_val (pe_callB (cr_isX xT xp xz xf) (by rfl) B.isinstance (by decide +kernel) (pa_cons (pv 0) (pa_cons (pe_gc rfl g_TooMany) pa_nil)))) (pss_one (ps_expr (pe_ml PySem.F.slot_list_append PySem.F.type_list_append mt_app (pv 1) (pa_cons (pe_tup (pa_cons pe_str (pa_cons (pe_xF xfT (xno_count) xp xz xf (pv 0)) (pa_cons (pe_xF xfT (xno_limit) xp xz xf (pv 0)) pa_nil)))) pa_nil)))) pss_nil)
      (pss_cons (ps_set (i := 2) sc_law_refusal.nd rfl (.inl rfl) (pe_and (pe_cmpR op_eq (pe_callB call_lenQ (by rfl) B.len PySem.boot_len (pa_cons (pv 1) pa_nil)) pe_int (nomark _)) (pe_one (pe_callB (cr_isX xT xp xz xf) (by rfl) B.isinstance (by decide +kernel) (pa_cons (pv 0) (pa_cons (pe_bltn (v := .ty "ValueError") (u := .type "ValueError") (by rfl) B.ValueError (by decide +kernel) rfl) pa_nil))))))
      (pss_one (ps_ret (pe_tup (pa_cons pe_str (pa_cons (pe_ifExp (pt_val (pv 2)) (pe_ix at_seq (pv 1) pe_int (fun _ _ => rfl)) (pe_tup (pa_cons pe_str pa_nil))) pa_nil)))))))))), ?_⟩
      rw [show L2.start N_law_refusal [.ref a] = [some (.ref a), none, none] from rfl]
      have l1 : (fRange [V.int v, V.int l]).lookup (Str.ofString "value") = some (V.int v) := look2 nVL
      have l2 : (fRange [V.int v, V.int l]).lookup (Str.ofString "limit") = some (V.int l) := look1
      have isF : ∀ (Hx : Hp) (Cy : Addr) (Z : VK), Hx dd = some (.xd (fRange [V.int v, V.int l])) → PySem.W.kitOne K (.ref CO) (.ref Cy) = some false → Z (.bl false) Hx → rIsX K a CO dd [.ref a, .ref Cy] Hx Z := fun Hx Cy Z h k z => ⟨_, h, .ref Cy, false, rfl, .inl ⟨.ref Cy, .own Cy, k⟩, z⟩
      have isT : ∀ (Hx : Hp) (Z : VK), Hx dd = some (.xd (fRange [V.int v, V.int l])) → Z (.bl true) Hx → rIsX K a CO dd [.ref a, .ref CO] Hx Z := fun Hx Z h z => ⟨_, h, .ref CO, true, rfl, .inl ⟨.ref CO, .own CO, kit_self⟩, z⟩
      have isV : ∀ (Hx : Hp) (Z : VK), Hx dd = some (.xd (fRange [V.int v, V.int l])) → Z (.bl true) Hx → rIsX K a CO dd [.ref a, .ty "ValueError"] Hx Z := fun Hx Z h z => ⟨_, h, .ty "ValueError", true, rfl, .inl ⟨.type "ValueError", .ty _, T.vo⟩, z⟩
      simp only [tSeq, tNext, tDrop, tRet, tRetN, tIfS, tAsg, gName, tAug, ipI, tVar, tC, tOp, tUn, rI, rI0, rU, tCons, tNil, tCB, tTup, tLst, tTest, tB, tAnd, tOr, tNot, tAndV, tOrV, tNotV, tIf, tCl, tCd, tCk, gSub, rPutL, rAtQ, rIntI, rLenQ, rLenS, rListQ, rTupL, rTupQ, rIsQ_c, kd_non, kd_bl, kd_int, kd_str, kd_ref, kdO_lst, kdO_tup, kit_NoneType_bool, kit_NoneType_int, kit_NoneType_str, kit_NoneType_list, kit_NoneType_tuple, kit_bool_bool, kit_bool_int, kit_bool_str, kit_bool_list, kit_bool_tuple, kit_int_bool, kit_int_int, kit_int_str, kit_int_list, kit_int_tuple, kit_str_bool, kit_str_int, kit_str_str, kit_str_list, kit_str_tuple, kit_list_bool, kit_list_int, kit_list_str, kit_list_list, kit_list_tuple, kit_tuple_bool, kit_tuple_int, kit_tuple_str, kit_tuple_list, kit_tuple_tuple, V.ty.injEq, rSortQ, rSlQ, rMulS, tJn, rAtX, rSlS, tSl, tPart, tNoPart, cut_lo2, cut_hi2, rInQ, gLq, gTq, gC_c, gNil, tChain, List.cons_append, List.nil_append, tBL, tBL0, tBad, tCr, tCe, tXF, cxH_K, HO.xd.injEq, rApp, rPopN, rRevL, seqAt_lst, seqAt_tup, at_0, at_1, at_2, at_3, at_4, ix_0, ix_1, ix_2, ix_3, ix_4, cx_K, upd_same, List.length_cons, List.length_nil, Nat.reduceAdd,  rEq, rNe, tRevL, V.int.injEq, V.bl.injEq, V.str.injEq, V.ref.injEq, List.cons.injEq, and_true, true_and, exists_and_left, exists_and_right, exists_eq_left, exists_eq_left', exists_eq_right, exists_eq_right', exists_const, Option.some.injEq, List.getElem?_cons_zero, List.getElem?_cons_succ, List.set_cons_zero, List.set_cons_succ, decide_eq_true_eq, decide_true, decide_false,  scal_ii, scal_bb, scal_ss, cmul_r, cdiv_l, cpow_12, cpow_18, cpow_40, HO.lst.injEq, HO.tup.injEq, upd_upd, Int.reduceToNat,  decide_not, Bool.not_eq_true', decide_eq_false_iff_not, if_true, if_false, Bool.false_eq_true, Bool.true_eq_false, reduceCtorEq, Int.reduceNeg, Nat.reduceLT, Int.reduceLT, Int.reducePow, gt_iff_lt]
      refine ⟨sz_of (by decide), fun p hp => ?_⟩
      have hd1 : upd H p (.lst []) dd = some (.xd (fRange [V.int v, V.int l])) := (upd_ne (ne_of_none hd hp)).trans hd
      refine isT _ _ hd1 ?_
      simp only [tSeq, tNext, tDrop, tRet, tRetN, tIfS, tAsg, gName, tAug, ipI, tVar, tC, tOp, tUn, rI, rI0, rU, tCons, tNil, tCB, tTup, tLst, tTest, tB, tAnd, tOr, tNot, tAndV, tOrV, tNotV, tIf, tCl, tCd, tCk, gSub, rPutL, rAtQ, rIntI, rLenQ, rLenS, rListQ, rTupL, rTupQ, rIsQ_c, kd_non, kd_bl, kd_int, kd_str, kd_ref, kdO_lst, kdO_tup, kit_NoneType_bool, kit_NoneType_int, kit_NoneType_str, kit_NoneType_list, kit_NoneType_tuple, kit_bool_bool, kit_bool_int, kit_bool_str, kit_bool_list, kit_bool_tuple, kit_int_bool, kit_int_int, kit_int_str, kit_int_list, kit_int_tuple, kit_str_bool, kit_str_int, kit_str_str, kit_str_list, kit_str_tuple, kit_list_bool, kit_list_int, kit_list_str, kit_list_list, kit_list_tuple, kit_tuple_bool, kit_tuple_int, kit_tuple_str, kit_tuple_list, kit_tuple_tuple, V.ty.injEq, rSortQ, rSlQ, rMulS, tJn, rAtX, rSlS, tSl, tPart, tNoPart, cut_lo2, cut_hi2, rInQ, gLq, gTq, gC_c, gNil, tChain, List.cons_append, List.nil_append, tBL, tBL0, tBad, tCr, tCe, tXF, cxH_K, HO.xd.injEq, rApp, rPopN, rRevL, seqAt_lst, seqAt_tup, at_0, at_1, at_2, at_3, at_4, ix_0, ix_1, ix_2, ix_3, ix_4, cx_K, upd_same, List.length_cons, List.length_nil, Nat.reduceAdd,  rEq, rNe, tRevL, V.int.injEq, V.bl.injEq, V.str.injEq, V.ref.injEq, List.cons.injEq, and_true, true_and, exists_and_left, exists_and_right, exists_eq_left, exists_eq_left', exists_eq_right, exists_eq_right', exists_const, Option.some.injEq, List.getElem?_cons_zero, List.getElem?_cons_succ, List.set_cons_zero, List.set_cons_succ, decide_eq_true_eq, decide_true, decide_false,  scal_ii, scal_bb, scal_ss, cmul_r, cdiv_l, cpow_12, cpow_18, cpow_40, HO.lst.injEq, HO.tup.injEq, upd_upd, Int.reduceToNat,  decide_not, Bool.not_eq_true', decide_eq_false_iff_not, if_true, if_false, Bool.false_eq_true, Bool.true_eq_false, reduceCtorEq, Int.reduceNeg, Nat.reduceLT, Int.reduceLT, Int.reducePow, gt_iff_lt, hd1, l1, l2]
      refine ⟨⟨_, rfl⟩, sz_of (by decide), fun p1 hp1 => ?_⟩
      have n1 : p ≠ p1 := ne_of_none upd_same hp1
      have z1 : H p1 = none := by rw [upd_ne n1.symm] at hp1; exact hp1
      refine ⟨[], (upd_ne n1).trans upd_same, sz_lt (by decide), ?_⟩
      obtain ⟨H1, e1⟩ : ∃ X, X = upd (upd (upd H p (.lst [])) p1 (.tup [.str (Str.ofString "OutOfRange"), .int v, .int l])) p (.lst ([] ++ [V.ref p1])) := ⟨_, rfl⟩
      rw [← e1]
      have fp : H1 p = some (.lst [V.ref p1]) := by rw [e1, upd_same] <;> rfl
      have fq : H1 p1 = some (.tup [.str (Str.ofString "OutOfRange"), .int v, .int l]) := by rw [e1, upd_ne n1.symm, upd_same]
      have sm : Same H H1 := by
        rw [e1]
        exact fun b o e => by rw [upd_ne (ne_of_none e hp)]; exact same_new hp1 b o (same_new hp b o e)
      have fd := sm _ _ hd
      refine isF _ CS _ fd T.os ?_
      simp only [tSeq, tNext, tDrop, tRet, tRetN, tIfS, tAsg, gName, tAug, ipI, tVar, tC, tOp, tUn, rI, rI0, rU, tCons, tNil, tCB, tTup, tLst, tTest, tB, tAnd, tOr, tNot, tAndV, tOrV, tNotV, tIf, tCl, tCd, tCk, gSub, rPutL, rAtQ, rIntI, rLenQ, rLenS, rListQ, rTupL, rTupQ, rIsQ_c, kd_non, kd_bl, kd_int, kd_str, kd_ref, kdO_lst, kdO_tup, kit_NoneType_bool, kit_NoneType_int, kit_NoneType_str, kit_NoneType_list, kit_NoneType_tuple, kit_bool_bool, kit_bool_int, kit_bool_str, kit_bool_list, kit_bool_tuple, kit_int_bool, kit_int_int, kit_int_str, kit_int_list, kit_int_tuple, kit_str_bool, kit_str_int, kit_str_str, kit_str_list, kit_str_tuple, kit_list_bool, kit_list_int, kit_list_str, kit_list_list, kit_list_tuple, kit_tuple_bool, kit_tuple_int, kit_tuple_str, kit_tuple_list, kit_tuple_tuple, V.ty.injEq, rSortQ, rSlQ, rMulS, tJn, rAtX, rSlS, tSl, tPart, tNoPart, cut_lo2, cut_hi2, rInQ, gLq, gTq, gC_c, gNil, tChain, List.cons_append, List.nil_append, tBL, tBL0, tBad, tCr, tCe, tXF, cxH_K, HO.xd.injEq, rApp, rPopN, rRevL, seqAt_lst, seqAt_tup, at_0, at_1, at_2, at_3, at_4, ix_0, ix_1, ix_2, ix_3, ix_4, cx_K, upd_same, List.length_cons, List.length_nil, Nat.reduceAdd,  rEq, rNe, tRevL, V.int.injEq, V.bl.injEq, V.str.injEq, V.ref.injEq, List.cons.injEq, and_true, true_and, exists_and_left, exists_and_right, exists_eq_left, exists_eq_left', exists_eq_right, exists_eq_right', exists_const, Option.some.injEq, List.getElem?_cons_zero, List.getElem?_cons_succ, List.set_cons_zero, List.set_cons_succ, decide_eq_true_eq, decide_true, decide_false,  scal_ii, scal_bb, scal_ss, cmul_r, cdiv_l, cpow_12, cpow_18, cpow_40, HO.lst.injEq, HO.tup.injEq, upd_upd, Int.reduceToNat,  decide_not, Bool.not_eq_true', decide_eq_false_iff_not, if_true, if_false, Bool.false_eq_true, Bool.true_eq_false, reduceCtorEq, Int.reduceNeg, Nat.reduceLT, Int.reduceLT, Int.reducePow, gt_iff_lt, fp]
      refine isF _ CM _ fd T.om ?_
      simp only [tSeq, tNext, tDrop, tRet, tRetN, tIfS, tAsg, gName, tAug, ipI, tVar, tC, tOp, tUn, rI, rI0, rU, tCons, tNil, tCB, tTup, tLst, tTest, tB, tAnd, tOr, tNot, tAndV, tOrV, tNotV, tIf, tCl, tCd, tCk, gSub, rPutL, rAtQ, rIntI, rLenQ, rLenS, rListQ, rTupL, rTupQ, rIsQ_c, kd_non, kd_bl, kd_int, kd_str, kd_ref, kdO_lst, kdO_tup, kit_NoneType_bool, kit_NoneType_int, kit_NoneType_str, kit_NoneType_list, kit_NoneType_tuple, kit_bool_bool, kit_bool_int, kit_bool_str, kit_bool_list, kit_bool_tuple, kit_int_bool, kit_int_int, kit_int_str, kit_int_list, kit_int_tuple, kit_str_bool, kit_str_int, kit_str_str, kit_str_list, kit_str_tuple, kit_list_bool, kit_list_int, kit_list_str, kit_list_list, kit_list_tuple, kit_tuple_bool, kit_tuple_int, kit_tuple_str, kit_tuple_list, kit_tuple_tuple, V.ty.injEq, rSortQ, rSlQ, rMulS, tJn, rAtX, rSlS, tSl, tPart, tNoPart, cut_lo2, cut_hi2, rInQ, gLq, gTq, gC_c, gNil, tChain, List.cons_append, List.nil_append, tBL, tBL0, tBad, tCr, tCe, tXF, cxH_K, HO.xd.injEq, rApp, rPopN, rRevL, seqAt_lst, seqAt_tup, at_0, at_1, at_2, at_3, at_4, ix_0, ix_1, ix_2, ix_3, ix_4, cx_K, upd_same, List.length_cons, List.length_nil, Nat.reduceAdd,  rEq, rNe, tRevL, V.int.injEq, V.bl.injEq, V.str.injEq, V.ref.injEq, List.cons.injEq, and_true, true_and, exists_and_left, exists_and_right, exists_eq_left, exists_eq_left', exists_eq_right, exists_eq_right', exists_const, Option.some.injEq, List.getElem?_cons_zero, List.getElem?_cons_succ, List.set_cons_zero, List.set_cons_succ, decide_eq_true_eq, decide_true, decide_false,  scal_ii, scal_bb, scal_ss, cmul_r, cdiv_l, cpow_12, cpow_18, cpow_40, HO.lst.injEq, HO.tup.injEq, upd_upd, Int.reduceToNat,  decide_not, Bool.not_eq_true', decide_eq_false_iff_not, if_true, if_false, Bool.false_eq_true, Bool.true_eq_false, reduceCtorEq, Int.reduceNeg, Nat.reduceLT, Int.reduceLT, Int.reducePow, gt_iff_lt, fp]
      try simp only [List.nil_append, List.length_cons, List.length_nil]
      refine (if_pos (show ((1 : Nat) : Int) = 1 from rfl)).mpr ?_
      refine isV _ _ fd ?_
      simp only [tSeq, tNext, tDrop, tRet, tRetN, tIfS, tAsg, gName, tAug, ipI, tVar, tC, tOp, tUn, rI, rI0, rU, tCons, tNil, tCB, tTup, tLst, tTest, tB, tAnd, tOr, tNot, tAndV, tOrV, tNotV, tIf, tCl, tCd, tCk, gSub, rPutL, rAtQ, rIntI, rLenQ, rLenS, rListQ, rTupL, rTupQ, rIsQ_c, kd_non, kd_bl, kd_int, kd_str, kd_ref, kdO_lst, kdO_tup, kit_NoneType_bool, kit_NoneType_int, kit_NoneType_str, kit_NoneType_list, kit_NoneType_tuple, kit_bool_bool, kit_bool_int, kit_bool_str, kit_bool_list, kit_bool_tuple, kit_int_bool, kit_int_int, kit_int_str, kit_int_list, kit_int_tuple, kit_str_bool, kit_str_int, kit_str_str, kit_str_list, kit_str_tuple, kit_list_bool, kit_list_int, kit_list_str, kit_list_list, kit_list_tuple, kit_tuple_bool, kit_tuple_int, kit_tuple_str, kit_tuple_list, kit_tuple_tuple, V.ty.injEq, rSortQ, rSlQ, rMulS, tJn, rAtX, rSlS, tSl, tPart, tNoPart, cut_lo2, cut_hi2, rInQ, gLq, gTq, gC_c, gNil, tChain, List.cons_append, List.nil_append, tBL, tBL0, tBad, tCr, tCe, tXF, cxH_K, HO.xd.injEq, rApp, rPopN, rRevL, seqAt_lst, seqAt_tup, at_0, at_1, at_2, at_3, at_4, ix_0, ix_1, ix_2, ix_3, ix_4, cx_K, upd_same, List.length_cons, List.length_nil, Nat.reduceAdd,  rEq, rNe, tRevL, V.int.injEq, V.bl.injEq, V.str.injEq, V.ref.injEq, List.cons.injEq, and_true, true_and, exists_and_left, exists_and_right, exists_eq_left, exists_eq_left', exists_eq_right, exists_eq_right', exists_const, Option.some.injEq, List.getElem?_cons_zero, List.getElem?_cons_succ, List.set_cons_zero, List.set_cons_succ, decide_eq_true_eq, decide_true, decide_false,  scal_ii, scal_bb, scal_ss, cmul_r, cdiv_l, cpow_12, cpow_18, cpow_40, HO.lst.injEq, HO.tup.injEq, upd_upd, Int.reduceToNat,  decide_not, Bool.not_eq_true', decide_eq_false_iff_not, if_true, if_false, Bool.false_eq_true, Bool.true_eq_false, reduceCtorEq, Int.reduceNeg, Nat.reduceLT, Int.reduceLT, Int.reducePow, gt_iff_lt, fp]
      exact ⟨sz_of (by decide), fun p2 hp2 => q _ _ (fun b o e => same_new hp2 b o (sm b o e)) (rp_ref upd_same ((upd_ne (ne_of_none fq hp2)).trans fq) (by show 2 ≤ 10; decide) (.cons rfl (.cons rfl .nil)))⟩
    · have xT := bs.ex
      have xfT := bs.xf
      have xno_value := T.no CS (.inr (.inl rfl)) "value" (by decide +kernel)
      have xno_limit := T.no CS (.inr (.inl rfl)) "limit" (by decide +kernel)
      have xno_size := T.no CS (.inr (.inl rfl)) "size" (by decide +kernel)
      have xno_count := T.no CS (.inr (.inl rfl)) "count" (by decide +kernel)
      refine ⟨_, (pss_cons (ps_set (i := 1) sc_law_refusal.nd rfl (.inl rfl) (pe_lst pa_nil))
      (pss_cons (ps_if (pt_val (pe_callB (cr_isX xT xp xz xf) (by rfl) B.isinstance (by decide +kernel) (pa_cons (pv 0) (pa_cons (pe_gc rfl g_OutOfRange) pa_nil)))) (pss_one (ps_expr (pe_ml PySem.F.slot_list_append PySem.F.type_list_append mt_app (pv 1) (pa_cons (pe_tup (pa_cons pe_str (pa_cons (pe_xF xfT (xno_value) xp xz xf (pv 0)) (pa_cons (pe_xF xfT (xno_limit) xp xz xf (pv 0)) pa_nil)))) pa_nil)))) pss_nil)
      (pss_cons (ps_if (pt_val (pe_callB (cr_isX xT xp xz xf) (by rfl) B.isinstance (by decide +kernel) (pa_cons (pv 0) (pa_cons (pe_gc rfl g_BadSize) pa_nil)))) (pss_one (ps_expr (pe_ml PySem.F.slot_list_append PySem.F.type_list_append mt_app (pv 1) (pa_cons (pe_tup (pa_cons pe_str (pa_cons (pe_xF xfT (xno_size) xp xz xf (pv 0)) pa_nil))) pa_nil)))) pss_nil)
      (pss_cons (ps_if (pt_val (pe_callB (cr_isX xT xp xz xf) (by rfl) B.isinstance (by decide +kernel) (pa_cons (pv 0) (pa_cons (pe_gc rfl g_TooMany) pa_nil)))) (pss_one (ps_expr (pe_ml PySem.F.slot_list_append PySem.F.type_list_append mt_app (pv 1) (pa_cons (pe_tup (pa_cons pe_str (pa_cons (pe_xF xfT (xno_count) xp xz xf (pv 0)) (pa_cons (pe_xF xfT (xno_limit) xp xz xf (pv 0)) pa_nil)))) pa_nil)))) pss_nil)
      (pss_cons (ps_set (i := 2) sc_law_refusal.nd rfl (.inl rfl) (pe_and (pe_cmpR op_eq (pe_callB call_lenQ (by rfl) B.len PySem.boot_len (pa_cons (pv 1) pa_nil)) pe_int (nomark _)) (pe_one (pe_callB (cr_isX xT xp xz xf) (by rfl) B.isinstance (by decide +kernel) (pa_cons (pv 0) (pa_cons (pe_bltn (v := .ty "ValueError") (u := .type "ValueError") (by rfl) B.ValueError (by decide +kernel) rfl) pa_nil))))))
      (pss_one (ps_ret (pe_tup (pa_cons pe_str (pa_cons (pe_ifExp (pt_val (pv 2)) (pe_ix at_seq (pv 1) pe_int (fun _ _ => rfl)) (pe_tup (pa_cons pe_str pa_nil))) pa_nil)))))))))), ?_⟩
      rw [show L2.start N_law_refusal [.ref a] = [some (.ref a), none, none] from rfl]
      have l1 : (fSize [V.int n]).lookup (Str.ofString "size") = some (V.int n) := look1
      have l2 := l1
      have isF : ∀ (Hx : Hp) (Cy : Addr) (Z : VK), Hx dd = some (.xd (fSize [V.int n])) → PySem.W.kitOne K (.ref CS) (.ref Cy) = some false → Z (.bl false) Hx → rIsX K a CS dd [.ref a, .ref Cy] Hx Z := fun Hx Cy Z h k z => ⟨_, h, .ref Cy, false, rfl, .inl ⟨.ref Cy, .own Cy, k⟩, z⟩
      have isT : ∀ (Hx : Hp) (Z : VK), Hx dd = some (.xd (fSize [V.int n])) → Z (.bl true) Hx → rIsX K a CS dd [.ref a, .ref CS] Hx Z := fun Hx Z h z => ⟨_, h, .ref CS, true, rfl, .inl ⟨.ref CS, .own CS, kit_self⟩, z⟩
      have isV : ∀ (Hx : Hp) (Z : VK), Hx dd = some (.xd (fSize [V.int n])) → Z (.bl true) Hx → rIsX K a CS dd [.ref a, .ty "ValueError"] Hx Z := fun Hx Z h z => ⟨_, h, .ty "ValueError", true, rfl, .inl ⟨.type "ValueError", .ty _, T.vs⟩, z⟩
      simp only [tSeq, tNext, tDrop, tRet, tRetN, tIfS, tAsg, gName, tAug, ipI, tVar, tC, tOp, tUn, rI, rI0, rU, tCons, tNil, tCB, tTup, tLst, tTest, tB, tAnd, tOr, tNot, tAndV, tOrV, tNotV, tIf, tCl, tCd, tCk, gSub, rPutL, rAtQ, rIntI, rLenQ, rLenS, rListQ, rTupL, rTupQ, rIsQ_c, kd_non, kd_bl, kd_int, kd_str, kd_ref, kdO_lst, kdO_tup, kit_NoneType_bool, kit_NoneType_int, kit_NoneType_str, kit_NoneType_list, kit_NoneType_tuple, kit_bool_bool, kit_bool_int, kit_bool_str, kit_bool_list, kit_bool_tuple, kit_int_bool, kit_int_int, kit_int_str, kit_int_list, kit_int_tuple, kit_str_bool, kit_str_int, kit_str_str, kit_str_list, kit_str_tuple, kit_list_bool, kit_list_int, kit_list_str, kit_list_list, kit_list_tuple, kit_tuple_bool, kit_tuple_int, kit_tuple_str, kit_tuple_list, kit_tuple_tuple, V.ty.injEq, rSortQ, rSlQ, rMulS, tJn, rAtX, rSlS, tSl, tPart, tNoPart, cut_lo2, cut_hi2, rInQ, gLq, gTq, gC_c, gNil, tChain, List.cons_append, List.nil_append, tBL, tBL0, tBad, tCr, tCe, tXF, cxH_K, HO.xd.injEq, rApp, rPopN, rRevL, seqAt_lst, seqAt_tup, at_0, at_1, at_2, at_3, at_4, ix_0, ix_1, ix_2, ix_3, ix_4, cx_K, upd_same, List.length_cons, List.length_nil, Nat.reduceAdd,  rEq, rNe, tRevL, V.int.injEq, V.bl.injEq, V.str.injEq, V.ref.injEq, List.cons.injEq, and_true, true_and, exists_and_left, exists_and_right, exists_eq_left, exists_eq_left', exists_eq_right, exists_eq_right', exists_const, Option.some.injEq, List.getElem?_cons_zero, List.getElem?_cons_succ, List.set_cons_zero, List.set_cons_succ, decide_eq_true_eq, decide_true, decide_false,  scal_ii, scal_bb, scal_ss, cmul_r, cdiv_l, cpow_12, cpow_18, cpow_40, HO.lst.injEq, HO.tup.injEq, upd_upd, Int.reduceToNat,  decide_not, Bool.not_eq_true', decide_eq_false_iff_not, if_true, if_false, Bool.false_eq_true, Bool.true_eq_false, reduceCtorEq, Int.reduceNeg, Nat.reduceLT, Int.reduceLT, Int.reducePow, gt_iff_lt]
      refine ⟨sz_of (by decide), fun p hp => ?_⟩
      have hd1 : upd H p (.lst []) dd = some (.xd (fSize [V.int n])) := (upd_ne (ne_of_none hd hp)).trans hd
      refine isF _ CO _ hd1 T.so ?_
      simp only [tSeq, tNext, tDrop, tRet, tRetN, tIfS, tAsg, gName, tAug, ipI, tVar, tC, tOp, tUn, rI, rI0, rU, tCons, tNil, tCB, tTup, tLst, tTest, tB, tAnd, tOr, tNot, tAndV, tOrV, tNotV, tIf, tCl, tCd, tCk, gSub, rPutL, rAtQ, rIntI, rLenQ, rLenS, rListQ, rTupL, rTupQ, rIsQ_c, kd_non, kd_bl, kd_int, kd_str, kd_ref, kdO_lst, kdO_tup, kit_NoneType_bool, kit_NoneType_int, kit_NoneType_str, kit_NoneType_list, kit_NoneType_tuple, kit_bool_bool, kit_bool_int, kit_bool_str, kit_bool_list, kit_bool_tuple, kit_int_bool, kit_int_int, kit_int_str, kit_int_list, kit_int_tuple, kit_str_bool, kit_str_int, kit_str_str, kit_str_list, kit_str_tuple, kit_list_bool, kit_list_int, kit_list_str, kit_list_list, kit_list_tuple, kit_tuple_bool, kit_tuple_int, kit_tuple_str, kit_tuple_list, kit_tuple_tuple, V.ty.injEq, rSortQ, rSlQ, rMulS, tJn, rAtX, rSlS, tSl, tPart, tNoPart, cut_lo2, cut_hi2, rInQ, gLq, gTq, gC_c, gNil, tChain, List.cons_append, List.nil_append, tBL, tBL0, tBad, tCr, tCe, tXF, cxH_K, HO.xd.injEq, rApp, rPopN, rRevL, seqAt_lst, seqAt_tup, at_0, at_1, at_2, at_3, at_4, ix_0, ix_1, ix_2, ix_3, ix_4, cx_K, upd_same, List.length_cons, List.length_nil, Nat.reduceAdd,  rEq, rNe, tRevL, V.int.injEq, V.bl.injEq, V.str.injEq, V.ref.injEq, List.cons.injEq, and_true, true_and, exists_and_left, exists_and_right, exists_eq_left, exists_eq_left', exists_eq_right, exists_eq_right', exists_const, Option.some.injEq, List.getElem?_cons_zero, List.getElem?_cons_succ, List.set_cons_zero, List.set_cons_succ, decide_eq_true_eq, decide_true, decide_false,  scal_ii, scal_bb, scal_ss, cmul_r, cdiv_l, cpow_12, cpow_18, cpow_40, HO.lst.injEq, HO.tup.injEq, upd_upd, Int.reduceToNat,  decide_not, Bool.not_eq_true', decide_eq_false_iff_not, if_true, if_false, Bool.false_eq_true, Bool.true_eq_false, reduceCtorEq, Int.reduceNeg, Nat.reduceLT, Int.reduceLT, Int.reducePow, gt_iff_lt]
      refine isT _ _ hd1 ?_
      simp only [tSeq, tNext, tDrop, tRet, tRetN, tIfS, tAsg, gName, tAug, ipI, tVar, tC, tOp, tUn, rI, rI0, rU, tCons, tNil, tCB, tTup, tLst, tTest, tB, tAnd, tOr, tNot, tAndV, tOrV, tNotV, tIf, tCl, tCd, tCk, gSub, rPutL, rAtQ, rIntI, rLenQ, rLenS, rListQ, rTupL, rTupQ, rIsQ_c, kd_non, kd_bl, kd_int, kd_str, kd_ref, kdO_lst, kdO_tup, kit_NoneType_bool, kit_NoneType_int, kit_NoneType_str, kit_NoneType_list, kit_NoneType_tuple, kit_bool_bool, kit_bool_int, kit_bool_str, kit_bool_list, kit_bool_tuple, kit_int_bool, kit_int_int, kit_int_str, kit_int_list, kit_int_tuple, kit_str_bool, kit_str_int, kit_str_str, kit_str_list, kit_str_tuple, kit_list_bool, kit_list_int, kit_list_str, kit_list_list, kit_list_tuple, kit_tuple_bool, kit_tuple_int, kit_tuple_str, kit_tuple_list, kit_tuple_tuple, V.ty.injEq, rSortQ, rSlQ, rMulS, tJn, rAtX, rSlS, tSl, tPart, tNoPart, cut_lo2, cut_hi2, rInQ, gLq, gTq, gC_c, gNil, tChain, List.cons_append, List.nil_append, tBL, tBL0, tBad, tCr, tCe, tXF, cxH_K, HO.xd.injEq, rApp, rPopN, rRevL, seqAt_lst, seqAt_tup, at_0, at_1, at_2, at_3, at_4, ix_0, ix_1, ix_2, ix_3, ix_4, cx_K, upd_same, List.length_cons, List.length_nil, Nat.reduceAdd,  rEq, rNe, tRevL, V.int.injEq, V.bl.injEq, V.str.injEq, V.ref.injEq, List.cons.injEq, and_true, true_and, exists_and_left, exists_and_right, exists_eq_left, exists_eq_left', exists_eq_right, exists_eq_right', exists_const, Option.some.injEq, List.getElem?_cons_zero, List.getElem?_cons_succ, List.set_cons_zero, List.set_cons_succ, decide_eq_true_eq, decide_true, decide_false,  scal_ii, scal_bb, scal_ss, cmul_r, cdiv_l, cpow_12, cpow_18, cpow_40, HO.lst.injEq, HO.tup.injEq, upd_upd, Int.reduceToNat,  decide_not, Bool.not_eq_true', decide_eq_false_iff_not, if_true, if_false, Bool.false_eq_true, Bool.true_eq_false, reduceCtorEq, Int.reduceNeg, Nat.reduceLT, Int.reduceLT, Int.reducePow, gt_iff_lt, hd1, l1, l2]
      refine ⟨⟨_, rfl⟩, sz_of (by decide), fun p1 hp1 => ?_⟩
      have n1 : p ≠ p1 := ne_of_none upd_same hp1
      have z1 : H p1 = none := by rw [upd_ne n1.symm] at hp1; exact hp1
      refine ⟨[], (upd_ne n1).trans upd_same, sz_lt (by decide), ?_⟩
      obtain ⟨H1, e1⟩ : ∃ X, X = upd (upd (upd H p (.lst [])) p1 (.tup [.str (Str.ofString "BadSize"), .int n])) p (.lst ([] ++ [V.ref p1])) := ⟨_, rfl⟩
      rw [← e1]
      have fp : H1 p = some (.lst [V.ref p1]) := by rw [e1, upd_same] <;> rfl
      have fq : H1 p1 = some (.tup [.str (Str.ofString "BadSize"), .int n]) := by rw [e1, upd_ne n1.symm, upd_same]
      have sm : Same H H1 := by
        rw [e1]
        exact fun b o e => by rw [upd_ne (ne_of_none e hp)]; exact same_new hp1 b o (same_new hp b o e)
      have fd := sm _ _ hd
      refine isF _ CM _ fd T.sm ?_
      simp only [tSeq, tNext, tDrop, tRet, tRetN, tIfS, tAsg, gName, tAug, ipI, tVar, tC, tOp, tUn, rI, rI0, rU, tCons, tNil, tCB, tTup, tLst, tTest, tB, tAnd, tOr, tNot, tAndV, tOrV, tNotV, tIf, tCl, tCd, tCk, gSub, rPutL, rAtQ, rIntI, rLenQ, rLenS, rListQ, rTupL, rTupQ, rIsQ_c, kd_non, kd_bl, kd_int, kd_str, kd_ref, kdO_lst, kdO_tup, kit_NoneType_bool, kit_NoneType_int, kit_NoneType_str, kit_NoneType_list, kit_NoneType_tuple, kit_bool_bool, kit_bool_int, kit_bool_str, kit_bool_list, kit_bool_tuple, kit_int_bool, kit_int_int, kit_int_str, kit_int_list, kit_int_tuple, kit_str_bool, kit_str_int, kit_str_str, kit_str_list, kit_str_tuple, kit_list_bool, kit_list_int, kit_list_str, kit_list_list, kit_list_tuple, kit_tuple_bool, kit_tuple_int, kit_tuple_str, kit_tuple_list, kit_tuple_tuple, V.ty.injEq, rSortQ, rSlQ, rMulS, tJn, rAtX, rSlS, tSl, tPart, tNoPart, cut_lo2, cut_hi2, rInQ, gLq, gTq, gC_c, gNil, tChain, List.cons_append, List.nil_append, tBL, tBL0, tBad, tCr, tCe, tXF, cxH_K, HO.xd.injEq, rApp, rPopN, rRevL, seqAt_lst, seqAt_tup, at_0, at_1, at_2, at_3, at_4, ix_0, ix_1, ix_2, ix_3, ix_4, cx_K, upd_same, List.length_cons, List.length_nil, Nat.reduceAdd,  rEq, rNe, tRevL, V.int.injEq, V.bl.injEq, V.str.injEq, V.ref.injEq, List.cons.injEq, and_true, true_and, exists_and_left, exists_and_right, exists_eq_left, exists_eq_left', exists_eq_right, exists_eq_right', exists_const, Option.some.injEq, List.getElem?_cons_zero, List.getElem?_cons_succ, List.set_cons_zero, List.set_cons_succ, decide_eq_true_eq, decide_true, decide_false,  scal_ii, scal_bb, scal_ss, cmul_r, cdiv_l, cpow_12, cpow_18, cpow_40, HO.lst.injEq, HO.tup.injEq, upd_upd, Int.reduceToNat,  decide_not, Bool.not_eq_true', decide_eq_false_iff_not, if_true, if_false, Bool.false_eq_true, Bool.true_eq_false, reduceCtorEq, Int.reduceNeg, Nat.reduceLT, Int.reduceLT, Int.reducePow, gt_iff_lt, fp]
      try simp only [List.nil_append, List.length_cons, List.length_nil]
      refine (if_pos (show ((1 : Nat) : Int) = 1 from rfl)).mpr ?_
      refine isV _ _ fd ?_
      simp only [tSeq, tNext, tDrop, tRet, tRetN, tIfS, tAsg, gName, tAug, ipI, tVar, tC, tOp, tUn, rI, rI0, rU, tCons, tNil, tCB, tTup, tLst, tTest, tB, tAnd, tOr, tNot, tAndV, tOrV, tNotV, tIf, tCl, tCd, tCk, gSub, rPutL, rAtQ, rIntI, rLenQ, rLenS, rListQ, rTupL, rTupQ, rIsQ_c, kd_non, kd_bl, kd_int, kd_str, kd_ref, kdO_lst, kdO_tup, kit_NoneType_bool, kit_NoneType_int, kit_NoneType_str, kit_NoneType_list, kit_NoneType_tuple, kit_bool_bool, kit_bool_int, kit_bool_str, kit_bool_list, kit_bool_tuple, kit_int_bool, kit_int_int, kit_int_str, kit_int_list, kit_int_tuple, kit_str_bool, kit_str_int, kit_str_str, kit_str_list, kit_str_tuple, kit_list_bool, kit_list_int, kit_list_str, kit_list_list, kit_list_tuple, kit_tuple_bool, kit_tuple_int, kit_tuple_str, kit_tuple_list, kit_tuple_tuple, V.ty.injEq, rSortQ, rSlQ, rMulS, tJn, rAtX, rSlS, tSl, tPart, tNoPart, cut_lo2, cut_hi2, rInQ, gLq, gTq, gC_c, gNil, tChain, List.cons_append, List.nil_append, tBL, tBL0, tBad, tCr, tCe, tXF, cxH_K, HO.xd.injEq, rApp, rPopN, rRevL, seqAt_lst, seqAt_tup, at_0, at_1, at_2, at_3, at_4, ix_0, ix_1, ix_2, ix_3, ix_4, cx_K, upd_same, List.length_cons, List.length_nil, Nat.reduceAdd,  rEq, rNe, tRevL, V.int.injEq, V.bl.injEq, V.str.injEq, V.ref.injEq, List.cons.injEq, and_true, true_and, exists_and_left, exists_and_right, exists_eq_left, exists_eq_left', exists_eq_right, exists_eq_right', exists_const, Option.some.injEq, List.getElem?_cons_zero, List.getElem?_cons_succ, List.set_cons_zero, List.set_cons_succ, decide_eq_true_eq, decide_true, decide_false,  scal_ii, scal_bb, scal_ss, cmul_r, cdiv_l, cpow_12, cpow_18, cpow_40, HO.lst.injEq, HO.tup.injEq, upd_upd, Int.reduceToNat,  decide_not, Bool.not_eq_true', decide_eq_false_iff_not, if_true, if_false, Bool.false_eq_true, Bool.true_eq_false, reduceCtorEq, Int.reduceNeg, Nat.reduceLT, Int.reduceLT, Int.reducePow, gt_iff_lt, fp]
      exact ⟨sz_of (by decide), fun p2 hp2 => q _ _ (fun b o e => same_new hp2 b o (sm b o e)) (rp_ref upd_same ((upd_ne (ne_of_none fq hp2)).trans fq) (by show 1 ≤ 10; decide) (.cons rfl .nil))⟩
    · have xT := bm.ex
      have xfT := bm.xf
      have xno_value := T.no CM (.inr (.inr rfl)) "value" (by decide +kernel)
      have xno_limit := T.no CM (.inr (.inr rfl)) "limit" (by decide +kernel)
      have xno_size := T.no CM (.inr (.inr rfl)) "size" (by decide +kernel)
      have xno_count := T.no CM (.inr (.inr rfl)) "count" (by decide +kernel)
      refine ⟨_, (pss_cons (ps_set (i := 1) sc_law_refusal.nd rfl (.inl rfl) (pe_lst pa_nil))
      (pss_cons (ps_if (pt_val (pe_callB (cr_isX xT xp xz xf) (by rfl) B.isinstance (by decide +kernel) (pa_cons (pv 0) (pa_cons (pe_gc rfl g_OutOfRange) pa_nil)))) (pss_one (ps_expr (pe_ml PySem.F.slot_list_append PySem.F.type_list_append mt_app (pv 1) (pa_cons (pe_tup (pa_cons pe_str (pa_cons (pe_xF xfT (xno_value) xp xz xf (pv 0)) (pa_cons (pe_xF xfT (xno_limit) xp xz xf (pv 0)) pa_nil)))) pa_nil)))) pss_nil)
      (pss_cons (ps_if (pt_val (pe_callB (cr_isX xT xp xz xf) (by rfl) B.isinstance (by decide +kernel) (pa_cons (pv 0) (pa_cons (pe_gc rfl g_BadSize) pa_nil)))) (pss_one (ps_expr (pe_ml PySem.F.slot_list_append PySem.F.type_list_append mt_app (pv 1) (pa_cons (pe_tup (pa_cons pe_str (pa_cons (pe_xF xfT (xno_size) xp xz xf (pv 0)) pa_nil))) pa_nil)))) pss_nil)
      (pss_cons (ps_if (pt_val (pe_callB (cr_isX xT xp xz xf) (by rfl) B.isinstance (by decide +kernel) (pa_cons (pv 0) (pa_cons (pe_gc rfl g_TooMany) pa_nil)))) (pss_one (ps_expr (pe_ml PySem.F.slot_list_append PySem.F.type_list_append mt_app (pv 1) (pa_cons (pe_tup (pa_cons pe_str (pa_cons (pe_xF xfT (xno_count) xp xz xf (pv 0)) (pa_cons (pe_xF xfT (xno_limit) xp xz xf (pv 0)) pa_nil)))) pa_nil)))) pss_nil)
      (pss_cons (ps_set (i := 2) sc_law_refusal.nd rfl (.inl rfl) (pe_and (pe_cmpR op_eq (pe_callB call_lenQ (by rfl) B.len PySem.boot_len (pa_cons (pv 1) pa_nil)) pe_int (nomark _)) (pe_one (pe_callB (cr_isX xT xp xz xf) (by rfl) B.isinstance (by decide +kernel) (pa_cons (pv 0) (pa_cons (pe_bltn (v := .ty "ValueError") (u := .type "ValueError") (by rfl) B.ValueError (by decide +kernel) rfl) pa_nil))))))
      (pss_one (ps_ret (pe_tup (pa_cons pe_str (pa_cons (pe_ifExp (pt_val (pv 2)) (pe_ix at_seq (pv 1) pe_int (fun _ _ => rfl)) (pe_tup (pa_cons pe_str pa_nil))) pa_nil)))))))))), ?_⟩
      rw [show L2.start N_law_refusal [.ref a] = [some (.ref a), none, none] from rfl]
      have l1 : (fMany [V.int v, V.int l]).lookup (Str.ofString "count") = some (V.int v) := look2 nCL
      have l2 : (fMany [V.int v, V.int l]).lookup (Str.ofString "limit") = some (V.int l) := look1
      have isF : ∀ (Hx : Hp) (Cy : Addr) (Z : VK), Hx dd = some (.xd (fMany [V.int v, V.int l])) → PySem.W.kitOne K (.ref CM) (.ref Cy) = some false → Z (.bl false) Hx → rIsX K a CM dd [.ref a, .ref Cy] Hx Z := fun Hx Cy Z h k z => ⟨_, h, .ref Cy, false, rfl, .inl ⟨.ref Cy, .own Cy, k⟩, z⟩
      have isT : ∀ (Hx : Hp) (Z : VK), Hx dd = some (.xd (fMany [V.int v, V.int l])) → Z (.bl true) Hx → rIsX K a CM dd [.ref a, .ref CM] Hx Z := fun Hx Z h z => ⟨_, h, .ref CM, true, rfl, .inl ⟨.ref CM, .own CM, kit_self⟩, z⟩
      have isV : ∀ (Hx : Hp) (Z : VK), Hx dd = some (.xd (fMany [V.int v, V.int l])) → Z (.bl true) Hx → rIsX K a CM dd [.ref a, .ty "ValueError"] Hx Z := fun Hx Z h z => ⟨_, h, .ty "ValueError", true, rfl, .inl ⟨.type "ValueError", .ty _, T.vm⟩, z⟩
      simp only [tSeq, tNext, tDrop, tRet, tRetN, tIfS, tAsg, gName, tAug, ipI, tVar, tC, tOp, tUn, rI, rI0, rU, tCons, tNil, tCB, tTup, tLst, tTest, tB, tAnd, tOr, tNot, tAndV, tOrV, tNotV, tIf, tCl, tCd, tCk, gSub, rPutL, rAtQ, rIntI, rLenQ, rLenS, rListQ, rTupL, rTupQ, rIsQ_c, kd_non, kd_bl, kd_int, kd_str, kd_ref, kdO_lst, kdO_tup, kit_NoneType_bool, kit_NoneType_int, kit_NoneType_str, kit_NoneType_list, kit_NoneType_tuple, kit_bool_bool, kit_bool_int, kit_bool_str, kit_bool_list, kit_bool_tuple, kit_int_bool, kit_int_int, kit_int_str, kit_int_list, kit_int_tuple, kit_str_bool, kit_str_int, kit_str_str, kit_str_list, kit_str_tuple, kit_list_bool, kit_list_int, kit_list_str, kit_list_list, kit_list_tuple, kit_tuple_bool, kit_tuple_int, kit_tuple_str, kit_tuple_list, kit_tuple_tuple, V.ty.injEq, rSortQ, rSlQ, rMulS, tJn, rAtX, rSlS, tSl, tPart, tNoPart, cut_lo2, cut_hi2, rInQ, gLq, gTq, gC_c, gNil, tChain, List.cons_append, List.nil_append, tBL, tBL0, tBad, tCr, tCe, tXF, cxH_K, HO.xd.injEq, rApp, rPopN, rRevL, seqAt_lst, seqAt_tup, at_0, at_1, at_2, at_3, at_4, ix_0, ix_1, ix_2, ix_3, ix_4, cx_K, upd_same, List.length_cons, List.length_nil, Nat.reduceAdd,  rEq, rNe, tRevL, V.int.injEq, V.bl.injEq, V.str.injEq, V.ref.injEq, List.cons.injEq, and_true, true_and, exists_and_left, exists_and_right, exists_eq_left, exists_eq_left', exists_eq_right, exists_eq_right', exists_const, Option.some.injEq, List.getElem?_cons_zero, List.getElem?_cons_succ, List.set_cons_zero, List.set_cons_succ, decide_eq_true_eq, decide_true, decide_false,  scal_ii, scal_bb, scal_ss, cmul_r, cdiv_l, cpow_12, cpow_18, cpow_40, HO.lst.injEq, HO.tup.injEq, upd_upd, Int.reduceToNat,  decide_not, Bool.not_eq_true', decide_eq_false_iff_not, if_true, if_false, Bool.false_eq_true, Bool.true_eq_false, reduceCtorEq, Int.reduceNeg, Nat.reduceLT, Int.reduceLT, Int.reducePow, gt_iff_lt]
      refine ⟨sz_of (by decide), fun p hp => ?_⟩
      have hd1 : upd H p (.lst []) dd = some (.xd (fMany [V.int v, V.int l])) := (upd_ne (ne_of_none hd hp)).trans hd
      refine isF _ CO _ hd1 T.mo ?_
      simp only [tSeq, tNext, tDrop, tRet, tRetN, tIfS, tAsg, gName, tAug, ipI, tVar, tC, tOp, tUn, rI, rI0, rU, tCons, tNil, tCB, tTup, tLst, tTest, tB, tAnd, tOr, tNot, tAndV, tOrV, tNotV, tIf, tCl, tCd, tCk, gSub, rPutL, rAtQ, rIntI, rLenQ, rLenS, rListQ, rTupL, rTupQ, rIsQ_c, kd_non, kd_bl, kd_int, kd_str, kd_ref, kdO_lst, kdO_tup, kit_NoneType_bool, kit_NoneType_int, kit_NoneType_str, kit_NoneType_list, kit_NoneType_tuple, kit_bool_bool, kit_bool_int, kit_bool_str, kit_bool_list, kit_bool_tuple, kit_int_bool, kit_int_int, kit_int_str, kit_int_list, kit_int_tuple, kit_str_bool, kit_str_int, kit_str_str, kit_str_list, kit_str_tuple, kit_list_bool, kit_list_int, kit_list_str, kit_list_list, kit_list_tuple, kit_tuple_bool, kit_tuple_int, kit_tuple_str, kit_tuple_list, kit_tuple_tuple, V.ty.injEq, rSortQ, rSlQ, rMulS, tJn, rAtX, rSlS, tSl, tPart, tNoPart, cut_lo2, cut_hi2, rInQ, gLq, gTq, gC_c, gNil, tChain, List.cons_append, List.nil_append, tBL, tBL0, tBad, tCr, tCe, tXF, cxH_K, HO.xd.injEq, rApp, rPopN, rRevL, seqAt_lst, seqAt_tup, at_0, at_1, at_2, at_3, at_4, ix_0, ix_1, ix_2, ix_3, ix_4, cx_K, upd_same, List.length_cons, List.length_nil, Nat.reduceAdd,  rEq, rNe, tRevL, V.int.injEq, V.bl.injEq, V.str.injEq, V.ref.injEq, List.cons.injEq, and_true, true_and, exists_and_left, exists_and_right, exists_eq_left, exists_eq_left', exists_eq_right, exists_eq_right', exists_const, Option.some.injEq, List.getElem?_cons_zero, List.getElem?_cons_succ, List.set_cons_zero, List.set_cons_succ, decide_eq_true_eq, decide_true, decide_false,  scal_ii, scal_bb, scal_ss, cmul_r, cdiv_l, cpow_12, cpow_18, cpow_40, HO.lst.injEq, HO.tup.injEq, upd_upd, Int.reduceToNat,  decide_not, Bool.not_eq_true', decide_eq_false_iff_not, if_true, if_false, Bool.false_eq_true, Bool.true_eq_false, reduceCtorEq, Int.reduceNeg, Nat.reduceLT, Int.reduceLT, Int.reducePow, gt_iff_lt]
      refine isF _ CS _ hd1 T.ms ?_
      simp only [tSeq, tNext, tDrop, tRet, tRetN, tIfS, tAsg, gName, tAug, ipI, tVar, tC, tOp, tUn, rI, rI0, rU, tCons, tNil, tCB, tTup, tLst, tTest, tB, tAnd, tOr, tNot, tAndV, tOrV, tNotV, tIf, tCl, tCd, tCk, gSub, rPutL, rAtQ, rIntI, rLenQ, rLenS, rListQ, rTupL, rTupQ, rIsQ_c, kd_non, kd_bl, kd_int, kd_str, kd_ref, kdO_lst, kdO_tup, kit_NoneType_bool, kit_NoneType_int, kit_NoneType_str, kit_NoneType_list, kit_NoneType_tuple, kit_bool_bool, kit_bool_int, kit_bool_str, kit_bool_list, kit_bool_tuple, kit_int_bool, kit_int_int, kit_int_str, kit_int_list, kit_int_tuple, kit_str_bool, kit_str_int, kit_str_str, kit_str_list, kit_str_tuple, kit_list_bool, kit_list_int, kit_list_str, kit_list_list, kit_list_tuple, kit_tuple_bool, kit_tuple_int, kit_tuple_str, kit_tuple_list, kit_tuple_tuple, V.ty.injEq, rSortQ, rSlQ, rMulS, tJn, rAtX, rSlS, tSl, tPart, tNoPart, cut_lo2, cut_hi2, rInQ, gLq, gTq, gC_c, gNil, tChain, List.cons_append, List.nil_append, tBL, tBL0, tBad, tCr, tCe, tXF, cxH_K, HO.xd.injEq, rApp, rPopN, rRevL, seqAt_lst, seqAt_tup, at_0, at_1, at_2, at_3, at_4, ix_0, ix_1, ix_2, ix_3, ix_4, cx_K, upd_same, List.length_cons, List.length_nil, Nat.reduceAdd,  rEq, rNe, tRevL, V.int.injEq, V.bl.injEq, V.str.injEq, V.ref.injEq, List.cons.injEq, and_true, true_and, exists_and_left, exists_and_right, exists_eq_left, exists_eq_left', exists_eq_right, exists_eq_right', exists_const, Option.some.injEq, List.getElem?_cons_zero, List.getElem?_cons_succ, List.set_cons_zero, List.set_cons_succ, decide_eq_true_eq, decide_true, decide_false,  scal_ii, scal_bb, scal_ss, cmul_r, cdiv_l, cpow_12, cpow_18, cpow_40, HO.lst.injEq, HO.tup.injEq, upd_upd, Int.reduceToNat,  decide_not, Bool.not_eq_true', decide_eq_false_iff_not, if_true, if_false, Bool.false_eq_true, Bool.true_eq_false, reduceCtorEq, Int.reduceNeg, Nat.reduceLT, Int.reduceLT, Int.reducePow, gt_iff_lt]
      refine isT _ _ hd1 ?_
      simp only [tSeq, tNext, tDrop, tRet, tRetN, tIfS, tAsg, gName, tAug, ipI, tVar, tC, tOp, tUn, rI, rI0, rU, tCons, tNil, tCB, tTup, tLst, tTest, tB, tAnd, tOr, tNot, tAndV, tOrV, tNotV, tIf, tCl, tCd, tCk, gSub, rPutL, rAtQ, rIntI, rLenQ, rLenS, rListQ, rTupL, rTupQ, rIsQ_c, kd_non, kd_bl, kd_int, kd_str, kd_ref, kdO_lst, kdO_tup, kit_NoneType_bool, kit_NoneType_int, kit_NoneType_str, kit_NoneType_list, kit_NoneType_tuple, kit_bool_bool, kit_bool_int, kit_bool_str, kit_bool_list, kit_bool_tuple, kit_int_bool, kit_int_int, kit_int_str, kit_int_list, kit_int_tuple, kit_str_bool, kit_str_int, kit_str_str, kit_str_list, kit_str_tuple, kit_list_bool, kit_list_int, kit_list_str, kit_list_list, kit_list_tuple, kit_tuple_bool, kit_tuple_int, kit_tuple_str, kit_tuple_list, kit_tuple_tuple, V.ty.injEq, rSortQ, rSlQ, rMulS, tJn, rAtX, rSlS, tSl, tPart, tNoPart, cut_lo2, cut_hi2, rInQ, gLq, gTq, gC_c, gNil, tChain, List.cons_append, List.nil_append, tBL, tBL0, tBad, tCr, tCe, tXF, cxH_K, HO.xd.injEq, rApp, rPopN, rRevL, seqAt_lst, seqAt_tup, at_0, at_1, at_2, at_3, at_4, ix_0, ix_1, ix_2, ix_3, ix_4, cx_K, upd_same, List.length_cons, List.length_nil, Nat.reduceAdd,  rEq, rNe, tRevL, V.int.injEq, V.bl.injEq, V.str.injEq, V.ref.injEq, List.cons.injEq, and_true, true_and, exists_and_left, exists_and_right, exists_eq_left, exists_eq_left', exists_eq_right, exists_eq_right', exists_const, Option.some.injEq, List.getElem?_cons_zero, List.getElem?_cons_succ, List.set_cons_zero, List.set_cons_succ, decide_eq_true_eq, decide_true, decide_false,  scal_ii, scal_bb, scal_ss, cmul_r, cdiv_l, cpow_12, cpow_18, cpow_40, HO.lst.injEq, HO.tup.injEq, upd_upd, Int.reduceToNat,  decide_not, Bool.not_eq_true', decide_eq_false_iff_not, if_true, if_false, Bool.false_eq_true, Bool.true_eq_false, reduceCtorEq, Int.reduceNeg, Nat.reduceLT, Int.reduceLT, Int.reducePow, gt_iff_lt, hd1, l1, l2]
      refine ⟨⟨_, rfl⟩, sz_of (by decide), fun p1 hp1 => ?_⟩
      have n1 : p ≠ p1 := ne_of_none upd_same hp1
      have z1 : H p1 = none := by rw [upd_ne n1.symm] at hp1; exact hp1
      refine ⟨[], (upd_ne n1).trans upd_same, sz_lt (by decide), ?_⟩
      obtain ⟨H1, e1⟩ : ∃ X, X = upd (upd (upd H p (.lst [])) p1 (.tup [.str (Str.ofString "TooMany"), .int v, .int l])) p (.lst ([] ++ [V.ref p1])) := ⟨_, rfl⟩
      rw [← e1]
      have fp : H1 p = some (.lst [V.ref p1]) := by rw [e1, upd_same] <;> rfl
      have fq : H1 p1 = some (.tup [.str (Str.ofString "TooMany"), .int v, .int l]) := by rw [e1, upd_ne n1.symm, upd_same]
      have sm : Same H H1 := by
        rw [e1]
        exact fun b o e => by rw [upd_ne (ne_of_none e hp)]; exact same_new hp1 b o (same_new hp b o e)
      have fd := sm _ _ hd
      try simp only [List.nil_append, List.length_cons, List.length_nil]
      refine (if_pos (show ((1 : Nat) : Int) = 1 from rfl)).mpr ?_
      refine isV _ _ fd ?_
      simp only [tSeq, tNext, tDrop, tRet, tRetN, tIfS, tAsg, gName, tAug, ipI, tVar, tC, tOp, tUn, rI, rI0, rU, tCons, tNil, tCB, tTup, tLst, tTest, tB, tAnd, tOr, tNot, tAndV, tOrV, tNotV, tIf, tCl, tCd, tCk, gSub, rPutL, rAtQ, rIntI, rLenQ, rLenS, rListQ, rTupL, rTupQ, rIsQ_c, kd_non, kd_bl, kd_int, kd_str, kd_ref, kdO_lst, kdO_tup, kit_NoneType_bool, kit_NoneType_int, kit_NoneType_str, kit_NoneType_list, kit_NoneType_tuple, kit_bool_bool, kit_bool_int, kit_bool_str, kit_bool_list, kit_bool_tuple, kit_int_bool, kit_int_int, kit_int_str, kit_int_list, kit_int_tuple, kit_str_bool, kit_str_int, kit_str_str, kit_str_list, kit_str_tuple, kit_list_bool, kit_list_int, kit_list_str, kit_list_list, kit_list_tuple, kit_tuple_bool, kit_tuple_int, kit_tuple_str, kit_tuple_list, kit_tuple_tuple, V.ty.injEq, rSortQ, rSlQ, rMulS, tJn, rAtX, rSlS, tSl, tPart, tNoPart, cut_lo2, cut_hi2, rInQ, gLq, gTq, gC_c, gNil, tChain, List.cons_append, List.nil_append, tBL, tBL0, tBad, tCr, tCe, tXF, cxH_K, HO.xd.injEq, rApp, rPopN, rRevL, seqAt_lst, seqAt_tup, at_0, at_1, at_2, at_3, at_4, ix_0, ix_1, ix_2, ix_3, ix_4, cx_K, upd_same, List.length_cons, List.length_nil, Nat.reduceAdd,  rEq, rNe, tRevL, V.int.injEq, V.bl.injEq, V.str.injEq, V.ref.injEq, List.cons.injEq, and_true, true_and, exists_and_left, exists_and_right, exists_eq_left, exists_eq_left', exists_eq_right, exists_eq_right', exists_const, Option.some.injEq, List.getElem?_cons_zero, List.getElem?_cons_succ, List.set_cons_zero, List.set_cons_succ, decide_eq_true_eq, decide_true, decide_false,  scal_ii, scal_bb, scal_ss, cmul_r, cdiv_l, cpow_12, cpow_18, cpow_40, HO.lst.injEq, HO.tup.injEq, upd_upd, Int.reduceToNat,  decide_not, Bool.not_eq_true', decide_eq_false_iff_not, if_true, if_false, Bool.false_eq_true, Bool.true_eq_false, reduceCtorEq, Int.reduceNeg, Nat.reduceLT, Int.reduceLT, Int.reducePow, gt_iff_lt, fp]
      exact ⟨sz_of (by decide), fun p2 hp2 => q _ _ (fun b o e => same_new hp2 b o (sm b o e)) (rp_ref upd_same ((upd_ne (ne_of_none fq hp2)).trans fq) (by show 2 ≤ 10; decide) (.cons rfl (.cons rfl .nil)))⟩
abbrev s_law_ask_size : Stmt := topS 25
abbrev N_law_ask_size : List Str := ["number", "e"]
theorem sc_law_ask_size : FnScope N_law_ask_size ["number"] (defScope s_law_ask_size) := ⟨rfl, rfl, rfl, by decide +kernel, rfl, by decide +kernel, by decide +kernel⟩
theorem b_law_ask_size : BindO "_law_ask_size" s_law_ask_size ["number"] := fun _ _ _ _ _ _ us hl => match us, hl with | [_], _ => rfl

def sp_ask_size : Sp := fun vs H Q _ => ∃ n : Int, vs = [.int n] ∧ ∀ (u : V) (H' : Hp), Same H H' → Rp All H' 5 u (dueS n) → Q u H'
theorem ok_ask_size (D : Dn K mg "_law_ask_size" s_law_ask_size) {CO CS CM HE : Addr} (m_HedgeError : mg "HedgeError" = some (.ref HE)) (eo : PySem.W.exmOne K (.ref CO) (.ref HE) = some true) (es : PySem.W.exmOne K (.ref CS) (.ref HE) = some true)
    (crk_pond_histories : Crk P w K mg base 4 "pond_histories" ["size"] (sp_ph CS CO)) (c_law_refusal : Ce P w K mg base 1 "_law_refusal" (sp_refusal CO CS CM)) : Cl P w K mg base 5 "_law_ask_size" sp_ask_size := by
  refine cl_of D sc_law_ask_size b_law_ask_size (fun vs H Q E h => ?_) (fun f cdv A outer s H vs Q E hr h => ?_)
  · obtain ⟨n, rfl, _⟩ := h
    rfl
  · obtain ⟨n, rfl, q⟩ := h
    refine ⟨_, (pss_one (ps_try_as (i := 1) rfl rfl sc_law_ask_size.nd rfl rfl ⟨rfl, by decide, .inl m_HedgeError⟩ takes0 (fun _ _ _ tk _ => (pss_one (ps_ret (pe_tup (pa_cons pe_str (pa_cons (pe_crk0 crk_pond_histories tk hr (by omega) rfl (pk_cons (pv 0) pk_nil)) pa_nil)))))) (fun _ _ _ _ _ hz hf => (pss_one (ps_ret (pe_ce c_law_refusal List.mem_cons_self hz hf (roomH_mark hr _) (by omega) rfl (pa_cons (pv 1) pa_nil))))))), ?_⟩
    rw [show L2.start N_law_ask_size [.int n] = [some (.int n), none] from rfl]
    simp only [tSeq, tNext, tDrop, tRet, tRetN, tIfS, tAsg, gName, tAug, ipI, tVar, tC, tOp, tUn, rI, rI0, rU, tCons, tNil, tCB, tTup, tLst, tTest, tB, tAnd, tOr, tNot, tAndV, tOrV, tNotV, tIf, tCl, tCd, tCk, gSub, rPutL, rAtQ, rIntI, rLenQ, rLenS, rListQ, rTupL, rTupQ, rIsQ_c, kd_non, kd_bl, kd_int, kd_str, kd_ref, kdO_lst, kdO_tup, kit_NoneType_bool, kit_NoneType_int, kit_NoneType_str, kit_NoneType_list, kit_NoneType_tuple, kit_bool_bool, kit_bool_int, kit_bool_str, kit_bool_list, kit_bool_tuple, kit_int_bool, kit_int_int, kit_int_str, kit_int_list, kit_int_tuple, kit_str_bool, kit_str_int, kit_str_str, kit_str_list, kit_str_tuple, kit_list_bool, kit_list_int, kit_list_str, kit_list_list, kit_list_tuple, kit_tuple_bool, kit_tuple_int, kit_tuple_str, kit_tuple_list, kit_tuple_tuple, V.ty.injEq, rSortQ, rSlQ, rMulS, tJn, rAtX, rSlS, tSl, tPart, tNoPart, cut_lo2, cut_hi2, rInQ, gLq, gTq, gC_c, gNil, tChain, List.cons_append, List.nil_append, tBL, tBL0, tBad, tCr, tCe, tXF, cxH_K, HO.xd.injEq, rApp, rPopN, rRevL, seqAt_lst, seqAt_tup, at_0, at_1, at_2, at_3, at_4, ix_0, ix_1, ix_2, ix_3, ix_4, cx_K, upd_same, List.length_cons, List.length_nil, Nat.reduceAdd,  rEq, rNe, tRevL, V.int.injEq, V.bl.injEq, V.str.injEq, V.ref.injEq, List.cons.injEq, and_true, true_and, exists_and_left, exists_and_right, exists_eq_left, exists_eq_left', exists_eq_right, exists_eq_right', exists_const, Option.some.injEq, List.getElem?_cons_zero, List.getElem?_cons_succ, List.set_cons_zero, List.set_cons_succ, decide_eq_true_eq, decide_true, decide_false,  scal_ii, scal_bb, scal_ss, cmul_r, cdiv_l, cpow_12, cpow_18, cpow_40, HO.lst.injEq, HO.tup.injEq, upd_upd, Int.reduceToNat,  decide_not, Bool.not_eq_true', decide_eq_false_iff_not, if_true, if_false, Bool.false_eq_true, Bool.true_eq_false, reduceCtorEq, Int.reduceNeg, Nat.reduceLT, Int.reduceLT, Int.reducePow, gt_iff_lt, tCrk]
    refine ⟨n, rfl, fun h1 h2 => ⟨sz_of (by decide), fun p hp => q _ _ (same_new hp) ?_⟩, fun h0 d H1 r1 _ hd => ⟨true, es, fun _ a ha => ?_, fun h => by cases h⟩, fun h0 d H1 r1 _ hd => ⟨true, eo, fun _ a ha => ?_, fun h => by cases h⟩⟩
    · unfold dueS
      rw [if_neg (by omega), if_neg (by omega)]
      exact rp_told upd_same
    · simp only [tSeq, tNext, tDrop, tRet, tRetN, tIfS, tAsg, gName, tAug, ipI, tVar, tC, tOp, tUn, rI, rI0, rU, tCons, tNil, tCB, tTup, tLst, tTest, tB, tAnd, tOr, tNot, tAndV, tOrV, tNotV, tIf, tCl, tCd, tCk, gSub, rPutL, rAtQ, rIntI, rLenQ, rLenS, rListQ, rTupL, rTupQ, rIsQ_c, kd_non, kd_bl, kd_int, kd_str, kd_ref, kdO_lst, kdO_tup, kit_NoneType_bool, kit_NoneType_int, kit_NoneType_str, kit_NoneType_list, kit_NoneType_tuple, kit_bool_bool, kit_bool_int, kit_bool_str, kit_bool_list, kit_bool_tuple, kit_int_bool, kit_int_int, kit_int_str, kit_int_list, kit_int_tuple, kit_str_bool, kit_str_int, kit_str_str, kit_str_list, kit_str_tuple, kit_list_bool, kit_list_int, kit_list_str, kit_list_list, kit_list_tuple, kit_tuple_bool, kit_tuple_int, kit_tuple_str, kit_tuple_list, kit_tuple_tuple, V.ty.injEq, rSortQ, rSlQ, rMulS, tJn, rAtX, rSlS, tSl, tPart, tNoPart, cut_lo2, cut_hi2, rInQ, gLq, gTq, gC_c, gNil, tChain, List.cons_append, List.nil_append, tBL, tBL0, tBad, tCr, tCe, tXF, cxH_K, HO.xd.injEq, rApp, rPopN, rRevL, seqAt_lst, seqAt_tup, at_0, at_1, at_2, at_3, at_4, ix_0, ix_1, ix_2, ix_3, ix_4, cx_K, upd_same, List.length_cons, List.length_nil, Nat.reduceAdd,  rEq, rNe, tRevL, V.int.injEq, V.bl.injEq, V.str.injEq, V.ref.injEq, List.cons.injEq, and_true, true_and, exists_and_left, exists_and_right, exists_eq_left, exists_eq_left', exists_eq_right, exists_eq_right', exists_const, Option.some.injEq, List.getElem?_cons_zero, List.getElem?_cons_succ, List.set_cons_zero, List.set_cons_succ, decide_eq_true_eq, decide_true, decide_false,  scal_ii, scal_bb, scal_ss, cmul_r, cdiv_l, cpow_12, cpow_18, cpow_40, HO.lst.injEq, HO.tup.injEq, upd_upd, Int.reduceToNat,  decide_not, Bool.not_eq_true', decide_eq_false_iff_not, if_true, if_false, Bool.false_eq_true, Bool.true_eq_false, reduceCtorEq, Int.reduceNeg, Nat.reduceLT, Int.reduceLT, Int.reducePow, gt_iff_lt]
      refine ⟨d, rfl, rfl, .inr (.inl ⟨rfl, 0, hd, fun u H2 r2 ru => q _ _ (fun b o e => r2 b o (r1 b o e)) ?_⟩)⟩
      unfold dueS
      rw [if_neg (by omega), if_pos h0]
      exact ru
    · simp only [tSeq, tNext, tDrop, tRet, tRetN, tIfS, tAsg, gName, tAug, ipI, tVar, tC, tOp, tUn, rI, rI0, rU, tCons, tNil, tCB, tTup, tLst, tTest, tB, tAnd, tOr, tNot, tAndV, tOrV, tNotV, tIf, tCl, tCd, tCk, gSub, rPutL, rAtQ, rIntI, rLenQ, rLenS, rListQ, rTupL, rTupQ, rIsQ_c, kd_non, kd_bl, kd_int, kd_str, kd_ref, kdO_lst, kdO_tup, kit_NoneType_bool, kit_NoneType_int, kit_NoneType_str, kit_NoneType_list, kit_NoneType_tuple, kit_bool_bool, kit_bool_int, kit_bool_str, kit_bool_list, kit_bool_tuple, kit_int_bool, kit_int_int, kit_int_str, kit_int_list, kit_int_tuple, kit_str_bool, kit_str_int, kit_str_str, kit_str_list, kit_str_tuple, kit_list_bool, kit_list_int, kit_list_str, kit_list_list, kit_list_tuple, kit_tuple_bool, kit_tuple_int, kit_tuple_str, kit_tuple_list, kit_tuple_tuple, V.ty.injEq, rSortQ, rSlQ, rMulS, tJn, rAtX, rSlS, tSl, tPart, tNoPart, cut_lo2, cut_hi2, rInQ, gLq, gTq, gC_c, gNil, tChain, List.cons_append, List.nil_append, tBL, tBL0, tBad, tCr, tCe, tXF, cxH_K, HO.xd.injEq, rApp, rPopN, rRevL, seqAt_lst, seqAt_tup, at_0, at_1, at_2, at_3, at_4, ix_0, ix_1, ix_2, ix_3, ix_4, cx_K, upd_same, List.length_cons, List.length_nil, Nat.reduceAdd,  rEq, rNe, tRevL, V.int.injEq, V.bl.injEq, V.str.injEq, V.ref.injEq, List.cons.injEq, and_true, true_and, exists_and_left, exists_and_right, exists_eq_left, exists_eq_left', exists_eq_right, exists_eq_right', exists_const, Option.some.injEq, List.getElem?_cons_zero, List.getElem?_cons_succ, List.set_cons_zero, List.set_cons_succ, decide_eq_true_eq, decide_true, decide_false,  scal_ii, scal_bb, scal_ss, cmul_r, cdiv_l, cpow_12, cpow_18, cpow_40, HO.lst.injEq, HO.tup.injEq, upd_upd, Int.reduceToNat,  decide_not, Bool.not_eq_true', decide_eq_false_iff_not, if_true, if_false, Bool.false_eq_true, Bool.true_eq_false, reduceCtorEq, Int.reduceNeg, Nat.reduceLT, Int.reduceLT, Int.reducePow, gt_iff_lt]
      refine ⟨d, rfl, rfl, .inl ⟨rfl, n, 11, hd, fun u H2 r2 ru => q _ _ (fun b o e => r2 b o (r1 b o e)) ?_⟩⟩
      unfold dueS
      rw [if_pos h0]
      exact ru
abbrev s_law_ask_row : Stmt := topS 26
abbrev N_law_ask_row : List Str := ["length_row", "e"]
theorem sc_law_ask_row : FnScope N_law_ask_row ["length_row"] (defScope s_law_ask_row) := ⟨rfl, rfl, rfl, by decide +kernel, rfl, by decide +kernel, by decide +kernel⟩
theorem b_law_ask_row : BindO "_law_ask_row" s_law_ask_row ["length_row"] := fun _ _ _ _ _ _ us hl => match us, hl with | [_], _ => rfl

def sp_ask_row (seq : Hp → Addr → List V → Prop) : Sp := fun vs H Q _ => ∃ (p : Addr) (ns : List Int), vs = [.ref p] ∧ seq H p (ns.map V.int) ∧ (∀ n ∈ ns, 0 ≤ n) ∧ ∀ (u : V) (H' : Hp), Same H H' → Rp All H' 5 u (dueR ns) → Q u H'
theorem ok_ask_row (seq : Hp → Addr → List V → Prop) (D : Dn K mg "_law_ask_row" s_law_ask_row) {CO CS CM HE : Addr} (m_HedgeError : mg "HedgeError" = some (.ref HE)) (em : PySem.W.exmOne K (.ref CM) (.ref HE) = some true)
    (c_count_mixes : Cr P w K mg base 4 "count_mixes" (sp_mix seq CM)) (c_law_refusal : Ce P w K mg base 1 "_law_refusal" (sp_refusal CO CS CM)) : Cl P w K mg base 5 "_law_ask_row" (sp_ask_row seq) := by
  refine cl_of D sc_law_ask_row b_law_ask_row (fun vs H Q E h => ?_) (fun f cdv A outer s H vs Q E hr h => ?_)
  · obtain ⟨p, ns, rfl, _⟩ := h
    rfl
  · obtain ⟨p, ns, rfl, hs, hn, q⟩ := h
    refine ⟨_, (pss_one (ps_try_as (i := 1) rfl rfl sc_law_ask_row.nd rfl rfl ⟨rfl, by decide, .inl m_HedgeError⟩ takes0 (fun _ _ _ tk _ => (pss_one (ps_ret (pe_tup (pa_cons pe_str (pa_cons (pe_cr c_count_mixes tk hr (by omega) rfl (pa_cons (pv 0) pa_nil)) pa_nil)))))) (fun _ _ _ _ _ hz hf => (pss_one (ps_ret (pe_ce c_law_refusal List.mem_cons_self hz hf (roomH_mark hr _) (by omega) rfl (pa_cons (pv 1) pa_nil))))))), ?_⟩
    rw [show L2.start N_law_ask_row [.ref p] = [some (.ref p), none] from rfl]
    simp only [tSeq, tNext, tDrop, tRet, tRetN, tIfS, tAsg, gName, tAug, ipI, tVar, tC, tOp, tUn, rI, rI0, rU, tCons, tNil, tCB, tTup, tLst, tTest, tB, tAnd, tOr, tNot, tAndV, tOrV, tNotV, tIf, tCl, tCd, tCk, gSub, rPutL, rAtQ, rIntI, rLenQ, rLenS, rListQ, rTupL, rTupQ, rIsQ_c, kd_non, kd_bl, kd_int, kd_str, kd_ref, kdO_lst, kdO_tup, kit_NoneType_bool, kit_NoneType_int, kit_NoneType_str, kit_NoneType_list, kit_NoneType_tuple, kit_bool_bool, kit_bool_int, kit_bool_str, kit_bool_list, kit_bool_tuple, kit_int_bool, kit_int_int, kit_int_str, kit_int_list, kit_int_tuple, kit_str_bool, kit_str_int, kit_str_str, kit_str_list, kit_str_tuple, kit_list_bool, kit_list_int, kit_list_str, kit_list_list, kit_list_tuple, kit_tuple_bool, kit_tuple_int, kit_tuple_str, kit_tuple_list, kit_tuple_tuple, V.ty.injEq, rSortQ, rSlQ, rMulS, tJn, rAtX, rSlS, tSl, tPart, tNoPart, cut_lo2, cut_hi2, rInQ, gLq, gTq, gC_c, gNil, tChain, List.cons_append, List.nil_append, tBL, tBL0, tBad, tCr, tCe, tXF, cxH_K, HO.xd.injEq, rApp, rPopN, rRevL, seqAt_lst, seqAt_tup, at_0, at_1, at_2, at_3, at_4, ix_0, ix_1, ix_2, ix_3, ix_4, cx_K, upd_same, List.length_cons, List.length_nil, Nat.reduceAdd,  rEq, rNe, tRevL, V.int.injEq, V.bl.injEq, V.str.injEq, V.ref.injEq, List.cons.injEq, and_true, true_and, exists_and_left, exists_and_right, exists_eq_left, exists_eq_left', exists_eq_right, exists_eq_right', exists_const, Option.some.injEq, List.getElem?_cons_zero, List.getElem?_cons_succ, List.set_cons_zero, List.set_cons_succ, decide_eq_true_eq, decide_true, decide_false,  scal_ii, scal_bb, scal_ss, cmul_r, cdiv_l, cpow_12, cpow_18, cpow_40, HO.lst.injEq, HO.tup.injEq, upd_upd, Int.reduceToNat,  decide_not, Bool.not_eq_true', decide_eq_false_iff_not, if_true, if_false, Bool.false_eq_true, Bool.true_eq_false, reduceCtorEq, Int.reduceNeg, Nat.reduceLT, Int.reduceLT, Int.reducePow, gt_iff_lt]
    refine ⟨p, ns, rfl, hs, hn, fun h20 => ⟨sz_of (by decide), fun p hp => q _ _ (same_new hp) ?_⟩, fun h20 d H1 r1 _ hd => ⟨true, em, fun _ a ha => ?_, fun h => by cases h⟩⟩
    · unfold dueR
      rw [if_neg (by omega)]
      exact rp_told upd_same
    · simp only [tSeq, tNext, tDrop, tRet, tRetN, tIfS, tAsg, gName, tAug, ipI, tVar, tC, tOp, tUn, rI, rI0, rU, tCons, tNil, tCB, tTup, tLst, tTest, tB, tAnd, tOr, tNot, tAndV, tOrV, tNotV, tIf, tCl, tCd, tCk, gSub, rPutL, rAtQ, rIntI, rLenQ, rLenS, rListQ, rTupL, rTupQ, rIsQ_c, kd_non, kd_bl, kd_int, kd_str, kd_ref, kdO_lst, kdO_tup, kit_NoneType_bool, kit_NoneType_int, kit_NoneType_str, kit_NoneType_list, kit_NoneType_tuple, kit_bool_bool, kit_bool_int, kit_bool_str, kit_bool_list, kit_bool_tuple, kit_int_bool, kit_int_int, kit_int_str, kit_int_list, kit_int_tuple, kit_str_bool, kit_str_int, kit_str_str, kit_str_list, kit_str_tuple, kit_list_bool, kit_list_int, kit_list_str, kit_list_list, kit_list_tuple, kit_tuple_bool, kit_tuple_int, kit_tuple_str, kit_tuple_list, kit_tuple_tuple, V.ty.injEq, rSortQ, rSlQ, rMulS, tJn, rAtX, rSlS, tSl, tPart, tNoPart, cut_lo2, cut_hi2, rInQ, gLq, gTq, gC_c, gNil, tChain, List.cons_append, List.nil_append, tBL, tBL0, tBad, tCr, tCe, tXF, cxH_K, HO.xd.injEq, rApp, rPopN, rRevL, seqAt_lst, seqAt_tup, at_0, at_1, at_2, at_3, at_4, ix_0, ix_1, ix_2, ix_3, ix_4, cx_K, upd_same, List.length_cons, List.length_nil, Nat.reduceAdd,  rEq, rNe, tRevL, V.int.injEq, V.bl.injEq, V.str.injEq, V.ref.injEq, List.cons.injEq, and_true, true_and, exists_and_left, exists_and_right, exists_eq_left, exists_eq_left', exists_eq_right, exists_eq_right', exists_const, Option.some.injEq, List.getElem?_cons_zero, List.getElem?_cons_succ, List.set_cons_zero, List.set_cons_succ, decide_eq_true_eq, decide_true, decide_false,  scal_ii, scal_bb, scal_ss, cmul_r, cdiv_l, cpow_12, cpow_18, cpow_40, HO.lst.injEq, HO.tup.injEq, upd_upd, Int.reduceToNat,  decide_not, Bool.not_eq_true', decide_eq_false_iff_not, if_true, if_false, Bool.false_eq_true, Bool.true_eq_false, reduceCtorEq, Int.reduceNeg, Nat.reduceLT, Int.reduceLT, Int.reducePow, gt_iff_lt]
      refine ⟨d, rfl, rfl, .inr (.inr ⟨rfl, ns.sum, 20, hd, fun u H2 r2 ru => q _ _ (fun b o e => r2 b o (r1 b o e)) ?_⟩)⟩
      unfold dueR
      rw [if_pos h20]
      exact ru
end
end Z
set_option Elab.async false
set_option linter.all false
set_option maxRecDepth 100000
set_option maxHeartbeats 4000000
namespace Z
open PySem PySem.Spec PyProof.Rows L2 L2H
section
variable {P : Program} {w : World} {K : PySem.W.Frag} {mg : Str → Option Value} {base : Heap}
theorem Rp.drew {S : Sto} {H H' : Hp} {n : Nat} {v : V} {d : Dt} (r : Rp (fun b => b ≠ S.a) H n v d) (e : Drew S H H') : Rp (fun b => b ≠ S.a) H' n v d := r.keep fun b o nb h => e.but b o nb h
theorem dueR_rev (ns : List Int) : dueR ns.reverse = dueR ns := by
  unfold dueR mx
  rw [sum_rev, pfac_rev]
theorem last_or {c : Prop} [Decidable c] {n : Int} {H : Hp} {T Z : Hp → Prop} (h : c → 2 ≤ n ∧ n ≤ 10) (hT : ∀ H3, Same H H3 → T H3) : if c then sp_last [.int n] H (fun x H1 => ∃ b, x = .bl b ∧ if b = false then Z H1 else T H1) E0 else T H := by
  split
  · rename_i hc
    exact ⟨n, rfl, (h hc).1, (h hc).2, fun H3 r => ⟨true, rfl, by rw [if_neg (by decide)]; exact hT H3 r⟩⟩
  · exact hT H fun _ _ e => e
abbrev s_law : Stmt := topS 34
abbrev N_law : List Str := ["script", "store", "triangle", "k", "number", "many", "length_row", "due", "passed"]
theorem sc_law : FnScope N_law ["script"] (defScope s_law) := ⟨rfl, rfl, rfl, by decide +kernel, rfl, by decide +kernel, by decide +kernel⟩
theorem b_law : BindO "law" s_law ["script"] := fun _ _ _ _ _ _ us hl => match us, hl with | [_], _ => rfl

theorem fn_law {f : Addr} {fd : FuncData} (F : Fun K "law" "law" s_law f fd) (B : Blt mg) (c_law_store : Cl P w K mg base 1 "_law_store" (sp_store K)) (c_law_take : Cl P w K mg base 2 "_law_take" sp_take) (c_law_triangle : Cl P w K mg base 1 "_law_triangle" sp_triangle) (c_law_size : Cl P w K mg base 4 "_law_size" sp_any)
    (c_law_same : Cl P w K mg base 5 "_law_same" (sp_same 5)) (c_law_ask_size : Cl P w K mg base 5 "_law_ask_size" sp_ask_size) (c_law_histories_due : Cl P w K mg base 1 "_law_histories_due" sp_histories_due) (c_law_by_last_deed : Cl P w K mg base 5 "_law_by_last_deed" sp_last) (c_law_length_row : Cl P w K mg base 5 "_law_length_row" sp_length_row)
    (c_law_mixes_due : Cl P w K mg base 1 "_law_mixes_due" sp_mixes_due) (c_law_copy : Cl P w K mg base 2 "_law_copy" sp_copyI) (c_law_ask_row : Cl P w K mg base 5 "_law_ask_row" (sp_ask_row seqL)) (c_law_ask_rowT : Cl P w K mg base 5 "_law_ask_row" (sp_ask_row seqT)) : FnOk P w K mg base CX0 6 f fd ["script"] (sp_top K) := by
  refine F.ok sc_law (fun vs H Q E h => ?_) (fun cdv A outer s H vs Q E hr h => ?_)
  · obtain ⟨a, ns, rfl, _⟩ := h
    rfl
  · obtain ⟨a, ns, rfl, hs, hn, q⟩ := h
    refine ⟨_, (pss_cons (ps_set (i := 1) sc_law.nd rfl (.inl rfl) (pe_cl c_law_store hr (by omega) rfl (pa_cons (pv 0) pa_nil)))
      (pss_cons (ps_set (i := 2) sc_law.nd rfl (.inl rfl) (pe_cl0 c_law_triangle hr (by omega) rfl))
      (pss_cons (ps_for PassesOwn.never rfl (pi_range1 (by rfl) B.range (pa_cons pe_int pa_nil)) (pg_name (i := 3) sc_law.nd rfl (.inl rfl)) (pss_cons (ps_set (i := 4) sc_law.nd rfl (.inl rfl) (pe_cl c_law_size hr (by omega) rfl (pa_cons (pv 1) pa_nil)))
      (pss_one (ps_if (pt_not (pt_val (pe_cl c_law_same hr (by omega) rfl (pa_cons (pe_cl c_law_ask_size hr (by omega) rfl (pa_cons (pv 4) pa_nil)) (pa_cons (pe_cl c_law_histories_due hr (by omega) rfl (pa_cons (pv 2) (pa_cons (pv 4) pa_nil))) pa_nil))))) (pss_one (ps_ret pe_bl)) pss_nil))))
      (pss_cons (ps_set (i := 5) sc_law.nd rfl (.inl rfl) (pe_op op_add pe_int (pe_cl c_law_take hr (by omega) rfl (pa_cons (pv 1) (pa_cons pe_int pa_nil)))))
      (pss_cons (ps_if (PW.pt (pw_and (pt_cmpR op_gt (pv 5) pe_int (nomark _)) (pw_and1 (pt_not (pt_val (pe_cl c_law_by_last_deed hr (by omega) rfl (pa_cons (pv 5) pa_nil))))))) (pss_one (ps_ret pe_bl)) pss_nil)
      (pss_cons (ps_set (i := 6) sc_law.nd rfl (.inl rfl) (pe_cl c_law_length_row hr (by omega) rfl (pa_cons (pv 1) pa_nil)))
      (pss_cons (ps_set (i := 7) sc_law.nd rfl (.inl rfl) (pe_cl c_law_mixes_due hr (by omega) rfl (pa_cons (pv 2) (pa_cons (pv 6) pa_nil))))
      (pss_cons (ps_set (i := 8) sc_law.nd rfl (.inl rfl) (pe_cl c_law_copy hr (by omega) rfl (pa_cons (pv 6) pa_nil)))
      (pss_cons (ps_if (PW.pt (pw_or (pt_not (pt_val (pe_cl c_law_same hr (by omega) rfl (pa_cons (pe_cl c_law_ask_row hr (by omega) rfl (pa_cons (pv 8) pa_nil)) (pa_cons (pv 7) pa_nil))))) (pw_or1 (pt_not (pt_val (pe_cl c_law_same hr (by omega) rfl (pa_cons (pv 8) (pa_cons (pv 6) pa_nil)))))))) (pss_one (ps_ret pe_bl)) pss_nil)
      (pss_cons (ps_if (pt_cmpR op_lt (pe_callB call_lenQ (by rfl) B.len PySem.boot_len (pa_cons (pv 8) pa_nil)) pe_int (nomark _)) (pss_one (ps_expr (pe_ml PySem.F.slot_list_append PySem.F.type_list_append mt_app (pv 8) (pa_cons pe_int pa_nil)))) pss_nil)
      (pss_cons (ps_asg pe_int (pg_sub (pv 8) pe_int put_list))
      (pss_cons (ps_if (pt_not (pt_val (pe_cl c_law_same hr (by omega) rfl (pa_cons (pe_cl c_law_ask_row hr (by omega) rfl (pa_cons (pv 8) pa_nil)) (pa_cons (pe_cl c_law_mixes_due hr (by omega) rfl (pa_cons (pv 2) (pa_cons (pv 8) pa_nil))) pa_nil))))) (pss_one (ps_ret pe_bl)) pss_nil)
      (pss_cons (ps_if (pt_not (pt_val (pe_cl c_law_same hr (by omega) rfl (pa_cons (pe_cl c_law_ask_rowT hr (by omega) rfl (pa_cons (pe_callTy call_tupL (by rfl) B.tuple (by decide +kernel) (pa_cons (pv 6) pa_nil)) pa_nil)) (pa_cons (pv 7) pa_nil))))) (pss_one (ps_ret pe_bl)) pss_nil)
      (pss_one (ps_ret (pe_cl c_law_same hr (by omega) rfl (pa_cons (pe_cl c_law_ask_row hr (by omega) rfl (pa_cons (pe_revQ (pv 6)) pa_nil)) (pa_cons (pv 7) pa_nil)))))))))))))))))), ?_⟩
    rw [show L2.start N_law [.ref a] = [some (.ref a), none, none, none, none, none, none, none, none] from rfl]
    simp only [tSeq, tNext, tDrop, tRet, tRetN, tIfS, tAsg, gName, tAug, ipI, tVar, tC, tOp, tUn, rI, rI0, rU, tCons, tNil, tCB, tTup, tLst, tTest, tB, tAnd, tOr, tNot, tAndV, tOrV, tNotV, tIf, tCl, tCd, tCk, gSub, rPutL, rAtQ, rIntI, rLenQ, rLenS, rListQ, rTupL, rTupQ, rIsQ_c, kd_non, kd_bl, kd_int, kd_str, kd_ref, kdO_lst, kdO_tup, kit_NoneType_bool, kit_NoneType_int, kit_NoneType_str, kit_NoneType_list, kit_NoneType_tuple, kit_bool_bool, kit_bool_int, kit_bool_str, kit_bool_list, kit_bool_tuple, kit_int_bool, kit_int_int, kit_int_str, kit_int_list, kit_int_tuple, kit_str_bool, kit_str_int, kit_str_str, kit_str_list, kit_str_tuple, kit_list_bool, kit_list_int, kit_list_str, kit_list_list, kit_list_tuple, kit_tuple_bool, kit_tuple_int, kit_tuple_str, kit_tuple_list, kit_tuple_tuple, V.ty.injEq, rSortQ, rSlQ, rMulS, tJn, rAtX, rSlS, tSl, tPart, tNoPart, cut_lo2, cut_hi2, rInQ, gLq, gTq, gC_c, gNil, tChain, List.cons_append, List.nil_append, tBL, tBL0, tBad, tCr, tCe, tXF, cxH_K, HO.xd.injEq, rApp, rPopN, rRevL, seqAt_lst, seqAt_tup, at_0, at_1, at_2, at_3, at_4, ix_0, ix_1, ix_2, ix_3, ix_4, cx_K, upd_same, List.length_cons, List.length_nil, Nat.reduceAdd,  rEq, rNe, tRevL, V.int.injEq, V.bl.injEq, V.str.injEq, V.ref.injEq, List.cons.injEq, and_true, true_and, exists_and_left, exists_and_right, exists_eq_left, exists_eq_left', exists_eq_right, exists_eq_right', exists_const, Option.some.injEq, List.getElem?_cons_zero, List.getElem?_cons_succ, List.set_cons_zero, List.set_cons_succ, decide_eq_true_eq, decide_true, decide_false,  scal_ii, scal_bb, scal_ss, cmul_r, cdiv_l, cpow_12, cpow_18, cpow_40, HO.lst.injEq, HO.tup.injEq, upd_upd, Int.reduceToNat,  decide_not, Bool.not_eq_true', decide_eq_false_iff_not, if_true, if_false, Bool.false_eq_true, Bool.true_eq_false, reduceCtorEq, Int.reduceNeg, Nat.reduceLT, Int.reduceLT, Int.reducePow, gt_iff_lt]
    refine ⟨a, ns, rfl, hs, hn, fun S H0 r0 st0 => ⟨rfl, fun tp H1 r1 n1 rp1 => ?_⟩⟩
    have st1 := st0.keep r1
    have rt1 := rp1 (fun b => b ≠ S.a) fun b hb => st0.neA hb
    refine z_forR 2 (fun Q q => q) (by decide) (fun i σ' H' => ∃ z m : Option V, σ' = [some (.ref a), some (.ref S.a), some (.ref tp), z, m, none, none, none, none] ∧ Drew S H1 H') ⟨none, none, rfl, But.refl H1, st1⟩ (fun i σ' H' hi hI => ?_) (fun σ' H' hI => ?_)
    · obtain ⟨z, m, rfl, dr⟩ := hI
      simp only [tSeq, tNext, tDrop, tRet, tRetN, tIfS, tAsg, gName, tAug, ipI, tVar, tC, tOp, tUn, rI, rI0, rU, tCons, tNil, tCB, tTup, tLst, tTest, tB, tAnd, tOr, tNot, tAndV, tOrV, tNotV, tIf, tCl, tCd, tCk, gSub, rPutL, rAtQ, rIntI, rLenQ, rLenS, rListQ, rTupL, rTupQ, rIsQ_c, kd_non, kd_bl, kd_int, kd_str, kd_ref, kdO_lst, kdO_tup, kit_NoneType_bool, kit_NoneType_int, kit_NoneType_str, kit_NoneType_list, kit_NoneType_tuple, kit_bool_bool, kit_bool_int, kit_bool_str, kit_bool_list, kit_bool_tuple, kit_int_bool, kit_int_int, kit_int_str, kit_int_list, kit_int_tuple, kit_str_bool, kit_str_int, kit_str_str, kit_str_list, kit_str_tuple, kit_list_bool, kit_list_int, kit_list_str, kit_list_list, kit_list_tuple, kit_tuple_bool, kit_tuple_int, kit_tuple_str, kit_tuple_list, kit_tuple_tuple, V.ty.injEq, rSortQ, rSlQ, rMulS, tJn, rAtX, rSlS, tSl, tPart, tNoPart, cut_lo2, cut_hi2, rInQ, gLq, gTq, gC_c, gNil, tChain, List.cons_append, List.nil_append, tBL, tBL0, tBad, tCr, tCe, tXF, cxH_K, HO.xd.injEq, rApp, rPopN, rRevL, seqAt_lst, seqAt_tup, at_0, at_1, at_2, at_3, at_4, ix_0, ix_1, ix_2, ix_3, ix_4, cx_K, upd_same, List.length_cons, List.length_nil, Nat.reduceAdd,  rEq, rNe, tRevL, V.int.injEq, V.bl.injEq, V.str.injEq, V.ref.injEq, List.cons.injEq, and_true, true_and, exists_and_left, exists_and_right, exists_eq_left, exists_eq_left', exists_eq_right, exists_eq_right', exists_const, Option.some.injEq, List.getElem?_cons_zero, List.getElem?_cons_succ, List.set_cons_zero, List.set_cons_succ, decide_eq_true_eq, decide_true, decide_false,  scal_ii, scal_bb, scal_ss, cmul_r, cdiv_l, cpow_12, cpow_18, cpow_40, HO.lst.injEq, HO.tup.injEq, upd_upd, Int.reduceToNat,  decide_not, Bool.not_eq_true', decide_eq_false_iff_not, if_true, if_false, Bool.false_eq_true, Bool.true_eq_false, reduceCtorEq, Int.reduceNeg, Nat.reduceLT, Int.reduceLT, Int.reducePow, gt_iff_lt]
      refine ⟨S, rfl, dr.st, fun n H2 r2 => ?_⟩
      refine ⟨n, rfl, fun u H3 r3 ru => ?_⟩
      have dr3 := (dr.trans r2).same r3
      refine ⟨_, tp, n, rfl, rt1.drew dr3, fun v H4 r4 rv => ⟨All, u, v, dueS n, rfl, ru.same r4, rv, true, rfl, ?_⟩⟩
      simp only [tSeq, tNext, tDrop, tRet, tRetN, tIfS, tAsg, gName, tAug, ipI, tVar, tC, tOp, tUn, rI, rI0, rU, tCons, tNil, tCB, tTup, tLst, tTest, tB, tAnd, tOr, tNot, tAndV, tOrV, tNotV, tIf, tCl, tCd, tCk, gSub, rPutL, rAtQ, rIntI, rLenQ, rLenS, rListQ, rTupL, rTupQ, rIsQ_c, kd_non, kd_bl, kd_int, kd_str, kd_ref, kdO_lst, kdO_tup, kit_NoneType_bool, kit_NoneType_int, kit_NoneType_str, kit_NoneType_list, kit_NoneType_tuple, kit_bool_bool, kit_bool_int, kit_bool_str, kit_bool_list, kit_bool_tuple, kit_int_bool, kit_int_int, kit_int_str, kit_int_list, kit_int_tuple, kit_str_bool, kit_str_int, kit_str_str, kit_str_list, kit_str_tuple, kit_list_bool, kit_list_int, kit_list_str, kit_list_list, kit_list_tuple, kit_tuple_bool, kit_tuple_int, kit_tuple_str, kit_tuple_list, kit_tuple_tuple, V.ty.injEq, rSortQ, rSlQ, rMulS, tJn, rAtX, rSlS, tSl, tPart, tNoPart, cut_lo2, cut_hi2, rInQ, gLq, gTq, gC_c, gNil, tChain, List.cons_append, List.nil_append, tBL, tBL0, tBad, tCr, tCe, tXF, cxH_K, HO.xd.injEq, rApp, rPopN, rRevL, seqAt_lst, seqAt_tup, at_0, at_1, at_2, at_3, at_4, ix_0, ix_1, ix_2, ix_3, ix_4, cx_K, upd_same, List.length_cons, List.length_nil, Nat.reduceAdd,  rEq, rNe, tRevL, V.int.injEq, V.bl.injEq, V.str.injEq, V.ref.injEq, List.cons.injEq, and_true, true_and, exists_and_left, exists_and_right, exists_eq_left, exists_eq_left', exists_eq_right, exists_eq_right', exists_const, Option.some.injEq, List.getElem?_cons_zero, List.getElem?_cons_succ, List.set_cons_zero, List.set_cons_succ, decide_eq_true_eq, decide_true, decide_false,  scal_ii, scal_bb, scal_ss, cmul_r, cdiv_l, cpow_12, cpow_18, cpow_40, HO.lst.injEq, HO.tup.injEq, upd_upd, Int.reduceToNat,  decide_not, Bool.not_eq_true', decide_eq_false_iff_not, if_true, if_false, Bool.false_eq_true, Bool.true_eq_false, reduceCtorEq, Int.reduceNeg, Nat.reduceLT, Int.reduceLT, Int.reducePow, gt_iff_lt]
      exact ⟨⟨⟨_, rfl⟩, _, rfl⟩, dr3.same r4⟩
    obtain ⟨z, m, rfl, dr⟩ := hI
    simp only [tSeq, tNext, tDrop, tRet, tRetN, tIfS, tAsg, gName, tAug, ipI, tVar, tC, tOp, tUn, rI, rI0, rU, tCons, tNil, tCB, tTup, tLst, tTest, tB, tAnd, tOr, tNot, tAndV, tOrV, tNotV, tIf, tCl, tCd, tCk, gSub, rPutL, rAtQ, rIntI, rLenQ, rLenS, rListQ, rTupL, rTupQ, rIsQ_c, kd_non, kd_bl, kd_int, kd_str, kd_ref, kdO_lst, kdO_tup, kit_NoneType_bool, kit_NoneType_int, kit_NoneType_str, kit_NoneType_list, kit_NoneType_tuple, kit_bool_bool, kit_bool_int, kit_bool_str, kit_bool_list, kit_bool_tuple, kit_int_bool, kit_int_int, kit_int_str, kit_int_list, kit_int_tuple, kit_str_bool, kit_str_int, kit_str_str, kit_str_list, kit_str_tuple, kit_list_bool, kit_list_int, kit_list_str, kit_list_list, kit_list_tuple, kit_tuple_bool, kit_tuple_int, kit_tuple_str, kit_tuple_list, kit_tuple_tuple, V.ty.injEq, rSortQ, rSlQ, rMulS, tJn, rAtX, rSlS, tSl, tPart, tNoPart, cut_lo2, cut_hi2, rInQ, gLq, gTq, gC_c, gNil, tChain, List.cons_append, List.nil_append, tBL, tBL0, tBad, tCr, tCe, tXF, cxH_K, HO.xd.injEq, rApp, rPopN, rRevL, seqAt_lst, seqAt_tup, at_0, at_1, at_2, at_3, at_4, ix_0, ix_1, ix_2, ix_3, ix_4, cx_K, upd_same, List.length_cons, List.length_nil, Nat.reduceAdd,  rEq, rNe, tRevL, V.int.injEq, V.bl.injEq, V.str.injEq, V.ref.injEq, List.cons.injEq, and_true, true_and, exists_and_left, exists_and_right, exists_eq_left, exists_eq_left', exists_eq_right, exists_eq_right', exists_const, Option.some.injEq, List.getElem?_cons_zero, List.getElem?_cons_succ, List.set_cons_zero, List.set_cons_succ, decide_eq_true_eq, decide_true, decide_false,  scal_ii, scal_bb, scal_ss, cmul_r, cdiv_l, cpow_12, cpow_18, cpow_40, HO.lst.injEq, HO.tup.injEq, upd_upd, Int.reduceToNat,  decide_not, Bool.not_eq_true', decide_eq_false_iff_not, if_true, if_false, Bool.false_eq_true, Bool.true_eq_false, reduceCtorEq, Int.reduceNeg, Nat.reduceLT, Int.reduceLT, Int.reducePow, gt_iff_lt]
    refine ⟨S, 10, rfl, dr.st, by decide, fun d H2 r2 g2 => ⟨d, rfl, ?_⟩⟩
    have d0 := g2.1
    have d1 := g2.2
    refine last_or (fun h => by omega) fun H3 r3 => ?_
    have dr3 := (dr.trans r2).same r3
    refine ⟨S, rfl, dr3.st, fun lp ms H4 r4 n4 h4 z4 nn => ?_⟩
    have dr4 := dr3.trans r4
    refine ⟨_, tp, lp, ms, rfl, rt1.drew dr4, h4, nn, fun du H5 r5 rdu => ⟨lp, ms, rfl, r5 _ _ h4, by omega, fun pp H6 r6 n6 h6 => ⟨pp, ms, rfl, h6, nn, fun u H7 r7 ru => ⟨All, u, du, dueR ms, rfl, ru, (rdu.same r6).same r7, true, rfl, ?_⟩⟩⟩⟩
    have h7 := r7 _ _ h6
    have h7l := r7 _ _ (r6 _ _ (r5 _ _ h4))
    have s7 : seqAt (H7 pp) = some (ms.map V.int) := by rw [h7] <;> rfl
    simp only [tSeq, tNext, tDrop, tRet, tRetN, tIfS, tAsg, gName, tAug, ipI, tVar, tC, tOp, tUn, rI, rI0, rU, tCons, tNil, tCB, tTup, tLst, tTest, tB, tAnd, tOr, tNot, tAndV, tOrV, tNotV, tIf, tCl, tCd, tCk, gSub, rPutL, rAtQ, rIntI, rLenQ, rLenS, rListQ, rTupL, rTupQ, rIsQ_c, kd_non, kd_bl, kd_int, kd_str, kd_ref, kdO_lst, kdO_tup, kit_NoneType_bool, kit_NoneType_int, kit_NoneType_str, kit_NoneType_list, kit_NoneType_tuple, kit_bool_bool, kit_bool_int, kit_bool_str, kit_bool_list, kit_bool_tuple, kit_int_bool, kit_int_int, kit_int_str, kit_int_list, kit_int_tuple, kit_str_bool, kit_str_int, kit_str_str, kit_str_list, kit_str_tuple, kit_list_bool, kit_list_int, kit_list_str, kit_list_list, kit_list_tuple, kit_tuple_bool, kit_tuple_int, kit_tuple_str, kit_tuple_list, kit_tuple_tuple, V.ty.injEq, rSortQ, rSlQ, rMulS, tJn, rAtX, rSlS, tSl, tPart, tNoPart, cut_lo2, cut_hi2, rInQ, gLq, gTq, gC_c, gNil, tChain, List.cons_append, List.nil_append, tBL, tBL0, tBad, tCr, tCe, tXF, cxH_K, HO.xd.injEq, rApp, rPopN, rRevL, seqAt_lst, seqAt_tup, at_0, at_1, at_2, at_3, at_4, ix_0, ix_1, ix_2, ix_3, ix_4, cx_K, upd_same, List.length_cons, List.length_nil, Nat.reduceAdd,  rEq, rNe, tRevL, V.int.injEq, V.bl.injEq, V.str.injEq, V.ref.injEq, List.cons.injEq, and_true, true_and, exists_and_left, exists_and_right, exists_eq_left, exists_eq_left', exists_eq_right, exists_eq_right', exists_const, Option.some.injEq, List.getElem?_cons_zero, List.getElem?_cons_succ, List.set_cons_zero, List.set_cons_succ, decide_eq_true_eq, decide_true, decide_false,  scal_ii, scal_bb, scal_ss, cmul_r, cdiv_l, cpow_12, cpow_18, cpow_40, HO.lst.injEq, HO.tup.injEq, upd_upd, Int.reduceToNat,  decide_not, Bool.not_eq_true', decide_eq_false_iff_not, if_true, if_false, Bool.false_eq_true, Bool.true_eq_false, reduceCtorEq, Int.reduceNeg, Nat.reduceLT, Int.reduceLT, Int.reducePow, gt_iff_lt]
    refine ⟨All, .ref pp, .ref lp, .lst (ms.map Dt.int), rfl, rp_ints trivial h7 (by omega), rp_ints trivial h7l (by omega), true, rfl, ?_⟩
    have lpp : lp ≠ pp := ne_of_none (r5 _ _ h4) n6
    have rtt : Rp (fun b => b ≠ S.a ∧ b ≠ pp) H7 3 (.ref tp) (gd (tri 21)) := ((((rt1.drew dr4).same r5).off n6).same r6).same r7
    have rdd : Rp (fun b => True ∧ b ≠ pp) H7 5 du (dueR ms) := ((rdu.off n6).same r6).same r7
    simp only [tSeq, tNext, tDrop, tRet, tRetN, tIfS, tAsg, gName, tAug, ipI, tVar, tC, tOp, tUn, rI, rI0, rU, tCons, tNil, tCB, tTup, tLst, tTest, tB, tAnd, tOr, tNot, tAndV, tOrV, tNotV, tIf, tCl, tCd, tCk, gSub, rPutL, rAtQ, rIntI, rLenQ, rLenS, rListQ, rTupL, rTupQ, rIsQ_c, kd_non, kd_bl, kd_int, kd_str, kd_ref, kdO_lst, kdO_tup, kit_NoneType_bool, kit_NoneType_int, kit_NoneType_str, kit_NoneType_list, kit_NoneType_tuple, kit_bool_bool, kit_bool_int, kit_bool_str, kit_bool_list, kit_bool_tuple, kit_int_bool, kit_int_int, kit_int_str, kit_int_list, kit_int_tuple, kit_str_bool, kit_str_int, kit_str_str, kit_str_list, kit_str_tuple, kit_list_bool, kit_list_int, kit_list_str, kit_list_list, kit_list_tuple, kit_tuple_bool, kit_tuple_int, kit_tuple_str, kit_tuple_list, kit_tuple_tuple, V.ty.injEq, rSortQ, rSlQ, rMulS, tJn, rAtX, rSlS, tSl, tPart, tNoPart, cut_lo2, cut_hi2, rInQ, gLq, gTq, gC_c, gNil, tChain, List.cons_append, List.nil_append, tBL, tBL0, tBad, tCr, tCe, tXF, cxH_K, HO.xd.injEq, rApp, rPopN, rRevL, seqAt_lst, seqAt_tup, at_0, at_1, at_2, at_3, at_4, ix_0, ix_1, ix_2, ix_3, ix_4, cx_K, upd_same, List.length_cons, List.length_nil, Nat.reduceAdd,  rEq, rNe, tRevL, V.int.injEq, V.bl.injEq, V.str.injEq, V.ref.injEq, List.cons.injEq, and_true, true_and, exists_and_left, exists_and_right, exists_eq_left, exists_eq_left', exists_eq_right, exists_eq_right', exists_const, Option.some.injEq, List.getElem?_cons_zero, List.getElem?_cons_succ, List.set_cons_zero, List.set_cons_succ, decide_eq_true_eq, decide_true, decide_false,  scal_ii, scal_bb, scal_ss, cmul_r, cdiv_l, cpow_12, cpow_18, cpow_40, HO.lst.injEq, HO.tup.injEq, upd_upd, Int.reduceToNat,  decide_not, Bool.not_eq_true', decide_eq_false_iff_not, if_true, if_false, Bool.false_eq_true, Bool.true_eq_false, reduceCtorEq, Int.reduceNeg, Nat.reduceLT, Int.reduceLT, Int.reducePow, gt_iff_lt, s7, h7, List.length_map]
    have nset : ∀ l : List Int, (∀ n ∈ l, 0 ≤ n) → ∀ n ∈ l.set 0 1, 0 ≤ n := fun l hl n hn => (List.mem_or_eq_of_mem_set hn).elim (hl n) fun e => by rw [e]; decide
    split
    · refine ⟨⟨_, rfl⟩, sz_lt (by omega), 0, ix_0 (by rw [List.length_append, List.length_cons]; omega), ?_⟩
      have e : (ms.map V.int ++ [V.int 1]).set 0 (V.int 1) = ((ms ++ [1]).set 0 1).map V.int := by rw [List.map_set, List.map_append] <;> rfl
      have hk := nset (ms ++ [1]) fun n hn => (List.mem_append.mp hn).elim (nn n) fun z => by rw [List.mem_singleton.mp z]; decide
      rw [e]
      generalize (ms ++ [1]).set 0 1 = ks at hk
      obtain ⟨H8, e8⟩ : ∃ X, X = upd H7 pp (.lst (ks.map V.int)) := ⟨_, rfl⟩
      rw [← e8]
      have p8 : H8 pp = some (.lst (ks.map V.int)) := by rw [e8, upd_same]
      have l8 : H8 lp = some (.lst (ms.map V.int)) := by rw [e8, upd_ne lpp]; exact h7l
      have t8 : Rp (fun b => b ≠ S.a ∧ b ≠ pp) H8 3 (.ref tp) (gd (tri 21)) := rtt.keep fun b o nb e => by rw [e8, upd_ne nb.2]; exact e
      have d8 : Rp All H8 5 du (dueR ms) := (rdd.keep (H' := H8) fun b o nb e => by rw [e8, upd_ne nb.2]; exact e).on
      refine ⟨pp, ks, rfl, p8, hk, fun u1 H9 r9 ru1 => ⟨_, tp, pp, ks, rfl, t8.same r9, r9 _ _ p8, hk, fun u2 H10 r10 ru2 => ⟨All, u1, u2, dueR ks, rfl, ru1.same r10, ru2, true, rfl, ?_⟩⟩⟩
      have l10 := r10 _ _ (r9 _ _ l8)
      have d10 := (d8.same r9).same r10
      simp only [tSeq, tNext, tDrop, tRet, tRetN, tIfS, tAsg, gName, tAug, ipI, tVar, tC, tOp, tUn, rI, rI0, rU, tCons, tNil, tCB, tTup, tLst, tTest, tB, tAnd, tOr, tNot, tAndV, tOrV, tNotV, tIf, tCl, tCd, tCk, gSub, rPutL, rAtQ, rIntI, rLenQ, rLenS, rListQ, rTupL, rTupQ, rIsQ_c, kd_non, kd_bl, kd_int, kd_str, kd_ref, kdO_lst, kdO_tup, kit_NoneType_bool, kit_NoneType_int, kit_NoneType_str, kit_NoneType_list, kit_NoneType_tuple, kit_bool_bool, kit_bool_int, kit_bool_str, kit_bool_list, kit_bool_tuple, kit_int_bool, kit_int_int, kit_int_str, kit_int_list, kit_int_tuple, kit_str_bool, kit_str_int, kit_str_str, kit_str_list, kit_str_tuple, kit_list_bool, kit_list_int, kit_list_str, kit_list_list, kit_list_tuple, kit_tuple_bool, kit_tuple_int, kit_tuple_str, kit_tuple_list, kit_tuple_tuple, V.ty.injEq, rSortQ, rSlQ, rMulS, tJn, rAtX, rSlS, tSl, tPart, tNoPart, cut_lo2, cut_hi2, rInQ, gLq, gTq, gC_c, gNil, tChain, List.cons_append, List.nil_append, tBL, tBL0, tBad, tCr, tCe, tXF, cxH_K, HO.xd.injEq, rApp, rPopN, rRevL, seqAt_lst, seqAt_tup, at_0, at_1, at_2, at_3, at_4, ix_0, ix_1, ix_2, ix_3, ix_4, cx_K, upd_same, List.length_cons, List.length_nil, Nat.reduceAdd,  rEq, rNe, tRevL, V.int.injEq, V.bl.injEq, V.str.injEq, V.ref.injEq, List.cons.injEq, and_true, true_and, exists_and_left, exists_and_right, exists_eq_left, exists_eq_left', exists_eq_right, exists_eq_right', exists_const, Option.some.injEq, List.getElem?_cons_zero, List.getElem?_cons_succ, List.set_cons_zero, List.set_cons_succ, decide_eq_true_eq, decide_true, decide_false,  scal_ii, scal_bb, scal_ss, cmul_r, cdiv_l, cpow_12, cpow_18, cpow_40, HO.lst.injEq, HO.tup.injEq, upd_upd, Int.reduceToNat,  decide_not, Bool.not_eq_true', decide_eq_false_iff_not, if_true, if_false, Bool.false_eq_true, Bool.true_eq_false, reduceCtorEq, Int.reduceNeg, Nat.reduceLT, Int.reduceLT, Int.reducePow, gt_iff_lt]
      refine ⟨_, l10, fun l hl => ⟨l, ms, rfl, upd_same, nn, fun u3 H11 r11 ru3 => ⟨All, u3, du, dueR ms, rfl, ru3, (d10.same (same_new hl)).same r11, true, rfl, ?_⟩⟩⟩
      have l11 := r11 _ _ (same_new (o := .tup (ms.map V.int)) hl _ _ l10)
      have d11 := (d10.same (same_new (o := .tup (ms.map V.int)) hl)).same r11
      simp only [tSeq, tNext, tDrop, tRet, tRetN, tIfS, tAsg, gName, tAug, ipI, tVar, tC, tOp, tUn, rI, rI0, rU, tCons, tNil, tCB, tTup, tLst, tTest, tB, tAnd, tOr, tNot, tAndV, tOrV, tNotV, tIf, tCl, tCd, tCk, gSub, rPutL, rAtQ, rIntI, rLenQ, rLenS, rListQ, rTupL, rTupQ, rIsQ_c, kd_non, kd_bl, kd_int, kd_str, kd_ref, kdO_lst, kdO_tup, kit_NoneType_bool, kit_NoneType_int, kit_NoneType_str, kit_NoneType_list, kit_NoneType_tuple, kit_bool_bool, kit_bool_int, kit_bool_str, kit_bool_list, kit_bool_tuple, kit_int_bool, kit_int_int, kit_int_str, kit_int_list, kit_int_tuple, kit_str_bool, kit_str_int, kit_str_str, kit_str_list, kit_str_tuple, kit_list_bool, kit_list_int, kit_list_str, kit_list_list, kit_list_tuple, kit_tuple_bool, kit_tuple_int, kit_tuple_str, kit_tuple_list, kit_tuple_tuple, V.ty.injEq, rSortQ, rSlQ, rMulS, tJn, rAtX, rSlS, tSl, tPart, tNoPart, cut_lo2, cut_hi2, rInQ, gLq, gTq, gC_c, gNil, tChain, List.cons_append, List.nil_append, tBL, tBL0, tBad, tCr, tCe, tXF, cxH_K, HO.xd.injEq, rApp, rPopN, rRevL, seqAt_lst, seqAt_tup, at_0, at_1, at_2, at_3, at_4, ix_0, ix_1, ix_2, ix_3, ix_4, cx_K, upd_same, List.length_cons, List.length_nil, Nat.reduceAdd,  rEq, rNe, tRevL, V.int.injEq, V.bl.injEq, V.str.injEq, V.ref.injEq, List.cons.injEq, and_true, true_and, exists_and_left, exists_and_right, exists_eq_left, exists_eq_left', exists_eq_right, exists_eq_right', exists_const, Option.some.injEq, List.getElem?_cons_zero, List.getElem?_cons_succ, List.set_cons_zero, List.set_cons_succ, decide_eq_true_eq, decide_true, decide_false,  scal_ii, scal_bb, scal_ss, cmul_r, cdiv_l, cpow_12, cpow_18, cpow_40, HO.lst.injEq, HO.tup.injEq, upd_upd, Int.reduceToNat,  decide_not, Bool.not_eq_true', decide_eq_false_iff_not, if_true, if_false, Bool.false_eq_true, Bool.true_eq_false, reduceCtorEq, Int.reduceNeg, Nat.reduceLT, Int.reduceLT, Int.reducePow, gt_iff_lt, tRevQ]
      refine ⟨_, l11, fun p12 h12 => ⟨p12, ms.reverse, rfl, (by rw [List.map_reverse]; exact upd_same), fun n hn => nn n (List.mem_reverse.mp hn), fun u4 H13 r13 ru4 => ⟨All, u4, du, dueR ms, rfl, by rw [dueR_rev] at ru4; exact ru4, (d11.same (same_new h12)).same r13, q _⟩⟩⟩
    · refine ⟨0, ix_0 (by omega), ?_⟩
      have e : (ms.map V.int).set 0 (V.int 1) = (ms.set 0 1).map V.int := by rw [List.map_set]
      have hk := nset ms nn
      rw [e]
      generalize ms.set 0 1 = ks at hk
      obtain ⟨H8, e8⟩ : ∃ X, X = upd H7 pp (.lst (ks.map V.int)) := ⟨_, rfl⟩
      rw [← e8]
      have p8 : H8 pp = some (.lst (ks.map V.int)) := by rw [e8, upd_same]
      have l8 : H8 lp = some (.lst (ms.map V.int)) := by rw [e8, upd_ne lpp]; exact h7l
      have t8 : Rp (fun b => b ≠ S.a ∧ b ≠ pp) H8 3 (.ref tp) (gd (tri 21)) := rtt.keep fun b o nb e => by rw [e8, upd_ne nb.2]; exact e
      have d8 : Rp All H8 5 du (dueR ms) := (rdd.keep (H' := H8) fun b o nb e => by rw [e8, upd_ne nb.2]; exact e).on
      refine ⟨pp, ks, rfl, p8, hk, fun u1 H9 r9 ru1 => ⟨_, tp, pp, ks, rfl, t8.same r9, r9 _ _ p8, hk, fun u2 H10 r10 ru2 => ⟨All, u1, u2, dueR ks, rfl, ru1.same r10, ru2, true, rfl, ?_⟩⟩⟩
      have l10 := r10 _ _ (r9 _ _ l8)
      have d10 := (d8.same r9).same r10
      simp only [tSeq, tNext, tDrop, tRet, tRetN, tIfS, tAsg, gName, tAug, ipI, tVar, tC, tOp, tUn, rI, rI0, rU, tCons, tNil, tCB, tTup, tLst, tTest, tB, tAnd, tOr, tNot, tAndV, tOrV, tNotV, tIf, tCl, tCd, tCk, gSub, rPutL, rAtQ, rIntI, rLenQ, rLenS, rListQ, rTupL, rTupQ, rIsQ_c, kd_non, kd_bl, kd_int, kd_str, kd_ref, kdO_lst, kdO_tup, kit_NoneType_bool, kit_NoneType_int, kit_NoneType_str, kit_NoneType_list, kit_NoneType_tuple, kit_bool_bool, kit_bool_int, kit_bool_str, kit_bool_list, kit_bool_tuple, kit_int_bool, kit_int_int, kit_int_str, kit_int_list, kit_int_tuple, kit_str_bool, kit_str_int, kit_str_str, kit_str_list, kit_str_tuple, kit_list_bool, kit_list_int, kit_list_str, kit_list_list, kit_list_tuple, kit_tuple_bool, kit_tuple_int, kit_tuple_str, kit_tuple_list, kit_tuple_tuple, V.ty.injEq, rSortQ, rSlQ, rMulS, tJn, rAtX, rSlS, tSl, tPart, tNoPart, cut_lo2, cut_hi2, rInQ, gLq, gTq, gC_c, gNil, tChain, List.cons_append, List.nil_append, tBL, tBL0, tBad, tCr, tCe, tXF, cxH_K, HO.xd.injEq, rApp, rPopN, rRevL, seqAt_lst, seqAt_tup, at_0, at_1, at_2, at_3, at_4, ix_0, ix_1, ix_2, ix_3, ix_4, cx_K, upd_same, List.length_cons, List.length_nil, Nat.reduceAdd,  rEq, rNe, tRevL, V.int.injEq, V.bl.injEq, V.str.injEq, V.ref.injEq, List.cons.injEq, and_true, true_and, exists_and_left, exists_and_right, exists_eq_left, exists_eq_left', exists_eq_right, exists_eq_right', exists_const, Option.some.injEq, List.getElem?_cons_zero, List.getElem?_cons_succ, List.set_cons_zero, List.set_cons_succ, decide_eq_true_eq, decide_true, decide_false,  scal_ii, scal_bb, scal_ss, cmul_r, cdiv_l, cpow_12, cpow_18, cpow_40, HO.lst.injEq, HO.tup.injEq, upd_upd, Int.reduceToNat,  decide_not, Bool.not_eq_true', decide_eq_false_iff_not, if_true, if_false, Bool.false_eq_true, Bool.true_eq_false, reduceCtorEq, Int.reduceNeg, Nat.reduceLT, Int.reduceLT, Int.reducePow, gt_iff_lt]
      refine ⟨_, l10, fun l hl => ⟨l, ms, rfl, upd_same, nn, fun u3 H11 r11 ru3 => ⟨All, u3, du, dueR ms, rfl, ru3, (d10.same (same_new hl)).same r11, true, rfl, ?_⟩⟩⟩
      have l11 := r11 _ _ (same_new (o := .tup (ms.map V.int)) hl _ _ l10)
      have d11 := (d10.same (same_new (o := .tup (ms.map V.int)) hl)).same r11
      simp only [tSeq, tNext, tDrop, tRet, tRetN, tIfS, tAsg, gName, tAug, ipI, tVar, tC, tOp, tUn, rI, rI0, rU, tCons, tNil, tCB, tTup, tLst, tTest, tB, tAnd, tOr, tNot, tAndV, tOrV, tNotV, tIf, tCl, tCd, tCk, gSub, rPutL, rAtQ, rIntI, rLenQ, rLenS, rListQ, rTupL, rTupQ, rIsQ_c, kd_non, kd_bl, kd_int, kd_str, kd_ref, kdO_lst, kdO_tup, kit_NoneType_bool, kit_NoneType_int, kit_NoneType_str, kit_NoneType_list, kit_NoneType_tuple, kit_bool_bool, kit_bool_int, kit_bool_str, kit_bool_list, kit_bool_tuple, kit_int_bool, kit_int_int, kit_int_str, kit_int_list, kit_int_tuple, kit_str_bool, kit_str_int, kit_str_str, kit_str_list, kit_str_tuple, kit_list_bool, kit_list_int, kit_list_str, kit_list_list, kit_list_tuple, kit_tuple_bool, kit_tuple_int, kit_tuple_str, kit_tuple_list, kit_tuple_tuple, V.ty.injEq, rSortQ, rSlQ, rMulS, tJn, rAtX, rSlS, tSl, tPart, tNoPart, cut_lo2, cut_hi2, rInQ, gLq, gTq, gC_c, gNil, tChain, List.cons_append, List.nil_append, tBL, tBL0, tBad, tCr, tCe, tXF, cxH_K, HO.xd.injEq, rApp, rPopN, rRevL, seqAt_lst, seqAt_tup, at_0, at_1, at_2, at_3, at_4, ix_0, ix_1, ix_2, ix_3, ix_4, cx_K, upd_same, List.length_cons, List.length_nil, Nat.reduceAdd,  rEq, rNe, tRevL, V.int.injEq, V.bl.injEq, V.str.injEq, V.ref.injEq, List.cons.injEq, and_true, true_and, exists_and_left, exists_and_right, exists_eq_left, exists_eq_left', exists_eq_right, exists_eq_right', exists_const, Option.some.injEq, List.getElem?_cons_zero, List.getElem?_cons_succ, List.set_cons_zero, List.set_cons_succ, decide_eq_true_eq, decide_true, decide_false,  scal_ii, scal_bb, scal_ss, cmul_r, cdiv_l, cpow_12, cpow_18, cpow_40, HO.lst.injEq, HO.tup.injEq, upd_upd, Int.reduceToNat,  decide_not, Bool.not_eq_true', decide_eq_false_iff_not, if_true, if_false, Bool.false_eq_true, Bool.true_eq_false, reduceCtorEq, Int.reduceNeg, Nat.reduceLT, Int.reduceLT, Int.reducePow, gt_iff_lt, tRevQ]
      refine ⟨_, l11, fun p12 h12 => ⟨p12, ms.reverse, rfl, (by rw [List.map_reverse]; exact upd_same), fun n hn => nn n (List.mem_reverse.mp hn), fun u4 H13 r13 ru4 => ⟨All, u4, du, dueR ms, rfl, by rw [dueR_rev] at ru4; exact ru4, (d11.same (same_new h12)).same r13, q _⟩⟩⟩
end
end Z
set_option Elab.async false
set_option linter.all false
set_option maxRecDepth 100000
set_option maxHeartbeats 4000000
namespace Z
open PySem PySem.Spec PyProof.Rows L2
section
variable {K : PySem.W.Frag} {h : Heap} {mg : Str → Option Value}
theorem dn_of {x : Str} {st : Stmt} (X : K.In h) (G : h.Ns mainGlobals mg) {f : Addr} {oc : Value} {od an : Option Addr} {osl : Array (Option Value)} {kV doc pm cdv ct : Value} (a : PySem.W.nsIn K mainGlobals x = some (some (.ref f)))
    (l : K.lookup f = some ⟨oc, od, .func (PySem.W.fnOf x x (defArgs st) (defBody st) (defScope st) .none kV doc pm an cdv ct), osl⟩) (c : PySem.W.codeIn K cdv x = true) (k : PySem.W.keepIn K (.ref f) = true) : Dn K mg x st :=
  ⟨f, _, fun_mk l c k, PySem.W.mg_of X G a⟩
theorem dk_of {x q : Str} {st : Stmt} {v : V} (X : K.In h) (G : h.Ns mainGlobals mg) {f DD : Addr} {oc u : Value} {od an : Option Addr} {osl : Array (Option Value)} {doc pm cdv ct : Value} (a : PySem.W.nsIn K mainGlobals x = some (some (.ref f)))
    (l : K.lookup f = some ⟨oc, od, .func (PySem.W.fnOf x x (defArgs st) (defBody st) (defScope st) .none (.ref DD) doc pm an cdv ct), osl⟩) (c : PySem.W.codeIn K cdv x = true) (k : PySem.W.keepIn K (.ref f) = true) (e : PySem.W.nsIn K DD q = some (some u)) (r : RelV v u) : Dk K mg x st [(q, v)] :=
  ⟨f, _, ⟨⟨oc, od, .none, .ref DD, doc, pm, an, cdv, ct, osl, rfl, l, c, .inl ⟨rfl, rfl⟩, .inr ⟨DD, rfl, fun p hp => by
    rw [List.mem_singleton.mp hp]
    exact ⟨u, e, r⟩⟩⟩, k⟩, PySem.W.mg_of X G a⟩
/-- a class of errors that C's instances are not of -/
def One (K : PySem.W.Frag) (mg : Str → Option Value) (C : Addr) (n : Str) : Prop := ∃ d : Addr, mg n = some (.ref d) ∧ PySem.W.kitOne K (.ref C) (.ref d) = some false
theorem kit_cls {C d : Addr} {b : Bool} (t : PySem.W.typeIn K (.ref d) = some (.type "type")) (hd : PySem.W.hasDictIn K d = true) (s : PySem.W.subIn K (.ref C) (.ref d) = some b) (n : (Value.ref C == Value.ref d) = false) : PySem.W.kitOne K (.ref C) (.ref d) = some b := by
  obtain ⟨cd, hc, _⟩ := PySem.W.any_some hd
  have e2 : ((PySem.W.clsIn K d).isSome && PySem.W.typeIn K (.ref d) == some (.type "type")) = true := by rw [hc, t] <;> rfl
  show (if (Value.ref C == Value.ref d) = true then some true else if ((PySem.W.clsIn K d).isSome && PySem.W.typeIn K (.ref d) == some (.type "type")) = true then PySem.W.subIn K (.ref C) (.ref d) else none) = some b
  rw [if_neg (by rw [n]; exact Bool.false_ne_true), if_pos e2]
  exact s
theorem one_mk {C d : Addr} {n : Str} (X : K.In h) (G : h.Ns mainGlobals mg) (a : PySem.W.nsIn K mainGlobals n = some (some (.ref d))) (t : PySem.W.typeIn K (.ref d) = some (.type "type")) (hd : PySem.W.hasDictIn K d = true) (s : PySem.W.subIn K (.ref C) (.ref d) = some false)
    (ne : (Value.ref C == Value.ref d) = false) : One K mg C n := ⟨d, PySem.W.mg_of X G a, kit_cls t hd s ne⟩
theorem all_cons {α : Type} {F : α → Prop} {a : α} {l : List α} (h : F a) (t : ∀ b ∈ l, F b) : ∀ b ∈ a :: l, F b := fun b hb => (List.mem_cons.mp hb).elim (fun e => e ▸ h) (t b)
theorem all_none {α : Type} {F : α → Prop} : ∀ b ∈ ([] : List α), F b := fun b hb => by cases hb
theorem kit_ve {C : Addr} {T : String} (m : PySem.W.kitMeta T = true) (s : PySem.W.subIn K (.ref C) (.type T) = some true) : PySem.W.kitOne K (.ref C) (.type T) = some true := by
  show (if (Value.ref C == Value.type T) = true then some true else if PySem.W.kitMeta T = true then PySem.W.subIn K (.ref C) (.type T) else none) = some true
  rw [if_neg (by simp), if_pos m]
  exact s
theorem base_mk {x : Str} {B : Addr} {mc : Value} (X : K.In h) (G : h.Ns mainGlobals mg) (a : PySem.W.nsIn K mainGlobals x = some (some (.ref B))) (s : PySem.W.specialIn K (.ref B) "__getattribute__" = some (some (.builtin "type.__getattribute__"))) (r : PySem.W.readsIn K B mc = true)
    (f : PySem.W.findCls K (.ref B) mc "__init__" = some (.val (.builtin "ValueError.__init__"))) : BaseC K mg x := ⟨B, mc, PySem.W.mg_of X G a, s, r, f⟩
/-- what the class BadName says of itself -/
structure BadC (K : PySem.W.Frag) (mg : Str → Option Value) (n f : Str) (C : Addr) (qual : Str) (st : Stmt) : Prop where
  nm : mg n = some (.ref C)
  ox : OexC K C
  ini : ∃ (fI : Addr) (fd : FuncData), PySem.W.findIn K (.ref C) "__init__" = some (some (.ref fI)) ∧ PySem.W.typeIn K (.ref fI) = some (.type "function") ∧ Fun K "__init__" qual st fI fd
  no : PySem.W.findIn K (.ref C) f = some none
  ex : ExcC K C
  xf : XfC K C
theorem badC_mk {n f qual : Str} {st : Stmt} {C fI : Addr} {nm q : Str} {N : Addr} {bs bm : List Value} {sn : List Str} {sub : List Value} {ab : Bool} {col : Option Bool} {dd : Option Addr} {k0 k1 k2 k3 k5 : Option Value}
    {oc : Value} {od an : Option Addr} {osl : Array (Option Value)} {kV doc pm cdv ct : Value} (X : K.In h) (G : h.Ns mainGlobals mg) (a : PySem.W.nsIn K mainGlobals n = some (some (.ref C)))
    (lC : K.lookup C = some (excClassObj nm q C N bs bm true sn sub ab col dd k0 k1 k2 k3 k5 "ValueError.__new__")) (rv : PySem.HandSPX.refsVE bm = true) (sa : PySem.W.findIn K (.ref C) "__setattr__" = some (some (.builtin "object.__setattr__")))
    (exC : PySem.W.subIn K (.ref C) (.type "BaseException") = some true) (tyC : PySem.W.typeIn K (.ref C) = some (.type "type")) (kC : PySem.W.keepIn K (.ref C) = true)
    (iC : PySem.W.findIn K (.ref C) "__init__" = some (some (.ref fI))) (tI : PySem.W.typeIn K (.ref fI) = some (.type "function"))
    (lI : K.lookup fI = some ⟨oc, od, .func (PySem.W.fnOf "__init__" qual (defArgs st) (defBody st) (defScope st) .none kV doc pm an cdv ct), osl⟩) (cI : PySem.W.codeIn K cdv qual = true) (kI : PySem.W.keepIn K (.ref fI) = true)
    (no : PySem.W.findIn K (.ref C) f = some none) (ga : PySem.W.findIn K (.ref C) "__getattribute__" = some (some (.builtin "BaseException.__getattribute__"))) (gg : PySem.W.findIn K (.ref C) "__getattr__" = some none) (hd : PySem.W.hasDictIn K C = true)
    (ha : PySem.W.findIn K (.ref C) "__class__" = some (some (.builtin "object.__class__"))) (hn : PySem.W.specialIn K (.builtin "object.__class__") "__get__" = some (some (.builtin "getset_descriptor.__get__")))
    (ht : PySem.W.takesIn K (.builtin "object.__class__") = some true) (hm : PySem.W.mroIn K C (.type "object") = some true) : BadC K mg n f C qual st :=
  ⟨PySem.W.mg_of X G a, ⟨⟨nm, q, N, bs, bm, sn, sub, ab, col, dd, k0, k1, k2, k3, k5, lC, rv⟩, sa, exC, tyC, kC⟩, ⟨fI, _, iC, tI, fun_mk lI cI kI⟩, no, ⟨ga, gg, exC, hd, ha, hn, ht, hm⟩, ⟨ga, gg, exC, hd⟩⟩
theorem glob_of {x : Str} {v : V} {u : Value} (X : K.In h) (G : h.Ns mainGlobals mg) (a : PySem.W.nsIn K mainGlobals x = some (some u)) (r : RelV v u) : ∃ u, mg x = some u ∧ RelV v u := ⟨u, PySem.W.mg_of X G a, r⟩
theorem one_eq {C d : Addr} {n : Str} (o : One K mg C n) (m : mg n = some (.ref d)) : PySem.W.kitOne K (.ref C) (.ref d) = some false := by
  obtain ⟨e, he, hk⟩ := o
  cases he.symm.trans m
  exact hk
theorem fin_mk {P : Program} {w : World} {fa HE CO CS CM : Addr} (X : K.In h) (G : h.Ns mainGlobals mg) (hfa : mg "law" = some (.ref fa)) (B : Blt mg)
    (D_check_range : Dn K mg "check_range" s_check_range)
    (D_check_most : Dn K mg "check_most" s_check_most)
    (D_pond_histories : Dn K mg "pond_histories" s_pond_histories)
    (D_count_mixes : Dn K mg "count_mixes" s_count_mixes)
    (D_law_store : Dn K mg "_law_store" s_law_store)
    (D_law_mixed : Dn K mg "_law_mixed" s_law_mixed)
    (D_law_take : Dn K mg "_law_take" s_law_take)
    (D_law_whole : Dn K mg "_law_whole" s_law_whole)
    (D_law_put : Dn K mg "_law_put" s_law_put)
    (D_law_row : Dn K mg "_law_row" s_law_row)
    (D_law_same : Dn K mg "_law_same" s_law_same)
    (D_law_copy : Dn K mg "_law_copy" s_law_copy)
    (D_law_lengths : Dn K mg "_law_lengths" s_law_lengths)
    (D_law_refusal : Dn K mg "_law_refusal" s_law_refusal)
    (D_law_ask_size : Dn K mg "_law_ask_size" s_law_ask_size)
    (D_law_ask_row : Dn K mg "_law_ask_row" s_law_ask_row)
    (D_law_triangle : Dn K mg "_law_triangle" s_law_triangle)
    (D_law_mixes_due : Dn K mg "_law_mixes_due" s_law_mixes_due)
    (D_law_histories_due : Dn K mg "_law_histories_due" s_law_histories_due)
    (D_law_by_last_deed : Dn K mg "_law_by_last_deed" s_law_by_last_deed)
    (D_law_great : Dn K mg "_law_great" s_law_great)
    (D_law_size : Dn K mg "_law_size" s_law_size)
    (D_law_length_row : Dn K mg "_law_length_row" s_law_length_row)
    {f2 : Addr} {oc2 : Value} {od2 an2 : Option Addr} {sl2 : Array (Option Value)} {kV2 dc2 pm2 cd2 ct2 : Value}
    (aL : PySem.W.nsIn K mainGlobals "law" = some (some (.ref f2))) (lL : K.lookup f2 = some ⟨oc2, od2, .func (PySem.W.fnOf "law" "law" (defArgs s_law) (defBody s_law) (defScope s_law) .none kV2 dc2 pm2 an2 cd2 ct2), sl2⟩) (cL : PySem.W.codeIn K cd2 "law" = true) (kL : PySem.W.keepIn K (.ref f2) = true)
    (bc_OutOfRange : BadC K mg "OutOfRange" "value" CO "OutOfRange.__init__" s_OutOfRange___init__)
    (bc_BadSize : BadC K mg "BadSize" "size" CS "BadSize.__init__" s_BadSize___init__)
    (bc_TooMany : BadC K mg "TooMany" "count" CM "TooMany.__init__" s_TooMany___init__)
    (bs_HedgeError : BaseC K mg "HedgeError") (m_HedgeError : mg "HedgeError" = some (.ref HE))
    (ve_OutOfRange : PySem.W.kitOne K (.ref CO) (.type "ValueError") = some true) (ex_OutOfRange : PySem.W.exmOne K (.ref CO) (.ref HE) = some true)
    (ve_BadSize : PySem.W.kitOne K (.ref CS) (.type "ValueError") = some true) (ex_BadSize : PySem.W.exmOne K (.ref CS) (.ref HE) = some true)
    (ve_TooMany : PySem.W.kitOne K (.ref CM) (.type "ValueError") = some true) (ex_TooMany : PySem.W.exmOne K (.ref CM) (.ref HE) = some true)
    (no_OutOfRange_value : PySem.W.findIn K (.ref CO) "value" = some none)
    (no_OutOfRange_limit : PySem.W.findIn K (.ref CO) "limit" = some none)
    (no_OutOfRange_size : PySem.W.findIn K (.ref CO) "size" = some none)
    (no_OutOfRange_count : PySem.W.findIn K (.ref CO) "count" = some none)
    (no_BadSize_value : PySem.W.findIn K (.ref CS) "value" = some none)
    (no_BadSize_limit : PySem.W.findIn K (.ref CS) "limit" = some none)
    (no_BadSize_size : PySem.W.findIn K (.ref CS) "size" = some none)
    (no_BadSize_count : PySem.W.findIn K (.ref CS) "count" = some none)
    (no_TooMany_value : PySem.W.findIn K (.ref CM) "value" = some none)
    (no_TooMany_limit : PySem.W.findIn K (.ref CM) "limit" = some none)
    (no_TooMany_size : PySem.W.findIn K (.ref CM) "size" = some none)
    (no_TooMany_count : PySem.W.findIn K (.ref CM) "count" = some none)
    (o_OutOfRange_BadSize : One K mg CO "BadSize")
    (o_OutOfRange_TooMany : One K mg CO "TooMany")
    (o_BadSize_OutOfRange : One K mg CS "OutOfRange")
    (o_BadSize_TooMany : One K mg CS "TooMany")
    (o_TooMany_OutOfRange : One K mg CM "OutOfRange")
    (o_TooMany_BadSize : One K mg CM "BadSize")
    (g1 : ∃ u, mg "MOST_LOTS" = some u ∧ RelV (.int 10) u) (g2 : ∃ u, mg "MOST_MIXED" = some u ∧ RelV (.int 20) u) (m_factorial : mg "factorial" = some (.builtin "math.factorial")) :
    ∃ fd : FuncData, (∀ (s : Shared) (v : Value), BindsTo s fd ⟨[v], []⟩ [("script", v)]) ∧ ∀ base : Heap, K.In base → base.Ns mainGlobals mg → FnOk P w K mg base CX0 6 fa fd ["script"] (sp_top K) := by
  have e := hfa.symm.trans (PySem.W.mg_of X G aL)
  cases e
  refine ⟨PySem.W.fnOf "law" "law" (defArgs s_law) (defBody s_law) (defScope s_law) .none kV2 dc2 pm2 an2 cd2 ct2, fun s v => .of_eq rfl, fun base _ _ => ?_⟩
  obtain ⟨fI_OutOfRange, fd_OutOfRange, i1_OutOfRange, i2_OutOfRange, FI_OutOfRange⟩ := bc_OutOfRange.ini
  have bad_OutOfRange : BadN P w K mg base "OutOfRange" 2 nRange fRange CO := ⟨bc_OutOfRange.nm, bc_OutOfRange.ox, ⟨fI_OutOfRange, fd_OutOfRange, _, i1_OutOfRange, i2_OutOfRange, fn_OutOfRange bs_HedgeError FI_OutOfRange, FI_OutOfRange.binds (ps := ["self", "value", "limit"]) fun _ _ _ _ _ _ us hl => match us, hl with | [_, _, _], _ => rfl⟩, all_cons no_OutOfRange_value <| all_cons no_OutOfRange_limit <| all_none, bc_OutOfRange.ex, bc_OutOfRange.xf⟩
  obtain ⟨fI_BadSize, fd_BadSize, i1_BadSize, i2_BadSize, FI_BadSize⟩ := bc_BadSize.ini
  have bad_BadSize : BadN P w K mg base "BadSize" 1 nSize fSize CS := ⟨bc_BadSize.nm, bc_BadSize.ox, ⟨fI_BadSize, fd_BadSize, _, i1_BadSize, i2_BadSize, fn_BadSize bs_HedgeError FI_BadSize, FI_BadSize.binds (ps := ["self", "size"]) fun _ _ _ _ _ _ us hl => match us, hl with | [_, _], _ => rfl⟩, all_cons no_BadSize_size <| all_none, bc_BadSize.ex, bc_BadSize.xf⟩
  obtain ⟨fI_TooMany, fd_TooMany, i1_TooMany, i2_TooMany, FI_TooMany⟩ := bc_TooMany.ini
  have bad_TooMany : BadN P w K mg base "TooMany" 2 nMany fMany CM := ⟨bc_TooMany.nm, bc_TooMany.ox, ⟨fI_TooMany, fd_TooMany, _, i1_TooMany, i2_TooMany, fn_TooMany bs_HedgeError FI_TooMany, FI_TooMany.binds (ps := ["self", "count", "limit"]) fun _ _ _ _ _ _ us hl => match us, hl with | [_, _, _], _ => rfl⟩, all_cons no_TooMany_count <| all_cons no_TooMany_limit <| all_none, bc_TooMany.ex, bc_TooMany.xf⟩
  have T : Three K mg CO CS CM := ⟨one_eq o_OutOfRange_BadSize bc_BadSize.nm, one_eq o_OutOfRange_TooMany bc_TooMany.nm, one_eq o_BadSize_OutOfRange bc_OutOfRange.nm, one_eq o_BadSize_TooMany bc_TooMany.nm, one_eq o_TooMany_OutOfRange bc_OutOfRange.nm, one_eq o_TooMany_BadSize bc_BadSize.nm, ve_OutOfRange, ve_BadSize, ve_TooMany, fun C hC => by
    rcases hC with rfl | rfl | rfl
    · exact all_cons no_OutOfRange_value <| all_cons no_OutOfRange_limit <| all_cons no_OutOfRange_size <| all_cons no_OutOfRange_count <| all_none
    · exact all_cons no_BadSize_value <| all_cons no_BadSize_limit <| all_cons no_BadSize_size <| all_cons no_BadSize_count <| all_none
    · exact all_cons no_TooMany_value <| all_cons no_TooMany_limit <| all_cons no_TooMany_size <| all_cons no_TooMany_count <| all_none⟩
  have c_mixed : Cl P w K mg base 1 "_law_mixed" sp_mixed := ok_mixed D_law_mixed B
  have c_take := ok_take D_law_take B c_mixed
  have c_whole := ok_whole D_law_whole c_take
  have c_row := ok_row D_law_row B c_take
  have c_put := ok_put D_law_put B c_take
  have c_great := ok_great D_law_great B c_take
  have c_size := ok_size D_law_size B c_take c_whole c_great
  have c_lengths := ok_lengths D_law_lengths B c_take c_put c_row
  have c_length_row := ok_length_row D_law_length_row B c_take c_lengths c_put c_great
  have c_same : ∀ n, Cl P w K mg base n "_law_same" (sp_same n) := ok_same D_law_same B
  have c_copy : ∀ n, Cl P w K mg base n "_law_copy" (sp_copy n) := ok_copy D_law_copy B
  have c_copyI := ok_copyI D_law_copy B (c_copy 1)
  have c_check_range := ok_check_range D_check_range bad_OutOfRange
  have c_check_most := ok_check_most D_check_most bad_TooMany
  have f_ph := fun f fd F => fn_pond_histories (P := P) (w := w) (base := base) B g1 bad_BadSize c_check_range f fd F
  have cr_ph := cr_pond_histories D_pond_histories f_ph
  have ck_ph := crk_pond_histories D_pond_histories f_ph
  have q_ph := q_pond_histories cr_ph
  have c_mixL := ok_mixesL D_count_mixes B g2 m_factorial c_check_most
  have c_mixT := ok_mixesT D_count_mixes B g2 m_factorial c_check_most
  have q_mix := q_count_mixes c_mixL
  have c_refusal := ok_refusal D_law_refusal B bad_OutOfRange bad_BadSize bad_TooMany T
  have c_ask_size := ok_ask_size D_law_ask_size m_HedgeError ex_OutOfRange ex_BadSize ck_ph c_refusal
  have c_ask_row := ok_ask_row seqL D_law_ask_row m_HedgeError ex_TooMany c_mixL c_refusal
  have c_ask_rowT := ok_ask_row seqT D_law_ask_row m_HedgeError ex_TooMany c_mixT c_refusal
  have c_triangle : Cl P w K mg base 1 "_law_triangle" sp_triangle := ok_triangle D_law_triangle B
  have c_mixes_due : Cl P w K mg base 1 "_law_mixes_due" sp_mixes_due := ok_mixes_due D_law_mixes_due B
  have c_hist_due : Cl P w K mg base 1 "_law_histories_due" sp_histories_due := ok_histories_due D_law_histories_due B
  have c_last := ok_last D_law_by_last_deed B q_mix q_ph
  have c_store : Cl P w K mg base 1 "_law_store" (sp_store K) := ok_store D_law_store B
  exact fn_law (fun_mk lL cL kL) B c_store c_take c_triangle c_size (c_same 5) c_ask_size c_hist_due c_last c_length_row c_mixes_due c_copyI c_ask_row c_ask_rowT
end
end Z
set_option Elab.async false
set_option linter.all false
set_option maxRecDepth 100000
open PySem PySem.W PyProof.Rows
set_option maxHeartbeats 0 in
theorem PySem.Challenge.cw_hedgejoin_k51_histories_of_one_pond_holds : PySem.Challenge.rw_hedgejoin_k51_histories_of_one_pond.Holds := by
  w_on; o_law; k_head; (case hw => w_witness2)
  k_fill
  refine L2.walk_of (l := PySem.Challenge.rw_hedgejoin_k51_histories_of_one_pond) (n := 63) (k := 6) (x := "script") (CX := fun _ => L2.CX0) (sp := fun w => Z.sp_top _) rfl (by decide) rfl ⟨rfl, by decide, by decide⟩ (fun w h Y => PySem.W.kIn_of Y) ?F (fun _ _ a ns hl _ hS => ⟨a, ns, rfl, hS, hl, fun _ => rfl⟩) (fun _ _ _ _ _ h => h)
  case F =>
    intro w mg fa h KX G hmg
    refine' Z.fin_mk KX G hmg ?B ?D_check_range ?D_check_most ?D_pond_histories ?D_count_mixes ?D_law_store ?D_law_mixed ?D_law_take ?D_law_whole ?D_law_put ?D_law_row ?D_law_same ?D_law_copy ?D_law_lengths ?D_law_refusal ?D_law_ask_size ?D_law_ask_row ?D_law_triangle ?D_law_mixes_due ?D_law_histories_due ?D_law_by_last_deed ?D_law_great ?D_law_size ?D_law_length_row ?aL ?lL ?cL ?kL ?bc_OutOfRange ?bc_BadSize ?bc_TooMany ?bs ?mH ?ve_OutOfRange ?ex_OutOfRange ?ve_BadSize ?ex_BadSize ?ve_TooMany ?ex_TooMany ?no_OutOfRange_value ?no_OutOfRange_limit ?no_OutOfRange_size ?no_OutOfRange_count ?no_BadSize_value ?no_BadSize_limit ?no_BadSize_size ?no_BadSize_count ?no_TooMany_value ?no_TooMany_limit ?no_TooMany_size ?no_TooMany_count ?o_OutOfRange_BadSize ?o_OutOfRange_TooMany ?o_BadSize_OutOfRange ?o_BadSize_TooMany ?o_TooMany_OutOfRange ?o_TooMany_BadSize ?g1 ?g2 ?mf
    (case B => refine' ⟨PySem.W.mg_none_of KX G ?z_len, PySem.W.mg_none_of KX G ?z_list, PySem.W.mg_none_of KX G ?z_tuple, PySem.W.mg_none_of KX G ?z_int, PySem.W.mg_none_of KX G ?z_range, PySem.W.mg_none_of KX G ?z_isinstance, PySem.W.mg_none_of KX G ?z_sorted, PySem.W.mg_none_of KX G ?z_all, PySem.W.mg_none_of KX G ?z_any, PySem.W.mg_none_of KX G ?z_str, PySem.W.mg_none_of KX G ?z_bool, PySem.W.mg_none_of KX G ?z_enumerate, PySem.W.mg_none_of KX G ?z_zip, PySem.W.mg_none_of KX G ?z_max, PySem.W.mg_none_of KX G ?z_min, PySem.W.mg_none_of KX G ?z_set, PySem.W.mg_none_of KX G ?z_ValueError, PySem.W.mg_none_of KX G ?z_sum⟩ <;> k_is)
    (case D_check_range => (refine' Z.dn_of KX G ?a ?l ?c ?k; (case a => k_is); (case l => k_is); (case c => k_is); (case k => k_is)))
    (case D_check_most => (refine' Z.dn_of KX G ?a ?l ?c ?k; (case a => k_is); (case l => k_is); (case c => k_is); (case k => k_is)))
    (case D_pond_histories => (refine' Z.dn_of KX G ?a ?l ?c ?k; (case a => k_is); (case l => k_is); (case c => k_is); (case k => k_is)))
    (case D_count_mixes => (refine' Z.dn_of KX G ?a ?l ?c ?k; (case a => k_is); (case l => k_is); (case c => k_is); (case k => k_is)))
    (case D_law_store => (refine' Z.dn_of KX G ?a ?l ?c ?k; (case a => k_is); (case l => k_is); (case c => k_is); (case k => k_is)))
    (case D_law_mixed => (refine' Z.dn_of KX G ?a ?l ?c ?k; (case a => k_is); (case l => k_is); (case c => k_is); (case k => k_is)))
    (case D_law_take => (refine' Z.dn_of KX G ?a ?l ?c ?k; (case a => k_is); (case l => k_is); (case c => k_is); (case k => k_is)))
    (case D_law_whole => (refine' Z.dn_of KX G ?a ?l ?c ?k; (case a => k_is); (case l => k_is); (case c => k_is); (case k => k_is)))
    (case D_law_put => (refine' Z.dn_of KX G ?a ?l ?c ?k; (case a => k_is); (case l => k_is); (case c => k_is); (case k => k_is)))
    (case D_law_row => (refine' Z.dn_of KX G ?a ?l ?c ?k; (case a => k_is); (case l => k_is); (case c => k_is); (case k => k_is)))
    (case D_law_same => (refine' Z.dn_of KX G ?a ?l ?c ?k; (case a => k_is); (case l => k_is); (case c => k_is); (case k => k_is)))
    (case D_law_copy => (refine' Z.dn_of KX G ?a ?l ?c ?k; (case a => k_is); (case l => k_is); (case c => k_is); (case k => k_is)))
    (case D_law_lengths => (refine' Z.dn_of KX G ?a ?l ?c ?k; (case a => k_is); (case l => k_is); (case c => k_is); (case k => k_is)))
    (case D_law_refusal => (refine' Z.dn_of KX G ?a ?l ?c ?k; (case a => k_is); (case l => k_is); (case c => k_is); (case k => k_is)))
    (case D_law_ask_size => (refine' Z.dn_of KX G ?a ?l ?c ?k; (case a => k_is); (case l => k_is); (case c => k_is); (case k => k_is)))
    (case D_law_ask_row => (refine' Z.dn_of KX G ?a ?l ?c ?k; (case a => k_is); (case l => k_is); (case c => k_is); (case k => k_is)))
    (case D_law_triangle => (refine' Z.dn_of KX G ?a ?l ?c ?k; (case a => k_is); (case l => k_is); (case c => k_is); (case k => k_is)))
    (case D_law_mixes_due => (refine' Z.dn_of KX G ?a ?l ?c ?k; (case a => k_is); (case l => k_is); (case c => k_is); (case k => k_is)))
    (case D_law_histories_due => (refine' Z.dn_of KX G ?a ?l ?c ?k; (case a => k_is); (case l => k_is); (case c => k_is); (case k => k_is)))
    (case D_law_by_last_deed => (refine' Z.dn_of KX G ?a ?l ?c ?k; (case a => k_is); (case l => k_is); (case c => k_is); (case k => k_is)))
    (case D_law_great => (refine' Z.dn_of KX G ?a ?l ?c ?k; (case a => k_is); (case l => k_is); (case c => k_is); (case k => k_is)))
    (case D_law_size => (refine' Z.dn_of KX G ?a ?l ?c ?k; (case a => k_is); (case l => k_is); (case c => k_is); (case k => k_is)))
    (case D_law_length_row => (refine' Z.dn_of KX G ?a ?l ?c ?k; (case a => k_is); (case l => k_is); (case c => k_is); (case k => k_is)))
    (case aL => k_is); (case lL => k_is); (case cL => k_is); (case kL => k_is)
    (case bc_OutOfRange => (refine' Z.badC_mk KX G ?a ?lC ?rv ?sa ?exC ?tyC ?kC ?iC ?tI ?lI ?cI ?kI ?no ?ga ?gg ?hd ?ha ?hn ?ht ?hm; (case a => k_is); (case lC => k_is); (case rv => decide +kernel); (case sa => k_is); (case exC => k_is); (case tyC => k_is); (case kC => k_is); (case iC => k_is); (case tI => k_is); (case lI => k_is); (case cI => k_is); (case kI => k_is); (case no => k_is); (case ga => k_is); (case gg => k_is); (case hd => k_is); (case ha => k_is); (case hn => k_is); (case ht => k_is); (case hm => k_is)))
    (case bc_BadSize => (refine' Z.badC_mk KX G ?a ?lC ?rv ?sa ?exC ?tyC ?kC ?iC ?tI ?lI ?cI ?kI ?no ?ga ?gg ?hd ?ha ?hn ?ht ?hm; (case a => k_is); (case lC => k_is); (case rv => decide +kernel); (case sa => k_is); (case exC => k_is); (case tyC => k_is); (case kC => k_is); (case iC => k_is); (case tI => k_is); (case lI => k_is); (case cI => k_is); (case kI => k_is); (case no => k_is); (case ga => k_is); (case gg => k_is); (case hd => k_is); (case ha => k_is); (case hn => k_is); (case ht => k_is); (case hm => k_is)))
    (case bc_TooMany => (refine' Z.badC_mk KX G ?a ?lC ?rv ?sa ?exC ?tyC ?kC ?iC ?tI ?lI ?cI ?kI ?no ?ga ?gg ?hd ?ha ?hn ?ht ?hm; (case a => k_is); (case lC => k_is); (case rv => decide +kernel); (case sa => k_is); (case exC => k_is); (case tyC => k_is); (case kC => k_is); (case iC => k_is); (case tI => k_is); (case lI => k_is); (case cI => k_is); (case kI => k_is); (case no => k_is); (case ga => k_is); (case gg => k_is); (case hd => k_is); (case ha => k_is); (case hn => k_is); (case ht => k_is); (case hm => k_is)))
    (case bs => (refine' Z.base_mk (mc := .type "type") KX G ?ba ?bs ?br ?bf; (case ba => k_is); (case bs => k_is); (case br => k_is); (case bf => k_is)))
    (case mH => (refine' PySem.W.mg_of KX G ?a; (case a => k_is)))
    (case ex_OutOfRange => (refine' PySem.W.exm_ref ?a ?b ?c ?d; (case a => k_is); (case b => k_is); (case c => k_is); (case d => k_is)))
    (case ve_OutOfRange => (refine' Z.kit_ve ?a ?b; (case a => decide +kernel); (case b => k_is)))
    (case ex_BadSize => (refine' PySem.W.exm_ref ?a ?b ?c ?d; (case a => k_is); (case b => k_is); (case c => k_is); (case d => k_is)))
    (case ve_BadSize => (refine' Z.kit_ve ?a ?b; (case a => decide +kernel); (case b => k_is)))
    (case ex_TooMany => (refine' PySem.W.exm_ref ?a ?b ?c ?d; (case a => k_is); (case b => k_is); (case c => k_is); (case d => k_is)))
    (case ve_TooMany => (refine' Z.kit_ve ?a ?b; (case a => decide +kernel); (case b => k_is)))
    (case no_OutOfRange_value => k_is)
    (case no_OutOfRange_limit => k_is)
    (case no_OutOfRange_size => k_is)
    (case no_OutOfRange_count => k_is)
    (case no_BadSize_value => k_is)
    (case no_BadSize_limit => k_is)
    (case no_BadSize_size => k_is)
    (case no_BadSize_count => k_is)
    (case no_TooMany_value => k_is)
    (case no_TooMany_limit => k_is)
    (case no_TooMany_size => k_is)
    (case no_TooMany_count => k_is)
    (case g1 => (refine' Z.glob_of KX G ?a ?r; (case a => k_is); (case r => exact ⟨_, rfl⟩)))
    (case g2 => (refine' Z.glob_of KX G ?a ?r; (case a => k_is); (case r => exact ⟨_, rfl⟩)))
    (case mf => (refine' PySem.W.mg_of KX G ?a; (case a => k_is)))
    (case o_OutOfRange_BadSize => (refine' Z.one_mk KX G ?a ?t ?hq ?s ?n; (case a => k_is); (case t => k_is); (case hq => k_is); (case s => k_is); (case n => first | rfl | decide)))
    (case o_OutOfRange_TooMany => (refine' Z.one_mk KX G ?a ?t ?hq ?s ?n; (case a => k_is); (case t => k_is); (case hq => k_is); (case s => k_is); (case n => first | rfl | decide)))
    (case o_BadSize_OutOfRange => (refine' Z.one_mk KX G ?a ?t ?hq ?s ?n; (case a => k_is); (case t => k_is); (case hq => k_is); (case s => k_is); (case n => first | rfl | decide)))
    (case o_BadSize_TooMany => (refine' Z.one_mk KX G ?a ?t ?hq ?s ?n; (case a => k_is); (case t => k_is); (case hq => k_is); (case s => k_is); (case n => first | rfl | decide)))
    (case o_TooMany_OutOfRange => (refine' Z.one_mk KX G ?a ?t ?hq ?s ?n; (case a => k_is); (case t => k_is); (case hq => k_is); (case s => k_is); (case n => first | rfl | decide)))
    (case o_TooMany_BadSize => (refine' Z.one_mk KX G ?a ?t ?hq ?s ?n; (case a => k_is); (case t => k_is); (case hq => k_is); (case s => k_is); (case n => first | rfl | decide)))
