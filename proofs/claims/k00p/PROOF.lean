import PyProof.Rows.All
import Wide.All
import OpenK.AllK
import Wide.FinOn
import HandS.ForMost
import HandS.Wide
import HandS.SortInts
import HandS.IsInst
import HandS.Style
import HandS.TupAny
import HandS.FStr
import HandS.Defaults
import HandS.TryOnly
import HandS.HotCalls
import HandS.ExcInit
import HandS.ExcIs
import HandS.ExcField
import HandS.WordsExc
import KE.KExcIs
import PySem.Challenge.RW_hedgejoin_k00_names_and_positions
import PyProof.StrLawsRepr
set_option Elab.async false
set_option linter.all false
set_option maxRecDepth 100000
namespace Z
open PySem PySem.Spec PyProof.Rows L2

/-- the built-in names that a module does not bind -/
structure Blt (mg : Str → Option Value) : Prop where
  len : mg "len" = none
  list : mg "list" = none
  tuple : mg "tuple" = none
  int : mg "int" = none
  range : mg "range" = none
  isinstance : mg "isinstance" = none
  sorted : mg "sorted" = none
  all : mg "all" = none
  any : mg "any" = none
  str : mg "str" = none
  bool : mg "bool" = none
  enumerate : mg "enumerate" = none
  zip : mg "zip" = none
  max : mg "max" = none
  min : mg "min" = none
  set : mg "set" = none
  ValueError : mg "ValueError" = none

/-- a def that stands under its name -/
structure Dn (K : PySem.W.Frag) (mg : Str → Option Value) (x : Str) (st : Stmt) : Prop where
  ex : ∃ (f : Addr) (fd : FuncData), Fun K x x st f fd ∧ mg x = some (.ref f)
/-- a def that keeps its promise -/
structure Cl (P : Program) (w : World) (K : PySem.W.Frag) (mg : Str → Option Value) (base : Heap) (k : Nat) (x : Str) (sp : Sp) : Prop where
  ex : ∃ (f : Addr) (fd : FuncData) (ps : List Str), FnOk P w K mg base CX0 k f fd ps sp ∧ mg x = some (.ref f) ∧ PySem.W.keepIn K (.ref f) = true ∧ Binds K fd ps []
def BindO (x : Str) (st : Stmt) (ps : List Str) : Prop := ∀ (kV doc pm : Value) (an : Option Addr) (cdv ct : Value) (us : List Value), us.length = ps.length →
  bindArgs (PySem.W.fnOf x x (defArgs st) (defBody st) (defScope st) .none kV doc pm an cdv ct) ⟨us, []⟩ = pure (ps.zip us)
section
variable {P : Program} {w : World} {K : PySem.W.Frag} {mg : Str → Option Value} {base : Heap}
theorem cl_of {x : Str} {st : Stmt} {N ps : List Str} {k : Nat} {sp : Sp} (D : Dn K mg x st) (S : FnScope N ps (defScope st)) (b : BindO x st ps) (len : ∀ vs H Q E, sp vs H Q E → vs.length = ps.length)
    (body : ∀ (f : Addr) (cdv : Value) (A : Around) (outer : List Env) (s : Shared) (H : Hp) (vs : List V) (Q : VK) (E : XK), Room k (A.deeper (envOfC x (defScope st) s.heap.objs.size f cdv)) → sp vs H Q E →
      ∃ t, PSs (cxOf CX0 P w K mg base N x (defScope st) f cdv A outer s H E).nox (defBody st) t ∧ t { nx := fun _ H' => Q .non H', rt := Q } (start N vs) H) : Cl P w K mg base (k + 1) x sp := by
  obtain ⟨f, fd, F, hm⟩ := D.ex
  exact ⟨f, fd, ps, F.ok S len (body f), hm, F.kp, F.binds b⟩
theorem Cl.mono {x : Str} {j k : Nat} {sp : Sp} (c : Cl P w K mg base j x sp) (h : j ≤ k) : Cl P w K mg base k x sp := by
  obtain ⟨f, fd, ps, F, a⟩ := c.ex
  exact ⟨f, fd, ps, F.mono h, a⟩
end
/-- its call, as a reading -/
def tCl (sp : Sp) (t : TA) : TE := fun σ H Q => t σ H fun vs H1 => sp vs H1 Q E0
section
variable {X : Cx} {k j : Nat} {x : Str} {sp : Sp} {p pos : Pos} {e : Expr} {es : List Expr} {t : TA}
theorem pe_cl (c : Cl X.prog X.w X.K X.mg X.base k x sp) (hr : Room j X.A) (hk : k ≤ j) (hg : Gl X x) (ha : PA X (e :: es) t)
    (d : (x == ("__debug__" : Str)) = false := by decide) (h1 : starEach (e :: es) X.env = (false, eval e X.env) :: starEach es X.env := by rfl) (h2 : (backTo pos (starEach es X.env)).any (·.1) = false := by rfl) :
    PE X (.Call (.Name x p) (e :: es) [] pos) (tCl sp t) := by
  obtain ⟨f, fd, ps, F, hm, kp, b⟩ := c.ex
  have z := pe_call (pos := pos) F (hr.mono hk) hg hm kp b .nil (E := E0) pass0 ha d h1 h2 (p := p)
  refine ⟨fun pins s σ H Q I h => z.run pins s σ H Q I ?_⟩
  have e : tCall sp [] E0 t = tCl sp t := by
    funext σ H Q
    simp only [tCall, tCl, List.append_nil]
  rw [e]
  exact h
end

/-! ### defs with keyword-only defaults, calls with keywords -/
/-- a def that stands under its name, kws its keyword-only defaults -/
structure Dk (K : PySem.W.Frag) (mg : Str → Option Value) (x : Str) (st : Stmt) (kws : List (Str × V)) : Prop where
  ex : ∃ (f : Addr) (fd : FuncData), FunD K x x (defArgs st) (defBody st) (defScope st) [] kws f fd ∧ mg x = some (.ref f)
structure Fk (P : Program) (w : World) (K : PySem.W.Frag) (mg : Str → Option Value) (base : Heap) (k : Nat) (x : Str) (st : Stmt) (kws : List (Str × V)) (ps : List Str) (sp : Sp) : Prop where
  ex : ∃ (f : Addr) (fd : FuncData), FnOk P w K mg base CX0 k f fd ps sp ∧ mg x = some (.ref f) ∧ FunD K x x (defArgs st) (defBody st) (defScope st) [] kws f fd
/-- a call by n values, the defaults dvs behind them -/
structure Cd (P : Program) (w : World) (K : PySem.W.Frag) (mg : Str → Option Value) (base : Heap) (k : Nat) (x : Str) (dvs : List V) (sp : Sp) : Prop where
  ex : ∃ (f : Addr) (fd : FuncData) (ps : List Str) (ds : List Value), FnOk P w K mg base CX0 k f fd ps sp ∧ mg x = some (.ref f) ∧ PySem.W.keepIn K (.ref f) = true ∧ Binds K fd ps ds ∧ Vals dvs ds
/-- a call by n values and the keywords ks -/
structure Ck (P : Program) (w : World) (K : PySem.W.Frag) (mg : Str → Option Value) (base : Heap) (k : Nat) (x : Str) (n : Nat) (ks : List Str) (gV : List V → List V → List V) (sp : Sp) : Prop where
  ex : ∃ (f : Addr) (fd : FuncData) (ps : List Str) (g : List Value → List Value → List Value), FnOk P w K mg base CX0 k f fd ps sp ∧ mg x = some (.ref f) ∧ PySem.W.keepIn K (.ref f) = true ∧ KBn K fd ps n ks g gV
section
variable {P : Program} {w : World} {K : PySem.W.Frag} {mg : Str → Option Value} {base : Heap}
theorem fk_of {x : Str} {st : Stmt} {kws : List (Str × V)} {N ps : List Str} {k : Nat} {sp : Sp} (D : Dk K mg x st kws) (S : FnScope N ps (defScope st)) (len : ∀ vs H Q E, sp vs H Q E → vs.length = ps.length)
    (body : ∀ (f : Addr) (cdv : Value) (A : Around) (outer : List Env) (s : Shared) (H : Hp) (vs : List V) (Q : VK) (E : XK), Room k (A.deeper (envOfC x (defScope st) s.heap.objs.size f cdv)) → sp vs H Q E →
      ∃ t, PSs (cxOf CX0 P w K mg base N x (defScope st) f cdv A outer s H E).nox (defBody st) t ∧ t { nx := fun _ H' => Q .non H', rt := Q } (start N vs) H) : Fk P w K mg base (k + 1) x st kws ps sp := by
  obtain ⟨f, fd, F, hm⟩ := D.ex
  exact ⟨f, fd, F.ok S len fun cdv A outer s H vs Q E hr h => (body f cdv A outer s H vs Q E hr h).imp fun t z => ⟨z.1.nox, z.2⟩, hm, F⟩
theorem Fk.cd {x : Str} {st : Stmt} {kws : List (Str × V)} {ps : List Str} {k : Nat} {sp : Sp} (F : Fk P w K mg base k x st kws ps sp) (n : Nat) (hk : kws ≠ []) (hn : n + kws.length = ps.length)
    (h : ∀ (D : Addr) (doc pm : Value) (an : Option Addr) (cdv ct : Value) (us ks : List Value), us.length = n → ks.length = kws.length →
      KwChain D ((kws.map (·.1)).zip ks) (bindArgs (PySem.W.fnOf x x (defArgs st) (defBody st) (defScope st) .none (.ref D) doc pm an cdv ct) ⟨us, []⟩) (ps.zip (us ++ ks))) : Cd P w K mg base k x (kws.map (·.2)) sp := by
  obtain ⟨f, fd, Fn, hm, FD⟩ := F.ex
  obtain ⟨ds, v, b⟩ := FD.binds0 n hk hn h
  exact ⟨f, fd, ps, ds, Fn, hm, FD.kp, b, v⟩
/-- every keyword-only parameter is named -/
theorem Fk.ck {x : Str} {st : Stmt} {kws : List (Str × V)} {ps : List Str} {k : Nat} {sp : Sp} (F : Fk P w K mg base k x st kws ps sp) (n : Nat) (ks : List Str) (g : {α : Type} → List α → List α → List α)
    (hg : ∀ {vs : List V} {us : List Value} {zs : List V} {ws : List Value}, Vals vs us → Vals zs ws → Vals (g vs zs) (g us ws))
    (h : ∀ (kV doc pm : Value) (an : Option Addr) (cdv ct : Value) (us ws : List Value), us.length = n → ws.length = ks.length →
      bindArgs (PySem.W.fnOf x x (defArgs st) (defBody st) (defScope st) .none kV doc pm an cdv ct) ⟨us, ks.zip ws⟩ = pure (ps.zip (g us ws))) : Ck P w K mg base k x n ks g sp := by
  obtain ⟨f, fd, Fn, hm, FD⟩ := F.ex
  obtain ⟨oc, od, dV, kV, doc, pm, an, cdv, ct, osl, rfl, lk, hcd, hD, hK⟩ := id FD.ex
  rcases hD with ⟨_, rfl⟩ | ⟨e, _⟩
  · exact ⟨f, _, ps, g, Fn, hm, FD.kp, ⟨fun s us ws X l1 l2 => .of_eq (h kV doc pm an cdv ct us ws l1 l2), hg⟩⟩
  · exact absurd rfl e
/-- the same of a def without defaults -/
theorem ck_of {x : Str} {st : Stmt} {N ps : List Str} {k : Nat} {sp : Sp} (D : Dn K mg x st) (c : ∀ (f : Addr) (fd : FuncData), Fun K x x st f fd → FnOk P w K mg base CX0 k f fd ps sp) (n : Nat) (ks : List Str) (g : {α : Type} → List α → List α → List α)
    (hg : ∀ {vs : List V} {us : List Value} {zs : List V} {ws : List Value}, Vals vs us → Vals zs ws → Vals (g vs zs) (g us ws))
    (h : ∀ (kV doc pm : Value) (an : Option Addr) (cdv ct : Value) (us ws : List Value), us.length = n → ws.length = ks.length →
      bindArgs (PySem.W.fnOf x x (defArgs st) (defBody st) (defScope st) .none kV doc pm an cdv ct) ⟨us, ks.zip ws⟩ = pure (ps.zip (g us ws))) : Ck P w K mg base k x n ks g sp := by
  obtain ⟨f, fd, F, hm⟩ := D.ex
  have Fn := c f fd F
  obtain ⟨oc, od, kV, doc, pm, an, cdv, ct, osl, rfl, lk, hcd⟩ := id F.ex
  exact ⟨f, _, ps, g, Fn, hm, F.kp, ⟨fun s us ws X l1 l2 => .of_eq (h kV doc pm an cdv ct us ws l1 l2), hg⟩⟩
end
def tCd (sp : Sp) (dvs : List V) (t : TA) : TE := fun σ H Q => t σ H fun vs H1 => sp (vs ++ dvs) H1 Q E0
def tCk (n m : Nat) (sp : Sp) (g : List V → List V → List V) (t tk : TA) : TE := fun σ H Q => t σ H fun vs H1 => tk σ H1 fun zs H2 => vs.length = n ∧ zs.length = m ∧ sp (g vs zs) H2 Q E0
section
variable {X : Cx} {k j n : Nat} {x : Str} {sp : Sp} {p pos : Pos} {e : Expr} {es : List Expr} {t tk : TA} {dvs : List V} {ks : List Str} {gV : List V → List V → List V} {kws : List Keyword}
theorem pe_cd (c : Cd X.prog X.w X.K X.mg X.base k x dvs sp) (hr : Room j X.A) (hk : k ≤ j) (hg : Gl X x) (ha : PA X (e :: es) t)
    (d : (x == ("__debug__" : Str)) = false := by decide) (h1 : starEach (e :: es) X.env = (false, eval e X.env) :: starEach es X.env := by rfl) (h2 : (backTo pos (starEach es X.env)).any (·.1) = false := by rfl) :
    PE X (.Call (.Name x p) (e :: es) [] pos) (tCd sp dvs t) := by
  obtain ⟨f, fd, ps, ds, F, hm, kp, b, v⟩ := c.ex
  exact pe_call (pos := pos) F (hr.mono hk) hg hm kp b v (E := E0) pass0 ha d h1 h2 (p := p)
theorem pe_ck (c : Ck X.prog X.w X.K X.mg X.base k x n ks gV sp) (hr : Room j X.A) (hk : k ≤ j) (hg : Gl X x) (ha : PA X (e :: es) t) (hkw : PK X kws tk)
    (h1 : (backToKw pos (keywordEach kws X.env)).all (·.1.isSome) = true := by rfl) (h2 : (backToKw pos (keywordEach kws X.env)).filterMap (·.1) = ks := by rfl)
    (d : (x == ("__debug__" : Str)) = false := by decide) (h3 : starEach (e :: es) X.env = (false, eval e X.env) :: starEach es X.env := by rfl)
    (h4 : ((backTo pos (starEach (e :: es) X.env)).any (·.1) || (backToKw pos (keywordEach kws X.env)).any (·.1.isNone)) = false := by rfl) :
    PE X (.Call (.Name x p) (e :: es) kws pos) (tCk n ks.length sp gV t tk) := by
  obtain ⟨f, fd, ps, g, F, hm, kp, b⟩ := c.ex
  exact pe_callN (pos := pos) F (hr.mono hk) hg hm kp b (E := E0) pass0 ha hkw h1 h2 d h3 h4 (p := p)
theorem pe_ck0 (c : Ck X.prog X.w X.K X.mg X.base k x 0 ks gV sp) (hr : Room j X.A) (hk : k ≤ j) (hg : Gl X x) (hkw : PK X kws tk)
    (h1 : (backToKw pos (keywordEach kws X.env)).all (·.1.isSome) = true := by rfl) (h2 : (backToKw pos (keywordEach kws X.env)).filterMap (·.1) = ks := by rfl)
    (d : (x == ("__debug__" : Str)) = false := by decide) (h4 : (backToKw pos (keywordEach kws X.env)).any (·.1.isNone) = false := by rfl) :
    PE X (.Call (.Name x p) [] kws pos) (tCk 0 ks.length sp gV tNil tk) := by
  obtain ⟨f, fd, ps, g, F, hm, kp, b⟩ := c.ex
  refine ⟨fun pins s σ H Q I q => ?_⟩
  refine wpAny_Call_Name_kw (ld_glob I hg hm ?_ d)
  refine PySem.W.callWith_KW0 (h₀ := X.base) I.ok.mod.kin kp h1 (thn (hkw.run pos pins s σ H _ I q) fun ws s2 ⟨zs, H2, I2, rz, l1, l2, q2⟩ => ⟨I2.kIn, ?_⟩) h4
  rw [h2]
  exact run_fnN F (hr.mono hk) b (E := E0) pass0 I2 .nil rz l1 l2 q2
end

/-! ### heaps: all stays but at S -/
def But (S : Addr → Prop) (H H' : Hp) : Prop := ∀ b o, ¬ S b → H b = some o → H' b = some o
theorem But.refl {S : Addr → Prop} (H : Hp) : But S H H := fun _ _ _ h => h
theorem But.trans {S : Addr → Prop} {H H1 H2 : Hp} (a : But S H H1) (b : But S H1 H2) : But S H H2 := fun c o n h => b c o n (a c o n h)
theorem But.of {S : Addr → Prop} {H H1 : Hp} (a : Same H H1) : But S H H1 := fun c o _ h => a c o h
theorem But.new {S : Addr → Prop} {H : Hp} {p : Addr} {o : HO} (h : H p = none) : But S H (upd H p o) := fun b u _ e => by
  rw [upd_ne (ne_of_none e h)]
  exact e
theorem But.at {S : Addr → Prop} {H H1 : Hp} {p : Addr} {o : HO} (a : But S H H1) (h : S p ∨ H p = none) : But S H (upd H1 p o) := fun b u n e => by
  rw [upd_ne (fun z => by
    subst z
    rcases h with h | h
    · exact n h
    · rw [e] at h
      cases h)]
  exact a b u n e
theorem But.sql {S : Addr → Prop} {K : PySem.W.Frag} {H H' : Hp} {a : Addr} {xs : List V} (e : But S H H') (n : ¬ S a) (h : SqL K H a xs) : SqL K H' a xs := by
  rcases h with (h | ⟨o, h⟩) | h
  · exact .inl (.inl (e _ _ n h))
  · exact .inl (.inr ⟨o, e _ _ n h⟩)
  · exact .inr h
theorem But.sqt {S : Addr → Prop} {K : PySem.W.Frag} {H H' : Hp} {a : Addr} {xs : List V} (e : But S H H') (n : ¬ S a) (h : SqT K H a xs) : SqT K H' a xs := by
  rcases h with (h | ⟨o, h⟩) | h
  · exact .inl (.inl (e _ _ n h))
  · exact .inl (.inr ⟨o, e _ _ n h⟩)
  · exact .inr h
theorem But.free {S : Addr → Prop} {H H' : Hp} (e : But S H H') {l : Addr} (n : ¬ S l) (h : H' l = none) : H l = none := by
  cases q : H l with
  | none => rfl
  | some o =>
    rw [e l o n q] at h
    cases h
theorem But.mono {S S' : Addr → Prop} {H H' : Hp} (e : But S H H') (h : ∀ a, S a → S' a) : But S' H H' := fun b o n q => e b o (fun z => n (h b z)) q
theorem same_new {H : Hp} {p : Addr} {o : HO} (h : H p = none) : Same H (upd H p o) := fun b x e => by
  rw [upd_ne (ne_of_none e h)]
  exact e
theorem some_inj {v w : V} : (some (some v) = some (some w)) = (v = w) := by simp
theorem sz_of {n : Nat} (h : n ≤ 100000) : n ≤ sizeLine := Nat.le_trans h (by decide)
theorem sz_lt {n : Nat} (h : n < 100000) : n < sizeLine := Nat.lt_of_lt_of_le h (by decide)

/-! ### a reading, laid open -/
theorem cmul_r {i j : Int} (h1 : -(2 ^ 64) < j) (h2 : j < 2 ^ 64) : CMul i j ↔ True := ⟨fun _ => trivial, fun _ => .inr ⟨h1, h2⟩⟩
theorem cdiv_ok {i j : Int} (h1 : 0 < j) (h2 : j < 2 ^ 64) : CDivW i j := wide_div (b := 64) h1 (by omega) (by decide) (by decide)
theorem cdiv_l {i j : Int} (h1 : 0 < j) (h2 : j < 2 ^ 64) : CDivW i j ↔ True := ⟨fun _ => trivial, fun _ => cdiv_ok h1 h2⟩
theorem cpow_l {i j : Int} (h1 : 0 ≤ j) (h2 : j ≤ 1000000) (h3 : i.natAbs < 2 ^ 64) : CPow i j ↔ True := ⟨fun _ => trivial, fun _ => ⟨h1, h2, h3⟩⟩
theorem scal_ii {i j : Int} : (scal (.int i) (.int j) = true) ↔ True := ⟨fun _ => trivial, fun _ => rfl⟩
theorem scal_bb {i j : Bool} : (scal (.bl i) (.bl j) = true) ↔ True := ⟨fun _ => trivial, fun _ => rfl⟩
theorem scal_ss {i j : Str} : (scal (.str i) (.str j) = true) ↔ True := ⟨fun _ => trivial, fun _ => rfl⟩
theorem callr_imp {X : Cx} {f : Value} {r r' : List V → Hp → VK → Prop} (c : CallR X f r) (h : ∀ xs H Q, r' xs H Q → r xs H Q) : CallR X f r' := fun pins s σ H xs us Q I rv q => c pins s σ H xs us Q I rv (h xs H Q q)
/-- int(n) of an int -/
def rIntI : List V → Hp → VK → Prop := fun xs H Q => ∃ i, xs = [.int i] ∧ Q (.int i) H
theorem call_intI {X : Cx} : CallR X (.type "int") rIntI := callr_imp call_int1 fun _ _ _ ⟨i, e, q⟩ => .inl ⟨i, e, q⟩
/-- the items of a tracked list or tuple -/
def seqAt : Option HO → Option (List V)
  | some (.lst xs) => some xs
  | some (.tup xs) => some xs
  | _ => none
theorem seqAt_lst {xs : List V} : seqAt (some (.lst xs)) = some xs := rfl
theorem seqAt_tup {xs : List V} : seqAt (some (.tup xs)) = some xs := rfl
theorem seq_or {K : PySem.W.Frag} {H : Hp} {p : Addr} {xs : List V} (h : seqAt (H p) = some xs) : SqL K H p xs ∨ SqT K H p xs := by
  cases e : H p with
  | none =>
    rw [e] at h
    cases h
  | some o =>
    rw [e] at h
    cases o with
    | lst ys =>
      cases h
      exact .inl (SqL.of e)
    | tup ys =>
      cases h
      exact .inr (SqT.of e)
    | _ => cases h
theorem seq_some {H : Hp} {p : Addr} {xs : List V} (h : seqAt (H p) = some xs) : ∃ o, H p = some o ∧ seqAt (some o) = some xs := by
  cases e : H p with
  | none =>
    rw [e] at h
    cases h
  | some o =>
    rw [e] at h
    exact ⟨o, rfl, h⟩
theorem But.seqAt {S : Addr → Prop} {H H' : Hp} {p : Addr} {xs : List V} (b : But S H H') (n : ¬ S p) (h : seqAt (H p) = some xs) : seqAt (H' p) = some xs := by
  obtain ⟨o, e, h'⟩ := seq_some h
  rw [b p o n e]
  exact h'
theorem same_seq {H H' : Hp} {p : Addr} {xs : List V} (b : Same H H') (h : seqAt (H p) = some xs) : seqAt (H' p) = some xs := by
  obtain ⟨o, e, h'⟩ := seq_some h
  rw [b p o e]
  exact h'
/-- len of a list, of a tuple -/
def rLenQ : List V → Hp → VK → Prop := fun xs H Q => ∃ p, xs = [.ref p] ∧ ∃ ys, seqAt (H p) = some ys ∧ Q (.int ys.length) H
theorem call_lenQ {X : Cx} : CallR X (.builtin "len") rLenQ := callr_imp call_len_seq fun _ _ _ ⟨p, e, ys, h, q⟩ => ⟨p, ys, e, seq_or h, q⟩
/-- len of a text -/
def rLenS : List V → Hp → VK → Prop := fun xs H Q => ∃ z, xs = [.str z] ∧ z.length ≤ sizeLine ∧ Q (.int z.length) H
theorem call_lenS {X : Cx} : CallR X (.builtin "len") rLenS := callr_imp call_len_str fun _ _ _ ⟨z, e, h, q⟩ => ⟨z, e, h, q⟩
/-- list(xs), tuple(xs) -/
def rListQ : List V → Hp → VK → Prop := fun xs H Q => ∃ p, xs = [.ref p] ∧ ∃ ys, seqAt (H p) = some ys ∧ ∀ l, H l = none → Q (.ref l) (upd H l (.lst ys))
theorem call_listQ {X : Cx} : CallR X (.type "list") rListQ := callr_imp call_list_of fun _ _ _ ⟨p, e, ys, h, q⟩ => ⟨p, ys, e, seq_or h, q⟩
def rListF (K : PySem.W.Frag) : List V → Hp → VK → Prop := fun xs H Q => ∃ p, xs = [.ref p] ∧ ∃ ys, SqL K H p ys ∧ ∀ l, H l = none → Q (.ref l) (upd H l (.lst ys))
theorem call_listF {X : Cx} : CallR X (.type "list") (rListF X.K) := callr_imp call_list_of fun _ _ _ ⟨p, e, ys, h, q⟩ => ⟨p, ys, e, .inl h, q⟩
def rTupL : List V → Hp → VK → Prop := fun xs H Q => ∃ p, xs = [.ref p] ∧ ∃ ys, H p = some (.lst ys) ∧ ∀ l, H l = none → Q (.ref l) (upd H l (.tup ys))
theorem call_tupL {X : Cx} : CallR X (.type "tuple") rTupL := callr_imp call_tuple_of fun _ _ _ ⟨p, e, ys, h, q⟩ => ⟨p, ys, e, .inl ⟨SqL.of h, q⟩⟩
/-- tuple(xs) of either: a new tuple, or itself -/
def rTupQ : List V → Hp → VK → Prop := fun xs H Q => ∃ p, xs = [.ref p] ∧ ∃ ys, (H p = some (.lst ys) ∧ ∀ l, H l = none → Q (.ref l) (upd H l (.tup ys))) ∨ (H p = some (.tup ys) ∧ Q (.ref p) H)
theorem call_tupQ {X : Cx} : CallR X (.type "tuple") rTupQ := callr_imp call_tuple_of fun _ _ _ ⟨p, e, ys, h⟩ => ⟨p, ys, e, h.elim (fun h => .inl ⟨SqL.of h.1, h.2⟩) fun h => .inr ⟨SqT.of h.1, h.2⟩⟩
/-- xs[i], by the object and the place -/
def rAtQ : R2 := fun x y H Q => ∃ p, x = .ref p ∧ ∃ i, y = .int i ∧ ∃ xs, seqAt (H p) = some xs ∧ ∃ v, atI xs i = some v ∧ Q v H
theorem ixr_imp {X : Cx} {r r' : R2} (c : IxR X r) (h : ∀ x y H Q, r' x y H Q → r x y H Q) : IxR X r' := fun value slice pins s σ H x y v u Q I rx ry q e => c value slice pins s σ H x y v u Q I rx ry (h x y H Q q) e
theorem at_seq {X : Cx} : IxR X rAtQ := ixr_imp ix_seq fun _ _ _ _ ⟨p, e, i, e', xs, h, v, a, q⟩ => (seq_or (K := X.K) h).elim (fun h => .inl ⟨p, xs, i, v, e, e', h, a, q⟩) fun h => .inr (.inl ⟨p, xs, i, v, e, e', h, a, q⟩)
/-- xs[i] = v -/
def rPutL : V → V → V → Hp → (Hp → Prop) → Prop := fun o i v H Q => ∃ p, o = .ref p ∧ ∃ k, i = .int k ∧ ∃ xs, H p = some (.lst xs) ∧ ∃ j, ixN xs.length k = some j ∧ Q (upd H p (.lst (xs.set j v)))
theorem put_list {X : Cx} : PSet X rPutL := fun pins s σ H o i v ov iv u Q I ro ri rv ⟨p, e, k, e', xs, h, j, hj, q⟩ => set_list pins s σ H o i v ov iv u Q I ro ri rv ⟨p, xs, k, j, e, e', h, hj, q⟩
theorem at_0 {α : Type} {x : α} {r : List α} : atI (x :: r) 0 = some x := atI_nat (j := 0) rfl
theorem at_1 {α : Type} {x x1 : α} {r : List α} : atI (x :: x1 :: r) 1 = some x1 := atI_nat (j := 1) rfl
theorem at_2 {α : Type} {x x1 x2 : α} {r : List α} : atI (x :: x1 :: x2 :: r) 2 = some x2 := atI_nat (j := 2) rfl
theorem at_3 {α : Type} {x x1 x2 x3 : α} {r : List α} : atI (x :: x1 :: x2 :: x3 :: r) 3 = some x3 := atI_nat (j := 3) rfl
theorem at_4 {α : Type} {x x1 x2 x3 x4 : α} {r : List α} : atI (x :: x1 :: x2 :: x3 :: x4 :: r) 4 = some x4 := atI_nat (j := 4) rfl
theorem ix_lit {n : Nat} {j : Nat} (h : j < n) : ixN n (j : Int) = some j := by
  unfold ixN
  rw [if_pos (by omega), if_pos (by omega)]
  simp
theorem ix_0 {n : Nat} (h : 0 < n) : ixN n 0 = some 0 := ix_lit h
theorem ix_1 {n : Nat} (h : 1 < n) : ixN n 1 = some 1 := ix_lit h
theorem ix_2 {n : Nat} (h : 2 < n) : ixN n 2 = some 2 := ix_lit h
theorem ix_3 {n : Nat} (h : 3 < n) : ixN n 3 = some 3 := ix_lit h
theorem ix_4 {n : Nat} (h : 4 < n) : ixN n 4 = some 4 := ix_lit h
theorem cx_K {CX : CXT} {P : Program} {w : World} {K : PySem.W.Frag} {mg : Str → Option Value} {base : Heap} {N : List Str} {q : Str} {sc : Scope} {f : Addr} {cd : Value} {A : Around} {outer : List Env} {s : Shared} {H : Hp} {E : XK} : (cxOf CX P w K mg base N q sc f cd A outer s H E).K = K := rfl
/-! ### methods of lists -/
theorem pe_imp {X : Cx} {e : Expr} {t t' : TE} (h : PE X e t) (i : ∀ σ H Q, t' σ H Q → t σ H Q) : PE X e t' := ⟨fun pins s σ H Q I q => h.run pins s σ H Q I (i σ H Q q)⟩
theorem mtr_imp {X : Cx} {id : String} {r r' : V → List V → Hp → VK → Prop} (c : MtR X id r) (h : ∀ x xs H Q, r' x xs H Q → r x xs H Q) : MtR X id r' := fun pins s σ H x xs v us Q I rx rv q => c pins s σ H x xs v us Q I rx rv (h x xs H Q q)
/-- o.m(..) of a tracked list -/
def tBL (r : V → List V → Hp → VK → Prop) (to : TE) (t : TA) : TE := fun σ H Q => to σ H fun x H1 => (∃ l, x = .ref l ∧ ∃ xs, H1 l = some (.lst xs)) ∧ t σ H1 fun vs H2 => r x vs H2 Q
def tBL0 (r : V → List V → Hp → VK → Prop) (to : TE) : TE := fun σ H Q => to σ H fun x H1 => (∃ l, x = .ref l ∧ ∃ xs, H1 l = some (.lst xs)) ∧ r x [] H1 Q
theorem tyl {K : PySem.W.Frag} {x : V} {H : Hp} (h : ∃ l, x = .ref l ∧ ∃ xs, H l = some (.lst xs)) : tyV K "list" x H := by
  obtain ⟨l, rfl, xs, h⟩ := h
  exact Or.inl ⟨rfl, _, Or.inl (Or.inl h)⟩
/-- a reading, closed upwards -/
def tUp (t : TE) : TE := fun σ H Q => ∃ R : VK, t σ H R ∧ ∀ x H1, R x H1 → Q x H1
theorem pe_up {X : Cx} {e : Expr} {t : TE} (h : PE X e t) : PE X e (tUp t) := ⟨fun pins s σ H Q I ⟨R, hr, i⟩ => thn (h.run pins s σ H R I hr) fun u s1 ⟨x, H1, I1, r1, q⟩ => ⟨x, H1, I1, r1, i x H1 q⟩⟩
section
variable {X : Cx} {o e : Expr} {es : List Expr} {to : TE} {t : TA} {name : Str} {apos cpos : Pos} {id : String} {r : V → List V → Hp → VK → Prop}
theorem pe_ml0 (slot : Slot "list" name id) (hty : typeOf (.builtin id) = pure (.type "method_descriptor")) (hm : MtR X id r) (ho : PE X o to)
    (h1 : attributeBase o name X.env (eval o X.env) = eval o X.env := by rfl) (h2 : (apos.endLine == cpos.line) = true := by rfl) : PE X (.Call (.Attribute o name apos) [] [] cpos) (tBL0 r to) :=
  pe_imp (pe_bm0 PySem.F.plainAttrs_list slot hty hm (pe_up ho) h1 h2) fun σ H Q h => ⟨_, h, fun x H1 ⟨a, b⟩ => ⟨tyl a, b⟩⟩
theorem pe_ml (slot : Slot "list" name id) (hty : typeOf (.builtin id) = pure (.type "method_descriptor")) (hm : MtR X id r) (ho : PE X o to) (ha : PA X (e :: es) t)
    (h1 : attributeBase o name X.env (eval o X.env) = eval o X.env := by rfl)
    (h3 : ((backTo cpos (starEach (e :: es) X.env)).all (fun x => !x.1) && (backToKw cpos (keywordEach [] X.env)).all (fun x => x.1.isSome) && decide ((e :: es).length + ([] : List Keyword).length + (if ([] : List Keyword).isEmpty then 0 else 1) < 30)) = true := by rfl)
    (h2 : (apos.endLine == cpos.line) = true := by rfl) (h4 : starEach (e :: es) X.env = (false, eval e X.env) :: starEach es X.env := by rfl) (h5 : (backTo cpos (starEach es X.env)).any (·.1) = false := by rfl) :
    PE X (.Call (.Attribute o name apos) (e :: es) [] cpos) (tBL r to t) :=
  pe_imp (pe_bm PySem.F.plainAttrs_list slot hty hm (pe_up ho) ha h1 h3 h2 h4 h5) fun σ H Q h => ⟨_, h, fun x H1 ⟨a, b⟩ => ⟨tyl a, b⟩⟩
end
def rApp : V → List V → Hp → VK → Prop := fun x vs H Q => ∃ l, x = .ref l ∧ ∃ y, vs = [y] ∧ ∃ xs, H l = some (.lst xs) ∧ xs.length < sizeLine ∧ Q .non (upd H l (.lst (xs ++ [y])))
theorem mt_app {X : Cx} : MtR X "list.append" rApp := mtr_imp mt_append fun _ _ _ _ ⟨l, e, y, e', xs, h, z, q⟩ => ⟨l, xs, y, e, e', h, z, q⟩
def rPopN : V → List V → Hp → VK → Prop := fun x vs H Q => ∃ l, x = .ref l ∧ ∃ i, vs = [.int i] ∧ ∃ xs, H l = some (.lst xs) ∧ 0 ≤ i ∧ i < 2 ^ 63 ∧ ∃ y, xs[i.toNat]? = some y ∧ Q y (upd H l (.lst (xs.eraseIdx i.toNat)))
theorem mt_popN {X : Cx} : MtR X "list.pop" rPopN := mtr_imp mt_popAt fun _ _ _ _ ⟨l, e, i, e', xs, h, h0, h1, y, hy, q⟩ =>
  ⟨l, xs, i, i.toNat, y, e, e', h, by omega, h1, seqIndex_of h0 (by
    have z := (List.getElem?_eq_some_iff.mp hy).1
    omega), hy, q⟩
def rRevL : V → List V → Hp → VK → Prop := fun x vs H Q => ∃ l, x = .ref l ∧ vs = [] ∧ ∃ xs, H l = some (.lst xs) ∧ Q .non (upd H l (.lst xs.reverse))
theorem mt_revL {X : Cx} : MtR X "list.reverse" rRevL := mtr_imp mt_reverse fun _ _ _ _ ⟨l, e, e', xs, h, q⟩ => ⟨l, xs, e, e', h, q⟩
/-! ### loops -/
theorem z_forR {ta : TA} {j : Nat} {tb : TS} {D : Ends} {σ : L2.St} {H : Hp} (n : Nat) (h : ∀ Q : List V → Hp → Prop, Q [.int n] H → ta σ H Q) (hn : n < 2 ^ 62) (Pv : Nat → L2.St → Hp → Prop) (h0 : Pv 0 σ H)
    (hs : ∀ i σ' H', i < n → Pv i σ' H' → tb { D with nx := Pv (i + 1), ct := Pv (i + 1), bk := D.nx } (σ'.set j (some (.int i))) H') (hd : ∀ σ' H', Pv n σ' H' → D.nx σ' H') : tFor (iRng1 ta) (gName j) tb D σ H := by
  refine h _ ⟨n, rfl, by omega, by omega, ?_⟩
  rw [Int.toNat_natCast]
  refine for_range (lo := 0) (n := n) Pv h0 (fun i σ' H' hi p => ?_) hd
  have z := hs i σ' H' hi p
  rw [show (0 : Int) + (i : Int) = (i : Int) by omega]
  exact z
theorem z_forZ {ta : TA} {j : Nat} {tb : TS} {D : Ends} {σ : L2.St} {H : Hp} (z : Int) (h : ∀ Q : List V → Hp → Prop, Q [.int z] H → ta σ H Q) (hn : -(2 ^ 62) ≤ z ∧ z < 2 ^ 62) (Pv : Nat → L2.St → Hp → Prop) (h0 : Pv 0 σ H)
    (hs : ∀ (i : Nat) σ' H', (i : Int) < z → Pv i σ' H' → tb { D with nx := Pv (i + 1), ct := Pv (i + 1), bk := D.nx } (σ'.set j (some (.int i))) H') (hd : ∀ σ' H', Pv z.toNat σ' H' → D.nx σ' H') : tFor (iRng1 ta) (gName j) tb D σ H := by
  refine h _ ⟨z, rfl, hn.1, hn.2, ?_⟩
  refine for_range (lo := 0) (n := z.toNat) Pv h0 (fun i σ' H' hi p => ?_) hd
  have y := hs i σ' H' (by omega) p
  rw [show (0 : Int) + (i : Int) = (i : Int) by omega]
  exact y
theorem z_forL {K : PySem.W.Frag} {tl : TE} {j : Nat} {tb : TS} {D : Ends} {σ : L2.St} {H : Hp} (a : Addr) (xs : List V) (h : ∀ Q : VK, Q (.ref a) H → tl σ H Q) (hx : SqL K H a xs) (Pv : Nat → L2.St → Hp → Prop) (h0 : Pv 0 σ H)
    (hl : ∀ i σ' H', i ≤ xs.length → Pv i σ' H' → SqL K H' a xs) (hs : ∀ i x σ' H', xs[i]? = some x → Pv i σ' H' → tb { D with nx := Pv (i + 1), ct := Pv (i + 1), bk := D.nx } (σ'.set j (some x)) H') (hd : ∀ σ' H', Pv xs.length σ' H' → D.nx σ' H') :
    tFor (iList K tl) (gName j) tb D σ H := h _ ⟨a, rfl, ⟨xs, hx⟩, for_list Pv h0 hl (fun i x σ' H' e p => hs i x σ' H' e p) hd⟩
/-- over a list that is made for the walk -/
theorem z_forN {K : PySem.W.Frag} {tl : TE} {j : Nat} {tb : TS} {D : Ends} {σ : L2.St} {H : Hp} (xs : List V) (h : ∀ Q : VK, (∀ l, H l = none → Q (.ref l) (upd H l (.lst xs))) → tl σ H Q) (Pv : Addr → Nat → L2.St → Hp → Prop) (h0 : ∀ l, H l = none → Pv l 0 σ (upd H l (.lst xs)))
    (hl : ∀ l i σ' H', H l = none → Pv l i σ' H' → SqL K H' l xs) (hs : ∀ l i x σ' H', H l = none → xs[i]? = some x → Pv l i σ' H' → tb { D with nx := Pv l (i + 1), ct := Pv l (i + 1), bk := D.nx } (σ'.set j (some x)) H') (hd : ∀ l σ' H', H l = none → Pv l xs.length σ' H' → D.nx σ' H') :
    tFor (iList K tl) (gName j) tb D σ H := h _ fun l hl' => ⟨l, rfl, ⟨xs, SqL.of upd_same⟩, for_list (Pv l) (h0 l hl') (fun i σ' H' _ p => hl l i σ' H' hl' p) (fun i x σ' H' e p => hs l i x σ' H' hl' e p) (fun σ' H' p => hd l σ' H' hl' p)⟩
/-- a comprehension over range(n), all kept -/
theorem z_lcR {ta : TA} {j : Nat} {te : TE} {vs : List Nat} {σ : L2.St} {H : Hp} {Q : VK} (n : Nat) (h : ∀ Q : List V → Hp → Prop, Q [.int n] H → ta σ H Q) (hn : n < 2 ^ 62) (Pv : Addr → Nat → Hp → Prop) (h0 : ∀ D, H D = none → Pv D 0 (upd H D (.lst [])))
    (hw : wipe ((wipe σ vs).set j none) vs = wipe σ vs ∧ ∀ v, wipe ((wipe σ vs).set j (some v)) vs = wipe σ vs)
    (hs : ∀ D i H', H D = none → i < n → Pv D i H' → te ((wipe σ vs).set j (some (.int i))) H' fun y H4 => ∃ acc, H4 D = some (.lst acc) ∧ acc.length < sizeLine ∧ Pv D (i + 1) (upd H4 D (.lst (acc ++ [y])))) (hd : ∀ D H', H D = none → Pv D n H' → Q (.ref D) H') :
    tLc (iRng1 ta) (gName j) tYes te vs σ H Q := by
  refine h _ ⟨n, rfl, by omega, by omega, fun D hD => ?_⟩
  rw [Int.toNat_natCast]
  refine lc_range (lo := 0) (n := n) (Pv D) (h0 D hD) (fun i H' hi p => ?_) (fun H' p => hd D H' hD p)
  have z := hs D i H' hD hi p
  rw [show (0 : Int) + (i : Int) = (i : Int) by omega]
  exact ⟨hw.2 _, z⟩
/-- comprehensions over a list, over a tuple, all kept -/
theorem z_lcL {K : PySem.W.Frag} {tl : TE} {j : Nat} {te : TE} {vs : List Nat} {σ : L2.St} {H : Hp} {Q : VK} (a : Addr) (xs : List V) (h : ∀ Q : VK, Q (.ref a) H → tl σ H Q) (hx : SqL K H a xs) (Pv : Addr → Nat → Hp → Prop) (h0 : ∀ D, H D = none → Pv D 0 (upd H D (.lst [])))
    (hw : ∀ v, wipe ((wipe σ vs).set j (some v)) vs = wipe σ vs) (hl : ∀ D i H', H D = none → Pv D i H' → SqL K H' a xs)
    (hs : ∀ D i x H', H D = none → xs[i]? = some x → Pv D i H' → te ((wipe σ vs).set j (some x)) H' fun y H4 => ∃ acc, H4 D = some (.lst acc) ∧ acc.length < sizeLine ∧ Pv D (i + 1) (upd H4 D (.lst (acc ++ [y])))) (hd : ∀ D H', H D = none → Pv D xs.length H' → Q (.ref D) H') :
    tLc (iList K tl) (gName j) tYes te vs σ H Q :=
  h _ ⟨a, rfl, ⟨xs, hx⟩, fun D hD => lc_list (Pv D) (h0 D hD) (fun i H' _ p => hl D i H' hD p) (fun i x H' e p => ⟨hw _, hs D i x H' hD e p⟩) (fun H' p => hd D H' hD p)⟩
theorem z_lcT {K : PySem.W.Frag} {tl : TE} {j : Nat} {te : TE} {vs : List Nat} {σ : L2.St} {H : Hp} {Q : VK} (a : Addr) (xs : List V) (h : ∀ Q : VK, Q (.ref a) H → tl σ H Q) (hx : SqT K H a xs) (Pv : Addr → Nat → Hp → Prop) (h0 : ∀ D, H D = none → Pv D 0 (upd H D (.lst [])))
    (hw : ∀ v, wipe ((wipe σ vs).set j (some v)) vs = wipe σ vs) (hl : ∀ D i H', H D = none → Pv D i H' → SqT K H' a xs)
    (hs : ∀ D i x H', H D = none → xs[i]? = some x → Pv D i H' → te ((wipe σ vs).set j (some x)) H' fun y H4 => ∃ acc, H4 D = some (.lst acc) ∧ acc.length < sizeLine ∧ Pv D (i + 1) (upd H4 D (.lst (acc ++ [y])))) (hd : ∀ D H', H D = none → Pv D xs.length H' → Q (.ref D) H') :
    tLc (iTup K tl) (gName j) tYes te vs σ H Q :=
  h _ ⟨a, rfl, ⟨xs, hx⟩, fun D hD => lc_tup (Pv D) (h0 D hD) (fun i H' _ p => hl D i H' hD p) (fun i x H' e p => ⟨hw _, hs D i x H' hD e p⟩) (fun H' p => hd D H' hD p)⟩
/-! ### data: none, bools, ints, texts, lists and tuples of such, to a depth -/
inductive Dt where
  | non | bl (b : Bool) | int (i : Int) | str (x : Str) | lst (ds : List Dt) | tup (ds : List Dt)
/-- v stands for d, its lists and tuples at addresses in N, not deeper than n -/
def Rp (N : Addr → Prop) (H : Hp) : Nat → V → Dt → Prop
  | 0, _, _ => False
  | n + 1, v, d => match d with
    | .non => v = .non
    | .bl b => v = .bl b
    | .int i => v = .int i
    | .str x => v = .str x
    | .lst ds => ∃ a xs, v = .ref a ∧ N a ∧ H a = some (.lst xs) ∧ xs.length ≤ 1000 ∧ Paired (fun v d => Rp N H n v d) xs ds
    | .tup ds => ∃ a xs, v = .ref a ∧ N a ∧ H a = some (.tup xs) ∧ xs.length ≤ 1000 ∧ Paired (fun v d => Rp N H n v d) xs ds
theorem paired_imp {α β : Type} {F G : α → β → Prop} (h : ∀ a b, F a b → G a b) : ∀ {l : List α} {m : List β}, Paired F l m → Paired G l m
  | _, _, .nil => .nil
  | _, _, .cons r t => .cons (h _ _ r) (paired_imp h t)
theorem Rp.keep {N : Addr → Prop} {H H' : Hp} (k : ∀ b o, N b → H b = some o → H' b = some o) : ∀ {n : Nat} {v : V} {d : Dt}, Rp N H n v d → Rp N H' n v d
  | 0, _, _, h => h
  | n + 1, v, d, h => by
    cases d with
    | lst ds =>
      obtain ⟨a, xs, e, na, ha, l, p⟩ := h
      exact ⟨a, xs, e, na, k _ _ na ha, l, paired_imp (fun _ _ r => Rp.keep k r) p⟩
    | tup ds =>
      obtain ⟨a, xs, e, na, ha, l, p⟩ := h
      exact ⟨a, xs, e, na, k _ _ na ha, l, paired_imp (fun _ _ r => Rp.keep k r) p⟩
    | _ => exact h
theorem Rp.mono {N N' : Addr → Prop} {H : Hp} (k : ∀ b o, H b = some o → N b → N' b) : ∀ {n : Nat} {v : V} {d : Dt}, Rp N H n v d → Rp N' H n v d
  | 0, _, _, h => h
  | n + 1, v, d, h => by
    cases d with
    | lst ds =>
      obtain ⟨a, xs, e, na, ha, l, p⟩ := h
      exact ⟨a, xs, e, k _ _ ha na, ha, l, paired_imp (fun _ _ r => Rp.mono k r) p⟩
    | tup ds =>
      obtain ⟨a, xs, e, na, ha, l, p⟩ := h
      exact ⟨a, xs, e, k _ _ ha na, ha, l, paired_imp (fun _ _ r => Rp.mono k r) p⟩
    | _ => exact h
/-- not at a place that was free -/
theorem Rp.off {N : Addr → Prop} {H : Hp} {D : Addr} {n : Nat} {v : V} {d : Dt} (h : H D = none) (r : Rp N H n v d) : Rp (fun p => N p ∧ p ≠ D) H n v d := r.mono fun b o e z => ⟨z, ne_of_none e h⟩
theorem Rp.upd {N : Addr → Prop} {H : Hp} {D : Addr} {n : Nat} {v : V} {d : Dt} {o : HO} (r : Rp (fun p => N p ∧ p ≠ D) H n v d) : Rp (fun p => N p ∧ p ≠ D) (L2.upd H D o) n v d := r.keep fun b o' z e => by
  rw [upd_ne z.2]
  exact e
theorem Rp.on {N : Addr → Prop} {H : Hp} {D : Addr} {n : Nat} {v : V} {d : Dt} (r : Rp (fun p => N p ∧ p ≠ D) H n v d) : Rp N H n v d := r.mono fun _ _ _ z => z.1
theorem Rp.same {N : Addr → Prop} {H H' : Hp} {n : Nat} {v : V} {d : Dt} (r : Rp N H n v d) (e : Same H H') : Rp N H' n v d := r.keep fun b o _ h => e b o h
theorem Rp.up {N : Addr → Prop} {H : Hp} : ∀ {n : Nat} {v : V} {d : Dt}, Rp N H n v d → Rp N H (n + 1) v d
  | 0, _, _, h => h.elim
  | n + 1, v, d, h => by
    cases d with
    | lst ds =>
      obtain ⟨a, xs, e, na, ha, l, p⟩ := h
      exact ⟨a, xs, e, na, ha, l, paired_imp (fun _ _ r => Rp.up r) p⟩
    | tup ds =>
      obtain ⟨a, xs, e, na, ha, l, p⟩ := h
      exact ⟨a, xs, e, na, ha, l, paired_imp (fun _ _ r => Rp.up r) p⟩
    | _ => exact h
theorem paired_get {α β : Type} {F : α → β → Prop} : ∀ {l : List α} {m : List β} {i : Nat} {a : α}, Paired F l m → l[i]? = some a → ∃ b, m[i]? = some b ∧ F a b
  | _, _, _, _, .nil, h => by simp at h
  | _, _, 0, _, .cons r t, h => by
    cases h
    exact ⟨_, rfl, r⟩
  | _, _, i + 1, _, .cons r t, h => by
    obtain ⟨b, e, z⟩ := paired_get (i := i) t (by simpa using h)
    exact ⟨b, by simpa using e, z⟩
theorem paired_len {α β : Type} {F : α → β → Prop} : ∀ {l : List α} {m : List β}, Paired F l m → l.length = m.length
  | _, _, .nil => rfl
  | _, _, .cons _ t => congrArg Nat.succ (paired_len t)
theorem paired_snoc {α β : Type} {F : α → β → Prop} {a : α} {b : β} (r : F a b) : ∀ {l : List α} {m : List β}, Paired F l m → Paired F (l ++ [a]) (m ++ [b])
  | _, _, .nil => .cons r .nil
  | _, _, .cons r' t => .cons r' (paired_snoc r t)
theorem paired_ints {N : Addr → Prop} {H : Hp} {k : Nat} : ∀ ns : List Int, Paired (fun v d => Rp N H (k + 1) v d) (ns.map V.int) (ns.map Dt.int)
  | [] => .nil
  | n :: ns => .cons rfl (paired_ints ns)
theorem rp_ints {N : Addr → Prop} {H : Hp} {k : Nat} {p : Addr} {ns : List Int} (n : N p) (h : H p = some (.lst (ns.map V.int))) (z : ns.length ≤ 1000) : Rp N H (k + 2) (.ref p) (.lst (ns.map Dt.int)) :=
  ⟨p, _, rfl, n, h, by rw [List.length_map]; exact z, paired_ints ns⟩
/-- a def of which nothing is asked -/
theorem cl_none {P : Program} {w : World} {K : PySem.W.Frag} {mg : Str → Option Value} {base : Heap} {x : Str} {st : Stmt} {ps : List Str} {k : Nat} {sp : Sp} (D : Dn K mg x st) (b : BindO x st ps) (h : ∀ vs H Q E, ¬ sp vs H Q E) : Cl P w K mg base k x sp := by
  obtain ⟨f, fd, F, hm⟩ := D.ex
  exact ⟨f, fd, ps, ⟨fun vs H Q E z => (h _ _ _ _ z).elim, fun _ _ _ _ _ _ _ _ _ _ _ _ _ z => (h _ _ _ _ z).elim⟩, hm, F.kp, F.binds b⟩
theorem cpow_18 : CPow 10 18 ↔ True := ⟨fun _ => trivial, fun _ => ⟨by decide, by decide, by decide⟩⟩
theorem cpow_12 : CPow 10 12 ↔ True := ⟨fun _ => trivial, fun _ => ⟨by decide, by decide, by decide⟩⟩
theorem cpow_40 : CPow 10 40 ↔ True := ⟨fun _ => trivial, fun _ => ⟨by decide, by decide, by decide⟩⟩
end Z
set_option Elab.async false
set_option linter.all false
set_option maxRecDepth 100000
set_option maxHeartbeats 4000000
namespace Z
open PySem PySem.Spec PyProof.Rows L2
/-! ### sorted(t) of a tuple of ints -/
section
variable {prog : Program} {w : World} {A : Around} {E : Value → Shared → Prop} {s : Shared}
theorem tup_items {t : Addr} {vs : List Value} {Q : List Value → Shared → Prop} (ht : IsTup s.heap t vs.toArray) (hz : vs.length ≤ sizeLine)
    (k : Q vs { s with heap := (s.heap.push (seqObj "list" #[] 0)).update s.heap.objs.size (Obj.mapSeq (· ++ vs.toArray)) }) : wpAny (model prog w) A (collect (.ref t)) Q E s := by
  obtain ⟨ob, e1, e2, m, e3⟩ := id ht
  have new : (s.heap.push (seqObj "list" #[] 0)).get? s.heap.objs.size = some (seqObj "list" #[] 0) := Heap.get?_push_size _ rfl
  have e4 := Heap.get?_push_of_some (seqObj "list" #[] 0) e1
  unfold collect; refine wpAny_bind (wpAny_runValue (codeAny_builtin entry_proto_collect' ?_))
  show wpAny (model prog w) _ (do again (.builtin "list.__iadd__" ⟨[← newList [], .ref t], []⟩)) _ E s
  refine wpAny_bind (wpAny_newList (wpAny_pure ⟨Code.quiet_builtin _ (by decide +kernel), ?_⟩)); refine codeAny_builtin entry_list_iadd' ?_
  show wpAny (model prog w) _ (Builtin.List.listExtendWith (.ref s.heap.objs.size) (.ref t) (.ref s.heap.objs.size)) _ _ ⟨s.heap.push (seqObj "list" #[] 0), _, _, _, _⟩
  unfold Builtin.List.listExtendWith; refine wpAny_bind (wpAny_typeOf (T := "tuple") ⟨ob, e4, e2⟩ ?_)
  have c1 : (Value.type "tuple" == Value.type "tuple") = true := rfl
  rw [if_pos (by first | (rw [c1]; simp; done) | simp | decide)]
  refine wpAny_bind (listItems_at e4 e3 ?_)
  refine wpAny_bind (listItems_at new rfl ?_); rw [if_neg (by simp)]
  refine wpAny_bind (listUpdate_at new rfl ?_ (Nat.zero_le _) (by
    show (#[] ++ vs.toArray).size ≤ sizeLine + 1
    rw [Array.size_append, List.size_toArray]
    exact Nat.le_trans (Nat.le_of_eq (Nat.zero_add _)) (Nat.le_succ_of_le hz)))
  refine wpAny_pure ?_
  show wpAny (model prog w) A (load s.heap.objs.size >>= fun o => match o.data with
      | .seq xs _ => pure xs.toList
      | _ => unsupported "internal:collect") Q E _
  refine wpAny_bind (wpAny_load (get?_update_seq new _) ?_)
  show wpAny (model prog w) A (pure (#[] ++ vs.toArray).toList) Q E _
  have c2 : (#[] ++ vs.toArray).toList = vs := by simp
  rw [c2]; exact wpAny_pure k
open SrtO in
theorem sorted_tup {t : Addr} {vs : List Value} {ltv : Value → Value → Bool} {Q : Value → Shared → Prop} (O : Swo ltv) (ht : IsTup s.heap t vs.toArray) (hz : vs.length ≤ sizeLine)
    (hS : 2 ≤ vs.length → ∀ (h₁ : Heap) (a : Addr), SortableO prog w A.in1.in1 { s with heap := h₁ } a vs ltv)
    (k : ∀ out : List Value, Srtd ltv out → Stb ltv out vs → Q (.ref (s.heap.objs.size + 1)) { s with heap := sortedAll s.heap vs out.toArray }) : wpAny (model prog w) A (call (.builtin "sorted") [.ref t]) Q E s := by
  refine Calls.call_function_entry kind_sorted plain_sorted entry_sorted (args_sorted1 (.ref t)) ?_
  unfold Builtin.«sorted»; refine wpAny_bind (m := checkCount "sorted" 1 1 _) (wpAny_pure ?_)
  refine wpAny_bind (tup_items ht hz ?_); refine wpAny_bind (wpAny_newList ?_ hz)
  generalize hh : (s.heap.push (seqObj "list" #[] 0)).update s.heap.objs.size (Obj.mapSeq (· ++ vs.toArray)) = h1
  have sz : h1.objs.size = s.heap.objs.size + 1 := by
    rw [← hh, Heap.size_update]
    exact size_push' _ _
  have at1 : (h1.push (seqObj "list" vs.toArray 0)).get? (s.heap.objs.size + 1) = some (seqObj "list" vs.toArray 0) := by
    rw [← sz]
    exact Heap.get?_push_size _ rfl
  show wpAny _ _ _ _ _ { s with heap := h1.push (seqObj "list" vs.toArray 0) }
  rw [sz]
  refine wpAny_bind (wpAny_holding (wpAny_call_entry slot_list_sort ⟨_, at1, rfl⟩ entry_list_sort (list_sort_ord O at1 hz (fun h2 => hS h2 _ _) fun out a b => ⟨_, rfl, ?_⟩) (args_list_sort _)))
  refine wpAny_pure ⟨_, rfl, ?_⟩
  have z := k out a b
  unfold sortedAll at z
  rw [hh] at z
  exact z
end
/-- sorted(xs) of a list or tuple of ints -/
def rSortQ : List V → Hp → VK → Prop := fun vs H Q => ∃ a, vs = [V.ref a] ∧ ∃ ns : List Int, seqAt (H a) = some (ns.map V.int) ∧ ∀ (ns' : List Int) (p : Addr), ns'.Perm ns → ns'.Pairwise (· ≤ ·) → H p = none → Q (.ref p) (upd H p (.lst (ns'.map V.int)))
theorem cr_sortQ {X : Cx} : CallR X (.builtin "sorted") rSortQ := by
  intro pins s σ H vs us Q I r ⟨a, e, ns, hs, q⟩
  subst e
  rcases seq_or (K := X.K) hs with hl | ht
  · exact cr_sortedI pins s σ H _ us Q I r ⟨a, ns, rfl, hl, q⟩
  · obtain ⟨its, rv, tp, hz⟩ := I.tuple ht
    obtain ⟨u, rfl, ru⟩ := vals1 r
    cases ru
    have hi := intsAre_of rv
    refine sorted_tup SrtO.swo_int tp (by rw [← rv.length]; exact hz) (fun h2 _ _ => SrtO.ints_sortable hi h2) fun out h1 h2 => ?_
    obtain ⟨k1, k2, k3⟩ := SrtO.ints_out hi h1 h2
    obtain ⟨ep, he⟩ := PyProof.Rows.sortedAll_at s.heap its out.toArray
    have len : ((out.map SrtO.iv).map V.int).length ≤ sizeLine := by
      rw [List.length_map, k2.length_eq]
      rw [List.length_map] at hz
      exact hz
    refine ⟨.ref _, upd H (s.heap.objs.size + 1) (.lst ((out.map SrtO.iv).map V.int)), ?_, rfl, q _ _ k2 k3 (I.hok.fresh (Nat.le_succ _))⟩
    exact I.laid (t' := s.toks) (fun _ _ => PyProof.Rows.sortedAll_old) (Nat.le_succ _) ⟨len, out, ep, vals_of_ints k1, he⟩
/-- x in xs, a list or a tuple -/
def rInQ (neg : Bool) : R2 := fun x y H Q => ∃ p, y = .ref p ∧ ∃ xs, seqAt (H p) = some xs ∧ flatV x = true ∧ xs.all flatV = true ∧ Q (.bl (if neg = true then !inV x xs else inV x xs)) H
theorem op_inQ {X : Cx} : OpR X (compareOp .In) (rInQ false) := fun pins s σ H x y v u Q I rx ry ⟨p, e, xs, h, h1, h2, q⟩ => op_in_seq pins s σ H x y v u Q I rx ry ⟨p, xs, e, seq_or h, h1, h2, q⟩
theorem op_ninQ {X : Cx} : OpR X (compareOp .NotIn) (rInQ true) := fun pins s σ H x y v u Q I rx ry ⟨p, e, xs, h, h1, h2, q⟩ => op_notIn_seq pins s σ H x y v u Q I rx ry ⟨p, xs, e, seq_or h, h1, h2, q⟩
/-- a, b = a tracked list -/
def gLq (n : Nat) (t : TGs) : TG := fun v σ H Q => ∃ a, v = .ref a ∧ ∃ xs, H a = some (.lst xs) ∧ xs.length = n ∧ t xs σ H Q
theorem pg_lq {X : Cx} {es : List Expr} {k : Nat} {pos : Pos} {t : TGs} {n : Nat} (hc : X.calm = true) (h : PGs X es t) (h1 : (assignEach es X.env).length = n := by rfl) (h2 : (assignEach es X.env).findIdx? (·.1) = none := by rfl) : PG X (.Tuple es k pos) (gLq n t) :=
  ⟨fun pins s σ H v u Q I r ⟨a, e, xs, hx, hl, q⟩ => (pg_lst hc h h1 h2).run pins s σ H v u Q I r ⟨a, xs, e, SqL.of hx, hl, q⟩⟩
/-- the targets of an unpacking, one by one -/
def gC (t : TG) (u : TGs) : TGs := fun vs σ H Q => match vs with
  | [] => False
  | v :: r => t v σ H fun σ' H' => u r σ' H' Q
theorem gC_c {t : TG} {u : TGs} {v : V} {r : List V} {σ : L2.St} {H : Hp} {Q : L2.St → Hp → Prop} : gC t u (v :: r) σ H Q = t v σ H fun σ' H' => u r σ' H' Q := rfl
theorem pgs_c {X : Cx} {e : Expr} {es : List Expr} {t : TG} {u : TGs} (h1 : PG X e t) (h2 : PGs X es u) (hs : (assignEach (e :: es) X.env).map (·.2) = assign e X.env :: (assignEach es X.env).map (·.2) := by rfl) : PGs X (e :: es) (gC t u) :=
  ⟨fun pins s σ H vs us Q I r h => (pgs_cons h1 h2 hs).run pins s σ H vs us Q I r (match vs, h with | v :: r, h => ⟨v, r, rfl, h⟩)⟩
/-- a, b = a tracked tuple -/
def gTq (n : Nat) (t : TGs) : TG := fun v σ H Q => ∃ a, v = .ref a ∧ ∃ xs, H a = some (.tup xs) ∧ xs.length = n ∧ t xs σ H Q
theorem pg_tq {X : Cx} {es : List Expr} {k : Nat} {pos : Pos} {t : TGs} {n : Nat} (hc : X.calm = true) (h : PGs X es t) (h1 : (assignEach es X.env).length = n := by rfl) (h2 : (assignEach es X.env).findIdx? (·.1) = none := by rfl) : PG X (.Tuple es k pos) (gTq n t) :=
  ⟨fun pins s σ H v u Q I r ⟨a, e, xs, hx, hl, q⟩ => (pg_tup hc h h1 h2).run pins s σ H v u Q I r ⟨a, xs, e, SqT.of hx, hl, q⟩⟩
/-! ### isinstance of data against a built-in class -/
def kdO : Option HO → Option String
  | some (.lst _) => some "list"
  | some (.tup _) => some "tuple"
  | _ => none
def kd : V → Hp → Option String
  | .non, _ => some "NoneType"
  | .bl _, _ => some "bool"
  | .int _, _ => some "int"
  | .str _, _ => some "str"
  | .ref a, H => kdO (H a)
  | _, _ => none
theorem kd_ref {H : Hp} {a : Addr} : kd (.ref a) H = kdO (H a) := rfl
theorem kdO_lst {xs : List V} : kdO (some (.lst xs)) = some "list" := rfl
theorem kdO_tup {xs : List V} : kdO (some (.tup xs)) = some "tuple" := rfl
theorem kd_ty {K : PySem.W.Frag} {H : Hp} {x : V} {t : String} (h : kd x H = some t) : TyX K H x (.type t) := by
  cases x with
  | non => cases h; exact .base .non
  | bl b => cases h; exact .base (.bl b)
  | int i => cases h; exact .base (.int i)
  | str x => cases h; exact .base (.str x)
  | ref a =>
    rw [kd_ref] at h
    cases e : H a with
    | none =>
      rw [e] at h
      cases h
    | some o =>
      rw [e] at h
      cases o with
      | lst xs => cases h; exact .base (.lst e)
      | tup xs => cases h; exact .base (.tup e)
      | _ => cases h
  | _ => cases h
def rIsQ : List V → Hp → VK → Prop
  | [x, .ty c], H, Q => ∃ t, kd x H = some t ∧ ∃ b, kitB t c = some b ∧ Q (.bl b) H
  | _, _, _ => False
theorem rIsQ_c {x : V} {c : String} {H : Hp} {Q : VK} : rIsQ [x, .ty c] H Q = ∃ t, kd x H = some t ∧ ∃ b, kitB t c = some b ∧ Q (.bl b) H := rfl
theorem call_isQ {X : Cx} : CallR X (.builtin "isinstance") rIsQ := callr_imp call_isi fun xs H Q h => match xs, h with
  | [x, .ty c], ⟨t, ht, b, hb, q⟩ => ⟨x, .ty c, .type t, .type c, b, rfl, .ty c, kd_ty ht, kit_ty hb, q⟩
theorem kit_NoneType_bool : kitB "NoneType" "bool" = some false := by decide +kernel
theorem kit_NoneType_int : kitB "NoneType" "int" = some false := by decide +kernel
theorem kit_NoneType_str : kitB "NoneType" "str" = some false := by decide +kernel
theorem kit_NoneType_list : kitB "NoneType" "list" = some false := by decide +kernel
theorem kit_NoneType_tuple : kitB "NoneType" "tuple" = some false := by decide +kernel
theorem kit_bool_bool : kitB "bool" "bool" = some true := by decide +kernel
theorem kit_bool_int : kitB "bool" "int" = some true := by decide +kernel
theorem kit_bool_str : kitB "bool" "str" = some false := by decide +kernel
theorem kit_bool_list : kitB "bool" "list" = some false := by decide +kernel
theorem kit_bool_tuple : kitB "bool" "tuple" = some false := by decide +kernel
theorem kit_int_bool : kitB "int" "bool" = some false := by decide +kernel
theorem kit_int_int : kitB "int" "int" = some true := by decide +kernel
theorem kit_int_str : kitB "int" "str" = some false := by decide +kernel
theorem kit_int_list : kitB "int" "list" = some false := by decide +kernel
theorem kit_int_tuple : kitB "int" "tuple" = some false := by decide +kernel
theorem kit_str_bool : kitB "str" "bool" = some false := by decide +kernel
theorem kit_str_int : kitB "str" "int" = some false := by decide +kernel
theorem kit_str_str : kitB "str" "str" = some true := by decide +kernel
theorem kit_str_list : kitB "str" "list" = some false := by decide +kernel
theorem kit_str_tuple : kitB "str" "tuple" = some false := by decide +kernel
theorem kit_list_bool : kitB "list" "bool" = some false := by decide +kernel
theorem kit_list_int : kitB "list" "int" = some false := by decide +kernel
theorem kit_list_str : kitB "list" "str" = some false := by decide +kernel
theorem kit_list_list : kitB "list" "list" = some true := by decide +kernel
theorem kit_list_tuple : kitB "list" "tuple" = some false := by decide +kernel
theorem kit_tuple_bool : kitB "tuple" "bool" = some false := by decide +kernel
theorem kit_tuple_int : kitB "tuple" "int" = some false := by decide +kernel
theorem kit_tuple_str : kitB "tuple" "str" = some false := by decide +kernel
theorem kit_tuple_list : kitB "tuple" "list" = some false := by decide +kernel
theorem kit_tuple_tuple : kitB "tuple" "tuple" = some true := by decide +kernel
theorem kd_non {H : Hp} : kd .non H = some "NoneType" := rfl
theorem kd_bl {H : Hp} {b : Bool} : kd (.bl b) H = some "bool" := rfl
theorem kd_int {H : Hp} {i : Int} : kd (.int i) H = some "int" := rfl
theorem kd_str {H : Hp} {x : Str} : kd (.str x) H = some "str" := rfl
/-- a statement, a word, the rest -/
def tCt (t u : TS) : TS := fun D σ H => ∃ Mid : L2.St → Hp → Prop, t { D with nx := Mid } σ H ∧ ∀ σ' H', Mid σ' H' → u D σ' H'
theorem pss_ct {X : Cx} {st : Stmt} {rest : List Stmt} {t u : TS} (h1 : PS X st t) (h2 : PSs X rest u) : PSs X (st :: rest) (tCt t u) := by
  refine ⟨fun pins s σ H D I ⟨Mid, hm, hu⟩ => wpAny_execs_cons (thn (h1.run pins s σ H _ I hm) fun f s1 q => ?_)⟩
  cases f
  case next =>
    obtain ⟨σ', H', I', q'⟩ := q
    exact h2.run pins s1 σ' H' D I' (hu σ' H' q')
  all_goals exact q
/-- xs[lo:hi] of a tracked list -/
def rSlQ : V → Option Int → Option Int → Hp → VK → Prop := fun x lo hi H Q => ∃ a, x = .ref a ∧ ∃ xs, H a = some (.lst xs) ∧ ∀ p, H p = none → Q (.ref p) (upd H p (.lst (cutV xs lo hi)))
theorem sl_listQ {X : Cx} : SlR X rSlQ := fun pins s σ H x v vl vu lo hi sl Q I rx hs pl pu ⟨a, e, xs, h, q⟩ => sl_list pins s σ H x v vl vu lo hi sl Q I rx hs pl pu ⟨a, xs, e, SqL.of h, q⟩
theorem cut_lo2 {a b c d : V} : cutV [a, b, c, d] none (some 2) = [a, b] := rfl
theorem cut_hi2 {a b c d : V} : cutV [a, b, c, d] (some 2) none = [c, d] := rfl
end Z
set_option Elab.async false
set_option linter.all false
set_option maxRecDepth 100000
set_option maxHeartbeats 4000000
namespace Z
open PySem PySem.Spec PyProof.Rows L2
/-! ### texts of bounded length, all signs below 128 -/
structure Tx (n : Nat) (x : Str) : Prop where
  len : x.length ≤ n
  low : ∀ c ∈ x.cps.toList, c < 128
theorem str_len (x : Str) : x.length = x.cps.toList.length := by
  show x.cps.size = x.cps.toList.length
  rw [Array.length_toList]
theorem str_cat (x y : Str) : (x ++ y).cps.toList = x.cps.toList ++ y.cps.toList := TL.tl_append x y
theorem str_cat_len (x y : Str) : (x ++ y).length = x.length + y.length := by rw [str_len, str_cat, List.length_append, ← str_len, ← str_len]
theorem Tx.mono {n m : Nat} {x : Str} (h : Tx n x) (l : n ≤ m) : Tx m x := ⟨Nat.le_trans h.len l, h.low⟩
theorem Tx.line {n : Nat} {x : Str} (h : Tx n x) (l : n ≤ 100000) : x.length ≤ sizeLine := sz_of (Nat.le_trans h.len l)
theorem Tx.cat {n m : Nat} {x y : Str} (h : Tx n x) (k : Tx m y) : Tx (n + m) (x ++ y) := by
  refine ⟨by rw [str_cat_len]; exact Nat.add_le_add h.len k.len, fun c hc => ?_⟩
  rw [str_cat] at hc
  rcases List.mem_append.mp hc with hc | hc
  · exact h.low c hc
  · exact k.low c hc
theorem Tx.one {c : Nat} (h : c < 128) : Tx 1 ⟨#[c]⟩ := ⟨Nat.le_refl 1, fun d hd => by
  have e : d = c := by simpa using hd
  rw [e]
  exact h⟩
theorem cut_list (x : Str) (lo hi : Option Int) : (cutS x lo hi).cps.toList = (x.cps.toList.drop (HT.sIx x.length 0 lo)).take (HT.sIx x.length x.length hi - HT.sIx x.length 0 lo) := rfl
theorem Tx.cut {n : Nat} {x : Str} (h : Tx n x) (lo hi : Option Int) : Tx n (cutS x lo hi) := by
  refine ⟨?_, fun c hc => h.low c ?_⟩
  · rw [str_len, cut_list, List.length_take, List.length_drop, ← str_len]
    have := h.len
    omega
  · rw [cut_list] at hc
    exact List.mem_of_mem_drop (List.mem_of_mem_take hc)
theorem Tx.cutTo {n k : Nat} {x : Str} (h : Tx n x) : Tx k (cutS x none (some (k : Int))) := by
  refine ⟨?_, (h.cut none _).low⟩
  rw [str_len, cut_list, List.length_take, List.length_drop, HT.sIx_nat, HT.sIx_none]
  omega
theorem Tx.at {n : Nat} {x : Str} {i : Int} {c : Nat} (h : Tx n x) (e : atI x.cps.toList i = some c) : c < 128 := by
  obtain ⟨j, _, e2, _⟩ := atI_get e
  exact h.low c (List.mem_of_getElem? e2)
theorem rep_list (x : Array Nat) : ∀ (n : Nat) (a : Array Nat), ((List.replicate n x).foldl (· ++ ·) a).toList = a.toList ++ (List.replicate n x.toList).flatten
  | 0, a => by simp
  | n + 1, a => by
    rw [List.replicate_succ, List.foldl_cons, rep_list x n, List.replicate_succ, List.flatten_cons, Array.toList_append, List.append_assoc]
theorem rep_flat_len {α : Type} (l : List α) : ∀ k : Nat, (List.replicate k l).flatten.length = k * l.length
  | 0 => by simp
  | k + 1 => by rw [List.replicate_succ, List.flatten_cons, List.length_append, rep_flat_len l k, Nat.succ_mul, Nat.add_comm]
theorem Tx.mul {n k : Nat} {x : Str} (h : Tx n x) : Tx (n * k) (Txt.mul x (k : Int)) := by
  unfold Txt.mul
  split
  · exact ⟨Nat.zero_le _, fun c hc => by cases hc⟩
  · rename_i h1
    split
    · exact h.mono (Nat.le_mul_of_pos_right n (by omega))
    · have e : ((List.replicate ((k : Int).toNat) x.cps).foldl (· ++ ·) (#[] : Array Nat)).toList = (List.replicate k x.cps.toList).flatten := by
        rw [rep_list, Int.toNat_natCast]
        rfl
      refine ⟨?_, fun c hc => ?_⟩
      · rw [str_len]
        show ((List.replicate ((k : Int).toNat) x.cps).foldl (· ++ ·) (#[] : Array Nat)).toList.length ≤ _
        rw [e, rep_flat_len, ← str_len, Nat.mul_comm]
        exact Nat.mul_le_mul_right k h.len
      · have hc' : c ∈ ((List.replicate ((k : Int).toNat) x.cps).foldl (· ++ ·) (#[] : Array Nat)).toList := hc
        rw [e, List.mem_flatten] at hc'
        obtain ⟨l, hl, hc'⟩ := hc'
        rw [List.eq_of_mem_replicate hl] at hc'
        exact h.low c hc'
/-- s * n -/
def rMulS : R2 := fun x y H Q => ∃ s, x = .str s ∧ ∃ n, y = .int n ∧ 0 ≤ n ∧ n ≤ 1000 ∧ s.length ≤ 1000 ∧ Q (.str (Txt.mul s n)) H
theorem op_mulS {X : Cx} : OpR X (binaryOp .Mult) rMulS := by
  intro pins s σ H x y v u Q I rx ry ⟨z, ex, n, ey, h0, h1, hz, q⟩
  subst ex ey
  obtain ⟨t, rfl⟩ := rx
  obtain ⟨t', rfl⟩ := ry
  refine SB.mul ⟨?_, fun hn _ => ?_, fun hn _ => ?_⟩ fun t' k => ⟨.str _, H, I.tok _, ⟨_, rfl⟩, q⟩
  · rw [decide_eq_false (by omega), decide_eq_false (by omega)]
    rfl
  · have hp : (0 : Int) < n := by omega
    have e : (1000 : Int) ≤ (2 ^ 63 - 1) / n := by
      refine Int.le_ediv_of_mul_le hp ?_
      have : 1000 * n ≤ 1000 * 1000 := Int.mul_le_mul_of_nonneg_left h1 (by decide)
      omega
    omega
  · have e : z.length * n.toNat ≤ 1000 * 1000 := Nat.mul_le_mul hz (by omega)
    unfold Builtin.Str.tooLong
    exact decide_eq_false (by have : (1000 * 1000 : Nat) ≤ sizeLine := by decide
                              omega)
/-- sep.join(a tracked list of texts) -/
def tJn (to te : TE) : TE := fun σ H Q => to σ H fun x H1 => ∃ a, x = .str a ∧ te σ H1 fun y H2 => ∃ p, y = .ref p ∧ ∃ ys : List Str, H2 p = some (.lst (ys.map V.str)) ∧ (ys.map (·.length)).sum + ys.length * a.length ≤ 16777216 ∧ Q (.str (Txt.join a ys)) H2
theorem pe_jn {X : Cx} {o e : Expr} {to te : TE} {apos pos : Pos} (ho : PE X o to) (he : PE X e te) (h1 : starEach [e] X.env = [(false, eval e X.env)] := by rfl) (h2 : attributeBase o "join" X.env (eval o X.env) = eval o X.env := by rfl) (h3 : (apos.endLine == pos.line) = true := by rfl) :
    PE X (.Call (.Attribute o "join" apos) [e] [] pos) (tJn to te) :=
  pe_imp (pe_join (pe_up ho) (pe_up he) h1 h2 h3) fun σ H Q h => ⟨_, h, fun x H1 ⟨a, ex, q⟩ => ⟨⟨a, ex⟩, _, q, fun y H2 ⟨p, ey, ys, hp, hz, q⟩ => ⟨a, p, ys, ex, by rw [ey], .inl (SqL.of hp), hz, q⟩⟩⟩
theorem joinL_nil : ∀ l : List (List Nat), TL.joinL [] l = l.flatten
  | [] => rfl
  | [p] => by show p = (p :: []).flatten; simp
  | p :: q :: r => by
    show p ++ ([] ++ TL.joinL [] (q :: r)) = (p :: q :: r).flatten
    rw [joinL_nil (q :: r), List.nil_append]
    rfl
theorem Tx.join {n : Nat} : ∀ {ys : List Str}, (∀ y ∈ ys, Tx n y) → Tx (n * ys.length) (Txt.join (Str.ofString "") ys) := fun {ys} h => by
  have e : (Txt.join (Str.ofString "") ys).cps.toList = (ys.map fun y => y.cps.toList).flatten := by
    have z : TL.tl (Txt.join (Str.ofString "") ys) = TL.joinL [] (ys.map TL.tl) := by
      rw [TL.join_eq, TL.tl_join]
      rfl
    rw [joinL_nil] at z
    exact z
  refine ⟨?_, fun c hc => ?_⟩
  · rw [str_len, e]
    clear e
    induction ys with
    | nil => exact Nat.zero_le _
    | cons y ys ih =>
      have := ih fun z hz => h z (List.mem_cons_of_mem _ hz)
      have h1 := (h y List.mem_cons_self).len
      rw [str_len] at h1
      rw [List.map_cons, List.flatten_cons, List.length_append, List.length_cons, Nat.mul_succ]
      omega
  · rw [e, List.mem_flatten] at hc
    obtain ⟨l, hl, hc⟩ := hc
    obtain ⟨y, hy, rfl⟩ := List.mem_map.mp hl
    exact (h y hy).low c hc
/-- s[i], s[lo:hi] -/
def rAtX : R2 := fun x y H Q => ∃ z, x = .str z ∧ ∃ i, y = .int i ∧ z.length ≤ sizeLine ∧ ∃ c, atI z.cps.toList i = some c ∧ Q (.str ⟨#[c]⟩) H
theorem at_str {X : Cx} : IxR X rAtX := ixr_imp ix_str fun _ _ _ _ ⟨z, e, i, e', h, c, a, q⟩ => ⟨z, i, c, e, e', h, a, q⟩
/-- signs of a text, one by one -/
theorem z_forS {tl : TE} {j : Nat} {tb : TS} {D : Ends} {σ : L2.St} {H : Hp} (x : Str) (h : ∀ Q : VK, Q (.str x) H → tl σ H Q) (Pv : Nat → L2.St → Hp → Prop) (h0 : Pv 0 σ H)
    (hs : ∀ i c σ' H', x.cps[i]? = some c → Pv i σ' H' → tb { D with nx := Pv (i + 1), ct := Pv (i + 1), bk := D.nx } (σ'.set j (some (.str ⟨#[c]⟩))) H') (hd : ∀ σ' H', Pv x.cps.size σ' H' → D.nx σ' H') : tFor (iStr tl) (gName j) tb D σ H := by
  refine h _ ⟨x, rfl, fun i m σ' H' => m = x.cps.size - i ∧ i ≤ x.cps.size ∧ Pv i σ' H', ⟨_, rfl, Nat.zero_le _, h0⟩, ?_⟩
  rintro i m σ' H' ⟨rfl, hi, p⟩
  by_cases hl : i < x.cps.size
  · refine .inr ⟨hl, Pv (i + 1), fun σ2 H2 p2 => ⟨_, by omega, rfl, hl, p2⟩, fun y H2 hy => ?_⟩
    obtain ⟨rfl, c, e, rfl⟩ := hy
    exact hs i c σ' _ e p
  · have e : i = x.cps.size := by omega
    subst e
    exact .inl ⟨Nat.le_refl _, hd σ' H' p⟩
theorem z_lcS {tl : TE} {j : Nat} {te : TE} {vs : List Nat} {σ : L2.St} {H : Hp} {Q : VK} (x : Str) (h : ∀ Q : VK, Q (.str x) H → tl σ H Q) (Pv : Addr → Nat → Hp → Prop) (h0 : ∀ D, H D = none → Pv D 0 (upd H D (.lst [])))
    (hw : ∀ v, wipe ((wipe σ vs).set j (some v)) vs = wipe σ vs)
    (hs : ∀ D i c H', H D = none → x.cps[i]? = some c → Pv D i H' → te ((wipe σ vs).set j (some (.str ⟨#[c]⟩))) H' fun y H4 => ∃ acc, H4 D = some (.lst acc) ∧ acc.length < sizeLine ∧ Pv D (i + 1) (upd H4 D (.lst (acc ++ [y])))) (hd : ∀ D H', H D = none → Pv D x.cps.size H' → Q (.ref D) H') :
    tLc (iStr tl) (gName j) tYes te vs σ H Q := by
  refine h _ ⟨x, rfl, fun D hD => ⟨fun i m H' => m = x.cps.size - i ∧ i ≤ x.cps.size ∧ Pv D i H', ⟨_, rfl, Nat.zero_le _, h0 D hD⟩, ?_⟩⟩
  rintro i m H' ⟨rfl, hi, p⟩
  by_cases hl : i < x.cps.size
  · refine .inr ⟨hl, Pv D (i + 1), fun H2 p2 => ⟨_, by omega, rfl, hl, p2⟩, fun y H2 hy => ?_⟩
    obtain ⟨rfl, c, e, rfl⟩ := hy
    exact ⟨hw _, hs D i c _ hD e p⟩
  · have e : i = x.cps.size := by omega
    subst e
    exact .inl ⟨Nat.le_refl _, hd D H' hD p⟩
/-! ### a range whose end is reckoned on the way -/
def tKI (n : Nat) : TA := fun _ H Q => Q [.int n] H
theorem lcE {ta : TA} {g : TG} {tt : TT} {te : TE} {vs : List Nat} {σ : L2.St} {H : Hp} {Q : VK} (R : Nat → Hp → Prop) (h : ∀ X : List V → Hp → Prop, (∀ (n : Nat) H1, R n H1 → X [.int n] H1) → ta σ H X)
    (k : ∀ (n : Nat) H1, R n H1 → tLc (iRng1 (tKI n)) g tt te vs σ H1 Q) : tLc (iRng1 ta) g tt te vs σ H Q := h _ fun n H1 r => k n H1 r
theorem forE {ta : TA} {g : TG} {tb : TS} {D : Ends} {σ : L2.St} {H : Hp} (R : Nat → Hp → Prop) (h : ∀ X : List V → Hp → Prop, (∀ (n : Nat) H1, R n H1 → X [.int n] H1) → ta σ H X)
    (k : ∀ (n : Nat) H1, R n H1 → tFor (iRng1 (tKI n)) g tb D σ H1) : tFor (iRng1 ta) g tb D σ H := h _ fun n H1 r => k n H1 r
theorem atI_some {α : Type} {xs : List α} {d : Int} (h0 : 0 ≤ d) (h1 : d < xs.length) : ∃ c, atI xs d = some c := by
  refine ⟨xs[d.toNat]'(by omega), ?_⟩
  have z := atI_nat (xs := xs) (j := d.toNat) (v := xs[d.toNat]'(by omega)) (List.getElem?_eq_getElem _)
  rw [show ((d.toNat : Nat) : Int) = d by omega] at z
  exact z
theorem Tx.lit {s : Str} {n : Nat} (h : (decide (s.length ≤ n) && s.cps.toList.all (fun c => decide (c < 128))) = true) : Tx n s :=
  ⟨of_decide_eq_true (Bool.and_eq_true_iff.mp h).1, fun c hc => of_decide_eq_true (List.all_eq_true.mp (Bool.and_eq_true_iff.mp h).2 c hc)⟩
end Z
set_option Elab.async false
set_option linter.all false
set_option maxRecDepth 100000
set_option maxHeartbeats 4000000
namespace Z
open PySem PySem.Spec PyProof.Rows L2 L2H
/-! ### a def that is handed the exception which its caller handles -/
structure FnE (P : Program) (w : World) (K : PySem.W.Frag) (mg : Str → Option Value) (base : Heap) (k : Nat) (f : Addr) (fd : FuncData) (ps : List Str) (sp : Addr → Value → Option Addr → Sp) : Prop where
  len : ∀ a cls d vs H Q E, sp a cls d vs H Q E → vs.length = ps.length
  run : ∀ (A : Around) (outer : List Env) (s : Shared) (H : Hp) (args : Args) (us : List Value) (vs : List V) (Q : VK) (E : XK) (p : Addr × Obj) (cls : Value) (d : Option Addr), RoomH k A → PinOk outer H s p → Zc cls d p.2 → (∃ vs, p.2.data = .fields vs) → Env0 P w K mg base A outer s H → BindsTo s fd args (ps.zip us) → Vals vs us → sp p.1 cls d vs H Q E →
    codeAny (model P w) A (.call (.ref f) args) (CR CX0 outer P w H s Q E) s
structure Ce (P : Program) (w : World) (K : PySem.W.Frag) (mg : Str → Option Value) (base : Heap) (k : Nat) (x : Str) (sp : Addr → Value → Option Addr → Sp) : Prop where
  ex : ∃ (f : Addr) (fd : FuncData) (ps : List Str), FnE P w K mg base k f fd ps sp ∧ mg x = some (.ref f) ∧ PySem.W.keepIn K (.ref f) = true ∧ Binds K fd ps []
section
variable {P : Program} {w : World} {K : PySem.W.Frag} {mg : Str → Option Value} {base : Heap}
theorem ce_of {x : Str} {st : Stmt} {N ps : List Str} {k : Nat} {sp : Addr → Value → Option Addr → Sp} (D : Dn K mg x st) (S : FnScope N ps (defScope st)) (b : BindO x st ps) (len : ∀ a cls d vs H Q E, sp a cls d vs H Q E → vs.length = ps.length)
    (hbody : ∀ (f : Addr) (cdv : Value) (A : Around) (outer : List Env) (s : Shared) (H : Hp) (vs : List V) (Q : VK) (E : XK) (a : Addr) (oe : Obj) (cls : Value) (d : Option Addr), RoomH k (A.deeper (envOfC x (defScope st) s.heap.objs.size f cdv)) → Zc cls d oe → (∃ vs, oe.data = .fields vs) → sp a cls d vs H Q E →
      ∃ t, PSs (cxH CX0 P w K mg base N x (defScope st) f cdv A outer s H E (a, oe)) (defBody st) t ∧ t { nx := fun _ H' => Q .non H', rt := Q } (L2.start N vs) H) : Ce P w K mg base (k + 1) x sp := by
  obtain ⟨f, fd, F, hm⟩ := D.ex
  obtain ⟨oc, od, kV, doc, pm, an, cdv, ct, osl, rfl, lk, hcd⟩ := id F.ex
  refine ⟨f, _, ps, ⟨len, fun A outer s H args us vs Q E p cls d hr hpin hz hf e0 hb r hsp => ?_⟩, hm, F.kp, F.binds b⟩
  have hl := len _ _ _ _ _ _ _ hsp
  have KX : K.In s.heap := e0.mod.kin.keeps fun b o e => (e0.bs b o e).1
  have lim : s.heap.NoLimit := e0.mod.nolimit.keeps fun b o e => (e0.bs b o e).1
  have hkind : ∀ y ∈ ps.zip us, (defScope st).names.lookup y.1 = some .local ∨ ((defScope st).names.lookup y.1 = some .cell ∧ ((cellsFrom (s.heap.objs.size + 1) (defScope st).names []).lookup y.1).isSome = true) := fun ⟨n, v⟩ hy => by
    rcases S.par n (List.of_mem_zip hy).1 with q | q
    · exact .inl q
    · exact .inr ⟨q, PySem.W.cellsFrom_some _ _ _ (.inl q)⟩
  refine codeAny_call_function hr.depth (KX _ _ lk) rfl S.co S.gen rfl (PySem.W.codeRec_of KX hcd) (hb _ _ _ _ ?_)
  refine wpAny_newFunctionEnv_cells S.kind hkind fun env he s1 x' => ?_
  subst he
  refine ⟨lim.keeps x'.toInCall.keep, codeAny_func ?_⟩
  obtain ⟨t, ht, hq⟩ := hbody f cdv A outer s H vs Q E p.1 p.2 cls d (hr.deeper _) hz hf hsp
  have I : Inv (cxH CX0 P w K mg base N x (defScope st) f cdv A outer s H E p) [] (L2.start N vs) H s1 := inv_startH S hpin e0 hl r x'
  refine wpAny_mono (ht.run [] s1 (L2.start N vs) H _ I hq) (fun fl s' hs => ?_) fun e s' hs => hs
  have fin : ∀ {σ' : L2.St} {H' : Hp} {v : V} {u : Value}, Inv (cxH CX0 P w K mg base N x (defScope st) f cdv A outer s H E p) [] σ' H' s' → RelV v u → Q v H' → CE outer P w H s Q u s' :=
    fun {σ' H' v u} J rv q => ⟨v, H', J.os, J.bare, J.base, J.hok, rv, q⟩
  cases fl with
  | ret u =>
    obtain ⟨v, σ', H', J, rv, q⟩ := hs
    exact fin J rv q
  | next =>
    obtain ⟨σ', H', J, q⟩ := hs
    exact fin (v := V.non) (u := Value.none) J rfl q
  | brk =>
    obtain ⟨_, _, _, q⟩ := hs
    exact False.elim q
  | cont =>
    obtain ⟨_, _, _, q⟩ := hs
    exact False.elim q
end
def tCe (a : Addr) (cls : Value) (d : Option Addr) (sp : Addr → Value → Option Addr → Sp) (t : TA) : TE := fun σ H Q => t σ H fun vs H1 => sp a cls d vs H1 Q E0
section
variable {X : Cx} {k j : Nat} {x : Str} {sp : Addr → Value → Option Addr → Sp} {p pos : Pos} {e : Expr} {es : List Expr} {t : TA}
theorem pe_ce {a : Addr} {oe : Obj} {cls : Value} {dx : Option Addr} (c : Ce X.prog X.w X.K X.mg X.base k x sp) (hp : (a, oe) ∈ X.pn) (hz : Zc cls dx oe) (hf : ∃ vs, oe.data = .fields vs) (hr : RoomH j X.A) (hk : k ≤ j) (hg : Gl X x) (ha : PA X (e :: es) t)
    (d : (x == ("__debug__" : Str)) = false := by decide) (h1 : starEach (e :: es) X.env = (false, eval e X.env) :: starEach es X.env := by rfl) (h2 : (backTo pos (starEach es X.env)).any (·.1) = false := by rfl) :
    PE X (.Call (.Name x p) (e :: es) [] pos) (tCe a cls dx sp t) := by
  obtain ⟨f, fd, ps, F, hm, kp, b⟩ := c.ex
  refine ⟨fun pins s σ H Q I h => ?_⟩
  refine wpAny_Call_Name_kw (ld_glob I hg hm ?_ d)
  refine PySem.W.callWith_K (h₀ := X.base) I.ok.mod.kin kp (thn (ha.run pos pins s σ H _ I h) fun us s1 ⟨vs, H1, I1, r, q⟩ => ⟨I1.kIn, ?_⟩) h1 h2
  have hl : us.length = ps.length := by rw [← r.length]; exact F.len _ _ _ _ _ _ _ q
  have bb := b s1 us I1.kIn (by rw [List.append_nil]; exact hl)
  rw [List.append_nil] at bb
  have P1 := I1.pin (a, oe) (List.mem_append_left _ hp)
  have hpin : PinOk X.stack H1 s1 (a, oe) := ⟨P1.1, P1.2.1, fun hm => (List.mem_cons.mp (I1.stkSub a hm)).elim P1.2.2.1 P1.2.2.2.1, P1.2.2.2.2⟩
  refine wpAny_call (codeAny_mono (F.run X.A X.stack s1 H1 ⟨us, []⟩ us vs Q E0 (a, oe) cls dx (hr.mono hk) hpin hz hf I1.env0 bb r q) fun r s' hq => ?_)
  cases r with
  | error e => exact hq.elim
  | ok fl =>
    cases fl with
    | ret u => exact I1.after hq
    | next => exact False.elim hq
    | brk => exact False.elim hq
    | cont => exact False.elim hq
end
/-! ### what is asked of the exception in hand -/
section
variable {X : Cx} {a C dd : Addr} {oe : Obj}
theorem inst_x {pins : List (Addr × Obj)} {σ : L2.St} {H : Hp} {s : Shared} {fs : List (Str × V)} (I : Inv X pins σ H s) (hp : (a, oe) ∈ X.pn) (hz : Zc (.ref C) (some dd) oe) (hf : ∃ vs, oe.data = .fields vs) (hd : H dd = some (.xd fs)) :
    ∃ (od : Obj) (mA : Str → Option Value), PySem.W.InstAt s.heap a oe C (some od) ∧ (∀ n, PySem.W.lookIn n od = some (mA n)) ∧ ∀ f, RelO (fs.lookup f) (mA f) := by
  obtain ⟨ha, _⟩ := I.pin (a, oe) (List.mem_append_left _ hp)
  obtain ⟨vs, hv⟩ := hf
  have hx : ObjOk X.prog X.w H s.heap dd (.xd fs) := I.hok dd _ hd
  obtain ⟨mA, hns, hr⟩ := hx
  obtain ⟨od, ho, hl⟩ := lookIn_ns hns
  exact ⟨od, mA, ⟨ha, hz.1, by unfold PySem.W.notCls; rw [hv] <;> rfl, by rw [hz.2]; exact ho⟩, hl, hr⟩
/-- isinstance(e, C), isinstance(e, (C, ..)) -/
def rIsX (K : PySem.W.Frag) (a C dd : Addr) : List V → Hp → VK → Prop := fun xs H Q => ∃ (fs : List (Str × V)), H dd = some (.xd fs) ∧ ∃ (c : V) (b : Bool), xs = [.ref a, c] ∧
  ((∃ cv, ClsV c cv ∧ PySem.W.kitOne K (.ref C) cv = some b) ∨ ∃ (tp : Addr) (cs : List V) (us : List Value), c = .ref tp ∧ H tp = some (.tup cs) ∧ Paired ClsV cs us ∧ PySem.W.kitAny K (.ref C) us = some b) ∧ Q (.bl b) H
theorem cr_isX (T : ExcC X.K C) (hp : (a, oe) ∈ X.pn) (hz : Zc (.ref C) (some dd) oe) (hf : ∃ vs, oe.data = .fields vs) : CallR X (.builtin "isinstance") (rIsX X.K a C dd) := by
  intro pins s σ H xs us Q I r ⟨fs, hd, c, b, e, h, q⟩
  subst e
  obtain ⟨u1, u2, rfl, r1, r2⟩ := vals2 r
  cases (show u1 = Value.ref a from r1)
  obtain ⟨od, mA, J, _, _⟩ := inst_x I hp hz hf hd
  have hcl : (PySem.W.clsIn X.K C).isSome = true := by
    obtain ⟨cd, hc, _⟩ := PySem.W.any_some T.hd
    rw [hc]
    rfl
  have Z := PySem.W.kitx_exc (K := X.K) (x := a) (C := C) (ox := oe) (od := some od) hcl T.hg T.hk T.hs T.ha T.hn T.ht T.hm
  rcases h with ⟨cv, k, e⟩ | ⟨tp, cs, ws, ec, hT, k, e⟩
  · have e2 := k.eq r2
    subst e2
    exact PySem.W.kia_one Z I.kIn J e (fun z => nomatch z) fun tk => ⟨.bl b, H, I.tok tk, rfl, q⟩
  · subst ec
    cases (show u2 = Value.ref tp from r2)
    obtain ⟨_, its, rv, o, h1, h2, n, h3⟩ := (show ObjOk X.prog X.w H s.heap tp (.tup cs) from I.hok tp _ hT)
    have e3 := ClsV.all k rv
    subst e3
    obtain ⟨oc, od', dt, sl⟩ := o
    simp only at h2 h3
    subst h2 h3
    exact PySem.W.kia_tup Z I.kIn J h1 e (fun z => nomatch z) fun tk => ⟨.bl b, H, I.tok tk, rfl, q⟩
/-- e.f -/
def tXF (a dd : Addr) (f : Str) (te : TE) : TE := fun σ H Q => te σ H fun x H1 => x = .ref a ∧ ∃ (fs : List (Str × V)), H1 dd = some (.xd fs) ∧ ∃ v : V, fs.lookup f = some v ∧ Q v H1
theorem pe_xF {e : Expr} {te : TE} {pos : Pos} {n : Str} (T : XfC X.K C) (hno : PySem.W.findIn X.K (.ref C) n = some none) (hp : (a, oe) ∈ X.pn) (hz : Zc (.ref C) (some dd) oe) (hf : ∃ vs, oe.data = .fields vs) (he : PE X e te)
    (hb : attributeBase e n X.env (eval e X.env) = eval e X.env := by rfl) : PE X (.Attribute e n pos) (tXF a dd n te) := by
  refine ⟨fun pins s σ H Q I h => ?_⟩
  refine attr_of hb (thn (he.run pins s σ H _ I h) fun u s1 hh => ?_)
  obtain ⟨x, H1, I1, rx, ex, fs, hd, v, l, q⟩ := hh
  subst ex
  obtain rfl : u = Value.ref a := rx
  obtain ⟨od, mA, J, hl, hr⟩ := inst_x I1 hp hz hf hd
  obtain ⟨u, hu, ru⟩ := RelO.some_of (v := v) (o := mA n) (by rw [← l]; exact hr n)
  exact HandSPX.exc_get I1.kIn J T.ga T.gg T.exC (PySem.W.findObj_own T.hdC hno rfl (by rw [hl, hu])) (handed_of ru) ⟨v, H1, I1.tok _, ru, q⟩
/-- B.__init__(self, ..), B an own class that has ValueError's -/
structure BaseC (K : PySem.W.Frag) (mg : Str → Option Value) (x : Str) : Prop where
  ex : ∃ (B : Addr) (mc : Value), mg x = some (.ref B) ∧ PySem.W.specialIn K (.ref B) "__getattribute__" = some (some (.builtin "type.__getattribute__")) ∧ PySem.W.readsIn K B mc = true ∧ PySem.W.findCls K (.ref B) mc "__init__" = some (.val (.builtin "ValueError.__init__"))
theorem pe_binit {x : Str} {e : Expr} {es : List Expr} {ta : TA} {p1 p2 pos : Pos} {pl : Sem Bool} (c : BaseC X.K X.mg x) (hg : Gl X x) (ha : PA X (e :: es) ta)
    (hc : eval (.Call (.Attribute (.Name x p1) "__init__" p2) (e :: es) [] pos) X.env = (do
      let ov ← eval (.Name x p1) X.env
      standAt p2.atName
      let (f, first) ← holding [ov] (getMethod ov "__init__" pl)
      callWith pos f first (backTo pos (starEach (e :: es) X.env)) (backToKw pos (keywordEach [] X.env))) := by rfl)
    (hdb : (x == ("__debug__" : Str)) = false := by decide)
    (he : starEach (e :: es) X.env = (false, eval e X.env) :: starEach es X.env := by rfl) (hpl : (backTo pos (starEach es X.env)).any (·.1) = false := by rfl) :
    PE X (.Call (.Attribute (.Name x p1) "__init__" p2) (e :: es) [] pos) (tVeI X.K ta) := by
  obtain ⟨B, mc, hm, h1, h2, h3⟩ := c.ex
  refine ⟨fun pins s σ H Q I h => ?_⟩
  refine PySem.W.methodCall_KW (ld_glob I hg hm ?_ hdb) hc
  refine PySem.W.method_cls I.kIn h1 (PySem.W.cls_value I.kIn h2 h3 (by decide +kernel) ?_)
  show wpAny _ _ (callWith pos (Value.builtin "ValueError.__init__") [] (backTo pos (starEach (e :: es) X.env)) []) _ _ _
  refine PyProof.Rows.callWith_method1 (thn (ha.run pos pins _ σ H _ (I.tok _) h) fun us s1 ⟨vs, H1, I1, r1, a, C, ws, ev, hl, T, ea, q⟩ => ?_) he hpl
  subst ev
  cases r1 with
  | @cons _ u0 _ ur ra rw' =>
    obtain rfl : u0 = Value.ref a := ra
    have hlen : ur.length ≤ sizeLine := by
      rw [← Paired.length rw', sizeLine_eq]
      omega
    exact oinit_ok T I1 ea hlen fun s' J => ⟨.non, H1, J, rfl, q⟩
end
/-! ### a def that raises -/
structure Cr (P : Program) (w : World) (K : PySem.W.Frag) (mg : Str → Option Value) (base : Heap) (k : Nat) (x : Str) (sp : Sp) : Prop where
  ex : ∃ (f : Addr) (fd : FuncData) (ps : List Str), FnOk P w K mg base (L2.CX P w) k f fd ps sp ∧ mg x = some (.ref f) ∧ PySem.W.keepIn K (.ref f) = true ∧ Binds K fd ps []
section
variable {P : Program} {w : World} {K : PySem.W.Frag} {mg : Str → Option Value} {base : Heap}
theorem cr_of {x : Str} {st : Stmt} {N ps : List Str} {k : Nat} {sp : Sp} (D : Dn K mg x st) (S : FnScope N ps (defScope st)) (b : BindO x st ps) (len : ∀ vs H Q E, sp vs H Q E → vs.length = ps.length)
    (body : ∀ (f : Addr) (cdv : Value) (A : Around) (outer : List Env) (s : Shared) (H : Hp) (vs : List V) (Q : VK) (E : XK), Room k (A.deeper (envOfC x (defScope st) s.heap.objs.size f cdv)) → sp vs H Q E →
      ∃ t, PSs (cxOf (L2.CX P w) P w K mg base N x (defScope st) f cdv A outer s H E) (defBody st) t ∧ t { nx := fun _ H' => Q .non H', rt := Q } (L2.start N vs) H) : Cr P w K mg base (k + 1) x sp := by
  obtain ⟨f, fd, F, hm⟩ := D.ex
  exact ⟨f, fd, ps, F.okX S len (body f), hm, F.kp, F.binds b⟩
end
def tCr (sp : Sp) (W : WX) (t : TA) : TE := fun σ H Q => t σ H fun vs H1 => sp vs H1 Q (WE W σ)
theorem pe_cr {X : Cx} {k j : Nat} {x : Str} {sp : Sp} {p pos : Pos} {e : Expr} {es : List Expr} {t : TA} {W : WX} (c : Cr X.prog X.w X.K X.mg X.base k x sp) (tk : Takes X W) (hr : Room j X.A) (hk : k ≤ j) (hg : Gl X x) (ha : PA X (e :: es) t)
    (d : (x == ("__debug__" : Str)) = false := by decide) (h1 : starEach (e :: es) X.env = (false, eval e X.env) :: starEach es X.env := by rfl) (h2 : (backTo pos (starEach es X.env)).any (·.1) = false := by rfl) :
    PE X (.Call (.Name x p) (e :: es) [] pos) (tCr sp W t) := by
  obtain ⟨f, fd, ps, F, hm, kp, b⟩ := c.ex
  exact pe_callS F (hr.mono hk) hg hm kp b (fun σ => passAt tk σ) ha d h1 h2
end Z
namespace Z
open PySem PySem.Spec PyProof.Rows L2
/-- a name of the module, by its value -/
theorem pe_gc {X : Cx} {x : Str} {pos : Pos} {v : V} (hg : Gl X x) (h : ∃ u, X.mg x = some u ∧ RelV v u) (hd : (x == ("__debug__" : Str)) = false := by decide) : PE X (.Name x pos) (tC v) := by
  obtain ⟨u, hm, r⟩ := h
  exact pe_glob hg hm r hd
end Z
namespace Z
open PySem PySem.Spec PyProof.Rows L2 L2H
theorem del_some {H : Hp} {a b : Addr} {o : HO} (n : H a = none) (h : H b = some o) : del H a b = some o := by
  rw [del_ne (ne_of_none h n)]
  exact h
/-- what an __init__ with one text does: B.__init__(self, ..); self.f = text -/
def sp_init1 (K : PySem.W.Frag) (C : Addr) (f : Str) : Sp := fun vs H Q _ => ∃ (a : Addr) (x : Str), vs = [.ref a, .str x] ∧ OexC K C ∧ PySem.W.findIn K (.ref C) f = some none ∧ (reprText x).length ≤ 20000 ∧ H a = some (exo a C none) ∧
  ∀ dx, H dx = none → dx ≠ a → Q .non (upd (upd H dx (exd dx [(f, .str x)])) a (exo a C (some dx)))
/-- an own class of errors, one field -/
structure Bad (P : Program) (w : World) (K : PySem.W.Frag) (mg : Str → Option Value) (base : Heap) (n f : Str) (C : Addr) : Prop where
  nm : mg n = some (.ref C)
  ox : OexC K C
  ini : ∃ (fI : Addr) (fd : FuncData) (ps : List Str), PySem.W.findIn K (.ref C) "__init__" = some (some (.ref fI)) ∧ PySem.W.typeIn K (.ref fI) = some (.type "function") ∧ FnOk P w K mg base CX0 1 fI fd ps (sp_init1 K C f) ∧ Binds K fd ps []
  no : PySem.W.findIn K (.ref C) f = some none
  ex : ExcC K C
  xf : XfC K C
def taUp (t : TA) : TA := fun σ H Q => ∃ R : List V → Hp → Prop, t σ H R ∧ ∀ vs H1, R vs H1 → Q vs H1
theorem pa_up {X : Cx} {es : List Expr} {t : TA} (h : PA X es t) : PA X es (taUp t) := ⟨fun pos pins s σ H Q I ⟨R, hr, i⟩ => thn (h.run pos pins s σ H R I hr) fun us s1 ⟨vs, H1, I1, r1, q⟩ => ⟨vs, H1, I1, r1, i vs H1 q⟩⟩
theorem same_made {H H1 : Hp} {a dx : Addr} {o1 o2 o3 o4 : HO} (hH : H1 = upd H a o1) (ha : H a = none) (hd : H1 dx = none) : Same H (upd (del (upd (upd H1 dx o2) a o3) a) dx o4) := fun b o e => by
  have hb : b ≠ a := ne_of_none e ha
  have hx : b ≠ dx := fun z => by
    subst z
    rw [hH, upd_ne hb, e] at hd
    cases hd
  rw [upd_ne hx, del_ne hb, upd_ne hb, upd_ne hx, hH, upd_ne hb]
  exact e
/-- N(text), one that is raised -/
def tBad (C : Addr) (f : Str) (ta : TA) : L2.St → Hp → XK → Prop := fun σ H Q => ta σ H fun vs H1 => ∃ x : Str, vs = [.str x] ∧ (reprText x).length ≤ 20000 ∧ ∀ (d : Addr) (H' : Hp), Same H1 H' → H1 d = none → H' d = some (.xd [(f, .str x)]) → Q (.ref C) (some d) H'
theorem pmk_bad {X : Cx} {e : Expr} {es : List Expr} {ta : TA} {n f : Str} {C : Addr} {k : Nat} {p pos : Pos} (b : Bad X.prog X.w X.K X.mg X.base n f C) (hr : Room k X.A) (hk : 2 ≤ k) (hg : Gl X n) (ha : PA X (e :: es) ta)
    (hdb : (n == ("__debug__" : Str)) = false := by decide) (he : starEach (e :: es) X.env = (false, eval e X.env) :: starEach es X.env := by rfl) (hpl : (backTo pos (starEach es X.env)).any (·.1) = false := by rfl) :
    PMk X (.Call (.Name n p) (e :: es) [] pos) (tBad C f ta) := by
  obtain ⟨fI, fd, ps, i1, i2, F, bs⟩ := b.ini
  have z := pmk_oex (p := p) (pos := pos) (dvs := []) (ds := []) b.ox i1 i2 F (hr.mono hk) bs .nil pass0 hg b.nm (pa_up ha) hdb he hpl
  intro pins s σ H Q I h
  refine z pins s σ H Q I ⟨_, h, fun vs H1 ⟨x, ev, hz, q⟩ => ?_⟩
  subst ev
  refine ⟨by show 1 ≤ 1000; decide, fun a na => ⟨a, x, rfl, b.ox, b.no, hz, upd_same, fun dx hdx hne => ⟨rfl, dx, [(f, .str x)], upd_same, ?_, ?_, ?_⟩⟩⟩
  · rw [upd_ne hne, upd_same]
  · rw [upd_ne hne] at hdx
    exact hdx
  · refine q dx _ (same_made rfl na hdx) ?_ upd_same
    rw [upd_ne hne] at hdx
    exact hdx
end Z
namespace Z
open PySem PySem.Spec PyProof.Rows L2 L2H
theorem cxH_K {CX : CXT} {P : Program} {w : World} {K : PySem.W.Frag} {mg : Str → Option Value} {base : Heap} {N : List Str} {q : Str} {sc : Scope} {f : Addr} {cd : Value} {A : Around} {outer : List Env} {s : Shared} {H : Hp} {E : XK} {p : Addr × Obj} : (cxH CX P w K mg base N q sc f cd A outer s H E p).K = K := rfl
theorem roomH_mark {k : Nat} {A : Around} (r : Room k A) (h : Option Value) : RoomH k (A.mark h) := ⟨r.dp, r.un⟩
theorem kit_self {K : PySem.W.Frag} {C : Addr} : PySem.W.kitOne K (.ref C) (.ref C) = some true := by
  unfold PySem.W.kitOne
  rw [if_pos (by simp)]
theorem kitAny_none {K : PySem.W.Frag} {t : Value} : ∀ {us : List Value}, (∀ u ∈ us, PySem.W.kitOne K t u = some false) → PySem.W.kitAny K t us = some false
  | [], _ => rfl
  | u :: us, h => kitAny_cons (b := false) (h u List.mem_cons_self) (fun _ => kitAny_none fun v hv => h v (List.mem_cons_of_mem _ hv)) (fun z => by cases z)
theorem cls_refs : ∀ l : List Addr, Paired ClsV (l.map V.ref) (l.map Value.ref)
  | [] => .nil
  | a :: l => .cons (.own a) (cls_refs l)
end Z
set_option Elab.async false
set_option linter.all false
set_option maxRecDepth 100000
namespace Z
open PySem PySem.Spec PyProof.Rows L2
def topS (i : Nat) : Stmt := PySem.Challenge.pw_hedgejoin_k00_names_and_positions.main.body.getD i (.Pass ⟨0, 0, 0, 0⟩)
end Z
set_option Elab.async false
set_option linter.all false
set_option maxRecDepth 100000
set_option maxHeartbeats 4000000
namespace Z
open PySem PySem.Spec PyProof.Rows L2
section
variable {P : Program} {w : World} {K : PySem.W.Frag} {mg : Str → Option Value} {base : Heap}
abbrev s_law_mixed : Stmt := topS 39
abbrev N_law_mixed : List Str := ["cell", "turn", "seed", "once", "twice"]
theorem sc_law_mixed : FnScope N_law_mixed ["cell", "turn", "seed"] (defScope s_law_mixed) := ⟨rfl, rfl, rfl, by decide +kernel, rfl, by decide +kernel, by decide +kernel⟩
theorem b_law_mixed : BindO "_law_mixed" s_law_mixed ["cell", "turn", "seed"] := fun _ _ _ _ _ _ us hl => match us, hl with | [_, _, _], _ => rfl

/-- three ints in, some int out -/
def sp_mixed : Sp := fun vs H Q _ => ∃ i j l : Int, vs = [.int i, .int j, .int l] ∧ ∀ r : Int, Q (.int r) H
theorem ok_mixed (D : Dn K mg "_law_mixed" s_law_mixed) (B : Blt mg) : Cl P w K mg base 1 "_law_mixed" sp_mixed := by
  refine cl_of D sc_law_mixed b_law_mixed (fun vs H Q E h => ?_) (fun f cdv A outer s H vs Q E hr h => ?_)
  · obtain ⟨i, j, l, rfl, _⟩ := h
    rfl
  · obtain ⟨i, j, l, rfl, q⟩ := h
    refine ⟨_, (pss_cons (ps_set (i := 3) sc_law_mixed.nd rfl (.inl rfl) (pe_op op_mod (pe_callTy call_intI (by rfl) B.int (by decide +kernel) (pa_cons (pe_op op_add (pe_op op_add (pe_op op_add (pe_op op_mul (pe_op op_mod (pe_callTy call_intI (by rfl) B.int (by decide +kernel) (pa_cons (pv 0) pa_nil)) pe_int) pe_int) (pe_op op_mul (pv 1) pe_int)) (pv 2)) pe_int) pa_nil)) pe_int))
      (pss_cons (ps_set (i := 3) sc_law_mixed.nd rfl (.inl rfl) (pe_op op_mod (pe_callTy call_intI (by rfl) B.int (by decide +kernel) (pa_cons (pe_op op_add (pe_op op_add (pe_op op_mul (pv 3) (pv 3)) (pe_op op_mul (pe_op op_fdivW (pv 3) pe_int) pe_int)) (pv 1)) pa_nil)) pe_int))
      (pss_cons (ps_set (i := 4) sc_law_mixed.nd rfl (.inl rfl) (pe_op op_mod (pe_callTy call_intI (by rfl) B.int (by decide +kernel) (pa_cons (pe_op op_add (pe_op op_add (pe_op op_mul (pv 3) pe_int) (pe_op op_fdivW (pv 3) pe_int)) (pv 2)) pa_nil)) pe_int))
      (pss_one (ps_ret (pe_op op_fdivW (pv 4) pe_int)))))), ?_⟩
    rw [show L2.start N_law_mixed [.int i, .int j, .int l] = [some (.int i), some (.int j), some (.int l), none, none] from rfl]
    simp only [tSeq, tNext, tDrop, tRet, tRetN, tIfS, tAsg, gName, tAug, ipI, tVar, tC, tOp, tUn, rI, rI0, rU, tCons, tNil, tCB, tTup, tLst, tTest, tB, tAnd, tOr, tNot, tAndV, tOrV, tNotV, tIf, tCl, tCd, tCk, gSub, rPutL, rAtQ, rIntI, rLenQ, rLenS, rListQ, rTupL, rTupQ, rIsQ_c, kd_non, kd_bl, kd_int, kd_str, kd_ref, kdO_lst, kdO_tup, kit_NoneType_bool, kit_NoneType_int, kit_NoneType_str, kit_NoneType_list, kit_NoneType_tuple, kit_bool_bool, kit_bool_int, kit_bool_str, kit_bool_list, kit_bool_tuple, kit_int_bool, kit_int_int, kit_int_str, kit_int_list, kit_int_tuple, kit_str_bool, kit_str_int, kit_str_str, kit_str_list, kit_str_tuple, kit_list_bool, kit_list_int, kit_list_str, kit_list_list, kit_list_tuple, kit_tuple_bool, kit_tuple_int, kit_tuple_str, kit_tuple_list, kit_tuple_tuple, V.ty.injEq, rSortQ, rSlQ, rMulS, tJn, rAtX, rSlS, tSl, tPart, tNoPart, cut_lo2, cut_hi2, rInQ, gLq, gTq, gC_c, gNil, tChain, List.cons_append, List.nil_append, tBL, tBL0, rApp, rPopN, rRevL, seqAt_lst, seqAt_tup, at_0, at_1, at_2, at_3, at_4, ix_0, ix_1, ix_2, ix_3, ix_4, cx_K, upd_same, List.length_cons, List.length_nil, Nat.reduceAdd,  rEq, rNe, tRevL, V.int.injEq, V.bl.injEq, V.str.injEq, V.ref.injEq, List.cons.injEq, and_true, true_and, exists_and_left, exists_and_right, exists_eq_left, exists_eq_left', exists_eq_right, exists_eq_right', exists_const, Option.some.injEq, List.getElem?_cons_zero, List.getElem?_cons_succ, List.set_cons_zero, List.set_cons_succ, decide_eq_true_eq, decide_true, decide_false,  scal_ii, scal_bb, scal_ss, cmul_r, cdiv_l, cpow_12, cpow_18, cpow_40, HO.lst.injEq, HO.tup.injEq, upd_upd, Int.reduceToNat,  decide_not, Bool.not_eq_true', decide_eq_false_iff_not, if_true, if_false, Bool.false_eq_true, Bool.true_eq_false, reduceCtorEq, Int.reduceNeg, Nat.reduceLT, Int.reduceLT, Int.reducePow, gt_iff_lt]
    exact ⟨.inl ⟨by omega, by omega⟩, q _⟩

/-! ### the store: its cells, the next one's place, what is left of a great one, a count, a seed -/
structure Sto where
  a : Addr
  c : Addr
  cells : List Int
structure Store (S : Sto) (H : Hp) : Prop where
  ex : ∃ (i : Nat) (x y z : Int), H S.a = some (.lst [.ref S.c, .int i, .int x, .int y, .int z]) ∧ i ≤ S.cells.length
  cel : H S.c = some (.lst (S.cells.map V.int))
  ne : S.c ≠ S.a
  few : S.cells.length ≤ 63
theorem Store.keep {S : Sto} {H H' : Hp} (s : Store S H) (h : ∀ b o, H b = some o → H' b = some o) : Store S H' := by
  obtain ⟨i, x, y, z, h1, r⟩ := s.ex
  exact ⟨⟨i, x, y, z, h _ _ h1, r⟩, h _ _ s.cel, s.ne, s.few⟩
theorem Store.neA {S : Sto} {H : Hp} {p : Addr} (s : Store S H) (h : H p = none) : p ≠ S.a := fun e => by
  obtain ⟨_, _, _, _, h1, _⟩ := s.ex
  rw [← e, h] at h1
  cases h1
theorem Store.neC {S : Sto} {H : Hp} {p : Addr} (s : Store S H) (h : H p = none) : p ≠ S.c := fun e => by
  have h1 := s.cel
  rw [← e, h] at h1
  cases h1
theorem Store.at {S : Sto} {H : Hp} {p : Addr} {o : HO} (s : Store S H) (h : p ≠ S.a) (h' : p ≠ S.c) : Store S (upd H p o) := by
  obtain ⟨i, x, y, z, h1, r⟩ := s.ex
  exact ⟨⟨i, x, y, z, by rw [upd_ne h.symm]; exact h1, r⟩, by rw [upd_ne h'.symm]; exact s.cel, s.ne, s.few⟩
/-- from H to H': all but the store stays, it is a store still -/
structure Drew (S : Sto) (H H' : Hp) : Prop where
  but : But (fun b => b = S.a) H H'
  st : Store S H'
theorem Drew.trans {S : Sto} {H H1 H2 : Hp} (r : Drew S H H1) (t : Drew S H1 H2) : Drew S H H2 := ⟨r.but.trans t.but, t.st⟩
theorem Drew.new {S : Sto} {H H1 : Hp} (r : Drew S H H1) {p : Addr} {o : HO} (h : H1 p = none) : Drew S H (upd H1 p o) :=
  ⟨r.but.trans (But.new h), r.st.keep (same_new h)⟩
theorem Drew.back {S : Sto} {H H1 : Hp} (r : Drew S H H1) {p : Addr} (h : H1 p = none) : H p = none := r.but.free (r.st.neA h) h
/-- what was new behind H is changed -/
theorem Drew.at {S : Sto} {H H1 : Hp} (r : Drew S H H1) (s : Store S H) {p : Addr} {o : HO} (h : H p = none) : Drew S H (upd H1 p o) := ⟨r.but.at (.inr h), r.st.at (s.neA h) (s.neC h)⟩
theorem Drew.only {S : Sto} {H H1 H2 : Hp} {p : Addr} (r : Drew S H H1) (s : Store S H) (h : H p = none) (b : But (fun b => b = p) H1 H2) : Drew S H H2 := by
  refine ⟨fun c o n e => b c o (fun z => ne_of_none e h z) (r.but c o n e), ?_⟩
  obtain ⟨i, x, y, z, h1, h2⟩ := r.st.ex
  exact ⟨⟨i, x, y, z, b _ _ (s.neA h).symm h1, h2⟩, b _ _ (s.neC h).symm r.st.cel, r.st.ne, r.st.few⟩
theorem Drew.same {S : Sto} {H H1 H2 : Hp} (r : Drew S H H1) (h : Same H1 H2) : Drew S H H2 := ⟨r.but.trans (But.of h), r.st.keep h⟩
/-- a number from 0 on below many -/
def Digit (many d : Int) : Prop := 0 ≤ d ∧ (d < many ∨ d = 0)
abbrev s_law_take : Stmt := topS 40
abbrev N_law_take : List Str := ["store", "many", "cell", "digit"]
theorem sc_law_take : FnScope N_law_take ["store", "many"] (defScope s_law_take) := ⟨rfl, rfl, rfl, by decide +kernel, rfl, by decide +kernel, by decide +kernel⟩
theorem b_law_take : BindO "_law_take" s_law_take ["store", "many"] := fun _ _ _ _ _ _ us hl => match us, hl with | [_, _], _ => rfl

def sp_take : Sp := fun vs H Q _ => ∃ (S : Sto) (many : Int), vs = [.ref S.a, .int many] ∧ Store S H ∧ many < 2 ^ 64 ∧ ∀ (d : Int) (H' : Hp), Drew S H H' → Digit many d → Q (.int d) H'
theorem ok_take (D : Dn K mg "_law_take" s_law_take) (B : Blt mg) (c_law_mixed : Cl P w K mg base 1 "_law_mixed" sp_mixed) : Cl P w K mg base 2 "_law_take" sp_take := by
  refine cl_of D sc_law_take b_law_take (fun vs H Q E h => ?_) (fun f cdv A outer s H vs Q E hr h => ?_)
  · obtain ⟨S, many, rfl, _⟩ := h
    rfl
  · obtain ⟨S, many, rfl, st, hm, q⟩ := h
    refine ⟨_, (pss_cons (ps_if (pt_cmpR op_lt (pv 1) pe_int (nomark _)) (pss_one (ps_ret pe_int)) pss_nil)
      (pss_cons (ps_if (pt_cmpR op_eq (pe_ix at_seq (pv 0) pe_int (fun _ _ => rfl)) pe_int (nomark _)) (pss_cons (ps_set (i := 2) sc_law_take.nd rfl (.inl rfl) pe_int)
      (pss_cons (ps_if (pt_cmpR op_lt (pe_ix at_seq (pv 0) pe_int (fun _ _ => rfl)) (pe_callB call_lenQ (by rfl) B.len PySem.boot_len (pa_cons (pe_ix at_seq (pv 0) pe_int (fun _ _ => rfl)) pa_nil)) (nomark _)) (pss_cons (ps_set (i := 2) sc_law_take.nd rfl (.inl rfl) (pe_ix at_seq (pe_ix at_seq (pv 0) pe_int (fun _ _ => rfl)) (pe_ix at_seq (pv 0) pe_int (fun _ _ => rfl)) (fun _ _ => rfl)))
      (pss_one (ps_asg (pe_op op_add (pe_ix at_seq (pv 0) pe_int (fun _ _ => rfl)) pe_int) (pg_sub (pv 0) pe_int put_list)))) pss_nil)
      (pss_cons (ps_if (pt_cmpR op_lt (pv 2) (pe_op op_pow pe_int pe_int) (nomark _)) (pss_cons (ps_asg (pe_op op_add (pe_ix at_seq (pv 0) pe_int (fun _ _ => rfl)) pe_int) (pg_sub (pv 0) pe_int put_list))
      (pss_one (ps_ret (pe_op op_mod (pe_callTy call_intI (by rfl) B.int (by decide +kernel) (pa_cons (pe_cl c_law_mixed hr (by omega) rfl (pa_cons (pv 2) (pa_cons (pe_ix at_seq (pv 0) pe_int (fun _ _ => rfl)) (pa_cons (pe_ix at_seq (pv 0) pe_int (fun _ _ => rfl)) pa_nil)))) pa_nil)) (pv 1))))) pss_nil)
      (pss_one (ps_asg (pv 2) (pg_sub (pv 0) pe_int put_list)))))) pss_nil)
      (pss_cons (ps_set (i := 3) sc_law_take.nd rfl (.inl rfl) (pe_op op_mod (pe_callTy call_intI (by rfl) B.int (by decide +kernel) (pa_cons (pe_ix at_seq (pv 0) pe_int (fun _ _ => rfl)) pa_nil)) (pv 1)))
      (pss_cons (ps_asg (pe_op op_fdivW (pe_ix at_seq (pv 0) pe_int (fun _ _ => rfl)) (pv 1)) (pg_sub (pv 0) pe_int put_list))
      (pss_one (ps_ret (pv 3))))))), ?_⟩
    rw [show L2.start N_law_take [.ref S.a, .int many] = [some (.ref S.a), some (.int many), none, none] from rfl]
    obtain ⟨i, x, y, z, h1, hi⟩ := st.ex
    have h2' : seqAt (H S.c) = some (S.cells.map V.int) := by rw [st.cel] <;> rfl
    simp only [tSeq, tNext, tDrop, tRet, tRetN, tIfS, tAsg, gName, tAug, ipI, tVar, tC, tOp, tUn, rI, rI0, rU, tCons, tNil, tCB, tTup, tLst, tTest, tB, tAnd, tOr, tNot, tAndV, tOrV, tNotV, tIf, tCl, tCd, tCk, gSub, rPutL, rAtQ, rIntI, rLenQ, rLenS, rListQ, rTupL, rTupQ, rIsQ_c, kd_non, kd_bl, kd_int, kd_str, kd_ref, kdO_lst, kdO_tup, kit_NoneType_bool, kit_NoneType_int, kit_NoneType_str, kit_NoneType_list, kit_NoneType_tuple, kit_bool_bool, kit_bool_int, kit_bool_str, kit_bool_list, kit_bool_tuple, kit_int_bool, kit_int_int, kit_int_str, kit_int_list, kit_int_tuple, kit_str_bool, kit_str_int, kit_str_str, kit_str_list, kit_str_tuple, kit_list_bool, kit_list_int, kit_list_str, kit_list_list, kit_list_tuple, kit_tuple_bool, kit_tuple_int, kit_tuple_str, kit_tuple_list, kit_tuple_tuple, V.ty.injEq, rSortQ, rSlQ, rMulS, tJn, rAtX, rSlS, tSl, tPart, tNoPart, cut_lo2, cut_hi2, rInQ, gLq, gTq, gC_c, gNil, tChain, List.cons_append, List.nil_append, tBL, tBL0, rApp, rPopN, rRevL, seqAt_lst, seqAt_tup, at_0, at_1, at_2, at_3, at_4, ix_0, ix_1, ix_2, ix_3, ix_4, cx_K, upd_same, List.length_cons, List.length_nil, Nat.reduceAdd,  rEq, rNe, tRevL, V.int.injEq, V.bl.injEq, V.str.injEq, V.ref.injEq, List.cons.injEq, and_true, true_and, exists_and_left, exists_and_right, exists_eq_left, exists_eq_left', exists_eq_right, exists_eq_right', exists_const, Option.some.injEq, List.getElem?_cons_zero, List.getElem?_cons_succ, List.set_cons_zero, List.set_cons_succ, decide_eq_true_eq, decide_true, decide_false,  scal_ii, scal_bb, scal_ss, cmul_r, cdiv_l, cpow_12, cpow_18, cpow_40, HO.lst.injEq, HO.tup.injEq, upd_upd, Int.reduceToNat,  decide_not, Bool.not_eq_true', decide_eq_false_iff_not, if_true, if_false, Bool.false_eq_true, Bool.true_eq_false, reduceCtorEq, Int.reduceNeg, Nat.reduceLT, Int.reduceLT, Int.reducePow, gt_iff_lt, h1, h2', List.length_map]
    have fin : ∀ (i' : Nat) (x' y' d : Int), i' ≤ S.cells.length → Digit many d → Q (.int d) (upd H S.a (.lst [.ref S.c, .int i', .int x', .int y', .int z])) := fun i' x' y' d h3 h4 =>
      q d _ ⟨(But.refl H).at (.inl rfl), ⟨⟨i', x', y', z, upd_same, h3⟩, by rw [upd_ne st.ne]; exact st.cel, st.ne, st.few⟩⟩ h4
    have dg : ∀ n : Int, 2 ≤ many → Digit many (n % many) := fun n h => ⟨Int.emod_nonneg _ (by omega), .inl (Int.emod_lt_of_pos _ (by omega))⟩
    split
    · exact q 0 H ⟨But.refl H, st⟩ ⟨by omega, .inr rfl⟩
    have e2 : 2 ≤ many := by omega
    split
    case isFalse => exact ⟨by omega, cdiv_ok (by omega) hm, fin i _ y _ hi (dg _ e2)⟩
    split
    · have e5 : i < S.cells.length := by omega
      refine ⟨_, atI_nat (v := .int S.cells[i]) (by rw [List.getElem?_map, List.getElem?_eq_getElem e5] <;> rfl), ?_⟩
      simp only [tSeq, tNext, tDrop, tRet, tRetN, tIfS, tAsg, gName, tAug, ipI, tVar, tC, tOp, tUn, rI, rI0, rU, tCons, tNil, tCB, tTup, tLst, tTest, tB, tAnd, tOr, tNot, tAndV, tOrV, tNotV, tIf, tCl, tCd, tCk, gSub, rPutL, rAtQ, rIntI, rLenQ, rLenS, rListQ, rTupL, rTupQ, rIsQ_c, kd_non, kd_bl, kd_int, kd_str, kd_ref, kdO_lst, kdO_tup, kit_NoneType_bool, kit_NoneType_int, kit_NoneType_str, kit_NoneType_list, kit_NoneType_tuple, kit_bool_bool, kit_bool_int, kit_bool_str, kit_bool_list, kit_bool_tuple, kit_int_bool, kit_int_int, kit_int_str, kit_int_list, kit_int_tuple, kit_str_bool, kit_str_int, kit_str_str, kit_str_list, kit_str_tuple, kit_list_bool, kit_list_int, kit_list_str, kit_list_list, kit_list_tuple, kit_tuple_bool, kit_tuple_int, kit_tuple_str, kit_tuple_list, kit_tuple_tuple, V.ty.injEq, rSortQ, rSlQ, rMulS, tJn, rAtX, rSlS, tSl, tPart, tNoPart, cut_lo2, cut_hi2, rInQ, gLq, gTq, gC_c, gNil, tChain, List.cons_append, List.nil_append, tBL, tBL0, rApp, rPopN, rRevL, seqAt_lst, seqAt_tup, at_0, at_1, at_2, at_3, at_4, ix_0, ix_1, ix_2, ix_3, ix_4, cx_K, upd_same, List.length_cons, List.length_nil, Nat.reduceAdd,  rEq, rNe, tRevL, V.int.injEq, V.bl.injEq, V.str.injEq, V.ref.injEq, List.cons.injEq, and_true, true_and, exists_and_left, exists_and_right, exists_eq_left, exists_eq_left', exists_eq_right, exists_eq_right', exists_const, Option.some.injEq, List.getElem?_cons_zero, List.getElem?_cons_succ, List.set_cons_zero, List.set_cons_succ, decide_eq_true_eq, decide_true, decide_false,  scal_ii, scal_bb, scal_ss, cmul_r, cdiv_l, cpow_12, cpow_18, cpow_40, HO.lst.injEq, HO.tup.injEq, upd_upd, Int.reduceToNat,  decide_not, Bool.not_eq_true', decide_eq_false_iff_not, if_true, if_false, Bool.false_eq_true, Bool.true_eq_false, reduceCtorEq, Int.reduceNeg, Nat.reduceLT, Int.reduceLT, Int.reducePow, gt_iff_lt]
      split
      · exact ⟨_, _, _, rfl, fun r => ⟨r, rfl, by omega, fin (i + 1) _ _ _ (by omega) (dg _ e2)⟩⟩
      · exact ⟨by omega, cdiv_ok (by omega) hm, fin (i + 1) _ _ _ (by omega) (dg _ e2)⟩
    · exact ⟨_, _, _, rfl, fun r => ⟨r, rfl, by omega, fin i _ _ _ hi (dg _ e2)⟩⟩
abbrev s_law_number : Stmt := topS 41
abbrev N_law_number : List Str := ["store", "low", "high", "kind"]
theorem sc_law_number : FnScope N_law_number ["store", "low", "high"] (defScope s_law_number) := ⟨rfl, rfl, rfl, by decide +kernel, rfl, by decide +kernel, by decide +kernel⟩
theorem b_law_number : BindO "_law_number" s_law_number ["store", "low", "high"] := fun _ _ _ _ _ _ us hl => match us, hl with | [_, _, _], _ => rfl

/-- a number from low on up to high, low where there is none -/
def Between (low high d : Int) : Prop := low ≤ d ∧ (d ≤ high ∨ d = low)
def sp_number : Sp := fun vs H Q _ => ∃ (S : Sto) (low high : Int), vs = [.ref S.a, .int low, .int high] ∧ Store S H ∧ high - low < 2 ^ 62 ∧ ∀ (d : Int) (H' : Hp), Drew S H H' → Between low high d → Q (.int d) H'
theorem ok_number (D : Dn K mg "_law_number" s_law_number) (c_law_take : Cl P w K mg base 2 "_law_take" sp_take) : Cl P w K mg base 3 "_law_number" sp_number := by
  refine cl_of D sc_law_number b_law_number (fun vs H Q E h => ?_) (fun f cdv A outer s H vs Q E hr h => ?_)
  · obtain ⟨S, l, h, rfl, _⟩ := h
    rfl
  · obtain ⟨S, low, high, rfl, st, hm, q⟩ := h
    refine ⟨_, (pss_cons (ps_set (i := 3) sc_law_number.nd rfl (.inl rfl) (pe_cl c_law_take hr (by omega) rfl (pa_cons (pv 0) (pa_cons pe_int pa_nil))))
      (pss_cons (ps_if (PW.pt (pw_or (pt_cmpR op_le (pv 2) (pv 1) (nomark _)) (pw_or1 (pt_cmpR op_eq (pv 3) pe_int (nomark _))))) (pss_one (ps_ret (pv 1))) pss_nil)
      (pss_cons (ps_if (pt_cmpR op_eq (pv 3) pe_int (nomark _)) (pss_one (ps_ret (pv 2))) pss_nil)
      (pss_one (ps_ret (pe_op op_add (pv 1) (pe_cl c_law_take hr (by omega) rfl (pa_cons (pv 0) (pa_cons (pe_op op_add (pe_op op_sub (pv 2) (pv 1)) pe_int) pa_nil))))))))), ?_⟩
    rw [show L2.start N_law_number [.ref S.a, .int low, .int high] = [some (.ref S.a), some (.int low), some (.int high), none] from rfl]
    simp only [tSeq, tNext, tDrop, tRet, tRetN, tIfS, tAsg, gName, tAug, ipI, tVar, tC, tOp, tUn, rI, rI0, rU, tCons, tNil, tCB, tTup, tLst, tTest, tB, tAnd, tOr, tNot, tAndV, tOrV, tNotV, tIf, tCl, tCd, tCk, gSub, rPutL, rAtQ, rIntI, rLenQ, rLenS, rListQ, rTupL, rTupQ, rIsQ_c, kd_non, kd_bl, kd_int, kd_str, kd_ref, kdO_lst, kdO_tup, kit_NoneType_bool, kit_NoneType_int, kit_NoneType_str, kit_NoneType_list, kit_NoneType_tuple, kit_bool_bool, kit_bool_int, kit_bool_str, kit_bool_list, kit_bool_tuple, kit_int_bool, kit_int_int, kit_int_str, kit_int_list, kit_int_tuple, kit_str_bool, kit_str_int, kit_str_str, kit_str_list, kit_str_tuple, kit_list_bool, kit_list_int, kit_list_str, kit_list_list, kit_list_tuple, kit_tuple_bool, kit_tuple_int, kit_tuple_str, kit_tuple_list, kit_tuple_tuple, V.ty.injEq, rSortQ, rSlQ, rMulS, tJn, rAtX, rSlS, tSl, tPart, tNoPart, cut_lo2, cut_hi2, rInQ, gLq, gTq, gC_c, gNil, tChain, List.cons_append, List.nil_append, tBL, tBL0, rApp, rPopN, rRevL, seqAt_lst, seqAt_tup, at_0, at_1, at_2, at_3, at_4, ix_0, ix_1, ix_2, ix_3, ix_4, cx_K, upd_same, List.length_cons, List.length_nil, Nat.reduceAdd,  rEq, rNe, tRevL, V.int.injEq, V.bl.injEq, V.str.injEq, V.ref.injEq, List.cons.injEq, and_true, true_and, exists_and_left, exists_and_right, exists_eq_left, exists_eq_left', exists_eq_right, exists_eq_right', exists_const, Option.some.injEq, List.getElem?_cons_zero, List.getElem?_cons_succ, List.set_cons_zero, List.set_cons_succ, decide_eq_true_eq, decide_true, decide_false,  scal_ii, scal_bb, scal_ss, cmul_r, cdiv_l, cpow_12, cpow_18, cpow_40, HO.lst.injEq, HO.tup.injEq, upd_upd, Int.reduceToNat,  decide_not, Bool.not_eq_true', decide_eq_false_iff_not, if_true, if_false, Bool.false_eq_true, Bool.true_eq_false, reduceCtorEq, Int.reduceNeg, Nat.reduceLT, Int.reduceLT, Int.reducePow, gt_iff_lt]
    refine ⟨_, _, rfl, st, by decide, fun d H1 r1 g1 => ?_⟩
    simp only [tSeq, tNext, tDrop, tRet, tRetN, tIfS, tAsg, gName, tAug, ipI, tVar, tC, tOp, tUn, rI, rI0, rU, tCons, tNil, tCB, tTup, tLst, tTest, tB, tAnd, tOr, tNot, tAndV, tOrV, tNotV, tIf, tCl, tCd, tCk, gSub, rPutL, rAtQ, rIntI, rLenQ, rLenS, rListQ, rTupL, rTupQ, rIsQ_c, kd_non, kd_bl, kd_int, kd_str, kd_ref, kdO_lst, kdO_tup, kit_NoneType_bool, kit_NoneType_int, kit_NoneType_str, kit_NoneType_list, kit_NoneType_tuple, kit_bool_bool, kit_bool_int, kit_bool_str, kit_bool_list, kit_bool_tuple, kit_int_bool, kit_int_int, kit_int_str, kit_int_list, kit_int_tuple, kit_str_bool, kit_str_int, kit_str_str, kit_str_list, kit_str_tuple, kit_list_bool, kit_list_int, kit_list_str, kit_list_list, kit_list_tuple, kit_tuple_bool, kit_tuple_int, kit_tuple_str, kit_tuple_list, kit_tuple_tuple, V.ty.injEq, rSortQ, rSlQ, rMulS, tJn, rAtX, rSlS, tSl, tPart, tNoPart, cut_lo2, cut_hi2, rInQ, gLq, gTq, gC_c, gNil, tChain, List.cons_append, List.nil_append, tBL, tBL0, rApp, rPopN, rRevL, seqAt_lst, seqAt_tup, at_0, at_1, at_2, at_3, at_4, ix_0, ix_1, ix_2, ix_3, ix_4, cx_K, upd_same, List.length_cons, List.length_nil, Nat.reduceAdd,  rEq, rNe, tRevL, V.int.injEq, V.bl.injEq, V.str.injEq, V.ref.injEq, List.cons.injEq, and_true, true_and, exists_and_left, exists_and_right, exists_eq_left, exists_eq_left', exists_eq_right, exists_eq_right', exists_const, Option.some.injEq, List.getElem?_cons_zero, List.getElem?_cons_succ, List.set_cons_zero, List.set_cons_succ, decide_eq_true_eq, decide_true, decide_false,  scal_ii, scal_bb, scal_ss, cmul_r, cdiv_l, cpow_12, cpow_18, cpow_40, HO.lst.injEq, HO.tup.injEq, upd_upd, Int.reduceToNat,  decide_not, Bool.not_eq_true', decide_eq_false_iff_not, if_true, if_false, Bool.false_eq_true, Bool.true_eq_false, reduceCtorEq, Int.reduceNeg, Nat.reduceLT, Int.reduceLT, Int.reducePow, gt_iff_lt]
    split
    · exact q _ _ r1 ⟨by omega, .inr rfl⟩
    split
    · exact q _ _ r1 ⟨by omega, .inr rfl⟩
    split
    · exact q _ _ r1 ⟨by omega, .inl (by omega)⟩
    · exact ⟨_, _, rfl, r1.st, by omega, fun d2 H2 r2 g2 => ⟨d2, rfl, q _ _ (r1.trans r2) ⟨by have := g2.1; omega, .inl (by have := g2.2; omega)⟩⟩⟩
abbrev s_law_whole : Stmt := topS 42
abbrev N_law_whole : List Str := ["store", "kind"]
theorem sc_law_whole : FnScope N_law_whole ["store"] (defScope s_law_whole) := ⟨rfl, rfl, rfl, by decide +kernel, rfl, by decide +kernel, by decide +kernel⟩
theorem b_law_whole : BindO "_law_whole" s_law_whole ["store"] := fun _ _ _ _ _ _ us hl => match us, hl with | [_], _ => rfl

def sp_any : Sp := fun vs H Q _ => ∃ S : Sto, vs = [.ref S.a] ∧ Store S H ∧ ∀ (d : Int) (H' : Hp), Drew S H H' → Q (.int d) H'
theorem ok_whole (D : Dn K mg "_law_whole" s_law_whole) (c_law_take : Cl P w K mg base 2 "_law_take" sp_take) : Cl P w K mg base 3 "_law_whole" sp_any := by
  refine cl_of D sc_law_whole b_law_whole (fun vs H Q E h => ?_) (fun f cdv A outer s H vs Q E hr h => ?_)
  · obtain ⟨S, rfl, _⟩ := h
    rfl
  · obtain ⟨S, rfl, st, q⟩ := h
    refine ⟨_, (pss_cons (ps_set (i := 1) sc_law_whole.nd rfl (.inl rfl) (pe_cl c_law_take hr (by omega) rfl (pa_cons (pv 0) (pa_cons pe_int pa_nil))))
      (pss_cons (ps_if (pt_cmpR op_lt (pv 1) pe_int (nomark _)) (pss_one (ps_ret (pe_op op_sub (pe_cl c_law_take hr (by omega) rfl (pa_cons (pv 0) (pa_cons pe_int pa_nil))) pe_int))) pss_nil)
      (pss_cons (ps_if (pt_cmpR op_eq (pv 1) pe_int (nomark _)) (pss_one (ps_ret (pe_op op_sub (pe_cl c_law_take hr (by omega) rfl (pa_cons (pv 0) (pa_cons pe_int pa_nil))) pe_int))) pss_nil)
      (pss_cons (ps_if (pt_cmpR op_eq (pv 1) pe_int (nomark _)) (pss_one (ps_ret (pe_cl c_law_take hr (by omega) rfl (pa_cons (pv 0) (pa_cons (pe_op op_pow pe_int pe_int) pa_nil))))) pss_nil)
      (pss_cons (ps_if (pt_cmpR op_eq (pv 1) pe_int (nomark _)) (pss_one (ps_ret (pe_op op_sub pe_int (pe_cl c_law_take hr (by omega) rfl (pa_cons (pv 0) (pa_cons (pe_op op_pow pe_int pe_int) pa_nil)))))) pss_nil)
      (pss_cons (ps_if (pt_cmpR op_eq (pv 1) pe_int (nomark _)) (pss_one (ps_ret (pe_op op_add (pe_op op_pow pe_int pe_int) (pe_cl c_law_take hr (by omega) rfl (pa_cons (pv 0) (pa_cons (pe_op op_pow pe_int pe_int) pa_nil)))))) pss_nil)
      (pss_one (ps_ret (pe_op op_sub (pe_op op_sub pe_int (pe_op op_pow pe_int pe_int)) (pe_cl c_law_take hr (by omega) rfl (pa_cons (pv 0) (pa_cons (pe_op op_pow pe_int pe_int) pa_nil)))))))))))), ?_⟩
    rw [show L2.start N_law_whole [.ref S.a] = [some (.ref S.a), none] from rfl]
    simp only [tSeq, tNext, tDrop, tRet, tRetN, tIfS, tAsg, gName, tAug, ipI, tVar, tC, tOp, tUn, rI, rI0, rU, tCons, tNil, tCB, tTup, tLst, tTest, tB, tAnd, tOr, tNot, tAndV, tOrV, tNotV, tIf, tCl, tCd, tCk, gSub, rPutL, rAtQ, rIntI, rLenQ, rLenS, rListQ, rTupL, rTupQ, rIsQ_c, kd_non, kd_bl, kd_int, kd_str, kd_ref, kdO_lst, kdO_tup, kit_NoneType_bool, kit_NoneType_int, kit_NoneType_str, kit_NoneType_list, kit_NoneType_tuple, kit_bool_bool, kit_bool_int, kit_bool_str, kit_bool_list, kit_bool_tuple, kit_int_bool, kit_int_int, kit_int_str, kit_int_list, kit_int_tuple, kit_str_bool, kit_str_int, kit_str_str, kit_str_list, kit_str_tuple, kit_list_bool, kit_list_int, kit_list_str, kit_list_list, kit_list_tuple, kit_tuple_bool, kit_tuple_int, kit_tuple_str, kit_tuple_list, kit_tuple_tuple, V.ty.injEq, rSortQ, rSlQ, rMulS, tJn, rAtX, rSlS, tSl, tPart, tNoPart, cut_lo2, cut_hi2, rInQ, gLq, gTq, gC_c, gNil, tChain, List.cons_append, List.nil_append, tBL, tBL0, rApp, rPopN, rRevL, seqAt_lst, seqAt_tup, at_0, at_1, at_2, at_3, at_4, ix_0, ix_1, ix_2, ix_3, ix_4, cx_K, upd_same, List.length_cons, List.length_nil, Nat.reduceAdd,  rEq, rNe, tRevL, V.int.injEq, V.bl.injEq, V.str.injEq, V.ref.injEq, List.cons.injEq, and_true, true_and, exists_and_left, exists_and_right, exists_eq_left, exists_eq_left', exists_eq_right, exists_eq_right', exists_const, Option.some.injEq, List.getElem?_cons_zero, List.getElem?_cons_succ, List.set_cons_zero, List.set_cons_succ, decide_eq_true_eq, decide_true, decide_false,  scal_ii, scal_bb, scal_ss, cmul_r, cdiv_l, cpow_12, cpow_18, cpow_40, HO.lst.injEq, HO.tup.injEq, upd_upd, Int.reduceToNat,  decide_not, Bool.not_eq_true', decide_eq_false_iff_not, if_true, if_false, Bool.false_eq_true, Bool.true_eq_false, reduceCtorEq, Int.reduceNeg, Nat.reduceLT, Int.reduceLT, Int.reducePow, gt_iff_lt]
    refine ⟨_, _, rfl, st, by decide, fun d H1 r1 g1 => ?_⟩
    simp only [tSeq, tNext, tDrop, tRet, tRetN, tIfS, tAsg, gName, tAug, ipI, tVar, tC, tOp, tUn, rI, rI0, rU, tCons, tNil, tCB, tTup, tLst, tTest, tB, tAnd, tOr, tNot, tAndV, tOrV, tNotV, tIf, tCl, tCd, tCk, gSub, rPutL, rAtQ, rIntI, rLenQ, rLenS, rListQ, rTupL, rTupQ, rIsQ_c, kd_non, kd_bl, kd_int, kd_str, kd_ref, kdO_lst, kdO_tup, kit_NoneType_bool, kit_NoneType_int, kit_NoneType_str, kit_NoneType_list, kit_NoneType_tuple, kit_bool_bool, kit_bool_int, kit_bool_str, kit_bool_list, kit_bool_tuple, kit_int_bool, kit_int_int, kit_int_str, kit_int_list, kit_int_tuple, kit_str_bool, kit_str_int, kit_str_str, kit_str_list, kit_str_tuple, kit_list_bool, kit_list_int, kit_list_str, kit_list_list, kit_list_tuple, kit_tuple_bool, kit_tuple_int, kit_tuple_str, kit_tuple_list, kit_tuple_tuple, V.ty.injEq, rSortQ, rSlQ, rMulS, tJn, rAtX, rSlS, tSl, tPart, tNoPart, cut_lo2, cut_hi2, rInQ, gLq, gTq, gC_c, gNil, tChain, List.cons_append, List.nil_append, tBL, tBL0, rApp, rPopN, rRevL, seqAt_lst, seqAt_tup, at_0, at_1, at_2, at_3, at_4, ix_0, ix_1, ix_2, ix_3, ix_4, cx_K, upd_same, List.length_cons, List.length_nil, Nat.reduceAdd,  rEq, rNe, tRevL, V.int.injEq, V.bl.injEq, V.str.injEq, V.ref.injEq, List.cons.injEq, and_true, true_and, exists_and_left, exists_and_right, exists_eq_left, exists_eq_left', exists_eq_right, exists_eq_right', exists_const, Option.some.injEq, List.getElem?_cons_zero, List.getElem?_cons_succ, List.set_cons_zero, List.set_cons_succ, decide_eq_true_eq, decide_true, decide_false,  scal_ii, scal_bb, scal_ss, cmul_r, cdiv_l, cpow_12, cpow_18, cpow_40, HO.lst.injEq, HO.tup.injEq, upd_upd, Int.reduceToNat,  decide_not, Bool.not_eq_true', decide_eq_false_iff_not, if_true, if_false, Bool.false_eq_true, Bool.true_eq_false, reduceCtorEq, Int.reduceNeg, Nat.reduceLT, Int.reduceLT, Int.reducePow, gt_iff_lt]
    repeat' split
    all_goals (refine ⟨_, _, rfl, r1.st, by decide, fun d2 H2 r2 g2 => ?_⟩; first | exact q _ _ (r1.trans r2) | exact ⟨_, rfl, q _ _ (r1.trans r2)⟩)
abbrev s_law_turns : Stmt := topS 43
abbrev N_law_turns : List Str := ["store", "kind"]
theorem sc_law_turns : FnScope N_law_turns ["store"] (defScope s_law_turns) := ⟨rfl, rfl, rfl, by decide +kernel, rfl, by decide +kernel, by decide +kernel⟩
theorem b_law_turns : BindO "_law_turns" s_law_turns ["store"] := fun _ _ _ _ _ _ us hl => match us, hl with | [_], _ => rfl

theorem ok_turns (D : Dn K mg "_law_turns" s_law_turns) (c_law_take : Cl P w K mg base 2 "_law_take" sp_take) : Cl P w K mg base 3 "_law_turns" sp_any := by
  refine cl_of D sc_law_turns b_law_turns (fun vs H Q E h => ?_) (fun f cdv A outer s H vs Q E hr h => ?_)
  · obtain ⟨S, rfl, _⟩ := h
    rfl
  · obtain ⟨S, rfl, st, q⟩ := h
    refine ⟨_, (pss_cons (ps_set (i := 1) sc_law_turns.nd rfl (.inl rfl) (pe_cl c_law_take hr (by omega) rfl (pa_cons (pv 0) (pa_cons pe_int pa_nil))))
      (pss_cons (ps_if (pt_cmpR op_eq (pv 1) pe_int (nomark _)) (pss_one (ps_ret (pe_op op_sub (pe_cl c_law_take hr (by omega) rfl (pa_cons (pv 0) (pa_cons pe_int pa_nil))) pe_int))) pss_nil)
      (pss_cons (ps_if (pt_cmpR op_eq (pv 1) pe_int (nomark _)) (pss_one (ps_ret (pe_op op_sub (pe_op op_mul pe_int (pe_cl c_law_take hr (by omega) rfl (pa_cons (pv 0) (pa_cons pe_int pa_nil)))) pe_int))) pss_nil)
      (pss_cons (ps_if (pt_cmpR op_eq (pv 1) pe_int (nomark _)) (pss_one (ps_ret (pe_op op_sub (pe_cl c_law_take hr (by omega) rfl (pa_cons (pv 0) (pa_cons pe_int pa_nil))) pe_int))) pss_nil)
      (pss_one (ps_ret (pe_op op_sub (pe_cl c_law_take hr (by omega) rfl (pa_cons (pv 0) (pa_cons pe_int pa_nil))) pe_int))))))), ?_⟩
    rw [show L2.start N_law_turns [.ref S.a] = [some (.ref S.a), none] from rfl]
    simp only [tSeq, tNext, tDrop, tRet, tRetN, tIfS, tAsg, gName, tAug, ipI, tVar, tC, tOp, tUn, rI, rI0, rU, tCons, tNil, tCB, tTup, tLst, tTest, tB, tAnd, tOr, tNot, tAndV, tOrV, tNotV, tIf, tCl, tCd, tCk, gSub, rPutL, rAtQ, rIntI, rLenQ, rLenS, rListQ, rTupL, rTupQ, rIsQ_c, kd_non, kd_bl, kd_int, kd_str, kd_ref, kdO_lst, kdO_tup, kit_NoneType_bool, kit_NoneType_int, kit_NoneType_str, kit_NoneType_list, kit_NoneType_tuple, kit_bool_bool, kit_bool_int, kit_bool_str, kit_bool_list, kit_bool_tuple, kit_int_bool, kit_int_int, kit_int_str, kit_int_list, kit_int_tuple, kit_str_bool, kit_str_int, kit_str_str, kit_str_list, kit_str_tuple, kit_list_bool, kit_list_int, kit_list_str, kit_list_list, kit_list_tuple, kit_tuple_bool, kit_tuple_int, kit_tuple_str, kit_tuple_list, kit_tuple_tuple, V.ty.injEq, rSortQ, rSlQ, rMulS, tJn, rAtX, rSlS, tSl, tPart, tNoPart, cut_lo2, cut_hi2, rInQ, gLq, gTq, gC_c, gNil, tChain, List.cons_append, List.nil_append, tBL, tBL0, rApp, rPopN, rRevL, seqAt_lst, seqAt_tup, at_0, at_1, at_2, at_3, at_4, ix_0, ix_1, ix_2, ix_3, ix_4, cx_K, upd_same, List.length_cons, List.length_nil, Nat.reduceAdd,  rEq, rNe, tRevL, V.int.injEq, V.bl.injEq, V.str.injEq, V.ref.injEq, List.cons.injEq, and_true, true_and, exists_and_left, exists_and_right, exists_eq_left, exists_eq_left', exists_eq_right, exists_eq_right', exists_const, Option.some.injEq, List.getElem?_cons_zero, List.getElem?_cons_succ, List.set_cons_zero, List.set_cons_succ, decide_eq_true_eq, decide_true, decide_false,  scal_ii, scal_bb, scal_ss, cmul_r, cdiv_l, cpow_12, cpow_18, cpow_40, HO.lst.injEq, HO.tup.injEq, upd_upd, Int.reduceToNat,  decide_not, Bool.not_eq_true', decide_eq_false_iff_not, if_true, if_false, Bool.false_eq_true, Bool.true_eq_false, reduceCtorEq, Int.reduceNeg, Nat.reduceLT, Int.reduceLT, Int.reducePow, gt_iff_lt]
    refine ⟨_, _, rfl, st, by decide, fun d H1 r1 g1 => ?_⟩
    simp only [tSeq, tNext, tDrop, tRet, tRetN, tIfS, tAsg, gName, tAug, ipI, tVar, tC, tOp, tUn, rI, rI0, rU, tCons, tNil, tCB, tTup, tLst, tTest, tB, tAnd, tOr, tNot, tAndV, tOrV, tNotV, tIf, tCl, tCd, tCk, gSub, rPutL, rAtQ, rIntI, rLenQ, rLenS, rListQ, rTupL, rTupQ, rIsQ_c, kd_non, kd_bl, kd_int, kd_str, kd_ref, kdO_lst, kdO_tup, kit_NoneType_bool, kit_NoneType_int, kit_NoneType_str, kit_NoneType_list, kit_NoneType_tuple, kit_bool_bool, kit_bool_int, kit_bool_str, kit_bool_list, kit_bool_tuple, kit_int_bool, kit_int_int, kit_int_str, kit_int_list, kit_int_tuple, kit_str_bool, kit_str_int, kit_str_str, kit_str_list, kit_str_tuple, kit_list_bool, kit_list_int, kit_list_str, kit_list_list, kit_list_tuple, kit_tuple_bool, kit_tuple_int, kit_tuple_str, kit_tuple_list, kit_tuple_tuple, V.ty.injEq, rSortQ, rSlQ, rMulS, tJn, rAtX, rSlS, tSl, tPart, tNoPart, cut_lo2, cut_hi2, rInQ, gLq, gTq, gC_c, gNil, tChain, List.cons_append, List.nil_append, tBL, tBL0, rApp, rPopN, rRevL, seqAt_lst, seqAt_tup, at_0, at_1, at_2, at_3, at_4, ix_0, ix_1, ix_2, ix_3, ix_4, cx_K, upd_same, List.length_cons, List.length_nil, Nat.reduceAdd,  rEq, rNe, tRevL, V.int.injEq, V.bl.injEq, V.str.injEq, V.ref.injEq, List.cons.injEq, and_true, true_and, exists_and_left, exists_and_right, exists_eq_left, exists_eq_left', exists_eq_right, exists_eq_right', exists_const, Option.some.injEq, List.getElem?_cons_zero, List.getElem?_cons_succ, List.set_cons_zero, List.set_cons_succ, decide_eq_true_eq, decide_true, decide_false,  scal_ii, scal_bb, scal_ss, cmul_r, cdiv_l, cpow_12, cpow_18, cpow_40, HO.lst.injEq, HO.tup.injEq, upd_upd, Int.reduceToNat,  decide_not, Bool.not_eq_true', decide_eq_false_iff_not, if_true, if_false, Bool.false_eq_true, Bool.true_eq_false, reduceCtorEq, Int.reduceNeg, Nat.reduceLT, Int.reduceLT, Int.reducePow, gt_iff_lt]
    repeat' split
    all_goals (refine ⟨_, _, rfl, r1.st, by decide, fun d2 H2 r2 g2 => ?_⟩; first | exact q _ _ (r1.trans r2) | (simp only [tSeq, tNext, tDrop, tRet, tRetN, tIfS, tAsg, gName, tAug, ipI, tVar, tC, tOp, tUn, rI, rI0, rU, tCons, tNil, tCB, tTup, tLst, tTest, tB, tAnd, tOr, tNot, tAndV, tOrV, tNotV, tIf, tCl, tCd, tCk, gSub, rPutL, rAtQ, rIntI, rLenQ, rLenS, rListQ, rTupL, rTupQ, rIsQ_c, kd_non, kd_bl, kd_int, kd_str, kd_ref, kdO_lst, kdO_tup, kit_NoneType_bool, kit_NoneType_int, kit_NoneType_str, kit_NoneType_list, kit_NoneType_tuple, kit_bool_bool, kit_bool_int, kit_bool_str, kit_bool_list, kit_bool_tuple, kit_int_bool, kit_int_int, kit_int_str, kit_int_list, kit_int_tuple, kit_str_bool, kit_str_int, kit_str_str, kit_str_list, kit_str_tuple, kit_list_bool, kit_list_int, kit_list_str, kit_list_list, kit_list_tuple, kit_tuple_bool, kit_tuple_int, kit_tuple_str, kit_tuple_list, kit_tuple_tuple, V.ty.injEq, rSortQ, rSlQ, rMulS, tJn, rAtX, rSlS, tSl, tPart, tNoPart, cut_lo2, cut_hi2, rInQ, gLq, gTq, gC_c, gNil, tChain, List.cons_append, List.nil_append, tBL, tBL0, rApp, rPopN, rRevL, seqAt_lst, seqAt_tup, at_0, at_1, at_2, at_3, at_4, ix_0, ix_1, ix_2, ix_3, ix_4, cx_K, upd_same, List.length_cons, List.length_nil, Nat.reduceAdd,  rEq, rNe, tRevL, V.int.injEq, V.bl.injEq, V.str.injEq, V.ref.injEq, List.cons.injEq, and_true, true_and, exists_and_left, exists_and_right, exists_eq_left, exists_eq_left', exists_eq_right, exists_eq_right', exists_const, Option.some.injEq, List.getElem?_cons_zero, List.getElem?_cons_succ, List.set_cons_zero, List.set_cons_succ, decide_eq_true_eq, decide_true, decide_false,  scal_ii, scal_bb, scal_ss, cmul_r, cdiv_l, cpow_12, cpow_18, cpow_40, HO.lst.injEq, HO.tup.injEq, upd_upd, Int.reduceToNat,  decide_not, Bool.not_eq_true', decide_eq_false_iff_not, if_true, if_false, Bool.false_eq_true, Bool.true_eq_false, reduceCtorEq, Int.reduceNeg, Nat.reduceLT, Int.reduceLT, Int.reducePow, gt_iff_lt]; exact q _ _ (r1.trans r2)) | (simp only [tSeq, tNext, tDrop, tRet, tRetN, tIfS, tAsg, gName, tAug, ipI, tVar, tC, tOp, tUn, rI, rI0, rU, tCons, tNil, tCB, tTup, tLst, tTest, tB, tAnd, tOr, tNot, tAndV, tOrV, tNotV, tIf, tCl, tCd, tCk, gSub, rPutL, rAtQ, rIntI, rLenQ, rLenS, rListQ, rTupL, rTupQ, rIsQ_c, kd_non, kd_bl, kd_int, kd_str, kd_ref, kdO_lst, kdO_tup, kit_NoneType_bool, kit_NoneType_int, kit_NoneType_str, kit_NoneType_list, kit_NoneType_tuple, kit_bool_bool, kit_bool_int, kit_bool_str, kit_bool_list, kit_bool_tuple, kit_int_bool, kit_int_int, kit_int_str, kit_int_list, kit_int_tuple, kit_str_bool, kit_str_int, kit_str_str, kit_str_list, kit_str_tuple, kit_list_bool, kit_list_int, kit_list_str, kit_list_list, kit_list_tuple, kit_tuple_bool, kit_tuple_int, kit_tuple_str, kit_tuple_list, kit_tuple_tuple, V.ty.injEq, rSortQ, rSlQ, rMulS, tJn, rAtX, rSlS, tSl, tPart, tNoPart, cut_lo2, cut_hi2, rInQ, gLq, gTq, gC_c, gNil, tChain, List.cons_append, List.nil_append, tBL, tBL0, rApp, rPopN, rRevL, seqAt_lst, seqAt_tup, at_0, at_1, at_2, at_3, at_4, ix_0, ix_1, ix_2, ix_3, ix_4, cx_K, upd_same, List.length_cons, List.length_nil, Nat.reduceAdd,  rEq, rNe, tRevL, V.int.injEq, V.bl.injEq, V.str.injEq, V.ref.injEq, List.cons.injEq, and_true, true_and, exists_and_left, exists_and_right, exists_eq_left, exists_eq_left', exists_eq_right, exists_eq_right', exists_const, Option.some.injEq, List.getElem?_cons_zero, List.getElem?_cons_succ, List.set_cons_zero, List.set_cons_succ, decide_eq_true_eq, decide_true, decide_false,  scal_ii, scal_bb, scal_ss, cmul_r, cdiv_l, cpow_12, cpow_18, cpow_40, HO.lst.injEq, HO.tup.injEq, upd_upd, Int.reduceToNat,  decide_not, Bool.not_eq_true', decide_eq_false_iff_not, if_true, if_false, Bool.false_eq_true, Bool.true_eq_false, reduceCtorEq, Int.reduceNeg, Nat.reduceLT, Int.reduceLT, Int.reducePow, gt_iff_lt]; exact ⟨.inl ⟨by decide, by decide⟩, q _ _ (r1.trans r2)⟩))
abbrev s_law_row : Stmt := topS 45
abbrev N_law_row : List Str := ["store", "some"]
theorem sc_law_row : FnScope N_law_row ["store", "some"] (defScope s_law_row) := ⟨rfl, rfl, rfl, by decide +kernel, rfl, by decide +kernel, by decide +kernel⟩
theorem b_law_row : BindO "_law_row" s_law_row ["store", "some"] := fun _ _ _ _ _ _ us hl => match us, hl with | [_, _], _ => rfl

/-- a new list, or a new tuple, of the items -/
def sp_row : Sp := fun vs H Q _ => ∃ (S : Sto) (b : Addr) (xs : List V), vs = [.ref S.a, .ref b] ∧ Store S H ∧ H b = some (.lst xs) ∧ b ≠ S.a ∧ ∀ (p : Addr) (H' : Hp), Drew S H H' → H p = none → seqAt (H' p) = some xs → Q (.ref p) H'
theorem ok_row (D : Dn K mg "_law_row" s_law_row) (B : Blt mg) (c_law_take : Cl P w K mg base 2 "_law_take" sp_take) : Cl P w K mg base 3 "_law_row" sp_row := by
  refine cl_of D sc_law_row b_law_row (fun vs H Q E h => ?_) (fun f cdv A outer s H vs Q E hr h => ?_)
  · obtain ⟨S, b, xs, rfl, _⟩ := h
    rfl
  · obtain ⟨S, b, xs, rfl, st, hb, hn, q⟩ := h
    refine ⟨_, (pss_cons (ps_if (pt_cmpR op_eq (pe_cl c_law_take hr (by omega) rfl (pa_cons (pv 0) (pa_cons pe_int pa_nil))) pe_int (nomark _)) (pss_one (ps_ret (pe_callTy call_listQ (by rfl) B.list (by decide +kernel) (pa_cons (pv 1) pa_nil)))) pss_nil)
      (pss_one (ps_ret (pe_callTy call_tupL (by rfl) B.tuple (by decide +kernel) (pa_cons (pv 1) pa_nil))))), ?_⟩
    rw [show L2.start N_law_row [.ref S.a, .ref b] = [some (.ref S.a), some (.ref b)] from rfl]
    simp only [tSeq, tNext, tDrop, tRet, tRetN, tIfS, tAsg, gName, tAug, ipI, tVar, tC, tOp, tUn, rI, rI0, rU, tCons, tNil, tCB, tTup, tLst, tTest, tB, tAnd, tOr, tNot, tAndV, tOrV, tNotV, tIf, tCl, tCd, tCk, gSub, rPutL, rAtQ, rIntI, rLenQ, rLenS, rListQ, rTupL, rTupQ, rIsQ_c, kd_non, kd_bl, kd_int, kd_str, kd_ref, kdO_lst, kdO_tup, kit_NoneType_bool, kit_NoneType_int, kit_NoneType_str, kit_NoneType_list, kit_NoneType_tuple, kit_bool_bool, kit_bool_int, kit_bool_str, kit_bool_list, kit_bool_tuple, kit_int_bool, kit_int_int, kit_int_str, kit_int_list, kit_int_tuple, kit_str_bool, kit_str_int, kit_str_str, kit_str_list, kit_str_tuple, kit_list_bool, kit_list_int, kit_list_str, kit_list_list, kit_list_tuple, kit_tuple_bool, kit_tuple_int, kit_tuple_str, kit_tuple_list, kit_tuple_tuple, V.ty.injEq, rSortQ, rSlQ, rMulS, tJn, rAtX, rSlS, tSl, tPart, tNoPart, cut_lo2, cut_hi2, rInQ, gLq, gTq, gC_c, gNil, tChain, List.cons_append, List.nil_append, tBL, tBL0, rApp, rPopN, rRevL, seqAt_lst, seqAt_tup, at_0, at_1, at_2, at_3, at_4, ix_0, ix_1, ix_2, ix_3, ix_4, cx_K, upd_same, List.length_cons, List.length_nil, Nat.reduceAdd,  rEq, rNe, tRevL, V.int.injEq, V.bl.injEq, V.str.injEq, V.ref.injEq, List.cons.injEq, and_true, true_and, exists_and_left, exists_and_right, exists_eq_left, exists_eq_left', exists_eq_right, exists_eq_right', exists_const, Option.some.injEq, List.getElem?_cons_zero, List.getElem?_cons_succ, List.set_cons_zero, List.set_cons_succ, decide_eq_true_eq, decide_true, decide_false,  scal_ii, scal_bb, scal_ss, cmul_r, cdiv_l, cpow_12, cpow_18, cpow_40, HO.lst.injEq, HO.tup.injEq, upd_upd, Int.reduceToNat,  decide_not, Bool.not_eq_true', decide_eq_false_iff_not, if_true, if_false, Bool.false_eq_true, Bool.true_eq_false, reduceCtorEq, Int.reduceNeg, Nat.reduceLT, Int.reduceLT, Int.reducePow, gt_iff_lt]
    refine ⟨_, _, rfl, st, by decide, fun d H1 r1 g1 => ?_⟩
    have hb1 := r1.but b _ hn hb
    simp only [tSeq, tNext, tDrop, tRet, tRetN, tIfS, tAsg, gName, tAug, ipI, tVar, tC, tOp, tUn, rI, rI0, rU, tCons, tNil, tCB, tTup, tLst, tTest, tB, tAnd, tOr, tNot, tAndV, tOrV, tNotV, tIf, tCl, tCd, tCk, gSub, rPutL, rAtQ, rIntI, rLenQ, rLenS, rListQ, rTupL, rTupQ, rIsQ_c, kd_non, kd_bl, kd_int, kd_str, kd_ref, kdO_lst, kdO_tup, kit_NoneType_bool, kit_NoneType_int, kit_NoneType_str, kit_NoneType_list, kit_NoneType_tuple, kit_bool_bool, kit_bool_int, kit_bool_str, kit_bool_list, kit_bool_tuple, kit_int_bool, kit_int_int, kit_int_str, kit_int_list, kit_int_tuple, kit_str_bool, kit_str_int, kit_str_str, kit_str_list, kit_str_tuple, kit_list_bool, kit_list_int, kit_list_str, kit_list_list, kit_list_tuple, kit_tuple_bool, kit_tuple_int, kit_tuple_str, kit_tuple_list, kit_tuple_tuple, V.ty.injEq, rSortQ, rSlQ, rMulS, tJn, rAtX, rSlS, tSl, tPart, tNoPart, cut_lo2, cut_hi2, rInQ, gLq, gTq, gC_c, gNil, tChain, List.cons_append, List.nil_append, tBL, tBL0, rApp, rPopN, rRevL, seqAt_lst, seqAt_tup, at_0, at_1, at_2, at_3, at_4, ix_0, ix_1, ix_2, ix_3, ix_4, cx_K, upd_same, List.length_cons, List.length_nil, Nat.reduceAdd,  rEq, rNe, tRevL, V.int.injEq, V.bl.injEq, V.str.injEq, V.ref.injEq, List.cons.injEq, and_true, true_and, exists_and_left, exists_and_right, exists_eq_left, exists_eq_left', exists_eq_right, exists_eq_right', exists_const, Option.some.injEq, List.getElem?_cons_zero, List.getElem?_cons_succ, List.set_cons_zero, List.set_cons_succ, decide_eq_true_eq, decide_true, decide_false,  scal_ii, scal_bb, scal_ss, cmul_r, cdiv_l, cpow_12, cpow_18, cpow_40, HO.lst.injEq, HO.tup.injEq, upd_upd, Int.reduceToNat,  decide_not, Bool.not_eq_true', decide_eq_false_iff_not, if_true, if_false, Bool.false_eq_true, Bool.true_eq_false, reduceCtorEq, Int.reduceNeg, Nat.reduceLT, Int.reduceLT, Int.reducePow, gt_iff_lt, hb1]
    split
    · exact fun l hl => q l _ (r1.new hl) (r1.back hl) (by rw [upd_same] <;> rfl)
    · exact fun l hl => q l _ (r1.new hl) (r1.back hl) (by rw [upd_same] <;> rfl)
end
end Z
set_option Elab.async false
set_option linter.all false
set_option maxRecDepth 100000
set_option maxHeartbeats 4000000
namespace Z
open PySem PySem.Spec PyProof.Rows L2
section
variable {P : Program} {w : World} {K : PySem.W.Frag} {mg : Str → Option Value} {base : Heap}
theorem at_in {α : Type} {xs : List α} {d : Int} (h0 : 0 ≤ d) (h1 : d < xs.length) : ∃ y, xs[d.toNat]? = some y ∧ d.toNat < xs.length := ⟨xs[d.toNat]'(by omega), List.getElem?_eq_getElem (by omega), by omega⟩
theorem perm_erase {α : Type} {y : α} : ∀ {L : List α} {k : Nat}, L[k]? = some y → (y :: L.eraseIdx k).Perm L
  | [], k, h => by simp at h
  | x :: L, 0, h => by
    obtain rfl : x = y := Option.some.inj h
    exact List.Perm.refl _
  | x :: L, k + 1, h => (List.Perm.swap x y _).trans ((perm_erase (L := L) (k := k) h).cons x)
theorem perm_move {α : Type} {xs M L : List α} {k : Nat} {y : α} (h : (M ++ L).Perm xs) (e : L[k]? = some y) : ((M ++ [y]) ++ L.eraseIdx k).Perm xs := by
  refine List.Perm.trans ?_ h
  rw [List.append_assoc]
  exact List.Perm.append_left M (perm_erase e)
abbrev s_law_shuffled : Stmt := topS 44
abbrev N_law_shuffled : List Str := ["store", "some", "kind", "left", "made", "k"]
theorem sc_law_shuffled : FnScope N_law_shuffled ["store", "some"] (defScope s_law_shuffled) := ⟨rfl, rfl, rfl, by decide +kernel, rfl, by decide +kernel, by decide +kernel⟩
theorem b_law_shuffled : BindO "_law_shuffled" s_law_shuffled ["store", "some"] := fun _ _ _ _ _ _ us hl => match us, hl with | [_, _], _ => rfl

/-- a new list of the items in some order -/
def sp_shuffled : Sp := fun vs H Q _ => ∃ (S : Sto) (b : Addr) (xs : List V), vs = [.ref S.a, .ref b] ∧ Store S H ∧ seqAt (H b) = some xs ∧ b ≠ S.a ∧ xs.length ≤ 1000 ∧
  ∀ (p : Addr) (ys : List V) (H' : Hp), Drew S H H' → H p = none → H' p = some (.lst ys) → ys.Perm xs → Q (.ref p) H'
theorem ok_shuffled (D : Dn K mg "_law_shuffled" s_law_shuffled) (B : Blt mg) (c_law_take : Cl P w K mg base 2 "_law_take" sp_take) : Cl P w K mg base 3 "_law_shuffled" sp_shuffled := by
  refine cl_of D sc_law_shuffled b_law_shuffled (fun vs H Q E h => ?_) (fun f cdv A outer s H vs Q E hr h => ?_)
  · obtain ⟨S, b, xs, rfl, _⟩ := h
    rfl
  · obtain ⟨S, b, xs, rfl, st, hb, hn, hz, q⟩ := h
    refine ⟨_, (pss_cons (ps_set (i := 2) sc_law_shuffled.nd rfl (.inl rfl) (pe_cl c_law_take hr (by omega) rfl (pa_cons (pv 0) (pa_cons pe_int pa_nil))))
      (pss_cons (ps_if (pt_cmpR op_eq (pv 2) pe_int (nomark _)) (pss_one (ps_ret (pe_callTy call_listQ (by rfl) B.list (by decide +kernel) (pa_cons (pv 1) pa_nil)))) pss_nil)
      (pss_cons (ps_if (pt_cmpR op_eq (pv 2) pe_int (nomark _)) (pss_one (ps_ret (pe_revL (pe_callTy call_listQ (by rfl) B.list (by decide +kernel) (pa_cons (pv 1) pa_nil))))) pss_nil)
      (pss_cons (ps_set (i := 3) sc_law_shuffled.nd rfl (.inl rfl) (pe_callTy call_listQ (by rfl) B.list (by decide +kernel) (pa_cons (pv 1) pa_nil)))
      (pss_cons (ps_set (i := 4) sc_law_shuffled.nd rfl (.inl rfl) (pe_lst pa_nil))
      (pss_cons (ps_for PassesOwn.never rfl (pi_range1 (by rfl) B.range (pa_cons (pe_callB call_lenQ (by rfl) B.len PySem.boot_len (pa_cons (pv 1) pa_nil)) pa_nil)) (pg_name (i := 5) sc_law_shuffled.nd rfl (.inl rfl)) (pss_one (ps_expr (pe_ml PySem.F.slot_list_append PySem.F.type_list_append mt_app (pv 4) (pa_cons (pe_ml PySem.F.slot_list_pop PySem.F.type_list_pop mt_popN (pv 3) (pa_cons (pe_cl c_law_take hr (by omega) rfl (pa_cons (pv 0) (pa_cons (pe_callB call_lenQ (by rfl) B.len PySem.boot_len (pa_cons (pv 3) pa_nil)) pa_nil))) pa_nil)) pa_nil)))))
      (pss_one (ps_ret (pv 4))))))))), ?_⟩
    rw [show L2.start N_law_shuffled [.ref S.a, .ref b] = [some (.ref S.a), some (.ref b), none, none, none, none] from rfl]
    simp only [tSeq, tNext, tDrop, tRet, tRetN, tIfS, tAsg, gName, tAug, ipI, tVar, tC, tOp, tUn, rI, rI0, rU, tCons, tNil, tCB, tTup, tLst, tTest, tB, tAnd, tOr, tNot, tAndV, tOrV, tNotV, tIf, tCl, tCd, tCk, gSub, rPutL, rAtQ, rIntI, rLenQ, rLenS, rListQ, rTupL, rTupQ, rIsQ_c, kd_non, kd_bl, kd_int, kd_str, kd_ref, kdO_lst, kdO_tup, kit_NoneType_bool, kit_NoneType_int, kit_NoneType_str, kit_NoneType_list, kit_NoneType_tuple, kit_bool_bool, kit_bool_int, kit_bool_str, kit_bool_list, kit_bool_tuple, kit_int_bool, kit_int_int, kit_int_str, kit_int_list, kit_int_tuple, kit_str_bool, kit_str_int, kit_str_str, kit_str_list, kit_str_tuple, kit_list_bool, kit_list_int, kit_list_str, kit_list_list, kit_list_tuple, kit_tuple_bool, kit_tuple_int, kit_tuple_str, kit_tuple_list, kit_tuple_tuple, V.ty.injEq, rSortQ, rSlQ, rMulS, tJn, rAtX, rSlS, tSl, tPart, tNoPart, cut_lo2, cut_hi2, rInQ, gLq, gTq, gC_c, gNil, tChain, List.cons_append, List.nil_append, tBL, tBL0, rApp, rPopN, rRevL, seqAt_lst, seqAt_tup, at_0, at_1, at_2, at_3, at_4, ix_0, ix_1, ix_2, ix_3, ix_4, cx_K, upd_same, List.length_cons, List.length_nil, Nat.reduceAdd,  rEq, rNe, tRevL, V.int.injEq, V.bl.injEq, V.str.injEq, V.ref.injEq, List.cons.injEq, and_true, true_and, exists_and_left, exists_and_right, exists_eq_left, exists_eq_left', exists_eq_right, exists_eq_right', exists_const, Option.some.injEq, List.getElem?_cons_zero, List.getElem?_cons_succ, List.set_cons_zero, List.set_cons_succ, decide_eq_true_eq, decide_true, decide_false,  scal_ii, scal_bb, scal_ss, cmul_r, cdiv_l, cpow_12, cpow_18, cpow_40, HO.lst.injEq, HO.tup.injEq, upd_upd, Int.reduceToNat,  decide_not, Bool.not_eq_true', decide_eq_false_iff_not, if_true, if_false, Bool.false_eq_true, Bool.true_eq_false, reduceCtorEq, Int.reduceNeg, Nat.reduceLT, Int.reduceLT, Int.reducePow, gt_iff_lt]
    refine ⟨_, _, rfl, st, by decide, fun d H1 r1 g1 => ?_⟩
    have hb1 := r1.but.seqAt hn hb
    simp only [tSeq, tNext, tDrop, tRet, tRetN, tIfS, tAsg, gName, tAug, ipI, tVar, tC, tOp, tUn, rI, rI0, rU, tCons, tNil, tCB, tTup, tLst, tTest, tB, tAnd, tOr, tNot, tAndV, tOrV, tNotV, tIf, tCl, tCd, tCk, gSub, rPutL, rAtQ, rIntI, rLenQ, rLenS, rListQ, rTupL, rTupQ, rIsQ_c, kd_non, kd_bl, kd_int, kd_str, kd_ref, kdO_lst, kdO_tup, kit_NoneType_bool, kit_NoneType_int, kit_NoneType_str, kit_NoneType_list, kit_NoneType_tuple, kit_bool_bool, kit_bool_int, kit_bool_str, kit_bool_list, kit_bool_tuple, kit_int_bool, kit_int_int, kit_int_str, kit_int_list, kit_int_tuple, kit_str_bool, kit_str_int, kit_str_str, kit_str_list, kit_str_tuple, kit_list_bool, kit_list_int, kit_list_str, kit_list_list, kit_list_tuple, kit_tuple_bool, kit_tuple_int, kit_tuple_str, kit_tuple_list, kit_tuple_tuple, V.ty.injEq, rSortQ, rSlQ, rMulS, tJn, rAtX, rSlS, tSl, tPart, tNoPart, cut_lo2, cut_hi2, rInQ, gLq, gTq, gC_c, gNil, tChain, List.cons_append, List.nil_append, tBL, tBL0, rApp, rPopN, rRevL, seqAt_lst, seqAt_tup, at_0, at_1, at_2, at_3, at_4, ix_0, ix_1, ix_2, ix_3, ix_4, cx_K, upd_same, List.length_cons, List.length_nil, Nat.reduceAdd,  rEq, rNe, tRevL, V.int.injEq, V.bl.injEq, V.str.injEq, V.ref.injEq, List.cons.injEq, and_true, true_and, exists_and_left, exists_and_right, exists_eq_left, exists_eq_left', exists_eq_right, exists_eq_right', exists_const, Option.some.injEq, List.getElem?_cons_zero, List.getElem?_cons_succ, List.set_cons_zero, List.set_cons_succ, decide_eq_true_eq, decide_true, decide_false,  scal_ii, scal_bb, scal_ss, cmul_r, cdiv_l, cpow_12, cpow_18, cpow_40, HO.lst.injEq, HO.tup.injEq, upd_upd, Int.reduceToNat,  decide_not, Bool.not_eq_true', decide_eq_false_iff_not, if_true, if_false, Bool.false_eq_true, Bool.true_eq_false, reduceCtorEq, Int.reduceNeg, Nat.reduceLT, Int.reduceLT, Int.reducePow, gt_iff_lt, hb1]
    split
    · exact fun l hl => q l _ _ (r1.new hl) (r1.back hl) upd_same (List.Perm.refl _)
    split
    · intro l hl
      refine ⟨xs, SqL.of upd_same, fun p hp => ?_⟩
      exact q p _ _ ((r1.new hl).new hp) ((r1.new hl).back hp) upd_same (List.reverse_perm _)
    · intro l hl
      refine ⟨sz_of (by decide), fun m hm => ?_⟩
      have r2 := r1.new (o := .lst xs) hl
      have hl0 := r1.back hl
      have hm0 := r2.back hm
      have lm : l ≠ m := ne_of_none upd_same hm
      have la : l ≠ S.a := st.neA hl0
      have ma : m ≠ S.a := st.neA hm0
      obtain ⟨Pv, hP⟩ : ∃ Pv : Nat → L2.St → Hp → Prop, Pv = fun i σ' H' => ∃ (L M : List V) (k : Option V), σ' = [some (.ref S.a), some (.ref b), some (.int d), some (.ref l), some (.ref m), k] ∧ Drew S H H' ∧
        H' l = some (.lst L) ∧ H' m = some (.lst M) ∧ (M ++ L).Perm xs ∧ M.length = i := ⟨_, rfl⟩
      refine z_forR xs.length (fun Q q => ?_) (by omega) Pv ?h0 (fun i σ' H' hi hI => ?hs) (fun σ' H' hI => ?hd)
      · have hb2 := same_seq (same_new (o := .lst []) hm) (same_seq (same_new (o := .lst xs) hl) hb1)
        simp only [tSeq, tNext, tDrop, tRet, tRetN, tIfS, tAsg, gName, tAug, ipI, tVar, tC, tOp, tUn, rI, rI0, rU, tCons, tNil, tCB, tTup, tLst, tTest, tB, tAnd, tOr, tNot, tAndV, tOrV, tNotV, tIf, tCl, tCd, tCk, gSub, rPutL, rAtQ, rIntI, rLenQ, rLenS, rListQ, rTupL, rTupQ, rIsQ_c, kd_non, kd_bl, kd_int, kd_str, kd_ref, kdO_lst, kdO_tup, kit_NoneType_bool, kit_NoneType_int, kit_NoneType_str, kit_NoneType_list, kit_NoneType_tuple, kit_bool_bool, kit_bool_int, kit_bool_str, kit_bool_list, kit_bool_tuple, kit_int_bool, kit_int_int, kit_int_str, kit_int_list, kit_int_tuple, kit_str_bool, kit_str_int, kit_str_str, kit_str_list, kit_str_tuple, kit_list_bool, kit_list_int, kit_list_str, kit_list_list, kit_list_tuple, kit_tuple_bool, kit_tuple_int, kit_tuple_str, kit_tuple_list, kit_tuple_tuple, V.ty.injEq, rSortQ, rSlQ, rMulS, tJn, rAtX, rSlS, tSl, tPart, tNoPart, cut_lo2, cut_hi2, rInQ, gLq, gTq, gC_c, gNil, tChain, List.cons_append, List.nil_append, tBL, tBL0, rApp, rPopN, rRevL, seqAt_lst, seqAt_tup, at_0, at_1, at_2, at_3, at_4, ix_0, ix_1, ix_2, ix_3, ix_4, cx_K, upd_same, List.length_cons, List.length_nil, Nat.reduceAdd,  rEq, rNe, tRevL, V.int.injEq, V.bl.injEq, V.str.injEq, V.ref.injEq, List.cons.injEq, and_true, true_and, exists_and_left, exists_and_right, exists_eq_left, exists_eq_left', exists_eq_right, exists_eq_right', exists_const, Option.some.injEq, List.getElem?_cons_zero, List.getElem?_cons_succ, List.set_cons_zero, List.set_cons_succ, decide_eq_true_eq, decide_true, decide_false,  scal_ii, scal_bb, scal_ss, cmul_r, cdiv_l, cpow_12, cpow_18, cpow_40, HO.lst.injEq, HO.tup.injEq, upd_upd, Int.reduceToNat,  decide_not, Bool.not_eq_true', decide_eq_false_iff_not, if_true, if_false, Bool.false_eq_true, Bool.true_eq_false, reduceCtorEq, Int.reduceNeg, Nat.reduceLT, Int.reduceLT, Int.reducePow, gt_iff_lt, hb2]
        exact q
      case h0 =>
        rw [hP]
        exact ⟨xs, [], none, rfl, r2.new hm, by rw [upd_ne lm, upd_same], upd_same, List.Perm.refl _, rfl⟩
      case hs =>
        rw [hP] at hI
        obtain ⟨L, M, k, rfl, r2, hL, hM, hp, hi2⟩ := hI
        have hlen : M.length + L.length = xs.length := by
          rw [← hp.length_eq, List.length_append]
        have hL' : seqAt (H' l) = some L := by rw [hL] <;> rfl
        simp only [tSeq, tNext, tDrop, tRet, tRetN, tIfS, tAsg, gName, tAug, ipI, tVar, tC, tOp, tUn, rI, rI0, rU, tCons, tNil, tCB, tTup, tLst, tTest, tB, tAnd, tOr, tNot, tAndV, tOrV, tNotV, tIf, tCl, tCd, tCk, gSub, rPutL, rAtQ, rIntI, rLenQ, rLenS, rListQ, rTupL, rTupQ, rIsQ_c, kd_non, kd_bl, kd_int, kd_str, kd_ref, kdO_lst, kdO_tup, kit_NoneType_bool, kit_NoneType_int, kit_NoneType_str, kit_NoneType_list, kit_NoneType_tuple, kit_bool_bool, kit_bool_int, kit_bool_str, kit_bool_list, kit_bool_tuple, kit_int_bool, kit_int_int, kit_int_str, kit_int_list, kit_int_tuple, kit_str_bool, kit_str_int, kit_str_str, kit_str_list, kit_str_tuple, kit_list_bool, kit_list_int, kit_list_str, kit_list_list, kit_list_tuple, kit_tuple_bool, kit_tuple_int, kit_tuple_str, kit_tuple_list, kit_tuple_tuple, V.ty.injEq, rSortQ, rSlQ, rMulS, tJn, rAtX, rSlS, tSl, tPart, tNoPart, cut_lo2, cut_hi2, rInQ, gLq, gTq, gC_c, gNil, tChain, List.cons_append, List.nil_append, tBL, tBL0, rApp, rPopN, rRevL, seqAt_lst, seqAt_tup, at_0, at_1, at_2, at_3, at_4, ix_0, ix_1, ix_2, ix_3, ix_4, cx_K, upd_same, List.length_cons, List.length_nil, Nat.reduceAdd,  rEq, rNe, tRevL, V.int.injEq, V.bl.injEq, V.str.injEq, V.ref.injEq, List.cons.injEq, and_true, true_and, exists_and_left, exists_and_right, exists_eq_left, exists_eq_left', exists_eq_right, exists_eq_right', exists_const, Option.some.injEq, List.getElem?_cons_zero, List.getElem?_cons_succ, List.set_cons_zero, List.set_cons_succ, decide_eq_true_eq, decide_true, decide_false,  scal_ii, scal_bb, scal_ss, cmul_r, cdiv_l, cpow_12, cpow_18, cpow_40, HO.lst.injEq, HO.tup.injEq, upd_upd, Int.reduceToNat,  decide_not, Bool.not_eq_true', decide_eq_false_iff_not, if_true, if_false, Bool.false_eq_true, Bool.true_eq_false, reduceCtorEq, Int.reduceNeg, Nat.reduceLT, Int.reduceLT, Int.reducePow, gt_iff_lt, hL, hM, hL']
        refine ⟨⟨_, rfl⟩, ⟨_, rfl⟩, _, _, rfl, r2.st, by omega, fun d2 H3 r3 g3 => ?_⟩
        have hL3 := r3.but l _ la hL
        have hM3 := r3.but m _ ma hM
        obtain ⟨y, hy, hk⟩ := at_in (xs := L) g3.1 (by have := g3.2; omega)
        simp only [tSeq, tNext, tDrop, tRet, tRetN, tIfS, tAsg, gName, tAug, ipI, tVar, tC, tOp, tUn, rI, rI0, rU, tCons, tNil, tCB, tTup, tLst, tTest, tB, tAnd, tOr, tNot, tAndV, tOrV, tNotV, tIf, tCl, tCd, tCk, gSub, rPutL, rAtQ, rIntI, rLenQ, rLenS, rListQ, rTupL, rTupQ, rIsQ_c, kd_non, kd_bl, kd_int, kd_str, kd_ref, kdO_lst, kdO_tup, kit_NoneType_bool, kit_NoneType_int, kit_NoneType_str, kit_NoneType_list, kit_NoneType_tuple, kit_bool_bool, kit_bool_int, kit_bool_str, kit_bool_list, kit_bool_tuple, kit_int_bool, kit_int_int, kit_int_str, kit_int_list, kit_int_tuple, kit_str_bool, kit_str_int, kit_str_str, kit_str_list, kit_str_tuple, kit_list_bool, kit_list_int, kit_list_str, kit_list_list, kit_list_tuple, kit_tuple_bool, kit_tuple_int, kit_tuple_str, kit_tuple_list, kit_tuple_tuple, V.ty.injEq, rSortQ, rSlQ, rMulS, tJn, rAtX, rSlS, tSl, tPart, tNoPart, cut_lo2, cut_hi2, rInQ, gLq, gTq, gC_c, gNil, tChain, List.cons_append, List.nil_append, tBL, tBL0, rApp, rPopN, rRevL, seqAt_lst, seqAt_tup, at_0, at_1, at_2, at_3, at_4, ix_0, ix_1, ix_2, ix_3, ix_4, cx_K, upd_same, List.length_cons, List.length_nil, Nat.reduceAdd,  rEq, rNe, tRevL, V.int.injEq, V.bl.injEq, V.str.injEq, V.ref.injEq, List.cons.injEq, and_true, true_and, exists_and_left, exists_and_right, exists_eq_left, exists_eq_left', exists_eq_right, exists_eq_right', exists_const, Option.some.injEq, List.getElem?_cons_zero, List.getElem?_cons_succ, List.set_cons_zero, List.set_cons_succ, decide_eq_true_eq, decide_true, decide_false,  scal_ii, scal_bb, scal_ss, cmul_r, cdiv_l, cpow_12, cpow_18, cpow_40, HO.lst.injEq, HO.tup.injEq, upd_upd, Int.reduceToNat,  decide_not, Bool.not_eq_true', decide_eq_false_iff_not, if_true, if_false, Bool.false_eq_true, Bool.true_eq_false, reduceCtorEq, Int.reduceNeg, Nat.reduceLT, Int.reduceLT, Int.reducePow, gt_iff_lt, hL3, hM3, hy, upd_ne lm.symm]
        refine ⟨g3.1, by have := g3.2; omega, sz_lt (by omega), ?_⟩
        rw [hP]
        exact ⟨L.eraseIdx d2.toNat, M ++ [y], _, rfl, ((r2.trans r3).at st hl0).at st hm0, by rw [upd_ne lm, upd_same], upd_same, perm_move hp hy, by rw [List.length_append, hi2] <;> rfl⟩
      case hd =>
        rw [hP] at hI
        obtain ⟨L, M, k, rfl, r2, hL, hM, hp, hi2⟩ := hI
        have hlen : M.length + L.length = xs.length := by
          rw [← hp.length_eq, List.length_append]
        have e : L = [] := List.eq_nil_of_length_eq_zero (by omega)
        subst e
        simp only [tSeq, tNext, tDrop, tRet, tRetN, tIfS, tAsg, gName, tAug, ipI, tVar, tC, tOp, tUn, rI, rI0, rU, tCons, tNil, tCB, tTup, tLst, tTest, tB, tAnd, tOr, tNot, tAndV, tOrV, tNotV, tIf, tCl, tCd, tCk, gSub, rPutL, rAtQ, rIntI, rLenQ, rLenS, rListQ, rTupL, rTupQ, rIsQ_c, kd_non, kd_bl, kd_int, kd_str, kd_ref, kdO_lst, kdO_tup, kit_NoneType_bool, kit_NoneType_int, kit_NoneType_str, kit_NoneType_list, kit_NoneType_tuple, kit_bool_bool, kit_bool_int, kit_bool_str, kit_bool_list, kit_bool_tuple, kit_int_bool, kit_int_int, kit_int_str, kit_int_list, kit_int_tuple, kit_str_bool, kit_str_int, kit_str_str, kit_str_list, kit_str_tuple, kit_list_bool, kit_list_int, kit_list_str, kit_list_list, kit_list_tuple, kit_tuple_bool, kit_tuple_int, kit_tuple_str, kit_tuple_list, kit_tuple_tuple, V.ty.injEq, rSortQ, rSlQ, rMulS, tJn, rAtX, rSlS, tSl, tPart, tNoPart, cut_lo2, cut_hi2, rInQ, gLq, gTq, gC_c, gNil, tChain, List.cons_append, List.nil_append, tBL, tBL0, rApp, rPopN, rRevL, seqAt_lst, seqAt_tup, at_0, at_1, at_2, at_3, at_4, ix_0, ix_1, ix_2, ix_3, ix_4, cx_K, upd_same, List.length_cons, List.length_nil, Nat.reduceAdd,  rEq, rNe, tRevL, V.int.injEq, V.bl.injEq, V.str.injEq, V.ref.injEq, List.cons.injEq, and_true, true_and, exists_and_left, exists_and_right, exists_eq_left, exists_eq_left', exists_eq_right, exists_eq_right', exists_const, Option.some.injEq, List.getElem?_cons_zero, List.getElem?_cons_succ, List.set_cons_zero, List.set_cons_succ, decide_eq_true_eq, decide_true, decide_false,  scal_ii, scal_bb, scal_ss, cmul_r, cdiv_l, cpow_12, cpow_18, cpow_40, HO.lst.injEq, HO.tup.injEq, upd_upd, Int.reduceToNat,  decide_not, Bool.not_eq_true', decide_eq_false_iff_not, if_true, if_false, Bool.false_eq_true, Bool.true_eq_false, reduceCtorEq, Int.reduceNeg, Nat.reduceLT, Int.reduceLT, Int.reducePow, gt_iff_lt]
        rw [List.append_nil] at hp
        exact q m M H' r2 hm0 hM hp
end
end Z
set_option Elab.async false
set_option linter.all false
set_option maxRecDepth 100000
set_option maxHeartbeats 4000000
namespace Z
open PySem PySem.Spec PyProof.Rows L2
section
variable {P : Program} {w : World} {K : PySem.W.Frag} {mg : Str → Option Value} {base : Heap}
abbrev s_step : Stmt := topS 33
abbrev N_step : List Str := ["size", "at", "by"]
theorem sc_step : FnScope N_step ["size", "at", "by"] (defScope s_step) := ⟨rfl, rfl, rfl, by decide +kernel, rfl, by decide +kernel, by decide +kernel⟩

def sp_step : Sp := fun vs H Q _ => ∃ n at' by' : Int, vs = [.int n, .int at', .int by'] ∧ 0 < n ∧ Q (.int ((at' + by') % n)) H
theorem fk_step (D : Dk K mg "step" s_step [("by", .int 1)]) : Fk P w K mg base 1 "step" s_step [("by", .int 1)] ["size", "at", "by"] sp_step := by
  refine fk_of D sc_step (fun vs H Q E h => ?_) (fun f cdv A outer s H vs Q E hr h => ?_)
  · obtain ⟨n, i, j, rfl, _⟩ := h
    rfl
  · obtain ⟨n, i, j, rfl, hn, q⟩ := h
    refine ⟨_, (pss_one (ps_ret (pe_op op_mod (pe_op op_add (pv 1) (pv 2)) (pv 0)))), ?_⟩
    rw [show L2.start N_step [.int n, .int i, .int j] = [some (.int n), some (.int i), some (.int j)] from rfl]
    simp only [tSeq, tNext, tDrop, tRet, tRetN, tIfS, tAsg, gName, tAug, ipI, tVar, tC, tOp, tUn, rI, rI0, rU, tCons, tNil, tCB, tTup, tLst, tTest, tB, tAnd, tOr, tNot, tAndV, tOrV, tNotV, tIf, tCl, tCd, tCk, gSub, rPutL, rAtQ, rIntI, rLenQ, rLenS, rListQ, rTupL, rTupQ, rIsQ_c, kd_non, kd_bl, kd_int, kd_str, kd_ref, kdO_lst, kdO_tup, kit_NoneType_bool, kit_NoneType_int, kit_NoneType_str, kit_NoneType_list, kit_NoneType_tuple, kit_bool_bool, kit_bool_int, kit_bool_str, kit_bool_list, kit_bool_tuple, kit_int_bool, kit_int_int, kit_int_str, kit_int_list, kit_int_tuple, kit_str_bool, kit_str_int, kit_str_str, kit_str_list, kit_str_tuple, kit_list_bool, kit_list_int, kit_list_str, kit_list_list, kit_list_tuple, kit_tuple_bool, kit_tuple_int, kit_tuple_str, kit_tuple_list, kit_tuple_tuple, V.ty.injEq, rSortQ, rSlQ, rMulS, tJn, rAtX, rSlS, tSl, tPart, tNoPart, cut_lo2, cut_hi2, rInQ, gLq, gTq, gC_c, gNil, tChain, List.cons_append, List.nil_append, tBL, tBL0, rApp, rPopN, rRevL, seqAt_lst, seqAt_tup, at_0, at_1, at_2, at_3, at_4, ix_0, ix_1, ix_2, ix_3, ix_4, cx_K, upd_same, List.length_cons, List.length_nil, Nat.reduceAdd,  rEq, rNe, tRevL, V.int.injEq, V.bl.injEq, V.str.injEq, V.ref.injEq, List.cons.injEq, and_true, true_and, exists_and_left, exists_and_right, exists_eq_left, exists_eq_left', exists_eq_right, exists_eq_right', exists_const, Option.some.injEq, List.getElem?_cons_zero, List.getElem?_cons_succ, List.set_cons_zero, List.set_cons_succ, decide_eq_true_eq, decide_true, decide_false,  scal_ii, scal_bb, scal_ss, cmul_r, cdiv_l, cpow_12, cpow_18, cpow_40, HO.lst.injEq, HO.tup.injEq, upd_upd, Int.reduceToNat,  decide_not, Bool.not_eq_true', decide_eq_false_iff_not, if_true, if_false, Bool.false_eq_true, Bool.true_eq_false, reduceCtorEq, Int.reduceNeg, Nat.reduceLT, Int.reduceLT, Int.reducePow, gt_iff_lt]
    exact ⟨hn, q⟩
theorem cd_of_step (F : Fk P w K mg base 1 "step" s_step [("by", .int 1)] ["size", "at", "by"] sp_step) : Cd P w K mg base 1 "step" [.int 1] sp_step :=
  F.cd 2 (by decide) rfl fun D doc pm an cdv ct us ks h1 h2 => match us, h1, ks, h2 with
    | [_, _], _, [_], _ => ⟨_, _, _, _, _, _, rfl, rfl, rfl⟩
theorem ck_of_step (F : Fk P w K mg base 1 "step" s_step [("by", .int 1)] ["size", "at", "by"] sp_step) : Ck P w K mg base 1 "step" 2 ["by"] (fun vs zs => vs ++ zs) sp_step :=
  F.ck 2 ["by"] (fun a b => a ++ b) (fun a b => a.append b) fun kV doc pm an cdv ct us ks h1 h2 => match us, h1, ks, h2 with
    | [_, _], _, [_], _ => rfl
abbrev s_in_span : Stmt := topS 35
abbrev N_in_span : List Str := ["size", "at", "first", "last"]
theorem sc_in_span : FnScope N_in_span ["size", "at", "first", "last"] (defScope s_in_span) := ⟨rfl, rfl, rfl, by decide +kernel, rfl, by decide +kernel, by decide +kernel⟩
theorem b_in_span : BindO "in_span" s_in_span ["size", "at", "first", "last"] := fun _ _ _ _ _ _ us hl => match us, hl with | [_, _, _, _], _ => rfl

def sp_in_span : Sp := fun vs H Q _ => ∃ n i a b : Int, vs = [.int n, .int i, .int a, .int b] ∧ 0 < n ∧ Q (.bl (decide ((i - a) % n ≤ (b - a) % n))) H
theorem ok_in_span (D : Dn K mg "in_span" s_in_span) : Cl P w K mg base 1 "in_span" sp_in_span := by
  refine cl_of D sc_in_span b_in_span (fun vs H Q E h => ?_) (fun f cdv A outer s H vs Q E hr h => ?_)
  · obtain ⟨n, i, a, b, rfl, _⟩ := h
    rfl
  · obtain ⟨n, i, a, b, rfl, hn, q⟩ := h
    refine ⟨_, (pss_one (ps_ret (pe_cmpR op_le (pe_op op_mod (pe_op op_sub (pv 1) (pv 2)) (pv 0)) (pe_op op_mod (pe_op op_sub (pv 3) (pv 2)) (pv 0)) (nomark _)))), ?_⟩
    rw [show L2.start N_in_span [.int n, .int i, .int a, .int b] = [some (.int n), some (.int i), some (.int a), some (.int b)] from rfl]
    simp only [tSeq, tNext, tDrop, tRet, tRetN, tIfS, tAsg, gName, tAug, ipI, tVar, tC, tOp, tUn, rI, rI0, rU, tCons, tNil, tCB, tTup, tLst, tTest, tB, tAnd, tOr, tNot, tAndV, tOrV, tNotV, tIf, tCl, tCd, tCk, gSub, rPutL, rAtQ, rIntI, rLenQ, rLenS, rListQ, rTupL, rTupQ, rIsQ_c, kd_non, kd_bl, kd_int, kd_str, kd_ref, kdO_lst, kdO_tup, kit_NoneType_bool, kit_NoneType_int, kit_NoneType_str, kit_NoneType_list, kit_NoneType_tuple, kit_bool_bool, kit_bool_int, kit_bool_str, kit_bool_list, kit_bool_tuple, kit_int_bool, kit_int_int, kit_int_str, kit_int_list, kit_int_tuple, kit_str_bool, kit_str_int, kit_str_str, kit_str_list, kit_str_tuple, kit_list_bool, kit_list_int, kit_list_str, kit_list_list, kit_list_tuple, kit_tuple_bool, kit_tuple_int, kit_tuple_str, kit_tuple_list, kit_tuple_tuple, V.ty.injEq, rSortQ, rSlQ, rMulS, tJn, rAtX, rSlS, tSl, tPart, tNoPart, cut_lo2, cut_hi2, rInQ, gLq, gTq, gC_c, gNil, tChain, List.cons_append, List.nil_append, tBL, tBL0, rApp, rPopN, rRevL, seqAt_lst, seqAt_tup, at_0, at_1, at_2, at_3, at_4, ix_0, ix_1, ix_2, ix_3, ix_4, cx_K, upd_same, List.length_cons, List.length_nil, Nat.reduceAdd,  rEq, rNe, tRevL, V.int.injEq, V.bl.injEq, V.str.injEq, V.ref.injEq, List.cons.injEq, and_true, true_and, exists_and_left, exists_and_right, exists_eq_left, exists_eq_left', exists_eq_right, exists_eq_right', exists_const, Option.some.injEq, List.getElem?_cons_zero, List.getElem?_cons_succ, List.set_cons_zero, List.set_cons_succ, decide_eq_true_eq, decide_true, decide_false,  scal_ii, scal_bb, scal_ss, cmul_r, cdiv_l, cpow_12, cpow_18, cpow_40, HO.lst.injEq, HO.tup.injEq, upd_upd, Int.reduceToNat,  decide_not, Bool.not_eq_true', decide_eq_false_iff_not, if_true, if_false, Bool.false_eq_true, Bool.true_eq_false, reduceCtorEq, Int.reduceNeg, Nat.reduceLT, Int.reduceLT, Int.reducePow, gt_iff_lt]
    exact ⟨hn, hn, q⟩
abbrev s_span : Stmt := topS 34
abbrev N_span : List Str := ["size", "first", "last", "many", "by"]
theorem sc_span : FnScope N_span ["size", "first", "last"] (defScope s_span) := ⟨rfl, rfl, rfl, by decide +kernel, rfl, by decide +kernel, by decide +kernel⟩
theorem b_span : BindO "span" s_span ["size", "first", "last"] := fun _ _ _ _ _ _ us hl => match us, hl with | [_, _, _], _ => rfl

/-- the positions from a on around to b, as a list of its own -/
def spanL (n a b : Int) : List Int := (List.range ((b - a) % n + 1).toNat).map fun i : Nat => (a + (i : Int)) % n
def sp_span : Sp := fun vs H Q _ => ∃ n a b : Int, vs = [.int n, .int a, .int b] ∧ 0 < n ∧ n ≤ 1000 ∧ ∀ (p : Addr) (H' : Hp), Same H H' → H p = none → H' p = some (.lst ((spanL n a b).map V.int)) → Q (.ref p) H'
theorem fn_span (B : Blt mg) (ck_step_2_by : Ck P w K mg base 1 "step" 2 ["by"] (fun vs zs => vs ++ zs) sp_step) (f : Addr) (fd : FuncData) (F : Fun K "span" "span" s_span f fd) : FnOk P w K mg base CX0 2 f fd ["size", "first", "last"] sp_span := by
  refine F.ok sc_span (fun vs H Q E h => ?_) (fun cdv A outer s H vs Q E hr h => ?_)
  · obtain ⟨n, a, b, rfl, _⟩ := h
    rfl
  · obtain ⟨n, a, b, rfl, hn, hz, q⟩ := h
    refine ⟨_, (pss_cons (ps_set (i := 3) sc_span.nd rfl (.inl rfl) (pe_op op_add (pe_op op_mod (pe_op op_sub (pv 2) (pv 1)) (pv 0)) pe_int))
      (pss_one (ps_ret (pe_lc (own := [("by", 4)]) (g := gName 4) rfl sc_span.nd (pi_range1 (by rfl) B.range (pa_cons (pv 3) pa_nil)) (blkOk_by (N := N_span) (sc := defScope s_span) (own := [("by", 4)]) (by decide +kernel)) (fun _ _ _ _ _ => pg_name (i := 4) sc_span.nd rfl (Or.inl rfl)) (fun _ _ _ _ _ => pts_nil) (fun _ _ _ _ _ => (pe_ck ck_step_2_by hr (by omega) rfl (pa_cons (pv 0) (pa_cons (pv 1) pa_nil)) (pk_cons (pv 4) pk_nil))))))), ?_⟩
    rw [show L2.start N_span [.int n, .int a, .int b] = [some (.int n), some (.int a), some (.int b), none, none] from rfl]
    have m0 := Int.emod_nonneg (b - a) (show n ≠ 0 by omega)
    have m1 := Int.emod_lt_of_pos (b - a) hn
    simp only [tSeq, tNext, tDrop, tRet, tRetN, tIfS, tAsg, gName, tAug, ipI, tVar, tC, tOp, tUn, rI, rI0, rU, tCons, tNil, tCB, tTup, tLst, tTest, tB, tAnd, tOr, tNot, tAndV, tOrV, tNotV, tIf, tCl, tCd, tCk, gSub, rPutL, rAtQ, rIntI, rLenQ, rLenS, rListQ, rTupL, rTupQ, rIsQ_c, kd_non, kd_bl, kd_int, kd_str, kd_ref, kdO_lst, kdO_tup, kit_NoneType_bool, kit_NoneType_int, kit_NoneType_str, kit_NoneType_list, kit_NoneType_tuple, kit_bool_bool, kit_bool_int, kit_bool_str, kit_bool_list, kit_bool_tuple, kit_int_bool, kit_int_int, kit_int_str, kit_int_list, kit_int_tuple, kit_str_bool, kit_str_int, kit_str_str, kit_str_list, kit_str_tuple, kit_list_bool, kit_list_int, kit_list_str, kit_list_list, kit_list_tuple, kit_tuple_bool, kit_tuple_int, kit_tuple_str, kit_tuple_list, kit_tuple_tuple, V.ty.injEq, rSortQ, rSlQ, rMulS, tJn, rAtX, rSlS, tSl, tPart, tNoPart, cut_lo2, cut_hi2, rInQ, gLq, gTq, gC_c, gNil, tChain, List.cons_append, List.nil_append, tBL, tBL0, rApp, rPopN, rRevL, seqAt_lst, seqAt_tup, at_0, at_1, at_2, at_3, at_4, ix_0, ix_1, ix_2, ix_3, ix_4, cx_K, upd_same, List.length_cons, List.length_nil, Nat.reduceAdd,  rEq, rNe, tRevL, V.int.injEq, V.bl.injEq, V.str.injEq, V.ref.injEq, List.cons.injEq, and_true, true_and, exists_and_left, exists_and_right, exists_eq_left, exists_eq_left', exists_eq_right, exists_eq_right', exists_const, Option.some.injEq, List.getElem?_cons_zero, List.getElem?_cons_succ, List.set_cons_zero, List.set_cons_succ, decide_eq_true_eq, decide_true, decide_false,  scal_ii, scal_bb, scal_ss, cmul_r, cdiv_l, cpow_12, cpow_18, cpow_40, HO.lst.injEq, HO.tup.injEq, upd_upd, Int.reduceToNat,  decide_not, Bool.not_eq_true', decide_eq_false_iff_not, if_true, if_false, Bool.false_eq_true, Bool.true_eq_false, reduceCtorEq, Int.reduceNeg, Nat.reduceLT, Int.reduceLT, Int.reducePow, gt_iff_lt]
    refine ⟨hn, ?_⟩
    obtain ⟨m, hm⟩ : ∃ m : Nat, (b - a) % n + 1 = m := ⟨((b - a) % n + 1).toNat, by omega⟩
    rw [hm]
    refine z_lcR m (fun Q q => ?_) (by omega) (fun D i H' => Same H H' ∧ H' D = some (.lst (((List.range i).map fun i : Nat => (a + (i : Int)) % n).map V.int))) (fun D hD => ⟨same_new hD, upd_same⟩) ⟨rfl, fun _ => rfl⟩ (fun D i H' hD hi hI => ?_) (fun D H' hD hI => ?_)
    · simp only [tSeq, tNext, tDrop, tRet, tRetN, tIfS, tAsg, gName, tAug, ipI, tVar, tC, tOp, tUn, rI, rI0, rU, tCons, tNil, tCB, tTup, tLst, tTest, tB, tAnd, tOr, tNot, tAndV, tOrV, tNotV, tIf, tCl, tCd, tCk, gSub, rPutL, rAtQ, rIntI, rLenQ, rLenS, rListQ, rTupL, rTupQ, rIsQ_c, kd_non, kd_bl, kd_int, kd_str, kd_ref, kdO_lst, kdO_tup, kit_NoneType_bool, kit_NoneType_int, kit_NoneType_str, kit_NoneType_list, kit_NoneType_tuple, kit_bool_bool, kit_bool_int, kit_bool_str, kit_bool_list, kit_bool_tuple, kit_int_bool, kit_int_int, kit_int_str, kit_int_list, kit_int_tuple, kit_str_bool, kit_str_int, kit_str_str, kit_str_list, kit_str_tuple, kit_list_bool, kit_list_int, kit_list_str, kit_list_list, kit_list_tuple, kit_tuple_bool, kit_tuple_int, kit_tuple_str, kit_tuple_list, kit_tuple_tuple, V.ty.injEq, rSortQ, rSlQ, rMulS, tJn, rAtX, rSlS, tSl, tPart, tNoPart, cut_lo2, cut_hi2, rInQ, gLq, gTq, gC_c, gNil, tChain, List.cons_append, List.nil_append, tBL, tBL0, rApp, rPopN, rRevL, seqAt_lst, seqAt_tup, at_0, at_1, at_2, at_3, at_4, ix_0, ix_1, ix_2, ix_3, ix_4, cx_K, upd_same, List.length_cons, List.length_nil, Nat.reduceAdd,  rEq, rNe, tRevL, V.int.injEq, V.bl.injEq, V.str.injEq, V.ref.injEq, List.cons.injEq, and_true, true_and, exists_and_left, exists_and_right, exists_eq_left, exists_eq_left', exists_eq_right, exists_eq_right', exists_const, Option.some.injEq, List.getElem?_cons_zero, List.getElem?_cons_succ, List.set_cons_zero, List.set_cons_succ, decide_eq_true_eq, decide_true, decide_false,  scal_ii, scal_bb, scal_ss, cmul_r, cdiv_l, cpow_12, cpow_18, cpow_40, HO.lst.injEq, HO.tup.injEq, upd_upd, Int.reduceToNat,  decide_not, Bool.not_eq_true', decide_eq_false_iff_not, if_true, if_false, Bool.false_eq_true, Bool.true_eq_false, reduceCtorEq, Int.reduceNeg, Nat.reduceLT, Int.reduceLT, Int.reducePow, gt_iff_lt]
      exact q
    · obtain ⟨e1, e2⟩ := hI
      simp only [tSeq, tNext, tDrop, tRet, tRetN, tIfS, tAsg, gName, tAug, ipI, tVar, tC, tOp, tUn, rI, rI0, rU, tCons, tNil, tCB, tTup, tLst, tTest, tB, tAnd, tOr, tNot, tAndV, tOrV, tNotV, tIf, tCl, tCd, tCk, gSub, rPutL, rAtQ, rIntI, rLenQ, rLenS, rListQ, rTupL, rTupQ, rIsQ_c, kd_non, kd_bl, kd_int, kd_str, kd_ref, kdO_lst, kdO_tup, kit_NoneType_bool, kit_NoneType_int, kit_NoneType_str, kit_NoneType_list, kit_NoneType_tuple, kit_bool_bool, kit_bool_int, kit_bool_str, kit_bool_list, kit_bool_tuple, kit_int_bool, kit_int_int, kit_int_str, kit_int_list, kit_int_tuple, kit_str_bool, kit_str_int, kit_str_str, kit_str_list, kit_str_tuple, kit_list_bool, kit_list_int, kit_list_str, kit_list_list, kit_list_tuple, kit_tuple_bool, kit_tuple_int, kit_tuple_str, kit_tuple_list, kit_tuple_tuple, V.ty.injEq, rSortQ, rSlQ, rMulS, tJn, rAtX, rSlS, tSl, tPart, tNoPart, cut_lo2, cut_hi2, rInQ, gLq, gTq, gC_c, gNil, tChain, List.cons_append, List.nil_append, tBL, tBL0, rApp, rPopN, rRevL, seqAt_lst, seqAt_tup, at_0, at_1, at_2, at_3, at_4, ix_0, ix_1, ix_2, ix_3, ix_4, cx_K, upd_same, List.length_cons, List.length_nil, Nat.reduceAdd,  rEq, rNe, tRevL, V.int.injEq, V.bl.injEq, V.str.injEq, V.ref.injEq, List.cons.injEq, and_true, true_and, exists_and_left, exists_and_right, exists_eq_left, exists_eq_left', exists_eq_right, exists_eq_right', exists_const, Option.some.injEq, List.getElem?_cons_zero, List.getElem?_cons_succ, List.set_cons_zero, List.set_cons_succ, decide_eq_true_eq, decide_true, decide_false,  scal_ii, scal_bb, scal_ss, cmul_r, cdiv_l, cpow_12, cpow_18, cpow_40, HO.lst.injEq, HO.tup.injEq, upd_upd, Int.reduceToNat,  decide_not, Bool.not_eq_true', decide_eq_false_iff_not, if_true, if_false, Bool.false_eq_true, Bool.true_eq_false, reduceCtorEq, Int.reduceNeg, Nat.reduceLT, Int.reduceLT, Int.reducePow, gt_iff_lt, wipe, List.map_cons, List.map_nil, e2]
      refine ⟨_, _, _, rfl, hn, _, e2, ?_, fun c o h => ?_, ?_⟩
      · rw [List.length_map, List.length_map, List.length_range]
        exact sz_lt (by omega)
      · rw [upd_ne (ne_of_none h hD)]
        exact e1 c o h
      · rw [List.range_succ, List.map_append, List.map_append]
        rfl
    · obtain ⟨e1, e2⟩ := hI
      refine q D H' e1 hD ?_
      rw [e2]
      unfold spanL
      rw [hm]
      rfl
theorem ok_span (D : Dn K mg "span" s_span) (B : Blt mg) (ck_step_2_by : Ck P w K mg base 1 "step" 2 ["by"] (fun vs zs => vs ++ zs) sp_step) : Cl P w K mg base 2 "span" sp_span := by
  obtain ⟨f, fd, F, hm⟩ := D.ex
  exact ⟨f, fd, _, fn_span B ck_step_2_by f fd F, hm, F.kp, F.binds b_span⟩
theorem ck_span (D : Dn K mg "span" s_span) (B : Blt mg) (ck_step_2_by : Ck P w K mg base 1 "step" 2 ["by"] (fun vs zs => vs ++ zs) sp_step) : Ck P w K mg base 2 "span" 0 ["size", "first", "last"] (fun _ zs => zs) sp_span :=
  ck_of (N := []) D (fn_span B ck_step_2_by) 0 _ (fun _ b => b) (fun _ b => b) fun kV doc pm an cdv ct us ks h1 h2 => match us, h1, ks, h2 with
    | [], _, [_, _, _], _ => rfl
abbrev s_crossed : Stmt := topS 36
abbrev N_crossed : List Str := ["one", "two", "low", "high"]
theorem sc_crossed : FnScope N_crossed ["one", "two"] (defScope s_crossed) := ⟨rfl, rfl, rfl, by decide +kernel, rfl, by decide +kernel, by decide +kernel⟩
theorem b_crossed : BindO "crossed" s_crossed ["one", "two"] := fun _ _ _ _ _ _ us hl => match us, hl with | [_, _], _ => rfl

/-- do two pairs stand crosswise -/
def crossB (a b c d : Int) : Bool := if (c = min a b ∨ d = min a b) ∨ (c = max a b ∨ d = max a b) then false else decide ((min a b < c ∧ c < max a b)) != decide ((min a b < d ∧ d < max a b))
def sp_crossed : Sp := fun vs H Q _ => ∃ (p q : Addr) (a b c d : Int), vs = [.ref p, .ref q] ∧ seqAt (H p) = some [.int a, .int b] ∧ seqAt (H q) = some [.int c, .int d] ∧ ∀ H', Same H H' → Q (.bl (crossB a b c d)) H'
theorem inV_two {x a b : Int} : inV (.int x) [.int a, .int b] = decide (a = x ∨ b = x) := by
  show (eqV (.int a) (.int x) || (eqV (.int b) (.int x) || false)) = _
  by_cases h1 : a = x <;> by_cases h2 : b = x <;> simp [eqV, h1, h2]
theorem ok_crossed (D : Dn K mg "crossed" s_crossed) (B : Blt mg) : Cl P w K mg base 1 "crossed" sp_crossed := by
  refine cl_of D sc_crossed b_crossed (fun vs H Q E h => ?_) (fun f cdv A outer s H vs Q E hr h => ?_)
  · obtain ⟨p, r, a, b, c, d, rfl, _⟩ := h
    rfl
  · obtain ⟨p, r, a, b, c, d, rfl, h1, h2, q⟩ := h
    refine ⟨_, (pss_cons (ps_asg (pe_callB cr_sortQ (by rfl) B.sorted (by decide +kernel) (pa_cons (pv 0) pa_nil)) (pg_lq (n := 2) rfl (pgs_c (pg_name (i := 2) sc_crossed.nd rfl (.inl rfl)) (pgs_c (pg_name (i := 3) sc_crossed.nd rfl (.inl rfl)) pgs_nil))))
      (pss_cons (ps_if (PW.pt (pw_or (pt_cmpR op_inQ (pv 2) (pv 1) (by rfl)) (pw_or1 (pt_cmpR op_inQ (pv 3) (pv 1) (by rfl))))) (pss_one (ps_ret pe_bl)) pss_nil)
      (pss_one (ps_ret (pe_cmpR op_ne (pe_chain op_lt op_lt (pv 2) (pe_ix at_seq (pv 1) pe_int (fun _ _ => rfl)) (pv 3)) (pe_chain op_lt op_lt (pv 2) (pe_ix at_seq (pv 1) pe_int (fun _ _ => rfl)) (pv 3)) (nomark _)))))), ?_⟩
    rw [show L2.start N_crossed [.ref p, .ref r] = [some (.ref p), some (.ref r), none, none] from rfl]
    simp only [tSeq, tNext, tDrop, tRet, tRetN, tIfS, tAsg, gName, tAug, ipI, tVar, tC, tOp, tUn, rI, rI0, rU, tCons, tNil, tCB, tTup, tLst, tTest, tB, tAnd, tOr, tNot, tAndV, tOrV, tNotV, tIf, tCl, tCd, tCk, gSub, rPutL, rAtQ, rIntI, rLenQ, rLenS, rListQ, rTupL, rTupQ, rIsQ_c, kd_non, kd_bl, kd_int, kd_str, kd_ref, kdO_lst, kdO_tup, kit_NoneType_bool, kit_NoneType_int, kit_NoneType_str, kit_NoneType_list, kit_NoneType_tuple, kit_bool_bool, kit_bool_int, kit_bool_str, kit_bool_list, kit_bool_tuple, kit_int_bool, kit_int_int, kit_int_str, kit_int_list, kit_int_tuple, kit_str_bool, kit_str_int, kit_str_str, kit_str_list, kit_str_tuple, kit_list_bool, kit_list_int, kit_list_str, kit_list_list, kit_list_tuple, kit_tuple_bool, kit_tuple_int, kit_tuple_str, kit_tuple_list, kit_tuple_tuple, V.ty.injEq, rSortQ, rSlQ, rMulS, tJn, rAtX, rSlS, tSl, tPart, tNoPart, cut_lo2, cut_hi2, rInQ, gLq, gTq, gC_c, gNil, tChain, List.cons_append, List.nil_append, tBL, tBL0, rApp, rPopN, rRevL, seqAt_lst, seqAt_tup, at_0, at_1, at_2, at_3, at_4, ix_0, ix_1, ix_2, ix_3, ix_4, cx_K, upd_same, List.length_cons, List.length_nil, Nat.reduceAdd,  rEq, rNe, tRevL, V.int.injEq, V.bl.injEq, V.str.injEq, V.ref.injEq, List.cons.injEq, and_true, true_and, exists_and_left, exists_and_right, exists_eq_left, exists_eq_left', exists_eq_right, exists_eq_right', exists_const, Option.some.injEq, List.getElem?_cons_zero, List.getElem?_cons_succ, List.set_cons_zero, List.set_cons_succ, decide_eq_true_eq, decide_true, decide_false,  scal_ii, scal_bb, scal_ss, cmul_r, cdiv_l, cpow_12, cpow_18, cpow_40, HO.lst.injEq, HO.tup.injEq, upd_upd, Int.reduceToNat,  decide_not, Bool.not_eq_true', decide_eq_false_iff_not, if_true, if_false, Bool.false_eq_true, Bool.true_eq_false, reduceCtorEq, Int.reduceNeg, Nat.reduceLT, Int.reduceLT, Int.reducePow, gt_iff_lt, h1, h2]
    refine ⟨[a, b], rfl, fun ns' m hp ho hm => ?_⟩
    obtain ⟨l, g, rfl, hl, hg⟩ : ∃ l g, ns' = [l, g] ∧ l = min a b ∧ g = max a b := by
      have e := hp.length_eq
      match ns', e with
      | [l, g], _ =>
        have o : l ≤ g := by simpa using ho
        have m1 : l ∈ [a, b] := hp.mem_iff.mp (by simp)
        have m2 : g ∈ [a, b] := hp.mem_iff.mp (by simp)
        have m3 : a ∈ [l, g] := hp.mem_iff.mpr (by simp)
        have m4 : b ∈ [l, g] := hp.mem_iff.mpr (by simp)
        simp only [List.mem_cons, List.not_mem_nil, or_false] at m1 m2 m3 m4
        exact ⟨l, g, rfl, by omega, by omega⟩
    have h2m : seqAt (upd H m (.lst [.int l, .int g]) r) = some [V.int c, V.int d] := same_seq (same_new hm) h2
    have q' := q _ (same_new (o := .lst [.int l, .int g]) hm)
    have f1 : flatV (V.int l) = true := rfl
    have f2 : flatV (V.int g) = true := rfl
    have f3 : [V.int c, V.int d].all flatV = true := rfl
    have hc : crossB a b c d = if (c = l ∨ d = l) ∨ (c = g ∨ d = g) then false else decide ((l < c ∧ c < g)) != decide ((l < d ∧ d < g)) := by rw [hl, hg] <;> rfl
    rw [hc] at q'
    simp only [tSeq, tNext, tDrop, tRet, tRetN, tIfS, tAsg, gName, tAug, ipI, tVar, tC, tOp, tUn, rI, rI0, rU, tCons, tNil, tCB, tTup, tLst, tTest, tB, tAnd, tOr, tNot, tAndV, tOrV, tNotV, tIf, tCl, tCd, tCk, gSub, rPutL, rAtQ, rIntI, rLenQ, rLenS, rListQ, rTupL, rTupQ, rIsQ_c, kd_non, kd_bl, kd_int, kd_str, kd_ref, kdO_lst, kdO_tup, kit_NoneType_bool, kit_NoneType_int, kit_NoneType_str, kit_NoneType_list, kit_NoneType_tuple, kit_bool_bool, kit_bool_int, kit_bool_str, kit_bool_list, kit_bool_tuple, kit_int_bool, kit_int_int, kit_int_str, kit_int_list, kit_int_tuple, kit_str_bool, kit_str_int, kit_str_str, kit_str_list, kit_str_tuple, kit_list_bool, kit_list_int, kit_list_str, kit_list_list, kit_list_tuple, kit_tuple_bool, kit_tuple_int, kit_tuple_str, kit_tuple_list, kit_tuple_tuple, V.ty.injEq, rSortQ, rSlQ, rMulS, tJn, rAtX, rSlS, tSl, tPart, tNoPart, cut_lo2, cut_hi2, rInQ, gLq, gTq, gC_c, gNil, tChain, List.cons_append, List.nil_append, tBL, tBL0, rApp, rPopN, rRevL, seqAt_lst, seqAt_tup, at_0, at_1, at_2, at_3, at_4, ix_0, ix_1, ix_2, ix_3, ix_4, cx_K, upd_same, List.length_cons, List.length_nil, Nat.reduceAdd,  rEq, rNe, tRevL, V.int.injEq, V.bl.injEq, V.str.injEq, V.ref.injEq, List.cons.injEq, and_true, true_and, exists_and_left, exists_and_right, exists_eq_left, exists_eq_left', exists_eq_right, exists_eq_right', exists_const, Option.some.injEq, List.getElem?_cons_zero, List.getElem?_cons_succ, List.set_cons_zero, List.set_cons_succ, decide_eq_true_eq, decide_true, decide_false,  scal_ii, scal_bb, scal_ss, cmul_r, cdiv_l, cpow_12, cpow_18, cpow_40, HO.lst.injEq, HO.tup.injEq, upd_upd, Int.reduceToNat,  decide_not, Bool.not_eq_true', decide_eq_false_iff_not, if_true, if_false, Bool.false_eq_true, Bool.true_eq_false, reduceCtorEq, Int.reduceNeg, Nat.reduceLT, Int.reduceLT, Int.reducePow, gt_iff_lt, h2m, List.map_cons, List.map_nil, inV_two, f1, f2, f3]
    split
    · rename_i e
      rw [if_pos (.inl e)] at q'
      exact q'
    split
    · rename_i e
      rw [if_pos (.inr e)] at q'
      exact q'
    rename_i e1 e2
    rw [if_neg (fun z => z.elim e1 e2)] at q'
    by_cases h3 : l < c <;> by_cases h4 : l < d <;> by_cases h5 : c < g <;> by_cases h6 : d < g <;> simp only [h3, h4, h5, h6, if_true, if_false, and_self, and_true, true_and, and_false, false_and, decide_true, decide_false, bne_self_eq_false, Bool.not_true, Bool.not_false] at q' ⊢ <;> exact q'
theorem rise_of : ∀ {ns : List Int}, (∀ (j : Nat) (x y : Int), ns[j]? = some x → ns[j + 1]? = some y → x < y) → ns.Pairwise (· < ·)
  | [], _ => .nil
  | [x], _ => by simp
  | x :: y :: r, h => by
    have ih := rise_of (ns := y :: r) fun j a b ha hb => h (j + 1) a b ha hb
    have xy := h 0 x y rfl rfl
    refine List.pairwise_cons.mpr ⟨fun z hz => ?_, ih⟩
    rcases List.mem_cons.mp hz with e | hz
    · rw [e]
      exact xy
    · exact Int.lt_trans xy ((List.pairwise_cons.mp ih).1 z hz)
abbrev s_law_rises : Stmt := topS 50
abbrev N_law_rises : List Str := ["some", "k"]
theorem sc_law_rises : FnScope N_law_rises ["some"] (defScope s_law_rises) := ⟨rfl, rfl, rfl, by decide +kernel, rfl, by decide +kernel, by decide +kernel⟩
theorem b_law_rises : BindO "_law_rises" s_law_rises ["some"] := fun _ _ _ _ _ _ us hl => match us, hl with | [_], _ => rfl

def sp_rises : Sp := fun vs H Q _ => ∃ (p : Addr) (ns : List Int), vs = [.ref p] ∧ seqAt (H p) = some (ns.map V.int) ∧ ns.length ≤ 1000 ∧ Q (.bl (decide (ns.Pairwise (· < ·)))) H
theorem ok_rises (D : Dn K mg "_law_rises" s_law_rises) (B : Blt mg) : Cl P w K mg base 1 "_law_rises" sp_rises := by
  refine cl_of D sc_law_rises b_law_rises (fun vs H Q E h => ?_) (fun f cdv A outer s H vs Q E hr h => ?_)
  · obtain ⟨p, ns, rfl, _⟩ := h
    rfl
  · obtain ⟨p, ns, rfl, h1, hz, q⟩ := h
    refine ⟨_, (pss_cons (ps_for PassesOwn.never rfl (pi_range1 (by rfl) B.range (pa_cons (pe_op op_sub (pe_callB call_lenQ (by rfl) B.len PySem.boot_len (pa_cons (pv 0) pa_nil)) pe_int) pa_nil)) (pg_name (i := 1) sc_law_rises.nd rfl (.inl rfl)) (pss_one (ps_if (pt_not (pt_cmpR op_lt (pe_ix at_seq (pv 0) (pv 1) (fun _ _ => rfl)) (pe_ix at_seq (pv 0) (pe_op op_add (pv 1) pe_int) (fun _ _ => rfl)) (nomark _))) (pss_one (ps_ret pe_bl)) pss_nil)))
      (pss_one (ps_ret pe_bl))), ?_⟩
    rw [show L2.start N_law_rises [.ref p] = [some (.ref p), none] from rfl]
    simp only [tSeq, tNext, tDrop, tRet, tRetN, tIfS, tAsg, gName, tAug, ipI, tVar, tC, tOp, tUn, rI, rI0, rU, tCons, tNil, tCB, tTup, tLst, tTest, tB, tAnd, tOr, tNot, tAndV, tOrV, tNotV, tIf, tCl, tCd, tCk, gSub, rPutL, rAtQ, rIntI, rLenQ, rLenS, rListQ, rTupL, rTupQ, rIsQ_c, kd_non, kd_bl, kd_int, kd_str, kd_ref, kdO_lst, kdO_tup, kit_NoneType_bool, kit_NoneType_int, kit_NoneType_str, kit_NoneType_list, kit_NoneType_tuple, kit_bool_bool, kit_bool_int, kit_bool_str, kit_bool_list, kit_bool_tuple, kit_int_bool, kit_int_int, kit_int_str, kit_int_list, kit_int_tuple, kit_str_bool, kit_str_int, kit_str_str, kit_str_list, kit_str_tuple, kit_list_bool, kit_list_int, kit_list_str, kit_list_list, kit_list_tuple, kit_tuple_bool, kit_tuple_int, kit_tuple_str, kit_tuple_list, kit_tuple_tuple, V.ty.injEq, rSortQ, rSlQ, rMulS, tJn, rAtX, rSlS, tSl, tPart, tNoPart, cut_lo2, cut_hi2, rInQ, gLq, gTq, gC_c, gNil, tChain, List.cons_append, List.nil_append, tBL, tBL0, rApp, rPopN, rRevL, seqAt_lst, seqAt_tup, at_0, at_1, at_2, at_3, at_4, ix_0, ix_1, ix_2, ix_3, ix_4, cx_K, upd_same, List.length_cons, List.length_nil, Nat.reduceAdd,  rEq, rNe, tRevL, V.int.injEq, V.bl.injEq, V.str.injEq, V.ref.injEq, List.cons.injEq, and_true, true_and, exists_and_left, exists_and_right, exists_eq_left, exists_eq_left', exists_eq_right, exists_eq_right', exists_const, Option.some.injEq, List.getElem?_cons_zero, List.getElem?_cons_succ, List.set_cons_zero, List.set_cons_succ, decide_eq_true_eq, decide_true, decide_false,  scal_ii, scal_bb, scal_ss, cmul_r, cdiv_l, cpow_12, cpow_18, cpow_40, HO.lst.injEq, HO.tup.injEq, upd_upd, Int.reduceToNat,  decide_not, Bool.not_eq_true', decide_eq_false_iff_not, if_true, if_false, Bool.false_eq_true, Bool.true_eq_false, reduceCtorEq, Int.reduceNeg, Nat.reduceLT, Int.reduceLT, Int.reducePow, gt_iff_lt, h1]
    obtain ⟨Pv, hP⟩ : ∃ Pv : Nat → L2.St → Hp → Prop, Pv = fun i σ' H' => ∃ k : Option V, σ' = [some (.ref p), k] ∧ H' = H ∧ ∀ j, j + 1 ≤ i → ∀ x y, ns[j]? = some x → ns[j + 1]? = some y → x < y := ⟨_, rfl⟩
    refine z_forZ ((ns.length : Int) - 1) (fun Q q => ?_) (by omega) Pv ?h0 (fun i σ' H' hi hI => ?hs) (fun σ' H' hI => ?hd)
    · simp only [tSeq, tNext, tDrop, tRet, tRetN, tIfS, tAsg, gName, tAug, ipI, tVar, tC, tOp, tUn, rI, rI0, rU, tCons, tNil, tCB, tTup, tLst, tTest, tB, tAnd, tOr, tNot, tAndV, tOrV, tNotV, tIf, tCl, tCd, tCk, gSub, rPutL, rAtQ, rIntI, rLenQ, rLenS, rListQ, rTupL, rTupQ, rIsQ_c, kd_non, kd_bl, kd_int, kd_str, kd_ref, kdO_lst, kdO_tup, kit_NoneType_bool, kit_NoneType_int, kit_NoneType_str, kit_NoneType_list, kit_NoneType_tuple, kit_bool_bool, kit_bool_int, kit_bool_str, kit_bool_list, kit_bool_tuple, kit_int_bool, kit_int_int, kit_int_str, kit_int_list, kit_int_tuple, kit_str_bool, kit_str_int, kit_str_str, kit_str_list, kit_str_tuple, kit_list_bool, kit_list_int, kit_list_str, kit_list_list, kit_list_tuple, kit_tuple_bool, kit_tuple_int, kit_tuple_str, kit_tuple_list, kit_tuple_tuple, V.ty.injEq, rSortQ, rSlQ, rMulS, tJn, rAtX, rSlS, tSl, tPart, tNoPart, cut_lo2, cut_hi2, rInQ, gLq, gTq, gC_c, gNil, tChain, List.cons_append, List.nil_append, tBL, tBL0, rApp, rPopN, rRevL, seqAt_lst, seqAt_tup, at_0, at_1, at_2, at_3, at_4, ix_0, ix_1, ix_2, ix_3, ix_4, cx_K, upd_same, List.length_cons, List.length_nil, Nat.reduceAdd,  rEq, rNe, tRevL, V.int.injEq, V.bl.injEq, V.str.injEq, V.ref.injEq, List.cons.injEq, and_true, true_and, exists_and_left, exists_and_right, exists_eq_left, exists_eq_left', exists_eq_right, exists_eq_right', exists_const, Option.some.injEq, List.getElem?_cons_zero, List.getElem?_cons_succ, List.set_cons_zero, List.set_cons_succ, decide_eq_true_eq, decide_true, decide_false,  scal_ii, scal_bb, scal_ss, cmul_r, cdiv_l, cpow_12, cpow_18, cpow_40, HO.lst.injEq, HO.tup.injEq, upd_upd, Int.reduceToNat,  decide_not, Bool.not_eq_true', decide_eq_false_iff_not, if_true, if_false, Bool.false_eq_true, Bool.true_eq_false, reduceCtorEq, Int.reduceNeg, Nat.reduceLT, Int.reduceLT, Int.reducePow, gt_iff_lt, h1]
      rw [List.length_map]
      exact q
    case h0 =>
      rw [hP]
      exact ⟨none, rfl, rfl, fun j hj => absurd hj (by omega)⟩
    case hs =>
      rw [hP] at hI
      obtain ⟨k, rfl, rfl, hI⟩ := hI
      have g1 : atI (ns.map V.int) (i : Int) = some (.int ns[i]) := atI_nat (by rw [List.getElem?_map, List.getElem?_eq_getElem (by omega)] <;> rfl)
      have g2 : atI (ns.map V.int) ((i : Int) + 1) = some (.int ns[i + 1]) := atI_nat (j := i + 1) (by rw [List.getElem?_map, List.getElem?_eq_getElem (by omega)] <;> rfl)
      simp only [tSeq, tNext, tDrop, tRet, tRetN, tIfS, tAsg, gName, tAug, ipI, tVar, tC, tOp, tUn, rI, rI0, rU, tCons, tNil, tCB, tTup, tLst, tTest, tB, tAnd, tOr, tNot, tAndV, tOrV, tNotV, tIf, tCl, tCd, tCk, gSub, rPutL, rAtQ, rIntI, rLenQ, rLenS, rListQ, rTupL, rTupQ, rIsQ_c, kd_non, kd_bl, kd_int, kd_str, kd_ref, kdO_lst, kdO_tup, kit_NoneType_bool, kit_NoneType_int, kit_NoneType_str, kit_NoneType_list, kit_NoneType_tuple, kit_bool_bool, kit_bool_int, kit_bool_str, kit_bool_list, kit_bool_tuple, kit_int_bool, kit_int_int, kit_int_str, kit_int_list, kit_int_tuple, kit_str_bool, kit_str_int, kit_str_str, kit_str_list, kit_str_tuple, kit_list_bool, kit_list_int, kit_list_str, kit_list_list, kit_list_tuple, kit_tuple_bool, kit_tuple_int, kit_tuple_str, kit_tuple_list, kit_tuple_tuple, V.ty.injEq, rSortQ, rSlQ, rMulS, tJn, rAtX, rSlS, tSl, tPart, tNoPart, cut_lo2, cut_hi2, rInQ, gLq, gTq, gC_c, gNil, tChain, List.cons_append, List.nil_append, tBL, tBL0, rApp, rPopN, rRevL, seqAt_lst, seqAt_tup, at_0, at_1, at_2, at_3, at_4, ix_0, ix_1, ix_2, ix_3, ix_4, cx_K, upd_same, List.length_cons, List.length_nil, Nat.reduceAdd,  rEq, rNe, tRevL, V.int.injEq, V.bl.injEq, V.str.injEq, V.ref.injEq, List.cons.injEq, and_true, true_and, exists_and_left, exists_and_right, exists_eq_left, exists_eq_left', exists_eq_right, exists_eq_right', exists_const, Option.some.injEq, List.getElem?_cons_zero, List.getElem?_cons_succ, List.set_cons_zero, List.set_cons_succ, decide_eq_true_eq, decide_true, decide_false,  scal_ii, scal_bb, scal_ss, cmul_r, cdiv_l, cpow_12, cpow_18, cpow_40, HO.lst.injEq, HO.tup.injEq, upd_upd, Int.reduceToNat,  decide_not, Bool.not_eq_true', decide_eq_false_iff_not, if_true, if_false, Bool.false_eq_true, Bool.true_eq_false, reduceCtorEq, Int.reduceNeg, Nat.reduceLT, Int.reduceLT, Int.reducePow, gt_iff_lt, h1, g1, g2]
      split
      · rename_i e
        have z : decide (ns.Pairwise (· < ·)) = false := decide_eq_false fun z => e (List.pairwise_iff_getElem.mp z i (i + 1) (by omega) (by omega) (by omega))
        rw [z] at q
        exact q
      · rename_i e
        rw [hP]
        refine ⟨_, rfl, rfl, fun j hj x y hx hy => ?_⟩
        by_cases e2 : j = i
        · subst e2
          rw [List.getElem?_eq_getElem (by omega)] at hx hy
          cases hx
          cases hy
          omega
        · exact hI j (by omega) x y hx hy
    case hd =>
      rw [hP] at hI
      obtain ⟨k, rfl, rfl, hI⟩ := hI
      have z : decide (ns.Pairwise (· < ·)) = true := decide_eq_true (rise_of fun j x y hx hy => by
        have := (List.getElem?_eq_some_iff.mp hy).1
        exact hI j (by omega) x y hx hy)
      rw [z] at q
      simp only [tSeq, tNext, tDrop, tRet, tRetN, tIfS, tAsg, gName, tAug, ipI, tVar, tC, tOp, tUn, rI, rI0, rU, tCons, tNil, tCB, tTup, tLst, tTest, tB, tAnd, tOr, tNot, tAndV, tOrV, tNotV, tIf, tCl, tCd, tCk, gSub, rPutL, rAtQ, rIntI, rLenQ, rLenS, rListQ, rTupL, rTupQ, rIsQ_c, kd_non, kd_bl, kd_int, kd_str, kd_ref, kdO_lst, kdO_tup, kit_NoneType_bool, kit_NoneType_int, kit_NoneType_str, kit_NoneType_list, kit_NoneType_tuple, kit_bool_bool, kit_bool_int, kit_bool_str, kit_bool_list, kit_bool_tuple, kit_int_bool, kit_int_int, kit_int_str, kit_int_list, kit_int_tuple, kit_str_bool, kit_str_int, kit_str_str, kit_str_list, kit_str_tuple, kit_list_bool, kit_list_int, kit_list_str, kit_list_list, kit_list_tuple, kit_tuple_bool, kit_tuple_int, kit_tuple_str, kit_tuple_list, kit_tuple_tuple, V.ty.injEq, rSortQ, rSlQ, rMulS, tJn, rAtX, rSlS, tSl, tPart, tNoPart, cut_lo2, cut_hi2, rInQ, gLq, gTq, gC_c, gNil, tChain, List.cons_append, List.nil_append, tBL, tBL0, rApp, rPopN, rRevL, seqAt_lst, seqAt_tup, at_0, at_1, at_2, at_3, at_4, ix_0, ix_1, ix_2, ix_3, ix_4, cx_K, upd_same, List.length_cons, List.length_nil, Nat.reduceAdd,  rEq, rNe, tRevL, V.int.injEq, V.bl.injEq, V.str.injEq, V.ref.injEq, List.cons.injEq, and_true, true_and, exists_and_left, exists_and_right, exists_eq_left, exists_eq_left', exists_eq_right, exists_eq_right', exists_const, Option.some.injEq, List.getElem?_cons_zero, List.getElem?_cons_succ, List.set_cons_zero, List.set_cons_succ, decide_eq_true_eq, decide_true, decide_false,  scal_ii, scal_bb, scal_ss, cmul_r, cdiv_l, cpow_12, cpow_18, cpow_40, HO.lst.injEq, HO.tup.injEq, upd_upd, Int.reduceToNat,  decide_not, Bool.not_eq_true', decide_eq_false_iff_not, if_true, if_false, Bool.false_eq_true, Bool.true_eq_false, reduceCtorEq, Int.reduceNeg, Nat.reduceLT, Int.reduceLT, Int.reducePow, gt_iff_lt]
      exact q
abbrev s_law_is_integer : Stmt := topS 49
abbrev N_law_is_integer : List Str := ["thing"]
theorem sc_law_is_integer : FnScope N_law_is_integer ["thing"] (defScope s_law_is_integer) := ⟨rfl, rfl, rfl, by decide +kernel, rfl, by decide +kernel, by decide +kernel⟩
theorem b_law_is_integer : BindO "_law_is_integer" s_law_is_integer ["thing"] := fun _ _ _ _ _ _ us hl => match us, hl with | [_], _ => rfl

def sp_is_integer : Sp := fun vs H Q _ => ∃ i : Int, vs = [.int i] ∧ Q (.bl true) H
theorem ok_is_integer (D : Dn K mg "_law_is_integer" s_law_is_integer) (B : Blt mg) : Cl P w K mg base 1 "_law_is_integer" sp_is_integer := by
  refine cl_of D sc_law_is_integer b_law_is_integer (fun vs H Q E h => ?_) (fun f cdv A outer s H vs Q E hr h => ?_)
  · obtain ⟨i, rfl, _⟩ := h
    rfl
  · obtain ⟨i, rfl, q⟩ := h
    refine ⟨_, (pss_one (ps_ret (pe_and (pe_callB call_isQ (by rfl) B.isinstance (by decide +kernel) (pa_cons (pv 0) (pa_cons (pe_bltn (v := .ty "int") (u := .type "int") (by rfl) B.int (by decide +kernel) rfl) pa_nil))) (pe_one (pe_not (pe_callB call_isQ (by rfl) B.isinstance (by decide +kernel) (pa_cons (pv 0) (pa_cons (pe_bltn (v := .ty "bool") (u := .type "bool") (by rfl) B.bool (by decide +kernel) rfl) pa_nil)))))))), ?_⟩
    rw [show L2.start N_law_is_integer [.int i] = [some (.int i)] from rfl]
    simp only [tSeq, tNext, tDrop, tRet, tRetN, tIfS, tAsg, gName, tAug, ipI, tVar, tC, tOp, tUn, rI, rI0, rU, tCons, tNil, tCB, tTup, tLst, tTest, tB, tAnd, tOr, tNot, tAndV, tOrV, tNotV, tIf, tCl, tCd, tCk, gSub, rPutL, rAtQ, rIntI, rLenQ, rLenS, rListQ, rTupL, rTupQ, rIsQ_c, kd_non, kd_bl, kd_int, kd_str, kd_ref, kdO_lst, kdO_tup, kit_NoneType_bool, kit_NoneType_int, kit_NoneType_str, kit_NoneType_list, kit_NoneType_tuple, kit_bool_bool, kit_bool_int, kit_bool_str, kit_bool_list, kit_bool_tuple, kit_int_bool, kit_int_int, kit_int_str, kit_int_list, kit_int_tuple, kit_str_bool, kit_str_int, kit_str_str, kit_str_list, kit_str_tuple, kit_list_bool, kit_list_int, kit_list_str, kit_list_list, kit_list_tuple, kit_tuple_bool, kit_tuple_int, kit_tuple_str, kit_tuple_list, kit_tuple_tuple, V.ty.injEq, rSortQ, rSlQ, rMulS, tJn, rAtX, rSlS, tSl, tPart, tNoPart, cut_lo2, cut_hi2, rInQ, gLq, gTq, gC_c, gNil, tChain, List.cons_append, List.nil_append, tBL, tBL0, rApp, rPopN, rRevL, seqAt_lst, seqAt_tup, at_0, at_1, at_2, at_3, at_4, ix_0, ix_1, ix_2, ix_3, ix_4, cx_K, upd_same, List.length_cons, List.length_nil, Nat.reduceAdd,  rEq, rNe, tRevL, V.int.injEq, V.bl.injEq, V.str.injEq, V.ref.injEq, List.cons.injEq, and_true, true_and, exists_and_left, exists_and_right, exists_eq_left, exists_eq_left', exists_eq_right, exists_eq_right', exists_const, Option.some.injEq, List.getElem?_cons_zero, List.getElem?_cons_succ, List.set_cons_zero, List.set_cons_succ, decide_eq_true_eq, decide_true, decide_false,  scal_ii, scal_bb, scal_ss, cmul_r, cdiv_l, cpow_12, cpow_18, cpow_40, HO.lst.injEq, HO.tup.injEq, upd_upd, Int.reduceToNat,  decide_not, Bool.not_eq_true', decide_eq_false_iff_not, if_true, if_false, Bool.false_eq_true, Bool.true_eq_false, reduceCtorEq, Int.reduceNeg, Nat.reduceLT, Int.reduceLT, Int.reducePow, gt_iff_lt]
    exact q
end
end Z
set_option Elab.async false
set_option linter.all false
set_option maxRecDepth 100000
set_option maxHeartbeats 4000000
namespace Z
open PySem PySem.Spec PyProof.Rows L2
section
variable {P : Program} {w : World} {K : PySem.W.Frag} {mg : Str → Option Value} {base : Heap}
abbrev s_law_same : Stmt := topS 46
abbrev N_law_same : List Str := ["actual", "expected", "k"]
theorem sc_law_same : FnScope N_law_same ["actual", "expected"] (defScope s_law_same) := ⟨rfl, rfl, rfl, by decide +kernel, rfl, by decide +kernel, by decide +kernel⟩
theorem b_law_same : BindO "_law_same" s_law_same ["actual", "expected"] := fun _ _ _ _ _ _ us hl => match us, hl with | [_, _], _ => rfl

/-- the same data twice: True -/
def sp_same (n : Nat) : Sp := fun vs H Q _ => ∃ (N : Addr → Prop) (u v : V) (d : Dt), vs = [u, v] ∧ Rp N H n u d ∧ Rp N H n v d ∧ Q (.bl true) H
theorem ok_same (D : Dn K mg "_law_same" s_law_same) (B : Blt mg) : ∀ n, Cl P w K mg base n "_law_same" (sp_same n)
  | 0 => cl_none D b_law_same fun vs H Q E ⟨_, _, _, _, _, z, _⟩ => z
  | n + 1 => by
    have c_law_same := ok_same D B n
    refine cl_of D sc_law_same b_law_same (fun vs H Q E h => ?_) (fun f cdv A outer s H vs Q E hr h => ?_)
    · obtain ⟨_, u, v, d, rfl, _⟩ := h
      rfl
    · obtain ⟨N, u, v, d, rfl, ru, rv, q⟩ := h
      refine ⟨_, (pss_cons (ps_if (pt_cmpR op_isN (pv 1) pe_non (nomark _)) (pss_one (ps_ret (pe_cmpR op_isN (pv 0) pe_non (nomark _)))) pss_nil)
      (pss_cons (ps_if (pt_val (pe_callB call_isQ (by rfl) B.isinstance (by decide +kernel) (pa_cons (pv 1) (pa_cons (pe_bltn (v := .ty "bool") (u := .type "bool") (by rfl) B.bool (by decide +kernel) rfl) pa_nil)))) (pss_one (ps_ret (pe_and (pe_callB call_isQ (by rfl) B.isinstance (by decide +kernel) (pa_cons (pv 0) (pa_cons (pe_bltn (v := .ty "bool") (u := .type "bool") (by rfl) B.bool (by decide +kernel) rfl) pa_nil))) (pe_one (pe_cmpR op_eq (pv 0) (pv 1) (nomark _)))))) pss_nil)
      (pss_cons (ps_if (pt_val (pe_callB call_isQ (by rfl) B.isinstance (by decide +kernel) (pa_cons (pv 1) (pa_cons (pe_bltn (v := .ty "int") (u := .type "int") (by rfl) B.int (by decide +kernel) rfl) pa_nil)))) (pss_one (ps_ret (pe_and (pe_callB call_isQ (by rfl) B.isinstance (by decide +kernel) (pa_cons (pv 0) (pa_cons (pe_bltn (v := .ty "int") (u := .type "int") (by rfl) B.int (by decide +kernel) rfl) pa_nil))) (pe_and (pe_not (pe_callB call_isQ (by rfl) B.isinstance (by decide +kernel) (pa_cons (pv 0) (pa_cons (pe_bltn (v := .ty "bool") (u := .type "bool") (by rfl) B.bool (by decide +kernel) rfl) pa_nil)))) (pe_one (pe_cmpR op_eq (pv 0) (pv 1) (nomark _))))))) pss_nil)
      (pss_cons (ps_if (pt_val (pe_callB call_isQ (by rfl) B.isinstance (by decide +kernel) (pa_cons (pv 1) (pa_cons (pe_bltn (v := .ty "str") (u := .type "str") (by rfl) B.str (by decide +kernel) rfl) pa_nil)))) (pss_one (ps_ret (pe_and (pe_callB call_isQ (by rfl) B.isinstance (by decide +kernel) (pa_cons (pv 0) (pa_cons (pe_bltn (v := .ty "str") (u := .type "str") (by rfl) B.str (by decide +kernel) rfl) pa_nil))) (pe_one (pe_cmpR op_eq (pv 0) (pv 1) (nomark _)))))) pss_nil)
      (pss_cons (ps_if (pt_val (pe_callB call_isQ (by rfl) B.isinstance (by decide +kernel) (pa_cons (pv 1) (pa_cons (pe_bltn (v := .ty "list") (u := .type "list") (by rfl) B.list (by decide +kernel) rfl) pa_nil)))) (pss_one (ps_if (pt_not (pt_val (pe_callB call_isQ (by rfl) B.isinstance (by decide +kernel) (pa_cons (pv 0) (pa_cons (pe_bltn (v := .ty "list") (u := .type "list") (by rfl) B.list (by decide +kernel) rfl) pa_nil))))) (pss_one (ps_ret pe_bl)) pss_nil)) (pss_one (ps_if (pt_not (pt_val (pe_callB call_isQ (by rfl) B.isinstance (by decide +kernel) (pa_cons (pv 0) (pa_cons (pe_bltn (v := .ty "tuple") (u := .type "tuple") (by rfl) B.tuple (by decide +kernel) rfl) pa_nil))))) (pss_one (ps_ret pe_bl)) pss_nil)))
      (pss_cons (ps_if (pt_cmpR op_ne (pe_callB call_lenQ (by rfl) B.len PySem.boot_len (pa_cons (pv 0) pa_nil)) (pe_callB call_lenQ (by rfl) B.len PySem.boot_len (pa_cons (pv 1) pa_nil)) (nomark _)) (pss_one (ps_ret pe_bl)) pss_nil)
      (pss_cons (ps_for PassesOwn.never rfl (pi_range1 (by rfl) B.range (pa_cons (pe_callB call_lenQ (by rfl) B.len PySem.boot_len (pa_cons (pv 1) pa_nil)) pa_nil)) (pg_name (i := 2) sc_law_same.nd rfl (.inl rfl)) (pss_one (ps_if (pt_not (pt_val (pe_cl c_law_same hr (by omega) rfl (pa_cons (pe_ix at_seq (pv 0) (pv 2) (fun _ _ => rfl)) (pa_cons (pe_ix at_seq (pv 1) (pv 2) (fun _ _ => rfl)) pa_nil))))) (pss_one (ps_ret pe_bl)) pss_nil)))
      (pss_one (ps_ret pe_bl))))))))), ?_⟩
      rw [show L2.start N_law_same [u, v] = [some u, some v, none] from rfl]
      cases d with
      | non =>
        obtain rfl : u = .non := ru
        obtain rfl : v = .non := rv
        simp only [tSeq, tNext, tDrop, tRet, tRetN, tIfS, tAsg, gName, tAug, ipI, tVar, tC, tOp, tUn, rI, rI0, rU, tCons, tNil, tCB, tTup, tLst, tTest, tB, tAnd, tOr, tNot, tAndV, tOrV, tNotV, tIf, tCl, tCd, tCk, gSub, rPutL, rAtQ, rIntI, rLenQ, rLenS, rListQ, rTupL, rTupQ, rIsQ_c, kd_non, kd_bl, kd_int, kd_str, kd_ref, kdO_lst, kdO_tup, kit_NoneType_bool, kit_NoneType_int, kit_NoneType_str, kit_NoneType_list, kit_NoneType_tuple, kit_bool_bool, kit_bool_int, kit_bool_str, kit_bool_list, kit_bool_tuple, kit_int_bool, kit_int_int, kit_int_str, kit_int_list, kit_int_tuple, kit_str_bool, kit_str_int, kit_str_str, kit_str_list, kit_str_tuple, kit_list_bool, kit_list_int, kit_list_str, kit_list_list, kit_list_tuple, kit_tuple_bool, kit_tuple_int, kit_tuple_str, kit_tuple_list, kit_tuple_tuple, V.ty.injEq, rSortQ, rSlQ, rMulS, tJn, rAtX, rSlS, tSl, tPart, tNoPart, cut_lo2, cut_hi2, rInQ, gLq, gTq, gC_c, gNil, tChain, List.cons_append, List.nil_append, tBL, tBL0, rApp, rPopN, rRevL, seqAt_lst, seqAt_tup, at_0, at_1, at_2, at_3, at_4, ix_0, ix_1, ix_2, ix_3, ix_4, cx_K, upd_same, List.length_cons, List.length_nil, Nat.reduceAdd,  rEq, rNe, tRevL, V.int.injEq, V.bl.injEq, V.str.injEq, V.ref.injEq, List.cons.injEq, and_true, true_and, exists_and_left, exists_and_right, exists_eq_left, exists_eq_left', exists_eq_right, exists_eq_right', exists_const, Option.some.injEq, List.getElem?_cons_zero, List.getElem?_cons_succ, List.set_cons_zero, List.set_cons_succ, decide_eq_true_eq, decide_true, decide_false,  scal_ii, scal_bb, scal_ss, cmul_r, cdiv_l, cpow_12, cpow_18, cpow_40, HO.lst.injEq, HO.tup.injEq, upd_upd, Int.reduceToNat,  decide_not, Bool.not_eq_true', decide_eq_false_iff_not, if_true, if_false, Bool.false_eq_true, Bool.true_eq_false, reduceCtorEq, Int.reduceNeg, Nat.reduceLT, Int.reduceLT, Int.reducePow, gt_iff_lt]
        exact q
      | bl b =>
        obtain rfl : u = .bl b := ru
        obtain rfl : v = .bl b := rv
        simp only [tSeq, tNext, tDrop, tRet, tRetN, tIfS, tAsg, gName, tAug, ipI, tVar, tC, tOp, tUn, rI, rI0, rU, tCons, tNil, tCB, tTup, tLst, tTest, tB, tAnd, tOr, tNot, tAndV, tOrV, tNotV, tIf, tCl, tCd, tCk, gSub, rPutL, rAtQ, rIntI, rLenQ, rLenS, rListQ, rTupL, rTupQ, rIsQ_c, kd_non, kd_bl, kd_int, kd_str, kd_ref, kdO_lst, kdO_tup, kit_NoneType_bool, kit_NoneType_int, kit_NoneType_str, kit_NoneType_list, kit_NoneType_tuple, kit_bool_bool, kit_bool_int, kit_bool_str, kit_bool_list, kit_bool_tuple, kit_int_bool, kit_int_int, kit_int_str, kit_int_list, kit_int_tuple, kit_str_bool, kit_str_int, kit_str_str, kit_str_list, kit_str_tuple, kit_list_bool, kit_list_int, kit_list_str, kit_list_list, kit_list_tuple, kit_tuple_bool, kit_tuple_int, kit_tuple_str, kit_tuple_list, kit_tuple_tuple, V.ty.injEq, rSortQ, rSlQ, rMulS, tJn, rAtX, rSlS, tSl, tPart, tNoPart, cut_lo2, cut_hi2, rInQ, gLq, gTq, gC_c, gNil, tChain, List.cons_append, List.nil_append, tBL, tBL0, rApp, rPopN, rRevL, seqAt_lst, seqAt_tup, at_0, at_1, at_2, at_3, at_4, ix_0, ix_1, ix_2, ix_3, ix_4, cx_K, upd_same, List.length_cons, List.length_nil, Nat.reduceAdd,  rEq, rNe, tRevL, V.int.injEq, V.bl.injEq, V.str.injEq, V.ref.injEq, List.cons.injEq, and_true, true_and, exists_and_left, exists_and_right, exists_eq_left, exists_eq_left', exists_eq_right, exists_eq_right', exists_const, Option.some.injEq, List.getElem?_cons_zero, List.getElem?_cons_succ, List.set_cons_zero, List.set_cons_succ, decide_eq_true_eq, decide_true, decide_false,  scal_ii, scal_bb, scal_ss, cmul_r, cdiv_l, cpow_12, cpow_18, cpow_40, HO.lst.injEq, HO.tup.injEq, upd_upd, Int.reduceToNat,  decide_not, Bool.not_eq_true', decide_eq_false_iff_not, if_true, if_false, Bool.false_eq_true, Bool.true_eq_false, reduceCtorEq, Int.reduceNeg, Nat.reduceLT, Int.reduceLT, Int.reducePow, gt_iff_lt]
        exact q
      | int b =>
        obtain rfl : u = .int b := ru
        obtain rfl : v = .int b := rv
        simp only [tSeq, tNext, tDrop, tRet, tRetN, tIfS, tAsg, gName, tAug, ipI, tVar, tC, tOp, tUn, rI, rI0, rU, tCons, tNil, tCB, tTup, tLst, tTest, tB, tAnd, tOr, tNot, tAndV, tOrV, tNotV, tIf, tCl, tCd, tCk, gSub, rPutL, rAtQ, rIntI, rLenQ, rLenS, rListQ, rTupL, rTupQ, rIsQ_c, kd_non, kd_bl, kd_int, kd_str, kd_ref, kdO_lst, kdO_tup, kit_NoneType_bool, kit_NoneType_int, kit_NoneType_str, kit_NoneType_list, kit_NoneType_tuple, kit_bool_bool, kit_bool_int, kit_bool_str, kit_bool_list, kit_bool_tuple, kit_int_bool, kit_int_int, kit_int_str, kit_int_list, kit_int_tuple, kit_str_bool, kit_str_int, kit_str_str, kit_str_list, kit_str_tuple, kit_list_bool, kit_list_int, kit_list_str, kit_list_list, kit_list_tuple, kit_tuple_bool, kit_tuple_int, kit_tuple_str, kit_tuple_list, kit_tuple_tuple, V.ty.injEq, rSortQ, rSlQ, rMulS, tJn, rAtX, rSlS, tSl, tPart, tNoPart, cut_lo2, cut_hi2, rInQ, gLq, gTq, gC_c, gNil, tChain, List.cons_append, List.nil_append, tBL, tBL0, rApp, rPopN, rRevL, seqAt_lst, seqAt_tup, at_0, at_1, at_2, at_3, at_4, ix_0, ix_1, ix_2, ix_3, ix_4, cx_K, upd_same, List.length_cons, List.length_nil, Nat.reduceAdd,  rEq, rNe, tRevL, V.int.injEq, V.bl.injEq, V.str.injEq, V.ref.injEq, List.cons.injEq, and_true, true_and, exists_and_left, exists_and_right, exists_eq_left, exists_eq_left', exists_eq_right, exists_eq_right', exists_const, Option.some.injEq, List.getElem?_cons_zero, List.getElem?_cons_succ, List.set_cons_zero, List.set_cons_succ, decide_eq_true_eq, decide_true, decide_false,  scal_ii, scal_bb, scal_ss, cmul_r, cdiv_l, cpow_12, cpow_18, cpow_40, HO.lst.injEq, HO.tup.injEq, upd_upd, Int.reduceToNat,  decide_not, Bool.not_eq_true', decide_eq_false_iff_not, if_true, if_false, Bool.false_eq_true, Bool.true_eq_false, reduceCtorEq, Int.reduceNeg, Nat.reduceLT, Int.reduceLT, Int.reducePow, gt_iff_lt]
        exact q
      | str b =>
        obtain rfl : u = .str b := ru
        obtain rfl : v = .str b := rv
        simp only [tSeq, tNext, tDrop, tRet, tRetN, tIfS, tAsg, gName, tAug, ipI, tVar, tC, tOp, tUn, rI, rI0, rU, tCons, tNil, tCB, tTup, tLst, tTest, tB, tAnd, tOr, tNot, tAndV, tOrV, tNotV, tIf, tCl, tCd, tCk, gSub, rPutL, rAtQ, rIntI, rLenQ, rLenS, rListQ, rTupL, rTupQ, rIsQ_c, kd_non, kd_bl, kd_int, kd_str, kd_ref, kdO_lst, kdO_tup, kit_NoneType_bool, kit_NoneType_int, kit_NoneType_str, kit_NoneType_list, kit_NoneType_tuple, kit_bool_bool, kit_bool_int, kit_bool_str, kit_bool_list, kit_bool_tuple, kit_int_bool, kit_int_int, kit_int_str, kit_int_list, kit_int_tuple, kit_str_bool, kit_str_int, kit_str_str, kit_str_list, kit_str_tuple, kit_list_bool, kit_list_int, kit_list_str, kit_list_list, kit_list_tuple, kit_tuple_bool, kit_tuple_int, kit_tuple_str, kit_tuple_list, kit_tuple_tuple, V.ty.injEq, rSortQ, rSlQ, rMulS, tJn, rAtX, rSlS, tSl, tPart, tNoPart, cut_lo2, cut_hi2, rInQ, gLq, gTq, gC_c, gNil, tChain, List.cons_append, List.nil_append, tBL, tBL0, rApp, rPopN, rRevL, seqAt_lst, seqAt_tup, at_0, at_1, at_2, at_3, at_4, ix_0, ix_1, ix_2, ix_3, ix_4, cx_K, upd_same, List.length_cons, List.length_nil, Nat.reduceAdd,  rEq, rNe, tRevL, V.int.injEq, V.bl.injEq, V.str.injEq, V.ref.injEq, List.cons.injEq, and_true, true_and, exists_and_left, exists_and_right, exists_eq_left, exists_eq_left', exists_eq_right, exists_eq_right', exists_const, Option.some.injEq, List.getElem?_cons_zero, List.getElem?_cons_succ, List.set_cons_zero, List.set_cons_succ, decide_eq_true_eq, decide_true, decide_false,  scal_ii, scal_bb, scal_ss, cmul_r, cdiv_l, cpow_12, cpow_18, cpow_40, HO.lst.injEq, HO.tup.injEq, upd_upd, Int.reduceToNat,  decide_not, Bool.not_eq_true', decide_eq_false_iff_not, if_true, if_false, Bool.false_eq_true, Bool.true_eq_false, reduceCtorEq, Int.reduceNeg, Nat.reduceLT, Int.reduceLT, Int.reducePow, gt_iff_lt]
        exact q
      | lst ds =>
        obtain ⟨a, xs, rfl, na, ha, hx, pa⟩ := ru
        obtain ⟨b, ys, rfl, nb, hb, hy, pb⟩ := rv
        have sa : seqAt (H a) = some xs := by rw [ha] <;> rfl
        have sb : seqAt (H b) = some ys := by rw [hb] <;> rfl
        simp only [tSeq, tNext, tDrop, tRet, tRetN, tIfS, tAsg, gName, tAug, ipI, tVar, tC, tOp, tUn, rI, rI0, rU, tCons, tNil, tCB, tTup, tLst, tTest, tB, tAnd, tOr, tNot, tAndV, tOrV, tNotV, tIf, tCl, tCd, tCk, gSub, rPutL, rAtQ, rIntI, rLenQ, rLenS, rListQ, rTupL, rTupQ, rIsQ_c, kd_non, kd_bl, kd_int, kd_str, kd_ref, kdO_lst, kdO_tup, kit_NoneType_bool, kit_NoneType_int, kit_NoneType_str, kit_NoneType_list, kit_NoneType_tuple, kit_bool_bool, kit_bool_int, kit_bool_str, kit_bool_list, kit_bool_tuple, kit_int_bool, kit_int_int, kit_int_str, kit_int_list, kit_int_tuple, kit_str_bool, kit_str_int, kit_str_str, kit_str_list, kit_str_tuple, kit_list_bool, kit_list_int, kit_list_str, kit_list_list, kit_list_tuple, kit_tuple_bool, kit_tuple_int, kit_tuple_str, kit_tuple_list, kit_tuple_tuple, V.ty.injEq, rSortQ, rSlQ, rMulS, tJn, rAtX, rSlS, tSl, tPart, tNoPart, cut_lo2, cut_hi2, rInQ, gLq, gTq, gC_c, gNil, tChain, List.cons_append, List.nil_append, tBL, tBL0, rApp, rPopN, rRevL, seqAt_lst, seqAt_tup, at_0, at_1, at_2, at_3, at_4, ix_0, ix_1, ix_2, ix_3, ix_4, cx_K, upd_same, List.length_cons, List.length_nil, Nat.reduceAdd,  rEq, rNe, tRevL, V.int.injEq, V.bl.injEq, V.str.injEq, V.ref.injEq, List.cons.injEq, and_true, true_and, exists_and_left, exists_and_right, exists_eq_left, exists_eq_left', exists_eq_right, exists_eq_right', exists_const, Option.some.injEq, List.getElem?_cons_zero, List.getElem?_cons_succ, List.set_cons_zero, List.set_cons_succ, decide_eq_true_eq, decide_true, decide_false,  scal_ii, scal_bb, scal_ss, cmul_r, cdiv_l, cpow_12, cpow_18, cpow_40, HO.lst.injEq, HO.tup.injEq, upd_upd, Int.reduceToNat,  decide_not, Bool.not_eq_true', decide_eq_false_iff_not, if_true, if_false, Bool.false_eq_true, Bool.true_eq_false, reduceCtorEq, Int.reduceNeg, Nat.reduceLT, Int.reduceLT, Int.reducePow, gt_iff_lt, ha, hb]
        have la := paired_len pa
        have lb := paired_len pb
        split
        · rename_i e
          exact absurd (show (xs.length : Int) = ys.length by omega) e
        · refine z_forR ys.length (fun Q q => ?_) (by omega) (fun i σ' H' => ∃ k : Option V, σ' = [some (.ref a), some (.ref b), k] ∧ H' = H) ⟨none, rfl, rfl⟩ (fun i σ' H' hi hI => ?_) (fun σ' H' hI => ?_)
          · simp only [tSeq, tNext, tDrop, tRet, tRetN, tIfS, tAsg, gName, tAug, ipI, tVar, tC, tOp, tUn, rI, rI0, rU, tCons, tNil, tCB, tTup, tLst, tTest, tB, tAnd, tOr, tNot, tAndV, tOrV, tNotV, tIf, tCl, tCd, tCk, gSub, rPutL, rAtQ, rIntI, rLenQ, rLenS, rListQ, rTupL, rTupQ, rIsQ_c, kd_non, kd_bl, kd_int, kd_str, kd_ref, kdO_lst, kdO_tup, kit_NoneType_bool, kit_NoneType_int, kit_NoneType_str, kit_NoneType_list, kit_NoneType_tuple, kit_bool_bool, kit_bool_int, kit_bool_str, kit_bool_list, kit_bool_tuple, kit_int_bool, kit_int_int, kit_int_str, kit_int_list, kit_int_tuple, kit_str_bool, kit_str_int, kit_str_str, kit_str_list, kit_str_tuple, kit_list_bool, kit_list_int, kit_list_str, kit_list_list, kit_list_tuple, kit_tuple_bool, kit_tuple_int, kit_tuple_str, kit_tuple_list, kit_tuple_tuple, V.ty.injEq, rSortQ, rSlQ, rMulS, tJn, rAtX, rSlS, tSl, tPart, tNoPart, cut_lo2, cut_hi2, rInQ, gLq, gTq, gC_c, gNil, tChain, List.cons_append, List.nil_append, tBL, tBL0, rApp, rPopN, rRevL, seqAt_lst, seqAt_tup, at_0, at_1, at_2, at_3, at_4, ix_0, ix_1, ix_2, ix_3, ix_4, cx_K, upd_same, List.length_cons, List.length_nil, Nat.reduceAdd,  rEq, rNe, tRevL, V.int.injEq, V.bl.injEq, V.str.injEq, V.ref.injEq, List.cons.injEq, and_true, true_and, exists_and_left, exists_and_right, exists_eq_left, exists_eq_left', exists_eq_right, exists_eq_right', exists_const, Option.some.injEq, List.getElem?_cons_zero, List.getElem?_cons_succ, List.set_cons_zero, List.set_cons_succ, decide_eq_true_eq, decide_true, decide_false,  scal_ii, scal_bb, scal_ss, cmul_r, cdiv_l, cpow_12, cpow_18, cpow_40, HO.lst.injEq, HO.tup.injEq, upd_upd, Int.reduceToNat,  decide_not, Bool.not_eq_true', decide_eq_false_iff_not, if_true, if_false, Bool.false_eq_true, Bool.true_eq_false, reduceCtorEq, Int.reduceNeg, Nat.reduceLT, Int.reduceLT, Int.reducePow, gt_iff_lt, sb]
            exact q
          · obtain ⟨k, rfl, rfl⟩ := hI
            have e1 : xs[i]? = some xs[i] := List.getElem?_eq_getElem (by omega)
            have e2 : ys[i]? = some ys[i] := List.getElem?_eq_getElem (by omega)
            obtain ⟨d1, g1, r1⟩ := paired_get pa e1
            obtain ⟨d2, g2, r2⟩ := paired_get pb e2
            obtain rfl : d1 = d2 := Option.some.inj (g1.symm.trans g2)
            simp only [tSeq, tNext, tDrop, tRet, tRetN, tIfS, tAsg, gName, tAug, ipI, tVar, tC, tOp, tUn, rI, rI0, rU, tCons, tNil, tCB, tTup, tLst, tTest, tB, tAnd, tOr, tNot, tAndV, tOrV, tNotV, tIf, tCl, tCd, tCk, gSub, rPutL, rAtQ, rIntI, rLenQ, rLenS, rListQ, rTupL, rTupQ, rIsQ_c, kd_non, kd_bl, kd_int, kd_str, kd_ref, kdO_lst, kdO_tup, kit_NoneType_bool, kit_NoneType_int, kit_NoneType_str, kit_NoneType_list, kit_NoneType_tuple, kit_bool_bool, kit_bool_int, kit_bool_str, kit_bool_list, kit_bool_tuple, kit_int_bool, kit_int_int, kit_int_str, kit_int_list, kit_int_tuple, kit_str_bool, kit_str_int, kit_str_str, kit_str_list, kit_str_tuple, kit_list_bool, kit_list_int, kit_list_str, kit_list_list, kit_list_tuple, kit_tuple_bool, kit_tuple_int, kit_tuple_str, kit_tuple_list, kit_tuple_tuple, V.ty.injEq, rSortQ, rSlQ, rMulS, tJn, rAtX, rSlS, tSl, tPart, tNoPart, cut_lo2, cut_hi2, rInQ, gLq, gTq, gC_c, gNil, tChain, List.cons_append, List.nil_append, tBL, tBL0, rApp, rPopN, rRevL, seqAt_lst, seqAt_tup, at_0, at_1, at_2, at_3, at_4, ix_0, ix_1, ix_2, ix_3, ix_4, cx_K, upd_same, List.length_cons, List.length_nil, Nat.reduceAdd,  rEq, rNe, tRevL, V.int.injEq, V.bl.injEq, V.str.injEq, V.ref.injEq, List.cons.injEq, and_true, true_and, exists_and_left, exists_and_right, exists_eq_left, exists_eq_left', exists_eq_right, exists_eq_right', exists_const, Option.some.injEq, List.getElem?_cons_zero, List.getElem?_cons_succ, List.set_cons_zero, List.set_cons_succ, decide_eq_true_eq, decide_true, decide_false,  scal_ii, scal_bb, scal_ss, cmul_r, cdiv_l, cpow_12, cpow_18, cpow_40, HO.lst.injEq, HO.tup.injEq, upd_upd, Int.reduceToNat,  decide_not, Bool.not_eq_true', decide_eq_false_iff_not, if_true, if_false, Bool.false_eq_true, Bool.true_eq_false, reduceCtorEq, Int.reduceNeg, Nat.reduceLT, Int.reduceLT, Int.reducePow, gt_iff_lt, sa, sb, atI_nat e1, atI_nat e2]
            refine ⟨N, _, _, d1, rfl, r1, r2, ?_⟩
            simp only [tSeq, tNext, tDrop, tRet, tRetN, tIfS, tAsg, gName, tAug, ipI, tVar, tC, tOp, tUn, rI, rI0, rU, tCons, tNil, tCB, tTup, tLst, tTest, tB, tAnd, tOr, tNot, tAndV, tOrV, tNotV, tIf, tCl, tCd, tCk, gSub, rPutL, rAtQ, rIntI, rLenQ, rLenS, rListQ, rTupL, rTupQ, rIsQ_c, kd_non, kd_bl, kd_int, kd_str, kd_ref, kdO_lst, kdO_tup, kit_NoneType_bool, kit_NoneType_int, kit_NoneType_str, kit_NoneType_list, kit_NoneType_tuple, kit_bool_bool, kit_bool_int, kit_bool_str, kit_bool_list, kit_bool_tuple, kit_int_bool, kit_int_int, kit_int_str, kit_int_list, kit_int_tuple, kit_str_bool, kit_str_int, kit_str_str, kit_str_list, kit_str_tuple, kit_list_bool, kit_list_int, kit_list_str, kit_list_list, kit_list_tuple, kit_tuple_bool, kit_tuple_int, kit_tuple_str, kit_tuple_list, kit_tuple_tuple, V.ty.injEq, rSortQ, rSlQ, rMulS, tJn, rAtX, rSlS, tSl, tPart, tNoPart, cut_lo2, cut_hi2, rInQ, gLq, gTq, gC_c, gNil, tChain, List.cons_append, List.nil_append, tBL, tBL0, rApp, rPopN, rRevL, seqAt_lst, seqAt_tup, at_0, at_1, at_2, at_3, at_4, ix_0, ix_1, ix_2, ix_3, ix_4, cx_K, upd_same, List.length_cons, List.length_nil, Nat.reduceAdd,  rEq, rNe, tRevL, V.int.injEq, V.bl.injEq, V.str.injEq, V.ref.injEq, List.cons.injEq, and_true, true_and, exists_and_left, exists_and_right, exists_eq_left, exists_eq_left', exists_eq_right, exists_eq_right', exists_const, Option.some.injEq, List.getElem?_cons_zero, List.getElem?_cons_succ, List.set_cons_zero, List.set_cons_succ, decide_eq_true_eq, decide_true, decide_false,  scal_ii, scal_bb, scal_ss, cmul_r, cdiv_l, cpow_12, cpow_18, cpow_40, HO.lst.injEq, HO.tup.injEq, upd_upd, Int.reduceToNat,  decide_not, Bool.not_eq_true', decide_eq_false_iff_not, if_true, if_false, Bool.false_eq_true, Bool.true_eq_false, reduceCtorEq, Int.reduceNeg, Nat.reduceLT, Int.reduceLT, Int.reducePow, gt_iff_lt]
            exact ⟨_, rfl⟩
          · obtain ⟨k, rfl, rfl⟩ := hI
            simp only [tSeq, tNext, tDrop, tRet, tRetN, tIfS, tAsg, gName, tAug, ipI, tVar, tC, tOp, tUn, rI, rI0, rU, tCons, tNil, tCB, tTup, tLst, tTest, tB, tAnd, tOr, tNot, tAndV, tOrV, tNotV, tIf, tCl, tCd, tCk, gSub, rPutL, rAtQ, rIntI, rLenQ, rLenS, rListQ, rTupL, rTupQ, rIsQ_c, kd_non, kd_bl, kd_int, kd_str, kd_ref, kdO_lst, kdO_tup, kit_NoneType_bool, kit_NoneType_int, kit_NoneType_str, kit_NoneType_list, kit_NoneType_tuple, kit_bool_bool, kit_bool_int, kit_bool_str, kit_bool_list, kit_bool_tuple, kit_int_bool, kit_int_int, kit_int_str, kit_int_list, kit_int_tuple, kit_str_bool, kit_str_int, kit_str_str, kit_str_list, kit_str_tuple, kit_list_bool, kit_list_int, kit_list_str, kit_list_list, kit_list_tuple, kit_tuple_bool, kit_tuple_int, kit_tuple_str, kit_tuple_list, kit_tuple_tuple, V.ty.injEq, rSortQ, rSlQ, rMulS, tJn, rAtX, rSlS, tSl, tPart, tNoPart, cut_lo2, cut_hi2, rInQ, gLq, gTq, gC_c, gNil, tChain, List.cons_append, List.nil_append, tBL, tBL0, rApp, rPopN, rRevL, seqAt_lst, seqAt_tup, at_0, at_1, at_2, at_3, at_4, ix_0, ix_1, ix_2, ix_3, ix_4, cx_K, upd_same, List.length_cons, List.length_nil, Nat.reduceAdd,  rEq, rNe, tRevL, V.int.injEq, V.bl.injEq, V.str.injEq, V.ref.injEq, List.cons.injEq, and_true, true_and, exists_and_left, exists_and_right, exists_eq_left, exists_eq_left', exists_eq_right, exists_eq_right', exists_const, Option.some.injEq, List.getElem?_cons_zero, List.getElem?_cons_succ, List.set_cons_zero, List.set_cons_succ, decide_eq_true_eq, decide_true, decide_false,  scal_ii, scal_bb, scal_ss, cmul_r, cdiv_l, cpow_12, cpow_18, cpow_40, HO.lst.injEq, HO.tup.injEq, upd_upd, Int.reduceToNat,  decide_not, Bool.not_eq_true', decide_eq_false_iff_not, if_true, if_false, Bool.false_eq_true, Bool.true_eq_false, reduceCtorEq, Int.reduceNeg, Nat.reduceLT, Int.reduceLT, Int.reducePow, gt_iff_lt]
            exact q
      | tup ds =>
        obtain ⟨a, xs, rfl, na, ha, hx, pa⟩ := ru
        obtain ⟨b, ys, rfl, nb, hb, hy, pb⟩ := rv
        have sa : seqAt (H a) = some xs := by rw [ha] <;> rfl
        have sb : seqAt (H b) = some ys := by rw [hb] <;> rfl
        simp only [tSeq, tNext, tDrop, tRet, tRetN, tIfS, tAsg, gName, tAug, ipI, tVar, tC, tOp, tUn, rI, rI0, rU, tCons, tNil, tCB, tTup, tLst, tTest, tB, tAnd, tOr, tNot, tAndV, tOrV, tNotV, tIf, tCl, tCd, tCk, gSub, rPutL, rAtQ, rIntI, rLenQ, rLenS, rListQ, rTupL, rTupQ, rIsQ_c, kd_non, kd_bl, kd_int, kd_str, kd_ref, kdO_lst, kdO_tup, kit_NoneType_bool, kit_NoneType_int, kit_NoneType_str, kit_NoneType_list, kit_NoneType_tuple, kit_bool_bool, kit_bool_int, kit_bool_str, kit_bool_list, kit_bool_tuple, kit_int_bool, kit_int_int, kit_int_str, kit_int_list, kit_int_tuple, kit_str_bool, kit_str_int, kit_str_str, kit_str_list, kit_str_tuple, kit_list_bool, kit_list_int, kit_list_str, kit_list_list, kit_list_tuple, kit_tuple_bool, kit_tuple_int, kit_tuple_str, kit_tuple_list, kit_tuple_tuple, V.ty.injEq, rSortQ, rSlQ, rMulS, tJn, rAtX, rSlS, tSl, tPart, tNoPart, cut_lo2, cut_hi2, rInQ, gLq, gTq, gC_c, gNil, tChain, List.cons_append, List.nil_append, tBL, tBL0, rApp, rPopN, rRevL, seqAt_lst, seqAt_tup, at_0, at_1, at_2, at_3, at_4, ix_0, ix_1, ix_2, ix_3, ix_4, cx_K, upd_same, List.length_cons, List.length_nil, Nat.reduceAdd,  rEq, rNe, tRevL, V.int.injEq, V.bl.injEq, V.str.injEq, V.ref.injEq, List.cons.injEq, and_true, true_and, exists_and_left, exists_and_right, exists_eq_left, exists_eq_left', exists_eq_right, exists_eq_right', exists_const, Option.some.injEq, List.getElem?_cons_zero, List.getElem?_cons_succ, List.set_cons_zero, List.set_cons_succ, decide_eq_true_eq, decide_true, decide_false,  scal_ii, scal_bb, scal_ss, cmul_r, cdiv_l, cpow_12, cpow_18, cpow_40, HO.lst.injEq, HO.tup.injEq, upd_upd, Int.reduceToNat,  decide_not, Bool.not_eq_true', decide_eq_false_iff_not, if_true, if_false, Bool.false_eq_true, Bool.true_eq_false, reduceCtorEq, Int.reduceNeg, Nat.reduceLT, Int.reduceLT, Int.reducePow, gt_iff_lt, ha, hb]
        have la := paired_len pa
        have lb := paired_len pb
        split
        · rename_i e
          exact absurd (show (xs.length : Int) = ys.length by omega) e
        · refine z_forR ys.length (fun Q q => ?_) (by omega) (fun i σ' H' => ∃ k : Option V, σ' = [some (.ref a), some (.ref b), k] ∧ H' = H) ⟨none, rfl, rfl⟩ (fun i σ' H' hi hI => ?_) (fun σ' H' hI => ?_)
          · simp only [tSeq, tNext, tDrop, tRet, tRetN, tIfS, tAsg, gName, tAug, ipI, tVar, tC, tOp, tUn, rI, rI0, rU, tCons, tNil, tCB, tTup, tLst, tTest, tB, tAnd, tOr, tNot, tAndV, tOrV, tNotV, tIf, tCl, tCd, tCk, gSub, rPutL, rAtQ, rIntI, rLenQ, rLenS, rListQ, rTupL, rTupQ, rIsQ_c, kd_non, kd_bl, kd_int, kd_str, kd_ref, kdO_lst, kdO_tup, kit_NoneType_bool, kit_NoneType_int, kit_NoneType_str, kit_NoneType_list, kit_NoneType_tuple, kit_bool_bool, kit_bool_int, kit_bool_str, kit_bool_list, kit_bool_tuple, kit_int_bool, kit_int_int, kit_int_str, kit_int_list, kit_int_tuple, kit_str_bool, kit_str_int, kit_str_str, kit_str_list, kit_str_tuple, kit_list_bool, kit_list_int, kit_list_str, kit_list_list, kit_list_tuple, kit_tuple_bool, kit_tuple_int, kit_tuple_str, kit_tuple_list, kit_tuple_tuple, V.ty.injEq, rSortQ, rSlQ, rMulS, tJn, rAtX, rSlS, tSl, tPart, tNoPart, cut_lo2, cut_hi2, rInQ, gLq, gTq, gC_c, gNil, tChain, List.cons_append, List.nil_append, tBL, tBL0, rApp, rPopN, rRevL, seqAt_lst, seqAt_tup, at_0, at_1, at_2, at_3, at_4, ix_0, ix_1, ix_2, ix_3, ix_4, cx_K, upd_same, List.length_cons, List.length_nil, Nat.reduceAdd,  rEq, rNe, tRevL, V.int.injEq, V.bl.injEq, V.str.injEq, V.ref.injEq, List.cons.injEq, and_true, true_and, exists_and_left, exists_and_right, exists_eq_left, exists_eq_left', exists_eq_right, exists_eq_right', exists_const, Option.some.injEq, List.getElem?_cons_zero, List.getElem?_cons_succ, List.set_cons_zero, List.set_cons_succ, decide_eq_true_eq, decide_true, decide_false,  scal_ii, scal_bb, scal_ss, cmul_r, cdiv_l, cpow_12, cpow_18, cpow_40, HO.lst.injEq, HO.tup.injEq, upd_upd, Int.reduceToNat,  decide_not, Bool.not_eq_true', decide_eq_false_iff_not, if_true, if_false, Bool.false_eq_true, Bool.true_eq_false, reduceCtorEq, Int.reduceNeg, Nat.reduceLT, Int.reduceLT, Int.reducePow, gt_iff_lt, sb]
            exact q
          · obtain ⟨k, rfl, rfl⟩ := hI
            have e1 : xs[i]? = some xs[i] := List.getElem?_eq_getElem (by omega)
            have e2 : ys[i]? = some ys[i] := List.getElem?_eq_getElem (by omega)
            obtain ⟨d1, g1, r1⟩ := paired_get pa e1
            obtain ⟨d2, g2, r2⟩ := paired_get pb e2
            obtain rfl : d1 = d2 := Option.some.inj (g1.symm.trans g2)
            simp only [tSeq, tNext, tDrop, tRet, tRetN, tIfS, tAsg, gName, tAug, ipI, tVar, tC, tOp, tUn, rI, rI0, rU, tCons, tNil, tCB, tTup, tLst, tTest, tB, tAnd, tOr, tNot, tAndV, tOrV, tNotV, tIf, tCl, tCd, tCk, gSub, rPutL, rAtQ, rIntI, rLenQ, rLenS, rListQ, rTupL, rTupQ, rIsQ_c, kd_non, kd_bl, kd_int, kd_str, kd_ref, kdO_lst, kdO_tup, kit_NoneType_bool, kit_NoneType_int, kit_NoneType_str, kit_NoneType_list, kit_NoneType_tuple, kit_bool_bool, kit_bool_int, kit_bool_str, kit_bool_list, kit_bool_tuple, kit_int_bool, kit_int_int, kit_int_str, kit_int_list, kit_int_tuple, kit_str_bool, kit_str_int, kit_str_str, kit_str_list, kit_str_tuple, kit_list_bool, kit_list_int, kit_list_str, kit_list_list, kit_list_tuple, kit_tuple_bool, kit_tuple_int, kit_tuple_str, kit_tuple_list, kit_tuple_tuple, V.ty.injEq, rSortQ, rSlQ, rMulS, tJn, rAtX, rSlS, tSl, tPart, tNoPart, cut_lo2, cut_hi2, rInQ, gLq, gTq, gC_c, gNil, tChain, List.cons_append, List.nil_append, tBL, tBL0, rApp, rPopN, rRevL, seqAt_lst, seqAt_tup, at_0, at_1, at_2, at_3, at_4, ix_0, ix_1, ix_2, ix_3, ix_4, cx_K, upd_same, List.length_cons, List.length_nil, Nat.reduceAdd,  rEq, rNe, tRevL, V.int.injEq, V.bl.injEq, V.str.injEq, V.ref.injEq, List.cons.injEq, and_true, true_and, exists_and_left, exists_and_right, exists_eq_left, exists_eq_left', exists_eq_right, exists_eq_right', exists_const, Option.some.injEq, List.getElem?_cons_zero, List.getElem?_cons_succ, List.set_cons_zero, List.set_cons_succ, decide_eq_true_eq, decide_true, decide_false,  scal_ii, scal_bb, scal_ss, cmul_r, cdiv_l, cpow_12, cpow_18, cpow_40, HO.lst.injEq, HO.tup.injEq, upd_upd, Int.reduceToNat,  decide_not, Bool.not_eq_true', decide_eq_false_iff_not, if_true, if_false, Bool.false_eq_true, Bool.true_eq_false, reduceCtorEq, Int.reduceNeg, Nat.reduceLT, Int.reduceLT, Int.reducePow, gt_iff_lt, sa, sb, atI_nat e1, atI_nat e2]
            refine ⟨N, _, _, d1, rfl, r1, r2, ?_⟩
            simp only [tSeq, tNext, tDrop, tRet, tRetN, tIfS, tAsg, gName, tAug, ipI, tVar, tC, tOp, tUn, rI, rI0, rU, tCons, tNil, tCB, tTup, tLst, tTest, tB, tAnd, tOr, tNot, tAndV, tOrV, tNotV, tIf, tCl, tCd, tCk, gSub, rPutL, rAtQ, rIntI, rLenQ, rLenS, rListQ, rTupL, rTupQ, rIsQ_c, kd_non, kd_bl, kd_int, kd_str, kd_ref, kdO_lst, kdO_tup, kit_NoneType_bool, kit_NoneType_int, kit_NoneType_str, kit_NoneType_list, kit_NoneType_tuple, kit_bool_bool, kit_bool_int, kit_bool_str, kit_bool_list, kit_bool_tuple, kit_int_bool, kit_int_int, kit_int_str, kit_int_list, kit_int_tuple, kit_str_bool, kit_str_int, kit_str_str, kit_str_list, kit_str_tuple, kit_list_bool, kit_list_int, kit_list_str, kit_list_list, kit_list_tuple, kit_tuple_bool, kit_tuple_int, kit_tuple_str, kit_tuple_list, kit_tuple_tuple, V.ty.injEq, rSortQ, rSlQ, rMulS, tJn, rAtX, rSlS, tSl, tPart, tNoPart, cut_lo2, cut_hi2, rInQ, gLq, gTq, gC_c, gNil, tChain, List.cons_append, List.nil_append, tBL, tBL0, rApp, rPopN, rRevL, seqAt_lst, seqAt_tup, at_0, at_1, at_2, at_3, at_4, ix_0, ix_1, ix_2, ix_3, ix_4, cx_K, upd_same, List.length_cons, List.length_nil, Nat.reduceAdd,  rEq, rNe, tRevL, V.int.injEq, V.bl.injEq, V.str.injEq, V.ref.injEq, List.cons.injEq, and_true, true_and, exists_and_left, exists_and_right, exists_eq_left, exists_eq_left', exists_eq_right, exists_eq_right', exists_const, Option.some.injEq, List.getElem?_cons_zero, List.getElem?_cons_succ, List.set_cons_zero, List.set_cons_succ, decide_eq_true_eq, decide_true, decide_false,  scal_ii, scal_bb, scal_ss, cmul_r, cdiv_l, cpow_12, cpow_18, cpow_40, HO.lst.injEq, HO.tup.injEq, upd_upd, Int.reduceToNat,  decide_not, Bool.not_eq_true', decide_eq_false_iff_not, if_true, if_false, Bool.false_eq_true, Bool.true_eq_false, reduceCtorEq, Int.reduceNeg, Nat.reduceLT, Int.reduceLT, Int.reducePow, gt_iff_lt]
            exact ⟨_, rfl⟩
          · obtain ⟨k, rfl, rfl⟩ := hI
            simp only [tSeq, tNext, tDrop, tRet, tRetN, tIfS, tAsg, gName, tAug, ipI, tVar, tC, tOp, tUn, rI, rI0, rU, tCons, tNil, tCB, tTup, tLst, tTest, tB, tAnd, tOr, tNot, tAndV, tOrV, tNotV, tIf, tCl, tCd, tCk, gSub, rPutL, rAtQ, rIntI, rLenQ, rLenS, rListQ, rTupL, rTupQ, rIsQ_c, kd_non, kd_bl, kd_int, kd_str, kd_ref, kdO_lst, kdO_tup, kit_NoneType_bool, kit_NoneType_int, kit_NoneType_str, kit_NoneType_list, kit_NoneType_tuple, kit_bool_bool, kit_bool_int, kit_bool_str, kit_bool_list, kit_bool_tuple, kit_int_bool, kit_int_int, kit_int_str, kit_int_list, kit_int_tuple, kit_str_bool, kit_str_int, kit_str_str, kit_str_list, kit_str_tuple, kit_list_bool, kit_list_int, kit_list_str, kit_list_list, kit_list_tuple, kit_tuple_bool, kit_tuple_int, kit_tuple_str, kit_tuple_list, kit_tuple_tuple, V.ty.injEq, rSortQ, rSlQ, rMulS, tJn, rAtX, rSlS, tSl, tPart, tNoPart, cut_lo2, cut_hi2, rInQ, gLq, gTq, gC_c, gNil, tChain, List.cons_append, List.nil_append, tBL, tBL0, rApp, rPopN, rRevL, seqAt_lst, seqAt_tup, at_0, at_1, at_2, at_3, at_4, ix_0, ix_1, ix_2, ix_3, ix_4, cx_K, upd_same, List.length_cons, List.length_nil, Nat.reduceAdd,  rEq, rNe, tRevL, V.int.injEq, V.bl.injEq, V.str.injEq, V.ref.injEq, List.cons.injEq, and_true, true_and, exists_and_left, exists_and_right, exists_eq_left, exists_eq_left', exists_eq_right, exists_eq_right', exists_const, Option.some.injEq, List.getElem?_cons_zero, List.getElem?_cons_succ, List.set_cons_zero, List.set_cons_succ, decide_eq_true_eq, decide_true, decide_false,  scal_ii, scal_bb, scal_ss, cmul_r, cdiv_l, cpow_12, cpow_18, cpow_40, HO.lst.injEq, HO.tup.injEq, upd_upd, Int.reduceToNat,  decide_not, Bool.not_eq_true', decide_eq_false_iff_not, if_true, if_false, Bool.false_eq_true, Bool.true_eq_false, reduceCtorEq, Int.reduceNeg, Nat.reduceLT, Int.reduceLT, Int.reducePow, gt_iff_lt]
            exact q
abbrev s_law_copy : Stmt := topS 47
abbrev N_law_copy : List Str := ["thing", "part"]
theorem sc_law_copy : FnScope N_law_copy ["thing"] (defScope s_law_copy) := ⟨rfl, rfl, rfl, by decide +kernel, rfl, by decide +kernel, by decide +kernel⟩
theorem b_law_copy : BindO "_law_copy" s_law_copy ["thing"] := fun _ _ _ _ _ _ us hl => match us, hl with | [_], _ => rfl

/-- the same data, at new places -/
def sp_copy (n : Nat) : Sp := fun vs H Q _ => ∃ (N : Addr → Prop) (u : V) (d : Dt), vs = [u] ∧ Rp N H n u d ∧ (∀ p, H p = none → N p) ∧ ∀ (v : V) (H' : Hp), Same H H' → Rp N H' n v d → Q v H'
theorem ok_copy (D : Dn K mg "_law_copy" s_law_copy) (B : Blt mg) : ∀ n, Cl P w K mg base n "_law_copy" (sp_copy n)
  | 0 => cl_none D b_law_copy fun vs H Q E ⟨_, _, _, _, z, _⟩ => z
  | n + 1 => by
    have c_law_copy := ok_copy D B n
    refine cl_of D sc_law_copy b_law_copy (fun vs H Q E h => ?_) (fun f cdv A outer s H vs Q E hr h => ?_)
    · obtain ⟨_, u, d, rfl, _⟩ := h
      rfl
    · obtain ⟨N, u, d, rfl, ru, hN, q⟩ := h
      refine ⟨_, (pss_cons (ps_if (pt_val (pe_callB call_isQ (by rfl) B.isinstance (by decide +kernel) (pa_cons (pv 0) (pa_cons (pe_bltn (v := .ty "list") (u := .type "list") (by rfl) B.list (by decide +kernel) rfl) pa_nil)))) (pss_one (ps_ret (pe_lc (own := [("part", 1)]) (g := gName 1) rfl sc_law_copy.nd (pi_list (pv 0)) (blkOk_by (N := N_law_copy) (sc := defScope s_law_copy) (own := [("part", 1)]) (by decide +kernel)) (fun _ _ _ _ _ => pg_name (i := 1) sc_law_copy.nd rfl (Or.inl rfl)) (fun _ _ _ _ _ => pts_nil) (fun _ _ _ _ _ => (pe_cl c_law_copy hr (by omega) rfl (pa_cons (pv 1) pa_nil)))))) pss_nil)
      (pss_cons (ps_if (pt_val (pe_callB call_isQ (by rfl) B.isinstance (by decide +kernel) (pa_cons (pv 0) (pa_cons (pe_bltn (v := .ty "tuple") (u := .type "tuple") (by rfl) B.tuple (by decide +kernel) rfl) pa_nil)))) (pss_one (ps_ret (pe_callTy call_tupL (by rfl) B.tuple (by decide +kernel) (pa_cons (pe_lc (own := [("part", 1)]) (g := gName 1) rfl sc_law_copy.nd (pi_tup (pv 0)) (blkOk_by (N := N_law_copy) (sc := defScope s_law_copy) (own := [("part", 1)]) (by decide +kernel)) (fun _ _ _ _ _ => pg_name (i := 1) sc_law_copy.nd rfl (Or.inl rfl)) (fun _ _ _ _ _ => pts_nil) (fun _ _ _ _ _ => (pe_cl c_law_copy hr (by omega) rfl (pa_cons (pv 1) pa_nil)))) pa_nil)))) pss_nil)
      (pss_one (ps_ret (pv 0))))), ?_⟩
      rw [show L2.start N_law_copy [u] = [some u, none] from rfl]
      cases d with
      | non =>
        obtain rfl : u = .non := ru
        simp only [tSeq, tNext, tDrop, tRet, tRetN, tIfS, tAsg, gName, tAug, ipI, tVar, tC, tOp, tUn, rI, rI0, rU, tCons, tNil, tCB, tTup, tLst, tTest, tB, tAnd, tOr, tNot, tAndV, tOrV, tNotV, tIf, tCl, tCd, tCk, gSub, rPutL, rAtQ, rIntI, rLenQ, rLenS, rListQ, rTupL, rTupQ, rIsQ_c, kd_non, kd_bl, kd_int, kd_str, kd_ref, kdO_lst, kdO_tup, kit_NoneType_bool, kit_NoneType_int, kit_NoneType_str, kit_NoneType_list, kit_NoneType_tuple, kit_bool_bool, kit_bool_int, kit_bool_str, kit_bool_list, kit_bool_tuple, kit_int_bool, kit_int_int, kit_int_str, kit_int_list, kit_int_tuple, kit_str_bool, kit_str_int, kit_str_str, kit_str_list, kit_str_tuple, kit_list_bool, kit_list_int, kit_list_str, kit_list_list, kit_list_tuple, kit_tuple_bool, kit_tuple_int, kit_tuple_str, kit_tuple_list, kit_tuple_tuple, V.ty.injEq, rSortQ, rSlQ, rMulS, tJn, rAtX, rSlS, tSl, tPart, tNoPart, cut_lo2, cut_hi2, rInQ, gLq, gTq, gC_c, gNil, tChain, List.cons_append, List.nil_append, tBL, tBL0, rApp, rPopN, rRevL, seqAt_lst, seqAt_tup, at_0, at_1, at_2, at_3, at_4, ix_0, ix_1, ix_2, ix_3, ix_4, cx_K, upd_same, List.length_cons, List.length_nil, Nat.reduceAdd,  rEq, rNe, tRevL, V.int.injEq, V.bl.injEq, V.str.injEq, V.ref.injEq, List.cons.injEq, and_true, true_and, exists_and_left, exists_and_right, exists_eq_left, exists_eq_left', exists_eq_right, exists_eq_right', exists_const, Option.some.injEq, List.getElem?_cons_zero, List.getElem?_cons_succ, List.set_cons_zero, List.set_cons_succ, decide_eq_true_eq, decide_true, decide_false,  scal_ii, scal_bb, scal_ss, cmul_r, cdiv_l, cpow_12, cpow_18, cpow_40, HO.lst.injEq, HO.tup.injEq, upd_upd, Int.reduceToNat,  decide_not, Bool.not_eq_true', decide_eq_false_iff_not, if_true, if_false, Bool.false_eq_true, Bool.true_eq_false, reduceCtorEq, Int.reduceNeg, Nat.reduceLT, Int.reduceLT, Int.reducePow, gt_iff_lt]
        exact q _ _ (Same.refl H) rfl
      | bl b =>
        obtain rfl : u = .bl b := ru
        simp only [tSeq, tNext, tDrop, tRet, tRetN, tIfS, tAsg, gName, tAug, ipI, tVar, tC, tOp, tUn, rI, rI0, rU, tCons, tNil, tCB, tTup, tLst, tTest, tB, tAnd, tOr, tNot, tAndV, tOrV, tNotV, tIf, tCl, tCd, tCk, gSub, rPutL, rAtQ, rIntI, rLenQ, rLenS, rListQ, rTupL, rTupQ, rIsQ_c, kd_non, kd_bl, kd_int, kd_str, kd_ref, kdO_lst, kdO_tup, kit_NoneType_bool, kit_NoneType_int, kit_NoneType_str, kit_NoneType_list, kit_NoneType_tuple, kit_bool_bool, kit_bool_int, kit_bool_str, kit_bool_list, kit_bool_tuple, kit_int_bool, kit_int_int, kit_int_str, kit_int_list, kit_int_tuple, kit_str_bool, kit_str_int, kit_str_str, kit_str_list, kit_str_tuple, kit_list_bool, kit_list_int, kit_list_str, kit_list_list, kit_list_tuple, kit_tuple_bool, kit_tuple_int, kit_tuple_str, kit_tuple_list, kit_tuple_tuple, V.ty.injEq, rSortQ, rSlQ, rMulS, tJn, rAtX, rSlS, tSl, tPart, tNoPart, cut_lo2, cut_hi2, rInQ, gLq, gTq, gC_c, gNil, tChain, List.cons_append, List.nil_append, tBL, tBL0, rApp, rPopN, rRevL, seqAt_lst, seqAt_tup, at_0, at_1, at_2, at_3, at_4, ix_0, ix_1, ix_2, ix_3, ix_4, cx_K, upd_same, List.length_cons, List.length_nil, Nat.reduceAdd,  rEq, rNe, tRevL, V.int.injEq, V.bl.injEq, V.str.injEq, V.ref.injEq, List.cons.injEq, and_true, true_and, exists_and_left, exists_and_right, exists_eq_left, exists_eq_left', exists_eq_right, exists_eq_right', exists_const, Option.some.injEq, List.getElem?_cons_zero, List.getElem?_cons_succ, List.set_cons_zero, List.set_cons_succ, decide_eq_true_eq, decide_true, decide_false,  scal_ii, scal_bb, scal_ss, cmul_r, cdiv_l, cpow_12, cpow_18, cpow_40, HO.lst.injEq, HO.tup.injEq, upd_upd, Int.reduceToNat,  decide_not, Bool.not_eq_true', decide_eq_false_iff_not, if_true, if_false, Bool.false_eq_true, Bool.true_eq_false, reduceCtorEq, Int.reduceNeg, Nat.reduceLT, Int.reduceLT, Int.reducePow, gt_iff_lt]
        exact q _ _ (Same.refl H) rfl
      | int b =>
        obtain rfl : u = .int b := ru
        simp only [tSeq, tNext, tDrop, tRet, tRetN, tIfS, tAsg, gName, tAug, ipI, tVar, tC, tOp, tUn, rI, rI0, rU, tCons, tNil, tCB, tTup, tLst, tTest, tB, tAnd, tOr, tNot, tAndV, tOrV, tNotV, tIf, tCl, tCd, tCk, gSub, rPutL, rAtQ, rIntI, rLenQ, rLenS, rListQ, rTupL, rTupQ, rIsQ_c, kd_non, kd_bl, kd_int, kd_str, kd_ref, kdO_lst, kdO_tup, kit_NoneType_bool, kit_NoneType_int, kit_NoneType_str, kit_NoneType_list, kit_NoneType_tuple, kit_bool_bool, kit_bool_int, kit_bool_str, kit_bool_list, kit_bool_tuple, kit_int_bool, kit_int_int, kit_int_str, kit_int_list, kit_int_tuple, kit_str_bool, kit_str_int, kit_str_str, kit_str_list, kit_str_tuple, kit_list_bool, kit_list_int, kit_list_str, kit_list_list, kit_list_tuple, kit_tuple_bool, kit_tuple_int, kit_tuple_str, kit_tuple_list, kit_tuple_tuple, V.ty.injEq, rSortQ, rSlQ, rMulS, tJn, rAtX, rSlS, tSl, tPart, tNoPart, cut_lo2, cut_hi2, rInQ, gLq, gTq, gC_c, gNil, tChain, List.cons_append, List.nil_append, tBL, tBL0, rApp, rPopN, rRevL, seqAt_lst, seqAt_tup, at_0, at_1, at_2, at_3, at_4, ix_0, ix_1, ix_2, ix_3, ix_4, cx_K, upd_same, List.length_cons, List.length_nil, Nat.reduceAdd,  rEq, rNe, tRevL, V.int.injEq, V.bl.injEq, V.str.injEq, V.ref.injEq, List.cons.injEq, and_true, true_and, exists_and_left, exists_and_right, exists_eq_left, exists_eq_left', exists_eq_right, exists_eq_right', exists_const, Option.some.injEq, List.getElem?_cons_zero, List.getElem?_cons_succ, List.set_cons_zero, List.set_cons_succ, decide_eq_true_eq, decide_true, decide_false,  scal_ii, scal_bb, scal_ss, cmul_r, cdiv_l, cpow_12, cpow_18, cpow_40, HO.lst.injEq, HO.tup.injEq, upd_upd, Int.reduceToNat,  decide_not, Bool.not_eq_true', decide_eq_false_iff_not, if_true, if_false, Bool.false_eq_true, Bool.true_eq_false, reduceCtorEq, Int.reduceNeg, Nat.reduceLT, Int.reduceLT, Int.reducePow, gt_iff_lt]
        exact q _ _ (Same.refl H) rfl
      | str b =>
        obtain rfl : u = .str b := ru
        simp only [tSeq, tNext, tDrop, tRet, tRetN, tIfS, tAsg, gName, tAug, ipI, tVar, tC, tOp, tUn, rI, rI0, rU, tCons, tNil, tCB, tTup, tLst, tTest, tB, tAnd, tOr, tNot, tAndV, tOrV, tNotV, tIf, tCl, tCd, tCk, gSub, rPutL, rAtQ, rIntI, rLenQ, rLenS, rListQ, rTupL, rTupQ, rIsQ_c, kd_non, kd_bl, kd_int, kd_str, kd_ref, kdO_lst, kdO_tup, kit_NoneType_bool, kit_NoneType_int, kit_NoneType_str, kit_NoneType_list, kit_NoneType_tuple, kit_bool_bool, kit_bool_int, kit_bool_str, kit_bool_list, kit_bool_tuple, kit_int_bool, kit_int_int, kit_int_str, kit_int_list, kit_int_tuple, kit_str_bool, kit_str_int, kit_str_str, kit_str_list, kit_str_tuple, kit_list_bool, kit_list_int, kit_list_str, kit_list_list, kit_list_tuple, kit_tuple_bool, kit_tuple_int, kit_tuple_str, kit_tuple_list, kit_tuple_tuple, V.ty.injEq, rSortQ, rSlQ, rMulS, tJn, rAtX, rSlS, tSl, tPart, tNoPart, cut_lo2, cut_hi2, rInQ, gLq, gTq, gC_c, gNil, tChain, List.cons_append, List.nil_append, tBL, tBL0, rApp, rPopN, rRevL, seqAt_lst, seqAt_tup, at_0, at_1, at_2, at_3, at_4, ix_0, ix_1, ix_2, ix_3, ix_4, cx_K, upd_same, List.length_cons, List.length_nil, Nat.reduceAdd,  rEq, rNe, tRevL, V.int.injEq, V.bl.injEq, V.str.injEq, V.ref.injEq, List.cons.injEq, and_true, true_and, exists_and_left, exists_and_right, exists_eq_left, exists_eq_left', exists_eq_right, exists_eq_right', exists_const, Option.some.injEq, List.getElem?_cons_zero, List.getElem?_cons_succ, List.set_cons_zero, List.set_cons_succ, decide_eq_true_eq, decide_true, decide_false,  scal_ii, scal_bb, scal_ss, cmul_r, cdiv_l, cpow_12, cpow_18, cpow_40, HO.lst.injEq, HO.tup.injEq, upd_upd, Int.reduceToNat,  decide_not, Bool.not_eq_true', decide_eq_false_iff_not, if_true, if_false, Bool.false_eq_true, Bool.true_eq_false, reduceCtorEq, Int.reduceNeg, Nat.reduceLT, Int.reduceLT, Int.reducePow, gt_iff_lt]
        exact q _ _ (Same.refl H) rfl
      | lst ds =>
        obtain ⟨a, xs, rfl, na, ha, hx, pa⟩ := ru
        simp only [tSeq, tNext, tDrop, tRet, tRetN, tIfS, tAsg, gName, tAug, ipI, tVar, tC, tOp, tUn, rI, rI0, rU, tCons, tNil, tCB, tTup, tLst, tTest, tB, tAnd, tOr, tNot, tAndV, tOrV, tNotV, tIf, tCl, tCd, tCk, gSub, rPutL, rAtQ, rIntI, rLenQ, rLenS, rListQ, rTupL, rTupQ, rIsQ_c, kd_non, kd_bl, kd_int, kd_str, kd_ref, kdO_lst, kdO_tup, kit_NoneType_bool, kit_NoneType_int, kit_NoneType_str, kit_NoneType_list, kit_NoneType_tuple, kit_bool_bool, kit_bool_int, kit_bool_str, kit_bool_list, kit_bool_tuple, kit_int_bool, kit_int_int, kit_int_str, kit_int_list, kit_int_tuple, kit_str_bool, kit_str_int, kit_str_str, kit_str_list, kit_str_tuple, kit_list_bool, kit_list_int, kit_list_str, kit_list_list, kit_list_tuple, kit_tuple_bool, kit_tuple_int, kit_tuple_str, kit_tuple_list, kit_tuple_tuple, V.ty.injEq, rSortQ, rSlQ, rMulS, tJn, rAtX, rSlS, tSl, tPart, tNoPart, cut_lo2, cut_hi2, rInQ, gLq, gTq, gC_c, gNil, tChain, List.cons_append, List.nil_append, tBL, tBL0, rApp, rPopN, rRevL, seqAt_lst, seqAt_tup, at_0, at_1, at_2, at_3, at_4, ix_0, ix_1, ix_2, ix_3, ix_4, cx_K, upd_same, List.length_cons, List.length_nil, Nat.reduceAdd,  rEq, rNe, tRevL, V.int.injEq, V.bl.injEq, V.str.injEq, V.ref.injEq, List.cons.injEq, and_true, true_and, exists_and_left, exists_and_right, exists_eq_left, exists_eq_left', exists_eq_right, exists_eq_right', exists_const, Option.some.injEq, List.getElem?_cons_zero, List.getElem?_cons_succ, List.set_cons_zero, List.set_cons_succ, decide_eq_true_eq, decide_true, decide_false,  scal_ii, scal_bb, scal_ss, cmul_r, cdiv_l, cpow_12, cpow_18, cpow_40, HO.lst.injEq, HO.tup.injEq, upd_upd, Int.reduceToNat,  decide_not, Bool.not_eq_true', decide_eq_false_iff_not, if_true, if_false, Bool.false_eq_true, Bool.true_eq_false, reduceCtorEq, Int.reduceNeg, Nat.reduceLT, Int.reduceLT, Int.reducePow, gt_iff_lt, ha]
        refine z_lcL a xs (fun Q q => ?_) (SqL.of ha) (fun D i H' => Same H H' ∧ ∃ zs, H' D = some (.lst zs) ∧ zs.length = i ∧ Paired (fun v d => Rp (fun p => N p ∧ p ≠ D) H' n v d) zs (ds.take i)) (fun D hD => ⟨same_new hD, [], upd_same, rfl, .nil⟩) (fun v => rfl)
          (fun D i H' hD hI => SqL.of (hI.1 _ _ ha)) (fun D i x H' hD hx hI => ?_) (fun D H' hD hI => ?_)
        · simp only [tSeq, tNext, tDrop, tRet, tRetN, tIfS, tAsg, gName, tAug, ipI, tVar, tC, tOp, tUn, rI, rI0, rU, tCons, tNil, tCB, tTup, tLst, tTest, tB, tAnd, tOr, tNot, tAndV, tOrV, tNotV, tIf, tCl, tCd, tCk, gSub, rPutL, rAtQ, rIntI, rLenQ, rLenS, rListQ, rTupL, rTupQ, rIsQ_c, kd_non, kd_bl, kd_int, kd_str, kd_ref, kdO_lst, kdO_tup, kit_NoneType_bool, kit_NoneType_int, kit_NoneType_str, kit_NoneType_list, kit_NoneType_tuple, kit_bool_bool, kit_bool_int, kit_bool_str, kit_bool_list, kit_bool_tuple, kit_int_bool, kit_int_int, kit_int_str, kit_int_list, kit_int_tuple, kit_str_bool, kit_str_int, kit_str_str, kit_str_list, kit_str_tuple, kit_list_bool, kit_list_int, kit_list_str, kit_list_list, kit_list_tuple, kit_tuple_bool, kit_tuple_int, kit_tuple_str, kit_tuple_list, kit_tuple_tuple, V.ty.injEq, rSortQ, rSlQ, rMulS, tJn, rAtX, rSlS, tSl, tPart, tNoPart, cut_lo2, cut_hi2, rInQ, gLq, gTq, gC_c, gNil, tChain, List.cons_append, List.nil_append, tBL, tBL0, rApp, rPopN, rRevL, seqAt_lst, seqAt_tup, at_0, at_1, at_2, at_3, at_4, ix_0, ix_1, ix_2, ix_3, ix_4, cx_K, upd_same, List.length_cons, List.length_nil, Nat.reduceAdd,  rEq, rNe, tRevL, V.int.injEq, V.bl.injEq, V.str.injEq, V.ref.injEq, List.cons.injEq, and_true, true_and, exists_and_left, exists_and_right, exists_eq_left, exists_eq_left', exists_eq_right, exists_eq_right', exists_const, Option.some.injEq, List.getElem?_cons_zero, List.getElem?_cons_succ, List.set_cons_zero, List.set_cons_succ, decide_eq_true_eq, decide_true, decide_false,  scal_ii, scal_bb, scal_ss, cmul_r, cdiv_l, cpow_12, cpow_18, cpow_40, HO.lst.injEq, HO.tup.injEq, upd_upd, Int.reduceToNat,  decide_not, Bool.not_eq_true', decide_eq_false_iff_not, if_true, if_false, Bool.false_eq_true, Bool.true_eq_false, reduceCtorEq, Int.reduceNeg, Nat.reduceLT, Int.reduceLT, Int.reducePow, gt_iff_lt]
          exact q
        · obtain ⟨e1, zs, hz, hl, hp⟩ := hI
          obtain ⟨d, hd, rd⟩ := paired_get pa hx
          have ilt := (List.getElem?_eq_some_iff.mp hx).1
          simp only [tSeq, tNext, tDrop, tRet, tRetN, tIfS, tAsg, gName, tAug, ipI, tVar, tC, tOp, tUn, rI, rI0, rU, tCons, tNil, tCB, tTup, tLst, tTest, tB, tAnd, tOr, tNot, tAndV, tOrV, tNotV, tIf, tCl, tCd, tCk, gSub, rPutL, rAtQ, rIntI, rLenQ, rLenS, rListQ, rTupL, rTupQ, rIsQ_c, kd_non, kd_bl, kd_int, kd_str, kd_ref, kdO_lst, kdO_tup, kit_NoneType_bool, kit_NoneType_int, kit_NoneType_str, kit_NoneType_list, kit_NoneType_tuple, kit_bool_bool, kit_bool_int, kit_bool_str, kit_bool_list, kit_bool_tuple, kit_int_bool, kit_int_int, kit_int_str, kit_int_list, kit_int_tuple, kit_str_bool, kit_str_int, kit_str_str, kit_str_list, kit_str_tuple, kit_list_bool, kit_list_int, kit_list_str, kit_list_list, kit_list_tuple, kit_tuple_bool, kit_tuple_int, kit_tuple_str, kit_tuple_list, kit_tuple_tuple, V.ty.injEq, rSortQ, rSlQ, rMulS, tJn, rAtX, rSlS, tSl, tPart, tNoPart, cut_lo2, cut_hi2, rInQ, gLq, gTq, gC_c, gNil, tChain, List.cons_append, List.nil_append, tBL, tBL0, rApp, rPopN, rRevL, seqAt_lst, seqAt_tup, at_0, at_1, at_2, at_3, at_4, ix_0, ix_1, ix_2, ix_3, ix_4, cx_K, upd_same, List.length_cons, List.length_nil, Nat.reduceAdd,  rEq, rNe, tRevL, V.int.injEq, V.bl.injEq, V.str.injEq, V.ref.injEq, List.cons.injEq, and_true, true_and, exists_and_left, exists_and_right, exists_eq_left, exists_eq_left', exists_eq_right, exists_eq_right', exists_const, Option.some.injEq, List.getElem?_cons_zero, List.getElem?_cons_succ, List.set_cons_zero, List.set_cons_succ, decide_eq_true_eq, decide_true, decide_false,  scal_ii, scal_bb, scal_ss, cmul_r, cdiv_l, cpow_12, cpow_18, cpow_40, HO.lst.injEq, HO.tup.injEq, upd_upd, Int.reduceToNat,  decide_not, Bool.not_eq_true', decide_eq_false_iff_not, if_true, if_false, Bool.false_eq_true, Bool.true_eq_false, reduceCtorEq, Int.reduceNeg, Nat.reduceLT, Int.reduceLT, Int.reducePow, gt_iff_lt, wipe, List.map_cons, List.map_nil]
          refine ⟨fun p => N p ∧ p ≠ D, _, d, rfl, (rd.off hD).same e1, fun p hp' => ⟨hN p (e1.free hp'), (ne_of_none hz hp').symm⟩, fun v H2 e2 rv => ?_⟩
          simp only [tSeq, tNext, tDrop, tRet, tRetN, tIfS, tAsg, gName, tAug, ipI, tVar, tC, tOp, tUn, rI, rI0, rU, tCons, tNil, tCB, tTup, tLst, tTest, tB, tAnd, tOr, tNot, tAndV, tOrV, tNotV, tIf, tCl, tCd, tCk, gSub, rPutL, rAtQ, rIntI, rLenQ, rLenS, rListQ, rTupL, rTupQ, rIsQ_c, kd_non, kd_bl, kd_int, kd_str, kd_ref, kdO_lst, kdO_tup, kit_NoneType_bool, kit_NoneType_int, kit_NoneType_str, kit_NoneType_list, kit_NoneType_tuple, kit_bool_bool, kit_bool_int, kit_bool_str, kit_bool_list, kit_bool_tuple, kit_int_bool, kit_int_int, kit_int_str, kit_int_list, kit_int_tuple, kit_str_bool, kit_str_int, kit_str_str, kit_str_list, kit_str_tuple, kit_list_bool, kit_list_int, kit_list_str, kit_list_list, kit_list_tuple, kit_tuple_bool, kit_tuple_int, kit_tuple_str, kit_tuple_list, kit_tuple_tuple, V.ty.injEq, rSortQ, rSlQ, rMulS, tJn, rAtX, rSlS, tSl, tPart, tNoPart, cut_lo2, cut_hi2, rInQ, gLq, gTq, gC_c, gNil, tChain, List.cons_append, List.nil_append, tBL, tBL0, rApp, rPopN, rRevL, seqAt_lst, seqAt_tup, at_0, at_1, at_2, at_3, at_4, ix_0, ix_1, ix_2, ix_3, ix_4, cx_K, upd_same, List.length_cons, List.length_nil, Nat.reduceAdd,  rEq, rNe, tRevL, V.int.injEq, V.bl.injEq, V.str.injEq, V.ref.injEq, List.cons.injEq, and_true, true_and, exists_and_left, exists_and_right, exists_eq_left, exists_eq_left', exists_eq_right, exists_eq_right', exists_const, Option.some.injEq, List.getElem?_cons_zero, List.getElem?_cons_succ, List.set_cons_zero, List.set_cons_succ, decide_eq_true_eq, decide_true, decide_false,  scal_ii, scal_bb, scal_ss, cmul_r, cdiv_l, cpow_12, cpow_18, cpow_40, HO.lst.injEq, HO.tup.injEq, upd_upd, Int.reduceToNat,  decide_not, Bool.not_eq_true', decide_eq_false_iff_not, if_true, if_false, Bool.false_eq_true, Bool.true_eq_false, reduceCtorEq, Int.reduceNeg, Nat.reduceLT, Int.reduceLT, Int.reducePow, gt_iff_lt]
          refine ⟨zs, e2 _ _ hz, sz_lt (by omega), fun b o h => ?_, by rw [List.length_append, hl] <;> rfl, ?_⟩
          · rw [upd_ne (ne_of_none h hD)]
            exact e2 _ _ (e1 _ _ h)
          · rw [List.take_add_one, hd]
            exact paired_snoc rv.upd (paired_imp (fun _ _ r => (r.same e2).upd) hp)
        · obtain ⟨e1, zs, hz, hl, hp⟩ := hI
          rw [paired_len pa, List.take_length] at hp
          exact q _ H' e1 ⟨D, zs, rfl, hN D hD, hz, by omega, paired_imp (fun _ _ r => r.on) hp⟩
      | tup ds =>
        obtain ⟨a, xs, rfl, na, ha, hx, pa⟩ := ru
        simp only [tSeq, tNext, tDrop, tRet, tRetN, tIfS, tAsg, gName, tAug, ipI, tVar, tC, tOp, tUn, rI, rI0, rU, tCons, tNil, tCB, tTup, tLst, tTest, tB, tAnd, tOr, tNot, tAndV, tOrV, tNotV, tIf, tCl, tCd, tCk, gSub, rPutL, rAtQ, rIntI, rLenQ, rLenS, rListQ, rTupL, rTupQ, rIsQ_c, kd_non, kd_bl, kd_int, kd_str, kd_ref, kdO_lst, kdO_tup, kit_NoneType_bool, kit_NoneType_int, kit_NoneType_str, kit_NoneType_list, kit_NoneType_tuple, kit_bool_bool, kit_bool_int, kit_bool_str, kit_bool_list, kit_bool_tuple, kit_int_bool, kit_int_int, kit_int_str, kit_int_list, kit_int_tuple, kit_str_bool, kit_str_int, kit_str_str, kit_str_list, kit_str_tuple, kit_list_bool, kit_list_int, kit_list_str, kit_list_list, kit_list_tuple, kit_tuple_bool, kit_tuple_int, kit_tuple_str, kit_tuple_list, kit_tuple_tuple, V.ty.injEq, rSortQ, rSlQ, rMulS, tJn, rAtX, rSlS, tSl, tPart, tNoPart, cut_lo2, cut_hi2, rInQ, gLq, gTq, gC_c, gNil, tChain, List.cons_append, List.nil_append, tBL, tBL0, rApp, rPopN, rRevL, seqAt_lst, seqAt_tup, at_0, at_1, at_2, at_3, at_4, ix_0, ix_1, ix_2, ix_3, ix_4, cx_K, upd_same, List.length_cons, List.length_nil, Nat.reduceAdd,  rEq, rNe, tRevL, V.int.injEq, V.bl.injEq, V.str.injEq, V.ref.injEq, List.cons.injEq, and_true, true_and, exists_and_left, exists_and_right, exists_eq_left, exists_eq_left', exists_eq_right, exists_eq_right', exists_const, Option.some.injEq, List.getElem?_cons_zero, List.getElem?_cons_succ, List.set_cons_zero, List.set_cons_succ, decide_eq_true_eq, decide_true, decide_false,  scal_ii, scal_bb, scal_ss, cmul_r, cdiv_l, cpow_12, cpow_18, cpow_40, HO.lst.injEq, HO.tup.injEq, upd_upd, Int.reduceToNat,  decide_not, Bool.not_eq_true', decide_eq_false_iff_not, if_true, if_false, Bool.false_eq_true, Bool.true_eq_false, reduceCtorEq, Int.reduceNeg, Nat.reduceLT, Int.reduceLT, Int.reducePow, gt_iff_lt, ha]
        refine z_lcT a xs (fun Q q => ?_) (SqT.of ha) (fun D i H' => Same H H' ∧ ∃ zs, H' D = some (.lst zs) ∧ zs.length = i ∧ Paired (fun v d => Rp (fun p => N p ∧ p ≠ D) H' n v d) zs (ds.take i)) (fun D hD => ⟨same_new hD, [], upd_same, rfl, .nil⟩) (fun v => rfl)
          (fun D i H' hD hI => SqT.of (hI.1 _ _ ha)) (fun D i x H' hD hx hI => ?_) (fun D H' hD hI => ?_)
        · simp only [tSeq, tNext, tDrop, tRet, tRetN, tIfS, tAsg, gName, tAug, ipI, tVar, tC, tOp, tUn, rI, rI0, rU, tCons, tNil, tCB, tTup, tLst, tTest, tB, tAnd, tOr, tNot, tAndV, tOrV, tNotV, tIf, tCl, tCd, tCk, gSub, rPutL, rAtQ, rIntI, rLenQ, rLenS, rListQ, rTupL, rTupQ, rIsQ_c, kd_non, kd_bl, kd_int, kd_str, kd_ref, kdO_lst, kdO_tup, kit_NoneType_bool, kit_NoneType_int, kit_NoneType_str, kit_NoneType_list, kit_NoneType_tuple, kit_bool_bool, kit_bool_int, kit_bool_str, kit_bool_list, kit_bool_tuple, kit_int_bool, kit_int_int, kit_int_str, kit_int_list, kit_int_tuple, kit_str_bool, kit_str_int, kit_str_str, kit_str_list, kit_str_tuple, kit_list_bool, kit_list_int, kit_list_str, kit_list_list, kit_list_tuple, kit_tuple_bool, kit_tuple_int, kit_tuple_str, kit_tuple_list, kit_tuple_tuple, V.ty.injEq, rSortQ, rSlQ, rMulS, tJn, rAtX, rSlS, tSl, tPart, tNoPart, cut_lo2, cut_hi2, rInQ, gLq, gTq, gC_c, gNil, tChain, List.cons_append, List.nil_append, tBL, tBL0, rApp, rPopN, rRevL, seqAt_lst, seqAt_tup, at_0, at_1, at_2, at_3, at_4, ix_0, ix_1, ix_2, ix_3, ix_4, cx_K, upd_same, List.length_cons, List.length_nil, Nat.reduceAdd,  rEq, rNe, tRevL, V.int.injEq, V.bl.injEq, V.str.injEq, V.ref.injEq, List.cons.injEq, and_true, true_and, exists_and_left, exists_and_right, exists_eq_left, exists_eq_left', exists_eq_right, exists_eq_right', exists_const, Option.some.injEq, List.getElem?_cons_zero, List.getElem?_cons_succ, List.set_cons_zero, List.set_cons_succ, decide_eq_true_eq, decide_true, decide_false,  scal_ii, scal_bb, scal_ss, cmul_r, cdiv_l, cpow_12, cpow_18, cpow_40, HO.lst.injEq, HO.tup.injEq, upd_upd, Int.reduceToNat,  decide_not, Bool.not_eq_true', decide_eq_false_iff_not, if_true, if_false, Bool.false_eq_true, Bool.true_eq_false, reduceCtorEq, Int.reduceNeg, Nat.reduceLT, Int.reduceLT, Int.reducePow, gt_iff_lt]
          exact q
        · obtain ⟨e1, zs, hz, hl, hp⟩ := hI
          obtain ⟨d, hd, rd⟩ := paired_get pa hx
          have ilt := (List.getElem?_eq_some_iff.mp hx).1
          simp only [tSeq, tNext, tDrop, tRet, tRetN, tIfS, tAsg, gName, tAug, ipI, tVar, tC, tOp, tUn, rI, rI0, rU, tCons, tNil, tCB, tTup, tLst, tTest, tB, tAnd, tOr, tNot, tAndV, tOrV, tNotV, tIf, tCl, tCd, tCk, gSub, rPutL, rAtQ, rIntI, rLenQ, rLenS, rListQ, rTupL, rTupQ, rIsQ_c, kd_non, kd_bl, kd_int, kd_str, kd_ref, kdO_lst, kdO_tup, kit_NoneType_bool, kit_NoneType_int, kit_NoneType_str, kit_NoneType_list, kit_NoneType_tuple, kit_bool_bool, kit_bool_int, kit_bool_str, kit_bool_list, kit_bool_tuple, kit_int_bool, kit_int_int, kit_int_str, kit_int_list, kit_int_tuple, kit_str_bool, kit_str_int, kit_str_str, kit_str_list, kit_str_tuple, kit_list_bool, kit_list_int, kit_list_str, kit_list_list, kit_list_tuple, kit_tuple_bool, kit_tuple_int, kit_tuple_str, kit_tuple_list, kit_tuple_tuple, V.ty.injEq, rSortQ, rSlQ, rMulS, tJn, rAtX, rSlS, tSl, tPart, tNoPart, cut_lo2, cut_hi2, rInQ, gLq, gTq, gC_c, gNil, tChain, List.cons_append, List.nil_append, tBL, tBL0, rApp, rPopN, rRevL, seqAt_lst, seqAt_tup, at_0, at_1, at_2, at_3, at_4, ix_0, ix_1, ix_2, ix_3, ix_4, cx_K, upd_same, List.length_cons, List.length_nil, Nat.reduceAdd,  rEq, rNe, tRevL, V.int.injEq, V.bl.injEq, V.str.injEq, V.ref.injEq, List.cons.injEq, and_true, true_and, exists_and_left, exists_and_right, exists_eq_left, exists_eq_left', exists_eq_right, exists_eq_right', exists_const, Option.some.injEq, List.getElem?_cons_zero, List.getElem?_cons_succ, List.set_cons_zero, List.set_cons_succ, decide_eq_true_eq, decide_true, decide_false,  scal_ii, scal_bb, scal_ss, cmul_r, cdiv_l, cpow_12, cpow_18, cpow_40, HO.lst.injEq, HO.tup.injEq, upd_upd, Int.reduceToNat,  decide_not, Bool.not_eq_true', decide_eq_false_iff_not, if_true, if_false, Bool.false_eq_true, Bool.true_eq_false, reduceCtorEq, Int.reduceNeg, Nat.reduceLT, Int.reduceLT, Int.reducePow, gt_iff_lt, wipe, List.map_cons, List.map_nil]
          refine ⟨fun p => N p ∧ p ≠ D, _, d, rfl, (rd.off hD).same e1, fun p hp' => ⟨hN p (e1.free hp'), (ne_of_none hz hp').symm⟩, fun v H2 e2 rv => ?_⟩
          simp only [tSeq, tNext, tDrop, tRet, tRetN, tIfS, tAsg, gName, tAug, ipI, tVar, tC, tOp, tUn, rI, rI0, rU, tCons, tNil, tCB, tTup, tLst, tTest, tB, tAnd, tOr, tNot, tAndV, tOrV, tNotV, tIf, tCl, tCd, tCk, gSub, rPutL, rAtQ, rIntI, rLenQ, rLenS, rListQ, rTupL, rTupQ, rIsQ_c, kd_non, kd_bl, kd_int, kd_str, kd_ref, kdO_lst, kdO_tup, kit_NoneType_bool, kit_NoneType_int, kit_NoneType_str, kit_NoneType_list, kit_NoneType_tuple, kit_bool_bool, kit_bool_int, kit_bool_str, kit_bool_list, kit_bool_tuple, kit_int_bool, kit_int_int, kit_int_str, kit_int_list, kit_int_tuple, kit_str_bool, kit_str_int, kit_str_str, kit_str_list, kit_str_tuple, kit_list_bool, kit_list_int, kit_list_str, kit_list_list, kit_list_tuple, kit_tuple_bool, kit_tuple_int, kit_tuple_str, kit_tuple_list, kit_tuple_tuple, V.ty.injEq, rSortQ, rSlQ, rMulS, tJn, rAtX, rSlS, tSl, tPart, tNoPart, cut_lo2, cut_hi2, rInQ, gLq, gTq, gC_c, gNil, tChain, List.cons_append, List.nil_append, tBL, tBL0, rApp, rPopN, rRevL, seqAt_lst, seqAt_tup, at_0, at_1, at_2, at_3, at_4, ix_0, ix_1, ix_2, ix_3, ix_4, cx_K, upd_same, List.length_cons, List.length_nil, Nat.reduceAdd,  rEq, rNe, tRevL, V.int.injEq, V.bl.injEq, V.str.injEq, V.ref.injEq, List.cons.injEq, and_true, true_and, exists_and_left, exists_and_right, exists_eq_left, exists_eq_left', exists_eq_right, exists_eq_right', exists_const, Option.some.injEq, List.getElem?_cons_zero, List.getElem?_cons_succ, List.set_cons_zero, List.set_cons_succ, decide_eq_true_eq, decide_true, decide_false,  scal_ii, scal_bb, scal_ss, cmul_r, cdiv_l, cpow_12, cpow_18, cpow_40, HO.lst.injEq, HO.tup.injEq, upd_upd, Int.reduceToNat,  decide_not, Bool.not_eq_true', decide_eq_false_iff_not, if_true, if_false, Bool.false_eq_true, Bool.true_eq_false, reduceCtorEq, Int.reduceNeg, Nat.reduceLT, Int.reduceLT, Int.reducePow, gt_iff_lt]
          refine ⟨zs, e2 _ _ hz, sz_lt (by omega), fun b o h => ?_, by rw [List.length_append, hl] <;> rfl, ?_⟩
          · rw [upd_ne (ne_of_none h hD)]
            exact e2 _ _ (e1 _ _ h)
          · rw [List.take_add_one, hd]
            exact paired_snoc rv.upd (paired_imp (fun _ _ r => (r.same e2).upd) hp)
        · obtain ⟨e1, zs, hz, hl, hp⟩ := hI
          rw [paired_len pa, List.take_length] at hp
          simp only [tSeq, tNext, tDrop, tRet, tRetN, tIfS, tAsg, gName, tAug, ipI, tVar, tC, tOp, tUn, rI, rI0, rU, tCons, tNil, tCB, tTup, tLst, tTest, tB, tAnd, tOr, tNot, tAndV, tOrV, tNotV, tIf, tCl, tCd, tCk, gSub, rPutL, rAtQ, rIntI, rLenQ, rLenS, rListQ, rTupL, rTupQ, rIsQ_c, kd_non, kd_bl, kd_int, kd_str, kd_ref, kdO_lst, kdO_tup, kit_NoneType_bool, kit_NoneType_int, kit_NoneType_str, kit_NoneType_list, kit_NoneType_tuple, kit_bool_bool, kit_bool_int, kit_bool_str, kit_bool_list, kit_bool_tuple, kit_int_bool, kit_int_int, kit_int_str, kit_int_list, kit_int_tuple, kit_str_bool, kit_str_int, kit_str_str, kit_str_list, kit_str_tuple, kit_list_bool, kit_list_int, kit_list_str, kit_list_list, kit_list_tuple, kit_tuple_bool, kit_tuple_int, kit_tuple_str, kit_tuple_list, kit_tuple_tuple, V.ty.injEq, rSortQ, rSlQ, rMulS, tJn, rAtX, rSlS, tSl, tPart, tNoPart, cut_lo2, cut_hi2, rInQ, gLq, gTq, gC_c, gNil, tChain, List.cons_append, List.nil_append, tBL, tBL0, rApp, rPopN, rRevL, seqAt_lst, seqAt_tup, at_0, at_1, at_2, at_3, at_4, ix_0, ix_1, ix_2, ix_3, ix_4, cx_K, upd_same, List.length_cons, List.length_nil, Nat.reduceAdd,  rEq, rNe, tRevL, V.int.injEq, V.bl.injEq, V.str.injEq, V.ref.injEq, List.cons.injEq, and_true, true_and, exists_and_left, exists_and_right, exists_eq_left, exists_eq_left', exists_eq_right, exists_eq_right', exists_const, Option.some.injEq, List.getElem?_cons_zero, List.getElem?_cons_succ, List.set_cons_zero, List.set_cons_succ, decide_eq_true_eq, decide_true, decide_false,  scal_ii, scal_bb, scal_ss, cmul_r, cdiv_l, cpow_12, cpow_18, cpow_40, HO.lst.injEq, HO.tup.injEq, upd_upd, Int.reduceToNat,  decide_not, Bool.not_eq_true', decide_eq_false_iff_not, if_true, if_false, Bool.false_eq_true, Bool.true_eq_false, reduceCtorEq, Int.reduceNeg, Nat.reduceLT, Int.reduceLT, Int.reducePow, gt_iff_lt, hz]
          intro l hl'
          exact q _ _ (e1.trans (same_new hl')) ⟨l, zs, rfl, hN l (e1.free hl'), upd_same, by omega, paired_imp (fun _ _ r => r.on.same (same_new hl')) hp⟩
end
end Z
set_option Elab.async false
set_option linter.all false
set_option maxRecDepth 100000
set_option maxHeartbeats 4000000
namespace Z
open PySem PySem.Spec PyProof.Rows L2
section
variable {P : Program} {w : World} {K : PySem.W.Frag} {mg : Str → Option Value} {base : Heap}
/-! ### two pairs that stand crosswise -/
theorem crossB_iff {a b c d : Int} : crossB a b c d = true ↔ (min a b < c ∧ c < max a b ∧ (d < min a b ∨ max a b < d)) ∨ (min a b < d ∧ d < max a b ∧ (c < min a b ∨ max a b < c)) := by
  unfold crossB
  by_cases h : (c = min a b ∨ d = min a b) ∨ (c = max a b ∨ d = max a b)
  · rw [if_pos h]
    constructor
    · intro z
      cases z
    · omega
  · rw [if_neg h]
    by_cases h1 : min a b < c ∧ c < max a b <;> by_cases h2 : min a b < d ∧ d < max a b
    · rw [decide_eq_true h1, decide_eq_true h2]
      refine ⟨fun z => Bool.noConfusion z, fun z => ?_⟩
      omega
    · rw [decide_eq_true h1, decide_eq_false h2]
      refine ⟨fun z => ?_, fun z => rfl⟩
      omega
    · rw [decide_eq_false h1, decide_eq_true h2]
      refine ⟨fun z => ?_, fun z => rfl⟩
      omega
    · rw [decide_eq_false h1, decide_eq_false h2]
      refine ⟨fun z => Bool.noConfusion z, fun z => ?_⟩
      omega
theorem crossB_swap1 {a b c d : Int} : crossB b a c d = crossB a b c d := by
  rw [Bool.eq_iff_iff, crossB_iff, crossB_iff]
  omega
theorem crossB_swap2 {a b c d : Int} : crossB a b d c = crossB a b c d := by
  rw [Bool.eq_iff_iff, crossB_iff, crossB_iff]
  omega
theorem crossB_sym {a b c d : Int} : crossB c d a b = crossB a b c d := by
  rw [Bool.eq_iff_iff, crossB_iff, crossB_iff]
  omega
theorem perm2 {ys : List V} {a b : Int} (h : ys.Perm [.int a, .int b]) : ys = [.int a, .int b] ∨ ys = [.int b, .int a] := by
  have e := h.length_eq
  match ys, e with
  | [x, y], _ =>
    have m1 : x ∈ [V.int a, V.int b] := h.mem_iff.mp (by simp)
    simp only [List.mem_cons, List.not_mem_nil, or_false] at m1
    rcases m1 with rfl | rfl
    · have z := (List.perm_cons _).mp h
      have z2 := List.perm_singleton.mp z
      cases z2
      exact .inl rfl
    · have z := (List.perm_cons (V.int b)).mp (h.trans (List.Perm.swap _ _ _))
      have z2 := List.perm_singleton.mp z
      cases z2
      exact .inr rfl
theorem perm2' {ys : List V} {a b : Int} (h : ys.Perm [.int a, .int b]) : ∃ y z : Int, ys = [.int y, .int z] ∧ (∀ c d, crossB y z c d = crossB a b c d) ∧ ∀ c d, crossB c d y z = crossB c d a b := by
  rcases perm2 h with rfl | rfl
  · exact ⟨a, b, rfl, fun _ _ => rfl, fun _ _ => rfl⟩
  · exact ⟨b, a, rfl, fun _ _ => crossB_swap1, fun _ _ => crossB_swap2⟩
theorem rp_pair {N : Addr → Prop} {H : Hp} {c : Addr} {x y : Int} (n : N c) (h : seqAt (H c) = some [.int x, .int y]) : ∃ d, Rp N H 4 (.ref c) d := by
  obtain ⟨o, e, h'⟩ := seq_some h
  cases o with
  | lst xs =>
    cases h'
    exact ⟨.lst [.int x, .int y], c, _, rfl, n, e, (by show 2 ≤ 1000; decide), .cons rfl (.cons rfl .nil)⟩
  | tup xs =>
    cases h'
    exact ⟨.tup [.int x, .int y], c, _, rfl, n, e, (by show 2 ≤ 1000; decide), .cons rfl (.cons rfl .nil)⟩
  | _ => cases h'
/-- by the sorted four: do they rise, and do the first and the third belong together -/
theorem due_ok {a b c d s0 s1 s2 s3 : Int} (hp : [s0, s1, s2, s3].Perm [a, b, c, d]) (hs : [s0, s1, s2, s3].Pairwise (· ≤ ·)) :
    crossB a b c d = (decide ([s0, s1, s2, s3].Pairwise (· < ·)) && decide (decide (a = s0 ∨ b = s0) = decide (a = s2 ∨ b = s2))) := by
  have o01 : s0 ≤ s1 := by simp at hs; omega
  have o12 : s1 ≤ s2 := by simp at hs; omega
  have o23 : s2 ≤ s3 := by simp at hs; omega
  by_cases r : [s0, s1, s2, s3].Pairwise (· < ·)
  · have p01 : s0 < s1 := by simp at r; omega
    have p12 : s1 < s2 := by simp at r; omega
    have p23 : s2 < s3 := by simp at r; omega
    rw [decide_eq_true r, Bool.true_and]
    have m0 : s0 ∈ [a, b, c, d] := hp.mem_iff.mp (by simp)
    have m1 : s1 ∈ [a, b, c, d] := hp.mem_iff.mp (by simp)
    have m2 : s2 ∈ [a, b, c, d] := hp.mem_iff.mp (by simp)
    have m3 : s3 ∈ [a, b, c, d] := hp.mem_iff.mp (by simp)
    simp only [List.mem_cons, List.not_mem_nil, or_false] at m0 m1 m2 m3
    rw [Bool.eq_iff_iff, crossB_iff, decide_eq_true_eq, Bool.eq_iff_iff, decide_eq_true_eq, decide_eq_true_eq]
    rcases m0 with rfl | rfl | rfl | rfl <;> rcases m1 with h1 | h1 | h1 | h1 <;> (try omega) <;> rcases m2 with h2 | h2 | h2 | h2 <;> (try omega) <;> rcases m3 with h3 | h3 | h3 | h3 <;> omega
  · rw [decide_eq_false r, Bool.false_and]
    have nd : ¬ [s0, s1, s2, s3].Nodup := fun z => r (by
      simp at z
      simp
      omega)
    have nd2 : ¬ [a, b, c, d].Nodup := fun z => nd (hp.nodup_iff.mpr z)
    have e : a = b ∨ a = c ∨ a = d ∨ b = c ∨ b = d ∨ c = d := by
      by_cases h : a = b ∨ a = c ∨ a = d ∨ b = c ∨ b = d ∨ c = d
      · exact h
      · refine absurd ?_ nd2
        simp
        omega
    cases hc : crossB a b c d with
    | false => rfl
    | true =>
      have z := crossB_iff.mp hc
      omega
abbrev s_law_crossed_right : Stmt := topS 62
abbrev N_law_crossed_right : List Str := ["store", "base", "four", "ordered", "due", "one_pair", "two_pair", "kept_ones", "k"]
theorem sc_law_crossed_right : FnScope N_law_crossed_right ["store"] (defScope s_law_crossed_right) := ⟨rfl, rfl, rfl, by decide +kernel, rfl, by decide +kernel, by decide +kernel⟩
theorem b_law_crossed_right : BindO "_law_crossed_right" s_law_crossed_right ["store"] := fun _ _ _ _ _ _ us hl => match us, hl with | [_], _ => rfl

def sp_law (b : Bool) : Sp := fun vs H Q _ => ∃ (S : Sto), vs = [.ref S.a] ∧ Store S H ∧ ∀ H', Drew S H H' → Q (.bl b) H'
theorem ok_crossed_right (D : Dn K mg "_law_crossed_right" s_law_crossed_right) (B : Blt mg) (c_law_take : Cl P w K mg base 2 "_law_take" sp_take) (c_law_whole : Cl P w K mg base 3 "_law_whole" sp_any) (c_law_rises : Cl P w K mg base 1 "_law_rises" sp_rises)
    (c_law_row : Cl P w K mg base 3 "_law_row" sp_row) (c_law_shuffled : Cl P w K mg base 3 "_law_shuffled" sp_shuffled) (c_law_copy : Cl P w K mg base 4 "_law_copy" (sp_copy 4)) (c_law_same : Cl P w K mg base 5 "_law_same" (sp_same 5)) (c_crossed : Cl P w K mg base 1 "crossed" sp_crossed) :
    Cl P w K mg base 6 "_law_crossed_right" (sp_law true) := by
  refine cl_of D sc_law_crossed_right b_law_crossed_right (fun vs H Q E h => ?_) (fun f cdv A outer s H vs Q E hr h => ?_)
  · obtain ⟨S, rfl, _⟩ := h
    rfl
  · obtain ⟨S, rfl, st, q⟩ := h
    refine ⟨_, (pss_cons (ps_set (i := 1) sc_law_crossed_right.nd rfl (.inr rfl) pe_int)
      (pss_ct (ps_if (pt_cmpR op_eq (pe_cl c_law_take hr (by omega) rfl (pa_cons (pv 0) (pa_cons pe_int pa_nil))) pe_int (nomark _)) (pss_one (ps_set (i := 1) sc_law_crossed_right.nd rfl (.inr rfl) (pe_cl c_law_whole hr (by omega) rfl (pa_cons (pv 0) pa_nil)))) pss_nil)
      (pss_ct (ps_setLc (i := 2) (own := [("k", 8)]) (g := gName 8) rfl sc_law_crossed_right.nd rfl rfl (sw_true rfl rfl rfl (by decide +kernel)) (pi_range1 (by rfl) B.range (pa_cons pe_int pa_nil)) (blkOk_by (N := N_law_crossed_right) (sc := defScope s_law_crossed_right) (own := [("k", 8)]) (by decide +kernel)) (fun _ _ _ _ _ => pg_name (i := 8) sc_law_crossed_right.nd rfl (Or.inl rfl)) (fun _ _ _ _ _ => pts_nil) (fun _ _ _ _ _ => (pe_op op_sub (pe_op op_add (pv 1) (pe_cl c_law_take hr (by omega) rfl (pa_cons (pv 0) (pa_cons pe_int pa_nil)))) pe_int)))
      (pss_ct (ps_if (pt_cmpR op_eq (pe_cl c_law_take hr (by omega) rfl (pa_cons (pv 0) (pa_cons pe_int pa_nil))) pe_int (nomark _)) (pss_one (ps_asg (pe_cl c_law_whole hr (by omega) rfl (pa_cons (pv 0) pa_nil)) (pg_sub (pv 2) (pe_cl c_law_take hr (by omega) rfl (pa_cons (pv 0) (pa_cons pe_int pa_nil))) put_list))) pss_nil)
      (pss_ct (ps_set (i := 3) sc_law_crossed_right.nd rfl (.inl rfl) (pe_callB cr_sortQ (by rfl) B.sorted (by decide +kernel) (pa_cons (pv 2) pa_nil)))
      (pss_ct (ps_set (i := 4) sc_law_crossed_right.nd rfl (.inl rfl) (pe_and (pe_cl c_law_rises hr (by omega) rfl (pa_cons (pv 3) pa_nil)) (pe_one (pe_cmpR op_eq (pe_cmpR op_inQ (pe_ix at_seq (pv 3) pe_int (fun _ _ => rfl)) (pe_slice sl_listQ (pv 2) po_none (po_some pe_int)) (by rfl)) (pe_cmpR op_inQ (pe_ix at_seq (pv 3) pe_int (fun _ _ => rfl)) (pe_slice sl_listQ (pv 2) po_none (po_some pe_int)) (by rfl)) (nomark _)))))
      (pss_cons (ps_set (i := 5) sc_law_crossed_right.nd rfl (.inl rfl) (pe_cl c_law_row hr (by omega) rfl (pa_cons (pv 0) (pa_cons (pe_cl c_law_shuffled hr (by omega) rfl (pa_cons (pv 0) (pa_cons (pe_slice sl_listQ (pv 2) po_none (po_some pe_int)) pa_nil))) pa_nil))))
      (pss_cons (ps_set (i := 6) sc_law_crossed_right.nd rfl (.inl rfl) (pe_cl c_law_row hr (by omega) rfl (pa_cons (pv 0) (pa_cons (pe_cl c_law_shuffled hr (by omega) rfl (pa_cons (pv 0) (pa_cons (pe_slice sl_listQ (pv 2) (po_some pe_int) po_none) pa_nil))) pa_nil))))
      (pss_cons (ps_set (i := 7) sc_law_crossed_right.nd rfl (.inl rfl) (pe_lst (pa_cons (pe_cl c_law_copy hr (by omega) rfl (pa_cons (pv 5) pa_nil)) (pa_cons (pe_cl c_law_copy hr (by omega) rfl (pa_cons (pv 6) pa_nil)) pa_nil))))
      (pss_cons (ps_if (PW.pt (pw_or (pt_not (pt_val (pe_cl c_law_same hr (by omega) rfl (pa_cons (pe_cl c_crossed hr (by omega) rfl (pa_cons (pv 5) (pa_cons (pv 6) pa_nil))) (pa_cons (pv 4) pa_nil))))) (pw_or1 (pt_not (pt_val (pe_cl c_law_same hr (by omega) rfl (pa_cons (pe_cl c_crossed hr (by omega) rfl (pa_cons (pv 6) (pa_cons (pv 5) pa_nil))) (pa_cons (pv 4) pa_nil)))))))) (pss_one (ps_ret pe_bl)) pss_nil)
      (pss_one (ps_ret (pe_cl c_law_same hr (by omega) rfl (pa_cons (pe_lst (pa_cons (pv 5) (pa_cons (pv 6) pa_nil))) (pa_cons (pv 7) pa_nil))))))))))))))), ?_⟩
    rw [show L2.start N_law_crossed_right [.ref S.a] = [some (.ref S.a), none, none, none, none, none, none, none, none] from rfl]
    obtain ⟨M1, hM1⟩ : ∃ M : L2.St → Hp → Prop, M = fun σ' H' => ∃ b : Int, σ' = [some (.ref S.a), some (.int b), none, none, none, none, none, none, none] ∧ Drew S H H' := ⟨_, rfl⟩
    refine ⟨M1, ?_, fun σ1 H1 hM => ?_⟩
    · simp only [tSeq, tNext, tDrop, tRet, tRetN, tIfS, tAsg, gName, tAug, ipI, tVar, tC, tOp, tUn, rI, rI0, rU, tCons, tNil, tCB, tTup, tLst, tTest, tB, tAnd, tOr, tNot, tAndV, tOrV, tNotV, tIf, tCl, tCd, tCk, gSub, rPutL, rAtQ, rIntI, rLenQ, rLenS, rListQ, rTupL, rTupQ, rIsQ_c, kd_non, kd_bl, kd_int, kd_str, kd_ref, kdO_lst, kdO_tup, kit_NoneType_bool, kit_NoneType_int, kit_NoneType_str, kit_NoneType_list, kit_NoneType_tuple, kit_bool_bool, kit_bool_int, kit_bool_str, kit_bool_list, kit_bool_tuple, kit_int_bool, kit_int_int, kit_int_str, kit_int_list, kit_int_tuple, kit_str_bool, kit_str_int, kit_str_str, kit_str_list, kit_str_tuple, kit_list_bool, kit_list_int, kit_list_str, kit_list_list, kit_list_tuple, kit_tuple_bool, kit_tuple_int, kit_tuple_str, kit_tuple_list, kit_tuple_tuple, V.ty.injEq, rSortQ, rSlQ, rMulS, tJn, rAtX, rSlS, tSl, tPart, tNoPart, cut_lo2, cut_hi2, rInQ, gLq, gTq, gC_c, gNil, tChain, List.cons_append, List.nil_append, tBL, tBL0, rApp, rPopN, rRevL, seqAt_lst, seqAt_tup, at_0, at_1, at_2, at_3, at_4, ix_0, ix_1, ix_2, ix_3, ix_4, cx_K, upd_same, List.length_cons, List.length_nil, Nat.reduceAdd,  rEq, rNe, tRevL, V.int.injEq, V.bl.injEq, V.str.injEq, V.ref.injEq, List.cons.injEq, and_true, true_and, exists_and_left, exists_and_right, exists_eq_left, exists_eq_left', exists_eq_right, exists_eq_right', exists_const, Option.some.injEq, List.getElem?_cons_zero, List.getElem?_cons_succ, List.set_cons_zero, List.set_cons_succ, decide_eq_true_eq, decide_true, decide_false,  scal_ii, scal_bb, scal_ss, cmul_r, cdiv_l, cpow_12, cpow_18, cpow_40, HO.lst.injEq, HO.tup.injEq, upd_upd, Int.reduceToNat,  decide_not, Bool.not_eq_true', decide_eq_false_iff_not, if_true, if_false, Bool.false_eq_true, Bool.true_eq_false, reduceCtorEq, Int.reduceNeg, Nat.reduceLT, Int.reduceLT, Int.reducePow, gt_iff_lt]
      refine ⟨_, _, rfl, st, by decide, fun d H1 r1 _ => ?_⟩
      simp only [tSeq, tNext, tDrop, tRet, tRetN, tIfS, tAsg, gName, tAug, ipI, tVar, tC, tOp, tUn, rI, rI0, rU, tCons, tNil, tCB, tTup, tLst, tTest, tB, tAnd, tOr, tNot, tAndV, tOrV, tNotV, tIf, tCl, tCd, tCk, gSub, rPutL, rAtQ, rIntI, rLenQ, rLenS, rListQ, rTupL, rTupQ, rIsQ_c, kd_non, kd_bl, kd_int, kd_str, kd_ref, kdO_lst, kdO_tup, kit_NoneType_bool, kit_NoneType_int, kit_NoneType_str, kit_NoneType_list, kit_NoneType_tuple, kit_bool_bool, kit_bool_int, kit_bool_str, kit_bool_list, kit_bool_tuple, kit_int_bool, kit_int_int, kit_int_str, kit_int_list, kit_int_tuple, kit_str_bool, kit_str_int, kit_str_str, kit_str_list, kit_str_tuple, kit_list_bool, kit_list_int, kit_list_str, kit_list_list, kit_list_tuple, kit_tuple_bool, kit_tuple_int, kit_tuple_str, kit_tuple_list, kit_tuple_tuple, V.ty.injEq, rSortQ, rSlQ, rMulS, tJn, rAtX, rSlS, tSl, tPart, tNoPart, cut_lo2, cut_hi2, rInQ, gLq, gTq, gC_c, gNil, tChain, List.cons_append, List.nil_append, tBL, tBL0, rApp, rPopN, rRevL, seqAt_lst, seqAt_tup, at_0, at_1, at_2, at_3, at_4, ix_0, ix_1, ix_2, ix_3, ix_4, cx_K, upd_same, List.length_cons, List.length_nil, Nat.reduceAdd,  rEq, rNe, tRevL, V.int.injEq, V.bl.injEq, V.str.injEq, V.ref.injEq, List.cons.injEq, and_true, true_and, exists_and_left, exists_and_right, exists_eq_left, exists_eq_left', exists_eq_right, exists_eq_right', exists_const, Option.some.injEq, List.getElem?_cons_zero, List.getElem?_cons_succ, List.set_cons_zero, List.set_cons_succ, decide_eq_true_eq, decide_true, decide_false,  scal_ii, scal_bb, scal_ss, cmul_r, cdiv_l, cpow_12, cpow_18, cpow_40, HO.lst.injEq, HO.tup.injEq, upd_upd, Int.reduceToNat,  decide_not, Bool.not_eq_true', decide_eq_false_iff_not, if_true, if_false, Bool.false_eq_true, Bool.true_eq_false, reduceCtorEq, Int.reduceNeg, Nat.reduceLT, Int.reduceLT, Int.reducePow, gt_iff_lt]
      rw [hM1]
      split
      · exact ⟨S, rfl, r1.st, fun e H2 r2 => ⟨e, rfl, r1.trans r2⟩⟩
      · exact ⟨0, rfl, r1⟩
    rw [hM1] at hM
    obtain ⟨b, rfl, r1⟩ := hM
    obtain ⟨M2, hM2⟩ : ∃ M : L2.St → Hp → Prop, M = fun σ' H' => ∃ (p : Addr) (x0 x1 x2 x3 : Int), σ' = [some (.ref S.a), some (.int b), some (.ref p), none, none, none, none, none, none] ∧ Drew S H H' ∧ H p = none ∧ H' p = some (.lst [.int x0, .int x1, .int x2, .int x3]) := ⟨_, rfl⟩
    refine ⟨M2, ?_, fun σ2 H2 hM => ?_⟩
    · refine z_lcR 4 (fun Q q => ?_) (by decide) (fun D i H' => Drew S H H' ∧ ∃ ns : List Int, ns.length = i ∧ H' D = some (.lst (ns.map V.int))) (fun D hD => ⟨r1.new hD, [], rfl, upd_same⟩) ⟨rfl, fun _ => rfl⟩ (fun D i H' hD hi hI => ?_) (fun D H' hD hI => ?_)
      · simp only [tSeq, tNext, tDrop, tRet, tRetN, tIfS, tAsg, gName, tAug, ipI, tVar, tC, tOp, tUn, rI, rI0, rU, tCons, tNil, tCB, tTup, tLst, tTest, tB, tAnd, tOr, tNot, tAndV, tOrV, tNotV, tIf, tCl, tCd, tCk, gSub, rPutL, rAtQ, rIntI, rLenQ, rLenS, rListQ, rTupL, rTupQ, rIsQ_c, kd_non, kd_bl, kd_int, kd_str, kd_ref, kdO_lst, kdO_tup, kit_NoneType_bool, kit_NoneType_int, kit_NoneType_str, kit_NoneType_list, kit_NoneType_tuple, kit_bool_bool, kit_bool_int, kit_bool_str, kit_bool_list, kit_bool_tuple, kit_int_bool, kit_int_int, kit_int_str, kit_int_list, kit_int_tuple, kit_str_bool, kit_str_int, kit_str_str, kit_str_list, kit_str_tuple, kit_list_bool, kit_list_int, kit_list_str, kit_list_list, kit_list_tuple, kit_tuple_bool, kit_tuple_int, kit_tuple_str, kit_tuple_list, kit_tuple_tuple, V.ty.injEq, rSortQ, rSlQ, rMulS, tJn, rAtX, rSlS, tSl, tPart, tNoPart, cut_lo2, cut_hi2, rInQ, gLq, gTq, gC_c, gNil, tChain, List.cons_append, List.nil_append, tBL, tBL0, rApp, rPopN, rRevL, seqAt_lst, seqAt_tup, at_0, at_1, at_2, at_3, at_4, ix_0, ix_1, ix_2, ix_3, ix_4, cx_K, upd_same, List.length_cons, List.length_nil, Nat.reduceAdd,  rEq, rNe, tRevL, V.int.injEq, V.bl.injEq, V.str.injEq, V.ref.injEq, List.cons.injEq, and_true, true_and, exists_and_left, exists_and_right, exists_eq_left, exists_eq_left', exists_eq_right, exists_eq_right', exists_const, Option.some.injEq, List.getElem?_cons_zero, List.getElem?_cons_succ, List.set_cons_zero, List.set_cons_succ, decide_eq_true_eq, decide_true, decide_false,  scal_ii, scal_bb, scal_ss, cmul_r, cdiv_l, cpow_12, cpow_18, cpow_40, HO.lst.injEq, HO.tup.injEq, upd_upd, Int.reduceToNat,  decide_not, Bool.not_eq_true', decide_eq_false_iff_not, if_true, if_false, Bool.false_eq_true, Bool.true_eq_false, reduceCtorEq, Int.reduceNeg, Nat.reduceLT, Int.reduceLT, Int.reducePow, gt_iff_lt]
        exact q
      · obtain ⟨r2, ns, hl, hn⟩ := hI
        simp only [tSeq, tNext, tDrop, tRet, tRetN, tIfS, tAsg, gName, tAug, ipI, tVar, tC, tOp, tUn, rI, rI0, rU, tCons, tNil, tCB, tTup, tLst, tTest, tB, tAnd, tOr, tNot, tAndV, tOrV, tNotV, tIf, tCl, tCd, tCk, gSub, rPutL, rAtQ, rIntI, rLenQ, rLenS, rListQ, rTupL, rTupQ, rIsQ_c, kd_non, kd_bl, kd_int, kd_str, kd_ref, kdO_lst, kdO_tup, kit_NoneType_bool, kit_NoneType_int, kit_NoneType_str, kit_NoneType_list, kit_NoneType_tuple, kit_bool_bool, kit_bool_int, kit_bool_str, kit_bool_list, kit_bool_tuple, kit_int_bool, kit_int_int, kit_int_str, kit_int_list, kit_int_tuple, kit_str_bool, kit_str_int, kit_str_str, kit_str_list, kit_str_tuple, kit_list_bool, kit_list_int, kit_list_str, kit_list_list, kit_list_tuple, kit_tuple_bool, kit_tuple_int, kit_tuple_str, kit_tuple_list, kit_tuple_tuple, V.ty.injEq, rSortQ, rSlQ, rMulS, tJn, rAtX, rSlS, tSl, tPart, tNoPart, cut_lo2, cut_hi2, rInQ, gLq, gTq, gC_c, gNil, tChain, List.cons_append, List.nil_append, tBL, tBL0, rApp, rPopN, rRevL, seqAt_lst, seqAt_tup, at_0, at_1, at_2, at_3, at_4, ix_0, ix_1, ix_2, ix_3, ix_4, cx_K, upd_same, List.length_cons, List.length_nil, Nat.reduceAdd,  rEq, rNe, tRevL, V.int.injEq, V.bl.injEq, V.str.injEq, V.ref.injEq, List.cons.injEq, and_true, true_and, exists_and_left, exists_and_right, exists_eq_left, exists_eq_left', exists_eq_right, exists_eq_right', exists_const, Option.some.injEq, List.getElem?_cons_zero, List.getElem?_cons_succ, List.set_cons_zero, List.set_cons_succ, decide_eq_true_eq, decide_true, decide_false,  scal_ii, scal_bb, scal_ss, cmul_r, cdiv_l, cpow_12, cpow_18, cpow_40, HO.lst.injEq, HO.tup.injEq, upd_upd, Int.reduceToNat,  decide_not, Bool.not_eq_true', decide_eq_false_iff_not, if_true, if_false, Bool.false_eq_true, Bool.true_eq_false, reduceCtorEq, Int.reduceNeg, Nat.reduceLT, Int.reduceLT, Int.reducePow, gt_iff_lt, wipe, List.map_cons, List.map_nil]
        refine ⟨_, _, rfl, r2.st, by decide, fun d H2 r3 _ => ?_⟩
        have hD0 := r1.back hD
        have hn3 := r3.but _ _ (st.neA hD0) hn
        simp only [tSeq, tNext, tDrop, tRet, tRetN, tIfS, tAsg, gName, tAug, ipI, tVar, tC, tOp, tUn, rI, rI0, rU, tCons, tNil, tCB, tTup, tLst, tTest, tB, tAnd, tOr, tNot, tAndV, tOrV, tNotV, tIf, tCl, tCd, tCk, gSub, rPutL, rAtQ, rIntI, rLenQ, rLenS, rListQ, rTupL, rTupQ, rIsQ_c, kd_non, kd_bl, kd_int, kd_str, kd_ref, kdO_lst, kdO_tup, kit_NoneType_bool, kit_NoneType_int, kit_NoneType_str, kit_NoneType_list, kit_NoneType_tuple, kit_bool_bool, kit_bool_int, kit_bool_str, kit_bool_list, kit_bool_tuple, kit_int_bool, kit_int_int, kit_int_str, kit_int_list, kit_int_tuple, kit_str_bool, kit_str_int, kit_str_str, kit_str_list, kit_str_tuple, kit_list_bool, kit_list_int, kit_list_str, kit_list_list, kit_list_tuple, kit_tuple_bool, kit_tuple_int, kit_tuple_str, kit_tuple_list, kit_tuple_tuple, V.ty.injEq, rSortQ, rSlQ, rMulS, tJn, rAtX, rSlS, tSl, tPart, tNoPart, cut_lo2, cut_hi2, rInQ, gLq, gTq, gC_c, gNil, tChain, List.cons_append, List.nil_append, tBL, tBL0, rApp, rPopN, rRevL, seqAt_lst, seqAt_tup, at_0, at_1, at_2, at_3, at_4, ix_0, ix_1, ix_2, ix_3, ix_4, cx_K, upd_same, List.length_cons, List.length_nil, Nat.reduceAdd,  rEq, rNe, tRevL, V.int.injEq, V.bl.injEq, V.str.injEq, V.ref.injEq, List.cons.injEq, and_true, true_and, exists_and_left, exists_and_right, exists_eq_left, exists_eq_left', exists_eq_right, exists_eq_right', exists_const, Option.some.injEq, List.getElem?_cons_zero, List.getElem?_cons_succ, List.set_cons_zero, List.set_cons_succ, decide_eq_true_eq, decide_true, decide_false,  scal_ii, scal_bb, scal_ss, cmul_r, cdiv_l, cpow_12, cpow_18, cpow_40, HO.lst.injEq, HO.tup.injEq, upd_upd, Int.reduceToNat,  decide_not, Bool.not_eq_true', decide_eq_false_iff_not, if_true, if_false, Bool.false_eq_true, Bool.true_eq_false, reduceCtorEq, Int.reduceNeg, Nat.reduceLT, Int.reduceLT, Int.reducePow, gt_iff_lt, hn3]
        refine ⟨?_, (r2.trans r3).at st hD0, ns ++ [b + d - 3], by rw [List.length_append, hl] <;> rfl, by rw [List.map_append] <;> rfl⟩
        rw [List.length_map]
        exact sz_lt (by omega)
      · obtain ⟨r2, ns, hl, hn⟩ := hI
        have hD0 := r1.back hD
        match ns, hl with
        | [x0, x1, x2, x3], _ =>
          show M2 _ _
          rw [hM2]
          exact ⟨D, x0, x1, x2, x3, rfl, r2, hD0, hn⟩
    rw [hM2] at hM
    obtain ⟨p, x0, x1, x2, x3, rfl, r2, hp0, hp⟩ := hM
    refine ⟨M2, ?_, fun σ3 H3 hM => ?_⟩
    · simp only [tSeq, tNext, tDrop, tRet, tRetN, tIfS, tAsg, gName, tAug, ipI, tVar, tC, tOp, tUn, rI, rI0, rU, tCons, tNil, tCB, tTup, tLst, tTest, tB, tAnd, tOr, tNot, tAndV, tOrV, tNotV, tIf, tCl, tCd, tCk, gSub, rPutL, rAtQ, rIntI, rLenQ, rLenS, rListQ, rTupL, rTupQ, rIsQ_c, kd_non, kd_bl, kd_int, kd_str, kd_ref, kdO_lst, kdO_tup, kit_NoneType_bool, kit_NoneType_int, kit_NoneType_str, kit_NoneType_list, kit_NoneType_tuple, kit_bool_bool, kit_bool_int, kit_bool_str, kit_bool_list, kit_bool_tuple, kit_int_bool, kit_int_int, kit_int_str, kit_int_list, kit_int_tuple, kit_str_bool, kit_str_int, kit_str_str, kit_str_list, kit_str_tuple, kit_list_bool, kit_list_int, kit_list_str, kit_list_list, kit_list_tuple, kit_tuple_bool, kit_tuple_int, kit_tuple_str, kit_tuple_list, kit_tuple_tuple, V.ty.injEq, rSortQ, rSlQ, rMulS, tJn, rAtX, rSlS, tSl, tPart, tNoPart, cut_lo2, cut_hi2, rInQ, gLq, gTq, gC_c, gNil, tChain, List.cons_append, List.nil_append, tBL, tBL0, rApp, rPopN, rRevL, seqAt_lst, seqAt_tup, at_0, at_1, at_2, at_3, at_4, ix_0, ix_1, ix_2, ix_3, ix_4, cx_K, upd_same, List.length_cons, List.length_nil, Nat.reduceAdd,  rEq, rNe, tRevL, V.int.injEq, V.bl.injEq, V.str.injEq, V.ref.injEq, List.cons.injEq, and_true, true_and, exists_and_left, exists_and_right, exists_eq_left, exists_eq_left', exists_eq_right, exists_eq_right', exists_const, Option.some.injEq, List.getElem?_cons_zero, List.getElem?_cons_succ, List.set_cons_zero, List.set_cons_succ, decide_eq_true_eq, decide_true, decide_false,  scal_ii, scal_bb, scal_ss, cmul_r, cdiv_l, cpow_12, cpow_18, cpow_40, HO.lst.injEq, HO.tup.injEq, upd_upd, Int.reduceToNat,  decide_not, Bool.not_eq_true', decide_eq_false_iff_not, if_true, if_false, Bool.false_eq_true, Bool.true_eq_false, reduceCtorEq, Int.reduceNeg, Nat.reduceLT, Int.reduceLT, Int.reducePow, gt_iff_lt]
      refine ⟨_, _, rfl, r2.st, by decide, fun d H3 r3 _ => ?_⟩
      have hn2 := r3.but _ _ (st.neA hp0) hp
      simp only [tSeq, tNext, tDrop, tRet, tRetN, tIfS, tAsg, gName, tAug, ipI, tVar, tC, tOp, tUn, rI, rI0, rU, tCons, tNil, tCB, tTup, tLst, tTest, tB, tAnd, tOr, tNot, tAndV, tOrV, tNotV, tIf, tCl, tCd, tCk, gSub, rPutL, rAtQ, rIntI, rLenQ, rLenS, rListQ, rTupL, rTupQ, rIsQ_c, kd_non, kd_bl, kd_int, kd_str, kd_ref, kdO_lst, kdO_tup, kit_NoneType_bool, kit_NoneType_int, kit_NoneType_str, kit_NoneType_list, kit_NoneType_tuple, kit_bool_bool, kit_bool_int, kit_bool_str, kit_bool_list, kit_bool_tuple, kit_int_bool, kit_int_int, kit_int_str, kit_int_list, kit_int_tuple, kit_str_bool, kit_str_int, kit_str_str, kit_str_list, kit_str_tuple, kit_list_bool, kit_list_int, kit_list_str, kit_list_list, kit_list_tuple, kit_tuple_bool, kit_tuple_int, kit_tuple_str, kit_tuple_list, kit_tuple_tuple, V.ty.injEq, rSortQ, rSlQ, rMulS, tJn, rAtX, rSlS, tSl, tPart, tNoPart, cut_lo2, cut_hi2, rInQ, gLq, gTq, gC_c, gNil, tChain, List.cons_append, List.nil_append, tBL, tBL0, rApp, rPopN, rRevL, seqAt_lst, seqAt_tup, at_0, at_1, at_2, at_3, at_4, ix_0, ix_1, ix_2, ix_3, ix_4, cx_K, upd_same, List.length_cons, List.length_nil, Nat.reduceAdd,  rEq, rNe, tRevL, V.int.injEq, V.bl.injEq, V.str.injEq, V.ref.injEq, List.cons.injEq, and_true, true_and, exists_and_left, exists_and_right, exists_eq_left, exists_eq_left', exists_eq_right, exists_eq_right', exists_const, Option.some.injEq, List.getElem?_cons_zero, List.getElem?_cons_succ, List.set_cons_zero, List.set_cons_succ, decide_eq_true_eq, decide_true, decide_false,  scal_ii, scal_bb, scal_ss, cmul_r, cdiv_l, cpow_12, cpow_18, cpow_40, HO.lst.injEq, HO.tup.injEq, upd_upd, Int.reduceToNat,  decide_not, Bool.not_eq_true', decide_eq_false_iff_not, if_true, if_false, Bool.false_eq_true, Bool.true_eq_false, reduceCtorEq, Int.reduceNeg, Nat.reduceLT, Int.reduceLT, Int.reducePow, gt_iff_lt]
      split
      · refine ⟨S, rfl, (r2.trans r3).st, fun e H4 r4 => ?_⟩
        refine ⟨_, _, rfl, r4.st, by decide, fun k H5 r5 g5 => ?_⟩
        have hn4 := r5.but _ _ (st.neA hp0) (r4.but _ _ (st.neA hp0) hn2)
        simp only [tSeq, tNext, tDrop, tRet, tRetN, tIfS, tAsg, gName, tAug, ipI, tVar, tC, tOp, tUn, rI, rI0, rU, tCons, tNil, tCB, tTup, tLst, tTest, tB, tAnd, tOr, tNot, tAndV, tOrV, tNotV, tIf, tCl, tCd, tCk, gSub, rPutL, rAtQ, rIntI, rLenQ, rLenS, rListQ, rTupL, rTupQ, rIsQ_c, kd_non, kd_bl, kd_int, kd_str, kd_ref, kdO_lst, kdO_tup, kit_NoneType_bool, kit_NoneType_int, kit_NoneType_str, kit_NoneType_list, kit_NoneType_tuple, kit_bool_bool, kit_bool_int, kit_bool_str, kit_bool_list, kit_bool_tuple, kit_int_bool, kit_int_int, kit_int_str, kit_int_list, kit_int_tuple, kit_str_bool, kit_str_int, kit_str_str, kit_str_list, kit_str_tuple, kit_list_bool, kit_list_int, kit_list_str, kit_list_list, kit_list_tuple, kit_tuple_bool, kit_tuple_int, kit_tuple_str, kit_tuple_list, kit_tuple_tuple, V.ty.injEq, rSortQ, rSlQ, rMulS, tJn, rAtX, rSlS, tSl, tPart, tNoPart, cut_lo2, cut_hi2, rInQ, gLq, gTq, gC_c, gNil, tChain, List.cons_append, List.nil_append, tBL, tBL0, rApp, rPopN, rRevL, seqAt_lst, seqAt_tup, at_0, at_1, at_2, at_3, at_4, ix_0, ix_1, ix_2, ix_3, ix_4, cx_K, upd_same, List.length_cons, List.length_nil, Nat.reduceAdd,  rEq, rNe, tRevL, V.int.injEq, V.bl.injEq, V.str.injEq, V.ref.injEq, List.cons.injEq, and_true, true_and, exists_and_left, exists_and_right, exists_eq_left, exists_eq_left', exists_eq_right, exists_eq_right', exists_const, Option.some.injEq, List.getElem?_cons_zero, List.getElem?_cons_succ, List.set_cons_zero, List.set_cons_succ, decide_eq_true_eq, decide_true, decide_false,  scal_ii, scal_bb, scal_ss, cmul_r, cdiv_l, cpow_12, cpow_18, cpow_40, HO.lst.injEq, HO.tup.injEq, upd_upd, Int.reduceToNat,  decide_not, Bool.not_eq_true', decide_eq_false_iff_not, if_true, if_false, Bool.false_eq_true, Bool.true_eq_false, reduceCtorEq, Int.reduceNeg, Nat.reduceLT, Int.reduceLT, Int.reducePow, gt_iff_lt, hn4]
        have k4 : k.toNat < 4 := by have := g5.1; have := g5.2; omega
        refine ⟨k.toNat, ?_, ?_⟩
        · have e : k = (k.toNat : Int) := by have := g5.1; omega
          rw [e]
          exact ix_lit k4
        · have e : ∃ y0 y1 y2 y3 : Int, ([V.int x0, V.int x1, V.int x2, V.int x3].set k.toNat (.int e)) = [.int y0, .int y1, .int y2, .int y3] := by
            match k.toNat, k4 with
            | 0, _ => exact ⟨_, _, _, _, rfl⟩
            | 1, _ => exact ⟨_, _, _, _, rfl⟩
            | 2, _ => exact ⟨_, _, _, _, rfl⟩
            | 3, _ => exact ⟨_, _, _, _, rfl⟩
          obtain ⟨y0, y1, y2, y3, e⟩ := e
          rw [hM2]
          exact ⟨p, y0, y1, y2, y3, rfl, ((r2.trans r3).trans (r4.trans r5)).at st hp0, hp0, by rw [e, upd_same]⟩
      · rw [hM2]
        exact ⟨p, x0, x1, x2, x3, rfl, r2.trans r3, hp0, hn2⟩
    rw [hM2] at hM
    clear r2 hp hp0
    obtain ⟨p, x0, x1, x2, x3, rfl, r2, hp0, hp⟩ := hM
    obtain ⟨M3, hM3⟩ : ∃ M : L2.St → Hp → Prop, M = fun σ' H' => ∃ o : V, σ' = [some (.ref S.a), some (.int b), some (.ref p), some o, some (.bl (crossB x0 x1 x2 x3)), none, none, none, none] ∧ Drew S H H' ∧ H' p = some (.lst [.int x0, .int x1, .int x2, .int x3]) := ⟨_, rfl⟩
    obtain ⟨M4, hM4⟩ : ∃ M : L2.St → Hp → Prop, M = fun σ' H' => ∃ (m : Addr) (s0 s1 s2 s3 : Int), σ' = [some (.ref S.a), some (.int b), some (.ref p), some (.ref m), none, none, none, none, none] ∧ Drew S H H' ∧ H' p = some (.lst [.int x0, .int x1, .int x2, .int x3]) ∧
        H' m = some (.lst [.int s0, .int s1, .int s2, .int s3]) ∧ [s0, s1, s2, s3].Perm [x0, x1, x2, x3] ∧ [s0, s1, s2, s3].Pairwise (· ≤ ·) := ⟨_, rfl⟩
    refine ⟨M4, ?_, fun σ3 H4 hM => ?_⟩
    · simp only [tSeq, tNext, tDrop, tRet, tRetN, tIfS, tAsg, gName, tAug, ipI, tVar, tC, tOp, tUn, rI, rI0, rU, tCons, tNil, tCB, tTup, tLst, tTest, tB, tAnd, tOr, tNot, tAndV, tOrV, tNotV, tIf, tCl, tCd, tCk, gSub, rPutL, rAtQ, rIntI, rLenQ, rLenS, rListQ, rTupL, rTupQ, rIsQ_c, kd_non, kd_bl, kd_int, kd_str, kd_ref, kdO_lst, kdO_tup, kit_NoneType_bool, kit_NoneType_int, kit_NoneType_str, kit_NoneType_list, kit_NoneType_tuple, kit_bool_bool, kit_bool_int, kit_bool_str, kit_bool_list, kit_bool_tuple, kit_int_bool, kit_int_int, kit_int_str, kit_int_list, kit_int_tuple, kit_str_bool, kit_str_int, kit_str_str, kit_str_list, kit_str_tuple, kit_list_bool, kit_list_int, kit_list_str, kit_list_list, kit_list_tuple, kit_tuple_bool, kit_tuple_int, kit_tuple_str, kit_tuple_list, kit_tuple_tuple, V.ty.injEq, rSortQ, rSlQ, rMulS, tJn, rAtX, rSlS, tSl, tPart, tNoPart, cut_lo2, cut_hi2, rInQ, gLq, gTq, gC_c, gNil, tChain, List.cons_append, List.nil_append, tBL, tBL0, rApp, rPopN, rRevL, seqAt_lst, seqAt_tup, at_0, at_1, at_2, at_3, at_4, ix_0, ix_1, ix_2, ix_3, ix_4, cx_K, upd_same, List.length_cons, List.length_nil, Nat.reduceAdd,  rEq, rNe, tRevL, V.int.injEq, V.bl.injEq, V.str.injEq, V.ref.injEq, List.cons.injEq, and_true, true_and, exists_and_left, exists_and_right, exists_eq_left, exists_eq_left', exists_eq_right, exists_eq_right', exists_const, Option.some.injEq, List.getElem?_cons_zero, List.getElem?_cons_succ, List.set_cons_zero, List.set_cons_succ, decide_eq_true_eq, decide_true, decide_false,  scal_ii, scal_bb, scal_ss, cmul_r, cdiv_l, cpow_12, cpow_18, cpow_40, HO.lst.injEq, HO.tup.injEq, upd_upd, Int.reduceToNat,  decide_not, Bool.not_eq_true', decide_eq_false_iff_not, if_true, if_false, Bool.false_eq_true, Bool.true_eq_false, reduceCtorEq, Int.reduceNeg, Nat.reduceLT, Int.reduceLT, Int.reducePow, gt_iff_lt]
      refine ⟨[x0, x1, x2, x3], by rw [hp] <;> rfl, fun ns' m hpm hpw hm => ?_⟩
      have hl := hpm.length_eq
      match ns', hl, hpm, hpw with
      | [s0, s1, s2, s3], _, hpm, hpw =>
        show M4 _ _
        rw [hM4]
        exact ⟨m, s0, s1, s2, s3, rfl, r2.new hm, (upd_ne (ne_of_none hp hm)).trans hp, upd_same, hpm, hpw⟩
    rw [hM4] at hM
    obtain ⟨m, s0, s1, s2, s3, rfl, r4, hp4, hm4, hpm, hpw⟩ := hM
    refine ⟨M3, ?_, fun σ3 H3 hM => ?_⟩
    · have du := due_ok hpm hpw
      have fl : ∀ i : Int, flatV (V.int i) = true := fun _ => rfl
      have f2 : [V.int x0, V.int x1].all flatV = true := rfl
      simp only [tSeq, tNext, tDrop, tRet, tRetN, tIfS, tAsg, gName, tAug, ipI, tVar, tC, tOp, tUn, rI, rI0, rU, tCons, tNil, tCB, tTup, tLst, tTest, tB, tAnd, tOr, tNot, tAndV, tOrV, tNotV, tIf, tCl, tCd, tCk, gSub, rPutL, rAtQ, rIntI, rLenQ, rLenS, rListQ, rTupL, rTupQ, rIsQ_c, kd_non, kd_bl, kd_int, kd_str, kd_ref, kdO_lst, kdO_tup, kit_NoneType_bool, kit_NoneType_int, kit_NoneType_str, kit_NoneType_list, kit_NoneType_tuple, kit_bool_bool, kit_bool_int, kit_bool_str, kit_bool_list, kit_bool_tuple, kit_int_bool, kit_int_int, kit_int_str, kit_int_list, kit_int_tuple, kit_str_bool, kit_str_int, kit_str_str, kit_str_list, kit_str_tuple, kit_list_bool, kit_list_int, kit_list_str, kit_list_list, kit_list_tuple, kit_tuple_bool, kit_tuple_int, kit_tuple_str, kit_tuple_list, kit_tuple_tuple, V.ty.injEq, rSortQ, rSlQ, rMulS, tJn, rAtX, rSlS, tSl, tPart, tNoPart, cut_lo2, cut_hi2, rInQ, gLq, gTq, gC_c, gNil, tChain, List.cons_append, List.nil_append, tBL, tBL0, rApp, rPopN, rRevL, seqAt_lst, seqAt_tup, at_0, at_1, at_2, at_3, at_4, ix_0, ix_1, ix_2, ix_3, ix_4, cx_K, upd_same, List.length_cons, List.length_nil, Nat.reduceAdd,  rEq, rNe, tRevL, V.int.injEq, V.bl.injEq, V.str.injEq, V.ref.injEq, List.cons.injEq, and_true, true_and, exists_and_left, exists_and_right, exists_eq_left, exists_eq_left', exists_eq_right, exists_eq_right', exists_const, Option.some.injEq, List.getElem?_cons_zero, List.getElem?_cons_succ, List.set_cons_zero, List.set_cons_succ, decide_eq_true_eq, decide_true, decide_false,  scal_ii, scal_bb, scal_ss, cmul_r, cdiv_l, cpow_12, cpow_18, cpow_40, HO.lst.injEq, HO.tup.injEq, upd_upd, Int.reduceToNat,  decide_not, Bool.not_eq_true', decide_eq_false_iff_not, if_true, if_false, Bool.false_eq_true, Bool.true_eq_false, reduceCtorEq, Int.reduceNeg, Nat.reduceLT, Int.reduceLT, Int.reducePow, gt_iff_lt]
      refine ⟨m, [s0, s1, s2, s3], rfl, by rw [hm4] <;> rfl, (by show 4 ≤ 1000; decide), ?_⟩
      simp only [tSeq, tNext, tDrop, tRet, tRetN, tIfS, tAsg, gName, tAug, ipI, tVar, tC, tOp, tUn, rI, rI0, rU, tCons, tNil, tCB, tTup, tLst, tTest, tB, tAnd, tOr, tNot, tAndV, tOrV, tNotV, tIf, tCl, tCd, tCk, gSub, rPutL, rAtQ, rIntI, rLenQ, rLenS, rListQ, rTupL, rTupQ, rIsQ_c, kd_non, kd_bl, kd_int, kd_str, kd_ref, kdO_lst, kdO_tup, kit_NoneType_bool, kit_NoneType_int, kit_NoneType_str, kit_NoneType_list, kit_NoneType_tuple, kit_bool_bool, kit_bool_int, kit_bool_str, kit_bool_list, kit_bool_tuple, kit_int_bool, kit_int_int, kit_int_str, kit_int_list, kit_int_tuple, kit_str_bool, kit_str_int, kit_str_str, kit_str_list, kit_str_tuple, kit_list_bool, kit_list_int, kit_list_str, kit_list_list, kit_list_tuple, kit_tuple_bool, kit_tuple_int, kit_tuple_str, kit_tuple_list, kit_tuple_tuple, V.ty.injEq, rSortQ, rSlQ, rMulS, tJn, rAtX, rSlS, tSl, tPart, tNoPart, cut_lo2, cut_hi2, rInQ, gLq, gTq, gC_c, gNil, tChain, List.cons_append, List.nil_append, tBL, tBL0, rApp, rPopN, rRevL, seqAt_lst, seqAt_tup, at_0, at_1, at_2, at_3, at_4, ix_0, ix_1, ix_2, ix_3, ix_4, cx_K, upd_same, List.length_cons, List.length_nil, Nat.reduceAdd,  rEq, rNe, tRevL, V.int.injEq, V.bl.injEq, V.str.injEq, V.ref.injEq, List.cons.injEq, and_true, true_and, exists_and_left, exists_and_right, exists_eq_left, exists_eq_left', exists_eq_right, exists_eq_right', exists_const, Option.some.injEq, List.getElem?_cons_zero, List.getElem?_cons_succ, List.set_cons_zero, List.set_cons_succ, decide_eq_true_eq, decide_true, decide_false,  scal_ii, scal_bb, scal_ss, cmul_r, cdiv_l, cpow_12, cpow_18, cpow_40, HO.lst.injEq, HO.tup.injEq, upd_upd, Int.reduceToNat,  decide_not, Bool.not_eq_true', decide_eq_false_iff_not, if_true, if_false, Bool.false_eq_true, Bool.true_eq_false, reduceCtorEq, Int.reduceNeg, Nat.reduceLT, Int.reduceLT, Int.reducePow, gt_iff_lt, hp4, hm4, fl, f2, inV_two]
      split
      · rename_i hr'
        rw [decide_eq_true hr', Bool.true_and] at du
        intro p1 hp1
        have hm5 : (upd H4 p1 (HO.lst [V.int x0, V.int x1])) m = some (.lst [.int s0, .int s1, .int s2, .int s3]) := (upd_ne (ne_of_none hm4 hp1)).trans hm4
        have hp5 : (upd H4 p1 (HO.lst [V.int x0, V.int x1])) p = some (.lst [.int x0, .int x1, .int x2, .int x3]) := (upd_ne (ne_of_none hp4 hp1)).trans hp4
        simp only [tSeq, tNext, tDrop, tRet, tRetN, tIfS, tAsg, gName, tAug, ipI, tVar, tC, tOp, tUn, rI, rI0, rU, tCons, tNil, tCB, tTup, tLst, tTest, tB, tAnd, tOr, tNot, tAndV, tOrV, tNotV, tIf, tCl, tCd, tCk, gSub, rPutL, rAtQ, rIntI, rLenQ, rLenS, rListQ, rTupL, rTupQ, rIsQ_c, kd_non, kd_bl, kd_int, kd_str, kd_ref, kdO_lst, kdO_tup, kit_NoneType_bool, kit_NoneType_int, kit_NoneType_str, kit_NoneType_list, kit_NoneType_tuple, kit_bool_bool, kit_bool_int, kit_bool_str, kit_bool_list, kit_bool_tuple, kit_int_bool, kit_int_int, kit_int_str, kit_int_list, kit_int_tuple, kit_str_bool, kit_str_int, kit_str_str, kit_str_list, kit_str_tuple, kit_list_bool, kit_list_int, kit_list_str, kit_list_list, kit_list_tuple, kit_tuple_bool, kit_tuple_int, kit_tuple_str, kit_tuple_list, kit_tuple_tuple, V.ty.injEq, rSortQ, rSlQ, rMulS, tJn, rAtX, rSlS, tSl, tPart, tNoPart, cut_lo2, cut_hi2, rInQ, gLq, gTq, gC_c, gNil, tChain, List.cons_append, List.nil_append, tBL, tBL0, rApp, rPopN, rRevL, seqAt_lst, seqAt_tup, at_0, at_1, at_2, at_3, at_4, ix_0, ix_1, ix_2, ix_3, ix_4, cx_K, upd_same, List.length_cons, List.length_nil, Nat.reduceAdd,  rEq, rNe, tRevL, V.int.injEq, V.bl.injEq, V.str.injEq, V.ref.injEq, List.cons.injEq, and_true, true_and, exists_and_left, exists_and_right, exists_eq_left, exists_eq_left', exists_eq_right, exists_eq_right', exists_const, Option.some.injEq, List.getElem?_cons_zero, List.getElem?_cons_succ, List.set_cons_zero, List.set_cons_succ, decide_eq_true_eq, decide_true, decide_false,  scal_ii, scal_bb, scal_ss, cmul_r, cdiv_l, cpow_12, cpow_18, cpow_40, HO.lst.injEq, HO.tup.injEq, upd_upd, Int.reduceToNat,  decide_not, Bool.not_eq_true', decide_eq_false_iff_not, if_true, if_false, Bool.false_eq_true, Bool.true_eq_false, reduceCtorEq, Int.reduceNeg, Nat.reduceLT, Int.reduceLT, Int.reducePow, gt_iff_lt, hm5, hp5, fl, f2, inV_two]
        intro p2 hp2
        rw [hM3, ← du]
        exact ⟨_, rfl, (r4.new hp1).new hp2, (upd_ne (ne_of_none hp5 hp2)).trans hp5⟩
      · rename_i hr'
        rw [decide_eq_false hr', Bool.false_and] at du
        rw [hM3, ← du]
        exact ⟨_, rfl, r4, hp4⟩
    rw [hM3] at hM
    obtain ⟨o, rfl, r3, hp3⟩ := hM
    simp only [tSeq, tNext, tDrop, tRet, tRetN, tIfS, tAsg, gName, tAug, ipI, tVar, tC, tOp, tUn, rI, rI0, rU, tCons, tNil, tCB, tTup, tLst, tTest, tB, tAnd, tOr, tNot, tAndV, tOrV, tNotV, tIf, tCl, tCd, tCk, gSub, rPutL, rAtQ, rIntI, rLenQ, rLenS, rListQ, rTupL, rTupQ, rIsQ_c, kd_non, kd_bl, kd_int, kd_str, kd_ref, kdO_lst, kdO_tup, kit_NoneType_bool, kit_NoneType_int, kit_NoneType_str, kit_NoneType_list, kit_NoneType_tuple, kit_bool_bool, kit_bool_int, kit_bool_str, kit_bool_list, kit_bool_tuple, kit_int_bool, kit_int_int, kit_int_str, kit_int_list, kit_int_tuple, kit_str_bool, kit_str_int, kit_str_str, kit_str_list, kit_str_tuple, kit_list_bool, kit_list_int, kit_list_str, kit_list_list, kit_list_tuple, kit_tuple_bool, kit_tuple_int, kit_tuple_str, kit_tuple_list, kit_tuple_tuple, V.ty.injEq, rSortQ, rSlQ, rMulS, tJn, rAtX, rSlS, tSl, tPart, tNoPart, cut_lo2, cut_hi2, rInQ, gLq, gTq, gC_c, gNil, tChain, List.cons_append, List.nil_append, tBL, tBL0, rApp, rPopN, rRevL, seqAt_lst, seqAt_tup, at_0, at_1, at_2, at_3, at_4, ix_0, ix_1, ix_2, ix_3, ix_4, cx_K, upd_same, List.length_cons, List.length_nil, Nat.reduceAdd,  rEq, rNe, tRevL, V.int.injEq, V.bl.injEq, V.str.injEq, V.ref.injEq, List.cons.injEq, and_true, true_and, exists_and_left, exists_and_right, exists_eq_left, exists_eq_left', exists_eq_right, exists_eq_right', exists_const, Option.some.injEq, List.getElem?_cons_zero, List.getElem?_cons_succ, List.set_cons_zero, List.set_cons_succ, decide_eq_true_eq, decide_true, decide_false,  scal_ii, scal_bb, scal_ss, cmul_r, cdiv_l, cpow_12, cpow_18, cpow_40, HO.lst.injEq, HO.tup.injEq, upd_upd, Int.reduceToNat,  decide_not, Bool.not_eq_true', decide_eq_false_iff_not, if_true, if_false, Bool.false_eq_true, Bool.true_eq_false, reduceCtorEq, Int.reduceNeg, Nat.reduceLT, Int.reduceLT, Int.reducePow, gt_iff_lt, hp3]
    intro a1 ha1
    have pS := st.neA hp0
    have r5 := r3.new (o := .lst [V.int x0, V.int x1]) ha1
    refine ⟨S, a1, [.int x0, .int x1], rfl, r5.st, by rw [upd_same] <;> rfl, st.neA (r3.back ha1), (by show 2 ≤ 1000; decide), fun b1 ys H5 r6 hb1 hb2 pm => ?_⟩
    have r56 := r5.trans r6
    refine ⟨S, b1, ys, rfl, r6.st, hb2, r5.st.neA hb1, fun c1 H6 r7 hc1 hc2 => ?_⟩
    have r57 := r56.trans r7
    have c1S : c1 ≠ S.a := r6.st.neA hc1
    obtain ⟨y0, y1, rfl, sw1, sw2⟩ := perm2' pm
    have hp6 : H6 p = some (.lst [.int x0, .int x1, .int x2, .int x3]) := r7.but _ _ pS (r6.but _ _ pS (same_new ha1 _ _ hp3))
    simp only [tSeq, tNext, tDrop, tRet, tRetN, tIfS, tAsg, gName, tAug, ipI, tVar, tC, tOp, tUn, rI, rI0, rU, tCons, tNil, tCB, tTup, tLst, tTest, tB, tAnd, tOr, tNot, tAndV, tOrV, tNotV, tIf, tCl, tCd, tCk, gSub, rPutL, rAtQ, rIntI, rLenQ, rLenS, rListQ, rTupL, rTupQ, rIsQ_c, kd_non, kd_bl, kd_int, kd_str, kd_ref, kdO_lst, kdO_tup, kit_NoneType_bool, kit_NoneType_int, kit_NoneType_str, kit_NoneType_list, kit_NoneType_tuple, kit_bool_bool, kit_bool_int, kit_bool_str, kit_bool_list, kit_bool_tuple, kit_int_bool, kit_int_int, kit_int_str, kit_int_list, kit_int_tuple, kit_str_bool, kit_str_int, kit_str_str, kit_str_list, kit_str_tuple, kit_list_bool, kit_list_int, kit_list_str, kit_list_list, kit_list_tuple, kit_tuple_bool, kit_tuple_int, kit_tuple_str, kit_tuple_list, kit_tuple_tuple, V.ty.injEq, rSortQ, rSlQ, rMulS, tJn, rAtX, rSlS, tSl, tPart, tNoPart, cut_lo2, cut_hi2, rInQ, gLq, gTq, gC_c, gNil, tChain, List.cons_append, List.nil_append, tBL, tBL0, rApp, rPopN, rRevL, seqAt_lst, seqAt_tup, at_0, at_1, at_2, at_3, at_4, ix_0, ix_1, ix_2, ix_3, ix_4, cx_K, upd_same, List.length_cons, List.length_nil, Nat.reduceAdd,  rEq, rNe, tRevL, V.int.injEq, V.bl.injEq, V.str.injEq, V.ref.injEq, List.cons.injEq, and_true, true_and, exists_and_left, exists_and_right, exists_eq_left, exists_eq_left', exists_eq_right, exists_eq_right', exists_const, Option.some.injEq, List.getElem?_cons_zero, List.getElem?_cons_succ, List.set_cons_zero, List.set_cons_succ, decide_eq_true_eq, decide_true, decide_false,  scal_ii, scal_bb, scal_ss, cmul_r, cdiv_l, cpow_12, cpow_18, cpow_40, HO.lst.injEq, HO.tup.injEq, upd_upd, Int.reduceToNat,  decide_not, Bool.not_eq_true', decide_eq_false_iff_not, if_true, if_false, Bool.false_eq_true, Bool.true_eq_false, reduceCtorEq, Int.reduceNeg, Nat.reduceLT, Int.reduceLT, Int.reducePow, gt_iff_lt, hp6]
    intro a2 ha2
    have r8 := r57.new (o := .lst [V.int x2, V.int x3]) ha2
    have hc3 := same_seq (same_new (o := .lst [V.int x2, V.int x3]) ha2) hc2
    refine ⟨S, a2, [.int x2, .int x3], rfl, r8.st, by rw [upd_same] <;> rfl, st.neA (r57.back ha2), (by show 2 ≤ 1000; decide), fun b3 zs H7 r9 hb3 hb4 pm2 => ?_⟩
    refine ⟨S, b3, zs, rfl, r9.st, hb4, r8.st.neA hb3, fun c2 H8 r10 hc4 hc5 => ?_⟩
    have c2S : c2 ≠ S.a := r9.st.neA hc4
    obtain ⟨z0, z1, rfl, sw3, sw4⟩ := perm2' pm2
    have hc6 : seqAt (H8 c1) = some [.int y0, .int y1] := r10.but.seqAt c1S (r9.but.seqAt c1S hc3)
    have r11 := (r8.trans r9).trans r10
    have stS : ∀ {G : Hp}, Drew S H G → ∀ q, G q = none → q ≠ S.a := fun r q h => r.st.neA h
    obtain ⟨d1, rd1⟩ := rp_pair (N := fun q => q ≠ S.a) c1S hc6
    obtain ⟨d2, rd2⟩ := rp_pair (N := fun q => q ≠ S.a) c2S hc5
    refine ⟨fun q => q ≠ S.a, _, d1, rfl, rd1, stS r11, fun v1 G1 e1 w1 => ?_⟩
    refine ⟨fun q => q ≠ S.a, _, d2, rfl, rd2.same e1, stS (r11.same e1), fun v2 G2 e2 w2 => ?_⟩
    have r12 := (r11.same e1).same e2
    refine ⟨sz_of (by decide), fun k hk => ?_⟩
    have r13 := r12.new (o := .lst [v1, v2]) hk
    have e3 := (e1.trans e2).trans (same_new (o := .lst [v1, v2]) hk)
    have eqx : crossB y0 y1 z0 z1 = crossB x0 x1 x2 x3 := by rw [(sw1 z0 z1), sw4 x0 x1]
    have eqy : crossB z0 z1 y0 y1 = crossB x0 x1 x2 x3 := by rw [crossB_sym, eqx]
    refine ⟨c1, c2, y0, y1, z0, z1, rfl, same_seq e3 hc6, same_seq e3 hc5, fun G3 e4 => ?_⟩
    rw [eqx]
    refine ⟨fun _ => True, _, _, .bl (crossB x0 x1 x2 x3), rfl, rfl, rfl, true, rfl, ?_⟩
    rw [if_neg (by decide)]
    refine ⟨c2, c1, z0, z1, y0, y1, rfl, same_seq (e3.trans e4) hc5, same_seq (e3.trans e4) hc6, fun G4 e5 => ?_⟩
    rw [eqy]
    refine ⟨fun _ => True, _, _, .bl (crossB x0 x1 x2 x3), rfl, rfl, rfl, true, rfl, ?_⟩
    rw [if_neg (by decide)]
    refine ⟨sz_of (by decide), fun k2 hk2 => ?_⟩
    have e6 := (e4.trans e5).trans (same_new (o := .lst [V.ref c1, V.ref c2]) hk2)
    have r14 := r13.same (e4.trans e5)
    refine ⟨fun q => q ≠ S.a, _, _, .lst [d1, d2], rfl, ?_, ?_, q _ (r14.new hk2)⟩
    · exact ⟨k2, _, rfl, stS r14 k2 hk2, upd_same, (by show 2 ≤ 1000; decide), .cons (rd1.same (e3.trans e6)) (.cons (rd2.same (e3.trans e6)) .nil)⟩
    · refine ⟨k, _, rfl, stS r12 k hk, e6 _ _ upd_same, (by show 2 ≤ 1000; decide), .cons ((w1.same e2).same ((same_new hk).trans e6)) (.cons (w2.same ((same_new hk).trans e6)) .nil)⟩
end
end Z
set_option Elab.async false
set_option linter.all false
set_option maxRecDepth 100000
set_option maxHeartbeats 4000000
namespace Z
open PySem PySem.Spec PyProof.Rows L2
section
variable {P : Program} {w : World} {K : PySem.W.Frag} {mg : Str → Option Value} {base : Heap}
abbrev s_law_steps_right : Stmt := topS 60
abbrev N_law_steps_right : List Str := ["store", "many", "turns", "spot", "moved", "single"]
theorem sc_law_steps_right : FnScope N_law_steps_right ["store", "many"] (defScope s_law_steps_right) := ⟨rfl, rfl, rfl, by decide +kernel, rfl, by decide +kernel, by decide +kernel⟩
theorem b_law_steps_right : BindO "_law_steps_right" s_law_steps_right ["store", "many"] := fun _ _ _ _ _ _ us hl => match us, hl with | [_, _], _ => rfl

def sp_many : Sp := fun vs H Q _ => ∃ (S : Sto) (n : Int), vs = [.ref S.a, .int n] ∧ Store S H ∧ 1 ≤ n ∧ n ≤ 10 ∧ ∀ H', Drew S H H' → Q (.bl true) H'
theorem ok_steps_right (D : Dn K mg "_law_steps_right" s_law_steps_right) (B : Blt mg) (c_law_turns : Cl P w K mg base 3 "_law_turns" sp_any) (ck_step_2_by : Ck P w K mg base 1 "step" 2 ["by"] (fun vs zs => vs ++ zs) sp_step)
    (cd_step : Cd P w K mg base 1 "step" [.int 1] sp_step) (c_law_is_integer : Cl P w K mg base 1 "_law_is_integer" sp_is_integer) (c_law_same : Cl P w K mg base 5 "_law_same" (sp_same 5)) : Cl P w K mg base 6 "_law_steps_right" sp_many := by
  refine cl_of D sc_law_steps_right b_law_steps_right (fun vs H Q E h => ?_) (fun f cdv A outer s H vs Q E hr h => ?_)
  · obtain ⟨S, n, rfl, _⟩ := h
    rfl
  · obtain ⟨S, n, rfl, st, h1, h10, q⟩ := h
    refine ⟨_, (pss_cons (ps_set (i := 2) sc_law_steps_right.nd rfl (.inl rfl) (pe_cl c_law_turns hr (by omega) rfl (pa_cons (pv 0) pa_nil)))
      (pss_cons (ps_for PassesOwn.never rfl (pi_range1 (by rfl) B.range (pa_cons (pv 1) pa_nil)) (pg_name (i := 3) sc_law_steps_right.nd rfl (.inl rfl)) (pss_cons (ps_set (i := 4) sc_law_steps_right.nd rfl (.inl rfl) (pe_ck ck_step_2_by hr (by omega) rfl (pa_cons (pv 1) (pa_cons (pv 3) pa_nil)) (pk_cons (pv 2) pk_nil)))
      (pss_cons (ps_if (PW.pt (pw_or (pt_not (pt_val (pe_cl c_law_is_integer hr (by omega) rfl (pa_cons (pv 4) pa_nil)))) (pw_or (pt_cmpR op_lt (pv 4) pe_int (nomark _)) (pw_or (pt_cmpR op_ge (pv 4) (pv 1) (nomark _)) (pw_or1 (pt_cmpR op_ne (pe_op op_mod (pe_callTy call_intI (by rfl) B.int (by decide +kernel) (pa_cons (pe_op op_sub (pe_op op_sub (pv 4) (pv 3)) (pv 2)) pa_nil)) (pv 1)) pe_int (nomark _))))))) (pss_one (ps_ret pe_bl)) pss_nil)
      (pss_cons (ps_set (i := 5) sc_law_steps_right.nd rfl (.inl rfl) (pe_op op_add (pv 3) pe_int))
      (pss_cons (ps_if (pt_cmpR op_eq (pv 5) (pv 1) (nomark _)) (pss_one (ps_set (i := 5) sc_law_steps_right.nd rfl (.inl rfl) pe_int)) pss_nil)
      (pss_one (ps_if (pt_not (pt_val (pe_cl c_law_same hr (by omega) rfl (pa_cons (pe_cd cd_step hr (by omega) rfl (pa_cons (pv 1) (pa_cons (pv 3) pa_nil))) (pa_cons (pv 5) pa_nil))))) (pss_one (ps_ret pe_bl)) pss_nil)))))))
      (pss_one (ps_ret pe_bl)))), ?_⟩
    rw [show L2.start N_law_steps_right [.ref S.a, .int n] = [some (.ref S.a), some (.int n), none, none, none, none] from rfl]
    simp only [tSeq, tNext, tDrop, tRet, tRetN, tIfS, tAsg, gName, tAug, ipI, tVar, tC, tOp, tUn, rI, rI0, rU, tCons, tNil, tCB, tTup, tLst, tTest, tB, tAnd, tOr, tNot, tAndV, tOrV, tNotV, tIf, tCl, tCd, tCk, gSub, rPutL, rAtQ, rIntI, rLenQ, rLenS, rListQ, rTupL, rTupQ, rIsQ_c, kd_non, kd_bl, kd_int, kd_str, kd_ref, kdO_lst, kdO_tup, kit_NoneType_bool, kit_NoneType_int, kit_NoneType_str, kit_NoneType_list, kit_NoneType_tuple, kit_bool_bool, kit_bool_int, kit_bool_str, kit_bool_list, kit_bool_tuple, kit_int_bool, kit_int_int, kit_int_str, kit_int_list, kit_int_tuple, kit_str_bool, kit_str_int, kit_str_str, kit_str_list, kit_str_tuple, kit_list_bool, kit_list_int, kit_list_str, kit_list_list, kit_list_tuple, kit_tuple_bool, kit_tuple_int, kit_tuple_str, kit_tuple_list, kit_tuple_tuple, V.ty.injEq, rSortQ, rSlQ, rMulS, tJn, rAtX, rSlS, tSl, tPart, tNoPart, cut_lo2, cut_hi2, rInQ, gLq, gTq, gC_c, gNil, tChain, List.cons_append, List.nil_append, tBL, tBL0, rApp, rPopN, rRevL, seqAt_lst, seqAt_tup, at_0, at_1, at_2, at_3, at_4, ix_0, ix_1, ix_2, ix_3, ix_4, cx_K, upd_same, List.length_cons, List.length_nil, Nat.reduceAdd,  rEq, rNe, tRevL, V.int.injEq, V.bl.injEq, V.str.injEq, V.ref.injEq, List.cons.injEq, and_true, true_and, exists_and_left, exists_and_right, exists_eq_left, exists_eq_left', exists_eq_right, exists_eq_right', exists_const, Option.some.injEq, List.getElem?_cons_zero, List.getElem?_cons_succ, List.set_cons_zero, List.set_cons_succ, decide_eq_true_eq, decide_true, decide_false,  scal_ii, scal_bb, scal_ss, cmul_r, cdiv_l, cpow_12, cpow_18, cpow_40, HO.lst.injEq, HO.tup.injEq, upd_upd, Int.reduceToNat,  decide_not, Bool.not_eq_true', decide_eq_false_iff_not, if_true, if_false, Bool.false_eq_true, Bool.true_eq_false, reduceCtorEq, Int.reduceNeg, Nat.reduceLT, Int.reduceLT, Int.reducePow, gt_iff_lt]
    refine ⟨S, rfl, st, fun t H1 r1 => ?_⟩
    obtain ⟨m, rfl⟩ : ∃ m : Nat, n = m := ⟨n.toNat, by omega⟩
    obtain ⟨Pv, hP⟩ : ∃ Pv : Nat → L2.St → Hp → Prop, Pv = fun i σ' H' => ∃ x y z : Option V, σ' = [some (.ref S.a), some (.int (m : Int)), some (.int t), x, y, z] ∧ H' = H1 := ⟨_, rfl⟩
    refine z_forR m (fun Q q => ?_) (by omega) Pv (by rw [hP]; exact ⟨_, _, _, rfl, rfl⟩) (fun i σ' H' hi hI => ?_) (fun σ' H' hI => ?_)
    · simp only [tSeq, tNext, tDrop, tRet, tRetN, tIfS, tAsg, gName, tAug, ipI, tVar, tC, tOp, tUn, rI, rI0, rU, tCons, tNil, tCB, tTup, tLst, tTest, tB, tAnd, tOr, tNot, tAndV, tOrV, tNotV, tIf, tCl, tCd, tCk, gSub, rPutL, rAtQ, rIntI, rLenQ, rLenS, rListQ, rTupL, rTupQ, rIsQ_c, kd_non, kd_bl, kd_int, kd_str, kd_ref, kdO_lst, kdO_tup, kit_NoneType_bool, kit_NoneType_int, kit_NoneType_str, kit_NoneType_list, kit_NoneType_tuple, kit_bool_bool, kit_bool_int, kit_bool_str, kit_bool_list, kit_bool_tuple, kit_int_bool, kit_int_int, kit_int_str, kit_int_list, kit_int_tuple, kit_str_bool, kit_str_int, kit_str_str, kit_str_list, kit_str_tuple, kit_list_bool, kit_list_int, kit_list_str, kit_list_list, kit_list_tuple, kit_tuple_bool, kit_tuple_int, kit_tuple_str, kit_tuple_list, kit_tuple_tuple, V.ty.injEq, rSortQ, rSlQ, rMulS, tJn, rAtX, rSlS, tSl, tPart, tNoPart, cut_lo2, cut_hi2, rInQ, gLq, gTq, gC_c, gNil, tChain, List.cons_append, List.nil_append, tBL, tBL0, rApp, rPopN, rRevL, seqAt_lst, seqAt_tup, at_0, at_1, at_2, at_3, at_4, ix_0, ix_1, ix_2, ix_3, ix_4, cx_K, upd_same, List.length_cons, List.length_nil, Nat.reduceAdd,  rEq, rNe, tRevL, V.int.injEq, V.bl.injEq, V.str.injEq, V.ref.injEq, List.cons.injEq, and_true, true_and, exists_and_left, exists_and_right, exists_eq_left, exists_eq_left', exists_eq_right, exists_eq_right', exists_const, Option.some.injEq, List.getElem?_cons_zero, List.getElem?_cons_succ, List.set_cons_zero, List.set_cons_succ, decide_eq_true_eq, decide_true, decide_false,  scal_ii, scal_bb, scal_ss, cmul_r, cdiv_l, cpow_12, cpow_18, cpow_40, HO.lst.injEq, HO.tup.injEq, upd_upd, Int.reduceToNat,  decide_not, Bool.not_eq_true', decide_eq_false_iff_not, if_true, if_false, Bool.false_eq_true, Bool.true_eq_false, reduceCtorEq, Int.reduceNeg, Nat.reduceLT, Int.reduceLT, Int.reducePow, gt_iff_lt]
      exact q
    · rw [hP] at hI
      obtain ⟨x, y, z, rfl, rfl⟩ := hI
      simp only [tSeq, tNext, tDrop, tRet, tRetN, tIfS, tAsg, gName, tAug, ipI, tVar, tC, tOp, tUn, rI, rI0, rU, tCons, tNil, tCB, tTup, tLst, tTest, tB, tAnd, tOr, tNot, tAndV, tOrV, tNotV, tIf, tCl, tCd, tCk, gSub, rPutL, rAtQ, rIntI, rLenQ, rLenS, rListQ, rTupL, rTupQ, rIsQ_c, kd_non, kd_bl, kd_int, kd_str, kd_ref, kdO_lst, kdO_tup, kit_NoneType_bool, kit_NoneType_int, kit_NoneType_str, kit_NoneType_list, kit_NoneType_tuple, kit_bool_bool, kit_bool_int, kit_bool_str, kit_bool_list, kit_bool_tuple, kit_int_bool, kit_int_int, kit_int_str, kit_int_list, kit_int_tuple, kit_str_bool, kit_str_int, kit_str_str, kit_str_list, kit_str_tuple, kit_list_bool, kit_list_int, kit_list_str, kit_list_list, kit_list_tuple, kit_tuple_bool, kit_tuple_int, kit_tuple_str, kit_tuple_list, kit_tuple_tuple, V.ty.injEq, rSortQ, rSlQ, rMulS, tJn, rAtX, rSlS, tSl, tPart, tNoPart, cut_lo2, cut_hi2, rInQ, gLq, gTq, gC_c, gNil, tChain, List.cons_append, List.nil_append, tBL, tBL0, rApp, rPopN, rRevL, seqAt_lst, seqAt_tup, at_0, at_1, at_2, at_3, at_4, ix_0, ix_1, ix_2, ix_3, ix_4, cx_K, upd_same, List.length_cons, List.length_nil, Nat.reduceAdd,  rEq, rNe, tRevL, V.int.injEq, V.bl.injEq, V.str.injEq, V.ref.injEq, List.cons.injEq, and_true, true_and, exists_and_left, exists_and_right, exists_eq_left, exists_eq_left', exists_eq_right, exists_eq_right', exists_const, Option.some.injEq, List.getElem?_cons_zero, List.getElem?_cons_succ, List.set_cons_zero, List.set_cons_succ, decide_eq_true_eq, decide_true, decide_false,  scal_ii, scal_bb, scal_ss, cmul_r, cdiv_l, cpow_12, cpow_18, cpow_40, HO.lst.injEq, HO.tup.injEq, upd_upd, Int.reduceToNat,  decide_not, Bool.not_eq_true', decide_eq_false_iff_not, if_true, if_false, Bool.false_eq_true, Bool.true_eq_false, reduceCtorEq, Int.reduceNeg, Nat.reduceLT, Int.reduceLT, Int.reducePow, gt_iff_lt]
      refine ⟨_, _, _, rfl, by omega, ?_⟩
      have g1 := Int.emod_nonneg ((i : Int) + t) (show (m : Int) ≠ 0 by omega)
      have g2 := Int.emod_lt_of_pos ((i : Int) + t) (show (0 : Int) < m by omega)
      have g3 : (((i : Int) + t) % m - i - t) % m = 0 := by
        have e : ((i : Int) + t) % m - i - t = - (m * (((i : Int) + t) / m)) := by
          have := Int.emod_add_mul_ediv ((i : Int) + t) m
          omega
        rw [e]
        simp
      generalize hv : ((i : Int) + t) % m = v at g1 g2 g3
      simp only [tSeq, tNext, tDrop, tRet, tRetN, tIfS, tAsg, gName, tAug, ipI, tVar, tC, tOp, tUn, rI, rI0, rU, tCons, tNil, tCB, tTup, tLst, tTest, tB, tAnd, tOr, tNot, tAndV, tOrV, tNotV, tIf, tCl, tCd, tCk, gSub, rPutL, rAtQ, rIntI, rLenQ, rLenS, rListQ, rTupL, rTupQ, rIsQ_c, kd_non, kd_bl, kd_int, kd_str, kd_ref, kdO_lst, kdO_tup, kit_NoneType_bool, kit_NoneType_int, kit_NoneType_str, kit_NoneType_list, kit_NoneType_tuple, kit_bool_bool, kit_bool_int, kit_bool_str, kit_bool_list, kit_bool_tuple, kit_int_bool, kit_int_int, kit_int_str, kit_int_list, kit_int_tuple, kit_str_bool, kit_str_int, kit_str_str, kit_str_list, kit_str_tuple, kit_list_bool, kit_list_int, kit_list_str, kit_list_list, kit_list_tuple, kit_tuple_bool, kit_tuple_int, kit_tuple_str, kit_tuple_list, kit_tuple_tuple, V.ty.injEq, rSortQ, rSlQ, rMulS, tJn, rAtX, rSlS, tSl, tPart, tNoPart, cut_lo2, cut_hi2, rInQ, gLq, gTq, gC_c, gNil, tChain, List.cons_append, List.nil_append, tBL, tBL0, rApp, rPopN, rRevL, seqAt_lst, seqAt_tup, at_0, at_1, at_2, at_3, at_4, ix_0, ix_1, ix_2, ix_3, ix_4, cx_K, upd_same, List.length_cons, List.length_nil, Nat.reduceAdd,  rEq, rNe, tRevL, V.int.injEq, V.bl.injEq, V.str.injEq, V.ref.injEq, List.cons.injEq, and_true, true_and, exists_and_left, exists_and_right, exists_eq_left, exists_eq_left', exists_eq_right, exists_eq_right', exists_const, Option.some.injEq, List.getElem?_cons_zero, List.getElem?_cons_succ, List.set_cons_zero, List.set_cons_succ, decide_eq_true_eq, decide_true, decide_false,  scal_ii, scal_bb, scal_ss, cmul_r, cdiv_l, cpow_12, cpow_18, cpow_40, HO.lst.injEq, HO.tup.injEq, upd_upd, Int.reduceToNat,  decide_not, Bool.not_eq_true', decide_eq_false_iff_not, if_true, if_false, Bool.false_eq_true, Bool.true_eq_false, reduceCtorEq, Int.reduceNeg, Nat.reduceLT, Int.reduceLT, Int.reducePow, gt_iff_lt]
      refine ⟨v, rfl, true, rfl, ?_⟩
      rw [if_neg (by decide), if_neg (by omega), if_neg (by omega)]
      refine ⟨by omega, ?_⟩
      rw [if_neg fun z => z g3]
      split
      · rename_i e
        refine ⟨_, _, _, rfl, by omega, fun _ => True, _, _, .int 0, rfl, ?_, rfl, true, rfl, ?_⟩
        · show V.int _ = V.int 0
          rw [e, Int.emod_self]
        · rw [if_neg (by decide), hP]
          exact ⟨_, _, _, rfl, rfl⟩
      · rename_i e
        refine ⟨_, _, _, rfl, by omega, fun _ => True, _, _, .int ((i : Int) + 1), rfl, ?_, rfl, true, rfl, ?_⟩
        · show V.int _ = V.int ((i : Int) + 1)
          rw [Int.emod_eq_of_lt (by omega) (by omega)]
        · rw [if_neg (by decide), hP]
          exact ⟨_, _, _, rfl, rfl⟩
    · rw [hP] at hI
      obtain ⟨x, y, z, rfl, rfl⟩ := hI
      simp only [tSeq, tNext, tDrop, tRet, tRetN, tIfS, tAsg, gName, tAug, ipI, tVar, tC, tOp, tUn, rI, rI0, rU, tCons, tNil, tCB, tTup, tLst, tTest, tB, tAnd, tOr, tNot, tAndV, tOrV, tNotV, tIf, tCl, tCd, tCk, gSub, rPutL, rAtQ, rIntI, rLenQ, rLenS, rListQ, rTupL, rTupQ, rIsQ_c, kd_non, kd_bl, kd_int, kd_str, kd_ref, kdO_lst, kdO_tup, kit_NoneType_bool, kit_NoneType_int, kit_NoneType_str, kit_NoneType_list, kit_NoneType_tuple, kit_bool_bool, kit_bool_int, kit_bool_str, kit_bool_list, kit_bool_tuple, kit_int_bool, kit_int_int, kit_int_str, kit_int_list, kit_int_tuple, kit_str_bool, kit_str_int, kit_str_str, kit_str_list, kit_str_tuple, kit_list_bool, kit_list_int, kit_list_str, kit_list_list, kit_list_tuple, kit_tuple_bool, kit_tuple_int, kit_tuple_str, kit_tuple_list, kit_tuple_tuple, V.ty.injEq, rSortQ, rSlQ, rMulS, tJn, rAtX, rSlS, tSl, tPart, tNoPart, cut_lo2, cut_hi2, rInQ, gLq, gTq, gC_c, gNil, tChain, List.cons_append, List.nil_append, tBL, tBL0, rApp, rPopN, rRevL, seqAt_lst, seqAt_tup, at_0, at_1, at_2, at_3, at_4, ix_0, ix_1, ix_2, ix_3, ix_4, cx_K, upd_same, List.length_cons, List.length_nil, Nat.reduceAdd,  rEq, rNe, tRevL, V.int.injEq, V.bl.injEq, V.str.injEq, V.ref.injEq, List.cons.injEq, and_true, true_and, exists_and_left, exists_and_right, exists_eq_left, exists_eq_left', exists_eq_right, exists_eq_right', exists_const, Option.some.injEq, List.getElem?_cons_zero, List.getElem?_cons_succ, List.set_cons_zero, List.set_cons_succ, decide_eq_true_eq, decide_true, decide_false,  scal_ii, scal_bb, scal_ss, cmul_r, cdiv_l, cpow_12, cpow_18, cpow_40, HO.lst.injEq, HO.tup.injEq, upd_upd, Int.reduceToNat,  decide_not, Bool.not_eq_true', decide_eq_false_iff_not, if_true, if_false, Bool.false_eq_true, Bool.true_eq_false, reduceCtorEq, Int.reduceNeg, Nat.reduceLT, Int.reduceLT, Int.reducePow, gt_iff_lt]
      exact q _ r1
abbrev s_law_spoil : Stmt := topS 48
abbrev N_law_spoil : List Str := ["thing", "part"]
theorem sc_law_spoil : FnScope N_law_spoil ["thing"] (defScope s_law_spoil) := ⟨rfl, rfl, rfl, by decide +kernel, rfl, by decide +kernel, by decide +kernel⟩
theorem b_law_spoil : BindO "_law_spoil" s_law_spoil ["thing"] := fun _ _ _ _ _ _ us hl => match us, hl with | [_], _ => rfl

/-- flat, or a tuple of such -/
def Fz (H : Hp) : Nat → V → Prop
  | 0, _ => False
  | n + 1, v => flatV v = true ∨ ∃ a xs, v = .ref a ∧ H a = some (.tup xs) ∧ xs.length ≤ 1000 ∧ ∀ x ∈ xs, Fz H n x
theorem Fz.same {H H' : Hp} (e : Same H H') : ∀ {n : Nat} {v : V}, Fz H n v → Fz H' n v
  | 0, _, h => h
  | n + 1, v, h => h.elim .inl fun ⟨a, xs, e1, e2, l, f⟩ => .inr ⟨a, xs, e1, e _ _ e2, l, fun x hx => Fz.same e (f x hx)⟩
def sp_spoil (n : Nat) : Sp := fun vs H Q _ => ∃ u, vs = [u] ∧ ((Fz H n u ∧ ∀ H', Same H H' → Q .non H') ∨ ∃ p xs, u = .ref p ∧ H p = some (.lst xs) ∧ xs.length ≤ 1000 ∧ n ≠ 0 ∧ (∀ x ∈ xs, Fz H (n - 1) x) ∧ ∀ H', But (fun b => b = p) H H' → Q .non H')
theorem ok_spoil (D : Dn K mg "_law_spoil" s_law_spoil) (B : Blt mg) : ∀ n, Cl P w K mg base n "_law_spoil" (sp_spoil n)
  | 0 => cl_none D b_law_spoil fun vs H Q E ⟨_, _, h⟩ => h.elim (fun h => h.1) fun ⟨_, _, _, _, _, z, _⟩ => z rfl
  | n + 1 => by
    have c_law_spoil := ok_spoil D B n
    refine cl_of D sc_law_spoil b_law_spoil (fun vs H Q E h => ?_) (fun f cdv A outer s H vs Q E hr h => ?_)
    · obtain ⟨u, rfl, _⟩ := h
      rfl
    · obtain ⟨u, rfl, h⟩ := h
      refine ⟨_, (pss_cons (ps_if (PW.pt (pw_or (pt_val (pe_callB call_isQ (by rfl) B.isinstance (by decide +kernel) (pa_cons (pv 0) (pa_cons (pe_bltn (v := .ty "list") (u := .type "list") (by rfl) B.list (by decide +kernel) rfl) pa_nil)))) (pw_or1 (pt_val (pe_callB call_isQ (by rfl) B.isinstance (by decide +kernel) (pa_cons (pv 0) (pa_cons (pe_bltn (v := .ty "tuple") (u := .type "tuple") (by rfl) B.tuple (by decide +kernel) rfl) pa_nil))))))) (pss_one (ps_for PassesOwn.never rfl (pi_list (pe_callTy call_listQ (by rfl) B.list (by decide +kernel) (pa_cons (pv 0) pa_nil))) (pg_name (i := 1) sc_law_spoil.nd rfl (.inl rfl)) (pss_one (ps_expr (pe_cl c_law_spoil hr (by omega) rfl (pa_cons (pv 1) pa_nil)))))) pss_nil)
      (pss_one (ps_if (pt_val (pe_callB call_isQ (by rfl) B.isinstance (by decide +kernel) (pa_cons (pv 0) (pa_cons (pe_bltn (v := .ty "list") (u := .type "list") (by rfl) B.list (by decide +kernel) rfl) pa_nil)))) (pss_cons (ps_expr (pe_ml0 PySem.F.slot_list_reverse PySem.F.type_list_reverse mt_revL (pv 0)))
      (pss_one (ps_expr (pe_ml PySem.F.slot_list_append PySem.F.type_list_append mt_app (pv 0) (pa_cons pe_str pa_nil))))) pss_nil))), ?_⟩
      rw [show L2.start N_law_spoil [u] = [some u, none] from rfl]
      rcases h with ⟨fz, q⟩ | ⟨p, xs, rfl, hp, hz, _, fz, q⟩
      · rcases fz with fl | ⟨a, xs, rfl, ha, hz, fz⟩
        · cases u <;> first | exact absurd fl Bool.false_ne_true | (simp only [tSeq, tNext, tDrop, tRet, tRetN, tIfS, tAsg, gName, tAug, ipI, tVar, tC, tOp, tUn, rI, rI0, rU, tCons, tNil, tCB, tTup, tLst, tTest, tB, tAnd, tOr, tNot, tAndV, tOrV, tNotV, tIf, tCl, tCd, tCk, gSub, rPutL, rAtQ, rIntI, rLenQ, rLenS, rListQ, rTupL, rTupQ, rIsQ_c, kd_non, kd_bl, kd_int, kd_str, kd_ref, kdO_lst, kdO_tup, kit_NoneType_bool, kit_NoneType_int, kit_NoneType_str, kit_NoneType_list, kit_NoneType_tuple, kit_bool_bool, kit_bool_int, kit_bool_str, kit_bool_list, kit_bool_tuple, kit_int_bool, kit_int_int, kit_int_str, kit_int_list, kit_int_tuple, kit_str_bool, kit_str_int, kit_str_str, kit_str_list, kit_str_tuple, kit_list_bool, kit_list_int, kit_list_str, kit_list_list, kit_list_tuple, kit_tuple_bool, kit_tuple_int, kit_tuple_str, kit_tuple_list, kit_tuple_tuple, V.ty.injEq, rSortQ, rSlQ, rMulS, tJn, rAtX, rSlS, tSl, tPart, tNoPart, cut_lo2, cut_hi2, rInQ, gLq, gTq, gC_c, gNil, tChain, List.cons_append, List.nil_append, tBL, tBL0, rApp, rPopN, rRevL, seqAt_lst, seqAt_tup, at_0, at_1, at_2, at_3, at_4, ix_0, ix_1, ix_2, ix_3, ix_4, cx_K, upd_same, List.length_cons, List.length_nil, Nat.reduceAdd,  rEq, rNe, tRevL, V.int.injEq, V.bl.injEq, V.str.injEq, V.ref.injEq, List.cons.injEq, and_true, true_and, exists_and_left, exists_and_right, exists_eq_left, exists_eq_left', exists_eq_right, exists_eq_right', exists_const, Option.some.injEq, List.getElem?_cons_zero, List.getElem?_cons_succ, List.set_cons_zero, List.set_cons_succ, decide_eq_true_eq, decide_true, decide_false,  scal_ii, scal_bb, scal_ss, cmul_r, cdiv_l, cpow_12, cpow_18, cpow_40, HO.lst.injEq, HO.tup.injEq, upd_upd, Int.reduceToNat,  decide_not, Bool.not_eq_true', decide_eq_false_iff_not, if_true, if_false, Bool.false_eq_true, Bool.true_eq_false, reduceCtorEq, Int.reduceNeg, Nat.reduceLT, Int.reduceLT, Int.reducePow, gt_iff_lt]; exact q _ (Same.refl H))
        · simp only [tSeq, tNext, tDrop, tRet, tRetN, tIfS, tAsg, gName, tAug, ipI, tVar, tC, tOp, tUn, rI, rI0, rU, tCons, tNil, tCB, tTup, tLst, tTest, tB, tAnd, tOr, tNot, tAndV, tOrV, tNotV, tIf, tCl, tCd, tCk, gSub, rPutL, rAtQ, rIntI, rLenQ, rLenS, rListQ, rTupL, rTupQ, rIsQ_c, kd_non, kd_bl, kd_int, kd_str, kd_ref, kdO_lst, kdO_tup, kit_NoneType_bool, kit_NoneType_int, kit_NoneType_str, kit_NoneType_list, kit_NoneType_tuple, kit_bool_bool, kit_bool_int, kit_bool_str, kit_bool_list, kit_bool_tuple, kit_int_bool, kit_int_int, kit_int_str, kit_int_list, kit_int_tuple, kit_str_bool, kit_str_int, kit_str_str, kit_str_list, kit_str_tuple, kit_list_bool, kit_list_int, kit_list_str, kit_list_list, kit_list_tuple, kit_tuple_bool, kit_tuple_int, kit_tuple_str, kit_tuple_list, kit_tuple_tuple, V.ty.injEq, rSortQ, rSlQ, rMulS, tJn, rAtX, rSlS, tSl, tPart, tNoPart, cut_lo2, cut_hi2, rInQ, gLq, gTq, gC_c, gNil, tChain, List.cons_append, List.nil_append, tBL, tBL0, rApp, rPopN, rRevL, seqAt_lst, seqAt_tup, at_0, at_1, at_2, at_3, at_4, ix_0, ix_1, ix_2, ix_3, ix_4, cx_K, upd_same, List.length_cons, List.length_nil, Nat.reduceAdd,  rEq, rNe, tRevL, V.int.injEq, V.bl.injEq, V.str.injEq, V.ref.injEq, List.cons.injEq, and_true, true_and, exists_and_left, exists_and_right, exists_eq_left, exists_eq_left', exists_eq_right, exists_eq_right', exists_const, Option.some.injEq, List.getElem?_cons_zero, List.getElem?_cons_succ, List.set_cons_zero, List.set_cons_succ, decide_eq_true_eq, decide_true, decide_false,  scal_ii, scal_bb, scal_ss, cmul_r, cdiv_l, cpow_12, cpow_18, cpow_40, HO.lst.injEq, HO.tup.injEq, upd_upd, Int.reduceToNat,  decide_not, Bool.not_eq_true', decide_eq_false_iff_not, if_true, if_false, Bool.false_eq_true, Bool.true_eq_false, reduceCtorEq, Int.reduceNeg, Nat.reduceLT, Int.reduceLT, Int.reducePow, gt_iff_lt, ha]
          refine z_forN xs (fun Q q => ?_) (fun l i σ' H' => ∃ k : Option V, σ' = [some (.ref a), k] ∧ Same H H' ∧ H' l = some (.lst xs)) (fun l hl => ⟨_, rfl, same_new hl, upd_same⟩) (fun l i σ' H' hl ⟨k, _, _, h⟩ => SqL.of h) (fun l i x σ' H' hl hx hI => ?_) (fun l σ' H' hl hI => ?_)
          · simp only [tSeq, tNext, tDrop, tRet, tRetN, tIfS, tAsg, gName, tAug, ipI, tVar, tC, tOp, tUn, rI, rI0, rU, tCons, tNil, tCB, tTup, tLst, tTest, tB, tAnd, tOr, tNot, tAndV, tOrV, tNotV, tIf, tCl, tCd, tCk, gSub, rPutL, rAtQ, rIntI, rLenQ, rLenS, rListQ, rTupL, rTupQ, rIsQ_c, kd_non, kd_bl, kd_int, kd_str, kd_ref, kdO_lst, kdO_tup, kit_NoneType_bool, kit_NoneType_int, kit_NoneType_str, kit_NoneType_list, kit_NoneType_tuple, kit_bool_bool, kit_bool_int, kit_bool_str, kit_bool_list, kit_bool_tuple, kit_int_bool, kit_int_int, kit_int_str, kit_int_list, kit_int_tuple, kit_str_bool, kit_str_int, kit_str_str, kit_str_list, kit_str_tuple, kit_list_bool, kit_list_int, kit_list_str, kit_list_list, kit_list_tuple, kit_tuple_bool, kit_tuple_int, kit_tuple_str, kit_tuple_list, kit_tuple_tuple, V.ty.injEq, rSortQ, rSlQ, rMulS, tJn, rAtX, rSlS, tSl, tPart, tNoPart, cut_lo2, cut_hi2, rInQ, gLq, gTq, gC_c, gNil, tChain, List.cons_append, List.nil_append, tBL, tBL0, rApp, rPopN, rRevL, seqAt_lst, seqAt_tup, at_0, at_1, at_2, at_3, at_4, ix_0, ix_1, ix_2, ix_3, ix_4, cx_K, upd_same, List.length_cons, List.length_nil, Nat.reduceAdd,  rEq, rNe, tRevL, V.int.injEq, V.bl.injEq, V.str.injEq, V.ref.injEq, List.cons.injEq, and_true, true_and, exists_and_left, exists_and_right, exists_eq_left, exists_eq_left', exists_eq_right, exists_eq_right', exists_const, Option.some.injEq, List.getElem?_cons_zero, List.getElem?_cons_succ, List.set_cons_zero, List.set_cons_succ, decide_eq_true_eq, decide_true, decide_false,  scal_ii, scal_bb, scal_ss, cmul_r, cdiv_l, cpow_12, cpow_18, cpow_40, HO.lst.injEq, HO.tup.injEq, upd_upd, Int.reduceToNat,  decide_not, Bool.not_eq_true', decide_eq_false_iff_not, if_true, if_false, Bool.false_eq_true, Bool.true_eq_false, reduceCtorEq, Int.reduceNeg, Nat.reduceLT, Int.reduceLT, Int.reducePow, gt_iff_lt, ha]
            exact q
          · obtain ⟨k, rfl, e, h⟩ := hI
            simp only [tSeq, tNext, tDrop, tRet, tRetN, tIfS, tAsg, gName, tAug, ipI, tVar, tC, tOp, tUn, rI, rI0, rU, tCons, tNil, tCB, tTup, tLst, tTest, tB, tAnd, tOr, tNot, tAndV, tOrV, tNotV, tIf, tCl, tCd, tCk, gSub, rPutL, rAtQ, rIntI, rLenQ, rLenS, rListQ, rTupL, rTupQ, rIsQ_c, kd_non, kd_bl, kd_int, kd_str, kd_ref, kdO_lst, kdO_tup, kit_NoneType_bool, kit_NoneType_int, kit_NoneType_str, kit_NoneType_list, kit_NoneType_tuple, kit_bool_bool, kit_bool_int, kit_bool_str, kit_bool_list, kit_bool_tuple, kit_int_bool, kit_int_int, kit_int_str, kit_int_list, kit_int_tuple, kit_str_bool, kit_str_int, kit_str_str, kit_str_list, kit_str_tuple, kit_list_bool, kit_list_int, kit_list_str, kit_list_list, kit_list_tuple, kit_tuple_bool, kit_tuple_int, kit_tuple_str, kit_tuple_list, kit_tuple_tuple, V.ty.injEq, rSortQ, rSlQ, rMulS, tJn, rAtX, rSlS, tSl, tPart, tNoPart, cut_lo2, cut_hi2, rInQ, gLq, gTq, gC_c, gNil, tChain, List.cons_append, List.nil_append, tBL, tBL0, rApp, rPopN, rRevL, seqAt_lst, seqAt_tup, at_0, at_1, at_2, at_3, at_4, ix_0, ix_1, ix_2, ix_3, ix_4, cx_K, upd_same, List.length_cons, List.length_nil, Nat.reduceAdd,  rEq, rNe, tRevL, V.int.injEq, V.bl.injEq, V.str.injEq, V.ref.injEq, List.cons.injEq, and_true, true_and, exists_and_left, exists_and_right, exists_eq_left, exists_eq_left', exists_eq_right, exists_eq_right', exists_const, Option.some.injEq, List.getElem?_cons_zero, List.getElem?_cons_succ, List.set_cons_zero, List.set_cons_succ, decide_eq_true_eq, decide_true, decide_false,  scal_ii, scal_bb, scal_ss, cmul_r, cdiv_l, cpow_12, cpow_18, cpow_40, HO.lst.injEq, HO.tup.injEq, upd_upd, Int.reduceToNat,  decide_not, Bool.not_eq_true', decide_eq_false_iff_not, if_true, if_false, Bool.false_eq_true, Bool.true_eq_false, reduceCtorEq, Int.reduceNeg, Nat.reduceLT, Int.reduceLT, Int.reducePow, gt_iff_lt]
            exact ⟨x, rfl, .inl ⟨Fz.same e (fz x (List.mem_of_getElem? hx)), fun H2 e2 => ⟨⟨_, rfl⟩, e.trans e2, e2 _ _ h⟩⟩⟩
          · obtain ⟨k, rfl, e, h⟩ := hI
            have ha' := e _ _ ha
            simp only [tSeq, tNext, tDrop, tRet, tRetN, tIfS, tAsg, gName, tAug, ipI, tVar, tC, tOp, tUn, rI, rI0, rU, tCons, tNil, tCB, tTup, tLst, tTest, tB, tAnd, tOr, tNot, tAndV, tOrV, tNotV, tIf, tCl, tCd, tCk, gSub, rPutL, rAtQ, rIntI, rLenQ, rLenS, rListQ, rTupL, rTupQ, rIsQ_c, kd_non, kd_bl, kd_int, kd_str, kd_ref, kdO_lst, kdO_tup, kit_NoneType_bool, kit_NoneType_int, kit_NoneType_str, kit_NoneType_list, kit_NoneType_tuple, kit_bool_bool, kit_bool_int, kit_bool_str, kit_bool_list, kit_bool_tuple, kit_int_bool, kit_int_int, kit_int_str, kit_int_list, kit_int_tuple, kit_str_bool, kit_str_int, kit_str_str, kit_str_list, kit_str_tuple, kit_list_bool, kit_list_int, kit_list_str, kit_list_list, kit_list_tuple, kit_tuple_bool, kit_tuple_int, kit_tuple_str, kit_tuple_list, kit_tuple_tuple, V.ty.injEq, rSortQ, rSlQ, rMulS, tJn, rAtX, rSlS, tSl, tPart, tNoPart, cut_lo2, cut_hi2, rInQ, gLq, gTq, gC_c, gNil, tChain, List.cons_append, List.nil_append, tBL, tBL0, rApp, rPopN, rRevL, seqAt_lst, seqAt_tup, at_0, at_1, at_2, at_3, at_4, ix_0, ix_1, ix_2, ix_3, ix_4, cx_K, upd_same, List.length_cons, List.length_nil, Nat.reduceAdd,  rEq, rNe, tRevL, V.int.injEq, V.bl.injEq, V.str.injEq, V.ref.injEq, List.cons.injEq, and_true, true_and, exists_and_left, exists_and_right, exists_eq_left, exists_eq_left', exists_eq_right, exists_eq_right', exists_const, Option.some.injEq, List.getElem?_cons_zero, List.getElem?_cons_succ, List.set_cons_zero, List.set_cons_succ, decide_eq_true_eq, decide_true, decide_false,  scal_ii, scal_bb, scal_ss, cmul_r, cdiv_l, cpow_12, cpow_18, cpow_40, HO.lst.injEq, HO.tup.injEq, upd_upd, Int.reduceToNat,  decide_not, Bool.not_eq_true', decide_eq_false_iff_not, if_true, if_false, Bool.false_eq_true, Bool.true_eq_false, reduceCtorEq, Int.reduceNeg, Nat.reduceLT, Int.reduceLT, Int.reducePow, gt_iff_lt, ha']
            exact q _ e
      · simp only [tSeq, tNext, tDrop, tRet, tRetN, tIfS, tAsg, gName, tAug, ipI, tVar, tC, tOp, tUn, rI, rI0, rU, tCons, tNil, tCB, tTup, tLst, tTest, tB, tAnd, tOr, tNot, tAndV, tOrV, tNotV, tIf, tCl, tCd, tCk, gSub, rPutL, rAtQ, rIntI, rLenQ, rLenS, rListQ, rTupL, rTupQ, rIsQ_c, kd_non, kd_bl, kd_int, kd_str, kd_ref, kdO_lst, kdO_tup, kit_NoneType_bool, kit_NoneType_int, kit_NoneType_str, kit_NoneType_list, kit_NoneType_tuple, kit_bool_bool, kit_bool_int, kit_bool_str, kit_bool_list, kit_bool_tuple, kit_int_bool, kit_int_int, kit_int_str, kit_int_list, kit_int_tuple, kit_str_bool, kit_str_int, kit_str_str, kit_str_list, kit_str_tuple, kit_list_bool, kit_list_int, kit_list_str, kit_list_list, kit_list_tuple, kit_tuple_bool, kit_tuple_int, kit_tuple_str, kit_tuple_list, kit_tuple_tuple, V.ty.injEq, rSortQ, rSlQ, rMulS, tJn, rAtX, rSlS, tSl, tPart, tNoPart, cut_lo2, cut_hi2, rInQ, gLq, gTq, gC_c, gNil, tChain, List.cons_append, List.nil_append, tBL, tBL0, rApp, rPopN, rRevL, seqAt_lst, seqAt_tup, at_0, at_1, at_2, at_3, at_4, ix_0, ix_1, ix_2, ix_3, ix_4, cx_K, upd_same, List.length_cons, List.length_nil, Nat.reduceAdd,  rEq, rNe, tRevL, V.int.injEq, V.bl.injEq, V.str.injEq, V.ref.injEq, List.cons.injEq, and_true, true_and, exists_and_left, exists_and_right, exists_eq_left, exists_eq_left', exists_eq_right, exists_eq_right', exists_const, Option.some.injEq, List.getElem?_cons_zero, List.getElem?_cons_succ, List.set_cons_zero, List.set_cons_succ, decide_eq_true_eq, decide_true, decide_false,  scal_ii, scal_bb, scal_ss, cmul_r, cdiv_l, cpow_12, cpow_18, cpow_40, HO.lst.injEq, HO.tup.injEq, upd_upd, Int.reduceToNat,  decide_not, Bool.not_eq_true', decide_eq_false_iff_not, if_true, if_false, Bool.false_eq_true, Bool.true_eq_false, reduceCtorEq, Int.reduceNeg, Nat.reduceLT, Int.reduceLT, Int.reducePow, gt_iff_lt, hp]
        refine z_forN xs (fun Q q => ?_) (fun l i σ' H' => ∃ k : Option V, σ' = [some (.ref p), k] ∧ Same H H' ∧ H' l = some (.lst xs)) (fun l hl => ⟨_, rfl, same_new hl, upd_same⟩) (fun l i σ' H' hl ⟨k, _, _, h⟩ => SqL.of h) (fun l i x σ' H' hl hx hI => ?_) (fun l σ' H' hl hI => ?_)
        · simp only [tSeq, tNext, tDrop, tRet, tRetN, tIfS, tAsg, gName, tAug, ipI, tVar, tC, tOp, tUn, rI, rI0, rU, tCons, tNil, tCB, tTup, tLst, tTest, tB, tAnd, tOr, tNot, tAndV, tOrV, tNotV, tIf, tCl, tCd, tCk, gSub, rPutL, rAtQ, rIntI, rLenQ, rLenS, rListQ, rTupL, rTupQ, rIsQ_c, kd_non, kd_bl, kd_int, kd_str, kd_ref, kdO_lst, kdO_tup, kit_NoneType_bool, kit_NoneType_int, kit_NoneType_str, kit_NoneType_list, kit_NoneType_tuple, kit_bool_bool, kit_bool_int, kit_bool_str, kit_bool_list, kit_bool_tuple, kit_int_bool, kit_int_int, kit_int_str, kit_int_list, kit_int_tuple, kit_str_bool, kit_str_int, kit_str_str, kit_str_list, kit_str_tuple, kit_list_bool, kit_list_int, kit_list_str, kit_list_list, kit_list_tuple, kit_tuple_bool, kit_tuple_int, kit_tuple_str, kit_tuple_list, kit_tuple_tuple, V.ty.injEq, rSortQ, rSlQ, rMulS, tJn, rAtX, rSlS, tSl, tPart, tNoPart, cut_lo2, cut_hi2, rInQ, gLq, gTq, gC_c, gNil, tChain, List.cons_append, List.nil_append, tBL, tBL0, rApp, rPopN, rRevL, seqAt_lst, seqAt_tup, at_0, at_1, at_2, at_3, at_4, ix_0, ix_1, ix_2, ix_3, ix_4, cx_K, upd_same, List.length_cons, List.length_nil, Nat.reduceAdd,  rEq, rNe, tRevL, V.int.injEq, V.bl.injEq, V.str.injEq, V.ref.injEq, List.cons.injEq, and_true, true_and, exists_and_left, exists_and_right, exists_eq_left, exists_eq_left', exists_eq_right, exists_eq_right', exists_const, Option.some.injEq, List.getElem?_cons_zero, List.getElem?_cons_succ, List.set_cons_zero, List.set_cons_succ, decide_eq_true_eq, decide_true, decide_false,  scal_ii, scal_bb, scal_ss, cmul_r, cdiv_l, cpow_12, cpow_18, cpow_40, HO.lst.injEq, HO.tup.injEq, upd_upd, Int.reduceToNat,  decide_not, Bool.not_eq_true', decide_eq_false_iff_not, if_true, if_false, Bool.false_eq_true, Bool.true_eq_false, reduceCtorEq, Int.reduceNeg, Nat.reduceLT, Int.reduceLT, Int.reducePow, gt_iff_lt, hp]
          exact q
        · obtain ⟨k, rfl, e, h⟩ := hI
          simp only [tSeq, tNext, tDrop, tRet, tRetN, tIfS, tAsg, gName, tAug, ipI, tVar, tC, tOp, tUn, rI, rI0, rU, tCons, tNil, tCB, tTup, tLst, tTest, tB, tAnd, tOr, tNot, tAndV, tOrV, tNotV, tIf, tCl, tCd, tCk, gSub, rPutL, rAtQ, rIntI, rLenQ, rLenS, rListQ, rTupL, rTupQ, rIsQ_c, kd_non, kd_bl, kd_int, kd_str, kd_ref, kdO_lst, kdO_tup, kit_NoneType_bool, kit_NoneType_int, kit_NoneType_str, kit_NoneType_list, kit_NoneType_tuple, kit_bool_bool, kit_bool_int, kit_bool_str, kit_bool_list, kit_bool_tuple, kit_int_bool, kit_int_int, kit_int_str, kit_int_list, kit_int_tuple, kit_str_bool, kit_str_int, kit_str_str, kit_str_list, kit_str_tuple, kit_list_bool, kit_list_int, kit_list_str, kit_list_list, kit_list_tuple, kit_tuple_bool, kit_tuple_int, kit_tuple_str, kit_tuple_list, kit_tuple_tuple, V.ty.injEq, rSortQ, rSlQ, rMulS, tJn, rAtX, rSlS, tSl, tPart, tNoPart, cut_lo2, cut_hi2, rInQ, gLq, gTq, gC_c, gNil, tChain, List.cons_append, List.nil_append, tBL, tBL0, rApp, rPopN, rRevL, seqAt_lst, seqAt_tup, at_0, at_1, at_2, at_3, at_4, ix_0, ix_1, ix_2, ix_3, ix_4, cx_K, upd_same, List.length_cons, List.length_nil, Nat.reduceAdd,  rEq, rNe, tRevL, V.int.injEq, V.bl.injEq, V.str.injEq, V.ref.injEq, List.cons.injEq, and_true, true_and, exists_and_left, exists_and_right, exists_eq_left, exists_eq_left', exists_eq_right, exists_eq_right', exists_const, Option.some.injEq, List.getElem?_cons_zero, List.getElem?_cons_succ, List.set_cons_zero, List.set_cons_succ, decide_eq_true_eq, decide_true, decide_false,  scal_ii, scal_bb, scal_ss, cmul_r, cdiv_l, cpow_12, cpow_18, cpow_40, HO.lst.injEq, HO.tup.injEq, upd_upd, Int.reduceToNat,  decide_not, Bool.not_eq_true', decide_eq_false_iff_not, if_true, if_false, Bool.false_eq_true, Bool.true_eq_false, reduceCtorEq, Int.reduceNeg, Nat.reduceLT, Int.reduceLT, Int.reducePow, gt_iff_lt]
          exact ⟨x, rfl, .inl ⟨Fz.same e (fz x (List.mem_of_getElem? hx)), fun H2 e2 => ⟨⟨_, rfl⟩, e.trans e2, e2 _ _ h⟩⟩⟩
        · obtain ⟨k, rfl, e, h⟩ := hI
          have hp' := e _ _ hp
          simp only [tSeq, tNext, tDrop, tRet, tRetN, tIfS, tAsg, gName, tAug, ipI, tVar, tC, tOp, tUn, rI, rI0, rU, tCons, tNil, tCB, tTup, tLst, tTest, tB, tAnd, tOr, tNot, tAndV, tOrV, tNotV, tIf, tCl, tCd, tCk, gSub, rPutL, rAtQ, rIntI, rLenQ, rLenS, rListQ, rTupL, rTupQ, rIsQ_c, kd_non, kd_bl, kd_int, kd_str, kd_ref, kdO_lst, kdO_tup, kit_NoneType_bool, kit_NoneType_int, kit_NoneType_str, kit_NoneType_list, kit_NoneType_tuple, kit_bool_bool, kit_bool_int, kit_bool_str, kit_bool_list, kit_bool_tuple, kit_int_bool, kit_int_int, kit_int_str, kit_int_list, kit_int_tuple, kit_str_bool, kit_str_int, kit_str_str, kit_str_list, kit_str_tuple, kit_list_bool, kit_list_int, kit_list_str, kit_list_list, kit_list_tuple, kit_tuple_bool, kit_tuple_int, kit_tuple_str, kit_tuple_list, kit_tuple_tuple, V.ty.injEq, rSortQ, rSlQ, rMulS, tJn, rAtX, rSlS, tSl, tPart, tNoPart, cut_lo2, cut_hi2, rInQ, gLq, gTq, gC_c, gNil, tChain, List.cons_append, List.nil_append, tBL, tBL0, rApp, rPopN, rRevL, seqAt_lst, seqAt_tup, at_0, at_1, at_2, at_3, at_4, ix_0, ix_1, ix_2, ix_3, ix_4, cx_K, upd_same, List.length_cons, List.length_nil, Nat.reduceAdd,  rEq, rNe, tRevL, V.int.injEq, V.bl.injEq, V.str.injEq, V.ref.injEq, List.cons.injEq, and_true, true_and, exists_and_left, exists_and_right, exists_eq_left, exists_eq_left', exists_eq_right, exists_eq_right', exists_const, Option.some.injEq, List.getElem?_cons_zero, List.getElem?_cons_succ, List.set_cons_zero, List.set_cons_succ, decide_eq_true_eq, decide_true, decide_false,  scal_ii, scal_bb, scal_ss, cmul_r, cdiv_l, cpow_12, cpow_18, cpow_40, HO.lst.injEq, HO.tup.injEq, upd_upd, Int.reduceToNat,  decide_not, Bool.not_eq_true', decide_eq_false_iff_not, if_true, if_false, Bool.false_eq_true, Bool.true_eq_false, reduceCtorEq, Int.reduceNeg, Nat.reduceLT, Int.reduceLT, Int.reducePow, gt_iff_lt, hp', List.length_reverse]
          exact ⟨⟨_, rfl⟩, ⟨_, rfl⟩, sz_lt (by omega), q _ ((But.of (S := fun b => b = p) e).at (.inl rfl))⟩
theorem inV_ints {x : Int} {ns : List Int} : inV (.int x) (ns.map V.int) = decide (x ∈ ns) := by
  unfold inV
  rw [List.any_map, Bool.eq_iff_iff, List.any_eq_true, decide_eq_true_eq]
  constructor
  · rintro ⟨y, hy, e⟩
    have e' : (decide (y = x) : Bool) = true ∨ (y == x) = true := by
      first | exact .inr e | exact .inl e
    rcases e' with e' | e'
    · rw [← of_decide_eq_true e']
      exact hy
    · rw [← eq_of_beq e']
      exact hy
  · intro h
    exact ⟨x, h, by show eqV (.int x) (.int x) = true; simp [eqV]⟩
abbrev s_law_span_right : Stmt := topS 61
abbrev N_law_span_right : List Str := ["store", "many", "begin", "finish", "due", "k", "told", "spot"]
theorem sc_law_span_right : FnScope N_law_span_right ["store", "many"] (defScope s_law_span_right) := ⟨rfl, rfl, rfl, by decide +kernel, rfl, by decide +kernel, by decide +kernel⟩
theorem b_law_span_right : BindO "_law_span_right" s_law_span_right ["store", "many"] := fun _ _ _ _ _ _ us hl => match us, hl with | [_, _], _ => rfl

theorem atI_snoc {α : Type} {xs : List α} {v : α} : atI (xs ++ [v]) (-1) = some v := atI_last xs v
theorem ix_back {n : Nat} (h : 0 < n) : ixN n (-1) = some (n - 1) := by
  unfold ixN
  rw [if_neg (by decide), if_pos (by omega)]
  congr 1
  omega
theorem set_snoc {α : Type} {x y : α} : ∀ {xs : List α}, (xs ++ [x]).set xs.length y = xs ++ [y]
  | [] => rfl
  | z :: xs => congrArg (z :: ·) (set_snoc (xs := xs))
/-- the j-th position behind a -/
theorem spanL_eq {n a b : Int} (m : Nat) (h : (b - a) % n = m) : spanL n a b = (List.range m).map (fun i : Nat => (a + (i : Int)) % n) ++ [(a + (m : Int)) % n] := by
  unfold spanL
  rw [h, show ((m : Int) + 1).toNat = m + 1 by omega, List.range_succ, List.map_append]
  rfl
theorem span_mem {n a b x : Int} (hn : 0 < n) (hx : 0 ≤ x ∧ x < n) : x ∈ spanL n a b ↔ (x - a) % n ≤ (b - a) % n := by
  unfold spanL
  have m0 := Int.emod_nonneg (b - a) (show n ≠ 0 by omega)
  have k0 := Int.emod_nonneg (x - a) (show n ≠ 0 by omega)
  have k1 := Int.emod_lt_of_pos (x - a) hn
  rw [List.mem_map]
  constructor
  · rintro ⟨j, hj, rfl⟩
    rw [List.mem_range] at hj
    have e : ((a + (j : Int)) % n - a) % n = (j : Int) % n := by
      rw [Int.sub_emod, Int.emod_emod, ← Int.sub_emod]
      congr 1
      omega
    rw [e]
    have := Int.emod_lt_of_pos (b - a) hn
    rw [Int.emod_eq_of_lt (by omega) (by omega)]
    omega
  · intro h
    refine ⟨((x - a) % n).toNat, List.mem_range.mpr (by omega), ?_⟩
    rw [show (((x - a) % n).toNat : Int) = (x - a) % n by omega, Int.add_emod, Int.emod_emod, ← Int.add_emod, show a + (x - a) = x by omega]
    exact Int.emod_eq_of_lt hx.1 hx.2
theorem ok_span_right (D : Dn K mg "_law_span_right" s_law_span_right) (B : Blt mg) (c_law_take : Cl P w K mg base 2 "_law_take" sp_take) (c_span : Cl P w K mg base 2 "span" sp_span) (ck_span_0_size_first_last : Ck P w K mg base 2 "span" 0 ["size", "first", "last"] (fun _ zs => zs) sp_span)
    (c_in_span : Cl P w K mg base 1 "in_span" sp_in_span) (c_law_same : Cl P w K mg base 5 "_law_same" (sp_same 5)) (c_law_spoil : Cl P w K mg base 5 "_law_spoil" (sp_spoil 5)) : Cl P w K mg base 6 "_law_span_right" sp_many := by
  refine cl_of D sc_law_span_right b_law_span_right (fun vs H Q E h => ?_) (fun f cdv A outer s H vs Q E hr h => ?_)
  · obtain ⟨S, n, rfl, _⟩ := h
    rfl
  · obtain ⟨S, n, rfl, st, h1, h10, q⟩ := h
    refine ⟨_, (pss_cons (ps_set (i := 2) sc_law_span_right.nd rfl (.inl rfl) (pe_cl c_law_take hr (by omega) rfl (pa_cons (pv 0) (pa_cons (pv 1) pa_nil))))
      (pss_cons (ps_set (i := 3) sc_law_span_right.nd rfl (.inl rfl) (pe_cl c_law_take hr (by omega) rfl (pa_cons (pv 0) (pa_cons (pv 1) pa_nil))))
      (pss_cons (ps_set (i := 4) sc_law_span_right.nd rfl (.inl rfl) (pe_lst (pa_cons (pv 2) pa_nil)))
      (pss_cons (ps_for PassesOwn.never rfl (pi_range1 (by rfl) B.range (pa_cons (pv 1) pa_nil)) (pg_name (i := 5) sc_law_span_right.nd rfl (.inl rfl)) (pss_cons (ps_if (pt_cmpR op_ne (pe_ix at_seq (pv 4) (pe_un un_neg pe_int) (fun _ _ => rfl)) (pv 3) (nomark _)) (pss_one (ps_expr (pe_ml PySem.F.slot_list_append PySem.F.type_list_append mt_app (pv 4) (pa_cons (pe_op op_add (pe_ix at_seq (pv 4) (pe_un un_neg pe_int) (fun _ _ => rfl)) pe_int) pa_nil)))) pss_nil)
      (pss_one (ps_if (pt_cmpR op_eq (pe_ix at_seq (pv 4) (pe_un un_neg pe_int) (fun _ _ => rfl)) (pv 1) (nomark _)) (pss_one (ps_asg pe_int (pg_sub (pv 4) (pe_un un_neg pe_int) put_list))) pss_nil))))
      (pss_cons (ps_set (i := 6) sc_law_span_right.nd rfl (.inl rfl) (pe_cl c_span hr (by omega) rfl (pa_cons (pv 1) (pa_cons (pv 2) (pa_cons (pv 3) pa_nil)))))
      (pss_cons (ps_if (pt_not (pt_val (pe_cl c_law_same hr (by omega) rfl (pa_cons (pv 6) (pa_cons (pv 4) pa_nil))))) (pss_one (ps_ret pe_bl)) pss_nil)
      (pss_cons (ps_expr (pe_cl c_law_spoil hr (by omega) rfl (pa_cons (pv 6) pa_nil)))
      (pss_cons (ps_if (pt_not (pt_val (pe_cl c_law_same hr (by omega) rfl (pa_cons (pe_ck0 ck_span_0_size_first_last hr (by omega) rfl (pk_cons (pv 1) (pk_cons (pv 2) (pk_cons (pv 3) pk_nil)))) (pa_cons (pv 4) pa_nil))))) (pss_one (ps_ret pe_bl)) pss_nil)
      (pss_cons (ps_for PassesOwn.never rfl (pi_range1 (by rfl) B.range (pa_cons (pv 1) pa_nil)) (pg_name (i := 7) sc_law_span_right.nd rfl (.inl rfl)) (pss_one (ps_if (pt_not (pt_val (pe_cl c_law_same hr (by omega) rfl (pa_cons (pe_cl c_in_span hr (by omega) rfl (pa_cons (pv 1) (pa_cons (pv 7) (pa_cons (pv 2) (pa_cons (pv 3) pa_nil))))) (pa_cons (pe_cmpR op_inQ (pv 7) (pv 4) (by rfl)) pa_nil))))) (pss_one (ps_ret pe_bl)) pss_nil)))
      (pss_one (ps_ret pe_bl))))))))))), ?_⟩
    rw [show L2.start N_law_span_right [.ref S.a, .int n] = [some (.ref S.a), some (.int n), none, none, none, none, none, none] from rfl]
    simp only [tSeq, tNext, tDrop, tRet, tRetN, tIfS, tAsg, gName, tAug, ipI, tVar, tC, tOp, tUn, rI, rI0, rU, tCons, tNil, tCB, tTup, tLst, tTest, tB, tAnd, tOr, tNot, tAndV, tOrV, tNotV, tIf, tCl, tCd, tCk, gSub, rPutL, rAtQ, rIntI, rLenQ, rLenS, rListQ, rTupL, rTupQ, rIsQ_c, kd_non, kd_bl, kd_int, kd_str, kd_ref, kdO_lst, kdO_tup, kit_NoneType_bool, kit_NoneType_int, kit_NoneType_str, kit_NoneType_list, kit_NoneType_tuple, kit_bool_bool, kit_bool_int, kit_bool_str, kit_bool_list, kit_bool_tuple, kit_int_bool, kit_int_int, kit_int_str, kit_int_list, kit_int_tuple, kit_str_bool, kit_str_int, kit_str_str, kit_str_list, kit_str_tuple, kit_list_bool, kit_list_int, kit_list_str, kit_list_list, kit_list_tuple, kit_tuple_bool, kit_tuple_int, kit_tuple_str, kit_tuple_list, kit_tuple_tuple, V.ty.injEq, rSortQ, rSlQ, rMulS, tJn, rAtX, rSlS, tSl, tPart, tNoPart, cut_lo2, cut_hi2, rInQ, gLq, gTq, gC_c, gNil, tChain, List.cons_append, List.nil_append, tBL, tBL0, rApp, rPopN, rRevL, seqAt_lst, seqAt_tup, at_0, at_1, at_2, at_3, at_4, ix_0, ix_1, ix_2, ix_3, ix_4, cx_K, upd_same, List.length_cons, List.length_nil, Nat.reduceAdd,  rEq, rNe, tRevL, V.int.injEq, V.bl.injEq, V.str.injEq, V.ref.injEq, List.cons.injEq, and_true, true_and, exists_and_left, exists_and_right, exists_eq_left, exists_eq_left', exists_eq_right, exists_eq_right', exists_const, Option.some.injEq, List.getElem?_cons_zero, List.getElem?_cons_succ, List.set_cons_zero, List.set_cons_succ, decide_eq_true_eq, decide_true, decide_false,  scal_ii, scal_bb, scal_ss, cmul_r, cdiv_l, cpow_12, cpow_18, cpow_40, HO.lst.injEq, HO.tup.injEq, upd_upd, Int.reduceToNat,  decide_not, Bool.not_eq_true', decide_eq_false_iff_not, if_true, if_false, Bool.false_eq_true, Bool.true_eq_false, reduceCtorEq, Int.reduceNeg, Nat.reduceLT, Int.reduceLT, Int.reducePow, gt_iff_lt]
    refine ⟨_, _, rfl, st, by omega, fun a H1 r1 ga => ?_⟩
    refine ⟨_, _, rfl, r1.st, by omega, fun b H2 r2 gb => ⟨sz_of (by decide), fun p hp => ?_⟩⟩
    have a0 := ga.1
    have a1 : a < n := by have := ga.2; omega
    have b0 := gb.1
    have b1 : b < n := by have := gb.2; omega
    have r12 := r1.trans r2
    have hp0 := r12.back hp
    have pS := st.neA hp0
    have m0 := Int.emod_nonneg (b - a) (show n ≠ 0 by omega)
    have m1 := Int.emod_lt_of_pos (b - a) (show 0 < n by omega)
    obtain ⟨m, hm⟩ : ∃ m : Nat, (b - a) % n = m := ⟨((b - a) % n).toNat, by omega⟩
    obtain ⟨nn, rfl⟩ : ∃ k : Nat, n = k := ⟨n.toNat, by omega⟩
    obtain ⟨f, hf⟩ : ∃ f : Nat → Int, f = fun j : Nat => (a + (j : Int)) % (nn : Int) := ⟨_, rfl⟩
    have f0 : f 0 = a := by
      rw [hf]
      show (a + 0) % (nn : Int) = a
      rw [Int.add_zero, Int.emod_eq_of_lt a0 a1]
    have fm : f m = b := by
      rw [hf]
      show (a + (m : Int)) % (nn : Int) = b
      rw [← hm, Int.add_emod, Int.emod_emod, ← Int.add_emod, show a + (b - a) = b by omega, Int.emod_eq_of_lt b0 b1]
    have fi : ∀ j : Nat, j < m → f j ≠ b := fun j hj e => by
      have z : (f j - a) % (nn : Int) = j := by
        rw [hf]
        show ((a + (j : Int)) % (nn : Int) - a) % (nn : Int) = j
        rw [Int.sub_emod, Int.emod_emod, ← Int.sub_emod, show a + (j : Int) - a = j by omega]
        exact Int.emod_eq_of_lt (by omega) (by omega)
      rw [e] at z
      omega
    have fs : ∀ j : Nat, f (j + 1) = if f j + 1 = (nn : Int) then 0 else f j + 1 := fun j => by
      have g1 := Int.emod_nonneg (a + (j : Int)) (show (nn : Int) ≠ 0 by omega)
      have g2 := Int.emod_lt_of_pos (a + (j : Int)) (show (0 : Int) < nn by omega)
      have e : (a + ((j + 1 : Nat) : Int)) % (nn : Int) = ((a + (j : Int)) % (nn : Int) + 1) % (nn : Int) := by
        rw [Int.emod_add_emod]
        congr 1
        omega
      rw [hf]
      show (a + ((j + 1 : Nat) : Int)) % (nn : Int) = if (a + (j : Int)) % (nn : Int) + 1 = (nn : Int) then 0 else (a + (j : Int)) % (nn : Int) + 1
      rw [e]
      split
      · rename_i z
        rw [z, Int.emod_self]
      · exact Int.emod_eq_of_lt (by omega) (by omega)
    obtain ⟨Pv, hP⟩ : ∃ Pv : Nat → L2.St → Hp → Prop, Pv = fun i σ' H' => ∃ (k : Option V) (j : Nat), σ' = [some (.ref S.a), some (.int nn), some (.int a), some (.int b), some (.ref p), k, none, none] ∧ Drew S H H' ∧
      j = min i m ∧ H' p = some (.lst (((List.range j).map f).map V.int ++ [.int (f j)])) := ⟨_, rfl⟩
    refine z_forR nn (fun Q q => ?_) (by omega) Pv ?h0 (fun i σ' H' hi hI => ?hs) (fun σ' H' hI => ?hd)
    · simp only [tSeq, tNext, tDrop, tRet, tRetN, tIfS, tAsg, gName, tAug, ipI, tVar, tC, tOp, tUn, rI, rI0, rU, tCons, tNil, tCB, tTup, tLst, tTest, tB, tAnd, tOr, tNot, tAndV, tOrV, tNotV, tIf, tCl, tCd, tCk, gSub, rPutL, rAtQ, rIntI, rLenQ, rLenS, rListQ, rTupL, rTupQ, rIsQ_c, kd_non, kd_bl, kd_int, kd_str, kd_ref, kdO_lst, kdO_tup, kit_NoneType_bool, kit_NoneType_int, kit_NoneType_str, kit_NoneType_list, kit_NoneType_tuple, kit_bool_bool, kit_bool_int, kit_bool_str, kit_bool_list, kit_bool_tuple, kit_int_bool, kit_int_int, kit_int_str, kit_int_list, kit_int_tuple, kit_str_bool, kit_str_int, kit_str_str, kit_str_list, kit_str_tuple, kit_list_bool, kit_list_int, kit_list_str, kit_list_list, kit_list_tuple, kit_tuple_bool, kit_tuple_int, kit_tuple_str, kit_tuple_list, kit_tuple_tuple, V.ty.injEq, rSortQ, rSlQ, rMulS, tJn, rAtX, rSlS, tSl, tPart, tNoPart, cut_lo2, cut_hi2, rInQ, gLq, gTq, gC_c, gNil, tChain, List.cons_append, List.nil_append, tBL, tBL0, rApp, rPopN, rRevL, seqAt_lst, seqAt_tup, at_0, at_1, at_2, at_3, at_4, ix_0, ix_1, ix_2, ix_3, ix_4, cx_K, upd_same, List.length_cons, List.length_nil, Nat.reduceAdd,  rEq, rNe, tRevL, V.int.injEq, V.bl.injEq, V.str.injEq, V.ref.injEq, List.cons.injEq, and_true, true_and, exists_and_left, exists_and_right, exists_eq_left, exists_eq_left', exists_eq_right, exists_eq_right', exists_const, Option.some.injEq, List.getElem?_cons_zero, List.getElem?_cons_succ, List.set_cons_zero, List.set_cons_succ, decide_eq_true_eq, decide_true, decide_false,  scal_ii, scal_bb, scal_ss, cmul_r, cdiv_l, cpow_12, cpow_18, cpow_40, HO.lst.injEq, HO.tup.injEq, upd_upd, Int.reduceToNat,  decide_not, Bool.not_eq_true', decide_eq_false_iff_not, if_true, if_false, Bool.false_eq_true, Bool.true_eq_false, reduceCtorEq, Int.reduceNeg, Nat.reduceLT, Int.reduceLT, Int.reducePow, gt_iff_lt]
      exact q
    case h0 =>
      rw [hP]
      exact ⟨none, 0, rfl, r12.new hp, by omega, by rw [upd_same, f0] <;> rfl⟩
    case hs =>
      rw [hP] at hI
      obtain ⟨k, j, rfl, r3, hj, hl⟩ := hI
      generalize hG : ((List.range j).map f).map V.int = G at hl
      have hGl : G.length = j := by rw [← hG, List.length_map, List.length_map, List.length_range]
      have sl : seqAt (H' p) = some (G ++ [.int (f j)]) := by rw [hl] <;> rfl
      simp only [tSeq, tNext, tDrop, tRet, tRetN, tIfS, tAsg, gName, tAug, ipI, tVar, tC, tOp, tUn, rI, rI0, rU, tCons, tNil, tCB, tTup, tLst, tTest, tB, tAnd, tOr, tNot, tAndV, tOrV, tNotV, tIf, tCl, tCd, tCk, gSub, rPutL, rAtQ, rIntI, rLenQ, rLenS, rListQ, rTupL, rTupQ, rIsQ_c, kd_non, kd_bl, kd_int, kd_str, kd_ref, kdO_lst, kdO_tup, kit_NoneType_bool, kit_NoneType_int, kit_NoneType_str, kit_NoneType_list, kit_NoneType_tuple, kit_bool_bool, kit_bool_int, kit_bool_str, kit_bool_list, kit_bool_tuple, kit_int_bool, kit_int_int, kit_int_str, kit_int_list, kit_int_tuple, kit_str_bool, kit_str_int, kit_str_str, kit_str_list, kit_str_tuple, kit_list_bool, kit_list_int, kit_list_str, kit_list_list, kit_list_tuple, kit_tuple_bool, kit_tuple_int, kit_tuple_str, kit_tuple_list, kit_tuple_tuple, V.ty.injEq, rSortQ, rSlQ, rMulS, tJn, rAtX, rSlS, tSl, tPart, tNoPart, cut_lo2, cut_hi2, rInQ, gLq, gTq, gC_c, gNil, tChain, List.cons_append, List.nil_append, tBL, tBL0, rApp, rPopN, rRevL, seqAt_lst, seqAt_tup, at_0, at_1, at_2, at_3, at_4, ix_0, ix_1, ix_2, ix_3, ix_4, cx_K, upd_same, List.length_cons, List.length_nil, Nat.reduceAdd,  rEq, rNe, tRevL, V.int.injEq, V.bl.injEq, V.str.injEq, V.ref.injEq, List.cons.injEq, and_true, true_and, exists_and_left, exists_and_right, exists_eq_left, exists_eq_left', exists_eq_right, exists_eq_right', exists_const, Option.some.injEq, List.getElem?_cons_zero, List.getElem?_cons_succ, List.set_cons_zero, List.set_cons_succ, decide_eq_true_eq, decide_true, decide_false,  scal_ii, scal_bb, scal_ss, cmul_r, cdiv_l, cpow_12, cpow_18, cpow_40, HO.lst.injEq, HO.tup.injEq, upd_upd, Int.reduceToNat,  decide_not, Bool.not_eq_true', decide_eq_false_iff_not, if_true, if_false, Bool.false_eq_true, Bool.true_eq_false, reduceCtorEq, Int.reduceNeg, Nat.reduceLT, Int.reduceLT, Int.reducePow, gt_iff_lt, hl, sl, atI_snoc]
      split
      · rename_i e
        have jm : j < m := by
          by_cases z : j < m
          · exact z
          · exact absurd (by rw [show j = m by omega]; exact fm) e
        have hn : ((List.range (j + 1)).map f).map V.int = G ++ [.int (f j)] := by
          rw [List.range_succ, List.map_append, List.map_append, hG]
          rfl
        have fj := fs j
        refine ⟨⟨_, rfl⟩, sz_lt (by rw [List.length_append, hGl]; show j + 1 < 100000; omega), ?_⟩
        split
        · rename_i z
          rw [if_pos z] at fj
          refine ⟨(G ++ [V.int (f j)]).length, ?_, ?_⟩
          · rw [ix_back (by rw [List.length_append]; exact Nat.succ_pos _), List.length_append]
            rfl
          · rw [set_snoc, hP]
            exact ⟨_, j + 1, rfl, r3.at st hp0, by omega, by rw [upd_same, hn, fj]⟩
        · rename_i z
          rw [if_neg z] at fj
          rw [hP]
          exact ⟨_, j + 1, rfl, r3.at st hp0, by omega, by rw [upd_same, hn, fj]⟩
      · rename_i e
        have e' : f j = b := Classical.not_not.mp e
        rw [if_neg (by omega), hP]
        refine ⟨_, j, rfl, r3, ?_, by rw [hG]; exact hl⟩
        by_cases z : j < m
        · exact absurd e' (fi j z)
        · omega
    case hd =>
      rw [hP] at hI
      obtain ⟨k, j, rfl, r3, hj, hl⟩ := hI
      have jm : j = m := by omega
      subst jm
      have hs : ((List.range j).map f).map V.int ++ [.int (f j)] = (spanL nn a b).map V.int := by
        rw [spanL_eq j hm, List.map_append, hf]
        rfl
      rw [hs] at hl
      have L10 : (spanL nn a b).length ≤ 10 := by
        unfold spanL
        rw [List.length_map, List.length_range]
        omega
      simp only [tSeq, tNext, tDrop, tRet, tRetN, tIfS, tAsg, gName, tAug, ipI, tVar, tC, tOp, tUn, rI, rI0, rU, tCons, tNil, tCB, tTup, tLst, tTest, tB, tAnd, tOr, tNot, tAndV, tOrV, tNotV, tIf, tCl, tCd, tCk, gSub, rPutL, rAtQ, rIntI, rLenQ, rLenS, rListQ, rTupL, rTupQ, rIsQ_c, kd_non, kd_bl, kd_int, kd_str, kd_ref, kdO_lst, kdO_tup, kit_NoneType_bool, kit_NoneType_int, kit_NoneType_str, kit_NoneType_list, kit_NoneType_tuple, kit_bool_bool, kit_bool_int, kit_bool_str, kit_bool_list, kit_bool_tuple, kit_int_bool, kit_int_int, kit_int_str, kit_int_list, kit_int_tuple, kit_str_bool, kit_str_int, kit_str_str, kit_str_list, kit_str_tuple, kit_list_bool, kit_list_int, kit_list_str, kit_list_list, kit_list_tuple, kit_tuple_bool, kit_tuple_int, kit_tuple_str, kit_tuple_list, kit_tuple_tuple, V.ty.injEq, rSortQ, rSlQ, rMulS, tJn, rAtX, rSlS, tSl, tPart, tNoPart, cut_lo2, cut_hi2, rInQ, gLq, gTq, gC_c, gNil, tChain, List.cons_append, List.nil_append, tBL, tBL0, rApp, rPopN, rRevL, seqAt_lst, seqAt_tup, at_0, at_1, at_2, at_3, at_4, ix_0, ix_1, ix_2, ix_3, ix_4, cx_K, upd_same, List.length_cons, List.length_nil, Nat.reduceAdd,  rEq, rNe, tRevL, V.int.injEq, V.bl.injEq, V.str.injEq, V.ref.injEq, List.cons.injEq, and_true, true_and, exists_and_left, exists_and_right, exists_eq_left, exists_eq_left', exists_eq_right, exists_eq_right', exists_const, Option.some.injEq, List.getElem?_cons_zero, List.getElem?_cons_succ, List.set_cons_zero, List.set_cons_succ, decide_eq_true_eq, decide_true, decide_false,  scal_ii, scal_bb, scal_ss, cmul_r, cdiv_l, cpow_12, cpow_18, cpow_40, HO.lst.injEq, HO.tup.injEq, upd_upd, Int.reduceToNat,  decide_not, Bool.not_eq_true', decide_eq_false_iff_not, if_true, if_false, Bool.false_eq_true, Bool.true_eq_false, reduceCtorEq, Int.reduceNeg, Nat.reduceLT, Int.reduceLT, Int.reducePow, gt_iff_lt]
      refine ⟨_, _, _, rfl, by omega, by omega, fun p2 H3 e3 hp2 h3 => ?_⟩
      have hl3 := e3 _ _ hl
      have p20 := r3.back hp2
      simp only [tSeq, tNext, tDrop, tRet, tRetN, tIfS, tAsg, gName, tAug, ipI, tVar, tC, tOp, tUn, rI, rI0, rU, tCons, tNil, tCB, tTup, tLst, tTest, tB, tAnd, tOr, tNot, tAndV, tOrV, tNotV, tIf, tCl, tCd, tCk, gSub, rPutL, rAtQ, rIntI, rLenQ, rLenS, rListQ, rTupL, rTupQ, rIsQ_c, kd_non, kd_bl, kd_int, kd_str, kd_ref, kdO_lst, kdO_tup, kit_NoneType_bool, kit_NoneType_int, kit_NoneType_str, kit_NoneType_list, kit_NoneType_tuple, kit_bool_bool, kit_bool_int, kit_bool_str, kit_bool_list, kit_bool_tuple, kit_int_bool, kit_int_int, kit_int_str, kit_int_list, kit_int_tuple, kit_str_bool, kit_str_int, kit_str_str, kit_str_list, kit_str_tuple, kit_list_bool, kit_list_int, kit_list_str, kit_list_list, kit_list_tuple, kit_tuple_bool, kit_tuple_int, kit_tuple_str, kit_tuple_list, kit_tuple_tuple, V.ty.injEq, rSortQ, rSlQ, rMulS, tJn, rAtX, rSlS, tSl, tPart, tNoPart, cut_lo2, cut_hi2, rInQ, gLq, gTq, gC_c, gNil, tChain, List.cons_append, List.nil_append, tBL, tBL0, rApp, rPopN, rRevL, seqAt_lst, seqAt_tup, at_0, at_1, at_2, at_3, at_4, ix_0, ix_1, ix_2, ix_3, ix_4, cx_K, upd_same, List.length_cons, List.length_nil, Nat.reduceAdd,  rEq, rNe, tRevL, V.int.injEq, V.bl.injEq, V.str.injEq, V.ref.injEq, List.cons.injEq, and_true, true_and, exists_and_left, exists_and_right, exists_eq_left, exists_eq_left', exists_eq_right, exists_eq_right', exists_const, Option.some.injEq, List.getElem?_cons_zero, List.getElem?_cons_succ, List.set_cons_zero, List.set_cons_succ, decide_eq_true_eq, decide_true, decide_false,  scal_ii, scal_bb, scal_ss, cmul_r, cdiv_l, cpow_12, cpow_18, cpow_40, HO.lst.injEq, HO.tup.injEq, upd_upd, Int.reduceToNat,  decide_not, Bool.not_eq_true', decide_eq_false_iff_not, if_true, if_false, Bool.false_eq_true, Bool.true_eq_false, reduceCtorEq, Int.reduceNeg, Nat.reduceLT, Int.reduceLT, Int.reducePow, gt_iff_lt]
      refine ⟨fun _ => True, _, _, _, rfl, rp_ints trivial h3 (by omega), rp_ints trivial hl3 (by omega), true, rfl, ?_⟩
      rw [if_neg (by decide)]
      refine ⟨_, rfl, .inr ⟨p2, _, rfl, h3, by rw [List.length_map]; omega, by decide, fun x hx => ?_, fun H4 b4 => ?_⟩⟩
      · obtain ⟨i, _, rfl⟩ := List.mem_map.mp hx
        exact .inl rfl
      have r4 := (r3.same e3).only st p20 b4
      have hl4 := b4 _ _ (ne_of_none hl hp2) hl3
      simp only [tSeq, tNext, tDrop, tRet, tRetN, tIfS, tAsg, gName, tAug, ipI, tVar, tC, tOp, tUn, rI, rI0, rU, tCons, tNil, tCB, tTup, tLst, tTest, tB, tAnd, tOr, tNot, tAndV, tOrV, tNotV, tIf, tCl, tCd, tCk, gSub, rPutL, rAtQ, rIntI, rLenQ, rLenS, rListQ, rTupL, rTupQ, rIsQ_c, kd_non, kd_bl, kd_int, kd_str, kd_ref, kdO_lst, kdO_tup, kit_NoneType_bool, kit_NoneType_int, kit_NoneType_str, kit_NoneType_list, kit_NoneType_tuple, kit_bool_bool, kit_bool_int, kit_bool_str, kit_bool_list, kit_bool_tuple, kit_int_bool, kit_int_int, kit_int_str, kit_int_list, kit_int_tuple, kit_str_bool, kit_str_int, kit_str_str, kit_str_list, kit_str_tuple, kit_list_bool, kit_list_int, kit_list_str, kit_list_list, kit_list_tuple, kit_tuple_bool, kit_tuple_int, kit_tuple_str, kit_tuple_list, kit_tuple_tuple, V.ty.injEq, rSortQ, rSlQ, rMulS, tJn, rAtX, rSlS, tSl, tPart, tNoPart, cut_lo2, cut_hi2, rInQ, gLq, gTq, gC_c, gNil, tChain, List.cons_append, List.nil_append, tBL, tBL0, rApp, rPopN, rRevL, seqAt_lst, seqAt_tup, at_0, at_1, at_2, at_3, at_4, ix_0, ix_1, ix_2, ix_3, ix_4, cx_K, upd_same, List.length_cons, List.length_nil, Nat.reduceAdd,  rEq, rNe, tRevL, V.int.injEq, V.bl.injEq, V.str.injEq, V.ref.injEq, List.cons.injEq, and_true, true_and, exists_and_left, exists_and_right, exists_eq_left, exists_eq_left', exists_eq_right, exists_eq_right', exists_const, Option.some.injEq, List.getElem?_cons_zero, List.getElem?_cons_succ, List.set_cons_zero, List.set_cons_succ, decide_eq_true_eq, decide_true, decide_false,  scal_ii, scal_bb, scal_ss, cmul_r, cdiv_l, cpow_12, cpow_18, cpow_40, HO.lst.injEq, HO.tup.injEq, upd_upd, Int.reduceToNat,  decide_not, Bool.not_eq_true', decide_eq_false_iff_not, if_true, if_false, Bool.false_eq_true, Bool.true_eq_false, reduceCtorEq, Int.reduceNeg, Nat.reduceLT, Int.reduceLT, Int.reducePow, gt_iff_lt]
      refine ⟨_, _, _, rfl, by omega, by omega, fun p3 H5 e5 hp3 h5 => ?_⟩
      have hl5 := e5 _ _ hl4
      have sl5 : seqAt (H5 p) = some ((spanL nn a b).map V.int) := by rw [hl5] <;> rfl
      simp only [tSeq, tNext, tDrop, tRet, tRetN, tIfS, tAsg, gName, tAug, ipI, tVar, tC, tOp, tUn, rI, rI0, rU, tCons, tNil, tCB, tTup, tLst, tTest, tB, tAnd, tOr, tNot, tAndV, tOrV, tNotV, tIf, tCl, tCd, tCk, gSub, rPutL, rAtQ, rIntI, rLenQ, rLenS, rListQ, rTupL, rTupQ, rIsQ_c, kd_non, kd_bl, kd_int, kd_str, kd_ref, kdO_lst, kdO_tup, kit_NoneType_bool, kit_NoneType_int, kit_NoneType_str, kit_NoneType_list, kit_NoneType_tuple, kit_bool_bool, kit_bool_int, kit_bool_str, kit_bool_list, kit_bool_tuple, kit_int_bool, kit_int_int, kit_int_str, kit_int_list, kit_int_tuple, kit_str_bool, kit_str_int, kit_str_str, kit_str_list, kit_str_tuple, kit_list_bool, kit_list_int, kit_list_str, kit_list_list, kit_list_tuple, kit_tuple_bool, kit_tuple_int, kit_tuple_str, kit_tuple_list, kit_tuple_tuple, V.ty.injEq, rSortQ, rSlQ, rMulS, tJn, rAtX, rSlS, tSl, tPart, tNoPart, cut_lo2, cut_hi2, rInQ, gLq, gTq, gC_c, gNil, tChain, List.cons_append, List.nil_append, tBL, tBL0, rApp, rPopN, rRevL, seqAt_lst, seqAt_tup, at_0, at_1, at_2, at_3, at_4, ix_0, ix_1, ix_2, ix_3, ix_4, cx_K, upd_same, List.length_cons, List.length_nil, Nat.reduceAdd,  rEq, rNe, tRevL, V.int.injEq, V.bl.injEq, V.str.injEq, V.ref.injEq, List.cons.injEq, and_true, true_and, exists_and_left, exists_and_right, exists_eq_left, exists_eq_left', exists_eq_right, exists_eq_right', exists_const, Option.some.injEq, List.getElem?_cons_zero, List.getElem?_cons_succ, List.set_cons_zero, List.set_cons_succ, decide_eq_true_eq, decide_true, decide_false,  scal_ii, scal_bb, scal_ss, cmul_r, cdiv_l, cpow_12, cpow_18, cpow_40, HO.lst.injEq, HO.tup.injEq, upd_upd, Int.reduceToNat,  decide_not, Bool.not_eq_true', decide_eq_false_iff_not, if_true, if_false, Bool.false_eq_true, Bool.true_eq_false, reduceCtorEq, Int.reduceNeg, Nat.reduceLT, Int.reduceLT, Int.reducePow, gt_iff_lt]
      refine ⟨fun _ => True, _, _, _, rfl, rp_ints trivial h5 (by omega), rp_ints trivial hl5 (by omega), true, rfl, ?_⟩
      rw [if_neg (by decide)]
      refine z_forR nn (fun Q q => ?_) (by omega) (fun i σ' H' => ∃ x : Option V, σ' = [some (.ref S.a), some (.int nn), some (.int a), some (.int b), some (.ref p), k, some (.ref p2), x] ∧ H' = H5) ⟨_, rfl, rfl⟩ (fun i σ' H' hi hI => ?_) (fun σ' H' hI => ?_)
      · simp only [tSeq, tNext, tDrop, tRet, tRetN, tIfS, tAsg, gName, tAug, ipI, tVar, tC, tOp, tUn, rI, rI0, rU, tCons, tNil, tCB, tTup, tLst, tTest, tB, tAnd, tOr, tNot, tAndV, tOrV, tNotV, tIf, tCl, tCd, tCk, gSub, rPutL, rAtQ, rIntI, rLenQ, rLenS, rListQ, rTupL, rTupQ, rIsQ_c, kd_non, kd_bl, kd_int, kd_str, kd_ref, kdO_lst, kdO_tup, kit_NoneType_bool, kit_NoneType_int, kit_NoneType_str, kit_NoneType_list, kit_NoneType_tuple, kit_bool_bool, kit_bool_int, kit_bool_str, kit_bool_list, kit_bool_tuple, kit_int_bool, kit_int_int, kit_int_str, kit_int_list, kit_int_tuple, kit_str_bool, kit_str_int, kit_str_str, kit_str_list, kit_str_tuple, kit_list_bool, kit_list_int, kit_list_str, kit_list_list, kit_list_tuple, kit_tuple_bool, kit_tuple_int, kit_tuple_str, kit_tuple_list, kit_tuple_tuple, V.ty.injEq, rSortQ, rSlQ, rMulS, tJn, rAtX, rSlS, tSl, tPart, tNoPart, cut_lo2, cut_hi2, rInQ, gLq, gTq, gC_c, gNil, tChain, List.cons_append, List.nil_append, tBL, tBL0, rApp, rPopN, rRevL, seqAt_lst, seqAt_tup, at_0, at_1, at_2, at_3, at_4, ix_0, ix_1, ix_2, ix_3, ix_4, cx_K, upd_same, List.length_cons, List.length_nil, Nat.reduceAdd,  rEq, rNe, tRevL, V.int.injEq, V.bl.injEq, V.str.injEq, V.ref.injEq, List.cons.injEq, and_true, true_and, exists_and_left, exists_and_right, exists_eq_left, exists_eq_left', exists_eq_right, exists_eq_right', exists_const, Option.some.injEq, List.getElem?_cons_zero, List.getElem?_cons_succ, List.set_cons_zero, List.set_cons_succ, decide_eq_true_eq, decide_true, decide_false,  scal_ii, scal_bb, scal_ss, cmul_r, cdiv_l, cpow_12, cpow_18, cpow_40, HO.lst.injEq, HO.tup.injEq, upd_upd, Int.reduceToNat,  decide_not, Bool.not_eq_true', decide_eq_false_iff_not, if_true, if_false, Bool.false_eq_true, Bool.true_eq_false, reduceCtorEq, Int.reduceNeg, Nat.reduceLT, Int.reduceLT, Int.reducePow, gt_iff_lt]
        exact q
      · obtain ⟨x, rfl, rfl⟩ := hI
        simp only [tSeq, tNext, tDrop, tRet, tRetN, tIfS, tAsg, gName, tAug, ipI, tVar, tC, tOp, tUn, rI, rI0, rU, tCons, tNil, tCB, tTup, tLst, tTest, tB, tAnd, tOr, tNot, tAndV, tOrV, tNotV, tIf, tCl, tCd, tCk, gSub, rPutL, rAtQ, rIntI, rLenQ, rLenS, rListQ, rTupL, rTupQ, rIsQ_c, kd_non, kd_bl, kd_int, kd_str, kd_ref, kdO_lst, kdO_tup, kit_NoneType_bool, kit_NoneType_int, kit_NoneType_str, kit_NoneType_list, kit_NoneType_tuple, kit_bool_bool, kit_bool_int, kit_bool_str, kit_bool_list, kit_bool_tuple, kit_int_bool, kit_int_int, kit_int_str, kit_int_list, kit_int_tuple, kit_str_bool, kit_str_int, kit_str_str, kit_str_list, kit_str_tuple, kit_list_bool, kit_list_int, kit_list_str, kit_list_list, kit_list_tuple, kit_tuple_bool, kit_tuple_int, kit_tuple_str, kit_tuple_list, kit_tuple_tuple, V.ty.injEq, rSortQ, rSlQ, rMulS, tJn, rAtX, rSlS, tSl, tPart, tNoPart, cut_lo2, cut_hi2, rInQ, gLq, gTq, gC_c, gNil, tChain, List.cons_append, List.nil_append, tBL, tBL0, rApp, rPopN, rRevL, seqAt_lst, seqAt_tup, at_0, at_1, at_2, at_3, at_4, ix_0, ix_1, ix_2, ix_3, ix_4, cx_K, upd_same, List.length_cons, List.length_nil, Nat.reduceAdd,  rEq, rNe, tRevL, V.int.injEq, V.bl.injEq, V.str.injEq, V.ref.injEq, List.cons.injEq, and_true, true_and, exists_and_left, exists_and_right, exists_eq_left, exists_eq_left', exists_eq_right, exists_eq_right', exists_const, Option.some.injEq, List.getElem?_cons_zero, List.getElem?_cons_succ, List.set_cons_zero, List.set_cons_succ, decide_eq_true_eq, decide_true, decide_false,  scal_ii, scal_bb, scal_ss, cmul_r, cdiv_l, cpow_12, cpow_18, cpow_40, HO.lst.injEq, HO.tup.injEq, upd_upd, Int.reduceToNat,  decide_not, Bool.not_eq_true', decide_eq_false_iff_not, if_true, if_false, Bool.false_eq_true, Bool.true_eq_false, reduceCtorEq, Int.reduceNeg, Nat.reduceLT, Int.reduceLT, Int.reducePow, gt_iff_lt]
        have fl : ∀ i : Int, flatV (V.int i) = true := fun _ => rfl
        have f3 : ((spanL nn a b).map V.int).all flatV = true := by
          rw [List.all_map]
          exact List.all_eq_true.mpr fun _ _ => rfl
        refine ⟨_, _, _, _, rfl, by omega, ?_⟩
        simp only [tSeq, tNext, tDrop, tRet, tRetN, tIfS, tAsg, gName, tAug, ipI, tVar, tC, tOp, tUn, rI, rI0, rU, tCons, tNil, tCB, tTup, tLst, tTest, tB, tAnd, tOr, tNot, tAndV, tOrV, tNotV, tIf, tCl, tCd, tCk, gSub, rPutL, rAtQ, rIntI, rLenQ, rLenS, rListQ, rTupL, rTupQ, rIsQ_c, kd_non, kd_bl, kd_int, kd_str, kd_ref, kdO_lst, kdO_tup, kit_NoneType_bool, kit_NoneType_int, kit_NoneType_str, kit_NoneType_list, kit_NoneType_tuple, kit_bool_bool, kit_bool_int, kit_bool_str, kit_bool_list, kit_bool_tuple, kit_int_bool, kit_int_int, kit_int_str, kit_int_list, kit_int_tuple, kit_str_bool, kit_str_int, kit_str_str, kit_str_list, kit_str_tuple, kit_list_bool, kit_list_int, kit_list_str, kit_list_list, kit_list_tuple, kit_tuple_bool, kit_tuple_int, kit_tuple_str, kit_tuple_list, kit_tuple_tuple, V.ty.injEq, rSortQ, rSlQ, rMulS, tJn, rAtX, rSlS, tSl, tPart, tNoPart, cut_lo2, cut_hi2, rInQ, gLq, gTq, gC_c, gNil, tChain, List.cons_append, List.nil_append, tBL, tBL0, rApp, rPopN, rRevL, seqAt_lst, seqAt_tup, at_0, at_1, at_2, at_3, at_4, ix_0, ix_1, ix_2, ix_3, ix_4, cx_K, upd_same, List.length_cons, List.length_nil, Nat.reduceAdd,  rEq, rNe, tRevL, V.int.injEq, V.bl.injEq, V.str.injEq, V.ref.injEq, List.cons.injEq, and_true, true_and, exists_and_left, exists_and_right, exists_eq_left, exists_eq_left', exists_eq_right, exists_eq_right', exists_const, Option.some.injEq, List.getElem?_cons_zero, List.getElem?_cons_succ, List.set_cons_zero, List.set_cons_succ, decide_eq_true_eq, decide_true, decide_false,  scal_ii, scal_bb, scal_ss, cmul_r, cdiv_l, cpow_12, cpow_18, cpow_40, HO.lst.injEq, HO.tup.injEq, upd_upd, Int.reduceToNat,  decide_not, Bool.not_eq_true', decide_eq_false_iff_not, if_true, if_false, Bool.false_eq_true, Bool.true_eq_false, reduceCtorEq, Int.reduceNeg, Nat.reduceLT, Int.reduceLT, Int.reducePow, gt_iff_lt, sl5, fl, f3, inV_ints]
        refine ⟨fun _ => True, _, _, .bl (decide ((i : Int) ∈ spanL nn a b)), rfl, ?_, rfl, true, rfl, ?_⟩
        · show V.bl _ = V.bl _
          congr 1
          exact decide_eq_decide.mpr (span_mem (by omega) ⟨by omega, by omega⟩).symm
        · rw [if_neg (by decide)]
          exact ⟨⟨_, rfl⟩, rfl⟩
      · obtain ⟨x, rfl, rfl⟩ := hI
        simp only [tSeq, tNext, tDrop, tRet, tRetN, tIfS, tAsg, gName, tAug, ipI, tVar, tC, tOp, tUn, rI, rI0, rU, tCons, tNil, tCB, tTup, tLst, tTest, tB, tAnd, tOr, tNot, tAndV, tOrV, tNotV, tIf, tCl, tCd, tCk, gSub, rPutL, rAtQ, rIntI, rLenQ, rLenS, rListQ, rTupL, rTupQ, rIsQ_c, kd_non, kd_bl, kd_int, kd_str, kd_ref, kdO_lst, kdO_tup, kit_NoneType_bool, kit_NoneType_int, kit_NoneType_str, kit_NoneType_list, kit_NoneType_tuple, kit_bool_bool, kit_bool_int, kit_bool_str, kit_bool_list, kit_bool_tuple, kit_int_bool, kit_int_int, kit_int_str, kit_int_list, kit_int_tuple, kit_str_bool, kit_str_int, kit_str_str, kit_str_list, kit_str_tuple, kit_list_bool, kit_list_int, kit_list_str, kit_list_list, kit_list_tuple, kit_tuple_bool, kit_tuple_int, kit_tuple_str, kit_tuple_list, kit_tuple_tuple, V.ty.injEq, rSortQ, rSlQ, rMulS, tJn, rAtX, rSlS, tSl, tPart, tNoPart, cut_lo2, cut_hi2, rInQ, gLq, gTq, gC_c, gNil, tChain, List.cons_append, List.nil_append, tBL, tBL0, rApp, rPopN, rRevL, seqAt_lst, seqAt_tup, at_0, at_1, at_2, at_3, at_4, ix_0, ix_1, ix_2, ix_3, ix_4, cx_K, upd_same, List.length_cons, List.length_nil, Nat.reduceAdd,  rEq, rNe, tRevL, V.int.injEq, V.bl.injEq, V.str.injEq, V.ref.injEq, List.cons.injEq, and_true, true_and, exists_and_left, exists_and_right, exists_eq_left, exists_eq_left', exists_eq_right, exists_eq_right', exists_const, Option.some.injEq, List.getElem?_cons_zero, List.getElem?_cons_succ, List.set_cons_zero, List.set_cons_succ, decide_eq_true_eq, decide_true, decide_false,  scal_ii, scal_bb, scal_ss, cmul_r, cdiv_l, cpow_12, cpow_18, cpow_40, HO.lst.injEq, HO.tup.injEq, upd_upd, Int.reduceToNat,  decide_not, Bool.not_eq_true', decide_eq_false_iff_not, if_true, if_false, Bool.false_eq_true, Bool.true_eq_false, reduceCtorEq, Int.reduceNeg, Nat.reduceLT, Int.reduceLT, Int.reducePow, gt_iff_lt]
        exact q _ (r4.same e5)
end
end Z
set_option Elab.async false
set_option linter.all false
set_option maxRecDepth 100000
set_option maxHeartbeats 4000000
namespace Z
open PySem PySem.Spec PyProof.Rows L2
section
variable {P : Program} {w : World} {K : PySem.W.Frag} {mg : Str → Option Value} {base : Heap}
/-- a text of at most n signs -/
def sp_txt (n : Nat) : Sp := fun vs H Q _ => ∃ S : Sto, vs = [.ref S.a] ∧ Store S H ∧ ∀ (x : Str) (H' : Hp), Drew S H H' → Tx n x → Q (.str x) H'
abbrev s_law_sign : Stmt := topS 51
abbrev N_law_sign : List Str := ["store", "signs"]
theorem sc_law_sign : FnScope N_law_sign ["store"] (defScope s_law_sign) := ⟨rfl, rfl, rfl, by decide +kernel, rfl, by decide +kernel, by decide +kernel⟩
theorem b_law_sign : BindO "_law_sign" s_law_sign ["store"] := fun _ _ _ _ _ _ us hl => match us, hl with | [_], _ => rfl

theorem ok_sign (D : Dn K mg "_law_sign" s_law_sign) (c_law_take : Cl P w K mg base 2 "_law_take" sp_take) : Cl P w K mg base 3 "_law_sign" (sp_txt 1) := by
  refine cl_of D sc_law_sign b_law_sign (fun vs H Q E h => ?_) (fun f cdv A outer s H vs Q E hr h => ?_)
  · obtain ⟨S, rfl, _⟩ := h
    rfl
  · obtain ⟨S, rfl, st, q⟩ := h
    refine ⟨_, (pss_cons (ps_set (i := 1) sc_law_sign.nd rfl (.inl rfl) pe_str)
      (pss_cons (ps_set (i := 1) sc_law_sign.nd rfl (.inl rfl) (pe_op op_add_str (pv 1) pe_str))
      (pss_one (ps_ret (pe_ix at_str (pv 1) (pe_cl c_law_take hr (by omega) rfl (pa_cons (pv 0) (pa_cons pe_int pa_nil))) (fun _ _ => rfl)))))), ?_⟩
    rw [show L2.start N_law_sign [.ref S.a] = [some (.ref S.a), none] from rfl]
    simp only [tSeq, tNext, tDrop, tRet, tRetN, tIfS, tAsg, gName, tAug, ipI, tVar, tC, tOp, tUn, rI, rI0, rU, tCons, tNil, tCB, tTup, tLst, tTest, tB, tAnd, tOr, tNot, tAndV, tOrV, tNotV, tIf, tCl, tCd, tCk, gSub, rPutL, rAtQ, rIntI, rLenQ, rLenS, rListQ, rTupL, rTupQ, rIsQ_c, kd_non, kd_bl, kd_int, kd_str, kd_ref, kdO_lst, kdO_tup, kit_NoneType_bool, kit_NoneType_int, kit_NoneType_str, kit_NoneType_list, kit_NoneType_tuple, kit_bool_bool, kit_bool_int, kit_bool_str, kit_bool_list, kit_bool_tuple, kit_int_bool, kit_int_int, kit_int_str, kit_int_list, kit_int_tuple, kit_str_bool, kit_str_int, kit_str_str, kit_str_list, kit_str_tuple, kit_list_bool, kit_list_int, kit_list_str, kit_list_list, kit_list_tuple, kit_tuple_bool, kit_tuple_int, kit_tuple_str, kit_tuple_list, kit_tuple_tuple, V.ty.injEq, rSortQ, rSlQ, rMulS, tJn, rAtX, rSlS, tSl, tPart, tNoPart, cut_lo2, cut_hi2, rInQ, gLq, gTq, gC_c, gNil, tChain, List.cons_append, List.nil_append, tBL, tBL0, rApp, rPopN, rRevL, seqAt_lst, seqAt_tup, at_0, at_1, at_2, at_3, at_4, ix_0, ix_1, ix_2, ix_3, ix_4, cx_K, upd_same, List.length_cons, List.length_nil, Nat.reduceAdd,  rEq, rNe, tRevL, V.int.injEq, V.bl.injEq, V.str.injEq, V.ref.injEq, List.cons.injEq, and_true, true_and, exists_and_left, exists_and_right, exists_eq_left, exists_eq_left', exists_eq_right, exists_eq_right', exists_const, Option.some.injEq, List.getElem?_cons_zero, List.getElem?_cons_succ, List.set_cons_zero, List.set_cons_succ, decide_eq_true_eq, decide_true, decide_false,  scal_ii, scal_bb, scal_ss, cmul_r, cdiv_l, cpow_12, cpow_18, cpow_40, HO.lst.injEq, HO.tup.injEq, upd_upd, Int.reduceToNat,  decide_not, Bool.not_eq_true', decide_eq_false_iff_not, if_true, if_false, Bool.false_eq_true, Bool.true_eq_false, reduceCtorEq, Int.reduceNeg, Nat.reduceLT, Int.reduceLT, Int.reducePow, gt_iff_lt]
    refine ⟨by decide +kernel, _, _, rfl, st, by decide, fun d H1 r1 g1 => ?_⟩
    have t1 : Tx 94 (Str.ofString " !\"#$&'()*+,-./0123456789:;<=>?@ABCDEFGHIJKLMNOPQRSTUVWXYZ[\\]^_`" ++ Str.ofString "abcdefghijklmnopqrstuvwxyz{|}~") := Tx.lit (by decide +kernel)
    have l1 : (Str.ofString " !\"#$&'()*+,-./0123456789:;<=>?@ABCDEFGHIJKLMNOPQRSTUVWXYZ[\\]^_`" ++ Str.ofString "abcdefghijklmnopqrstuvwxyz{|}~").cps.toList.length = 94 := by decide +kernel
    obtain ⟨c, hc⟩ := atI_some (xs := (Str.ofString " !\"#$&'()*+,-./0123456789:;<=>?@ABCDEFGHIJKLMNOPQRSTUVWXYZ[\\]^_`" ++ Str.ofString "abcdefghijklmnopqrstuvwxyz{|}~").cps.toList) g1.1 (by rw [l1]; have := g1.2; omega)
    exact ⟨d, rfl, t1.line (by decide), c, hc, q _ _ r1 (Tx.one (t1.at hc))⟩
abbrev s_law_text : Stmt := topS 52
abbrev N_law_text : List Str := ["store", "many", "made", "k"]
theorem sc_law_text : FnScope N_law_text ["store", "many"] (defScope s_law_text) := ⟨rfl, rfl, rfl, by decide +kernel, rfl, by decide +kernel, by decide +kernel⟩
theorem b_law_text : BindO "_law_text" s_law_text ["store", "many"] := fun _ _ _ _ _ _ us hl => match us, hl with | [_, _], _ => rfl

def sp_text : Sp := fun vs H Q _ => ∃ (S : Sto) (n : Nat), vs = [.ref S.a, .int n] ∧ Store S H ∧ n ≤ 1000 ∧ ∀ (x : Str) (H' : Hp), Drew S H H' → Tx n x → Q (.str x) H'
theorem ok_text (D : Dn K mg "_law_text" s_law_text) (B : Blt mg) (c_law_take : Cl P w K mg base 2 "_law_take" sp_take) (c_law_sign : Cl P w K mg base 3 "_law_sign" (sp_txt 1)) (c_law_number : Cl P w K mg base 3 "_law_number" sp_number) : Cl P w K mg base 4 "_law_text" sp_text := by
  refine cl_of D sc_law_text b_law_text (fun vs H Q E h => ?_) (fun f cdv A outer s H vs Q E hr h => ?_)
  · obtain ⟨S, n, rfl, _⟩ := h
    rfl
  · obtain ⟨S, n, rfl, st, hn, q⟩ := h
    refine ⟨_, (pss_cons (ps_set (i := 2) sc_law_text.nd rfl (.inl rfl) (pe_jn pe_str (pe_lc (own := [("k", 3)]) (g := gName 3) rfl sc_law_text.nd (pi_range1 (by rfl) B.range (pa_cons (pe_cl c_law_number hr (by omega) rfl (pa_cons (pv 0) (pa_cons pe_int (pa_cons pe_int pa_nil)))) pa_nil)) (blkOk_by (N := N_law_text) (sc := defScope s_law_text) (own := [("k", 3)]) (by decide +kernel)) (fun _ _ _ _ _ => pg_name (i := 3) sc_law_text.nd rfl (Or.inl rfl)) (fun _ _ _ _ _ => pts_nil) (fun _ _ _ _ _ => (pe_cl c_law_sign hr (by omega) rfl (pa_cons (pv 0) pa_nil))))))
      (pss_cons (ps_if (pt_cmpR op_eq (pe_cl c_law_take hr (by omega) rfl (pa_cons (pv 0) (pa_cons pe_int pa_nil))) pe_int (nomark _)) (pss_one (ps_set (i := 2) sc_law_text.nd rfl (.inl rfl) (pe_op op_mulS (pv 2) pe_int))) pss_nil)
      (pss_one (ps_ret (pe_slice sl_str (pv 2) po_none (po_some (pv 1))))))), ?_⟩
    rw [show L2.start N_law_text [.ref S.a, .int n] = [some (.ref S.a), some (.int n), none, none] from rfl]
    simp only [tSeq, tNext, tDrop, tRet, tRetN, tIfS, tAsg, gName, tAug, ipI, tVar, tC, tOp, tUn, rI, rI0, rU, tCons, tNil, tCB, tTup, tLst, tTest, tB, tAnd, tOr, tNot, tAndV, tOrV, tNotV, tIf, tCl, tCd, tCk, gSub, rPutL, rAtQ, rIntI, rLenQ, rLenS, rListQ, rTupL, rTupQ, rIsQ_c, kd_non, kd_bl, kd_int, kd_str, kd_ref, kdO_lst, kdO_tup, kit_NoneType_bool, kit_NoneType_int, kit_NoneType_str, kit_NoneType_list, kit_NoneType_tuple, kit_bool_bool, kit_bool_int, kit_bool_str, kit_bool_list, kit_bool_tuple, kit_int_bool, kit_int_int, kit_int_str, kit_int_list, kit_int_tuple, kit_str_bool, kit_str_int, kit_str_str, kit_str_list, kit_str_tuple, kit_list_bool, kit_list_int, kit_list_str, kit_list_list, kit_list_tuple, kit_tuple_bool, kit_tuple_int, kit_tuple_str, kit_tuple_list, kit_tuple_tuple, V.ty.injEq, rSortQ, rSlQ, rMulS, tJn, rAtX, rSlS, tSl, tPart, tNoPart, cut_lo2, cut_hi2, rInQ, gLq, gTq, gC_c, gNil, tChain, List.cons_append, List.nil_append, tBL, tBL0, rApp, rPopN, rRevL, seqAt_lst, seqAt_tup, at_0, at_1, at_2, at_3, at_4, ix_0, ix_1, ix_2, ix_3, ix_4, cx_K, upd_same, List.length_cons, List.length_nil, Nat.reduceAdd,  rEq, rNe, tRevL, V.int.injEq, V.bl.injEq, V.str.injEq, V.ref.injEq, List.cons.injEq, and_true, true_and, exists_and_left, exists_and_right, exists_eq_left, exists_eq_left', exists_eq_right, exists_eq_right', exists_const, Option.some.injEq, List.getElem?_cons_zero, List.getElem?_cons_succ, List.set_cons_zero, List.set_cons_succ, decide_eq_true_eq, decide_true, decide_false,  scal_ii, scal_bb, scal_ss, cmul_r, cdiv_l, cpow_12, cpow_18, cpow_40, HO.lst.injEq, HO.tup.injEq, upd_upd, Int.reduceToNat,  decide_not, Bool.not_eq_true', decide_eq_false_iff_not, if_true, if_false, Bool.false_eq_true, Bool.true_eq_false, reduceCtorEq, Int.reduceNeg, Nat.reduceLT, Int.reduceLT, Int.reducePow, gt_iff_lt]
    refine lcE (fun k H1 => Drew S H H1 ∧ k ≤ 6) (fun X hX => ?_) (fun k H1 ⟨r1, hk⟩ => ?_)
    · simp only [tSeq, tNext, tDrop, tRet, tRetN, tIfS, tAsg, gName, tAug, ipI, tVar, tC, tOp, tUn, rI, rI0, rU, tCons, tNil, tCB, tTup, tLst, tTest, tB, tAnd, tOr, tNot, tAndV, tOrV, tNotV, tIf, tCl, tCd, tCk, gSub, rPutL, rAtQ, rIntI, rLenQ, rLenS, rListQ, rTupL, rTupQ, rIsQ_c, kd_non, kd_bl, kd_int, kd_str, kd_ref, kdO_lst, kdO_tup, kit_NoneType_bool, kit_NoneType_int, kit_NoneType_str, kit_NoneType_list, kit_NoneType_tuple, kit_bool_bool, kit_bool_int, kit_bool_str, kit_bool_list, kit_bool_tuple, kit_int_bool, kit_int_int, kit_int_str, kit_int_list, kit_int_tuple, kit_str_bool, kit_str_int, kit_str_str, kit_str_list, kit_str_tuple, kit_list_bool, kit_list_int, kit_list_str, kit_list_list, kit_list_tuple, kit_tuple_bool, kit_tuple_int, kit_tuple_str, kit_tuple_list, kit_tuple_tuple, V.ty.injEq, rSortQ, rSlQ, rMulS, tJn, rAtX, rSlS, tSl, tPart, tNoPart, cut_lo2, cut_hi2, rInQ, gLq, gTq, gC_c, gNil, tChain, List.cons_append, List.nil_append, tBL, tBL0, rApp, rPopN, rRevL, seqAt_lst, seqAt_tup, at_0, at_1, at_2, at_3, at_4, ix_0, ix_1, ix_2, ix_3, ix_4, cx_K, upd_same, List.length_cons, List.length_nil, Nat.reduceAdd,  rEq, rNe, tRevL, V.int.injEq, V.bl.injEq, V.str.injEq, V.ref.injEq, List.cons.injEq, and_true, true_and, exists_and_left, exists_and_right, exists_eq_left, exists_eq_left', exists_eq_right, exists_eq_right', exists_const, Option.some.injEq, List.getElem?_cons_zero, List.getElem?_cons_succ, List.set_cons_zero, List.set_cons_succ, decide_eq_true_eq, decide_true, decide_false,  scal_ii, scal_bb, scal_ss, cmul_r, cdiv_l, cpow_12, cpow_18, cpow_40, HO.lst.injEq, HO.tup.injEq, upd_upd, Int.reduceToNat,  decide_not, Bool.not_eq_true', decide_eq_false_iff_not, if_true, if_false, Bool.false_eq_true, Bool.true_eq_false, reduceCtorEq, Int.reduceNeg, Nat.reduceLT, Int.reduceLT, Int.reducePow, gt_iff_lt]
      refine ⟨_, _, _, rfl, st, by decide, fun d H1 r1 g1 => ?_⟩
      have z := hX d.toNat H1 ⟨r1, by have := g1.2; have := g1.1; omega⟩
      rw [show ((d.toNat : Nat) : Int) = d by have := g1.1; omega] at z
      exact z
    refine z_lcR k (fun Q q => q) (by omega) (fun D i H' => Drew S H H' ∧ ∃ ys : List Str, ys.length = i ∧ H' D = some (.lst (ys.map V.str)) ∧ ∀ y ∈ ys, Tx 1 y) (fun D hD => ⟨r1.new hD, [], rfl, upd_same, fun y hy => by cases hy⟩) ⟨rfl, fun _ => rfl⟩ (fun D i H' hD hi hI => ?_) (fun D H' hD hI => ?_)
    · obtain ⟨r2, ys, hl, hh, ht⟩ := hI
      have hD0 := r1.back hD
      simp only [tSeq, tNext, tDrop, tRet, tRetN, tIfS, tAsg, gName, tAug, ipI, tVar, tC, tOp, tUn, rI, rI0, rU, tCons, tNil, tCB, tTup, tLst, tTest, tB, tAnd, tOr, tNot, tAndV, tOrV, tNotV, tIf, tCl, tCd, tCk, gSub, rPutL, rAtQ, rIntI, rLenQ, rLenS, rListQ, rTupL, rTupQ, rIsQ_c, kd_non, kd_bl, kd_int, kd_str, kd_ref, kdO_lst, kdO_tup, kit_NoneType_bool, kit_NoneType_int, kit_NoneType_str, kit_NoneType_list, kit_NoneType_tuple, kit_bool_bool, kit_bool_int, kit_bool_str, kit_bool_list, kit_bool_tuple, kit_int_bool, kit_int_int, kit_int_str, kit_int_list, kit_int_tuple, kit_str_bool, kit_str_int, kit_str_str, kit_str_list, kit_str_tuple, kit_list_bool, kit_list_int, kit_list_str, kit_list_list, kit_list_tuple, kit_tuple_bool, kit_tuple_int, kit_tuple_str, kit_tuple_list, kit_tuple_tuple, V.ty.injEq, rSortQ, rSlQ, rMulS, tJn, rAtX, rSlS, tSl, tPart, tNoPart, cut_lo2, cut_hi2, rInQ, gLq, gTq, gC_c, gNil, tChain, List.cons_append, List.nil_append, tBL, tBL0, rApp, rPopN, rRevL, seqAt_lst, seqAt_tup, at_0, at_1, at_2, at_3, at_4, ix_0, ix_1, ix_2, ix_3, ix_4, cx_K, upd_same, List.length_cons, List.length_nil, Nat.reduceAdd,  rEq, rNe, tRevL, V.int.injEq, V.bl.injEq, V.str.injEq, V.ref.injEq, List.cons.injEq, and_true, true_and, exists_and_left, exists_and_right, exists_eq_left, exists_eq_left', exists_eq_right, exists_eq_right', exists_const, Option.some.injEq, List.getElem?_cons_zero, List.getElem?_cons_succ, List.set_cons_zero, List.set_cons_succ, decide_eq_true_eq, decide_true, decide_false,  scal_ii, scal_bb, scal_ss, cmul_r, cdiv_l, cpow_12, cpow_18, cpow_40, HO.lst.injEq, HO.tup.injEq, upd_upd, Int.reduceToNat,  decide_not, Bool.not_eq_true', decide_eq_false_iff_not, if_true, if_false, Bool.false_eq_true, Bool.true_eq_false, reduceCtorEq, Int.reduceNeg, Nat.reduceLT, Int.reduceLT, Int.reducePow, gt_iff_lt, wipe, List.map_cons, List.map_nil]
      refine ⟨S, rfl, r2.st, fun x H2 r3 tx => ?_⟩
      have hh3 := r3.but _ _ (st.neA hD0) hh
      refine ⟨_, hh3, sz_lt (by rw [List.length_map]; omega), (r2.trans r3).at st hD0, ys ++ [x], by rw [List.length_append, hl] <;> rfl, by rw [List.map_append] <;> rfl, fun y hy => ?_⟩
      rcases List.mem_append.mp hy with hy | hy
      · exact ht y hy
      · rw [List.mem_singleton.mp hy]
        exact tx
    · obtain ⟨r2, ys, hl, hh, ht⟩ := hI
      have tj := (Tx.join ht).mono (show 1 * ys.length ≤ 6 by omega)
      have sm : (ys.map (·.length)).sum ≤ ys.length := by
        clear hl hh tj
        induction ys with
        | nil => exact Nat.le_refl _
        | cons y ys ih =>
          have := ih fun z hz => ht z (List.mem_cons_of_mem _ hz)
          have := (ht y List.mem_cons_self).len
          rw [List.map_cons, List.sum_cons, List.length_cons]
          omega
      refine ⟨D, rfl, ys, hh, ?_, ?_⟩
      · have : (Str.ofString "").length = 0 := by decide +kernel
        rw [this]
        omega
      refine ⟨_, _, rfl, r2.st, by decide, fun d H3 r3 g3 => ?_⟩
      simp only [tSeq, tNext, tDrop, tRet, tRetN, tIfS, tAsg, gName, tAug, ipI, tVar, tC, tOp, tUn, rI, rI0, rU, tCons, tNil, tCB, tTup, tLst, tTest, tB, tAnd, tOr, tNot, tAndV, tOrV, tNotV, tIf, tCl, tCd, tCk, gSub, rPutL, rAtQ, rIntI, rLenQ, rLenS, rListQ, rTupL, rTupQ, rIsQ_c, kd_non, kd_bl, kd_int, kd_str, kd_ref, kdO_lst, kdO_tup, kit_NoneType_bool, kit_NoneType_int, kit_NoneType_str, kit_NoneType_list, kit_NoneType_tuple, kit_bool_bool, kit_bool_int, kit_bool_str, kit_bool_list, kit_bool_tuple, kit_int_bool, kit_int_int, kit_int_str, kit_int_list, kit_int_tuple, kit_str_bool, kit_str_int, kit_str_str, kit_str_list, kit_str_tuple, kit_list_bool, kit_list_int, kit_list_str, kit_list_list, kit_list_tuple, kit_tuple_bool, kit_tuple_int, kit_tuple_str, kit_tuple_list, kit_tuple_tuple, V.ty.injEq, rSortQ, rSlQ, rMulS, tJn, rAtX, rSlS, tSl, tPart, tNoPart, cut_lo2, cut_hi2, rInQ, gLq, gTq, gC_c, gNil, tChain, List.cons_append, List.nil_append, tBL, tBL0, rApp, rPopN, rRevL, seqAt_lst, seqAt_tup, at_0, at_1, at_2, at_3, at_4, ix_0, ix_1, ix_2, ix_3, ix_4, cx_K, upd_same, List.length_cons, List.length_nil, Nat.reduceAdd,  rEq, rNe, tRevL, V.int.injEq, V.bl.injEq, V.str.injEq, V.ref.injEq, List.cons.injEq, and_true, true_and, exists_and_left, exists_and_right, exists_eq_left, exists_eq_left', exists_eq_right, exists_eq_right', exists_const, Option.some.injEq, List.getElem?_cons_zero, List.getElem?_cons_succ, List.set_cons_zero, List.set_cons_succ, decide_eq_true_eq, decide_true, decide_false,  scal_ii, scal_bb, scal_ss, cmul_r, cdiv_l, cpow_12, cpow_18, cpow_40, HO.lst.injEq, HO.tup.injEq, upd_upd, Int.reduceToNat,  decide_not, Bool.not_eq_true', decide_eq_false_iff_not, if_true, if_false, Bool.false_eq_true, Bool.true_eq_false, reduceCtorEq, Int.reduceNeg, Nat.reduceLT, Int.reduceLT, Int.reducePow, gt_iff_lt]
      have tm := tj.mul (k := 166)
      split
      · exact ⟨by decide, by decide, Nat.le_trans tj.len (by decide), tm.line (by decide), q _ _ (r2.trans r3) tm.cutTo⟩
      · exact ⟨tj.line (by decide), q _ _ (r2.trans r3) tj.cutTo⟩
abbrev s_law_name : Stmt := topS 53
abbrev N_law_name : List Str := ["store", "letters", "made", "k"]
theorem sc_law_name : FnScope N_law_name ["store"] (defScope s_law_name) := ⟨rfl, rfl, rfl, by decide +kernel, rfl, by decide +kernel, by decide +kernel⟩
theorem b_law_name : BindO "_law_name" s_law_name ["store"] := fun _ _ _ _ _ _ us hl => match us, hl with | [_], _ => rfl

theorem ok_name (D : Dn K mg "_law_name" s_law_name) (B : Blt mg) (c_law_take : Cl P w K mg base 2 "_law_take" sp_take) (c_law_number : Cl P w K mg base 3 "_law_number" sp_number) : Cl P w K mg base 4 "_law_name" (sp_txt 8) := by
  refine cl_of D sc_law_name b_law_name (fun vs H Q E h => ?_) (fun f cdv A outer s H vs Q E hr h => ?_)
  · obtain ⟨S, rfl, _⟩ := h
    rfl
  · obtain ⟨S, rfl, st, q⟩ := h
    refine ⟨_, (pss_cons (ps_set (i := 1) sc_law_name.nd rfl (.inl rfl) pe_str)
      (pss_cons (ps_set (i := 2) sc_law_name.nd rfl (.inl rfl) (pe_ix at_str (pv 1) (pe_cl c_law_take hr (by omega) rfl (pa_cons (pv 0) (pa_cons pe_int pa_nil))) (fun _ _ => rfl)))
      (pss_cons (ps_for PassesOwn.never rfl (pi_range1 (by rfl) B.range (pa_cons (pe_cl c_law_number hr (by omega) rfl (pa_cons (pv 0) (pa_cons pe_int (pa_cons pe_int pa_nil)))) pa_nil)) (pg_name (i := 3) sc_law_name.nd rfl (.inl rfl)) (pss_one (ps_set (i := 2) sc_law_name.nd rfl (.inl rfl) (pe_op op_add_str (pv 2) (pe_ix at_str (pv 1) (pe_cl c_law_take hr (by omega) rfl (pa_cons (pv 0) (pa_cons pe_int pa_nil))) (fun _ _ => rfl))))))
      (pss_one (ps_ret (pv 2)))))), ?_⟩
    rw [show L2.start N_law_name [.ref S.a] = [some (.ref S.a), none, none, none] from rfl]
    simp only [tSeq, tNext, tDrop, tRet, tRetN, tIfS, tAsg, gName, tAug, ipI, tVar, tC, tOp, tUn, rI, rI0, rU, tCons, tNil, tCB, tTup, tLst, tTest, tB, tAnd, tOr, tNot, tAndV, tOrV, tNotV, tIf, tCl, tCd, tCk, gSub, rPutL, rAtQ, rIntI, rLenQ, rLenS, rListQ, rTupL, rTupQ, rIsQ_c, kd_non, kd_bl, kd_int, kd_str, kd_ref, kdO_lst, kdO_tup, kit_NoneType_bool, kit_NoneType_int, kit_NoneType_str, kit_NoneType_list, kit_NoneType_tuple, kit_bool_bool, kit_bool_int, kit_bool_str, kit_bool_list, kit_bool_tuple, kit_int_bool, kit_int_int, kit_int_str, kit_int_list, kit_int_tuple, kit_str_bool, kit_str_int, kit_str_str, kit_str_list, kit_str_tuple, kit_list_bool, kit_list_int, kit_list_str, kit_list_list, kit_list_tuple, kit_tuple_bool, kit_tuple_int, kit_tuple_str, kit_tuple_list, kit_tuple_tuple, V.ty.injEq, rSortQ, rSlQ, rMulS, tJn, rAtX, rSlS, tSl, tPart, tNoPart, cut_lo2, cut_hi2, rInQ, gLq, gTq, gC_c, gNil, tChain, List.cons_append, List.nil_append, tBL, tBL0, rApp, rPopN, rRevL, seqAt_lst, seqAt_tup, at_0, at_1, at_2, at_3, at_4, ix_0, ix_1, ix_2, ix_3, ix_4, cx_K, upd_same, List.length_cons, List.length_nil, Nat.reduceAdd,  rEq, rNe, tRevL, V.int.injEq, V.bl.injEq, V.str.injEq, V.ref.injEq, List.cons.injEq, and_true, true_and, exists_and_left, exists_and_right, exists_eq_left, exists_eq_left', exists_eq_right, exists_eq_right', exists_const, Option.some.injEq, List.getElem?_cons_zero, List.getElem?_cons_succ, List.set_cons_zero, List.set_cons_succ, decide_eq_true_eq, decide_true, decide_false,  scal_ii, scal_bb, scal_ss, cmul_r, cdiv_l, cpow_12, cpow_18, cpow_40, HO.lst.injEq, HO.tup.injEq, upd_upd, Int.reduceToNat,  decide_not, Bool.not_eq_true', decide_eq_false_iff_not, if_true, if_false, Bool.false_eq_true, Bool.true_eq_false, reduceCtorEq, Int.reduceNeg, Nat.reduceLT, Int.reduceLT, Int.reducePow, gt_iff_lt]
    refine ⟨_, _, rfl, st, by decide, fun d H1 r1 g1 => ?_⟩
    have t1 : Tx 36 (Str.ofString "abcdefghijklmnopqrstuvwxyz0123456789") := Tx.lit (by decide +kernel)
    have l1 : (Str.ofString "abcdefghijklmnopqrstuvwxyz0123456789").cps.toList.length = 36 := by decide +kernel
    obtain ⟨c, hc⟩ := atI_some (xs := (Str.ofString "abcdefghijklmnopqrstuvwxyz0123456789").cps.toList) g1.1 (by rw [l1]; have := g1.2; omega)
    refine ⟨d, rfl, t1.line (by decide), c, hc, ?_⟩
    refine forE (fun k H1 => Drew S H H1 ∧ k ≤ 7) (fun X hX => ?_) (fun k H2 ⟨r2, hk⟩ => ?_)
    · simp only [tSeq, tNext, tDrop, tRet, tRetN, tIfS, tAsg, gName, tAug, ipI, tVar, tC, tOp, tUn, rI, rI0, rU, tCons, tNil, tCB, tTup, tLst, tTest, tB, tAnd, tOr, tNot, tAndV, tOrV, tNotV, tIf, tCl, tCd, tCk, gSub, rPutL, rAtQ, rIntI, rLenQ, rLenS, rListQ, rTupL, rTupQ, rIsQ_c, kd_non, kd_bl, kd_int, kd_str, kd_ref, kdO_lst, kdO_tup, kit_NoneType_bool, kit_NoneType_int, kit_NoneType_str, kit_NoneType_list, kit_NoneType_tuple, kit_bool_bool, kit_bool_int, kit_bool_str, kit_bool_list, kit_bool_tuple, kit_int_bool, kit_int_int, kit_int_str, kit_int_list, kit_int_tuple, kit_str_bool, kit_str_int, kit_str_str, kit_str_list, kit_str_tuple, kit_list_bool, kit_list_int, kit_list_str, kit_list_list, kit_list_tuple, kit_tuple_bool, kit_tuple_int, kit_tuple_str, kit_tuple_list, kit_tuple_tuple, V.ty.injEq, rSortQ, rSlQ, rMulS, tJn, rAtX, rSlS, tSl, tPart, tNoPart, cut_lo2, cut_hi2, rInQ, gLq, gTq, gC_c, gNil, tChain, List.cons_append, List.nil_append, tBL, tBL0, rApp, rPopN, rRevL, seqAt_lst, seqAt_tup, at_0, at_1, at_2, at_3, at_4, ix_0, ix_1, ix_2, ix_3, ix_4, cx_K, upd_same, List.length_cons, List.length_nil, Nat.reduceAdd,  rEq, rNe, tRevL, V.int.injEq, V.bl.injEq, V.str.injEq, V.ref.injEq, List.cons.injEq, and_true, true_and, exists_and_left, exists_and_right, exists_eq_left, exists_eq_left', exists_eq_right, exists_eq_right', exists_const, Option.some.injEq, List.getElem?_cons_zero, List.getElem?_cons_succ, List.set_cons_zero, List.set_cons_succ, decide_eq_true_eq, decide_true, decide_false,  scal_ii, scal_bb, scal_ss, cmul_r, cdiv_l, cpow_12, cpow_18, cpow_40, HO.lst.injEq, HO.tup.injEq, upd_upd, Int.reduceToNat,  decide_not, Bool.not_eq_true', decide_eq_false_iff_not, if_true, if_false, Bool.false_eq_true, Bool.true_eq_false, reduceCtorEq, Int.reduceNeg, Nat.reduceLT, Int.reduceLT, Int.reducePow, gt_iff_lt]
      refine ⟨_, _, _, rfl, r1.st, by decide, fun d H2 r2 g2 => ?_⟩
      have z := hX d.toNat H2 ⟨r1.trans r2, by have := g2.2; have := g2.1; omega⟩
      rw [show ((d.toNat : Nat) : Int) = d by have := g2.1; omega] at z
      exact z
    refine z_forR k (fun Q q => q) (by omega) (fun i σ' H' => ∃ (x : Str) (z : Option V), σ' = [some (.ref S.a), some (.str (Str.ofString "abcdefghijklmnopqrstuvwxyz0123456789")), some (.str x), z] ∧ Drew S H H' ∧ Tx (1 + i) x) ⟨_, _, rfl, r2, Tx.one (t1.at hc)⟩ (fun i σ' H' hi hI => ?_) (fun σ' H' hI => ?_)
    · obtain ⟨x, z, rfl, r3, tx⟩ := hI
      simp only [tSeq, tNext, tDrop, tRet, tRetN, tIfS, tAsg, gName, tAug, ipI, tVar, tC, tOp, tUn, rI, rI0, rU, tCons, tNil, tCB, tTup, tLst, tTest, tB, tAnd, tOr, tNot, tAndV, tOrV, tNotV, tIf, tCl, tCd, tCk, gSub, rPutL, rAtQ, rIntI, rLenQ, rLenS, rListQ, rTupL, rTupQ, rIsQ_c, kd_non, kd_bl, kd_int, kd_str, kd_ref, kdO_lst, kdO_tup, kit_NoneType_bool, kit_NoneType_int, kit_NoneType_str, kit_NoneType_list, kit_NoneType_tuple, kit_bool_bool, kit_bool_int, kit_bool_str, kit_bool_list, kit_bool_tuple, kit_int_bool, kit_int_int, kit_int_str, kit_int_list, kit_int_tuple, kit_str_bool, kit_str_int, kit_str_str, kit_str_list, kit_str_tuple, kit_list_bool, kit_list_int, kit_list_str, kit_list_list, kit_list_tuple, kit_tuple_bool, kit_tuple_int, kit_tuple_str, kit_tuple_list, kit_tuple_tuple, V.ty.injEq, rSortQ, rSlQ, rMulS, tJn, rAtX, rSlS, tSl, tPart, tNoPart, cut_lo2, cut_hi2, rInQ, gLq, gTq, gC_c, gNil, tChain, List.cons_append, List.nil_append, tBL, tBL0, rApp, rPopN, rRevL, seqAt_lst, seqAt_tup, at_0, at_1, at_2, at_3, at_4, ix_0, ix_1, ix_2, ix_3, ix_4, cx_K, upd_same, List.length_cons, List.length_nil, Nat.reduceAdd,  rEq, rNe, tRevL, V.int.injEq, V.bl.injEq, V.str.injEq, V.ref.injEq, List.cons.injEq, and_true, true_and, exists_and_left, exists_and_right, exists_eq_left, exists_eq_left', exists_eq_right, exists_eq_right', exists_const, Option.some.injEq, List.getElem?_cons_zero, List.getElem?_cons_succ, List.set_cons_zero, List.set_cons_succ, decide_eq_true_eq, decide_true, decide_false,  scal_ii, scal_bb, scal_ss, cmul_r, cdiv_l, cpow_12, cpow_18, cpow_40, HO.lst.injEq, HO.tup.injEq, upd_upd, Int.reduceToNat,  decide_not, Bool.not_eq_true', decide_eq_false_iff_not, if_true, if_false, Bool.false_eq_true, Bool.true_eq_false, reduceCtorEq, Int.reduceNeg, Nat.reduceLT, Int.reduceLT, Int.reducePow, gt_iff_lt]
      refine ⟨_, _, rfl, r3.st, by decide, fun d2 H3 r4 g4 => ?_⟩
      obtain ⟨c2, hc2⟩ := atI_some (xs := (Str.ofString "abcdefghijklmnopqrstuvwxyz0123456789").cps.toList) g4.1 (by rw [l1]; have := g4.2; omega)
      have tc := tx.cat (Tx.one (t1.at hc2))
      refine ⟨d2, rfl, t1.line (by decide), c2, hc2, ?_⟩
      exact ⟨by rw [← str_cat_len]; exact tc.line (by omega), _, ⟨rfl, _, rfl⟩, r3.trans r4, tc.mono (by omega)⟩
    · obtain ⟨x, z, rfl, r3, tx⟩ := hI
      simp only [tSeq, tNext, tDrop, tRet, tRetN, tIfS, tAsg, gName, tAug, ipI, tVar, tC, tOp, tUn, rI, rI0, rU, tCons, tNil, tCB, tTup, tLst, tTest, tB, tAnd, tOr, tNot, tAndV, tOrV, tNotV, tIf, tCl, tCd, tCk, gSub, rPutL, rAtQ, rIntI, rLenQ, rLenS, rListQ, rTupL, rTupQ, rIsQ_c, kd_non, kd_bl, kd_int, kd_str, kd_ref, kdO_lst, kdO_tup, kit_NoneType_bool, kit_NoneType_int, kit_NoneType_str, kit_NoneType_list, kit_NoneType_tuple, kit_bool_bool, kit_bool_int, kit_bool_str, kit_bool_list, kit_bool_tuple, kit_int_bool, kit_int_int, kit_int_str, kit_int_list, kit_int_tuple, kit_str_bool, kit_str_int, kit_str_str, kit_str_list, kit_str_tuple, kit_list_bool, kit_list_int, kit_list_str, kit_list_list, kit_list_tuple, kit_tuple_bool, kit_tuple_int, kit_tuple_str, kit_tuple_list, kit_tuple_tuple, V.ty.injEq, rSortQ, rSlQ, rMulS, tJn, rAtX, rSlS, tSl, tPart, tNoPart, cut_lo2, cut_hi2, rInQ, gLq, gTq, gC_c, gNil, tChain, List.cons_append, List.nil_append, tBL, tBL0, rApp, rPopN, rRevL, seqAt_lst, seqAt_tup, at_0, at_1, at_2, at_3, at_4, ix_0, ix_1, ix_2, ix_3, ix_4, cx_K, upd_same, List.length_cons, List.length_nil, Nat.reduceAdd,  rEq, rNe, tRevL, V.int.injEq, V.bl.injEq, V.str.injEq, V.ref.injEq, List.cons.injEq, and_true, true_and, exists_and_left, exists_and_right, exists_eq_left, exists_eq_left', exists_eq_right, exists_eq_right', exists_const, Option.some.injEq, List.getElem?_cons_zero, List.getElem?_cons_succ, List.set_cons_zero, List.set_cons_succ, decide_eq_true_eq, decide_true, decide_false,  scal_ii, scal_bb, scal_ss, cmul_r, cdiv_l, cpow_12, cpow_18, cpow_40, HO.lst.injEq, HO.tup.injEq, upd_upd, Int.reduceToNat,  decide_not, Bool.not_eq_true', decide_eq_false_iff_not, if_true, if_false, Bool.false_eq_true, Bool.true_eq_false, reduceCtorEq, Int.reduceNeg, Nat.reduceLT, Int.reduceLT, Int.reducePow, gt_iff_lt]
      exact q _ _ r3 (tx.mono (by omega))
end
end Z
set_option Elab.async false
set_option linter.all false
set_option maxRecDepth 100000
set_option maxHeartbeats 4000000
namespace Z
open PySem PySem.Spec PyProof.Rows L2
section
variable {P : Program} {w : World} {K : PySem.W.Frag} {mg : Str → Option Value} {base : Heap}
abbrev s_law_no_name : Stmt := topS 54
abbrev N_law_no_name : List Str := ["store", "signs", "word", "kind", "sign", "spot"]
theorem sc_law_no_name : FnScope N_law_no_name ["store"] (defScope s_law_no_name) := ⟨rfl, rfl, rfl, by decide +kernel, rfl, by decide +kernel, by decide +kernel⟩
theorem b_law_no_name : BindO "_law_no_name" s_law_no_name ["store"] := fun _ _ _ _ _ _ us hl => match us, hl with | [_], _ => rfl

theorem ok_no_name (D : Dn K mg "_law_no_name" s_law_no_name) (B : Blt mg) (c_law_take : Cl P w K mg base 2 "_law_take" sp_take) (c_law_name : Cl P w K mg base 4 "_law_name" (sp_txt 8)) : Cl P w K mg base 5 "_law_no_name" (sp_txt 960) := by
  refine cl_of D sc_law_no_name b_law_no_name (fun vs H Q E h => ?_) (fun f cdv A outer s H vs Q E hr h => ?_)
  · obtain ⟨S, rfl, _⟩ := h
    rfl
  · obtain ⟨S, rfl, st, q⟩ := h
    refine ⟨_, (pss_cons (ps_set (i := 1) sc_law_no_name.nd rfl (.inl rfl) pe_str)
      (pss_cons (ps_set (i := 2) sc_law_no_name.nd rfl (.inl rfl) (pe_cl c_law_name hr (by omega) rfl (pa_cons (pv 0) pa_nil)))
      (pss_cons (ps_set (i := 3) sc_law_no_name.nd rfl (.inl rfl) (pe_cl c_law_take hr (by omega) rfl (pa_cons (pv 0) (pa_cons pe_int pa_nil))))
      (pss_cons (ps_if (pt_cmpR op_eq (pv 3) pe_int (nomark _)) (pss_one (ps_ret pe_str)) pss_nil)
      (pss_cons (ps_if (pt_cmpR op_eq (pv 3) pe_int (nomark _)) (pss_one (ps_ret (pe_op op_add_str (pe_ix at_str pe_str (pe_cl c_law_take hr (by omega) rfl (pa_cons (pv 0) (pa_cons pe_int pa_nil))) (fun _ _ => rfl)) (pe_slice sl_str (pv 2) po_none (po_some pe_int))))) pss_nil)
      (pss_cons (ps_if (pt_cmpR op_eq (pv 3) pe_int (nomark _)) (pss_one (ps_ret (pe_slice sl_str (pe_op op_add_str (pv 2) pe_str) po_none (po_some pe_int)))) pss_nil)
      (pss_cons (ps_if (pt_cmpR op_eq (pv 3) pe_int (nomark _)) (pss_one (ps_ret (pe_op op_mulS (pe_op op_add_str (pv 2) pe_str) (pe_op op_add pe_int (pe_op op_mul pe_int (pe_cl c_law_take hr (by omega) rfl (pa_cons (pv 0) (pa_cons pe_int pa_nil)))))))) pss_nil)
      (pss_cons (ps_set (i := 4) sc_law_no_name.nd rfl (.inl rfl) (pe_ix at_str (pv 1) (pe_cl c_law_take hr (by omega) rfl (pa_cons (pv 0) (pa_cons pe_int pa_nil))) (fun _ _ => rfl)))
      (pss_cons (ps_set (i := 5) sc_law_no_name.nd rfl (.inl rfl) (pe_cl c_law_take hr (by omega) rfl (pa_cons (pv 0) (pa_cons (pe_callB call_lenS (by rfl) B.len PySem.boot_len (pa_cons (pv 2) pa_nil)) pa_nil))))
      (pss_cons (ps_if (pt_cmpR op_eq (pv 3) pe_int (nomark _)) (pss_one (ps_ret (pe_op op_add_str (pe_op op_add_str (pe_slice sl_str (pv 2) po_none (po_some (pv 5))) (pv 4)) (pe_slice sl_str (pv 2) (po_some (pe_op op_add (pv 5) pe_int)) po_none)))) pss_nil)
      (pss_cons (ps_if (pt_cmpR op_eq (pv 3) pe_int (nomark _)) (pss_one (ps_ret (pe_op op_add_str (pv 2) (pv 4)))) pss_nil)
      (pss_one (ps_ret (pe_op op_add_str (pe_op op_add_str (pe_slice sl_str (pv 2) po_none (po_some (pv 5))) (pv 4)) (pe_slice sl_str (pv 2) (po_some (pv 5)) po_none))))))))))))))), ?_⟩
    rw [show L2.start N_law_no_name [.ref S.a] = [some (.ref S.a), none, none, none, none, none] from rfl]
    simp only [tSeq, tNext, tDrop, tRet, tRetN, tIfS, tAsg, gName, tAug, ipI, tVar, tC, tOp, tUn, rI, rI0, rU, tCons, tNil, tCB, tTup, tLst, tTest, tB, tAnd, tOr, tNot, tAndV, tOrV, tNotV, tIf, tCl, tCd, tCk, gSub, rPutL, rAtQ, rIntI, rLenQ, rLenS, rListQ, rTupL, rTupQ, rIsQ_c, kd_non, kd_bl, kd_int, kd_str, kd_ref, kdO_lst, kdO_tup, kit_NoneType_bool, kit_NoneType_int, kit_NoneType_str, kit_NoneType_list, kit_NoneType_tuple, kit_bool_bool, kit_bool_int, kit_bool_str, kit_bool_list, kit_bool_tuple, kit_int_bool, kit_int_int, kit_int_str, kit_int_list, kit_int_tuple, kit_str_bool, kit_str_int, kit_str_str, kit_str_list, kit_str_tuple, kit_list_bool, kit_list_int, kit_list_str, kit_list_list, kit_list_tuple, kit_tuple_bool, kit_tuple_int, kit_tuple_str, kit_tuple_list, kit_tuple_tuple, V.ty.injEq, rSortQ, rSlQ, rMulS, tJn, rAtX, rSlS, tSl, tPart, tNoPart, cut_lo2, cut_hi2, rInQ, gLq, gTq, gC_c, gNil, tChain, List.cons_append, List.nil_append, tBL, tBL0, rApp, rPopN, rRevL, seqAt_lst, seqAt_tup, at_0, at_1, at_2, at_3, at_4, ix_0, ix_1, ix_2, ix_3, ix_4, cx_K, upd_same, List.length_cons, List.length_nil, Nat.reduceAdd,  rEq, rNe, tRevL, V.int.injEq, V.bl.injEq, V.str.injEq, V.ref.injEq, List.cons.injEq, and_true, true_and, exists_and_left, exists_and_right, exists_eq_left, exists_eq_left', exists_eq_right, exists_eq_right', exists_const, Option.some.injEq, List.getElem?_cons_zero, List.getElem?_cons_succ, List.set_cons_zero, List.set_cons_succ, decide_eq_true_eq, decide_true, decide_false,  scal_ii, scal_bb, scal_ss, cmul_r, cdiv_l, cpow_12, cpow_18, cpow_40, HO.lst.injEq, HO.tup.injEq, upd_upd, Int.reduceToNat,  decide_not, Bool.not_eq_true', decide_eq_false_iff_not, if_true, if_false, Bool.false_eq_true, Bool.true_eq_false, reduceCtorEq, Int.reduceNeg, Nat.reduceLT, Int.reduceLT, Int.reducePow, gt_iff_lt]
    refine ⟨S, rfl, st, fun x H1 r1 tx => ?_⟩
    have tg : Tx 58 (Str.ofString " !\"#$&'()*+,-./:;<=>?@ABCDEFGHIJKLMNOPQRSTUVWXYZ[\\]^_`{|}~") := Tx.lit (by decide +kernel)
    have lg : (Str.ofString " !\"#$&'()*+,-./:;<=>?@ABCDEFGHIJKLMNOPQRSTUVWXYZ[\\]^_`{|}~").cps.toList.length = 58 := by decide +kernel
    have td : Tx 10 (Str.ofString "0123456789") := Tx.lit (by decide +kernel)
    have ld : (Str.ofString "0123456789").cps.toList.length = 10 := by decide +kernel
    have th : Tx 8 (Str.ofString "abcdefgh") := Tx.lit (by decide +kernel)
    refine ⟨_, _, rfl, r1.st, by decide, fun d H2 r2 g2 => ?_⟩
    have r := r1.trans r2
    simp only [tSeq, tNext, tDrop, tRet, tRetN, tIfS, tAsg, gName, tAug, ipI, tVar, tC, tOp, tUn, rI, rI0, rU, tCons, tNil, tCB, tTup, tLst, tTest, tB, tAnd, tOr, tNot, tAndV, tOrV, tNotV, tIf, tCl, tCd, tCk, gSub, rPutL, rAtQ, rIntI, rLenQ, rLenS, rListQ, rTupL, rTupQ, rIsQ_c, kd_non, kd_bl, kd_int, kd_str, kd_ref, kdO_lst, kdO_tup, kit_NoneType_bool, kit_NoneType_int, kit_NoneType_str, kit_NoneType_list, kit_NoneType_tuple, kit_bool_bool, kit_bool_int, kit_bool_str, kit_bool_list, kit_bool_tuple, kit_int_bool, kit_int_int, kit_int_str, kit_int_list, kit_int_tuple, kit_str_bool, kit_str_int, kit_str_str, kit_str_list, kit_str_tuple, kit_list_bool, kit_list_int, kit_list_str, kit_list_list, kit_list_tuple, kit_tuple_bool, kit_tuple_int, kit_tuple_str, kit_tuple_list, kit_tuple_tuple, V.ty.injEq, rSortQ, rSlQ, rMulS, tJn, rAtX, rSlS, tSl, tPart, tNoPart, cut_lo2, cut_hi2, rInQ, gLq, gTq, gC_c, gNil, tChain, List.cons_append, List.nil_append, tBL, tBL0, rApp, rPopN, rRevL, seqAt_lst, seqAt_tup, at_0, at_1, at_2, at_3, at_4, ix_0, ix_1, ix_2, ix_3, ix_4, cx_K, upd_same, List.length_cons, List.length_nil, Nat.reduceAdd,  rEq, rNe, tRevL, V.int.injEq, V.bl.injEq, V.str.injEq, V.ref.injEq, List.cons.injEq, and_true, true_and, exists_and_left, exists_and_right, exists_eq_left, exists_eq_left', exists_eq_right, exists_eq_right', exists_const, Option.some.injEq, List.getElem?_cons_zero, List.getElem?_cons_succ, List.set_cons_zero, List.set_cons_succ, decide_eq_true_eq, decide_true, decide_false,  scal_ii, scal_bb, scal_ss, cmul_r, cdiv_l, cpow_12, cpow_18, cpow_40, HO.lst.injEq, HO.tup.injEq, upd_upd, Int.reduceToNat,  decide_not, Bool.not_eq_true', decide_eq_false_iff_not, if_true, if_false, Bool.false_eq_true, Bool.true_eq_false, reduceCtorEq, Int.reduceNeg, Nat.reduceLT, Int.reduceLT, Int.reducePow, gt_iff_lt]
    have t1 : ∀ {c}, c < 128 → Tx 1 (⟨#[c]⟩ : Str) := fun h => Tx.one h
    split
    · exact q _ _ r (Tx.lit (by decide +kernel))
    split
    · refine ⟨_, _, rfl, r.st, by decide, fun d H3 r3 g3 => ?_⟩
      obtain ⟨c, hc⟩ := atI_some (xs := (Str.ofString "0123456789").cps.toList) g3.1 (by rw [ld]; have := g3.2; omega)
      have t := (t1 (td.at hc)).cat (tx.cut none (some 7))
      exact ⟨d, rfl, td.line (by decide), c, hc, tx.line (by decide), by rw [← str_cat_len]; exact t.line (by decide), q _ _ (r.trans r3) (t.mono (by decide))⟩
    split
    · have t := tx.cat th
      exact ⟨by rw [← str_cat_len]; exact t.line (by decide), t.line (by decide), q _ _ r ((t.cut none (some 9)).mono (by decide))⟩
    split
    · have t := tx.cat th
      refine ⟨by rw [← str_cat_len]; exact t.line (by decide), _, _, rfl, r.st, by decide, fun d H3 r3 g3 => ?_⟩
      have d0 := g3.1
      have d1 : d ≤ 1 := by have := g3.2; omega
      refine ⟨d, rfl, .inl ⟨by omega, by omega⟩, by omega, by omega, Nat.le_trans t.len (by decide), q _ _ (r.trans r3) ?_⟩
      have z := t.mul (k := (1 + 59 * d).toNat)
      rw [show (((1 + 59 * d).toNat : Nat) : Int) = 1 + 59 * d by omega] at z
      exact z.mono (by omega)
    refine ⟨_, _, rfl, r.st, by decide, fun d3 H3 r3 g3 => ?_⟩
    obtain ⟨c, hc⟩ := atI_some (xs := (Str.ofString " !\"#$&'()*+,-./:;<=>?@ABCDEFGHIJKLMNOPQRSTUVWXYZ[\\]^_`{|}~").cps.toList) g3.1 (by rw [lg]; have := g3.2; omega)
    refine ⟨d3, rfl, tg.line (by decide), c, hc, tx.line (by decide), _, _, rfl, (r.trans r3).st, by have := tx.len; omega, fun d4 H4 r4 g4 => ?_⟩
    have tc := t1 (tg.at hc)
    have tt := fun (lo hi : Option Int) => ((tx.cut none lo).cat tc).cat (tx.cut hi none)
    have t2 := fun (lo : Option Int) => (tx.cut none lo).cat tc
    have r' := (r.trans r3).trans r4
    simp only [tSeq, tNext, tDrop, tRet, tRetN, tIfS, tAsg, gName, tAug, ipI, tVar, tC, tOp, tUn, rI, rI0, rU, tCons, tNil, tCB, tTup, tLst, tTest, tB, tAnd, tOr, tNot, tAndV, tOrV, tNotV, tIf, tCl, tCd, tCk, gSub, rPutL, rAtQ, rIntI, rLenQ, rLenS, rListQ, rTupL, rTupQ, rIsQ_c, kd_non, kd_bl, kd_int, kd_str, kd_ref, kdO_lst, kdO_tup, kit_NoneType_bool, kit_NoneType_int, kit_NoneType_str, kit_NoneType_list, kit_NoneType_tuple, kit_bool_bool, kit_bool_int, kit_bool_str, kit_bool_list, kit_bool_tuple, kit_int_bool, kit_int_int, kit_int_str, kit_int_list, kit_int_tuple, kit_str_bool, kit_str_int, kit_str_str, kit_str_list, kit_str_tuple, kit_list_bool, kit_list_int, kit_list_str, kit_list_list, kit_list_tuple, kit_tuple_bool, kit_tuple_int, kit_tuple_str, kit_tuple_list, kit_tuple_tuple, V.ty.injEq, rSortQ, rSlQ, rMulS, tJn, rAtX, rSlS, tSl, tPart, tNoPart, cut_lo2, cut_hi2, rInQ, gLq, gTq, gC_c, gNil, tChain, List.cons_append, List.nil_append, tBL, tBL0, rApp, rPopN, rRevL, seqAt_lst, seqAt_tup, at_0, at_1, at_2, at_3, at_4, ix_0, ix_1, ix_2, ix_3, ix_4, cx_K, upd_same, List.length_cons, List.length_nil, Nat.reduceAdd,  rEq, rNe, tRevL, V.int.injEq, V.bl.injEq, V.str.injEq, V.ref.injEq, List.cons.injEq, and_true, true_and, exists_and_left, exists_and_right, exists_eq_left, exists_eq_left', exists_eq_right, exists_eq_right', exists_const, Option.some.injEq, List.getElem?_cons_zero, List.getElem?_cons_succ, List.set_cons_zero, List.set_cons_succ, decide_eq_true_eq, decide_true, decide_false,  scal_ii, scal_bb, scal_ss, cmul_r, cdiv_l, cpow_12, cpow_18, cpow_40, HO.lst.injEq, HO.tup.injEq, upd_upd, Int.reduceToNat,  decide_not, Bool.not_eq_true', decide_eq_false_iff_not, if_true, if_false, Bool.false_eq_true, Bool.true_eq_false, reduceCtorEq, Int.reduceNeg, Nat.reduceLT, Int.reduceLT, Int.reducePow, gt_iff_lt]
    split
    · refine ⟨tx.line (by decide), by rw [← str_cat_len]; exact (t2 _).line (by decide), tx.line (by decide), by rw [← str_cat_len]; exact (tt _ _).line (by decide), q _ _ r' ((tt _ _).mono (by decide))⟩
    split
    · have t := tx.cat tc
      exact ⟨by rw [← str_cat_len]; exact t.line (by decide), q _ _ r' (t.mono (by decide))⟩
    · refine ⟨tx.line (by decide), by rw [← str_cat_len]; exact (t2 _).line (by decide), tx.line (by decide), by rw [← str_cat_len]; exact (tt _ _).line (by decide), q _ _ r' ((tt _ _).mono (by decide))⟩
theorem strs_of {F : Str → Prop} : ∀ {ys : List V}, (∀ y ∈ ys, ∃ z, y = V.str z ∧ F z) → ∃ zs : List Str, ys = zs.map V.str ∧ ∀ z ∈ zs, F z
  | [], _ => ⟨[], rfl, fun _ h => by cases h⟩
  | y :: ys, h => by
    obtain ⟨z, rfl, hz⟩ := h y List.mem_cons_self
    obtain ⟨zs, rfl, t⟩ := strs_of fun y hy => h y (List.mem_cons_of_mem _ hy)
    exact ⟨z :: zs, rfl, fun x hx => (List.mem_cons.mp hx).elim (fun e => e ▸ hz) (t x)⟩
abbrev s_law_words : Stmt := topS 59
abbrev N_law_words : List Str := ["store", "whole_name", "made"]
theorem sc_law_words : FnScope N_law_words ["store"] (defScope s_law_words) := ⟨rfl, rfl, rfl, by decide +kernel, rfl, by decide +kernel, by decide +kernel⟩
theorem b_law_words : BindO "_law_words" s_law_words ["store"] := fun _ _ _ _ _ _ us hl => match us, hl with | [_], _ => rfl

/-- a new list of eight texts -/
def sp_words : Sp := fun vs H Q _ => ∃ S : Sto, vs = [.ref S.a] ∧ Store S H ∧ ∀ (p : Addr) (xs : List Str) (H' : Hp), Drew S H H' → H p = none → H' p = some (.lst (xs.map V.str)) → xs.length = 8 → (∀ x ∈ xs, Tx 1000 x) → Q (.ref p) H'
theorem ok_words (D : Dn K mg "_law_words" s_law_words) (B : Blt mg) (c_law_take : Cl P w K mg base 2 "_law_take" sp_take) (c_law_name : Cl P w K mg base 4 "_law_name" (sp_txt 8)) (c_law_no_name : Cl P w K mg base 5 "_law_no_name" (sp_txt 960)) (c_law_text : Cl P w K mg base 4 "_law_text" sp_text)
    (c_law_shuffled : Cl P w K mg base 3 "_law_shuffled" sp_shuffled) : Cl P w K mg base 6 "_law_words" sp_words := by
  refine cl_of D sc_law_words b_law_words (fun vs H Q E h => ?_) (fun f cdv A outer s H vs Q E hr h => ?_)
  · obtain ⟨S, rfl, _⟩ := h
    rfl
  · obtain ⟨S, rfl, st, q⟩ := h
    refine ⟨_, (pss_cons (ps_set (i := 1) sc_law_words.nd rfl (.inl rfl) (pe_slice sl_str (pe_op op_add_str (pe_cl c_law_name hr (by omega) rfl (pa_cons (pv 0) pa_nil)) pe_str) po_none (po_some pe_int)))
      (pss_cons (ps_set (i := 2) sc_law_words.nd rfl (.inl rfl) (pe_lst (pa_cons (pe_cl c_law_name hr (by omega) rfl (pa_cons (pv 0) pa_nil)) (pa_cons (pe_cl c_law_no_name hr (by omega) rfl (pa_cons (pv 0) pa_nil)) (pa_cons (pe_cl c_law_text hr (by omega) rfl (pa_cons (pv 0) (pa_cons pe_int pa_nil))) (pa_cons (pv 1) (pa_cons (pe_op op_add_str (pv 1) (pe_slice sl_str (pv 1) po_none (po_some pe_int))) pa_nil)))))))
      (pss_cons (ps_set (i := 2) sc_law_words.nd rfl (.inl rfl) (pe_op op_cat (pv 2) (pe_lst (pa_cons (pe_cl c_law_no_name hr (by omega) rfl (pa_cons (pv 0) pa_nil)) (pa_cons (pe_cl c_law_text hr (by omega) rfl (pa_cons (pv 0) (pa_cons pe_int pa_nil))) (pa_cons (pe_slice sl_str (pv 1) po_none (po_some (pe_op op_add pe_int (pe_cl c_law_take hr (by omega) rfl (pa_cons (pv 0) (pa_cons pe_int pa_nil)))))) pa_nil))))))
      (pss_one (ps_ret (pe_cl c_law_shuffled hr (by omega) rfl (pa_cons (pv 0) (pa_cons (pv 2) pa_nil)))))))), ?_⟩
    rw [show L2.start N_law_words [.ref S.a] = [some (.ref S.a), none, none] from rfl]
    simp only [tSeq, tNext, tDrop, tRet, tRetN, tIfS, tAsg, gName, tAug, ipI, tVar, tC, tOp, tUn, rI, rI0, rU, tCons, tNil, tCB, tTup, tLst, tTest, tB, tAnd, tOr, tNot, tAndV, tOrV, tNotV, tIf, tCl, tCd, tCk, gSub, rPutL, rAtQ, rIntI, rLenQ, rLenS, rListQ, rTupL, rTupQ, rIsQ_c, kd_non, kd_bl, kd_int, kd_str, kd_ref, kdO_lst, kdO_tup, kit_NoneType_bool, kit_NoneType_int, kit_NoneType_str, kit_NoneType_list, kit_NoneType_tuple, kit_bool_bool, kit_bool_int, kit_bool_str, kit_bool_list, kit_bool_tuple, kit_int_bool, kit_int_int, kit_int_str, kit_int_list, kit_int_tuple, kit_str_bool, kit_str_int, kit_str_str, kit_str_list, kit_str_tuple, kit_list_bool, kit_list_int, kit_list_str, kit_list_list, kit_list_tuple, kit_tuple_bool, kit_tuple_int, kit_tuple_str, kit_tuple_list, kit_tuple_tuple, V.ty.injEq, rSortQ, rSlQ, rMulS, tJn, rAtX, rSlS, tSl, tPart, tNoPart, cut_lo2, cut_hi2, rInQ, gLq, gTq, gC_c, gNil, tChain, List.cons_append, List.nil_append, tBL, tBL0, rApp, rPopN, rRevL, seqAt_lst, seqAt_tup, at_0, at_1, at_2, at_3, at_4, ix_0, ix_1, ix_2, ix_3, ix_4, cx_K, upd_same, List.length_cons, List.length_nil, Nat.reduceAdd,  rEq, rNe, tRevL, V.int.injEq, V.bl.injEq, V.str.injEq, V.ref.injEq, List.cons.injEq, and_true, true_and, exists_and_left, exists_and_right, exists_eq_left, exists_eq_left', exists_eq_right, exists_eq_right', exists_const, Option.some.injEq, List.getElem?_cons_zero, List.getElem?_cons_succ, List.set_cons_zero, List.set_cons_succ, decide_eq_true_eq, decide_true, decide_false,  scal_ii, scal_bb, scal_ss, cmul_r, cdiv_l, cpow_12, cpow_18, cpow_40, HO.lst.injEq, HO.tup.injEq, upd_upd, Int.reduceToNat,  decide_not, Bool.not_eq_true', decide_eq_false_iff_not, if_true, if_false, Bool.false_eq_true, Bool.true_eq_false, reduceCtorEq, Int.reduceNeg, Nat.reduceLT, Int.reduceLT, Int.reducePow, gt_iff_lt]
    refine ⟨S, rfl, st, fun x H1 r1 tx => ?_⟩
    simp only [tSeq, tNext, tDrop, tRet, tRetN, tIfS, tAsg, gName, tAug, ipI, tVar, tC, tOp, tUn, rI, rI0, rU, tCons, tNil, tCB, tTup, tLst, tTest, tB, tAnd, tOr, tNot, tAndV, tOrV, tNotV, tIf, tCl, tCd, tCk, gSub, rPutL, rAtQ, rIntI, rLenQ, rLenS, rListQ, rTupL, rTupQ, rIsQ_c, kd_non, kd_bl, kd_int, kd_str, kd_ref, kdO_lst, kdO_tup, kit_NoneType_bool, kit_NoneType_int, kit_NoneType_str, kit_NoneType_list, kit_NoneType_tuple, kit_bool_bool, kit_bool_int, kit_bool_str, kit_bool_list, kit_bool_tuple, kit_int_bool, kit_int_int, kit_int_str, kit_int_list, kit_int_tuple, kit_str_bool, kit_str_int, kit_str_str, kit_str_list, kit_str_tuple, kit_list_bool, kit_list_int, kit_list_str, kit_list_list, kit_list_tuple, kit_tuple_bool, kit_tuple_int, kit_tuple_str, kit_tuple_list, kit_tuple_tuple, V.ty.injEq, rSortQ, rSlQ, rMulS, tJn, rAtX, rSlS, tSl, tPart, tNoPart, cut_lo2, cut_hi2, rInQ, gLq, gTq, gC_c, gNil, tChain, List.cons_append, List.nil_append, tBL, tBL0, rApp, rPopN, rRevL, seqAt_lst, seqAt_tup, at_0, at_1, at_2, at_3, at_4, ix_0, ix_1, ix_2, ix_3, ix_4, cx_K, upd_same, List.length_cons, List.length_nil, Nat.reduceAdd,  rEq, rNe, tRevL, V.int.injEq, V.bl.injEq, V.str.injEq, V.ref.injEq, List.cons.injEq, and_true, true_and, exists_and_left, exists_and_right, exists_eq_left, exists_eq_left', exists_eq_right, exists_eq_right', exists_const, Option.some.injEq, List.getElem?_cons_zero, List.getElem?_cons_succ, List.set_cons_zero, List.set_cons_succ, decide_eq_true_eq, decide_true, decide_false,  scal_ii, scal_bb, scal_ss, cmul_r, cdiv_l, cpow_12, cpow_18, cpow_40, HO.lst.injEq, HO.tup.injEq, upd_upd, Int.reduceToNat,  decide_not, Bool.not_eq_true', decide_eq_false_iff_not, if_true, if_false, Bool.false_eq_true, Bool.true_eq_false, reduceCtorEq, Int.reduceNeg, Nat.reduceLT, Int.reduceLT, Int.reducePow, gt_iff_lt]
    have tl : Tx 8 (Str.ofString "a7bcd0ez") := Tx.lit (by decide +kernel)
    have t16 := tx.cat tl
    have t8 := t16.cut none (some 8)
    have w8 : Tx 8 (cutS (x ++ Str.ofString "a7bcd0ez") none (some 8)) := Tx.cutTo (k := 8) t16
    generalize cutS (x ++ Str.ofString "a7bcd0ez") none (some 8) = wn at *
    refine ⟨by rw [← str_cat_len]; exact t16.line (by decide), t16.line (by decide), ?_⟩
    refine ⟨S, rfl, r1.st, fun x2 H2 r2 t2 => ?_⟩
    refine ⟨S, rfl, r2.st, fun x3 H3 r3 t3 => ?_⟩
    refine ⟨S, 3, rfl, r3.st, by decide, fun x4 H4 r4 t4 => ?_⟩
    have r5 := ((r1.trans r2).trans r3).trans r4
    have w9 := w8.cat (w8.cut none (some 1))
    refine ⟨w8.line (by decide), by rw [← str_cat_len]; exact w9.line (by decide), sz_of (by decide), fun p hp => ?_⟩
    have r6 := r5.new (o := .lst [V.str x2, V.str x3, V.str x4, V.str wn, V.str (wn ++ cutS wn none (some 1))]) hp
    have hp0 := r5.back hp
    refine ⟨S, rfl, r6.st, fun x7 H7 r7 t7 => ?_⟩
    refine ⟨S, 996, rfl, r7.st, by decide, fun x8 H8 r8 t8' => ?_⟩
    refine ⟨_, _, rfl, r8.st, by decide, fun d H9 r9 g9 => ?_⟩
    refine ⟨d, rfl, w8.line (by decide), sz_of (by decide), fun p2 hp2 => ?_⟩
    have r10 := (r7.trans r8).trans r9
    have hp9 := r10.but _ _ (st.neA hp0) upd_same
    have np : p ≠ p2 := ne_of_none hp9 hp2
    refine ⟨p, p2, [V.str x2, V.str x3, V.str x4, V.str wn, V.str (wn ++ cutS wn none (some 1))], [V.str x7, V.str x8, V.str (cutS wn none (some (1 + d)))], rfl, rfl, by rw [upd_ne np]; exact hp9, upd_same, sz_of (show 5 + 3 ≤ 100000 by decide), fun p3 hp3 => ?_⟩
    have r11 := (r6.trans r10).new (o := .lst [V.str x7, V.str x8, V.str (cutS wn none (some (1 + d)))]) hp2
    have r12 := r11.new (o := .lst ([V.str x2, V.str x3, V.str x4, V.str wn, V.str (wn ++ cutS wn none (some 1))] ++ [V.str x7, V.str x8, V.str (cutS wn none (some (1 + d)))])) hp3
    refine ⟨S, p3, [V.str x2, V.str x3, V.str x4, V.str wn, V.str (wn ++ cutS wn none (some 1))] ++ [V.str x7, V.str x8, V.str (cutS wn none (some (1 + d)))], rfl, r12.st, by rw [upd_same] <;> rfl, st.neA (r11.back hp3), show 8 ≤ 1000 by decide, fun p4 ys H10 r13 n4 h4 pm => ?_⟩
    have r14 := r12.trans r13
    have al : ∀ y ∈ ys, ∃ z, y = V.str z ∧ Tx 1000 z := fun y hy => by
      have hm := pm.subset hy
      simp only [List.cons_append, List.nil_append, List.mem_cons, List.not_mem_nil, or_false] at hm
      rcases hm with rfl | rfl | rfl | rfl | rfl | rfl | rfl | rfl
      · exact ⟨_, rfl, t2.mono (by decide)⟩
      · exact ⟨_, rfl, t3.mono (by decide)⟩
      · exact ⟨_, rfl, t4.mono (by decide)⟩
      · exact ⟨_, rfl, w8.mono (by decide)⟩
      · exact ⟨_, rfl, w9.mono (by decide)⟩
      · exact ⟨_, rfl, t7.mono (by decide)⟩
      · exact ⟨_, rfl, t8'.mono (by decide)⟩
      · exact ⟨_, rfl, (w8.cut _ _).mono (by decide)⟩
    obtain ⟨zs, rfl, tz⟩ := strs_of al
    have ln := pm.length_eq
    rw [List.length_map] at ln
    exact q p4 zs H10 r14 (r12.back n4) h4 ln tz
end
end Z
set_option Elab.async false
set_option linter.all false
set_option maxRecDepth 100000
set_option maxHeartbeats 4000000
namespace Z
open PySem PySem.Spec PyProof.Rows L2
section
variable {P : Program} {w : World} {K : PySem.W.Frag} {mg : Str → Option Value} {base : Heap}
/-! ### names -/
def isLet (c : Nat) : Bool := decide (c ∈ (Str.ofString "abcdefghijklmnopqrstuvwxyz").cps.toList)
def isDig (c : Nat) : Bool := decide (c ∈ (Str.ofString "0123456789").cps.toList)
def goodL : List Nat → Bool
  | [] => false
  | c :: cs => decide (cs.length < 8) && (isLet c && (c :: cs).all fun d => isLet d || isDig d)
theorem goodL_cons {c : Nat} {cs : List Nat} : goodL (c :: cs) = (decide (cs.length < 8) && (isLet c && (c :: cs).all fun d => isLet d || isDig d)) := rfl
theorem goodL_nil : goodL [] = false := rfl
def good (x : Str) : Bool := goodL x.cps.toList
theorem same_upd {H H' : Hp} {D : Addr} {o : HO} (r : Same H H') (h : H D = none) : Same H (upd H' D o) := fun b x e => by
  rw [upd_ne (ne_of_none e h)]
  exact r b x e
abbrev s_is_name : Stmt := topS 31
abbrev N_is_name : List Str := ["text", "sign"]
theorem sc_is_name : FnScope N_is_name ["text"] (defScope s_is_name) := ⟨rfl, rfl, rfl, by decide +kernel, rfl, by decide +kernel, by decide +kernel⟩
theorem b_is_name : BindO "is_name" s_is_name ["text"] := fun _ _ _ _ _ _ us hl => match us, hl with | [_], _ => rfl

def sp_is_name : Sp := fun vs H Q _ => ∃ x : Str, vs = [.str x] ∧ x.length ≤ 1000 ∧ ∀ H', Same H H' → Q (.bl (good x)) H'
theorem ok_is_name (D : Dn K mg "is_name" s_is_name) (B : Blt mg) (g_LETTERS : ∃ u, mg "LETTERS" = some u ∧ RelV (.str (Str.ofString "abcdefghijklmnopqrstuvwxyz")) u) (g_DIGITS : ∃ u, mg "DIGITS" = some u ∧ RelV (.str (Str.ofString "0123456789")) u)
    (g_LONGEST_NAME : ∃ u, mg "LONGEST_NAME" = some u ∧ RelV (.int 8) u) : Cl P w K mg base 1 "is_name" sp_is_name := by
  refine cl_of D sc_is_name b_is_name (fun vs H Q E h => ?_) (fun f cdv A outer s H vs Q E hr h => ?_)
  · obtain ⟨x, rfl, _⟩ := h
    rfl
  · obtain ⟨x, rfl, hx, q⟩ := h
    refine ⟨_, (pss_cons (ps_if (PW.pt (pw_or (pt_cmpR op_lt (pe_callB call_lenS (by rfl) B.len PySem.boot_len (pa_cons (pv 0) pa_nil)) pe_int (nomark _)) (pw_or1 (pt_cmpR op_gt (pe_callB call_lenS (by rfl) B.len PySem.boot_len (pa_cons (pv 0) pa_nil)) (pe_gc rfl g_LONGEST_NAME) (nomark _))))) (pss_one (ps_ret pe_bl)) pss_nil)
      (pss_one (ps_ret (pe_and (pe_cmpR op_in_sign (pe_ix at_str (pv 0) pe_int (fun _ _ => rfl)) (pe_gc rfl g_LETTERS) (by rfl)) (pe_one (pe_callB (cr_all rfl) (by rfl) B.all (by decide +kernel) (pa_cons (pe_lc (own := [("sign", 1)]) (g := gName 1) rfl sc_is_name.nd (pi_str (pv 0)) (blkOk_by (N := N_is_name) (sc := defScope s_is_name) (own := [("sign", 1)]) (by decide +kernel)) (fun _ _ _ _ _ => pg_name (i := 1) sc_is_name.nd rfl (Or.inl rfl)) (fun _ _ _ _ _ => pts_nil) (fun _ _ _ _ _ => (pe_or (pe_cmpR op_in_sign (pv 1) (pe_gc rfl g_LETTERS) (by rfl)) (pe_one (pe_cmpR op_in_sign (pv 1) (pe_gc rfl g_DIGITS) (by rfl)))))) pa_nil))))))), ?_⟩
    rw [show L2.start N_is_name [.str x] = [some (.str x), none] from rfl]
    simp only [tSeq, tNext, tDrop, tRet, tRetN, tIfS, tAsg, gName, tAug, ipI, tVar, tC, tOp, tUn, rI, rI0, rU, tCons, tNil, tCB, tTup, tLst, tTest, tB, tAnd, tOr, tNot, tAndV, tOrV, tNotV, tIf, tCl, tCd, tCk, gSub, rPutL, rAtQ, rIntI, rLenQ, rLenS, rListQ, rTupL, rTupQ, rIsQ_c, kd_non, kd_bl, kd_int, kd_str, kd_ref, kdO_lst, kdO_tup, kit_NoneType_bool, kit_NoneType_int, kit_NoneType_str, kit_NoneType_list, kit_NoneType_tuple, kit_bool_bool, kit_bool_int, kit_bool_str, kit_bool_list, kit_bool_tuple, kit_int_bool, kit_int_int, kit_int_str, kit_int_list, kit_int_tuple, kit_str_bool, kit_str_int, kit_str_str, kit_str_list, kit_str_tuple, kit_list_bool, kit_list_int, kit_list_str, kit_list_list, kit_list_tuple, kit_tuple_bool, kit_tuple_int, kit_tuple_str, kit_tuple_list, kit_tuple_tuple, V.ty.injEq, rSortQ, rSlQ, rMulS, tJn, rAtX, rSlS, tSl, tPart, tNoPart, cut_lo2, cut_hi2, rInQ, gLq, gTq, gC_c, gNil, tChain, List.cons_append, List.nil_append, tBL, tBL0, rApp, rPopN, rRevL, seqAt_lst, seqAt_tup, at_0, at_1, at_2, at_3, at_4, ix_0, ix_1, ix_2, ix_3, ix_4, cx_K, upd_same, List.length_cons, List.length_nil, Nat.reduceAdd,  rEq, rNe, tRevL, V.int.injEq, V.bl.injEq, V.str.injEq, V.ref.injEq, List.cons.injEq, and_true, true_and, exists_and_left, exists_and_right, exists_eq_left, exists_eq_left', exists_eq_right, exists_eq_right', exists_const, Option.some.injEq, List.getElem?_cons_zero, List.getElem?_cons_succ, List.set_cons_zero, List.set_cons_succ, decide_eq_true_eq, decide_true, decide_false,  scal_ii, scal_bb, scal_ss, cmul_r, cdiv_l, cpow_12, cpow_18, cpow_40, HO.lst.injEq, HO.tup.injEq, upd_upd, Int.reduceToNat,  decide_not, Bool.not_eq_true', decide_eq_false_iff_not, if_true, if_false, Bool.false_eq_true, Bool.true_eq_false, reduceCtorEq, Int.reduceNeg, Nat.reduceLT, Int.reduceLT, Int.reducePow, gt_iff_lt]
    have hz : x.length ≤ sizeLine := sz_of (Nat.le_trans hx (by decide))
    have hl := str_len x
    refine ⟨hz, ?_⟩
    have gd : good x = goodL x.cps.toList := rfl
    generalize hcs : x.cps.toList = cs at hl gd
    cases cs with
    | nil =>
      rw [if_pos (by rw [hl] <;> decide)]
      rw [goodL_nil] at gd
      rw [← gd]
      exact q H (fun _ _ h => h)
    | cons c cs =>
      rw [if_neg (by rw [hl, List.length_cons]; omega)]
      refine ⟨hz, ?_⟩
      split
      · rename_i h8
        have e : good x = false := by
          rw [gd, goodL_cons, decide_eq_false (by rw [hl, List.length_cons] at h8; omega)] <;> rfl
        rw [← e]
        exact q H (fun _ _ h => h)
      rename_i h8
      have e8 : decide (cs.length < 8) = true := decide_eq_true (by rw [hl, List.length_cons] at h8; omega)
      refine ⟨hz, c, at_0, c, rfl, ?_⟩
      split
      case isFalse h1 =>
        have e : good x = false := by
          rw [gd, goodL_cons, show isLet c = false from decide_eq_false h1, Bool.false_and, Bool.and_false]
        rw [← e]
        exact q H (fun _ _ h => h)
      case isTrue h1 =>
        have e : good x = (c :: cs).all fun d => isLet d || isDig d := by
          rw [gd, goodL_cons, e8, show isLet c = true from decide_eq_true h1, Bool.true_and, Bool.true_and]
        refine z_lcS x (fun Q q => ?_) (fun D i H' => Same H H' ∧ H' D = some (.lst (((c :: cs).take i).map fun d => V.bl (isLet d || isDig d)))) (fun D hD => ⟨same_new hD, upd_same⟩) (fun _ => rfl) (fun D i d H' hD hi hI => ?_) (fun D H' hD hI => ?_)
        · simp only [tSeq, tNext, tDrop, tRet, tRetN, tIfS, tAsg, gName, tAug, ipI, tVar, tC, tOp, tUn, rI, rI0, rU, tCons, tNil, tCB, tTup, tLst, tTest, tB, tAnd, tOr, tNot, tAndV, tOrV, tNotV, tIf, tCl, tCd, tCk, gSub, rPutL, rAtQ, rIntI, rLenQ, rLenS, rListQ, rTupL, rTupQ, rIsQ_c, kd_non, kd_bl, kd_int, kd_str, kd_ref, kdO_lst, kdO_tup, kit_NoneType_bool, kit_NoneType_int, kit_NoneType_str, kit_NoneType_list, kit_NoneType_tuple, kit_bool_bool, kit_bool_int, kit_bool_str, kit_bool_list, kit_bool_tuple, kit_int_bool, kit_int_int, kit_int_str, kit_int_list, kit_int_tuple, kit_str_bool, kit_str_int, kit_str_str, kit_str_list, kit_str_tuple, kit_list_bool, kit_list_int, kit_list_str, kit_list_list, kit_list_tuple, kit_tuple_bool, kit_tuple_int, kit_tuple_str, kit_tuple_list, kit_tuple_tuple, V.ty.injEq, rSortQ, rSlQ, rMulS, tJn, rAtX, rSlS, tSl, tPart, tNoPart, cut_lo2, cut_hi2, rInQ, gLq, gTq, gC_c, gNil, tChain, List.cons_append, List.nil_append, tBL, tBL0, rApp, rPopN, rRevL, seqAt_lst, seqAt_tup, at_0, at_1, at_2, at_3, at_4, ix_0, ix_1, ix_2, ix_3, ix_4, cx_K, upd_same, List.length_cons, List.length_nil, Nat.reduceAdd,  rEq, rNe, tRevL, V.int.injEq, V.bl.injEq, V.str.injEq, V.ref.injEq, List.cons.injEq, and_true, true_and, exists_and_left, exists_and_right, exists_eq_left, exists_eq_left', exists_eq_right, exists_eq_right', exists_const, Option.some.injEq, List.getElem?_cons_zero, List.getElem?_cons_succ, List.set_cons_zero, List.set_cons_succ, decide_eq_true_eq, decide_true, decide_false,  scal_ii, scal_bb, scal_ss, cmul_r, cdiv_l, cpow_12, cpow_18, cpow_40, HO.lst.injEq, HO.tup.injEq, upd_upd, Int.reduceToNat,  decide_not, Bool.not_eq_true', decide_eq_false_iff_not, if_true, if_false, Bool.false_eq_true, Bool.true_eq_false, reduceCtorEq, Int.reduceNeg, Nat.reduceLT, Int.reduceLT, Int.reducePow, gt_iff_lt]
          exact q
        · obtain ⟨r1, r2⟩ := hI
          have hi' : (c :: cs)[i]? = some d := by
            rw [← hcs, Array.getElem?_toList]
            exact hi
          have ht : (c :: cs).take (i + 1) = (c :: cs).take i ++ [d] := by rw [List.take_add_one, hi'] <;> rfl
          simp only [tSeq, tNext, tDrop, tRet, tRetN, tIfS, tAsg, gName, tAug, ipI, tVar, tC, tOp, tUn, rI, rI0, rU, tCons, tNil, tCB, tTup, tLst, tTest, tB, tAnd, tOr, tNot, tAndV, tOrV, tNotV, tIf, tCl, tCd, tCk, gSub, rPutL, rAtQ, rIntI, rLenQ, rLenS, rListQ, rTupL, rTupQ, rIsQ_c, kd_non, kd_bl, kd_int, kd_str, kd_ref, kdO_lst, kdO_tup, kit_NoneType_bool, kit_NoneType_int, kit_NoneType_str, kit_NoneType_list, kit_NoneType_tuple, kit_bool_bool, kit_bool_int, kit_bool_str, kit_bool_list, kit_bool_tuple, kit_int_bool, kit_int_int, kit_int_str, kit_int_list, kit_int_tuple, kit_str_bool, kit_str_int, kit_str_str, kit_str_list, kit_str_tuple, kit_list_bool, kit_list_int, kit_list_str, kit_list_list, kit_list_tuple, kit_tuple_bool, kit_tuple_int, kit_tuple_str, kit_tuple_list, kit_tuple_tuple, V.ty.injEq, rSortQ, rSlQ, rMulS, tJn, rAtX, rSlS, tSl, tPart, tNoPart, cut_lo2, cut_hi2, rInQ, gLq, gTq, gC_c, gNil, tChain, List.cons_append, List.nil_append, tBL, tBL0, rApp, rPopN, rRevL, seqAt_lst, seqAt_tup, at_0, at_1, at_2, at_3, at_4, ix_0, ix_1, ix_2, ix_3, ix_4, cx_K, upd_same, List.length_cons, List.length_nil, Nat.reduceAdd,  rEq, rNe, tRevL, V.int.injEq, V.bl.injEq, V.str.injEq, V.ref.injEq, List.cons.injEq, and_true, true_and, exists_and_left, exists_and_right, exists_eq_left, exists_eq_left', exists_eq_right, exists_eq_right', exists_const, Option.some.injEq, List.getElem?_cons_zero, List.getElem?_cons_succ, List.set_cons_zero, List.set_cons_succ, decide_eq_true_eq, decide_true, decide_false,  scal_ii, scal_bb, scal_ss, cmul_r, cdiv_l, cpow_12, cpow_18, cpow_40, HO.lst.injEq, HO.tup.injEq, upd_upd, Int.reduceToNat,  decide_not, Bool.not_eq_true', decide_eq_false_iff_not, if_true, if_false, Bool.false_eq_true, Bool.true_eq_false, reduceCtorEq, Int.reduceNeg, Nat.reduceLT, Int.reduceLT, Int.reducePow, gt_iff_lt, wipe, List.map_cons, List.map_nil]
          have hz2 : (((c :: cs).take i).map fun d => V.bl (isLet d || isDig d)).length < sizeLine := sz_lt (by
            rw [List.length_map, List.length_take, ← hl]
            omega)
          refine ⟨d, rfl, ?_⟩
          split
          · rename_i h2
            refine ⟨_, r2, hz2, same_upd r1 hD, ?_⟩
            rw [ht, List.map_append, List.map_singleton, show isLet d = true from decide_eq_true h2, Bool.true_or]
          · rename_i h2
            refine ⟨d, rfl, _, r2, hz2, same_upd r1 hD, ?_⟩
            rw [ht, List.map_append, List.map_singleton, show isLet d = false from decide_eq_false h2, Bool.false_or] <;> rfl
        · obtain ⟨r1, r2⟩ := hI
          have hs : x.cps.size = (c :: cs).length := by rw [← hcs, Array.length_toList]
          rw [hs, List.take_length] at r2
          refine ⟨D, (c :: cs).map fun d => isLet d || isDig d, rfl, SqL.of (by rw [r2, List.map_map] <;> rfl), ?_⟩
          have ea : ((c :: cs).map fun d => isLet d || isDig d).all id = good x := by rw [e, List.all_map] <;> rfl
          rw [ea]
          exact q H' r1
abbrev s_law_is_name : Stmt := topS 55
abbrev N_law_is_name : List Str := ["word", "letters", "sign"]
theorem sc_law_is_name : FnScope N_law_is_name ["word"] (defScope s_law_is_name) := ⟨rfl, rfl, rfl, by decide +kernel, rfl, by decide +kernel, by decide +kernel⟩
theorem b_law_is_name : BindO "_law_is_name" s_law_is_name ["word"] := fun _ _ _ _ _ _ us hl => match us, hl with | [_], _ => rfl

def sp_law_is_name : Sp := fun vs H Q _ => ∃ x : Str, vs = [.str x] ∧ x.length ≤ 1000 ∧ Q (.bl (good x)) H
theorem ok_law_is_name (D : Dn K mg "_law_is_name" s_law_is_name) (B : Blt mg) : Cl P w K mg base 1 "_law_is_name" sp_law_is_name := by
  refine cl_of D sc_law_is_name b_law_is_name (fun vs H Q E h => ?_) (fun f cdv A outer s H vs Q E hr h => ?_)
  · obtain ⟨x, rfl, _⟩ := h
    rfl
  · obtain ⟨x, rfl, hx, q⟩ := h
    refine ⟨_, (pss_cons (ps_set (i := 1) sc_law_is_name.nd rfl (.inl rfl) pe_str)
      (pss_cons (ps_if (PW.pt (pw_or (pt_cmpR op_lt (pe_callB call_lenS (by rfl) B.len PySem.boot_len (pa_cons (pv 0) pa_nil)) pe_int (nomark _)) (pw_or (pt_cmpR op_gt (pe_callB call_lenS (by rfl) B.len PySem.boot_len (pa_cons (pv 0) pa_nil)) pe_int (nomark _)) (pw_or1 (pt_cmpR op_notIn_sign (pe_ix at_str (pv 0) pe_int (fun _ _ => rfl)) (pv 1) (by rfl)))))) (pss_one (ps_ret pe_bl)) pss_nil)
      (pss_cons (ps_for PassesOwn.never rfl (pi_str (pv 0)) (pg_name (i := 2) sc_law_is_name.nd rfl (.inl rfl)) (pss_one (ps_if (pt_cmpR op_notIn_sign (pv 2) (pe_op op_add_str (pv 1) pe_str) (by rfl)) (pss_one (ps_ret pe_bl)) pss_nil)))
      (pss_one (ps_ret pe_bl))))), ?_⟩
    rw [show L2.start N_law_is_name [.str x] = [some (.str x), none, none] from rfl]
    simp only [tSeq, tNext, tDrop, tRet, tRetN, tIfS, tAsg, gName, tAug, ipI, tVar, tC, tOp, tUn, rI, rI0, rU, tCons, tNil, tCB, tTup, tLst, tTest, tB, tAnd, tOr, tNot, tAndV, tOrV, tNotV, tIf, tCl, tCd, tCk, gSub, rPutL, rAtQ, rIntI, rLenQ, rLenS, rListQ, rTupL, rTupQ, rIsQ_c, kd_non, kd_bl, kd_int, kd_str, kd_ref, kdO_lst, kdO_tup, kit_NoneType_bool, kit_NoneType_int, kit_NoneType_str, kit_NoneType_list, kit_NoneType_tuple, kit_bool_bool, kit_bool_int, kit_bool_str, kit_bool_list, kit_bool_tuple, kit_int_bool, kit_int_int, kit_int_str, kit_int_list, kit_int_tuple, kit_str_bool, kit_str_int, kit_str_str, kit_str_list, kit_str_tuple, kit_list_bool, kit_list_int, kit_list_str, kit_list_list, kit_list_tuple, kit_tuple_bool, kit_tuple_int, kit_tuple_str, kit_tuple_list, kit_tuple_tuple, V.ty.injEq, rSortQ, rSlQ, rMulS, tJn, rAtX, rSlS, tSl, tPart, tNoPart, cut_lo2, cut_hi2, rInQ, gLq, gTq, gC_c, gNil, tChain, List.cons_append, List.nil_append, tBL, tBL0, rApp, rPopN, rRevL, seqAt_lst, seqAt_tup, at_0, at_1, at_2, at_3, at_4, ix_0, ix_1, ix_2, ix_3, ix_4, cx_K, upd_same, List.length_cons, List.length_nil, Nat.reduceAdd,  rEq, rNe, tRevL, V.int.injEq, V.bl.injEq, V.str.injEq, V.ref.injEq, List.cons.injEq, and_true, true_and, exists_and_left, exists_and_right, exists_eq_left, exists_eq_left', exists_eq_right, exists_eq_right', exists_const, Option.some.injEq, List.getElem?_cons_zero, List.getElem?_cons_succ, List.set_cons_zero, List.set_cons_succ, decide_eq_true_eq, decide_true, decide_false,  scal_ii, scal_bb, scal_ss, cmul_r, cdiv_l, cpow_12, cpow_18, cpow_40, HO.lst.injEq, HO.tup.injEq, upd_upd, Int.reduceToNat,  decide_not, Bool.not_eq_true', decide_eq_false_iff_not, if_true, if_false, Bool.false_eq_true, Bool.true_eq_false, reduceCtorEq, Int.reduceNeg, Nat.reduceLT, Int.reduceLT, Int.reducePow, gt_iff_lt]
    have hz : x.length ≤ sizeLine := sz_of (Nat.le_trans hx (by decide))
    have hl := str_len x
    refine ⟨hz, ?_⟩
    have gd : good x = goodL x.cps.toList := rfl
    generalize hcs : x.cps.toList = cs at hl gd
    cases cs with
    | nil =>
      rw [if_pos (by rw [hl] <;> decide)]
      rw [goodL_nil] at gd
      rw [← gd]
      exact q
    | cons c cs =>
      rw [if_neg (by rw [hl, List.length_cons]; omega)]
      refine ⟨hz, ?_⟩
      split
      · rename_i h8
        have e : good x = false := by
          rw [gd, goodL_cons, decide_eq_false (by rw [hl, List.length_cons] at h8; omega)] <;> rfl
        rw [← e]
        exact q
      rename_i h8
      have e8 : decide (cs.length < 8) = true := decide_eq_true (by rw [hl, List.length_cons] at h8; omega)
      refine ⟨hz, c, at_0, c, rfl, ?_⟩
      split
      · rename_i h1
        have e : good x = false := by
          rw [gd, goodL_cons, show isLet c = false from decide_eq_false h1, Bool.false_and, Bool.and_false]
        rw [← e]
        exact q
      rename_i h1
      have h1' := Decidable.of_not_not h1
      have e : good x = (c :: cs).all fun d => isLet d || isDig d := by
        rw [gd, goodL_cons, e8, show isLet c = true from decide_eq_true h1', Bool.true_and, Bool.true_and]
      have hs : x.cps.size = (c :: cs).length := by rw [← hcs, Array.length_toList]
      refine z_forS x (fun Q q => ?_) (fun i σ' H' => ∃ z : Option V, σ' = [some (.str x), some (.str (Str.ofString "abcdefghijklmnopqrstuvwxyz")), z] ∧ H' = H ∧ ((c :: cs).take i).all (fun d => isLet d || isDig d) = true) ⟨none, rfl, rfl, rfl⟩ (fun i d σ' H' hi hI => ?_) (fun σ' H' hI => ?_)
      · simp only [tSeq, tNext, tDrop, tRet, tRetN, tIfS, tAsg, gName, tAug, ipI, tVar, tC, tOp, tUn, rI, rI0, rU, tCons, tNil, tCB, tTup, tLst, tTest, tB, tAnd, tOr, tNot, tAndV, tOrV, tNotV, tIf, tCl, tCd, tCk, gSub, rPutL, rAtQ, rIntI, rLenQ, rLenS, rListQ, rTupL, rTupQ, rIsQ_c, kd_non, kd_bl, kd_int, kd_str, kd_ref, kdO_lst, kdO_tup, kit_NoneType_bool, kit_NoneType_int, kit_NoneType_str, kit_NoneType_list, kit_NoneType_tuple, kit_bool_bool, kit_bool_int, kit_bool_str, kit_bool_list, kit_bool_tuple, kit_int_bool, kit_int_int, kit_int_str, kit_int_list, kit_int_tuple, kit_str_bool, kit_str_int, kit_str_str, kit_str_list, kit_str_tuple, kit_list_bool, kit_list_int, kit_list_str, kit_list_list, kit_list_tuple, kit_tuple_bool, kit_tuple_int, kit_tuple_str, kit_tuple_list, kit_tuple_tuple, V.ty.injEq, rSortQ, rSlQ, rMulS, tJn, rAtX, rSlS, tSl, tPart, tNoPart, cut_lo2, cut_hi2, rInQ, gLq, gTq, gC_c, gNil, tChain, List.cons_append, List.nil_append, tBL, tBL0, rApp, rPopN, rRevL, seqAt_lst, seqAt_tup, at_0, at_1, at_2, at_3, at_4, ix_0, ix_1, ix_2, ix_3, ix_4, cx_K, upd_same, List.length_cons, List.length_nil, Nat.reduceAdd,  rEq, rNe, tRevL, V.int.injEq, V.bl.injEq, V.str.injEq, V.ref.injEq, List.cons.injEq, and_true, true_and, exists_and_left, exists_and_right, exists_eq_left, exists_eq_left', exists_eq_right, exists_eq_right', exists_const, Option.some.injEq, List.getElem?_cons_zero, List.getElem?_cons_succ, List.set_cons_zero, List.set_cons_succ, decide_eq_true_eq, decide_true, decide_false,  scal_ii, scal_bb, scal_ss, cmul_r, cdiv_l, cpow_12, cpow_18, cpow_40, HO.lst.injEq, HO.tup.injEq, upd_upd, Int.reduceToNat,  decide_not, Bool.not_eq_true', decide_eq_false_iff_not, if_true, if_false, Bool.false_eq_true, Bool.true_eq_false, reduceCtorEq, Int.reduceNeg, Nat.reduceLT, Int.reduceLT, Int.reducePow, gt_iff_lt]
        exact q
      · obtain ⟨z, rfl, rfl, ha⟩ := hI
        have hi' : (c :: cs)[i]? = some d := by
          rw [← hcs, Array.getElem?_toList]
          exact hi
        have ht : (c :: cs).take (i + 1) = (c :: cs).take i ++ [d] := by rw [List.take_add_one, hi'] <;> rfl
        have md : decide (d ∈ (Str.ofString "abcdefghijklmnopqrstuvwxyz" ++ Str.ofString "0123456789").cps.toList) = (isLet d || isDig d) := by
          rw [str_cat]
          unfold isLet isDig
          rw [← Bool.decide_or]
          exact decide_eq_decide.mpr List.mem_append
        simp only [tSeq, tNext, tDrop, tRet, tRetN, tIfS, tAsg, gName, tAug, ipI, tVar, tC, tOp, tUn, rI, rI0, rU, tCons, tNil, tCB, tTup, tLst, tTest, tB, tAnd, tOr, tNot, tAndV, tOrV, tNotV, tIf, tCl, tCd, tCk, gSub, rPutL, rAtQ, rIntI, rLenQ, rLenS, rListQ, rTupL, rTupQ, rIsQ_c, kd_non, kd_bl, kd_int, kd_str, kd_ref, kdO_lst, kdO_tup, kit_NoneType_bool, kit_NoneType_int, kit_NoneType_str, kit_NoneType_list, kit_NoneType_tuple, kit_bool_bool, kit_bool_int, kit_bool_str, kit_bool_list, kit_bool_tuple, kit_int_bool, kit_int_int, kit_int_str, kit_int_list, kit_int_tuple, kit_str_bool, kit_str_int, kit_str_str, kit_str_list, kit_str_tuple, kit_list_bool, kit_list_int, kit_list_str, kit_list_list, kit_list_tuple, kit_tuple_bool, kit_tuple_int, kit_tuple_str, kit_tuple_list, kit_tuple_tuple, V.ty.injEq, rSortQ, rSlQ, rMulS, tJn, rAtX, rSlS, tSl, tPart, tNoPart, cut_lo2, cut_hi2, rInQ, gLq, gTq, gC_c, gNil, tChain, List.cons_append, List.nil_append, tBL, tBL0, rApp, rPopN, rRevL, seqAt_lst, seqAt_tup, at_0, at_1, at_2, at_3, at_4, ix_0, ix_1, ix_2, ix_3, ix_4, cx_K, upd_same, List.length_cons, List.length_nil, Nat.reduceAdd,  rEq, rNe, tRevL, V.int.injEq, V.bl.injEq, V.str.injEq, V.ref.injEq, List.cons.injEq, and_true, true_and, exists_and_left, exists_and_right, exists_eq_left, exists_eq_left', exists_eq_right, exists_eq_right', exists_const, Option.some.injEq, List.getElem?_cons_zero, List.getElem?_cons_succ, List.set_cons_zero, List.set_cons_succ, decide_eq_true_eq, decide_true, decide_false,  scal_ii, scal_bb, scal_ss, cmul_r, cdiv_l, cpow_12, cpow_18, cpow_40, HO.lst.injEq, HO.tup.injEq, upd_upd, Int.reduceToNat,  decide_not, Bool.not_eq_true', decide_eq_false_iff_not, if_true, if_false, Bool.false_eq_true, Bool.true_eq_false, reduceCtorEq, Int.reduceNeg, Nat.reduceLT, Int.reduceLT, Int.reducePow, gt_iff_lt]
        refine ⟨sz_of (by decide +kernel), d, rfl, ?_⟩
        split
        · rename_i h2
          rw [decide_eq_false h2] at md
          have e2 : good x = false := by
            rw [e]
            exact List.all_eq_false.mpr ⟨d, List.mem_of_getElem? hi', by rw [← md] <;> exact Bool.false_ne_true⟩
          rw [← e2]
          exact q
        · rename_i h2
          rw [decide_eq_true (Decidable.of_not_not h2)] at md
          refine ⟨⟨_, rfl⟩, ?_⟩
          rw [ht, List.all_append, ha, Bool.true_and]
          show ((isLet d || isDig d) && true) = true
          rw [Bool.and_true, ← md]
      · obtain ⟨z, rfl, rfl, ha⟩ := hI
        simp only [tSeq, tNext, tDrop, tRet, tRetN, tIfS, tAsg, gName, tAug, ipI, tVar, tC, tOp, tUn, rI, rI0, rU, tCons, tNil, tCB, tTup, tLst, tTest, tB, tAnd, tOr, tNot, tAndV, tOrV, tNotV, tIf, tCl, tCd, tCk, gSub, rPutL, rAtQ, rIntI, rLenQ, rLenS, rListQ, rTupL, rTupQ, rIsQ_c, kd_non, kd_bl, kd_int, kd_str, kd_ref, kdO_lst, kdO_tup, kit_NoneType_bool, kit_NoneType_int, kit_NoneType_str, kit_NoneType_list, kit_NoneType_tuple, kit_bool_bool, kit_bool_int, kit_bool_str, kit_bool_list, kit_bool_tuple, kit_int_bool, kit_int_int, kit_int_str, kit_int_list, kit_int_tuple, kit_str_bool, kit_str_int, kit_str_str, kit_str_list, kit_str_tuple, kit_list_bool, kit_list_int, kit_list_str, kit_list_list, kit_list_tuple, kit_tuple_bool, kit_tuple_int, kit_tuple_str, kit_tuple_list, kit_tuple_tuple, V.ty.injEq, rSortQ, rSlQ, rMulS, tJn, rAtX, rSlS, tSl, tPart, tNoPart, cut_lo2, cut_hi2, rInQ, gLq, gTq, gC_c, gNil, tChain, List.cons_append, List.nil_append, tBL, tBL0, rApp, rPopN, rRevL, seqAt_lst, seqAt_tup, at_0, at_1, at_2, at_3, at_4, ix_0, ix_1, ix_2, ix_3, ix_4, cx_K, upd_same, List.length_cons, List.length_nil, Nat.reduceAdd,  rEq, rNe, tRevL, V.int.injEq, V.bl.injEq, V.str.injEq, V.ref.injEq, List.cons.injEq, and_true, true_and, exists_and_left, exists_and_right, exists_eq_left, exists_eq_left', exists_eq_right, exists_eq_right', exists_const, Option.some.injEq, List.getElem?_cons_zero, List.getElem?_cons_succ, List.set_cons_zero, List.set_cons_succ, decide_eq_true_eq, decide_true, decide_false,  scal_ii, scal_bb, scal_ss, cmul_r, cdiv_l, cpow_12, cpow_18, cpow_40, HO.lst.injEq, HO.tup.injEq, upd_upd, Int.reduceToNat,  decide_not, Bool.not_eq_true', decide_eq_false_iff_not, if_true, if_false, Bool.false_eq_true, Bool.true_eq_false, reduceCtorEq, Int.reduceNeg, Nat.reduceLT, Int.reduceLT, Int.reducePow, gt_iff_lt]
        rw [hs, List.take_length, ← e] at ha
        rw [← ha]
        exact q
end
end Z
set_option Elab.async false
set_option linter.all false
set_option maxRecDepth 100000
set_option maxHeartbeats 4000000
namespace Z
open PySem PySem.Spec PyProof.Rows L2 L2H
section
variable {P : Program} {w : World} {K : PySem.W.Frag} {mg : Str → Option Value} {base : Heap}
abbrev s_BadName___init__ : Stmt := inClass (topS 2) 0
abbrev N_BadName___init__ : List Str := ["self", "name"]
theorem sc_BadName___init__ : FnScope N_BadName___init__ ["self", "name"] (defScope s_BadName___init__) := ⟨rfl, rfl, rfl, by decide +kernel, rfl, by decide +kernel, by decide +kernel⟩
theorem b_BadName___init__ : BindO "__init__" s_BadName___init__ ["self", "name"] := fun _ _ _ _ _ _ us hl => match us, hl with | [_, _], _ => rfl

theorem fn_BadName (bs_HedgeError : BaseC K mg "HedgeError") {C f : Addr} {fd : FuncData} (F : Fun K "__init__" "BadName.__init__" s_BadName___init__ f fd) : FnOk P w K mg base CX0 1 f fd ["self", "name"] (sp_init1 K C "name") := by
  refine F.ok sc_BadName___init__ (fun vs H Q E h => ?_) (fun cdv A outer s H vs Q E hr h => ?_)
  · obtain ⟨a, x, rfl, _⟩ := h
    rfl
  · obtain ⟨a, x, rfl, ox, no, hz, ha, q⟩ := h
    refine ⟨_, (pss_cons (ps_expr (pe_binit bs_HedgeError rfl (pa_cons (pv 0) (pa_cons (pe_joined (.cons (pe_fmtR (pv 1)) (.cons pe_str .nil))) pa_nil))))
      (pss_one (ps_ost (pv 0) (pv 1)))), ?_⟩
    rw [show L2.start N_BadName___init__ [.ref a, .str x] = [some (.ref a), some (.str x)] from rfl]
    simp only [tSeq, tNext, tDrop, tRet, tRetN, tIfS, tAsg, gName, tAug, ipI, tVar, tC, tOp, tUn, rI, rI0, rU, tCons, tNil, tCB, tTup, tLst, tTest, tB, tAnd, tOr, tNot, tAndV, tOrV, tNotV, tIf, tCl, tCd, tCk, gSub, rPutL, rAtQ, rIntI, rLenQ, rLenS, rListQ, rTupL, rTupQ, rIsQ_c, kd_non, kd_bl, kd_int, kd_str, kd_ref, kdO_lst, kdO_tup, kit_NoneType_bool, kit_NoneType_int, kit_NoneType_str, kit_NoneType_list, kit_NoneType_tuple, kit_bool_bool, kit_bool_int, kit_bool_str, kit_bool_list, kit_bool_tuple, kit_int_bool, kit_int_int, kit_int_str, kit_int_list, kit_int_tuple, kit_str_bool, kit_str_int, kit_str_str, kit_str_list, kit_str_tuple, kit_list_bool, kit_list_int, kit_list_str, kit_list_list, kit_list_tuple, kit_tuple_bool, kit_tuple_int, kit_tuple_str, kit_tuple_list, kit_tuple_tuple, V.ty.injEq, rSortQ, rSlQ, rMulS, tJn, rAtX, rSlS, tSl, tPart, tNoPart, cut_lo2, cut_hi2, rInQ, gLq, gTq, gC_c, gNil, tChain, List.cons_append, List.nil_append, tBL, tBL0, tBad, tCr, tCe, tXF, cxH_K, HO.xd.injEq, rApp, rPopN, rRevL, seqAt_lst, seqAt_tup, at_0, at_1, at_2, at_3, at_4, ix_0, ix_1, ix_2, ix_3, ix_4, cx_K, upd_same, List.length_cons, List.length_nil, Nat.reduceAdd,  rEq, rNe, tRevL, V.int.injEq, V.bl.injEq, V.str.injEq, V.ref.injEq, List.cons.injEq, and_true, true_and, exists_and_left, exists_and_right, exists_eq_left, exists_eq_left', exists_eq_right, exists_eq_right', exists_const, Option.some.injEq, List.getElem?_cons_zero, List.getElem?_cons_succ, List.set_cons_zero, List.set_cons_succ, decide_eq_true_eq, decide_true, decide_false,  scal_ii, scal_bb, scal_ss, cmul_r, cdiv_l, cpow_12, cpow_18, cpow_40, HO.lst.injEq, HO.tup.injEq, upd_upd, Int.reduceToNat,  decide_not, Bool.not_eq_true', decide_eq_false_iff_not, if_true, if_false, Bool.false_eq_true, Bool.true_eq_false, reduceCtorEq, Int.reduceNeg, Nat.reduceLT, Int.reduceLT, Int.reducePow, gt_iff_lt]
    simp only [tVeI, tJs, tFmtR, tOst]
    simp only [tSeq, tNext, tDrop, tRet, tRetN, tIfS, tAsg, gName, tAug, ipI, tVar, tC, tOp, tUn, rI, rI0, rU, tCons, tNil, tCB, tTup, tLst, tTest, tB, tAnd, tOr, tNot, tAndV, tOrV, tNotV, tIf, tCl, tCd, tCk, gSub, rPutL, rAtQ, rIntI, rLenQ, rLenS, rListQ, rTupL, rTupQ, rIsQ_c, kd_non, kd_bl, kd_int, kd_str, kd_ref, kdO_lst, kdO_tup, kit_NoneType_bool, kit_NoneType_int, kit_NoneType_str, kit_NoneType_list, kit_NoneType_tuple, kit_bool_bool, kit_bool_int, kit_bool_str, kit_bool_list, kit_bool_tuple, kit_int_bool, kit_int_int, kit_int_str, kit_int_list, kit_int_tuple, kit_str_bool, kit_str_int, kit_str_str, kit_str_list, kit_str_tuple, kit_list_bool, kit_list_int, kit_list_str, kit_list_list, kit_list_tuple, kit_tuple_bool, kit_tuple_int, kit_tuple_str, kit_tuple_list, kit_tuple_tuple, V.ty.injEq, rSortQ, rSlQ, rMulS, tJn, rAtX, rSlS, tSl, tPart, tNoPart, cut_lo2, cut_hi2, rInQ, gLq, gTq, gC_c, gNil, tChain, List.cons_append, List.nil_append, tBL, tBL0, tBad, tCr, tCe, tXF, cxH_K, HO.xd.injEq, rApp, rPopN, rRevL, seqAt_lst, seqAt_tup, at_0, at_1, at_2, at_3, at_4, ix_0, ix_1, ix_2, ix_3, ix_4, cx_K, upd_same, List.length_cons, List.length_nil, Nat.reduceAdd,  rEq, rNe, tRevL, V.int.injEq, V.bl.injEq, V.str.injEq, V.ref.injEq, List.cons.injEq, and_true, true_and, exists_and_left, exists_and_right, exists_eq_left, exists_eq_left', exists_eq_right, exists_eq_right', exists_const, Option.some.injEq, List.getElem?_cons_zero, List.getElem?_cons_succ, List.set_cons_zero, List.set_cons_succ, decide_eq_true_eq, decide_true, decide_false,  scal_ii, scal_bb, scal_ss, cmul_r, cdiv_l, cpow_12, cpow_18, cpow_40, HO.lst.injEq, HO.tup.injEq, upd_upd, Int.reduceToNat,  decide_not, Bool.not_eq_true', decide_eq_false_iff_not, if_true, if_false, Bool.false_eq_true, Bool.true_eq_false, reduceCtorEq, Int.reduceNeg, Nat.reduceLT, Int.reduceLT, Int.reducePow, gt_iff_lt]
    have e0 : (Str.empty : Str).length = 0 := rfl
    have e1 : (Str.ofString " is no name").length = 11 := by decide +kernel
    refine .inl ⟨sz_of (by omega), sz_of (by rw [str_cat_len]; omega), sz_of (by rw [str_cat_len, str_cat_len]; omega), a, C, _, ⟨rfl, rfl⟩, show 1 ≤ 1000 by decide, ox, ha, C, ox, no, .inl ⟨ha, q⟩⟩
abbrev s_check_name : Stmt := topS 32
abbrev N_check_name : List Str := ["text"]
theorem sc_check_name : FnScope N_check_name ["text"] (defScope s_check_name) := ⟨rfl, rfl, rfl, by decide +kernel, rfl, by decide +kernel, by decide +kernel⟩
theorem b_check_name : BindO "check_name" s_check_name ["text"] := fun _ _ _ _ _ _ us hl => match us, hl with | [_], _ => rfl

/-- None, or BadName with the text -/
def sp_check_name (C : Addr) : Sp := fun vs H Q E => ∃ x : Str, vs = [.str x] ∧ Tx 1000 x ∧ (good x = true → ∀ H', Same H H' → Q .non H') ∧ (good x = false → ∀ (d : Addr) (H' : Hp), Same H H' → H' d = some (.xd [("name", .str x)]) → E (.ref C) (some d) H')
theorem reprText_le {x : Str} {n : Nat} (t : Tx n x) (hn : n ≤ 1000 := by decide) : (reprText x).length ≤ 20000 := by
  have := PySem.StrLaws.reprText_len x (fun c hc => Nat.lt_trans (t.low c hc) (by decide))
  have := t.len
  omega
theorem ok_check_name (D : Dn K mg "check_name" s_check_name) {C : Addr} (bad_BadName : Bad P w K mg base "BadName" "name" C) (c_is_name : Cl P w K mg base 1 "is_name" sp_is_name) : Cr P w K mg base 3 "check_name" (sp_check_name C) := by
  refine cr_of D sc_check_name b_check_name (fun vs H Q E h => ?_) (fun f cdv A outer s H vs Q E hr h => ?_)
  · obtain ⟨x, rfl, _⟩ := h
    rfl
  · obtain ⟨x, rfl, tx, q1, q2⟩ := h
    have tk : Takes (cxOf (L2.CX P w) P w K mg base N_check_name "check_name" (defScope s_check_name) f cdv A outer s H E) (fun cls d _ H => E cls d H) := takes_of rfl rfl rfl rfl
    refine ⟨_, (pss_one (ps_if (pt_not (pt_val (pe_cl c_is_name hr (by omega) rfl (pa_cons (pv 0) pa_nil)))) (pss_one (ps_raise rfl tk (pmk_bad bad_BadName hr (by omega) rfl (pa_cons (pv 0) pa_nil)))) pss_nil)), ?_⟩
    rw [show L2.start N_check_name [.str x] = [some (.str x)] from rfl]
    simp only [tSeq, tNext, tDrop, tRet, tRetN, tIfS, tAsg, gName, tAug, ipI, tVar, tC, tOp, tUn, rI, rI0, rU, tCons, tNil, tCB, tTup, tLst, tTest, tB, tAnd, tOr, tNot, tAndV, tOrV, tNotV, tIf, tCl, tCd, tCk, gSub, rPutL, rAtQ, rIntI, rLenQ, rLenS, rListQ, rTupL, rTupQ, rIsQ_c, kd_non, kd_bl, kd_int, kd_str, kd_ref, kdO_lst, kdO_tup, kit_NoneType_bool, kit_NoneType_int, kit_NoneType_str, kit_NoneType_list, kit_NoneType_tuple, kit_bool_bool, kit_bool_int, kit_bool_str, kit_bool_list, kit_bool_tuple, kit_int_bool, kit_int_int, kit_int_str, kit_int_list, kit_int_tuple, kit_str_bool, kit_str_int, kit_str_str, kit_str_list, kit_str_tuple, kit_list_bool, kit_list_int, kit_list_str, kit_list_list, kit_list_tuple, kit_tuple_bool, kit_tuple_int, kit_tuple_str, kit_tuple_list, kit_tuple_tuple, V.ty.injEq, rSortQ, rSlQ, rMulS, tJn, rAtX, rSlS, tSl, tPart, tNoPart, cut_lo2, cut_hi2, rInQ, gLq, gTq, gC_c, gNil, tChain, List.cons_append, List.nil_append, tBL, tBL0, tBad, tCr, tCe, tXF, cxH_K, HO.xd.injEq, rApp, rPopN, rRevL, seqAt_lst, seqAt_tup, at_0, at_1, at_2, at_3, at_4, ix_0, ix_1, ix_2, ix_3, ix_4, cx_K, upd_same, List.length_cons, List.length_nil, Nat.reduceAdd,  rEq, rNe, tRevL, V.int.injEq, V.bl.injEq, V.str.injEq, V.ref.injEq, List.cons.injEq, and_true, true_and, exists_and_left, exists_and_right, exists_eq_left, exists_eq_left', exists_eq_right, exists_eq_right', exists_const, Option.some.injEq, List.getElem?_cons_zero, List.getElem?_cons_succ, List.set_cons_zero, List.set_cons_succ, decide_eq_true_eq, decide_true, decide_false,  scal_ii, scal_bb, scal_ss, cmul_r, cdiv_l, cpow_12, cpow_18, cpow_40, HO.lst.injEq, HO.tup.injEq, upd_upd, Int.reduceToNat,  decide_not, Bool.not_eq_true', decide_eq_false_iff_not, if_true, if_false, Bool.false_eq_true, Bool.true_eq_false, reduceCtorEq, Int.reduceNeg, Nat.reduceLT, Int.reduceLT, Int.reducePow, gt_iff_lt]
    refine ⟨x, rfl, tx.len, fun H1 r1 => ?_⟩
    simp only [tSeq, tNext, tDrop, tRet, tRetN, tIfS, tAsg, gName, tAug, ipI, tVar, tC, tOp, tUn, rI, rI0, rU, tCons, tNil, tCB, tTup, tLst, tTest, tB, tAnd, tOr, tNot, tAndV, tOrV, tNotV, tIf, tCl, tCd, tCk, gSub, rPutL, rAtQ, rIntI, rLenQ, rLenS, rListQ, rTupL, rTupQ, rIsQ_c, kd_non, kd_bl, kd_int, kd_str, kd_ref, kdO_lst, kdO_tup, kit_NoneType_bool, kit_NoneType_int, kit_NoneType_str, kit_NoneType_list, kit_NoneType_tuple, kit_bool_bool, kit_bool_int, kit_bool_str, kit_bool_list, kit_bool_tuple, kit_int_bool, kit_int_int, kit_int_str, kit_int_list, kit_int_tuple, kit_str_bool, kit_str_int, kit_str_str, kit_str_list, kit_str_tuple, kit_list_bool, kit_list_int, kit_list_str, kit_list_list, kit_list_tuple, kit_tuple_bool, kit_tuple_int, kit_tuple_str, kit_tuple_list, kit_tuple_tuple, V.ty.injEq, rSortQ, rSlQ, rMulS, tJn, rAtX, rSlS, tSl, tPart, tNoPart, cut_lo2, cut_hi2, rInQ, gLq, gTq, gC_c, gNil, tChain, List.cons_append, List.nil_append, tBL, tBL0, tBad, tCr, tCe, tXF, cxH_K, HO.xd.injEq, rApp, rPopN, rRevL, seqAt_lst, seqAt_tup, at_0, at_1, at_2, at_3, at_4, ix_0, ix_1, ix_2, ix_3, ix_4, cx_K, upd_same, List.length_cons, List.length_nil, Nat.reduceAdd,  rEq, rNe, tRevL, V.int.injEq, V.bl.injEq, V.str.injEq, V.ref.injEq, List.cons.injEq, and_true, true_and, exists_and_left, exists_and_right, exists_eq_left, exists_eq_left', exists_eq_right, exists_eq_right', exists_const, Option.some.injEq, List.getElem?_cons_zero, List.getElem?_cons_succ, List.set_cons_zero, List.set_cons_succ, decide_eq_true_eq, decide_true, decide_false,  scal_ii, scal_bb, scal_ss, cmul_r, cdiv_l, cpow_12, cpow_18, cpow_40, HO.lst.injEq, HO.tup.injEq, upd_upd, Int.reduceToNat,  decide_not, Bool.not_eq_true', decide_eq_false_iff_not, if_true, if_false, Bool.false_eq_true, Bool.true_eq_false, reduceCtorEq, Int.reduceNeg, Nat.reduceLT, Int.reduceLT, Int.reducePow, gt_iff_lt]
    split
    · rename_i h1
      refine ⟨reprText_le tx, fun d H' r2 _ hd => q2 h1 d H' (fun b o e => r2 b o (r1 b o e)) hd⟩
    · rename_i h1
      exact q1 (by simpa using h1) H1 r1
abbrev s_law_error : Stmt := topS 56
abbrev N_law_error : List Str := ["e", "found"]
theorem sc_law_error : FnScope N_law_error ["e"] (defScope s_law_error) := ⟨rfl, rfl, rfl, by decide +kernel, rfl, by decide +kernel, by decide +kernel⟩
theorem b_law_error : BindO "_law_error" s_law_error ["e"] := fun _ _ _ _ _ _ us hl => match us, hl with | [_], _ => rfl

def otherNames : List Str := ["AtStrife", "BadParting", "BadRow", "BadSize", "BadSplit", "BadText", "CrossedField", "Crossing", "EmptyBook", "EndsDiffer", "NoRun", "NoStrife", "NotWithin", "OrderRefused", "OtherPond", "OutOfRange", "RepeatedName", "SameField", "SameLot", "StepRefused", "Stuck", "TooMany", "Ungranted", "UnknownLot"]
/-- the other classes of errors: none of BadName's -/
structure Oth (K : PySem.W.Frag) (mg : Str → Option Value) (C : Addr) : Prop where
  ex : ∃ f : Str → Addr, ∀ n ∈ otherNames, mg n = some (.ref (f n)) ∧ PySem.W.kitOne K (.ref C) (.ref (f n)) = some false
  ve : PySem.W.kitOne K (.ref C) (.type "ValueError") = some true
/-- [('BadName', text)] -/
def sp_law_error (C : Addr) : Addr → Value → Option Addr → Sp := fun a cls d vs H Q _ => ∃ (dd : Addr) (x : Str), vs = [.ref a] ∧ cls = .ref C ∧ d = some dd ∧ H dd = some (.xd [("name", .str x)]) ∧
  ∀ (l t : Addr) (H' : Hp), Same H H' → H l = none → H t = none → H' l = some (.lst [.ref t]) → H' t = some (.tup [.str (Str.ofString "BadName"), .str x]) → Q (.ref l) H'
theorem ok_law_error (D : Dn K mg "_law_error" s_law_error) (B : Blt mg) {C : Addr} (bd : Bad P w K mg base "BadName" "name" C) (oth : Oth K mg C) : Ce P w K mg base 1 "_law_error" (sp_law_error C) := by
  refine ce_of D sc_law_error b_law_error (fun a cls d vs H Q E h => ?_) (fun f cdv A outer s H vs Q E a oe cls d hr xz xf h => ?_)
  · obtain ⟨dd, x, rfl, _⟩ := h
    rfl
  · obtain ⟨dd, x, rfl, rfl, rfl, hd, q⟩ := h
    obtain ⟨adr, ho⟩ := oth.ex
    have g : ∀ n ∈ otherNames, ∃ u, mg n = some u ∧ RelV (.ref (adr n)) u := fun n hn => ⟨_, (ho n hn).1, rfl⟩
    have g_BadName : ∃ u, mg "BadName" = some u ∧ RelV (.ref C) u := ⟨_, bd.nm, rfl⟩
    have g_AtStrife := g "AtStrife" (by decide +kernel)
    have g_BadParting := g "BadParting" (by decide +kernel)
    have g_BadRow := g "BadRow" (by decide +kernel)
    have g_BadSize := g "BadSize" (by decide +kernel)
    have g_BadSplit := g "BadSplit" (by decide +kernel)
    have g_BadText := g "BadText" (by decide +kernel)
    have g_CrossedField := g "CrossedField" (by decide +kernel)
    have g_Crossing := g "Crossing" (by decide +kernel)
    have g_EmptyBook := g "EmptyBook" (by decide +kernel)
    have g_EndsDiffer := g "EndsDiffer" (by decide +kernel)
    have g_NoRun := g "NoRun" (by decide +kernel)
    have g_NoStrife := g "NoStrife" (by decide +kernel)
    have g_NotWithin := g "NotWithin" (by decide +kernel)
    have g_OrderRefused := g "OrderRefused" (by decide +kernel)
    have g_OtherPond := g "OtherPond" (by decide +kernel)
    have g_OutOfRange := g "OutOfRange" (by decide +kernel)
    have g_RepeatedName := g "RepeatedName" (by decide +kernel)
    have g_SameField := g "SameField" (by decide +kernel)
    have g_SameLot := g "SameLot" (by decide +kernel)
    have g_StepRefused := g "StepRefused" (by decide +kernel)
    have g_Stuck := g "Stuck" (by decide +kernel)
    have g_TooMany := g "TooMany" (by decide +kernel)
    have g_Ungranted := g "Ungranted" (by decide +kernel)
    have g_UnknownLot := g "UnknownLot" (by decide +kernel)
    have xT := bd.ex
    have xfT := bd.xf
    have xno_name := bd.no
    have xp : (a, oe) ∈ [(a, oe)] := List.mem_cons_self
    refine ⟨_, (pss_cons (ps_set (i := 1) sc_law_error.nd rfl (.inl rfl) (pe_lst pa_nil))
      (pss_cons (ps_if (pt_val (pe_callB (cr_isX xT xp xz xf) (by rfl) B.isinstance (by decide +kernel) (pa_cons (pv 0) (pa_cons (pe_gc rfl g_BadName) pa_nil)))) (pss_one (ps_expr (pe_ml PySem.F.slot_list_append PySem.F.type_list_append mt_app (pv 1) (pa_cons (pe_tup (pa_cons pe_str (pa_cons (pe_xF xfT (xno_name) xp xz xf (pv 0)) pa_nil))) pa_nil)))) pss_nil)
      (pss_cons (ps_if (PW.pt (pw_or (pt_val (pe_callB (cr_isX xT xp xz xf) (by rfl) B.isinstance (by decide +kernel) (pa_cons (pv 0) (pa_cons (pe_tup (pa_cons (pe_gc rfl g_AtStrife) (pa_cons (pe_gc rfl g_BadParting) (pa_cons (pe_gc rfl g_BadRow) (pa_cons (pe_gc rfl g_BadSize) (pa_cons (pe_gc rfl g_BadSplit) (pa_cons (pe_gc rfl g_BadText) (pa_cons (pe_gc rfl g_CrossedField) (pa_cons (pe_gc rfl g_Crossing) (pa_cons (pe_gc rfl g_EmptyBook) (pa_cons (pe_gc rfl g_EndsDiffer) (pa_cons (pe_gc rfl g_NoRun) (pa_cons (pe_gc rfl g_NoStrife) (pa_cons (pe_gc rfl g_NotWithin) (pa_cons (pe_gc rfl g_OrderRefused) (pa_cons (pe_gc rfl g_OtherPond) (pa_cons (pe_gc rfl g_OutOfRange) (pa_cons (pe_gc rfl g_RepeatedName) (pa_cons (pe_gc rfl g_SameField) (pa_cons (pe_gc rfl g_SameLot) (pa_cons (pe_gc rfl g_StepRefused) (pa_cons (pe_gc rfl g_Stuck) (pa_cons (pe_gc rfl g_TooMany) (pa_cons (pe_gc rfl g_Ungranted) (pa_cons (pe_gc rfl g_UnknownLot) pa_nil))))))))))))))))))))))))) pa_nil)))) (pw_or1 (pt_not (pt_val (pe_callB (cr_isX xT xp xz xf) (by rfl) B.isinstance (by decide +kernel) (pa_cons (pv 0) (pa_cons (pe_bltn (v := .ty "ValueError") (u := .type "ValueError") (by rfl) B.ValueError (by decide +kernel) rfl) pa_nil)))))))) (pss_one (ps_expr (pe_ml PySem.F.slot_list_append PySem.F.type_list_append mt_app (pv 1) (pa_cons (pe_tup (pa_cons pe_str pa_nil)) pa_nil)))) pss_nil)
      (pss_one (ps_ret (pv 1)))))), ?_⟩
    rw [show L2.start N_law_error [.ref a] = [some (.ref a), none] from rfl]
    simp only [tSeq, tNext, tDrop, tRet, tRetN, tIfS, tAsg, gName, tAug, ipI, tVar, tC, tOp, tUn, rI, rI0, rU, tCons, tNil, tCB, tTup, tLst, tTest, tB, tAnd, tOr, tNot, tAndV, tOrV, tNotV, tIf, tCl, tCd, tCk, gSub, rPutL, rAtQ, rIntI, rLenQ, rLenS, rListQ, rTupL, rTupQ, rIsQ_c, kd_non, kd_bl, kd_int, kd_str, kd_ref, kdO_lst, kdO_tup, kit_NoneType_bool, kit_NoneType_int, kit_NoneType_str, kit_NoneType_list, kit_NoneType_tuple, kit_bool_bool, kit_bool_int, kit_bool_str, kit_bool_list, kit_bool_tuple, kit_int_bool, kit_int_int, kit_int_str, kit_int_list, kit_int_tuple, kit_str_bool, kit_str_int, kit_str_str, kit_str_list, kit_str_tuple, kit_list_bool, kit_list_int, kit_list_str, kit_list_list, kit_list_tuple, kit_tuple_bool, kit_tuple_int, kit_tuple_str, kit_tuple_list, kit_tuple_tuple, V.ty.injEq, rSortQ, rSlQ, rMulS, tJn, rAtX, rSlS, tSl, tPart, tNoPart, cut_lo2, cut_hi2, rInQ, gLq, gTq, gC_c, gNil, tChain, List.cons_append, List.nil_append, tBL, tBL0, tBad, tCr, tCe, tXF, cxH_K, HO.xd.injEq, rApp, rPopN, rRevL, seqAt_lst, seqAt_tup, at_0, at_1, at_2, at_3, at_4, ix_0, ix_1, ix_2, ix_3, ix_4, cx_K, upd_same, List.length_cons, List.length_nil, Nat.reduceAdd,  rEq, rNe, tRevL, V.int.injEq, V.bl.injEq, V.str.injEq, V.ref.injEq, List.cons.injEq, and_true, true_and, exists_and_left, exists_and_right, exists_eq_left, exists_eq_left', exists_eq_right, exists_eq_right', exists_const, Option.some.injEq, List.getElem?_cons_zero, List.getElem?_cons_succ, List.set_cons_zero, List.set_cons_succ, decide_eq_true_eq, decide_true, decide_false,  scal_ii, scal_bb, scal_ss, cmul_r, cdiv_l, cpow_12, cpow_18, cpow_40, HO.lst.injEq, HO.tup.injEq, upd_upd, Int.reduceToNat,  decide_not, Bool.not_eq_true', decide_eq_false_iff_not, if_true, if_false, Bool.false_eq_true, Bool.true_eq_false, reduceCtorEq, Int.reduceNeg, Nat.reduceLT, Int.reduceLT, Int.reducePow, gt_iff_lt]
    refine ⟨sz_of (by decide), fun p hp => ?_⟩
    have np : dd ≠ p := ne_of_none hd hp
    have hd1 : upd H p (.lst []) dd = some (.xd [("name", .str x)]) := by rw [upd_ne np]; exact hd
    refine ⟨[("name", .str x)], hd1, .ref C, true, rfl, .inl ⟨.ref C, .own C, kit_self⟩, ?_⟩
    have lk : ([(Str.ofString "name", V.str x)] : List (Str × V)).lookup (Str.ofString "name") = some (V.str x) := by rw [lookup_put, if_pos rfl]
    simp only [tSeq, tNext, tDrop, tRet, tRetN, tIfS, tAsg, gName, tAug, ipI, tVar, tC, tOp, tUn, rI, rI0, rU, tCons, tNil, tCB, tTup, tLst, tTest, tB, tAnd, tOr, tNot, tAndV, tOrV, tNotV, tIf, tCl, tCd, tCk, gSub, rPutL, rAtQ, rIntI, rLenQ, rLenS, rListQ, rTupL, rTupQ, rIsQ_c, kd_non, kd_bl, kd_int, kd_str, kd_ref, kdO_lst, kdO_tup, kit_NoneType_bool, kit_NoneType_int, kit_NoneType_str, kit_NoneType_list, kit_NoneType_tuple, kit_bool_bool, kit_bool_int, kit_bool_str, kit_bool_list, kit_bool_tuple, kit_int_bool, kit_int_int, kit_int_str, kit_int_list, kit_int_tuple, kit_str_bool, kit_str_int, kit_str_str, kit_str_list, kit_str_tuple, kit_list_bool, kit_list_int, kit_list_str, kit_list_list, kit_list_tuple, kit_tuple_bool, kit_tuple_int, kit_tuple_str, kit_tuple_list, kit_tuple_tuple, V.ty.injEq, rSortQ, rSlQ, rMulS, tJn, rAtX, rSlS, tSl, tPart, tNoPart, cut_lo2, cut_hi2, rInQ, gLq, gTq, gC_c, gNil, tChain, List.cons_append, List.nil_append, tBL, tBL0, tBad, tCr, tCe, tXF, cxH_K, HO.xd.injEq, rApp, rPopN, rRevL, seqAt_lst, seqAt_tup, at_0, at_1, at_2, at_3, at_4, ix_0, ix_1, ix_2, ix_3, ix_4, cx_K, upd_same, List.length_cons, List.length_nil, Nat.reduceAdd,  rEq, rNe, tRevL, V.int.injEq, V.bl.injEq, V.str.injEq, V.ref.injEq, List.cons.injEq, and_true, true_and, exists_and_left, exists_and_right, exists_eq_left, exists_eq_left', exists_eq_right, exists_eq_right', exists_const, Option.some.injEq, List.getElem?_cons_zero, List.getElem?_cons_succ, List.set_cons_zero, List.set_cons_succ, decide_eq_true_eq, decide_true, decide_false,  scal_ii, scal_bb, scal_ss, cmul_r, cdiv_l, cpow_12, cpow_18, cpow_40, HO.lst.injEq, HO.tup.injEq, upd_upd, Int.reduceToNat,  decide_not, Bool.not_eq_true', decide_eq_false_iff_not, if_true, if_false, Bool.false_eq_true, Bool.true_eq_false, reduceCtorEq, Int.reduceNeg, Nat.reduceLT, Int.reduceLT, Int.reducePow, gt_iff_lt, hd1, lk]
    refine ⟨⟨_, rfl⟩, sz_of (by decide), fun p1 hp1 => ?_⟩
    have n1 : p ≠ p1 := ne_of_none upd_same hp1
    have z1 : H p1 = none := by rw [upd_ne n1.symm] at hp1; exact hp1
    refine ⟨[], by rw [upd_ne n1, upd_same], sz_lt (by decide), sz_of (by decide), fun p2 hp2 => ?_⟩
    have n2 : p ≠ p2 := ne_of_none upd_same hp2
    have n3 : p1 ≠ p2 := ne_of_none (by rw [upd_ne n1.symm, upd_same]) hp2
    have z2 : H p2 = none := by rw [upd_ne n2.symm, upd_ne n3.symm, upd_ne n2.symm] at hp2; exact hp2
    have S0 : Same H H := fun _ _ h => h
    have S3 := same_upd (o := .tup ((otherNames.map adr).map V.ref)) (same_upd (o := .lst ([] ++ [V.ref p1])) (same_upd (o := .tup [V.str (Str.ofString "BadName"), V.str x]) (same_upd (o := .lst []) S0 hp) z1) hp) z2
    refine ⟨[("name", .str x)], S3 _ _ hd, .ref p2, false, rfl, .inr ⟨p2, (otherNames.map adr).map V.ref, (otherNames.map adr).map Value.ref, rfl, upd_same, cls_refs _, kitAny_none fun u hu => ?_⟩, ?_⟩
    · obtain ⟨c, hc, rfl⟩ := List.mem_map.mp hu
      obtain ⟨n, hn, rfl⟩ := List.mem_map.mp hc
      exact (ho n hn).2
    simp only [tSeq, tNext, tDrop, tRet, tRetN, tIfS, tAsg, gName, tAug, ipI, tVar, tC, tOp, tUn, rI, rI0, rU, tCons, tNil, tCB, tTup, tLst, tTest, tB, tAnd, tOr, tNot, tAndV, tOrV, tNotV, tIf, tCl, tCd, tCk, gSub, rPutL, rAtQ, rIntI, rLenQ, rLenS, rListQ, rTupL, rTupQ, rIsQ_c, kd_non, kd_bl, kd_int, kd_str, kd_ref, kdO_lst, kdO_tup, kit_NoneType_bool, kit_NoneType_int, kit_NoneType_str, kit_NoneType_list, kit_NoneType_tuple, kit_bool_bool, kit_bool_int, kit_bool_str, kit_bool_list, kit_bool_tuple, kit_int_bool, kit_int_int, kit_int_str, kit_int_list, kit_int_tuple, kit_str_bool, kit_str_int, kit_str_str, kit_str_list, kit_str_tuple, kit_list_bool, kit_list_int, kit_list_str, kit_list_list, kit_list_tuple, kit_tuple_bool, kit_tuple_int, kit_tuple_str, kit_tuple_list, kit_tuple_tuple, V.ty.injEq, rSortQ, rSlQ, rMulS, tJn, rAtX, rSlS, tSl, tPart, tNoPart, cut_lo2, cut_hi2, rInQ, gLq, gTq, gC_c, gNil, tChain, List.cons_append, List.nil_append, tBL, tBL0, tBad, tCr, tCe, tXF, cxH_K, HO.xd.injEq, rApp, rPopN, rRevL, seqAt_lst, seqAt_tup, at_0, at_1, at_2, at_3, at_4, ix_0, ix_1, ix_2, ix_3, ix_4, cx_K, upd_same, List.length_cons, List.length_nil, Nat.reduceAdd,  rEq, rNe, tRevL, V.int.injEq, V.bl.injEq, V.str.injEq, V.ref.injEq, List.cons.injEq, and_true, true_and, exists_and_left, exists_and_right, exists_eq_left, exists_eq_left', exists_eq_right, exists_eq_right', exists_const, Option.some.injEq, List.getElem?_cons_zero, List.getElem?_cons_succ, List.set_cons_zero, List.set_cons_succ, decide_eq_true_eq, decide_true, decide_false,  scal_ii, scal_bb, scal_ss, cmul_r, cdiv_l, cpow_12, cpow_18, cpow_40, HO.lst.injEq, HO.tup.injEq, upd_upd, Int.reduceToNat,  decide_not, Bool.not_eq_true', decide_eq_false_iff_not, if_true, if_false, Bool.false_eq_true, Bool.true_eq_false, reduceCtorEq, Int.reduceNeg, Nat.reduceLT, Int.reduceLT, Int.reducePow, gt_iff_lt]
    refine ⟨[("name", .str x)], S3 _ _ hd, .ty "ValueError", true, rfl, .inl ⟨.type "ValueError", .ty _, oth.ve⟩, ?_⟩
    simp only [tSeq, tNext, tDrop, tRet, tRetN, tIfS, tAsg, gName, tAug, ipI, tVar, tC, tOp, tUn, rI, rI0, rU, tCons, tNil, tCB, tTup, tLst, tTest, tB, tAnd, tOr, tNot, tAndV, tOrV, tNotV, tIf, tCl, tCd, tCk, gSub, rPutL, rAtQ, rIntI, rLenQ, rLenS, rListQ, rTupL, rTupQ, rIsQ_c, kd_non, kd_bl, kd_int, kd_str, kd_ref, kdO_lst, kdO_tup, kit_NoneType_bool, kit_NoneType_int, kit_NoneType_str, kit_NoneType_list, kit_NoneType_tuple, kit_bool_bool, kit_bool_int, kit_bool_str, kit_bool_list, kit_bool_tuple, kit_int_bool, kit_int_int, kit_int_str, kit_int_list, kit_int_tuple, kit_str_bool, kit_str_int, kit_str_str, kit_str_list, kit_str_tuple, kit_list_bool, kit_list_int, kit_list_str, kit_list_list, kit_list_tuple, kit_tuple_bool, kit_tuple_int, kit_tuple_str, kit_tuple_list, kit_tuple_tuple, V.ty.injEq, rSortQ, rSlQ, rMulS, tJn, rAtX, rSlS, tSl, tPart, tNoPart, cut_lo2, cut_hi2, rInQ, gLq, gTq, gC_c, gNil, tChain, List.cons_append, List.nil_append, tBL, tBL0, tBad, tCr, tCe, tXF, cxH_K, HO.xd.injEq, rApp, rPopN, rRevL, seqAt_lst, seqAt_tup, at_0, at_1, at_2, at_3, at_4, ix_0, ix_1, ix_2, ix_3, ix_4, cx_K, upd_same, List.length_cons, List.length_nil, Nat.reduceAdd,  rEq, rNe, tRevL, V.int.injEq, V.bl.injEq, V.str.injEq, V.ref.injEq, List.cons.injEq, and_true, true_and, exists_and_left, exists_and_right, exists_eq_left, exists_eq_left', exists_eq_right, exists_eq_right', exists_const, Option.some.injEq, List.getElem?_cons_zero, List.getElem?_cons_succ, List.set_cons_zero, List.set_cons_succ, decide_eq_true_eq, decide_true, decide_false,  scal_ii, scal_bb, scal_ss, cmul_r, cdiv_l, cpow_12, cpow_18, cpow_40, HO.lst.injEq, HO.tup.injEq, upd_upd, Int.reduceToNat,  decide_not, Bool.not_eq_true', decide_eq_false_iff_not, if_true, if_false, Bool.false_eq_true, Bool.true_eq_false, reduceCtorEq, Int.reduceNeg, Nat.reduceLT, Int.reduceLT, Int.reducePow, gt_iff_lt]
    exact q p p1 _ S3 hp z1 (by rw [upd_ne n2, upd_same] <;> rfl) (by rw [upd_ne n3, upd_ne n1.symm, upd_same])
end
end Z
set_option Elab.async false
set_option linter.all false
set_option maxRecDepth 100000
set_option maxHeartbeats 4000000
namespace Z
open PySem PySem.Spec PyProof.Rows L2 L2H
section
variable {P : Program} {w : World} {K : PySem.W.Frag} {mg : Str → Option Value} {base : Heap}
def dueD (x : Str) : Dt := if good x = true then .tup [.str (Str.ofString "told"), .non] else .tup [.str (Str.ofString "error"), .lst [.tup [.str (Str.ofString "BadName"), .str x]]]
abbrev s_law_checked : Stmt := topS 57
abbrev N_law_checked : List Str := ["word", "e"]
theorem sc_law_checked : FnScope N_law_checked ["word"] (defScope s_law_checked) := ⟨rfl, rfl, rfl, by decide +kernel, rfl, by decide +kernel, by decide +kernel⟩
theorem b_law_checked : BindO "_law_checked" s_law_checked ["word"] := fun _ _ _ _ _ _ us hl => match us, hl with | [_], _ => rfl

def sp_checked : Sp := fun vs H Q _ => ∃ x : Str, vs = [.str x] ∧ Tx 1000 x ∧ ∀ (v : V) (H' : Hp), Same H H' → Rp (fun _ => True) H' 5 v (dueD x) → Q v H'
theorem ok_checked (D : Dn K mg "_law_checked" s_law_checked) {C HE : Addr} (m_HedgeError : mg "HedgeError" = some (.ref HE)) (sub : PySem.W.exmOne K (.ref C) (.ref HE) = some true) (c_check_name : Cr P w K mg base 3 "check_name" (sp_check_name C))
    (c_law_error : Ce P w K mg base 1 "_law_error" (sp_law_error C)) : Cl P w K mg base 4 "_law_checked" sp_checked := by
  refine cl_of D sc_law_checked b_law_checked (fun vs H Q E h => ?_) (fun f cdv A outer s H vs Q E hr h => ?_)
  · obtain ⟨x, rfl, _⟩ := h
    rfl
  · obtain ⟨x, rfl, tx, q⟩ := h
    refine ⟨_, (pss_one (ps_try_as (i := 1) rfl rfl sc_law_checked.nd rfl rfl ⟨rfl, by decide, .inl m_HedgeError⟩ takes0 (fun _ _ _ tk _ => (pss_one (ps_ret (pe_tup (pa_cons pe_str (pa_cons (pe_cr c_check_name tk hr (by omega) rfl (pa_cons (pv 0) pa_nil)) pa_nil)))))) (fun _ _ _ _ _ hz hf => (pss_one (ps_ret (pe_tup (pa_cons pe_str (pa_cons (pe_ce c_law_error List.mem_cons_self hz hf (roomH_mark hr _) (by omega) rfl (pa_cons (pv 1) pa_nil)) pa_nil)))))))), ?_⟩
    rw [show L2.start N_law_checked [.str x] = [some (.str x), none] from rfl]
    simp only [tSeq, tNext, tDrop, tRet, tRetN, tIfS, tAsg, gName, tAug, ipI, tVar, tC, tOp, tUn, rI, rI0, rU, tCons, tNil, tCB, tTup, tLst, tTest, tB, tAnd, tOr, tNot, tAndV, tOrV, tNotV, tIf, tCl, tCd, tCk, gSub, rPutL, rAtQ, rIntI, rLenQ, rLenS, rListQ, rTupL, rTupQ, rIsQ_c, kd_non, kd_bl, kd_int, kd_str, kd_ref, kdO_lst, kdO_tup, kit_NoneType_bool, kit_NoneType_int, kit_NoneType_str, kit_NoneType_list, kit_NoneType_tuple, kit_bool_bool, kit_bool_int, kit_bool_str, kit_bool_list, kit_bool_tuple, kit_int_bool, kit_int_int, kit_int_str, kit_int_list, kit_int_tuple, kit_str_bool, kit_str_int, kit_str_str, kit_str_list, kit_str_tuple, kit_list_bool, kit_list_int, kit_list_str, kit_list_list, kit_list_tuple, kit_tuple_bool, kit_tuple_int, kit_tuple_str, kit_tuple_list, kit_tuple_tuple, V.ty.injEq, rSortQ, rSlQ, rMulS, tJn, rAtX, rSlS, tSl, tPart, tNoPart, cut_lo2, cut_hi2, rInQ, gLq, gTq, gC_c, gNil, tChain, List.cons_append, List.nil_append, tBL, tBL0, tBad, tCr, tCe, tXF, cxH_K, HO.xd.injEq, rApp, rPopN, rRevL, seqAt_lst, seqAt_tup, at_0, at_1, at_2, at_3, at_4, ix_0, ix_1, ix_2, ix_3, ix_4, cx_K, upd_same, List.length_cons, List.length_nil, Nat.reduceAdd,  rEq, rNe, tRevL, V.int.injEq, V.bl.injEq, V.str.injEq, V.ref.injEq, List.cons.injEq, and_true, true_and, exists_and_left, exists_and_right, exists_eq_left, exists_eq_left', exists_eq_right, exists_eq_right', exists_const, Option.some.injEq, List.getElem?_cons_zero, List.getElem?_cons_succ, List.set_cons_zero, List.set_cons_succ, decide_eq_true_eq, decide_true, decide_false,  scal_ii, scal_bb, scal_ss, cmul_r, cdiv_l, cpow_12, cpow_18, cpow_40, HO.lst.injEq, HO.tup.injEq, upd_upd, Int.reduceToNat,  decide_not, Bool.not_eq_true', decide_eq_false_iff_not, if_true, if_false, Bool.false_eq_true, Bool.true_eq_false, reduceCtorEq, Int.reduceNeg, Nat.reduceLT, Int.reduceLT, Int.reducePow, gt_iff_lt]
    refine ⟨x, rfl, tx, fun g H1 r1 => ⟨sz_of (by decide), fun p hp => q _ _ (fun b o e => same_new hp b o (r1 b o e)) ?_⟩, fun g d H1 r1 hd => ⟨true, sub, fun _ a ha => ?_, fun h => by cases h⟩⟩
    · unfold dueD
      rw [if_pos g]
      exact ⟨p, _, rfl, trivial, upd_same, by decide, .cons rfl (.cons rfl .nil)⟩
    · simp only [tSeq, tNext, tDrop, tRet, tRetN, tIfS, tAsg, gName, tAug, ipI, tVar, tC, tOp, tUn, rI, rI0, rU, tCons, tNil, tCB, tTup, tLst, tTest, tB, tAnd, tOr, tNot, tAndV, tOrV, tNotV, tIf, tCl, tCd, tCk, gSub, rPutL, rAtQ, rIntI, rLenQ, rLenS, rListQ, rTupL, rTupQ, rIsQ_c, kd_non, kd_bl, kd_int, kd_str, kd_ref, kdO_lst, kdO_tup, kit_NoneType_bool, kit_NoneType_int, kit_NoneType_str, kit_NoneType_list, kit_NoneType_tuple, kit_bool_bool, kit_bool_int, kit_bool_str, kit_bool_list, kit_bool_tuple, kit_int_bool, kit_int_int, kit_int_str, kit_int_list, kit_int_tuple, kit_str_bool, kit_str_int, kit_str_str, kit_str_list, kit_str_tuple, kit_list_bool, kit_list_int, kit_list_str, kit_list_list, kit_list_tuple, kit_tuple_bool, kit_tuple_int, kit_tuple_str, kit_tuple_list, kit_tuple_tuple, V.ty.injEq, rSortQ, rSlQ, rMulS, tJn, rAtX, rSlS, tSl, tPart, tNoPart, cut_lo2, cut_hi2, rInQ, gLq, gTq, gC_c, gNil, tChain, List.cons_append, List.nil_append, tBL, tBL0, tBad, tCr, tCe, tXF, cxH_K, HO.xd.injEq, rApp, rPopN, rRevL, seqAt_lst, seqAt_tup, at_0, at_1, at_2, at_3, at_4, ix_0, ix_1, ix_2, ix_3, ix_4, cx_K, upd_same, List.length_cons, List.length_nil, Nat.reduceAdd,  rEq, rNe, tRevL, V.int.injEq, V.bl.injEq, V.str.injEq, V.ref.injEq, List.cons.injEq, and_true, true_and, exists_and_left, exists_and_right, exists_eq_left, exists_eq_left', exists_eq_right, exists_eq_right', exists_const, Option.some.injEq, List.getElem?_cons_zero, List.getElem?_cons_succ, List.set_cons_zero, List.set_cons_succ, decide_eq_true_eq, decide_true, decide_false,  scal_ii, scal_bb, scal_ss, cmul_r, cdiv_l, cpow_12, cpow_18, cpow_40, HO.lst.injEq, HO.tup.injEq, upd_upd, Int.reduceToNat,  decide_not, Bool.not_eq_true', decide_eq_false_iff_not, if_true, if_false, Bool.false_eq_true, Bool.true_eq_false, reduceCtorEq, Int.reduceNeg, Nat.reduceLT, Int.reduceLT, Int.reducePow, gt_iff_lt]
      refine ⟨d, x, rfl, rfl, rfl, hd, fun l t H2 r2 nl nt hl ht => ⟨sz_of (by decide), fun p hp => q _ _ (fun b o e => same_new hp b o (r2 b o (r1 b o e))) ?_⟩⟩
      unfold dueD
      rw [if_neg (by rw [g]; exact Bool.false_ne_true)]
      exact ⟨p, _, rfl, trivial, upd_same, (by show 2 ≤ 1000; decide), .cons rfl (.cons ⟨l, _, rfl, trivial, (upd_ne (ne_of_none hl hp)).trans hl, (by show 1 ≤ 1000; decide), .cons ⟨t, _, rfl, trivial, (upd_ne (ne_of_none ht hp)).trans ht, (by show 2 ≤ 1000; decide), .cons rfl (.cons rfl .nil)⟩ .nil⟩ .nil)⟩
abbrev s_law_word_right : Stmt := topS 58
abbrev N_law_word_right : List Str := ["word", "good", "due"]
theorem sc_law_word_right : FnScope N_law_word_right ["word"] (defScope s_law_word_right) := ⟨rfl, rfl, rfl, by decide +kernel, rfl, by decide +kernel, by decide +kernel⟩
theorem b_law_word_right : BindO "_law_word_right" s_law_word_right ["word"] := fun _ _ _ _ _ _ us hl => match us, hl with | [_], _ => rfl

def sp_word : Sp := fun vs H Q _ => ∃ x : Str, vs = [.str x] ∧ Tx 1000 x ∧ ∀ H', Same H H' → Q (.bl true) H'
theorem ok_word (D : Dn K mg "_law_word_right" s_law_word_right) (c_is_name : Cl P w K mg base 1 "is_name" sp_is_name) (c_law_is_name : Cl P w K mg base 1 "_law_is_name" sp_law_is_name) (c_law_checked : Cl P w K mg base 4 "_law_checked" sp_checked)
    (c_law_same : Cl P w K mg base 5 "_law_same" (sp_same 5)) : Cl P w K mg base 6 "_law_word_right" sp_word := by
  refine cl_of D sc_law_word_right b_law_word_right (fun vs H Q E h => ?_) (fun f cdv A outer s H vs Q E hr h => ?_)
  · obtain ⟨x, rfl, _⟩ := h
    rfl
  · obtain ⟨x, rfl, tx, q⟩ := h
    refine ⟨_, (pss_cons (ps_set (i := 1) sc_law_word_right.nd rfl (.inl rfl) (pe_cl c_law_is_name hr (by omega) rfl (pa_cons (pv 0) pa_nil)))
      (pss_cons (ps_set (i := 2) sc_law_word_right.nd rfl (.inl rfl) (pe_tup (pa_cons pe_str (pa_cons pe_non pa_nil))))
      (pss_ct (ps_if (pt_not (pt_val (pv 1))) (pss_one (ps_set (i := 2) sc_law_word_right.nd rfl (.inl rfl) (pe_tup (pa_cons pe_str (pa_cons (pe_lst (pa_cons (pe_tup (pa_cons pe_str (pa_cons (pv 0) pa_nil))) pa_nil)) pa_nil))))) pss_nil)
      (pss_one (ps_ret (pe_and (pe_cl c_law_same hr (by omega) rfl (pa_cons (pe_cl c_is_name hr (by omega) rfl (pa_cons (pv 0) pa_nil)) (pa_cons (pv 1) pa_nil))) (pe_and (pe_cl c_law_same hr (by omega) rfl (pa_cons (pe_cl c_law_checked hr (by omega) rfl (pa_cons (pv 0) pa_nil)) (pa_cons (pv 2) pa_nil))) (pe_one (pe_cl c_law_same hr (by omega) rfl (pa_cons (pe_cl c_is_name hr (by omega) rfl (pa_cons (pv 0) pa_nil)) (pa_cons (pv 1) pa_nil))))))))))), ?_⟩
    rw [show L2.start N_law_word_right [.str x] = [some (.str x), none, none] from rfl]
    simp only [tSeq, tNext, tDrop, tRet, tRetN, tIfS, tAsg, gName, tAug, ipI, tVar, tC, tOp, tUn, rI, rI0, rU, tCons, tNil, tCB, tTup, tLst, tTest, tB, tAnd, tOr, tNot, tAndV, tOrV, tNotV, tIf, tCl, tCd, tCk, gSub, rPutL, rAtQ, rIntI, rLenQ, rLenS, rListQ, rTupL, rTupQ, rIsQ_c, kd_non, kd_bl, kd_int, kd_str, kd_ref, kdO_lst, kdO_tup, kit_NoneType_bool, kit_NoneType_int, kit_NoneType_str, kit_NoneType_list, kit_NoneType_tuple, kit_bool_bool, kit_bool_int, kit_bool_str, kit_bool_list, kit_bool_tuple, kit_int_bool, kit_int_int, kit_int_str, kit_int_list, kit_int_tuple, kit_str_bool, kit_str_int, kit_str_str, kit_str_list, kit_str_tuple, kit_list_bool, kit_list_int, kit_list_str, kit_list_list, kit_list_tuple, kit_tuple_bool, kit_tuple_int, kit_tuple_str, kit_tuple_list, kit_tuple_tuple, V.ty.injEq, rSortQ, rSlQ, rMulS, tJn, rAtX, rSlS, tSl, tPart, tNoPart, cut_lo2, cut_hi2, rInQ, gLq, gTq, gC_c, gNil, tChain, List.cons_append, List.nil_append, tBL, tBL0, tBad, tCr, tCe, tXF, cxH_K, HO.xd.injEq, rApp, rPopN, rRevL, seqAt_lst, seqAt_tup, at_0, at_1, at_2, at_3, at_4, ix_0, ix_1, ix_2, ix_3, ix_4, cx_K, upd_same, List.length_cons, List.length_nil, Nat.reduceAdd,  rEq, rNe, tRevL, V.int.injEq, V.bl.injEq, V.str.injEq, V.ref.injEq, List.cons.injEq, and_true, true_and, exists_and_left, exists_and_right, exists_eq_left, exists_eq_left', exists_eq_right, exists_eq_right', exists_const, Option.some.injEq, List.getElem?_cons_zero, List.getElem?_cons_succ, List.set_cons_zero, List.set_cons_succ, decide_eq_true_eq, decide_true, decide_false,  scal_ii, scal_bb, scal_ss, cmul_r, cdiv_l, cpow_12, cpow_18, cpow_40, HO.lst.injEq, HO.tup.injEq, upd_upd, Int.reduceToNat,  decide_not, Bool.not_eq_true', decide_eq_false_iff_not, if_true, if_false, Bool.false_eq_true, Bool.true_eq_false, reduceCtorEq, Int.reduceNeg, Nat.reduceLT, Int.reduceLT, Int.reducePow, gt_iff_lt]
    refine ⟨x, rfl, tx.len, sz_of (by decide), fun p hp => ?_⟩
    obtain ⟨Mid, hM⟩ : ∃ Mid : L2.St → Hp → Prop, Mid = fun σ' H' => ∃ v : V, σ' = [some (.str x), some (.bl (good x)), some v] ∧ Same H H' ∧ Rp (fun _ => True) H' 5 v (dueD x) := ⟨_, rfl⟩
    refine ⟨Mid, ?_, fun σ' H' hI => ?_⟩
    · simp only [tSeq, tNext, tDrop, tRet, tRetN, tIfS, tAsg, gName, tAug, ipI, tVar, tC, tOp, tUn, rI, rI0, rU, tCons, tNil, tCB, tTup, tLst, tTest, tB, tAnd, tOr, tNot, tAndV, tOrV, tNotV, tIf, tCl, tCd, tCk, gSub, rPutL, rAtQ, rIntI, rLenQ, rLenS, rListQ, rTupL, rTupQ, rIsQ_c, kd_non, kd_bl, kd_int, kd_str, kd_ref, kdO_lst, kdO_tup, kit_NoneType_bool, kit_NoneType_int, kit_NoneType_str, kit_NoneType_list, kit_NoneType_tuple, kit_bool_bool, kit_bool_int, kit_bool_str, kit_bool_list, kit_bool_tuple, kit_int_bool, kit_int_int, kit_int_str, kit_int_list, kit_int_tuple, kit_str_bool, kit_str_int, kit_str_str, kit_str_list, kit_str_tuple, kit_list_bool, kit_list_int, kit_list_str, kit_list_list, kit_list_tuple, kit_tuple_bool, kit_tuple_int, kit_tuple_str, kit_tuple_list, kit_tuple_tuple, V.ty.injEq, rSortQ, rSlQ, rMulS, tJn, rAtX, rSlS, tSl, tPart, tNoPart, cut_lo2, cut_hi2, rInQ, gLq, gTq, gC_c, gNil, tChain, List.cons_append, List.nil_append, tBL, tBL0, tBad, tCr, tCe, tXF, cxH_K, HO.xd.injEq, rApp, rPopN, rRevL, seqAt_lst, seqAt_tup, at_0, at_1, at_2, at_3, at_4, ix_0, ix_1, ix_2, ix_3, ix_4, cx_K, upd_same, List.length_cons, List.length_nil, Nat.reduceAdd,  rEq, rNe, tRevL, V.int.injEq, V.bl.injEq, V.str.injEq, V.ref.injEq, List.cons.injEq, and_true, true_and, exists_and_left, exists_and_right, exists_eq_left, exists_eq_left', exists_eq_right, exists_eq_right', exists_const, Option.some.injEq, List.getElem?_cons_zero, List.getElem?_cons_succ, List.set_cons_zero, List.set_cons_succ, decide_eq_true_eq, decide_true, decide_false,  scal_ii, scal_bb, scal_ss, cmul_r, cdiv_l, cpow_12, cpow_18, cpow_40, HO.lst.injEq, HO.tup.injEq, upd_upd, Int.reduceToNat,  decide_not, Bool.not_eq_true', decide_eq_false_iff_not, if_true, if_false, Bool.false_eq_true, Bool.true_eq_false, reduceCtorEq, Int.reduceNeg, Nat.reduceLT, Int.reduceLT, Int.reducePow, gt_iff_lt]
      split
      · rename_i g
        refine ⟨sz_of (by decide), fun p1 hp1 => ⟨sz_of (by decide), fun p2 hp2 => ⟨sz_of (by decide), fun p3 hp3 => ?_⟩⟩⟩
        rw [hM]
        refine ⟨_, rfl, fun b o e => same_new hp3 b o (same_new hp2 b o (same_new hp1 b o (same_new hp b o e))), ?_⟩
        have n13 : p1 ≠ p3 := ne_of_none ((upd_ne (ne_of_none upd_same hp2)).trans upd_same) hp3
        unfold dueD
        rw [if_neg (by rw [g]; exact Bool.false_ne_true)]
        exact ⟨p3, _, rfl, trivial, upd_same, (by show 2 ≤ 1000; decide), .cons rfl (.cons ⟨p2, _, rfl, trivial, (upd_ne (ne_of_none upd_same hp3)).trans upd_same, (by show 1 ≤ 1000; decide), .cons ⟨p1, _, rfl, trivial, (upd_ne n13).trans ((upd_ne (ne_of_none upd_same hp2)).trans upd_same), (by show 2 ≤ 1000; decide), .cons rfl (.cons rfl .nil)⟩ .nil⟩ .nil)⟩
      · rename_i g
        rw [hM]
        refine ⟨_, rfl, same_new hp, ?_⟩
        unfold dueD
        rw [if_pos (by simpa using g)]
        exact ⟨p, _, rfl, trivial, upd_same, by decide, .cons rfl (.cons rfl .nil)⟩
    · rw [hM] at hI
      obtain ⟨v, rfl, r1, rp⟩ := hI
      simp only [tSeq, tNext, tDrop, tRet, tRetN, tIfS, tAsg, gName, tAug, ipI, tVar, tC, tOp, tUn, rI, rI0, rU, tCons, tNil, tCB, tTup, tLst, tTest, tB, tAnd, tOr, tNot, tAndV, tOrV, tNotV, tIf, tCl, tCd, tCk, gSub, rPutL, rAtQ, rIntI, rLenQ, rLenS, rListQ, rTupL, rTupQ, rIsQ_c, kd_non, kd_bl, kd_int, kd_str, kd_ref, kdO_lst, kdO_tup, kit_NoneType_bool, kit_NoneType_int, kit_NoneType_str, kit_NoneType_list, kit_NoneType_tuple, kit_bool_bool, kit_bool_int, kit_bool_str, kit_bool_list, kit_bool_tuple, kit_int_bool, kit_int_int, kit_int_str, kit_int_list, kit_int_tuple, kit_str_bool, kit_str_int, kit_str_str, kit_str_list, kit_str_tuple, kit_list_bool, kit_list_int, kit_list_str, kit_list_list, kit_list_tuple, kit_tuple_bool, kit_tuple_int, kit_tuple_str, kit_tuple_list, kit_tuple_tuple, V.ty.injEq, rSortQ, rSlQ, rMulS, tJn, rAtX, rSlS, tSl, tPart, tNoPart, cut_lo2, cut_hi2, rInQ, gLq, gTq, gC_c, gNil, tChain, List.cons_append, List.nil_append, tBL, tBL0, tBad, tCr, tCe, tXF, cxH_K, HO.xd.injEq, rApp, rPopN, rRevL, seqAt_lst, seqAt_tup, at_0, at_1, at_2, at_3, at_4, ix_0, ix_1, ix_2, ix_3, ix_4, cx_K, upd_same, List.length_cons, List.length_nil, Nat.reduceAdd,  rEq, rNe, tRevL, V.int.injEq, V.bl.injEq, V.str.injEq, V.ref.injEq, List.cons.injEq, and_true, true_and, exists_and_left, exists_and_right, exists_eq_left, exists_eq_left', exists_eq_right, exists_eq_right', exists_const, Option.some.injEq, List.getElem?_cons_zero, List.getElem?_cons_succ, List.set_cons_zero, List.set_cons_succ, decide_eq_true_eq, decide_true, decide_false,  scal_ii, scal_bb, scal_ss, cmul_r, cdiv_l, cpow_12, cpow_18, cpow_40, HO.lst.injEq, HO.tup.injEq, upd_upd, Int.reduceToNat,  decide_not, Bool.not_eq_true', decide_eq_false_iff_not, if_true, if_false, Bool.false_eq_true, Bool.true_eq_false, reduceCtorEq, Int.reduceNeg, Nat.reduceLT, Int.reduceLT, Int.reducePow, gt_iff_lt]
      refine ⟨x, rfl, tx.len, fun H2 r2 => ?_⟩
      refine ⟨fun _ => True, _, _, .bl (good x), rfl, rfl, rfl, true, rfl, ?_⟩
      simp only [tSeq, tNext, tDrop, tRet, tRetN, tIfS, tAsg, gName, tAug, ipI, tVar, tC, tOp, tUn, rI, rI0, rU, tCons, tNil, tCB, tTup, tLst, tTest, tB, tAnd, tOr, tNot, tAndV, tOrV, tNotV, tIf, tCl, tCd, tCk, gSub, rPutL, rAtQ, rIntI, rLenQ, rLenS, rListQ, rTupL, rTupQ, rIsQ_c, kd_non, kd_bl, kd_int, kd_str, kd_ref, kdO_lst, kdO_tup, kit_NoneType_bool, kit_NoneType_int, kit_NoneType_str, kit_NoneType_list, kit_NoneType_tuple, kit_bool_bool, kit_bool_int, kit_bool_str, kit_bool_list, kit_bool_tuple, kit_int_bool, kit_int_int, kit_int_str, kit_int_list, kit_int_tuple, kit_str_bool, kit_str_int, kit_str_str, kit_str_list, kit_str_tuple, kit_list_bool, kit_list_int, kit_list_str, kit_list_list, kit_list_tuple, kit_tuple_bool, kit_tuple_int, kit_tuple_str, kit_tuple_list, kit_tuple_tuple, V.ty.injEq, rSortQ, rSlQ, rMulS, tJn, rAtX, rSlS, tSl, tPart, tNoPart, cut_lo2, cut_hi2, rInQ, gLq, gTq, gC_c, gNil, tChain, List.cons_append, List.nil_append, tBL, tBL0, tBad, tCr, tCe, tXF, cxH_K, HO.xd.injEq, rApp, rPopN, rRevL, seqAt_lst, seqAt_tup, at_0, at_1, at_2, at_3, at_4, ix_0, ix_1, ix_2, ix_3, ix_4, cx_K, upd_same, List.length_cons, List.length_nil, Nat.reduceAdd,  rEq, rNe, tRevL, V.int.injEq, V.bl.injEq, V.str.injEq, V.ref.injEq, List.cons.injEq, and_true, true_and, exists_and_left, exists_and_right, exists_eq_left, exists_eq_left', exists_eq_right, exists_eq_right', exists_const, Option.some.injEq, List.getElem?_cons_zero, List.getElem?_cons_succ, List.set_cons_zero, List.set_cons_succ, decide_eq_true_eq, decide_true, decide_false,  scal_ii, scal_bb, scal_ss, cmul_r, cdiv_l, cpow_12, cpow_18, cpow_40, HO.lst.injEq, HO.tup.injEq, upd_upd, Int.reduceToNat,  decide_not, Bool.not_eq_true', decide_eq_false_iff_not, if_true, if_false, Bool.false_eq_true, Bool.true_eq_false, reduceCtorEq, Int.reduceNeg, Nat.reduceLT, Int.reduceLT, Int.reducePow, gt_iff_lt]
      refine ⟨x, rfl, tx, fun u H3 r3 ru => ?_⟩
      refine ⟨fun _ => True, _, _, dueD x, rfl, ru, (rp.same r2).same r3, true, rfl, ?_⟩
      simp only [tSeq, tNext, tDrop, tRet, tRetN, tIfS, tAsg, gName, tAug, ipI, tVar, tC, tOp, tUn, rI, rI0, rU, tCons, tNil, tCB, tTup, tLst, tTest, tB, tAnd, tOr, tNot, tAndV, tOrV, tNotV, tIf, tCl, tCd, tCk, gSub, rPutL, rAtQ, rIntI, rLenQ, rLenS, rListQ, rTupL, rTupQ, rIsQ_c, kd_non, kd_bl, kd_int, kd_str, kd_ref, kdO_lst, kdO_tup, kit_NoneType_bool, kit_NoneType_int, kit_NoneType_str, kit_NoneType_list, kit_NoneType_tuple, kit_bool_bool, kit_bool_int, kit_bool_str, kit_bool_list, kit_bool_tuple, kit_int_bool, kit_int_int, kit_int_str, kit_int_list, kit_int_tuple, kit_str_bool, kit_str_int, kit_str_str, kit_str_list, kit_str_tuple, kit_list_bool, kit_list_int, kit_list_str, kit_list_list, kit_list_tuple, kit_tuple_bool, kit_tuple_int, kit_tuple_str, kit_tuple_list, kit_tuple_tuple, V.ty.injEq, rSortQ, rSlQ, rMulS, tJn, rAtX, rSlS, tSl, tPart, tNoPart, cut_lo2, cut_hi2, rInQ, gLq, gTq, gC_c, gNil, tChain, List.cons_append, List.nil_append, tBL, tBL0, tBad, tCr, tCe, tXF, cxH_K, HO.xd.injEq, rApp, rPopN, rRevL, seqAt_lst, seqAt_tup, at_0, at_1, at_2, at_3, at_4, ix_0, ix_1, ix_2, ix_3, ix_4, cx_K, upd_same, List.length_cons, List.length_nil, Nat.reduceAdd,  rEq, rNe, tRevL, V.int.injEq, V.bl.injEq, V.str.injEq, V.ref.injEq, List.cons.injEq, and_true, true_and, exists_and_left, exists_and_right, exists_eq_left, exists_eq_left', exists_eq_right, exists_eq_right', exists_const, Option.some.injEq, List.getElem?_cons_zero, List.getElem?_cons_succ, List.set_cons_zero, List.set_cons_succ, decide_eq_true_eq, decide_true, decide_false,  scal_ii, scal_bb, scal_ss, cmul_r, cdiv_l, cpow_12, cpow_18, cpow_40, HO.lst.injEq, HO.tup.injEq, upd_upd, Int.reduceToNat,  decide_not, Bool.not_eq_true', decide_eq_false_iff_not, if_true, if_false, Bool.false_eq_true, Bool.true_eq_false, reduceCtorEq, Int.reduceNeg, Nat.reduceLT, Int.reduceLT, Int.reducePow, gt_iff_lt]
      refine ⟨x, rfl, tx.len, fun H4 r4 => ?_⟩
      exact ⟨fun _ => True, _, _, .bl (good x), rfl, rfl, rfl, q H4 fun b o e => r4 b o (r3 b o (r2 b o (r1 b o e)))⟩
end
end Z
set_option Elab.async false
set_option linter.all false
set_option maxRecDepth 100000
set_option maxHeartbeats 4000000
namespace Z
open PySem PySem.Spec PyProof.Rows L2
section
variable {P : Program} {w : World} {K : PySem.W.Frag} {mg : Str → Option Value} {base : Heap}
abbrev s_law_store : Stmt := topS 38
abbrev N_law_store : List Str := ["script", "seed", "cell"]
theorem sc_law_store : FnScope N_law_store ["script"] (defScope s_law_store) := ⟨rfl, rfl, rfl, by decide +kernel, rfl, by decide +kernel, by decide +kernel⟩
theorem b_law_store : BindO "_law_store" s_law_store ["script"] := fun _ _ _ _ _ _ us hl => match us, hl with | [_], _ => rfl

def sp_store (K : PySem.W.Frag) : Sp := fun vs H Q _ => ∃ (a : Addr) (ns : List Int), vs = [.ref a] ∧ SqL K H a (ns.map V.int) ∧ ns.length ≤ 63 ∧ ∀ (S : Sto) (H' : Hp), Same H H' → Store S H' → Q (.ref S.a) H'
theorem ok_store (D : Dn K mg "_law_store" s_law_store) (B : Blt mg) : Cl P w K mg base 1 "_law_store" (sp_store K) := by
  refine cl_of D sc_law_store b_law_store (fun vs H Q E h => ?_) (fun f cdv A outer s H vs Q E hr h => ?_)
  · obtain ⟨a, ns, rfl, _⟩ := h
    rfl
  · obtain ⟨a, ns, rfl, hs, hn, q⟩ := h
    refine ⟨_, (pss_cons (ps_set (i := 1) sc_law_store.nd rfl (.inl rfl) pe_int)
      (pss_cons (ps_for PassesOwn.never rfl (pi_list (pv 0)) (pg_name (i := 2) sc_law_store.nd rfl (.inl rfl)) (pss_one (ps_set (i := 1) sc_law_store.nd rfl (.inl rfl) (pe_op op_mod (pe_callTy call_intI (by rfl) B.int (by decide +kernel) (pa_cons (pe_op op_add (pe_op op_add (pe_op op_mul (pv 1) pe_int) (pe_op op_mod (pe_callTy call_intI (by rfl) B.int (by decide +kernel) (pa_cons (pv 2) pa_nil)) pe_int)) pe_int) pa_nil)) pe_int))))
      (pss_one (ps_ret (pe_lst (pa_cons (pe_callTy call_listF (by rfl) B.list (by decide +kernel) (pa_cons (pv 0) pa_nil)) (pa_cons pe_int (pa_cons pe_int (pa_cons pe_int (pa_cons (pv 1) pa_nil)))))))))), ?_⟩
    rw [show L2.start N_law_store [.ref a] = [some (.ref a), none, none] from rfl]
    simp only [tSeq, tNext, tDrop, tRet, tRetN, tIfS, tAsg, gName, tAug, ipI, tVar, tC, tOp, tUn, rI, rI0, rU, tCons, tNil, tCB, tTup, tLst, tTest, tB, tAnd, tOr, tNot, tAndV, tOrV, tNotV, tIf, tCl, tCd, tCk, gSub, rPutL, rAtQ, rIntI, rLenQ, rLenS, rListQ, rTupL, rTupQ, rIsQ_c, kd_non, kd_bl, kd_int, kd_str, kd_ref, kdO_lst, kdO_tup, kit_NoneType_bool, kit_NoneType_int, kit_NoneType_str, kit_NoneType_list, kit_NoneType_tuple, kit_bool_bool, kit_bool_int, kit_bool_str, kit_bool_list, kit_bool_tuple, kit_int_bool, kit_int_int, kit_int_str, kit_int_list, kit_int_tuple, kit_str_bool, kit_str_int, kit_str_str, kit_str_list, kit_str_tuple, kit_list_bool, kit_list_int, kit_list_str, kit_list_list, kit_list_tuple, kit_tuple_bool, kit_tuple_int, kit_tuple_str, kit_tuple_list, kit_tuple_tuple, V.ty.injEq, rSortQ, rSlQ, rMulS, tJn, rAtX, rSlS, tSl, tPart, tNoPart, cut_lo2, cut_hi2, rInQ, gLq, gTq, gC_c, gNil, tChain, List.cons_append, List.nil_append, tBL, tBL0, tBad, tCr, tCe, tXF, cxH_K, HO.xd.injEq, rApp, rPopN, rRevL, seqAt_lst, seqAt_tup, at_0, at_1, at_2, at_3, at_4, ix_0, ix_1, ix_2, ix_3, ix_4, cx_K, upd_same, List.length_cons, List.length_nil, Nat.reduceAdd,  rEq, rNe, tRevL, V.int.injEq, V.bl.injEq, V.str.injEq, V.ref.injEq, List.cons.injEq, and_true, true_and, exists_and_left, exists_and_right, exists_eq_left, exists_eq_left', exists_eq_right, exists_eq_right', exists_const, Option.some.injEq, List.getElem?_cons_zero, List.getElem?_cons_succ, List.set_cons_zero, List.set_cons_succ, decide_eq_true_eq, decide_true, decide_false,  scal_ii, scal_bb, scal_ss, cmul_r, cdiv_l, cpow_12, cpow_18, cpow_40, HO.lst.injEq, HO.tup.injEq, upd_upd, Int.reduceToNat,  decide_not, Bool.not_eq_true', decide_eq_false_iff_not, if_true, if_false, Bool.false_eq_true, Bool.true_eq_false, reduceCtorEq, Int.reduceNeg, Nat.reduceLT, Int.reduceLT, Int.reducePow, gt_iff_lt]
    refine z_forL a (ns.map V.int) (fun Q q => ?_) hs (fun i σ' H' => ∃ (x : Int) (z : Option V), σ' = [some (.ref a), some (.int x), z] ∧ H' = H) ⟨7, none, rfl, rfl⟩ (fun i σ' H' hi hI => ?_) (fun i v σ' H' hi hI => ?_) (fun σ' H' hI => ?_)
    · simp only [tSeq, tNext, tDrop, tRet, tRetN, tIfS, tAsg, gName, tAug, ipI, tVar, tC, tOp, tUn, rI, rI0, rU, tCons, tNil, tCB, tTup, tLst, tTest, tB, tAnd, tOr, tNot, tAndV, tOrV, tNotV, tIf, tCl, tCd, tCk, gSub, rPutL, rAtQ, rIntI, rLenQ, rLenS, rListQ, rTupL, rTupQ, rIsQ_c, kd_non, kd_bl, kd_int, kd_str, kd_ref, kdO_lst, kdO_tup, kit_NoneType_bool, kit_NoneType_int, kit_NoneType_str, kit_NoneType_list, kit_NoneType_tuple, kit_bool_bool, kit_bool_int, kit_bool_str, kit_bool_list, kit_bool_tuple, kit_int_bool, kit_int_int, kit_int_str, kit_int_list, kit_int_tuple, kit_str_bool, kit_str_int, kit_str_str, kit_str_list, kit_str_tuple, kit_list_bool, kit_list_int, kit_list_str, kit_list_list, kit_list_tuple, kit_tuple_bool, kit_tuple_int, kit_tuple_str, kit_tuple_list, kit_tuple_tuple, V.ty.injEq, rSortQ, rSlQ, rMulS, tJn, rAtX, rSlS, tSl, tPart, tNoPart, cut_lo2, cut_hi2, rInQ, gLq, gTq, gC_c, gNil, tChain, List.cons_append, List.nil_append, tBL, tBL0, tBad, tCr, tCe, tXF, cxH_K, HO.xd.injEq, rApp, rPopN, rRevL, seqAt_lst, seqAt_tup, at_0, at_1, at_2, at_3, at_4, ix_0, ix_1, ix_2, ix_3, ix_4, cx_K, upd_same, List.length_cons, List.length_nil, Nat.reduceAdd,  rEq, rNe, tRevL, V.int.injEq, V.bl.injEq, V.str.injEq, V.ref.injEq, List.cons.injEq, and_true, true_and, exists_and_left, exists_and_right, exists_eq_left, exists_eq_left', exists_eq_right, exists_eq_right', exists_const, Option.some.injEq, List.getElem?_cons_zero, List.getElem?_cons_succ, List.set_cons_zero, List.set_cons_succ, decide_eq_true_eq, decide_true, decide_false,  scal_ii, scal_bb, scal_ss, cmul_r, cdiv_l, cpow_12, cpow_18, cpow_40, HO.lst.injEq, HO.tup.injEq, upd_upd, Int.reduceToNat,  decide_not, Bool.not_eq_true', decide_eq_false_iff_not, if_true, if_false, Bool.false_eq_true, Bool.true_eq_false, reduceCtorEq, Int.reduceNeg, Nat.reduceLT, Int.reduceLT, Int.reducePow, gt_iff_lt]
      exact q
    · obtain ⟨x, z, rfl, rfl⟩ := hI
      exact hs
    · obtain ⟨x, z, rfl, rfl⟩ := hI
      rw [List.getElem?_map] at hi
      obtain ⟨n, hn', rfl⟩ := Option.map_eq_some_iff.mp hi
      simp only [tSeq, tNext, tDrop, tRet, tRetN, tIfS, tAsg, gName, tAug, ipI, tVar, tC, tOp, tUn, rI, rI0, rU, tCons, tNil, tCB, tTup, tLst, tTest, tB, tAnd, tOr, tNot, tAndV, tOrV, tNotV, tIf, tCl, tCd, tCk, gSub, rPutL, rAtQ, rIntI, rLenQ, rLenS, rListQ, rTupL, rTupQ, rIsQ_c, kd_non, kd_bl, kd_int, kd_str, kd_ref, kdO_lst, kdO_tup, kit_NoneType_bool, kit_NoneType_int, kit_NoneType_str, kit_NoneType_list, kit_NoneType_tuple, kit_bool_bool, kit_bool_int, kit_bool_str, kit_bool_list, kit_bool_tuple, kit_int_bool, kit_int_int, kit_int_str, kit_int_list, kit_int_tuple, kit_str_bool, kit_str_int, kit_str_str, kit_str_list, kit_str_tuple, kit_list_bool, kit_list_int, kit_list_str, kit_list_list, kit_list_tuple, kit_tuple_bool, kit_tuple_int, kit_tuple_str, kit_tuple_list, kit_tuple_tuple, V.ty.injEq, rSortQ, rSlQ, rMulS, tJn, rAtX, rSlS, tSl, tPart, tNoPart, cut_lo2, cut_hi2, rInQ, gLq, gTq, gC_c, gNil, tChain, List.cons_append, List.nil_append, tBL, tBL0, tBad, tCr, tCe, tXF, cxH_K, HO.xd.injEq, rApp, rPopN, rRevL, seqAt_lst, seqAt_tup, at_0, at_1, at_2, at_3, at_4, ix_0, ix_1, ix_2, ix_3, ix_4, cx_K, upd_same, List.length_cons, List.length_nil, Nat.reduceAdd,  rEq, rNe, tRevL, V.int.injEq, V.bl.injEq, V.str.injEq, V.ref.injEq, List.cons.injEq, and_true, true_and, exists_and_left, exists_and_right, exists_eq_left, exists_eq_left', exists_eq_right, exists_eq_right', exists_const, Option.some.injEq, List.getElem?_cons_zero, List.getElem?_cons_succ, List.set_cons_zero, List.set_cons_succ, decide_eq_true_eq, decide_true, decide_false,  scal_ii, scal_bb, scal_ss, cmul_r, cdiv_l, cpow_12, cpow_18, cpow_40, HO.lst.injEq, HO.tup.injEq, upd_upd, Int.reduceToNat,  decide_not, Bool.not_eq_true', decide_eq_false_iff_not, if_true, if_false, Bool.false_eq_true, Bool.true_eq_false, reduceCtorEq, Int.reduceNeg, Nat.reduceLT, Int.reduceLT, Int.reducePow, gt_iff_lt]
      exact ⟨⟨_, rfl⟩, _, rfl⟩
    · obtain ⟨x, z, rfl, rfl⟩ := hI
      simp only [tSeq, tNext, tDrop, tRet, tRetN, tIfS, tAsg, gName, tAug, ipI, tVar, tC, tOp, tUn, rI, rI0, rU, tCons, tNil, tCB, tTup, tLst, tTest, tB, tAnd, tOr, tNot, tAndV, tOrV, tNotV, tIf, tCl, tCd, tCk, gSub, rPutL, rAtQ, rIntI, rLenQ, rLenS, rListQ, rTupL, rTupQ, rIsQ_c, kd_non, kd_bl, kd_int, kd_str, kd_ref, kdO_lst, kdO_tup, kit_NoneType_bool, kit_NoneType_int, kit_NoneType_str, kit_NoneType_list, kit_NoneType_tuple, kit_bool_bool, kit_bool_int, kit_bool_str, kit_bool_list, kit_bool_tuple, kit_int_bool, kit_int_int, kit_int_str, kit_int_list, kit_int_tuple, kit_str_bool, kit_str_int, kit_str_str, kit_str_list, kit_str_tuple, kit_list_bool, kit_list_int, kit_list_str, kit_list_list, kit_list_tuple, kit_tuple_bool, kit_tuple_int, kit_tuple_str, kit_tuple_list, kit_tuple_tuple, V.ty.injEq, rSortQ, rSlQ, rMulS, tJn, rAtX, rSlS, tSl, tPart, tNoPart, cut_lo2, cut_hi2, rInQ, gLq, gTq, gC_c, gNil, tChain, List.cons_append, List.nil_append, tBL, tBL0, tBad, tCr, tCe, tXF, cxH_K, HO.xd.injEq, rApp, rPopN, rRevL, seqAt_lst, seqAt_tup, at_0, at_1, at_2, at_3, at_4, ix_0, ix_1, ix_2, ix_3, ix_4, cx_K, upd_same, List.length_cons, List.length_nil, Nat.reduceAdd,  rEq, rNe, tRevL, V.int.injEq, V.bl.injEq, V.str.injEq, V.ref.injEq, List.cons.injEq, and_true, true_and, exists_and_left, exists_and_right, exists_eq_left, exists_eq_left', exists_eq_right, exists_eq_right', exists_const, Option.some.injEq, List.getElem?_cons_zero, List.getElem?_cons_succ, List.set_cons_zero, List.set_cons_succ, decide_eq_true_eq, decide_true, decide_false,  scal_ii, scal_bb, scal_ss, cmul_r, cdiv_l, cpow_12, cpow_18, cpow_40, HO.lst.injEq, HO.tup.injEq, upd_upd, Int.reduceToNat,  decide_not, Bool.not_eq_true', decide_eq_false_iff_not, if_true, if_false, Bool.false_eq_true, Bool.true_eq_false, reduceCtorEq, Int.reduceNeg, Nat.reduceLT, Int.reduceLT, Int.reducePow, gt_iff_lt]
      refine ⟨a, rfl, ns.map V.int, hs, fun l hl => ⟨sz_of (by decide), fun p hp => ?_⟩⟩
      have nl : l ≠ p := ne_of_none upd_same hp
      refine q ⟨p, l, ns⟩ _ (fun b o e => same_new hp b o (same_new hl b o e)) ⟨⟨0, 0, 0, x, upd_same, Nat.zero_le _⟩, (upd_ne nl).trans upd_same, nl, hn⟩
theorem forLE {tl : TE} {g : TG} {tb : TS} {D : Ends} {σ : L2.St} {H : Hp} (R : Addr → Hp → Prop) (h : ∀ X : VK, (∀ (p : Addr) H1, R p H1 → X (.ref p) H1) → tl σ H X)
    (k : ∀ (p : Addr) H1, R p H1 → tFor (iList K (fun _ H2 Q => Q (.ref p) H2)) g tb D σ H1) : tFor (iList K tl) g tb D σ H := h _ fun p H1 r => k p H1 r
abbrev s_law : Stmt := topS 63
abbrev N_law : List Str := ["script", "store", "k", "many", "word"]
theorem sc_law : FnScope N_law ["script"] (defScope s_law) := ⟨rfl, rfl, rfl, by decide +kernel, rfl, by decide +kernel, by decide +kernel⟩
theorem b_law : BindO "law" s_law ["script"] := fun _ _ _ _ _ _ us hl => match us, hl with | [_], _ => rfl

def sp_top (K : PySem.W.Frag) : Sp := fun vs H Q _ => ∃ (a : Addr) (ns : List Int), vs = [.ref a] ∧ SqL K H a (ns.map V.int) ∧ ns.length ≤ 63 ∧ ∀ H', Q (.bl true) H'
theorem fn_law {f : Addr} {fd : FuncData} (F : Fun K "law" "law" s_law f fd) (B : Blt mg) (c_law_store : Cl P w K mg base 1 "_law_store" (sp_store K)) (c_law_take : Cl P w K mg base 2 "_law_take" sp_take) (c_law_crossed_right : Cl P w K mg base 6 "_law_crossed_right" (sp_law true))
    (c_law_steps_right : Cl P w K mg base 6 "_law_steps_right" sp_many) (c_law_span_right : Cl P w K mg base 6 "_law_span_right" sp_many) (c_law_words : Cl P w K mg base 6 "_law_words" sp_words) (c_law_word_right : Cl P w K mg base 6 "_law_word_right" sp_word) : FnOk P w K mg base CX0 7 f fd ["script"] (sp_top K) := by
  refine F.ok sc_law (fun vs H Q E h => ?_) (fun cdv A outer s H vs Q E hr h => ?_)
  · obtain ⟨a, ns, rfl, _⟩ := h
    rfl
  · obtain ⟨a, ns, rfl, hs, hn, q⟩ := h
    refine ⟨_, (pss_cons (ps_set (i := 1) sc_law.nd rfl (.inl rfl) (pe_cl c_law_store hr (by omega) rfl (pa_cons (pv 0) pa_nil)))
      (pss_cons (ps_for PassesOwn.never rfl (pi_range1 (by rfl) B.range (pa_cons pe_int pa_nil)) (pg_name (i := 2) sc_law.nd rfl (.inl rfl)) (pss_one (ps_if (pt_not (pt_val (pe_cl c_law_crossed_right hr (by omega) rfl (pa_cons (pv 1) pa_nil)))) (pss_one (ps_ret pe_bl)) pss_nil)))
      (pss_cons (ps_for PassesOwn.never rfl (pi_range1 (by rfl) B.range (pa_cons pe_int pa_nil)) (pg_name (i := 2) sc_law.nd rfl (.inl rfl)) (pss_cons (ps_set (i := 3) sc_law.nd rfl (.inl rfl) (pe_op op_add pe_int (pe_cl c_law_take hr (by omega) rfl (pa_cons (pv 1) (pa_cons pe_int pa_nil)))))
      (pss_one (ps_if (PW.pt (pw_or (pt_not (pt_val (pe_cl c_law_steps_right hr (by omega) rfl (pa_cons (pv 1) (pa_cons (pv 3) pa_nil))))) (pw_or1 (pt_not (pt_val (pe_cl c_law_span_right hr (by omega) rfl (pa_cons (pv 1) (pa_cons (pv 3) pa_nil)))))))) (pss_one (ps_ret pe_bl)) pss_nil))))
      (pss_cons (ps_for PassesOwn.never rfl (pi_list (pe_cl c_law_words hr (by omega) rfl (pa_cons (pv 1) pa_nil))) (pg_name (i := 4) sc_law.nd rfl (.inl rfl)) (pss_one (ps_if (pt_not (pt_val (pe_cl c_law_word_right hr (by omega) rfl (pa_cons (pv 4) pa_nil)))) (pss_one (ps_ret pe_bl)) pss_nil)))
      (pss_one (ps_ret pe_bl)))))), ?_⟩
    rw [show L2.start N_law [.ref a] = [some (.ref a), none, none, none, none] from rfl]
    simp only [tSeq, tNext, tDrop, tRet, tRetN, tIfS, tAsg, gName, tAug, ipI, tVar, tC, tOp, tUn, rI, rI0, rU, tCons, tNil, tCB, tTup, tLst, tTest, tB, tAnd, tOr, tNot, tAndV, tOrV, tNotV, tIf, tCl, tCd, tCk, gSub, rPutL, rAtQ, rIntI, rLenQ, rLenS, rListQ, rTupL, rTupQ, rIsQ_c, kd_non, kd_bl, kd_int, kd_str, kd_ref, kdO_lst, kdO_tup, kit_NoneType_bool, kit_NoneType_int, kit_NoneType_str, kit_NoneType_list, kit_NoneType_tuple, kit_bool_bool, kit_bool_int, kit_bool_str, kit_bool_list, kit_bool_tuple, kit_int_bool, kit_int_int, kit_int_str, kit_int_list, kit_int_tuple, kit_str_bool, kit_str_int, kit_str_str, kit_str_list, kit_str_tuple, kit_list_bool, kit_list_int, kit_list_str, kit_list_list, kit_list_tuple, kit_tuple_bool, kit_tuple_int, kit_tuple_str, kit_tuple_list, kit_tuple_tuple, V.ty.injEq, rSortQ, rSlQ, rMulS, tJn, rAtX, rSlS, tSl, tPart, tNoPart, cut_lo2, cut_hi2, rInQ, gLq, gTq, gC_c, gNil, tChain, List.cons_append, List.nil_append, tBL, tBL0, tBad, tCr, tCe, tXF, cxH_K, HO.xd.injEq, rApp, rPopN, rRevL, seqAt_lst, seqAt_tup, at_0, at_1, at_2, at_3, at_4, ix_0, ix_1, ix_2, ix_3, ix_4, cx_K, upd_same, List.length_cons, List.length_nil, Nat.reduceAdd,  rEq, rNe, tRevL, V.int.injEq, V.bl.injEq, V.str.injEq, V.ref.injEq, List.cons.injEq, and_true, true_and, exists_and_left, exists_and_right, exists_eq_left, exists_eq_left', exists_eq_right, exists_eq_right', exists_const, Option.some.injEq, List.getElem?_cons_zero, List.getElem?_cons_succ, List.set_cons_zero, List.set_cons_succ, decide_eq_true_eq, decide_true, decide_false,  scal_ii, scal_bb, scal_ss, cmul_r, cdiv_l, cpow_12, cpow_18, cpow_40, HO.lst.injEq, HO.tup.injEq, upd_upd, Int.reduceToNat,  decide_not, Bool.not_eq_true', decide_eq_false_iff_not, if_true, if_false, Bool.false_eq_true, Bool.true_eq_false, reduceCtorEq, Int.reduceNeg, Nat.reduceLT, Int.reduceLT, Int.reducePow, gt_iff_lt]
    refine ⟨a, ns, rfl, hs, hn, fun S H0 r0 st0 => ?_⟩
    refine z_forR 5 (fun Q q => q) (by decide) (fun i σ' H' => ∃ z : Option V, σ' = [some (.ref a), some (.ref S.a), z, none, none] ∧ Store S H') ⟨none, rfl, st0⟩ (fun i σ' H' hi hI => ?_) (fun σ' H' hI => ?_)
    · obtain ⟨z, rfl, st⟩ := hI
      simp only [tSeq, tNext, tDrop, tRet, tRetN, tIfS, tAsg, gName, tAug, ipI, tVar, tC, tOp, tUn, rI, rI0, rU, tCons, tNil, tCB, tTup, tLst, tTest, tB, tAnd, tOr, tNot, tAndV, tOrV, tNotV, tIf, tCl, tCd, tCk, gSub, rPutL, rAtQ, rIntI, rLenQ, rLenS, rListQ, rTupL, rTupQ, rIsQ_c, kd_non, kd_bl, kd_int, kd_str, kd_ref, kdO_lst, kdO_tup, kit_NoneType_bool, kit_NoneType_int, kit_NoneType_str, kit_NoneType_list, kit_NoneType_tuple, kit_bool_bool, kit_bool_int, kit_bool_str, kit_bool_list, kit_bool_tuple, kit_int_bool, kit_int_int, kit_int_str, kit_int_list, kit_int_tuple, kit_str_bool, kit_str_int, kit_str_str, kit_str_list, kit_str_tuple, kit_list_bool, kit_list_int, kit_list_str, kit_list_list, kit_list_tuple, kit_tuple_bool, kit_tuple_int, kit_tuple_str, kit_tuple_list, kit_tuple_tuple, V.ty.injEq, rSortQ, rSlQ, rMulS, tJn, rAtX, rSlS, tSl, tPart, tNoPart, cut_lo2, cut_hi2, rInQ, gLq, gTq, gC_c, gNil, tChain, List.cons_append, List.nil_append, tBL, tBL0, tBad, tCr, tCe, tXF, cxH_K, HO.xd.injEq, rApp, rPopN, rRevL, seqAt_lst, seqAt_tup, at_0, at_1, at_2, at_3, at_4, ix_0, ix_1, ix_2, ix_3, ix_4, cx_K, upd_same, List.length_cons, List.length_nil, Nat.reduceAdd,  rEq, rNe, tRevL, V.int.injEq, V.bl.injEq, V.str.injEq, V.ref.injEq, List.cons.injEq, and_true, true_and, exists_and_left, exists_and_right, exists_eq_left, exists_eq_left', exists_eq_right, exists_eq_right', exists_const, Option.some.injEq, List.getElem?_cons_zero, List.getElem?_cons_succ, List.set_cons_zero, List.set_cons_succ, decide_eq_true_eq, decide_true, decide_false,  scal_ii, scal_bb, scal_ss, cmul_r, cdiv_l, cpow_12, cpow_18, cpow_40, HO.lst.injEq, HO.tup.injEq, upd_upd, Int.reduceToNat,  decide_not, Bool.not_eq_true', decide_eq_false_iff_not, if_true, if_false, Bool.false_eq_true, Bool.true_eq_false, reduceCtorEq, Int.reduceNeg, Nat.reduceLT, Int.reduceLT, Int.reducePow, gt_iff_lt]
      refine ⟨S, rfl, st, fun H1 r1 => ⟨true, rfl, ?_⟩⟩
      simp only [tSeq, tNext, tDrop, tRet, tRetN, tIfS, tAsg, gName, tAug, ipI, tVar, tC, tOp, tUn, rI, rI0, rU, tCons, tNil, tCB, tTup, tLst, tTest, tB, tAnd, tOr, tNot, tAndV, tOrV, tNotV, tIf, tCl, tCd, tCk, gSub, rPutL, rAtQ, rIntI, rLenQ, rLenS, rListQ, rTupL, rTupQ, rIsQ_c, kd_non, kd_bl, kd_int, kd_str, kd_ref, kdO_lst, kdO_tup, kit_NoneType_bool, kit_NoneType_int, kit_NoneType_str, kit_NoneType_list, kit_NoneType_tuple, kit_bool_bool, kit_bool_int, kit_bool_str, kit_bool_list, kit_bool_tuple, kit_int_bool, kit_int_int, kit_int_str, kit_int_list, kit_int_tuple, kit_str_bool, kit_str_int, kit_str_str, kit_str_list, kit_str_tuple, kit_list_bool, kit_list_int, kit_list_str, kit_list_list, kit_list_tuple, kit_tuple_bool, kit_tuple_int, kit_tuple_str, kit_tuple_list, kit_tuple_tuple, V.ty.injEq, rSortQ, rSlQ, rMulS, tJn, rAtX, rSlS, tSl, tPart, tNoPart, cut_lo2, cut_hi2, rInQ, gLq, gTq, gC_c, gNil, tChain, List.cons_append, List.nil_append, tBL, tBL0, tBad, tCr, tCe, tXF, cxH_K, HO.xd.injEq, rApp, rPopN, rRevL, seqAt_lst, seqAt_tup, at_0, at_1, at_2, at_3, at_4, ix_0, ix_1, ix_2, ix_3, ix_4, cx_K, upd_same, List.length_cons, List.length_nil, Nat.reduceAdd,  rEq, rNe, tRevL, V.int.injEq, V.bl.injEq, V.str.injEq, V.ref.injEq, List.cons.injEq, and_true, true_and, exists_and_left, exists_and_right, exists_eq_left, exists_eq_left', exists_eq_right, exists_eq_right', exists_const, Option.some.injEq, List.getElem?_cons_zero, List.getElem?_cons_succ, List.set_cons_zero, List.set_cons_succ, decide_eq_true_eq, decide_true, decide_false,  scal_ii, scal_bb, scal_ss, cmul_r, cdiv_l, cpow_12, cpow_18, cpow_40, HO.lst.injEq, HO.tup.injEq, upd_upd, Int.reduceToNat,  decide_not, Bool.not_eq_true', decide_eq_false_iff_not, if_true, if_false, Bool.false_eq_true, Bool.true_eq_false, reduceCtorEq, Int.reduceNeg, Nat.reduceLT, Int.reduceLT, Int.reducePow, gt_iff_lt]
      exact ⟨⟨_, rfl⟩, r1.st⟩
    obtain ⟨z, rfl, st⟩ := hI
    simp only [tSeq, tNext, tDrop, tRet, tRetN, tIfS, tAsg, gName, tAug, ipI, tVar, tC, tOp, tUn, rI, rI0, rU, tCons, tNil, tCB, tTup, tLst, tTest, tB, tAnd, tOr, tNot, tAndV, tOrV, tNotV, tIf, tCl, tCd, tCk, gSub, rPutL, rAtQ, rIntI, rLenQ, rLenS, rListQ, rTupL, rTupQ, rIsQ_c, kd_non, kd_bl, kd_int, kd_str, kd_ref, kdO_lst, kdO_tup, kit_NoneType_bool, kit_NoneType_int, kit_NoneType_str, kit_NoneType_list, kit_NoneType_tuple, kit_bool_bool, kit_bool_int, kit_bool_str, kit_bool_list, kit_bool_tuple, kit_int_bool, kit_int_int, kit_int_str, kit_int_list, kit_int_tuple, kit_str_bool, kit_str_int, kit_str_str, kit_str_list, kit_str_tuple, kit_list_bool, kit_list_int, kit_list_str, kit_list_list, kit_list_tuple, kit_tuple_bool, kit_tuple_int, kit_tuple_str, kit_tuple_list, kit_tuple_tuple, V.ty.injEq, rSortQ, rSlQ, rMulS, tJn, rAtX, rSlS, tSl, tPart, tNoPart, cut_lo2, cut_hi2, rInQ, gLq, gTq, gC_c, gNil, tChain, List.cons_append, List.nil_append, tBL, tBL0, tBad, tCr, tCe, tXF, cxH_K, HO.xd.injEq, rApp, rPopN, rRevL, seqAt_lst, seqAt_tup, at_0, at_1, at_2, at_3, at_4, ix_0, ix_1, ix_2, ix_3, ix_4, cx_K, upd_same, List.length_cons, List.length_nil, Nat.reduceAdd,  rEq, rNe, tRevL, V.int.injEq, V.bl.injEq, V.str.injEq, V.ref.injEq, List.cons.injEq, and_true, true_and, exists_and_left, exists_and_right, exists_eq_left, exists_eq_left', exists_eq_right, exists_eq_right', exists_const, Option.some.injEq, List.getElem?_cons_zero, List.getElem?_cons_succ, List.set_cons_zero, List.set_cons_succ, decide_eq_true_eq, decide_true, decide_false,  scal_ii, scal_bb, scal_ss, cmul_r, cdiv_l, cpow_12, cpow_18, cpow_40, HO.lst.injEq, HO.tup.injEq, upd_upd, Int.reduceToNat,  decide_not, Bool.not_eq_true', decide_eq_false_iff_not, if_true, if_false, Bool.false_eq_true, Bool.true_eq_false, reduceCtorEq, Int.reduceNeg, Nat.reduceLT, Int.reduceLT, Int.reducePow, gt_iff_lt]
    clear r0 st0 hs
    refine z_forR 4 (fun Q q => q) (by decide) (fun i σ' H' => ∃ z m : Option V, σ' = [some (.ref a), some (.ref S.a), z, m, none] ∧ Store S H') ⟨z, none, rfl, st⟩ (fun i σ' H' hi hI => ?_) (fun σ' H' hI => ?_)
    · obtain ⟨z, m, rfl, st⟩ := hI
      simp only [tSeq, tNext, tDrop, tRet, tRetN, tIfS, tAsg, gName, tAug, ipI, tVar, tC, tOp, tUn, rI, rI0, rU, tCons, tNil, tCB, tTup, tLst, tTest, tB, tAnd, tOr, tNot, tAndV, tOrV, tNotV, tIf, tCl, tCd, tCk, gSub, rPutL, rAtQ, rIntI, rLenQ, rLenS, rListQ, rTupL, rTupQ, rIsQ_c, kd_non, kd_bl, kd_int, kd_str, kd_ref, kdO_lst, kdO_tup, kit_NoneType_bool, kit_NoneType_int, kit_NoneType_str, kit_NoneType_list, kit_NoneType_tuple, kit_bool_bool, kit_bool_int, kit_bool_str, kit_bool_list, kit_bool_tuple, kit_int_bool, kit_int_int, kit_int_str, kit_int_list, kit_int_tuple, kit_str_bool, kit_str_int, kit_str_str, kit_str_list, kit_str_tuple, kit_list_bool, kit_list_int, kit_list_str, kit_list_list, kit_list_tuple, kit_tuple_bool, kit_tuple_int, kit_tuple_str, kit_tuple_list, kit_tuple_tuple, V.ty.injEq, rSortQ, rSlQ, rMulS, tJn, rAtX, rSlS, tSl, tPart, tNoPart, cut_lo2, cut_hi2, rInQ, gLq, gTq, gC_c, gNil, tChain, List.cons_append, List.nil_append, tBL, tBL0, tBad, tCr, tCe, tXF, cxH_K, HO.xd.injEq, rApp, rPopN, rRevL, seqAt_lst, seqAt_tup, at_0, at_1, at_2, at_3, at_4, ix_0, ix_1, ix_2, ix_3, ix_4, cx_K, upd_same, List.length_cons, List.length_nil, Nat.reduceAdd,  rEq, rNe, tRevL, V.int.injEq, V.bl.injEq, V.str.injEq, V.ref.injEq, List.cons.injEq, and_true, true_and, exists_and_left, exists_and_right, exists_eq_left, exists_eq_left', exists_eq_right, exists_eq_right', exists_const, Option.some.injEq, List.getElem?_cons_zero, List.getElem?_cons_succ, List.set_cons_zero, List.set_cons_succ, decide_eq_true_eq, decide_true, decide_false,  scal_ii, scal_bb, scal_ss, cmul_r, cdiv_l, cpow_12, cpow_18, cpow_40, HO.lst.injEq, HO.tup.injEq, upd_upd, Int.reduceToNat,  decide_not, Bool.not_eq_true', decide_eq_false_iff_not, if_true, if_false, Bool.false_eq_true, Bool.true_eq_false, reduceCtorEq, Int.reduceNeg, Nat.reduceLT, Int.reduceLT, Int.reducePow, gt_iff_lt]
      refine ⟨S, 10, rfl, st, by decide, fun d H1 r1 g1 => ⟨d, rfl, ?_⟩⟩
      have d0 := g1.1
      have d1 := g1.2
      refine ⟨S, 1 + d, rfl, r1.st, by omega, by omega, fun H2 r2 => ⟨true, rfl, ?_⟩⟩
      simp only [tSeq, tNext, tDrop, tRet, tRetN, tIfS, tAsg, gName, tAug, ipI, tVar, tC, tOp, tUn, rI, rI0, rU, tCons, tNil, tCB, tTup, tLst, tTest, tB, tAnd, tOr, tNot, tAndV, tOrV, tNotV, tIf, tCl, tCd, tCk, gSub, rPutL, rAtQ, rIntI, rLenQ, rLenS, rListQ, rTupL, rTupQ, rIsQ_c, kd_non, kd_bl, kd_int, kd_str, kd_ref, kdO_lst, kdO_tup, kit_NoneType_bool, kit_NoneType_int, kit_NoneType_str, kit_NoneType_list, kit_NoneType_tuple, kit_bool_bool, kit_bool_int, kit_bool_str, kit_bool_list, kit_bool_tuple, kit_int_bool, kit_int_int, kit_int_str, kit_int_list, kit_int_tuple, kit_str_bool, kit_str_int, kit_str_str, kit_str_list, kit_str_tuple, kit_list_bool, kit_list_int, kit_list_str, kit_list_list, kit_list_tuple, kit_tuple_bool, kit_tuple_int, kit_tuple_str, kit_tuple_list, kit_tuple_tuple, V.ty.injEq, rSortQ, rSlQ, rMulS, tJn, rAtX, rSlS, tSl, tPart, tNoPart, cut_lo2, cut_hi2, rInQ, gLq, gTq, gC_c, gNil, tChain, List.cons_append, List.nil_append, tBL, tBL0, tBad, tCr, tCe, tXF, cxH_K, HO.xd.injEq, rApp, rPopN, rRevL, seqAt_lst, seqAt_tup, at_0, at_1, at_2, at_3, at_4, ix_0, ix_1, ix_2, ix_3, ix_4, cx_K, upd_same, List.length_cons, List.length_nil, Nat.reduceAdd,  rEq, rNe, tRevL, V.int.injEq, V.bl.injEq, V.str.injEq, V.ref.injEq, List.cons.injEq, and_true, true_and, exists_and_left, exists_and_right, exists_eq_left, exists_eq_left', exists_eq_right, exists_eq_right', exists_const, Option.some.injEq, List.getElem?_cons_zero, List.getElem?_cons_succ, List.set_cons_zero, List.set_cons_succ, decide_eq_true_eq, decide_true, decide_false,  scal_ii, scal_bb, scal_ss, cmul_r, cdiv_l, cpow_12, cpow_18, cpow_40, HO.lst.injEq, HO.tup.injEq, upd_upd, Int.reduceToNat,  decide_not, Bool.not_eq_true', decide_eq_false_iff_not, if_true, if_false, Bool.false_eq_true, Bool.true_eq_false, reduceCtorEq, Int.reduceNeg, Nat.reduceLT, Int.reduceLT, Int.reducePow, gt_iff_lt]
      refine ⟨S, 1 + d, rfl, r2.st, by omega, by omega, fun H3 r3 => ⟨true, rfl, ?_⟩⟩
      simp only [tSeq, tNext, tDrop, tRet, tRetN, tIfS, tAsg, gName, tAug, ipI, tVar, tC, tOp, tUn, rI, rI0, rU, tCons, tNil, tCB, tTup, tLst, tTest, tB, tAnd, tOr, tNot, tAndV, tOrV, tNotV, tIf, tCl, tCd, tCk, gSub, rPutL, rAtQ, rIntI, rLenQ, rLenS, rListQ, rTupL, rTupQ, rIsQ_c, kd_non, kd_bl, kd_int, kd_str, kd_ref, kdO_lst, kdO_tup, kit_NoneType_bool, kit_NoneType_int, kit_NoneType_str, kit_NoneType_list, kit_NoneType_tuple, kit_bool_bool, kit_bool_int, kit_bool_str, kit_bool_list, kit_bool_tuple, kit_int_bool, kit_int_int, kit_int_str, kit_int_list, kit_int_tuple, kit_str_bool, kit_str_int, kit_str_str, kit_str_list, kit_str_tuple, kit_list_bool, kit_list_int, kit_list_str, kit_list_list, kit_list_tuple, kit_tuple_bool, kit_tuple_int, kit_tuple_str, kit_tuple_list, kit_tuple_tuple, V.ty.injEq, rSortQ, rSlQ, rMulS, tJn, rAtX, rSlS, tSl, tPart, tNoPart, cut_lo2, cut_hi2, rInQ, gLq, gTq, gC_c, gNil, tChain, List.cons_append, List.nil_append, tBL, tBL0, tBad, tCr, tCe, tXF, cxH_K, HO.xd.injEq, rApp, rPopN, rRevL, seqAt_lst, seqAt_tup, at_0, at_1, at_2, at_3, at_4, ix_0, ix_1, ix_2, ix_3, ix_4, cx_K, upd_same, List.length_cons, List.length_nil, Nat.reduceAdd,  rEq, rNe, tRevL, V.int.injEq, V.bl.injEq, V.str.injEq, V.ref.injEq, List.cons.injEq, and_true, true_and, exists_and_left, exists_and_right, exists_eq_left, exists_eq_left', exists_eq_right, exists_eq_right', exists_const, Option.some.injEq, List.getElem?_cons_zero, List.getElem?_cons_succ, List.set_cons_zero, List.set_cons_succ, decide_eq_true_eq, decide_true, decide_false,  scal_ii, scal_bb, scal_ss, cmul_r, cdiv_l, cpow_12, cpow_18, cpow_40, HO.lst.injEq, HO.tup.injEq, upd_upd, Int.reduceToNat,  decide_not, Bool.not_eq_true', decide_eq_false_iff_not, if_true, if_false, Bool.false_eq_true, Bool.true_eq_false, reduceCtorEq, Int.reduceNeg, Nat.reduceLT, Int.reduceLT, Int.reducePow, gt_iff_lt]
      exact ⟨⟨⟨_, rfl⟩, _, rfl⟩, r3.st⟩
    obtain ⟨z, m, rfl, st⟩ := hI
    simp only [tSeq, tNext, tDrop, tRet, tRetN, tIfS, tAsg, gName, tAug, ipI, tVar, tC, tOp, tUn, rI, rI0, rU, tCons, tNil, tCB, tTup, tLst, tTest, tB, tAnd, tOr, tNot, tAndV, tOrV, tNotV, tIf, tCl, tCd, tCk, gSub, rPutL, rAtQ, rIntI, rLenQ, rLenS, rListQ, rTupL, rTupQ, rIsQ_c, kd_non, kd_bl, kd_int, kd_str, kd_ref, kdO_lst, kdO_tup, kit_NoneType_bool, kit_NoneType_int, kit_NoneType_str, kit_NoneType_list, kit_NoneType_tuple, kit_bool_bool, kit_bool_int, kit_bool_str, kit_bool_list, kit_bool_tuple, kit_int_bool, kit_int_int, kit_int_str, kit_int_list, kit_int_tuple, kit_str_bool, kit_str_int, kit_str_str, kit_str_list, kit_str_tuple, kit_list_bool, kit_list_int, kit_list_str, kit_list_list, kit_list_tuple, kit_tuple_bool, kit_tuple_int, kit_tuple_str, kit_tuple_list, kit_tuple_tuple, V.ty.injEq, rSortQ, rSlQ, rMulS, tJn, rAtX, rSlS, tSl, tPart, tNoPart, cut_lo2, cut_hi2, rInQ, gLq, gTq, gC_c, gNil, tChain, List.cons_append, List.nil_append, tBL, tBL0, tBad, tCr, tCe, tXF, cxH_K, HO.xd.injEq, rApp, rPopN, rRevL, seqAt_lst, seqAt_tup, at_0, at_1, at_2, at_3, at_4, ix_0, ix_1, ix_2, ix_3, ix_4, cx_K, upd_same, List.length_cons, List.length_nil, Nat.reduceAdd,  rEq, rNe, tRevL, V.int.injEq, V.bl.injEq, V.str.injEq, V.ref.injEq, List.cons.injEq, and_true, true_and, exists_and_left, exists_and_right, exists_eq_left, exists_eq_left', exists_eq_right, exists_eq_right', exists_const, Option.some.injEq, List.getElem?_cons_zero, List.getElem?_cons_succ, List.set_cons_zero, List.set_cons_succ, decide_eq_true_eq, decide_true, decide_false,  scal_ii, scal_bb, scal_ss, cmul_r, cdiv_l, cpow_12, cpow_18, cpow_40, HO.lst.injEq, HO.tup.injEq, upd_upd, Int.reduceToNat,  decide_not, Bool.not_eq_true', decide_eq_false_iff_not, if_true, if_false, Bool.false_eq_true, Bool.true_eq_false, reduceCtorEq, Int.reduceNeg, Nat.reduceLT, Int.reduceLT, Int.reducePow, gt_iff_lt]
    refine forLE (fun p H1 => ∃ xs : List Str, H1 p = some (.lst (xs.map V.str)) ∧ ∀ x ∈ xs, Tx 1000 x) (fun X hX => ?_) (fun p H1 ⟨xs, hp, ht⟩ => ?_)
    · simp only [tSeq, tNext, tDrop, tRet, tRetN, tIfS, tAsg, gName, tAug, ipI, tVar, tC, tOp, tUn, rI, rI0, rU, tCons, tNil, tCB, tTup, tLst, tTest, tB, tAnd, tOr, tNot, tAndV, tOrV, tNotV, tIf, tCl, tCd, tCk, gSub, rPutL, rAtQ, rIntI, rLenQ, rLenS, rListQ, rTupL, rTupQ, rIsQ_c, kd_non, kd_bl, kd_int, kd_str, kd_ref, kdO_lst, kdO_tup, kit_NoneType_bool, kit_NoneType_int, kit_NoneType_str, kit_NoneType_list, kit_NoneType_tuple, kit_bool_bool, kit_bool_int, kit_bool_str, kit_bool_list, kit_bool_tuple, kit_int_bool, kit_int_int, kit_int_str, kit_int_list, kit_int_tuple, kit_str_bool, kit_str_int, kit_str_str, kit_str_list, kit_str_tuple, kit_list_bool, kit_list_int, kit_list_str, kit_list_list, kit_list_tuple, kit_tuple_bool, kit_tuple_int, kit_tuple_str, kit_tuple_list, kit_tuple_tuple, V.ty.injEq, rSortQ, rSlQ, rMulS, tJn, rAtX, rSlS, tSl, tPart, tNoPart, cut_lo2, cut_hi2, rInQ, gLq, gTq, gC_c, gNil, tChain, List.cons_append, List.nil_append, tBL, tBL0, tBad, tCr, tCe, tXF, cxH_K, HO.xd.injEq, rApp, rPopN, rRevL, seqAt_lst, seqAt_tup, at_0, at_1, at_2, at_3, at_4, ix_0, ix_1, ix_2, ix_3, ix_4, cx_K, upd_same, List.length_cons, List.length_nil, Nat.reduceAdd,  rEq, rNe, tRevL, V.int.injEq, V.bl.injEq, V.str.injEq, V.ref.injEq, List.cons.injEq, and_true, true_and, exists_and_left, exists_and_right, exists_eq_left, exists_eq_left', exists_eq_right, exists_eq_right', exists_const, Option.some.injEq, List.getElem?_cons_zero, List.getElem?_cons_succ, List.set_cons_zero, List.set_cons_succ, decide_eq_true_eq, decide_true, decide_false,  scal_ii, scal_bb, scal_ss, cmul_r, cdiv_l, cpow_12, cpow_18, cpow_40, HO.lst.injEq, HO.tup.injEq, upd_upd, Int.reduceToNat,  decide_not, Bool.not_eq_true', decide_eq_false_iff_not, if_true, if_false, Bool.false_eq_true, Bool.true_eq_false, reduceCtorEq, Int.reduceNeg, Nat.reduceLT, Int.reduceLT, Int.reducePow, gt_iff_lt]
      exact ⟨S, rfl, st, fun p xs H1 r1 n1 h1 l1 t1 => hX p H1 ⟨xs, h1, t1⟩⟩
    refine z_forL p (xs.map V.str) (fun Q q => q) (SqL.of hp) (fun i σ' H' => ∃ y : Option V, σ' = [some (.ref a), some (.ref S.a), z, m, y] ∧ Same H1 H') ⟨none, rfl, fun _ _ e => e⟩ (fun i σ' H' hi hI => ?_) (fun i v σ' H' hi hI => ?_) (fun σ' H' hI => ?_)
    · obtain ⟨y, rfl, sm⟩ := hI
      exact SqL.of (sm _ _ hp)
    · obtain ⟨y, rfl, sm⟩ := hI
      rw [List.getElem?_map] at hi
      obtain ⟨x, hx, rfl⟩ := Option.map_eq_some_iff.mp hi
      simp only [tSeq, tNext, tDrop, tRet, tRetN, tIfS, tAsg, gName, tAug, ipI, tVar, tC, tOp, tUn, rI, rI0, rU, tCons, tNil, tCB, tTup, tLst, tTest, tB, tAnd, tOr, tNot, tAndV, tOrV, tNotV, tIf, tCl, tCd, tCk, gSub, rPutL, rAtQ, rIntI, rLenQ, rLenS, rListQ, rTupL, rTupQ, rIsQ_c, kd_non, kd_bl, kd_int, kd_str, kd_ref, kdO_lst, kdO_tup, kit_NoneType_bool, kit_NoneType_int, kit_NoneType_str, kit_NoneType_list, kit_NoneType_tuple, kit_bool_bool, kit_bool_int, kit_bool_str, kit_bool_list, kit_bool_tuple, kit_int_bool, kit_int_int, kit_int_str, kit_int_list, kit_int_tuple, kit_str_bool, kit_str_int, kit_str_str, kit_str_list, kit_str_tuple, kit_list_bool, kit_list_int, kit_list_str, kit_list_list, kit_list_tuple, kit_tuple_bool, kit_tuple_int, kit_tuple_str, kit_tuple_list, kit_tuple_tuple, V.ty.injEq, rSortQ, rSlQ, rMulS, tJn, rAtX, rSlS, tSl, tPart, tNoPart, cut_lo2, cut_hi2, rInQ, gLq, gTq, gC_c, gNil, tChain, List.cons_append, List.nil_append, tBL, tBL0, tBad, tCr, tCe, tXF, cxH_K, HO.xd.injEq, rApp, rPopN, rRevL, seqAt_lst, seqAt_tup, at_0, at_1, at_2, at_3, at_4, ix_0, ix_1, ix_2, ix_3, ix_4, cx_K, upd_same, List.length_cons, List.length_nil, Nat.reduceAdd,  rEq, rNe, tRevL, V.int.injEq, V.bl.injEq, V.str.injEq, V.ref.injEq, List.cons.injEq, and_true, true_and, exists_and_left, exists_and_right, exists_eq_left, exists_eq_left', exists_eq_right, exists_eq_right', exists_const, Option.some.injEq, List.getElem?_cons_zero, List.getElem?_cons_succ, List.set_cons_zero, List.set_cons_succ, decide_eq_true_eq, decide_true, decide_false,  scal_ii, scal_bb, scal_ss, cmul_r, cdiv_l, cpow_12, cpow_18, cpow_40, HO.lst.injEq, HO.tup.injEq, upd_upd, Int.reduceToNat,  decide_not, Bool.not_eq_true', decide_eq_false_iff_not, if_true, if_false, Bool.false_eq_true, Bool.true_eq_false, reduceCtorEq, Int.reduceNeg, Nat.reduceLT, Int.reduceLT, Int.reducePow, gt_iff_lt]
      refine ⟨x, rfl, ht x (List.mem_of_getElem? hx), fun H2 r2 => ⟨true, rfl, ?_⟩⟩
      simp only [tSeq, tNext, tDrop, tRet, tRetN, tIfS, tAsg, gName, tAug, ipI, tVar, tC, tOp, tUn, rI, rI0, rU, tCons, tNil, tCB, tTup, tLst, tTest, tB, tAnd, tOr, tNot, tAndV, tOrV, tNotV, tIf, tCl, tCd, tCk, gSub, rPutL, rAtQ, rIntI, rLenQ, rLenS, rListQ, rTupL, rTupQ, rIsQ_c, kd_non, kd_bl, kd_int, kd_str, kd_ref, kdO_lst, kdO_tup, kit_NoneType_bool, kit_NoneType_int, kit_NoneType_str, kit_NoneType_list, kit_NoneType_tuple, kit_bool_bool, kit_bool_int, kit_bool_str, kit_bool_list, kit_bool_tuple, kit_int_bool, kit_int_int, kit_int_str, kit_int_list, kit_int_tuple, kit_str_bool, kit_str_int, kit_str_str, kit_str_list, kit_str_tuple, kit_list_bool, kit_list_int, kit_list_str, kit_list_list, kit_list_tuple, kit_tuple_bool, kit_tuple_int, kit_tuple_str, kit_tuple_list, kit_tuple_tuple, V.ty.injEq, rSortQ, rSlQ, rMulS, tJn, rAtX, rSlS, tSl, tPart, tNoPart, cut_lo2, cut_hi2, rInQ, gLq, gTq, gC_c, gNil, tChain, List.cons_append, List.nil_append, tBL, tBL0, tBad, tCr, tCe, tXF, cxH_K, HO.xd.injEq, rApp, rPopN, rRevL, seqAt_lst, seqAt_tup, at_0, at_1, at_2, at_3, at_4, ix_0, ix_1, ix_2, ix_3, ix_4, cx_K, upd_same, List.length_cons, List.length_nil, Nat.reduceAdd,  rEq, rNe, tRevL, V.int.injEq, V.bl.injEq, V.str.injEq, V.ref.injEq, List.cons.injEq, and_true, true_and, exists_and_left, exists_and_right, exists_eq_left, exists_eq_left', exists_eq_right, exists_eq_right', exists_const, Option.some.injEq, List.getElem?_cons_zero, List.getElem?_cons_succ, List.set_cons_zero, List.set_cons_succ, decide_eq_true_eq, decide_true, decide_false,  scal_ii, scal_bb, scal_ss, cmul_r, cdiv_l, cpow_12, cpow_18, cpow_40, HO.lst.injEq, HO.tup.injEq, upd_upd, Int.reduceToNat,  decide_not, Bool.not_eq_true', decide_eq_false_iff_not, if_true, if_false, Bool.false_eq_true, Bool.true_eq_false, reduceCtorEq, Int.reduceNeg, Nat.reduceLT, Int.reduceLT, Int.reducePow, gt_iff_lt]
      exact ⟨⟨_, rfl⟩, fun b o e => r2 b o (sm b o e)⟩
    · obtain ⟨y, rfl, sm⟩ := hI
      simp only [tSeq, tNext, tDrop, tRet, tRetN, tIfS, tAsg, gName, tAug, ipI, tVar, tC, tOp, tUn, rI, rI0, rU, tCons, tNil, tCB, tTup, tLst, tTest, tB, tAnd, tOr, tNot, tAndV, tOrV, tNotV, tIf, tCl, tCd, tCk, gSub, rPutL, rAtQ, rIntI, rLenQ, rLenS, rListQ, rTupL, rTupQ, rIsQ_c, kd_non, kd_bl, kd_int, kd_str, kd_ref, kdO_lst, kdO_tup, kit_NoneType_bool, kit_NoneType_int, kit_NoneType_str, kit_NoneType_list, kit_NoneType_tuple, kit_bool_bool, kit_bool_int, kit_bool_str, kit_bool_list, kit_bool_tuple, kit_int_bool, kit_int_int, kit_int_str, kit_int_list, kit_int_tuple, kit_str_bool, kit_str_int, kit_str_str, kit_str_list, kit_str_tuple, kit_list_bool, kit_list_int, kit_list_str, kit_list_list, kit_list_tuple, kit_tuple_bool, kit_tuple_int, kit_tuple_str, kit_tuple_list, kit_tuple_tuple, V.ty.injEq, rSortQ, rSlQ, rMulS, tJn, rAtX, rSlS, tSl, tPart, tNoPart, cut_lo2, cut_hi2, rInQ, gLq, gTq, gC_c, gNil, tChain, List.cons_append, List.nil_append, tBL, tBL0, tBad, tCr, tCe, tXF, cxH_K, HO.xd.injEq, rApp, rPopN, rRevL, seqAt_lst, seqAt_tup, at_0, at_1, at_2, at_3, at_4, ix_0, ix_1, ix_2, ix_3, ix_4, cx_K, upd_same, List.length_cons, List.length_nil, Nat.reduceAdd,  rEq, rNe, tRevL, V.int.injEq, V.bl.injEq, V.str.injEq, V.ref.injEq, List.cons.injEq, and_true, true_and, exists_and_left, exists_and_right, exists_eq_left, exists_eq_left', exists_eq_right, exists_eq_right', exists_const, Option.some.injEq, List.getElem?_cons_zero, List.getElem?_cons_succ, List.set_cons_zero, List.set_cons_succ, decide_eq_true_eq, decide_true, decide_false,  scal_ii, scal_bb, scal_ss, cmul_r, cdiv_l, cpow_12, cpow_18, cpow_40, HO.lst.injEq, HO.tup.injEq, upd_upd, Int.reduceToNat,  decide_not, Bool.not_eq_true', decide_eq_false_iff_not, if_true, if_false, Bool.false_eq_true, Bool.true_eq_false, reduceCtorEq, Int.reduceNeg, Nat.reduceLT, Int.reduceLT, Int.reducePow, gt_iff_lt]
      exact q H'
end
end Z
set_option Elab.async false
set_option linter.all false
set_option maxRecDepth 100000
set_option maxHeartbeats 4000000
namespace Z
open PySem PySem.Spec PyProof.Rows L2
section
variable {K : PySem.W.Frag} {h : Heap} {mg : Str → Option Value}
theorem dn_of {x : Str} {st : Stmt} (X : K.In h) (G : h.Ns mainGlobals mg) {f : Addr} {oc : Value} {od an : Option Addr} {osl : Array (Option Value)} {kV doc pm cdv ct : Value} (a : PySem.W.nsIn K mainGlobals x = some (some (.ref f)))
    (l : K.lookup f = some ⟨oc, od, .func (PySem.W.fnOf x x (defArgs st) (defBody st) (defScope st) .none kV doc pm an cdv ct), osl⟩) (c : PySem.W.codeIn K cdv x = true) (k : PySem.W.keepIn K (.ref f) = true) : Dn K mg x st :=
  ⟨f, _, fun_mk l c k, PySem.W.mg_of X G a⟩
theorem dk_of {x q : Str} {st : Stmt} {v : V} (X : K.In h) (G : h.Ns mainGlobals mg) {f DD : Addr} {oc u : Value} {od an : Option Addr} {osl : Array (Option Value)} {doc pm cdv ct : Value} (a : PySem.W.nsIn K mainGlobals x = some (some (.ref f)))
    (l : K.lookup f = some ⟨oc, od, .func (PySem.W.fnOf x x (defArgs st) (defBody st) (defScope st) .none (.ref DD) doc pm an cdv ct), osl⟩) (c : PySem.W.codeIn K cdv x = true) (k : PySem.W.keepIn K (.ref f) = true) (e : PySem.W.nsIn K DD q = some (some u)) (r : RelV v u) : Dk K mg x st [(q, v)] :=
  ⟨f, _, ⟨⟨oc, od, .none, .ref DD, doc, pm, an, cdv, ct, osl, rfl, l, c, .inl ⟨rfl, rfl⟩, .inr ⟨DD, rfl, fun p hp => by
    rw [List.mem_singleton.mp hp]
    exact ⟨u, e, r⟩⟩⟩, k⟩, PySem.W.mg_of X G a⟩
/-- a class of errors that C's instances are not of -/
def One (K : PySem.W.Frag) (mg : Str → Option Value) (C : Addr) (n : Str) : Prop := ∃ d : Addr, mg n = some (.ref d) ∧ PySem.W.kitOne K (.ref C) (.ref d) = some false
theorem kit_cls {C d : Addr} {b : Bool} (t : PySem.W.typeIn K (.ref d) = some (.type "type")) (hd : PySem.W.hasDictIn K d = true) (s : PySem.W.subIn K (.ref C) (.ref d) = some b) (n : (Value.ref C == Value.ref d) = false) : PySem.W.kitOne K (.ref C) (.ref d) = some b := by
  obtain ⟨cd, hc, _⟩ := PySem.W.any_some hd
  have e2 : ((PySem.W.clsIn K d).isSome && PySem.W.typeIn K (.ref d) == some (.type "type")) = true := by rw [hc, t] <;> rfl
  show (if (Value.ref C == Value.ref d) = true then some true else if ((PySem.W.clsIn K d).isSome && PySem.W.typeIn K (.ref d) == some (.type "type")) = true then PySem.W.subIn K (.ref C) (.ref d) else none) = some b
  rw [if_neg (by rw [n]; exact Bool.false_ne_true), if_pos e2]
  exact s
theorem one_mk {C d : Addr} {n : Str} (X : K.In h) (G : h.Ns mainGlobals mg) (a : PySem.W.nsIn K mainGlobals n = some (some (.ref d))) (t : PySem.W.typeIn K (.ref d) = some (.type "type")) (hd : PySem.W.hasDictIn K d = true) (s : PySem.W.subIn K (.ref C) (.ref d) = some false)
    (ne : (Value.ref C == Value.ref d) = false) : One K mg C n := ⟨d, PySem.W.mg_of X G a, kit_cls t hd s ne⟩
theorem all_cons {α : Type} {F : α → Prop} {a : α} {l : List α} (h : F a) (t : ∀ b ∈ l, F b) : ∀ b ∈ a :: l, F b := fun b hb => (List.mem_cons.mp hb).elim (fun e => e ▸ h) (t b)
theorem all_none {α : Type} {F : α → Prop} : ∀ b ∈ ([] : List α), F b := fun b hb => by cases hb
theorem oth_of {C : Addr} (a : ∀ n ∈ otherNames, One K mg C n) (ve : PySem.W.kitOne K (.ref C) (.type "ValueError") = some true) : Oth K mg C := by
  have z : ∀ n : Str, ∃ d : Addr, n ∈ otherNames → mg n = some (.ref d) ∧ PySem.W.kitOne K (.ref C) (.ref d) = some false := fun n => by
    by_cases hn : n ∈ otherNames
    · obtain ⟨d, hd⟩ := a n hn
      exact ⟨d, fun _ => hd⟩
    · exact ⟨0, fun h => absurd h hn⟩
  obtain ⟨f, hf⟩ := Classical.axiomOfChoice z
  exact ⟨⟨f, hf⟩, ve⟩
theorem kit_ve {C : Addr} {T : String} (m : PySem.W.kitMeta T = true) (s : PySem.W.subIn K (.ref C) (.type T) = some true) : PySem.W.kitOne K (.ref C) (.type T) = some true := by
  show (if (Value.ref C == Value.type T) = true then some true else if PySem.W.kitMeta T = true then PySem.W.subIn K (.ref C) (.type T) else none) = some true
  rw [if_neg (by simp), if_pos m]
  exact s
theorem base_mk {x : Str} {B : Addr} {mc : Value} (X : K.In h) (G : h.Ns mainGlobals mg) (a : PySem.W.nsIn K mainGlobals x = some (some (.ref B))) (s : PySem.W.specialIn K (.ref B) "__getattribute__" = some (some (.builtin "type.__getattribute__"))) (r : PySem.W.readsIn K B mc = true)
    (f : PySem.W.findCls K (.ref B) mc "__init__" = some (.val (.builtin "ValueError.__init__"))) : BaseC K mg x := ⟨B, mc, PySem.W.mg_of X G a, s, r, f⟩
/-- what the class BadName says of itself -/
structure BadC (K : PySem.W.Frag) (mg : Str → Option Value) (n f : Str) (C : Addr) (qual : Str) (st : Stmt) : Prop where
  nm : mg n = some (.ref C)
  ox : OexC K C
  ini : ∃ (fI : Addr) (fd : FuncData), PySem.W.findIn K (.ref C) "__init__" = some (some (.ref fI)) ∧ PySem.W.typeIn K (.ref fI) = some (.type "function") ∧ Fun K "__init__" qual st fI fd
  no : PySem.W.findIn K (.ref C) f = some none
  ex : ExcC K C
  xf : XfC K C
theorem badC_mk {n f qual : Str} {st : Stmt} {C fI : Addr} {nm q : Str} {N : Addr} {bs bm : List Value} {sn : List Str} {sub : List Value} {ab : Bool} {col : Option Bool} {dd : Option Addr} {k0 k1 k2 k3 k5 : Option Value}
    {oc : Value} {od an : Option Addr} {osl : Array (Option Value)} {kV doc pm cdv ct : Value} (X : K.In h) (G : h.Ns mainGlobals mg) (a : PySem.W.nsIn K mainGlobals n = some (some (.ref C)))
    (lC : K.lookup C = some (excClassObj nm q C N bs bm true sn sub ab col dd k0 k1 k2 k3 k5 "ValueError.__new__")) (rv : PySem.HandSPX.refsVE bm = true) (sa : PySem.W.findIn K (.ref C) "__setattr__" = some (some (.builtin "object.__setattr__")))
    (exC : PySem.W.subIn K (.ref C) (.type "BaseException") = some true) (tyC : PySem.W.typeIn K (.ref C) = some (.type "type")) (kC : PySem.W.keepIn K (.ref C) = true)
    (iC : PySem.W.findIn K (.ref C) "__init__" = some (some (.ref fI))) (tI : PySem.W.typeIn K (.ref fI) = some (.type "function"))
    (lI : K.lookup fI = some ⟨oc, od, .func (PySem.W.fnOf "__init__" qual (defArgs st) (defBody st) (defScope st) .none kV doc pm an cdv ct), osl⟩) (cI : PySem.W.codeIn K cdv qual = true) (kI : PySem.W.keepIn K (.ref fI) = true)
    (no : PySem.W.findIn K (.ref C) f = some none) (ga : PySem.W.findIn K (.ref C) "__getattribute__" = some (some (.builtin "BaseException.__getattribute__"))) (gg : PySem.W.findIn K (.ref C) "__getattr__" = some none) (hd : PySem.W.hasDictIn K C = true)
    (ha : PySem.W.findIn K (.ref C) "__class__" = some (some (.builtin "object.__class__"))) (hn : PySem.W.specialIn K (.builtin "object.__class__") "__get__" = some (some (.builtin "getset_descriptor.__get__")))
    (ht : PySem.W.takesIn K (.builtin "object.__class__") = some true) (hm : PySem.W.mroIn K C (.type "object") = some true) : BadC K mg n f C qual st :=
  ⟨PySem.W.mg_of X G a, ⟨⟨nm, q, N, bs, bm, sn, sub, ab, col, dd, k0, k1, k2, k3, k5, lC, rv⟩, sa, exC, tyC, kC⟩, ⟨fI, _, iC, tI, fun_mk lI cI kI⟩, no, ⟨ga, gg, exC, hd, ha, hn, ht, hm⟩, ⟨ga, gg, exC, hd⟩⟩
theorem glob_of {x : Str} {v : V} {u : Value} (X : K.In h) (G : h.Ns mainGlobals mg) (a : PySem.W.nsIn K mainGlobals x = some (some u)) (r : RelV v u) : ∃ u, mg x = some u ∧ RelV v u := ⟨u, PySem.W.mg_of X G a, r⟩
theorem fin_mk {P : Program} {w : World} {fa HE C : Addr} (X : K.In h) (G : h.Ns mainGlobals mg) (hfa : mg "law" = some (.ref fa)) (B : Blt mg)
    (D_is_name : Dn K mg "is_name" s_is_name)
    (D_check_name : Dn K mg "check_name" s_check_name)
    (D_span : Dn K mg "span" s_span)
    (D_in_span : Dn K mg "in_span" s_in_span)
    (D_crossed : Dn K mg "crossed" s_crossed)
    (D_law_store : Dn K mg "_law_store" s_law_store)
    (D_law_mixed : Dn K mg "_law_mixed" s_law_mixed)
    (D_law_take : Dn K mg "_law_take" s_law_take)
    (D_law_number : Dn K mg "_law_number" s_law_number)
    (D_law_whole : Dn K mg "_law_whole" s_law_whole)
    (D_law_turns : Dn K mg "_law_turns" s_law_turns)
    (D_law_shuffled : Dn K mg "_law_shuffled" s_law_shuffled)
    (D_law_row : Dn K mg "_law_row" s_law_row)
    (D_law_same : Dn K mg "_law_same" s_law_same)
    (D_law_copy : Dn K mg "_law_copy" s_law_copy)
    (D_law_spoil : Dn K mg "_law_spoil" s_law_spoil)
    (D_law_is_integer : Dn K mg "_law_is_integer" s_law_is_integer)
    (D_law_rises : Dn K mg "_law_rises" s_law_rises)
    (D_law_sign : Dn K mg "_law_sign" s_law_sign)
    (D_law_text : Dn K mg "_law_text" s_law_text)
    (D_law_name : Dn K mg "_law_name" s_law_name)
    (D_law_no_name : Dn K mg "_law_no_name" s_law_no_name)
    (D_law_is_name : Dn K mg "_law_is_name" s_law_is_name)
    (D_law_error : Dn K mg "_law_error" s_law_error)
    (D_law_checked : Dn K mg "_law_checked" s_law_checked)
    (D_law_word_right : Dn K mg "_law_word_right" s_law_word_right)
    (D_law_words : Dn K mg "_law_words" s_law_words)
    (D_law_steps_right : Dn K mg "_law_steps_right" s_law_steps_right)
    (D_law_span_right : Dn K mg "_law_span_right" s_law_span_right)
    (D_law_crossed_right : Dn K mg "_law_crossed_right" s_law_crossed_right)
    (D_step : Dk K mg "step" s_step [("by", .int 1)])
    {f2 : Addr} {oc2 : Value} {od2 an2 : Option Addr} {sl2 : Array (Option Value)} {kV2 dc2 pm2 cd2 ct2 : Value}
    (aL : PySem.W.nsIn K mainGlobals "law" = some (some (.ref f2))) (lL : K.lookup f2 = some ⟨oc2, od2, .func (PySem.W.fnOf "law" "law" (defArgs s_law) (defBody s_law) (defScope s_law) .none kV2 dc2 pm2 an2 cd2 ct2), sl2⟩) (cL : PySem.W.codeIn K cd2 "law" = true) (kL : PySem.W.keepIn K (.ref f2) = true)
    (bc : BadC K mg "BadName" "name" C "BadName.__init__" s_BadName___init__) (bs_HedgeError : BaseC K mg "HedgeError") (m_HedgeError : mg "HedgeError" = some (.ref HE)) (sub : PySem.W.exmOne K (.ref C) (.ref HE) = some true) (ve : PySem.W.kitOne K (.ref C) (.type "ValueError") = some true)
    (g1 : ∃ u, mg "LETTERS" = some u ∧ RelV (.str (Str.ofString "abcdefghijklmnopqrstuvwxyz")) u) (g2 : ∃ u, mg "DIGITS" = some u ∧ RelV (.str (Str.ofString "0123456789")) u) (g3 : ∃ u, mg "LONGEST_NAME" = some u ∧ RelV (.int 8) u)
    (o_AtStrife : One K mg C "AtStrife")
    (o_BadParting : One K mg C "BadParting")
    (o_BadRow : One K mg C "BadRow")
    (o_BadSize : One K mg C "BadSize")
    (o_BadSplit : One K mg C "BadSplit")
    (o_BadText : One K mg C "BadText")
    (o_CrossedField : One K mg C "CrossedField")
    (o_Crossing : One K mg C "Crossing")
    (o_EmptyBook : One K mg C "EmptyBook")
    (o_EndsDiffer : One K mg C "EndsDiffer")
    (o_NoRun : One K mg C "NoRun")
    (o_NoStrife : One K mg C "NoStrife")
    (o_NotWithin : One K mg C "NotWithin")
    (o_OrderRefused : One K mg C "OrderRefused")
    (o_OtherPond : One K mg C "OtherPond")
    (o_OutOfRange : One K mg C "OutOfRange")
    (o_RepeatedName : One K mg C "RepeatedName")
    (o_SameField : One K mg C "SameField")
    (o_SameLot : One K mg C "SameLot")
    (o_StepRefused : One K mg C "StepRefused")
    (o_Stuck : One K mg C "Stuck")
    (o_TooMany : One K mg C "TooMany")
    (o_Ungranted : One K mg C "Ungranted")
    (o_UnknownLot : One K mg C "UnknownLot") :
    ∃ fd : FuncData, (∀ (s : Shared) (v : Value), BindsTo s fd ⟨[v], []⟩ [("script", v)]) ∧ ∀ base : Heap, K.In base → base.Ns mainGlobals mg → FnOk P w K mg base CX0 7 fa fd ["script"] (sp_top K) := by
  have e := hfa.symm.trans (PySem.W.mg_of X G aL)
  cases e
  have oth : Oth K mg C := oth_of (all_cons o_AtStrife <| all_cons o_BadParting <| all_cons o_BadRow <| all_cons o_BadSize <| all_cons o_BadSplit <| all_cons o_BadText <| all_cons o_CrossedField <| all_cons o_Crossing <| all_cons o_EmptyBook <| all_cons o_EndsDiffer <| all_cons o_NoRun <| all_cons o_NoStrife <| all_cons o_NotWithin <| all_cons o_OrderRefused <| all_cons o_OtherPond <| all_cons o_OutOfRange <| all_cons o_RepeatedName <| all_cons o_SameField <| all_cons o_SameLot <| all_cons o_StepRefused <| all_cons o_Stuck <| all_cons o_TooMany <| all_cons o_Ungranted <| all_cons o_UnknownLot <| all_none) ve
  refine ⟨PySem.W.fnOf "law" "law" (defArgs s_law) (defBody s_law) (defScope s_law) .none kV2 dc2 pm2 an2 cd2 ct2, fun s v => .of_eq rfl, fun base _ _ => ?_⟩
  obtain ⟨fI, fdI, i1, i2, FI⟩ := bc.ini
  have bad : Bad P w K mg base "BadName" "name" C := ⟨bc.nm, bc.ox, ⟨fI, fdI, _, i1, i2, fn_BadName bs_HedgeError FI, FI.binds (ps := ["self", "name"]) fun _ _ _ _ _ _ us hl => match us, hl with | [_, _], _ => rfl⟩, bc.no, bc.ex, bc.xf⟩
  have c_mixed : Cl P w K mg base 1 "_law_mixed" sp_mixed := ok_mixed D_law_mixed B
  have c_take := ok_take D_law_take B c_mixed
  have c_number := ok_number D_law_number c_take
  have c_whole := ok_whole D_law_whole c_take
  have c_turns := ok_turns D_law_turns c_take
  have c_shuffled := ok_shuffled D_law_shuffled B c_take
  have c_row := ok_row D_law_row B c_take
  have f_step : Fk P w K mg base 1 "step" s_step [("by", .int 1)] ["size", "at", "by"] sp_step := fk_step D_step
  have cd_step := cd_of_step f_step
  have ck_step := ck_of_step f_step
  have c_in_span : Cl P w K mg base 1 "in_span" sp_in_span := ok_in_span D_in_span
  have c_span := ok_span D_span B ck_step
  have ck_span := ck_span D_span B ck_step
  have c_crossed : Cl P w K mg base 1 "crossed" sp_crossed := ok_crossed D_crossed B
  have c_rises : Cl P w K mg base 1 "_law_rises" sp_rises := ok_rises D_law_rises B
  have c_is_integer : Cl P w K mg base 1 "_law_is_integer" sp_is_integer := ok_is_integer D_law_is_integer B
  have c_same : ∀ n, Cl P w K mg base n "_law_same" (sp_same n) := ok_same D_law_same B
  have c_copy : ∀ n, Cl P w K mg base n "_law_copy" (sp_copy n) := ok_copy D_law_copy B
  have c_spoil : ∀ n, Cl P w K mg base n "_law_spoil" (sp_spoil n) := ok_spoil D_law_spoil B
  have c_crossed_right := ok_crossed_right D_law_crossed_right B c_take c_whole c_rises c_row c_shuffled (c_copy 4) (c_same 5) c_crossed
  have c_steps_right := ok_steps_right D_law_steps_right B c_turns ck_step cd_step c_is_integer (c_same 5)
  have c_span_right := ok_span_right D_law_span_right B c_take c_span ck_span c_in_span (c_same 5) (c_spoil 5)
  have c_sign := ok_sign D_law_sign c_take
  have c_text := ok_text D_law_text B c_take c_sign c_number
  have c_name := ok_name D_law_name B c_take c_number
  have c_no_name := ok_no_name D_law_no_name B c_take c_name
  have c_words := ok_words D_law_words B c_take c_name c_no_name c_text c_shuffled
  have c_is_name : Cl P w K mg base 1 "is_name" sp_is_name := ok_is_name D_is_name B g1 g2 g3
  have c_law_is_name : Cl P w K mg base 1 "_law_is_name" sp_law_is_name := ok_law_is_name D_law_is_name B
  have c_check_name := ok_check_name D_check_name bad c_is_name
  have c_error := ok_law_error D_law_error B bad oth
  have c_checked := ok_checked D_law_checked m_HedgeError sub c_check_name c_error
  have c_word := ok_word D_law_word_right c_is_name c_law_is_name c_checked (c_same 5)
  have c_store : Cl P w K mg base 1 "_law_store" (sp_store K) := ok_store D_law_store B
  exact fn_law (fun_mk lL cL kL) B c_store c_take c_crossed_right c_steps_right c_span_right c_words c_word
end
end Z
set_option Elab.async false
set_option linter.all false
set_option maxRecDepth 100000
open PySem PySem.W PyProof.Rows
set_option maxHeartbeats 0 in
theorem PySem.Challenge.cw_hedgejoin_k00_names_and_positions_holds : PySem.Challenge.rw_hedgejoin_k00_names_and_positions.Holds := by
  w_on; o_law; k_head; (case hw => w_witness2)
  k_fill
  refine L2.walk_of (l := PySem.Challenge.rw_hedgejoin_k00_names_and_positions) (n := 63) (k := 7) (x := "script") (CX := fun _ => L2.CX0) (sp := fun w => Z.sp_top _) rfl (by decide) rfl ⟨rfl, by decide, by decide⟩ (fun w h Y => PySem.W.kIn_of Y) ?F (fun _ _ a ns hl _ hS => ⟨a, ns, rfl, hS, hl, fun _ => rfl⟩) (fun _ _ _ _ _ h => h)
  case F =>
    intro w mg fa h KX G hmg
    refine' Z.fin_mk KX G hmg ?B ?D_is_name ?D_check_name ?D_span ?D_in_span ?D_crossed ?D_law_store ?D_law_mixed ?D_law_take ?D_law_number ?D_law_whole ?D_law_turns ?D_law_shuffled ?D_law_row ?D_law_same ?D_law_copy ?D_law_spoil ?D_law_is_integer ?D_law_rises ?D_law_sign ?D_law_text ?D_law_name ?D_law_no_name ?D_law_is_name ?D_law_error ?D_law_checked ?D_law_word_right ?D_law_words ?D_law_steps_right ?D_law_span_right ?D_law_crossed_right ?D_step ?aL ?lL ?cL ?kL ?bc ?bs ?mH ?sub ?ve ?g1 ?g2 ?g3 ?o_AtStrife ?o_BadParting ?o_BadRow ?o_BadSize ?o_BadSplit ?o_BadText ?o_CrossedField ?o_Crossing ?o_EmptyBook ?o_EndsDiffer ?o_NoRun ?o_NoStrife ?o_NotWithin ?o_OrderRefused ?o_OtherPond ?o_OutOfRange ?o_RepeatedName ?o_SameField ?o_SameLot ?o_StepRefused ?o_Stuck ?o_TooMany ?o_Ungranted ?o_UnknownLot
    (case B => refine' ⟨PySem.W.mg_none_of KX G ?z_len, PySem.W.mg_none_of KX G ?z_list, PySem.W.mg_none_of KX G ?z_tuple, PySem.W.mg_none_of KX G ?z_int, PySem.W.mg_none_of KX G ?z_range, PySem.W.mg_none_of KX G ?z_isinstance, PySem.W.mg_none_of KX G ?z_sorted, PySem.W.mg_none_of KX G ?z_all, PySem.W.mg_none_of KX G ?z_any, PySem.W.mg_none_of KX G ?z_str, PySem.W.mg_none_of KX G ?z_bool, PySem.W.mg_none_of KX G ?z_enumerate, PySem.W.mg_none_of KX G ?z_zip, PySem.W.mg_none_of KX G ?z_max, PySem.W.mg_none_of KX G ?z_min, PySem.W.mg_none_of KX G ?z_set, PySem.W.mg_none_of KX G ?z_ValueError⟩ <;> k_is)
    (case D_is_name => (refine' Z.dn_of KX G ?a ?l ?c ?k; (case a => k_is); (case l => k_is); (case c => k_is); (case k => k_is)))
    (case D_check_name => (refine' Z.dn_of KX G ?a ?l ?c ?k; (case a => k_is); (case l => k_is); (case c => k_is); (case k => k_is)))
    (case D_span => (refine' Z.dn_of KX G ?a ?l ?c ?k; (case a => k_is); (case l => k_is); (case c => k_is); (case k => k_is)))
    (case D_in_span => (refine' Z.dn_of KX G ?a ?l ?c ?k; (case a => k_is); (case l => k_is); (case c => k_is); (case k => k_is)))
    (case D_crossed => (refine' Z.dn_of KX G ?a ?l ?c ?k; (case a => k_is); (case l => k_is); (case c => k_is); (case k => k_is)))
    (case D_law_store => (refine' Z.dn_of KX G ?a ?l ?c ?k; (case a => k_is); (case l => k_is); (case c => k_is); (case k => k_is)))
    (case D_law_mixed => (refine' Z.dn_of KX G ?a ?l ?c ?k; (case a => k_is); (case l => k_is); (case c => k_is); (case k => k_is)))
    (case D_law_take => (refine' Z.dn_of KX G ?a ?l ?c ?k; (case a => k_is); (case l => k_is); (case c => k_is); (case k => k_is)))
    (case D_law_number => (refine' Z.dn_of KX G ?a ?l ?c ?k; (case a => k_is); (case l => k_is); (case c => k_is); (case k => k_is)))
    (case D_law_whole => (refine' Z.dn_of KX G ?a ?l ?c ?k; (case a => k_is); (case l => k_is); (case c => k_is); (case k => k_is)))
    (case D_law_turns => (refine' Z.dn_of KX G ?a ?l ?c ?k; (case a => k_is); (case l => k_is); (case c => k_is); (case k => k_is)))
    (case D_law_shuffled => (refine' Z.dn_of KX G ?a ?l ?c ?k; (case a => k_is); (case l => k_is); (case c => k_is); (case k => k_is)))
    (case D_law_row => (refine' Z.dn_of KX G ?a ?l ?c ?k; (case a => k_is); (case l => k_is); (case c => k_is); (case k => k_is)))
    (case D_law_same => (refine' Z.dn_of KX G ?a ?l ?c ?k; (case a => k_is); (case l => k_is); (case c => k_is); (case k => k_is)))
    (case D_law_copy => (refine' Z.dn_of KX G ?a ?l ?c ?k; (case a => k_is); (case l => k_is); (case c => k_is); (case k => k_is)))
    (case D_law_spoil => (refine' Z.dn_of KX G ?a ?l ?c ?k; (case a => k_is); (case l => k_is); (case c => k_is); (case k => k_is)))
    (case D_law_is_integer => (refine' Z.dn_of KX G ?a ?l ?c ?k; (case a => k_is); (case l => k_is); (case c => k_is); (case k => k_is)))
    (case D_law_rises => (refine' Z.dn_of KX G ?a ?l ?c ?k; (case a => k_is); (case l => k_is); (case c => k_is); (case k => k_is)))
    (case D_law_sign => (refine' Z.dn_of KX G ?a ?l ?c ?k; (case a => k_is); (case l => k_is); (case c => k_is); (case k => k_is)))
    (case D_law_text => (refine' Z.dn_of KX G ?a ?l ?c ?k; (case a => k_is); (case l => k_is); (case c => k_is); (case k => k_is)))
    (case D_law_name => (refine' Z.dn_of KX G ?a ?l ?c ?k; (case a => k_is); (case l => k_is); (case c => k_is); (case k => k_is)))
    (case D_law_no_name => (refine' Z.dn_of KX G ?a ?l ?c ?k; (case a => k_is); (case l => k_is); (case c => k_is); (case k => k_is)))
    (case D_law_is_name => (refine' Z.dn_of KX G ?a ?l ?c ?k; (case a => k_is); (case l => k_is); (case c => k_is); (case k => k_is)))
    (case D_law_error => (refine' Z.dn_of KX G ?a ?l ?c ?k; (case a => k_is); (case l => k_is); (case c => k_is); (case k => k_is)))
    (case D_law_checked => (refine' Z.dn_of KX G ?a ?l ?c ?k; (case a => k_is); (case l => k_is); (case c => k_is); (case k => k_is)))
    (case D_law_word_right => (refine' Z.dn_of KX G ?a ?l ?c ?k; (case a => k_is); (case l => k_is); (case c => k_is); (case k => k_is)))
    (case D_law_words => (refine' Z.dn_of KX G ?a ?l ?c ?k; (case a => k_is); (case l => k_is); (case c => k_is); (case k => k_is)))
    (case D_law_steps_right => (refine' Z.dn_of KX G ?a ?l ?c ?k; (case a => k_is); (case l => k_is); (case c => k_is); (case k => k_is)))
    (case D_law_span_right => (refine' Z.dn_of KX G ?a ?l ?c ?k; (case a => k_is); (case l => k_is); (case c => k_is); (case k => k_is)))
    (case D_law_crossed_right => (refine' Z.dn_of KX G ?a ?l ?c ?k; (case a => k_is); (case l => k_is); (case c => k_is); (case k => k_is)))
    (case D_step => (refine' Z.dk_of KX G ?a ?l ?c ?k ?e ?r; (case a => k_is); (case l => k_is); (case c => k_is); (case k => k_is); (case e => k_is); (case r => exact ⟨_, rfl⟩)))
    (case aL => k_is); (case lL => k_is); (case cL => k_is); (case kL => k_is)
    (case bc => (refine' Z.badC_mk KX G ?a ?lC ?rv ?sa ?exC ?tyC ?kC ?iC ?tI ?lI ?cI ?kI ?no ?ga ?gg ?hd ?ha ?hn ?ht ?hm; (case a => k_is); (case lC => k_is); (case rv => decide +kernel); (case sa => k_is); (case exC => k_is); (case tyC => k_is); (case kC => k_is); (case iC => k_is); (case tI => k_is); (case lI => k_is); (case cI => k_is); (case kI => k_is); (case no => k_is); (case ga => k_is); (case gg => k_is); (case hd => k_is); (case ha => k_is); (case hn => k_is); (case ht => k_is); (case hm => k_is)))
    (case bs => (refine' Z.base_mk (mc := .type "type") KX G ?a ?s ?r ?f; (case a => k_is); (case s => k_is); (case r => k_is); (case f => k_is)))
    (case mH => (refine' PySem.W.mg_of KX G ?a; (case a => k_is)))
    (case sub => (refine' PySem.W.exm_ref ?a ?b ?c ?d; (case a => k_is); (case b => k_is); (case c => k_is); (case d => k_is)))
    (case ve => (refine' Z.kit_ve ?a ?b; (case a => decide +kernel); (case b => k_is)))
    (case g1 => (refine' Z.glob_of KX G ?a ?r; (case a => k_is); (case r => exact ⟨_, rfl⟩)))
    (case g2 => (refine' Z.glob_of KX G ?a ?r; (case a => k_is); (case r => exact ⟨_, rfl⟩)))
    (case g3 => (refine' Z.glob_of KX G ?a ?r; (case a => k_is); (case r => exact ⟨_, rfl⟩)))
    (case o_AtStrife => (refine' Z.one_mk KX G ?a ?t ?h ?s ?n; (case a => k_is); (case t => k_is); (case h => k_is); (case s => k_is); (case n => first | rfl | decide)))
    (case o_BadParting => (refine' Z.one_mk KX G ?a ?t ?h ?s ?n; (case a => k_is); (case t => k_is); (case h => k_is); (case s => k_is); (case n => first | rfl | decide)))
    (case o_BadRow => (refine' Z.one_mk KX G ?a ?t ?h ?s ?n; (case a => k_is); (case t => k_is); (case h => k_is); (case s => k_is); (case n => first | rfl | decide)))
    (case o_BadSize => (refine' Z.one_mk KX G ?a ?t ?h ?s ?n; (case a => k_is); (case t => k_is); (case h => k_is); (case s => k_is); (case n => first | rfl | decide)))
    (case o_BadSplit => (refine' Z.one_mk KX G ?a ?t ?h ?s ?n; (case a => k_is); (case t => k_is); (case h => k_is); (case s => k_is); (case n => first | rfl | decide)))
    (case o_BadText => (refine' Z.one_mk KX G ?a ?t ?h ?s ?n; (case a => k_is); (case t => k_is); (case h => k_is); (case s => k_is); (case n => first | rfl | decide)))
    (case o_CrossedField => (refine' Z.one_mk KX G ?a ?t ?h ?s ?n; (case a => k_is); (case t => k_is); (case h => k_is); (case s => k_is); (case n => first | rfl | decide)))
    (case o_Crossing => (refine' Z.one_mk KX G ?a ?t ?h ?s ?n; (case a => k_is); (case t => k_is); (case h => k_is); (case s => k_is); (case n => first | rfl | decide)))
    (case o_EmptyBook => (refine' Z.one_mk KX G ?a ?t ?h ?s ?n; (case a => k_is); (case t => k_is); (case h => k_is); (case s => k_is); (case n => first | rfl | decide)))
    (case o_EndsDiffer => (refine' Z.one_mk KX G ?a ?t ?h ?s ?n; (case a => k_is); (case t => k_is); (case h => k_is); (case s => k_is); (case n => first | rfl | decide)))
    (case o_NoRun => (refine' Z.one_mk KX G ?a ?t ?h ?s ?n; (case a => k_is); (case t => k_is); (case h => k_is); (case s => k_is); (case n => first | rfl | decide)))
    (case o_NoStrife => (refine' Z.one_mk KX G ?a ?t ?h ?s ?n; (case a => k_is); (case t => k_is); (case h => k_is); (case s => k_is); (case n => first | rfl | decide)))
    (case o_NotWithin => (refine' Z.one_mk KX G ?a ?t ?h ?s ?n; (case a => k_is); (case t => k_is); (case h => k_is); (case s => k_is); (case n => first | rfl | decide)))
    (case o_OrderRefused => (refine' Z.one_mk KX G ?a ?t ?h ?s ?n; (case a => k_is); (case t => k_is); (case h => k_is); (case s => k_is); (case n => first | rfl | decide)))
    (case o_OtherPond => (refine' Z.one_mk KX G ?a ?t ?h ?s ?n; (case a => k_is); (case t => k_is); (case h => k_is); (case s => k_is); (case n => first | rfl | decide)))
    (case o_OutOfRange => (refine' Z.one_mk KX G ?a ?t ?h ?s ?n; (case a => k_is); (case t => k_is); (case h => k_is); (case s => k_is); (case n => first | rfl | decide)))
    (case o_RepeatedName => (refine' Z.one_mk KX G ?a ?t ?h ?s ?n; (case a => k_is); (case t => k_is); (case h => k_is); (case s => k_is); (case n => first | rfl | decide)))
    (case o_SameField => (refine' Z.one_mk KX G ?a ?t ?h ?s ?n; (case a => k_is); (case t => k_is); (case h => k_is); (case s => k_is); (case n => first | rfl | decide)))
    (case o_SameLot => (refine' Z.one_mk KX G ?a ?t ?h ?s ?n; (case a => k_is); (case t => k_is); (case h => k_is); (case s => k_is); (case n => first | rfl | decide)))
    (case o_StepRefused => (refine' Z.one_mk KX G ?a ?t ?h ?s ?n; (case a => k_is); (case t => k_is); (case h => k_is); (case s => k_is); (case n => first | rfl | decide)))
    (case o_Stuck => (refine' Z.one_mk KX G ?a ?t ?h ?s ?n; (case a => k_is); (case t => k_is); (case h => k_is); (case s => k_is); (case n => first | rfl | decide)))
    (case o_TooMany => (refine' Z.one_mk KX G ?a ?t ?h ?s ?n; (case a => k_is); (case t => k_is); (case h => k_is); (case s => k_is); (case n => first | rfl | decide)))
    (case o_Ungranted => (refine' Z.one_mk KX G ?a ?t ?h ?s ?n; (case a => k_is); (case t => k_is); (case h => k_is); (case s => k_is); (case n => first | rfl | decide)))
    (case o_UnknownLot => (refine' Z.one_mk KX G ?a ?t ?h ?s ?n; (case a => k_is); (case t => k_is); (case h => k_is); (case s => k_is); (case n => first | rfl | decide)))
