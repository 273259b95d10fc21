import PyProof.Rows.All
import Wide.All
import OpenK.AllK
import Wide.FinOn
import HandS.ForMost
import HandS.IsInst
import HandS.Conv
import HandS.SortInts
import HandS.Style
import HandS.TupAny
import HandS.Deep
import HandS.TupMul
import HandS.More
import HandS.Evl
import KE.KEqSeq
import PySem.Challenge.RW_heldorder_k00_moves_known
set_option Elab.async false
set_option linter.all false
set_option maxRecDepth 100000
set_option maxHeartbeats 4000000
namespace Hd
open PySem PySem.Spec PyProof.Rows L2

/-! ### defs of the text, promises of callees -/
def Def (K : PySem.W.Frag) (mg : Str → Option Value) (x : Str) (st : Stmt) (ps : List Str) : Prop :=
  ∃ f fd, Fun K x x st f fd ∧ mg x = some (.ref f) ∧ Binds K fd ps []
def Cal (P : Program) (w : World) (K : PySem.W.Frag) (mg : Str → Option Value) (base : Heap) (x : Str) (k : Nat) (ps : List Str) (sp : Sp) : Prop :=
  ∃ f fd, FnOk P w K mg base CX0 k f fd ps sp ∧ mg x = some (.ref f) ∧ PySem.W.keepIn K (.ref f) = true ∧ Binds K fd ps []
theorem def_mk {K : PySem.W.Frag} {h : Heap} {mg : Str → Option Value} {x : Str} {st : Stmt} {ps : List Str} {f : Addr} {oc : Value} {od an : Option Addr} {osl : Array (Option Value)} {kV doc pm cdv ct : Value}
    (X : K.In h) (G : h.Ns mainGlobals mg) (a : PySem.W.nsIn K mainGlobals x = some (some (.ref f)))
    (l : K.lookup f = some ⟨oc, od, .func (PySem.W.fnOf x x (defArgs st) (defBody st) (defScope st) .none kV doc pm an cdv ct), osl⟩)
    (c : PySem.W.codeIn K cdv x = true) (k : PySem.W.keepIn K (.ref f) = true)
    (hb : ∀ (kV doc pm : Value) (an : Option Addr) (cdv ct : Value) (us : List Value), us.length = ps.length → bindArgs (PySem.W.fnOf x x (defArgs st) (defBody st) (defScope st) .none kV doc pm an cdv ct) ⟨us, []⟩ = pure (ps.zip us)) : Def K mg x st ps := by
  have F := fun_mk (x := x) (qual := x) (st := st) l c k
  exact ⟨f, _, F, PySem.W.mg_of X G a, F.binds hb⟩
section
variable {P : Program} {w : World} {K : PySem.W.Frag} {mg : Str → Option Value} {base : Heap} {x : Str} {st : Stmt} {ps N : List Str} {k : Nat} {sp : Sp}
theorem Def.cal (D : Def K mg x st ps) (S : FnScope N ps (defScope st)) (len : ∀ vs H Q E, sp vs H Q E → vs.length = ps.length)
    (hbody : ∀ (f : Addr) (cdv : Value) (A : Around) (outer : List Env) (s : Shared) (H : Hp) (vs : List V) (Q : VK) (E : XK), Room k (A.deeper (envOfC x (defScope st) s.heap.objs.size f cdv)) → sp vs H Q E →
      ∃ t, PSs (cxOf CX0 P w K mg base N x (defScope st) f cdv A outer s H E).nox (defBody st) t ∧ t { nx := fun _ H' => Q .non H', rt := Q } (start N vs) H) : Cal P w K mg base x (k + 1) ps sp := by
  obtain ⟨f, fd, F, g, b⟩ := D
  exact ⟨f, fd, F.ok S len (fun cdv A outer s H vs Q E hr h => hbody f cdv A outer s H vs Q E hr h), g, F.kp, b⟩
end
section
variable {X : Cx} {x : Str} {p pos : Pos} {e : Expr} {es : List Expr} {k : Nat} {ps : List Str} {sp : Sp} {t : TA}
theorem pe_cal (C : Cal X.prog X.w X.K X.mg X.base x k ps sp) (hr : Room k X.A) (hg : Gl X x) (ha : PA X (e :: es) t) (hdb : (x == ("__debug__" : Str)) = false := by decide)
    (he : starEach (e :: es) X.env = (false, eval e X.env) :: starEach es X.env := by rfl) (hpl : (backTo pos (starEach es X.env)).any (·.1) = false := by rfl) :
    PE X (.Call (.Name x p) (e :: es) [] pos) (tCall sp [] E0 t) := by
  obtain ⟨f, fd, F, g, kp, b⟩ := C
  exact pe_call F hr hg g kp b .nil pass0 ha hdb he hpl
theorem pe_cal0 (C : Cal X.prog X.w X.K X.mg X.base x k ps sp) (hr : Room k X.A) (hg : Gl X x) (hdb : (x == ("__debug__" : Str)) = false := by decide) :
    PE X (.Call (.Name x p) [] [] pos) (tCall sp [] E0 tNil) := by
  obtain ⟨f, fd, F, g, kp, b⟩ := C
  exact pe_call0 F hr hg g kp b .nil pass0 hdb
end
section
variable {X : Cx}
theorem pe_globI {x : Str} {n : Int} {pos : Pos} (hg : Gl X x) (hm : ∃ t, X.mg x = some (.int n t)) (hd : (x == ("__debug__" : Str)) = false := by decide) : PE X (.Name x pos) (tC (.int n)) := by
  obtain ⟨t, h⟩ := hm
  exact pe_glob hg h ⟨t, rfl⟩ hd
end
/-! ### nested data that stands in a part of the heap -/
mutual
inductive Da (H : Hp) : V → PyData → Prop
  | non : Da H .non .none
  | bl (b : Bool) : Da H (.bl b) (.bool b)
  | int (i : Int) : Da H (.int i) (.int i)
  | str (x : Str) : Da H (.str x) (.str x)
  | lst {a : Addr} {xs : List V} {ds : List PyData} : H a = some (.lst xs) → DaAll H xs ds → Da H (.ref a) (.list ds)
  | tup {a : Addr} {xs : List V} {ds : List PyData} : H a = some (.tup xs) → DaAll H xs ds → Da H (.ref a) (.tuple ds)
inductive DaAll (H : Hp) : List V → List PyData → Prop
  | nil : DaAll H [] []
  | cons {v : V} {vs : List V} {d : PyData} {ds : List PyData} : Da H v d → DaAll H vs ds → DaAll H (v :: vs) (d :: ds)
end
mutual
theorem Da.mono {H H' : Hp} (g : Same H H') : ∀ (d : PyData) (v : V), Da H v d → Da H' v d
  | .none, _, h => by cases h; exact .non
  | .bool b, _, h => by cases h; exact .bl b
  | .int b, _, h => by cases h; exact .int b
  | .str b, _, h => by cases h; exact .str b
  | .list ds, _, h => by
    cases h with
    | lst a b => exact .lst (g _ _ a) (DaAll.mono g ds _ b)
  | .tuple ds, _, h => by
    cases h with
    | tup a b => exact .tup (g _ _ a) (DaAll.mono g ds _ b)
  | .dict _, _, h => by cases h
theorem DaAll.mono {H H' : Hp} (g : Same H H') : ∀ (ds : List PyData) (vs : List V), DaAll H vs ds → DaAll H' vs ds
  | [], _, h => by cases h; exact .nil
  | d :: ds, _, h => by
    cases h with
    | cons a b => exact .cons (Da.mono g d _ a) (DaAll.mono g ds _ b)
end
theorem Da.up {H H' : Hp} (g : Same H H') {v : V} {d : PyData} (h : Da H v d) : Da H' v d := Da.mono g d v h
theorem DaAll.up {H H' : Hp} (g : Same H H') {v : List V} {d : List PyData} (h : DaAll H v d) : DaAll H' v d := DaAll.mono g d v h
mutual
theorem Da.dp {K : PySem.W.Frag} {H : Hp} : ∀ (d : PyData) (v : V), Da H v d → Dp K H v d
  | .none, _, h => by cases h; exact .non
  | .bool b, _, h => by cases h; exact .bl b
  | .int b, _, h => by cases h; exact .int b
  | .str b, _, h => by cases h; exact .str b
  | .list ds, _, h => by
    cases h with
    | lst a b => exact .lst (.inl (.inl a)) (DaAll.dp ds _ b)
  | .tuple ds, _, h => by
    cases h with
    | tup a b => exact .tup (.inl (.inl a)) (DaAll.dp ds _ b)
  | .dict _, _, h => by cases h
theorem DaAll.dp {K : PySem.W.Frag} {H : Hp} : ∀ (ds : List PyData) (vs : List V), DaAll H vs ds → DpAll K H vs ds
  | [], _, h => by cases h; exact .nil
  | d :: ds, _, h => by
    cases h with
    | cons a b => exact .cons (Da.dp d _ a) (DaAll.dp ds _ b)
end
theorem DaAll.length {H : Hp} : ∀ {ds : List PyData} {vs : List V}, DaAll H vs ds → vs.length = ds.length
  | [], _, h => by cases h; rfl
  | d :: ds, _, h => by
    cases h with
    | cons a b => rw [List.length_cons, List.length_cons, DaAll.length b]
theorem DaAll.get {H : Hp} : ∀ {ds : List PyData} {vs : List V} {i : Nat} {v : V}, DaAll H vs ds → vs[i]? = some v → ∃ d, ds[i]? = some d ∧ Da H v d
  | [], _, i, v, h, e => by cases h; simp at e
  | d :: ds, _, 0, v, h, e => by
    cases h with
    | cons a b =>
      have e' := Option.some.inj e
      subst e'
      exact ⟨d, rfl, a⟩
  | d :: ds, _, i + 1, v, h, e => by
    cases h with
    | cons a b => exact DaAll.get (i := i) b e
/-- isinstance of nested data -/
def tyD : PyData → String
  | .none => "NoneType"
  | .bool _ => "bool"
  | .int _ => "int"
  | .str _ => "str"
  | .list _ => "list"
  | .tuple _ => "tuple"
  | .dict _ => "dict"
theorem Da.ty {K : PySem.W.Frag} {G H : Hp} (g : Same G H) {v : V} {d : PyData} (h : Da G v d) : TyX K H v (.type (tyD d)) := by
  cases h with
  | non => exact .base .non
  | bl b => exact .base (.bl b)
  | int b => exact .base (.int b)
  | str b => exact .base (.str b)
  | lst a b => exact .base (.lst (g _ _ a))
  | tup a b => exact .base (.tup (g _ _ a))
def isI : PyData → Bool
  | .int _ => true
  | _ => false
/-- isinstance(x, T) for T of int, bool, tuple, list, str: the answer -/
def instB (d : PyData) (T : String) : Bool := tyD d == T || (T == "int" && tyD d == "bool")
theorem kit_da {K : PySem.W.Frag} {H : Hp} {v : V} {d : PyData} (h : Da H v d) {T : String} (hT : T = "int" ∨ T = "bool" ∨ T = "tuple" ∨ T = "list" ∨ T = "str") : PySem.W.kitOne K (.type (tyD d)) (.type T) = some (instB d T) := by
  refine kit_ty ?_
  have e : tyD d = "NoneType" ∨ tyD d = "bool" ∨ tyD d = "int" ∨ tyD d = "str" ∨ tyD d = "list" ∨ tyD d = "tuple" := by
    cases h with
    | non => exact .inl rfl
    | bl b => exact .inr (.inl rfl)
    | int b => exact .inr (.inr (.inl rfl))
    | str b => exact .inr (.inr (.inr (.inl rfl)))
    | lst a b => exact .inr (.inr (.inr (.inr (.inl rfl))))
    | tup a b => exact .inr (.inr (.inr (.inr (.inr rfl))))
  unfold instB
  rcases hT with rfl | rfl | rfl | rfl | rfl <;> rcases e with e | e | e | e | e | e <;> rw [e] <;> decide +kernel
theorem rIsi_da {K : PySem.W.Frag} {G H : Hp} {Q : VK} (g : Same G H) {v : V} {d : PyData} (h : Da G v d) {T : String} (hT : T = "int" ∨ T = "bool" ∨ T = "tuple" ∨ T = "list" ∨ T = "str") (q : Q (.bl (instB d T)) H) : rIsi K [v, .ty T] H Q :=
  ⟨v, .ty T, _, _, instB d T, rfl, ClsV.ty T, h.ty g, kit_da h hT, q⟩
end Hd

namespace Hd
open PySem PySem.Spec PyProof.Rows L2
/-! ### heaps: what changed -/
/-- a new object o at p -/
structure New (H : Hp) (p : Addr) (o : HO) (H' : Hp) : Prop where
  fr : H p = none
  eq : H' = upd H p o
theorem New.at {H H' : Hp} {p : Addr} {o : HO} (n : New H p o H') : H' p = some o := by rw [n.eq]; exact upd_same
theorem New.same {H H' : Hp} {p : Addr} {o : HO} (n : New H p o H') : Same H H' := fun b u e => by
  rw [n.eq, upd_ne (ne_of_none e n.fr)]
  exact e
theorem New.ne {H H' : Hp} {p a : Addr} {o : HO} (n : New H p o H') (h : H a ≠ none) : a ≠ p := fun e => h (by rw [e]; exact n.fr)
/-- G is the part of the heap H that no longer changes; from (G, H) to (G', H'): all of G kept, only new objects known, all objects of H but that at S kept -/
structure Stp (S : Addr) (G H G' H' : Hp) : Prop where
  gg : Same G G'
  gh : Same G' H'
  nw : ∀ b, H b ≠ none → G b = none → G' b = none
  hh : ∀ b o, b ≠ S → H b = some o → H' b = some o
  al : ∀ b, H b ≠ none → H' b ≠ none
structure Stq (G H G' H' : Hp) : Prop where
  gg : Same G G'
  gh : Same G' H'
  nw : ∀ b, H b ≠ none → G b = none → G' b = none
  hh : Same H H'
theorem ne_none {H : Hp} {b : Addr} {o : HO} (h : H b = some o) : H b ≠ none := by rw [h]; intro z; cases z
theorem same_ne {H H' : Hp} (g : Same H H') {b : Addr} (h : H b ≠ none) : H' b ≠ none := by
  cases e : H b with
  | none => exact absurd e h
  | some o => exact ne_none (g _ _ e)
theorem Stq.al {G H G' H' : Hp} (s : Stq G H G' H') : ∀ b, H b ≠ none → H' b ≠ none := fun b h => same_ne s.hh h
theorem Stp.refl {S : Addr} {G H : Hp} (g : Same G H) : Stp S G H G H := ⟨Same.refl _, g, fun _ _ h => h, fun _ _ _ h => h, fun _ h => h⟩
theorem Stq.refl {G H : Hp} (g : Same G H) : Stq G H G H := ⟨Same.refl _, g, fun _ _ h => h, Same.refl _⟩
theorem Stp.trans {S : Addr} {G H G1 H1 G2 H2 : Hp} (a : Stp S G H G1 H1) (b : Stp S G1 H1 G2 H2) : Stp S G H G2 H2 :=
  ⟨a.gg.trans b.gg, b.gh, fun c h g => b.nw c (a.al c h) (a.nw c h g), fun c o n h => b.hh c o n (a.hh c o n h), fun c h => b.al c (a.al c h)⟩
theorem Stq.trans {G H G1 H1 G2 H2 : Hp} (a : Stq G H G1 H1) (b : Stq G1 H1 G2 H2) : Stq G H G2 H2 :=
  ⟨a.gg.trans b.gg, b.gh, fun c h g => b.nw c (a.al c h) (a.nw c h g), a.hh.trans b.hh⟩
theorem Stq.p {S : Addr} {G H G' H' : Hp} (s : Stq G H G' H') : Stp S G H G' H' := ⟨s.gg, s.gh, s.nw, fun b o _ h => s.hh b o h, s.al⟩
theorem Stp.q {S : Addr} {G H G1 H1 G2 H2 : Hp} (a : Stp S G H G1 H1) (b : Stq G1 H1 G2 H2) : Stp S G H G2 H2 := a.trans b.p
/-- a new object, known -/
theorem same_upd {G H : Hp} (g : Same G H) {p : Addr} {o : HO} (h : H p = none) : Same (upd G p o) (L2.upd H p o) := fun b u e => by
  by_cases hb : b = p
  · subst hb
    rw [upd_same] at e
    rw [upd_same]
    exact e
  · rw [upd_ne hb] at e
    rw [upd_ne hb]
    exact g _ _ e
theorem Stq.know {G H H' : Hp} {p : Addr} {o : HO} (g : Same G H) (n : New H p o H') : ∃ G', Stq G H G' H' ∧ G' p = some o ∧ ∀ b, b ≠ p → G' b = G b := by
  refine ⟨upd G p o, ⟨fun b u e => ?_, ?_, fun b h e => ?_, n.same⟩, upd_same, fun b h => upd_ne h⟩
  · rw [upd_ne (ne_of_none (g _ _ e) n.fr)]
    exact e
  · rw [n.eq]
    exact same_upd g n.fr
  · rw [upd_ne (n.ne h)]
    exact e
/-- a new object, not (yet) known: it may change -/
theorem Stq.loc {G H H' : Hp} {p : Addr} {o : HO} (g : Same G H) (n : New H p o H') : Stq G H G H' ∧ G p = none ∧ H' p = some o :=
  ⟨⟨Same.refl _, g.trans n.same, fun _ _ h => h, n.same⟩, g.free n.fr, n.at⟩
/-- it has changed -/
theorem Stp.mut {S : Addr} {G0 H0 G H H' : Hp} (s : Stp S G0 H0 G H) {l : Addr} {o : HO} (g : G l = none) (f : H0 l = none) (e : H' = upd H l o) : Stp S G0 H0 G H' := by
  subst e
  refine ⟨s.gg, fun b u h => ?_, s.nw, fun b u n h => ?_, fun b h => ?_⟩
  · rw [upd_ne (ne_of_none h g)]
    exact s.gh _ _ h
  · rw [upd_ne (ne_of_none h f)]
    exact s.hh b u n h
  · by_cases q : b = l
    · rw [q] at h
      exact absurd f h
    · rw [upd_ne q]
      exact s.al b h
theorem Stq.mut {G0 H0 G H H' : Hp} (s : Stq G0 H0 G H) {l : Addr} {o : HO} (g : G l = none) (f : H0 l = none) (e : H' = upd H l o) : Stq G0 H0 G H' := by
  subst e
  refine ⟨s.gg, fun b u h => ?_, s.nw, fun b u h => ?_⟩
  · rw [upd_ne (ne_of_none h g)]
    exact s.gh _ _ h
  · rw [upd_ne (ne_of_none h f)]
    exact s.hh b u h
/-- it is known from now on -/
theorem Stp.frz {S : Addr} {G0 H0 G H : Hp} (s : Stp S G0 H0 G H) {l : Addr} {o : HO} (g : G l = none) (f : H0 l = none) (h : H l = some o) : ∃ G', Stp S G0 H0 G' H ∧ Same G G' ∧ G' l = some o ∧ ∀ b, b ≠ l → G' b = G b := by
  have gn : Same G (upd G l o) := fun b u e => by
    rw [upd_ne (ne_of_none e g)]
    exact e
  refine ⟨upd G l o, ⟨s.gg.trans gn, fun b u e => ?_, fun b hb e => ?_, s.hh, s.al⟩, gn, upd_same, fun b h => upd_ne h⟩
  · by_cases q : b = l
    · subst q
      rw [upd_same] at e
      rw [h]
      exact e
    · rw [upd_ne q] at e
      exact s.gh _ _ e
  · rw [upd_ne (fun q => hb (by rw [q]; exact f))]
    exact s.nw b hb e
theorem Stq.frz {G0 H0 G H : Hp} (s : Stq G0 H0 G H) {l : Addr} {o : HO} (g : G l = none) (f : H0 l = none) (h : H l = some o) : ∃ G', Stq G0 H0 G' H ∧ Same G G' ∧ G' l = some o ∧ ∀ b, b ≠ l → G' b = G b := by
  have gn : Same G (upd G l o) := fun b u e => by
    rw [upd_ne (ne_of_none e g)]
    exact e
  refine ⟨upd G l o, ⟨s.gg.trans gn, fun b u e => ?_, fun b hb e => ?_, s.hh⟩, gn, upd_same, fun b h => upd_ne h⟩
  · by_cases q : b = l
    · subst q
      rw [upd_same] at e
      rw [h]
      exact e
    · rw [upd_ne q] at e
      exact s.gh _ _ e
  · rw [upd_ne (fun q => hb (by rw [q]; exact f))]
    exact s.nw b hb e
/-! ### readings in a form of our own -/
section
variable {X : Cx} {e : Expr} {t t' : TE}
theorem PE.mono (h : PE X e t) (m : ∀ σ H Q, t' σ H Q → t σ H Q) : PE X e t' := ⟨fun pins s σ H Q I q => h.run pins s σ H Q I (m σ H Q q)⟩
theorem PT.mono {t t' : TT} (h : PT X e t) (m : ∀ σ H Q, t' σ H Q → t σ H Q) : PT X e t' := ⟨fun pins s σ H Q I q => h.run pins s σ H Q I (m σ H Q q)⟩
theorem callR_mono {f : Value} {r r' : List V → Hp → VK → Prop} (h : CallR X f r) (m : ∀ xs H Q, r' xs H Q → r xs H Q) : CallR X f r' := fun pins s σ H xs us Q I rv q => h pins s σ H xs us Q I rv (m _ _ _ q)
theorem opR_mono {f : Value → Value → Sem Value} {r r' : R2} (h : OpR X f r) (m : ∀ x y H Q, r' x y H Q → r x y H Q) : OpR X f r' := fun pins s σ H x y v u Q I rx ry q => h pins s σ H x y v u Q I rx ry (m _ _ _ _ q)
theorem mtR_mono {id : String} {r r' : V → List V → Hp → VK → Prop} (h : MtR X id r) (m : ∀ x xs H Q, r' x xs H Q → r x xs H Q) : MtR X id r' := fun pins s σ H x xs v us Q I rx rxs q => h pins s σ H x xs v us Q I rx rxs (m _ _ _ _ q)
theorem slR_mono {r r' : V → Option Int → Option Int → Hp → VK → Prop} (h : SlR X r) (m : ∀ x a b H Q, r' x a b H Q → r x a b H Q) : SlR X r' := fun pins s σ H x v vl vu lo hi sl Q I rx hs pl pu q => h pins s σ H x v vl vu lo hi sl Q I rx hs pl pu (m _ _ _ _ _ q)
end
section
variable {X : Cx}
def rLstN (t : TA) : TE := fun σ H Q => t σ H fun xs H1 => xs.length ≤ sizeLine ∧ ∀ p H2, New H1 p (.lst xs) H2 → Q (.ref p) H2
def rTupN (t : TA) : TE := fun σ H Q => t σ H fun xs H1 => xs.length ≤ sizeLine ∧ ∀ p H2, New H1 p (.tup xs) H2 → Q (.ref p) H2
theorem newAll {H : Hp} {o : HO} {K : Addr → Hp → Prop} : (∀ p H2, New H p o H2 → K p H2) ↔ ∀ p, H p = none → K p (upd H p o) :=
  ⟨fun h p e => h p _ ⟨e, rfl⟩, fun h p H2 n => by rw [n.eq]; exact h p n.fr⟩
theorem rLstN_eq (t : TA) : rLstN t = tLst t := funext fun σ => funext fun H => funext fun Q =>
  congrArg (t σ H) (funext fun xs => funext fun H1 => propext (and_congr_right fun _ => newAll (K := fun p H2 => Q (.ref p) H2)))
theorem rTupN_eq (t : TA) : rTupN t = tTup t := funext fun σ => funext fun H => funext fun Q =>
  congrArg (t σ H) (funext fun xs => funext fun H1 => propext (and_congr_right fun _ => newAll (K := fun p H2 => Q (.ref p) H2)))
theorem pe_lstN {es : List Expr} {t : TA} {pos : Pos} (h : PA X es t) : PE X (.List es pos) (rLstN t) := by
  rw [rLstN_eq]
  exact pe_lst h
theorem pe_tupN {es : List Expr} {t : TA} {x1 : Nat} {pos : Pos} (h : PA X es t) : PE X (.Tuple es x1 pos) (rTupN t) := by
  rw [rTupN_eq]
  exact pe_tup h
/-- list(xs), of a list or tuple -/
def rListN (K : PySem.W.Frag) : List V → Hp → VK → Prop := fun xs H Q => ∃ p ys, xs = [.ref p] ∧ (SqL K H p ys ∨ SqT K H p ys) ∧ ∀ l H2, New H l (.lst ys) H2 → Q (.ref l) H2
theorem call_listN : CallR X (.type "list") (rListN X.K) := callR_mono call_list_of fun xs H Q h => by
  obtain ⟨p, ys, e, h, q⟩ := h
  exact ⟨p, ys, e, h, fun l hl => q l _ ⟨hl, rfl⟩⟩
/-- tuple(xs), of a list -/
def rTupleN (K : PySem.W.Frag) : List V → Hp → VK → Prop := fun xs H Q => ∃ p ys, xs = [.ref p] ∧ SqL K H p ys ∧ ∀ l H2, New H l (.tup ys) H2 → Q (.ref l) H2
theorem call_tupleN : CallR X (.type "tuple") (rTupleN X.K) := callR_mono call_tuple_of fun xs H Q h => by
  obtain ⟨p, ys, e, h, q⟩ := h
  exact ⟨p, ys, e, .inl ⟨h, fun l hl => q l _ ⟨hl, rfl⟩⟩⟩
/-- list(range(..)) -/
def tLstRgN (te : L2.St → Hp → (Int → Int → Hp → Prop) → Prop) : TE := fun σ H Q => te σ H fun a b H1 => RgOk a b ∧ ∀ q H2, New H1 q (.lst (rgV a b)) H2 → Q (.ref q) H2
def tTupRgN (te : L2.St → Hp → (Int → Int → Hp → Prop) → Prop) : TE := fun σ H Q => te σ H fun a b H1 => RgOk a b ∧ ∀ q H2, New H1 q (.tup (rgV a b)) H2 → Q (.ref q) H2
/-- xs[a:b] of a list -/
def rSlLN (K : PySem.W.Frag) : V → Option Int → Option Int → Hp → VK → Prop := fun x lo hi H Q => ∃ a xs, x = .ref a ∧ SqL K H a xs ∧ ∀ p H2, New H p (.lst (cutV xs lo hi)) H2 → Q (.ref p) H2
theorem sl_listN : SlR X (rSlLN X.K) := slR_mono sl_list fun x lo hi H Q h => by
  obtain ⟨a, xs, e, h, q⟩ := h
  exact ⟨a, xs, e, h, fun p hp => q p _ ⟨hp, rfl⟩⟩
/-- methods that change a list -/
def rAppendN : V → List V → Hp → VK → Prop := fun x vs H Q => ∃ l xs y, x = .ref l ∧ vs = [y] ∧ H l = some (.lst xs) ∧ xs.length < sizeLine ∧ ∀ H2, H2 = upd H l (.lst (xs ++ [y])) → Q .non H2
theorem mt_appendN : MtR X "list.append" rAppendN := mtR_mono mt_append fun x xs H Q h => by
  obtain ⟨l, zs, y, e1, e2, h, z, q⟩ := h
  exact ⟨l, zs, y, e1, e2, h, z, q _ rfl⟩
def rPopN : V → List V → Hp → VK → Prop := fun x vs H Q => ∃ l xs y, x = .ref l ∧ vs = [] ∧ H l = some (.lst xs) ∧ xs[xs.length - 1]? = some y ∧ ∀ H2, H2 = upd H l (.lst xs.dropLast) → Q y H2
theorem mt_popN : MtR X "list.pop" rPopN := mtR_mono mt_pop fun x xs H Q h => by
  obtain ⟨l, zs, y, e1, e2, h, z, q⟩ := h
  exact ⟨l, zs, y, e1, e2, h, z, q _ rfl⟩
/-- xs.pop(i), 0 ≤ i < len(xs) -/
def rPopAtN : V → List V → Hp → VK → Prop := fun x vs H Q => ∃ l xs i k y, x = .ref l ∧ vs = [.int i] ∧ H l = some (.lst xs) ∧ i = ((k : Nat) : Int) ∧ k < 2 ^ 63 ∧ xs[k]? = some y ∧ ∀ H2, H2 = upd H l (.lst (xs.eraseIdx k)) → Q y H2
theorem seqIndex_nat {n k : Nat} (h : k < n) : seqIndex? (k : Int) n = some k := by
  have := ixN_seq (n := n) (i := (k : Int)) (j := k) (by
    unfold ixN
    rw [if_pos (by omega), if_pos (by omega)]
    rfl)
  exact this.1
theorem mt_popAtN : MtR X "list.pop" rPopAtN := mtR_mono mt_popAt fun x xs H Q h => by
  obtain ⟨l, zs, i, k, y, e1, e2, h, rfl, b, z, q⟩ := h
  exact ⟨l, zs, _, k, y, e1, e2, h, by omega, by omega, seqIndex_nat (List.getElem?_eq_some_iff.mp z).1, z, q _ rfl⟩
def rInsertN : V → List V → Hp → VK → Prop := fun x vs H Q => ∃ (l : Addr) (xs : List V) (i : Int) (y : V), x = .ref l ∧ vs = [.int i, y] ∧ H l = some (.lst xs) ∧ xs.length < sizeLine ∧ 0 ≤ i ∧ i < 2 ^ 63 ∧
    ∀ H2, H2 = upd H l (.lst (xs.take i.toNat ++ [y] ++ xs.drop i.toNat)) → Q .non H2
theorem mt_insertN : MtR X "list.insert" rInsertN := mtR_mono mt_insert fun x xs H Q h => by
  obtain ⟨l, zs, i, y, e1, e2, h, z, a, b, q⟩ := h
  exact ⟨l, zs, i, y, e1, e2, h, z, a, b, q _ rfl⟩
def rSetN : V → V → V → Hp → (Hp → Prop) → Prop := fun o i v H Q => ∃ p xs k, o = .ref p ∧ i = .int ((k : Nat) : Int) ∧ H p = some (.lst xs) ∧ k < xs.length ∧ ∀ H2, H2 = upd H p (.lst (xs.set k v)) → Q H2
theorem ixN_of {n k : Nat} (h : k < n) : ixN n (k : Int) = some k := by
  unfold ixN
  rw [if_pos (by omega), if_pos (by omega)]
  rfl
theorem set_listN : PSet X rSetN := fun pins s σ H o i v uo ui uv Q I ro ri rv h => by
  obtain ⟨p, xs, k, e1, e2, h, z, q⟩ := h
  exact set_list pins s σ H o i v uo ui uv Q I ro ri rv ⟨p, xs, _, k, e1, e2, h, ixN_of z, q _ rfl⟩
/-- xs + ys of two lists -/
def rCatN : R2 := fun x y H Q => ∃ l b xs zs, x = .ref l ∧ y = .ref b ∧ H l = some (.lst xs) ∧ H b = some (.lst zs) ∧ xs.length + zs.length ≤ sizeLine ∧ ∀ p H2, New H p (.lst (xs ++ zs)) H2 → Q (.ref p) H2
theorem op_catN : OpR X (binaryOp .Add) rCatN := opR_mono op_cat fun x y H Q h => by
  obtain ⟨l, b, xs, zs, e1, e2, h1, h2, z, q⟩ := h
  exact ⟨l, b, xs, zs, e1, e2, h1, h2, z, fun p hp => q p _ ⟨hp, rfl⟩⟩
/-- isinstance(x, T) of nested data -/
def okT (T : String) : Prop := T = "int" ∨ T = "bool" ∨ T = "tuple" ∨ T = "list" ∨ T = "str"
theorem ok_int : okT "int" := .inl rfl
theorem ok_bool : okT "bool" := .inr (.inl rfl)
theorem ok_tuple : okT "tuple" := .inr (.inr (.inl rfl))
theorem ok_list : okT "list" := .inr (.inr (.inr (.inl rfl)))
theorem ok_str : okT "str" := .inr (.inr (.inr (.inr rfl)))
def rIsD : List V → Hp → VK → Prop := fun xs H Q => ∃ v d T, xs = [v, .ty T] ∧ Da H v d ∧ okT T ∧ Q (.bl (instB d T)) H
theorem call_isD : CallR X (.builtin "isinstance") rIsD := callR_mono call_isi fun xs H Q h => by
  obtain ⟨v, d, T, rfl, hd, hT, q⟩ := h
  exact rIsi_da (Same.refl H) hd hT q
theorem kitAny_two {K : PySem.W.Frag} {t a b : Value} {x y : Bool} (h1 : PySem.W.kitOne K t a = some x) (h2 : PySem.W.kitOne K t b = some y) : PySem.W.kitAny K t [a, b] = some (x || y) := by
  unfold PySem.W.kitAny
  rw [h1]
  cases x with
  | true => rfl
  | false =>
    show PySem.W.kitAny K t [b] = some y
    unfold PySem.W.kitAny
    rw [h2]
    cases y <;> rfl
/-- isinstance(x, (list, tuple)) -/
def rIsD2 : List V → Hp → VK → Prop := fun xs H Q => ∃ v d tp, xs = [v, .ref tp] ∧ H tp = some (.tup [.ty "list", .ty "tuple"]) ∧ Da H v d ∧ Q (.bl (instB d "list" || instB d "tuple")) H
theorem call_isD2 : CallR X (.builtin "isinstance") rIsD2 := callR_mono call_isiT fun xs H Q h => by
  obtain ⟨v, d, tp, rfl, ht, hd, q⟩ := h
  refine ⟨v, tp, _, _, [.type "list", .type "tuple"], _, rfl, ht, .cons (.ty _) (.cons (.ty _) .nil), hd.ty (Same.refl H), kitAny_two (kit_da hd (.inr (.inr (.inr (.inl rfl))))) (kit_da hd (.inr (.inr (.inl rfl)))), q⟩
section
variable {e : Expr} {te : L2.St → Hp → (Int → Int → Hp → Prop) → Prop}
theorem lstRg_eq (te : L2.St → Hp → (Int → Int → Hp → Prop) → Prop) : tLstRgN te = tLstRg te := funext fun σ => funext fun H => funext fun Q =>
  congrArg (te σ H) (funext fun a => funext fun b => funext fun H1 => propext (and_congr_right fun _ => newAll (K := fun p H2 => Q (.ref p) H2)))
theorem tupRg_eq (te : L2.St → Hp → (Int → Int → Hp → Prop) → Prop) : tTupRgN te = tTupRg te := funext fun σ => funext fun H => funext fun Q =>
  congrArg (te σ H) (funext fun a => funext fun b => funext fun H1 => propext (and_congr_right fun _ => newAll (K := fun p H2 => Q (.ref p) H2)))
theorem pe_listRgN {p pos : Pos} (hc : X.calm = true) (hg : Gl X "list") (hm : X.mg "list" = none) (he : PRg X e te) (na : starEach [e] X.env = (false, eval e X.env) :: starEach [] X.env := by rfl) :
    PE X (.Call (.Name "list" p) [e] [] pos) (tLstRgN te) := by
  rw [lstRg_eq]
  exact pe_listRg hc hg hm he na
theorem pe_tupRgN {p pos : Pos} (hc : X.calm = true) (hg : Gl X "tuple") (hm : X.mg "tuple" = none) (he : PRg X e te) (na : starEach [e] X.env = (false, eval e X.env) :: starEach [] X.env := by rfl) :
    PE X (.Call (.Name "tuple" p) [e] [] pos) (tTupRgN te) := by
  rw [tupRg_eq]
  exact pe_tupRg hc hg hm he na
end
/-- is, is not: nested data against True, False -/
def rIsBD : R2 := fun x y H Q => ∃ d b, Da H x d ∧ y = .bl b ∧ Q (.bl (decide (x = .bl b))) H
def rNotBD : R2 := fun x y H Q => ∃ d b, Da H x d ∧ y = .bl b ∧ Q (.bl (!decide (x = .bl b))) H
theorem plain_bl {H : Hp} {x : V} {d : PyData} {v : Value} {b : Bool} (h : Da H x d) (r : RelV x v) : plainIs v (.bool b) = true := by
  cases h with
  | non => cases r; rfl
  | bl c => cases r; rfl
  | int i => obtain ⟨t, rfl⟩ := r; rfl
  | str i => obtain ⟨t, rfl⟩ := r; rfl
  | lst a c => cases r; rfl
  | tup a c => cases r; rfl
theorem rel_bl {H : Hp} {x : V} {d : PyData} {v : Value} {b : Bool} (h : Da H x d) (r : RelV x v) : v = .bool b ↔ x = .bl b := by
  cases h with
  | non => cases r; exact ⟨(fun z => nomatch z), (fun z => nomatch z)⟩
  | bl c => cases r; exact ⟨fun z => by cases z; rfl, fun z => by cases z; rfl⟩
  | int i => obtain ⟨t, rfl⟩ := r; exact ⟨(fun z => nomatch z), (fun z => nomatch z)⟩
  | str i => obtain ⟨t, rfl⟩ := r; exact ⟨(fun z => nomatch z), (fun z => nomatch z)⟩
  | lst a c => cases r; exact ⟨(fun z => nomatch z), (fun z => nomatch z)⟩
  | tup a c => cases r; exact ⟨(fun z => nomatch z), (fun z => nomatch z)⟩
theorem op_isBD : OpR X (compareOp .Is) rIsBD := by
  intro pins s σ H x y v u Q I rx ry h
  obtain ⟨d, b, hd, rfl, q⟩ := h
  cases (show u = Value.bool b from ry)
  have q' : Q (.bl (decide (x = .bl b))) H := q
  by_cases e : x = .bl b
  · have ev := (rel_bl hd rx).mpr e
    subst ev
    rw [decide_eq_true e] at q'
    exact wpAny_is_self (by rfl) ⟨.bl true, H, I, rfl, q'⟩
  · rw [decide_eq_false e] at q'
    exact wpAny_is_other (plain_bl hd rx) (fun z => e ((rel_bl hd rx).mp z)) ⟨.bl false, H, I, rfl, q'⟩
theorem op_notBD : OpR X (compareOp .IsNot) rNotBD := by
  intro pins s σ H x y v u Q I rx ry h
  obtain ⟨d, b, hd, rfl, q⟩ := h
  cases (show u = Value.bool b from ry)
  have q' : Q (.bl (!decide (x = .bl b))) H := q
  by_cases e : x = .bl b
  · have ev := (rel_bl hd rx).mpr e
    subst ev
    rw [decide_eq_true e] at q'
    exact wpAny_isNot_self (by rfl) ⟨.bl false, H, I, rfl, q'⟩
  · rw [decide_eq_false e] at q'
    exact wpAny_isNot_other (plain_bl hd rx) (fun z => e ((rel_bl hd rx).mp z)) ⟨.bl true, H, I, rfl, q'⟩
/-! ### sorted of a tuple of ints -/
section
variable {prog : Program} {w : World} {A : Around} {E : Value → Shared → Prop} {s : Shared}
/-- what is collected of a tuple: a new list, its items -/
theorem collect_tup {t : Addr} {us : List Value} {R : List Value → Shared → Prop} (ht : IsTup s.heap t us.toArray) (small : us.length ≤ sizeLine)
    (done : R us { s with heap := (s.heap.push (seqObj "list" #[] 0)).update s.heap.objs.size (Obj.mapSeq (· ++ us.toArray)) }) : wpAny (model prog w) A (collect (.ref t)) R E s := by
  obtain ⟨ob, at0, cls0, ep, dat⟩ := id ht
  have at1 : (s.heap.push (seqObj "list" #[] 0)).get? t = some ob := Heap.get?_push_of_some _ at0
  have mine : (s.heap.push (seqObj "list" #[] 0)).get? s.heap.objs.size = some (seqObj "list" #[] 0) := Heap.get?_push_size _ rfl
  unfold collect
  refine wpAny_bind (wpAny_runValue (codeAny_builtin entry_proto_collect' ?a))
  show wpAny _ _ (do again (.builtin "list.__iadd__" ⟨[← newList [], .ref t], []⟩)) _ _ s
  refine wpAny_bind (wpAny_newList (wpAny_pure ⟨Code.quiet_builtin _ (by decide +kernel), codeAny_builtin entry_list_iadd' ?b⟩))
  show wpAny _ _ (Builtin.List.listExtendWith (.ref s.heap.objs.size) (.ref t) (.ref s.heap.objs.size)) _ _ { s with heap := _ }
  unfold Builtin.List.listExtendWith
  refine wpAny_bind (wpAny_typeOf (T := "tuple") ⟨ob, at1, cls0⟩ ?c)
  rw [if_pos (by rw [(rfl : (Value.type "tuple" == Value.type "tuple") = true)]; simp)]
  refine wpAny_bind (listItems_at at1 dat (wpAny_bind (listItems_at (xs := #[]) (n := 0) mine rfl ?d)))
  rw [if_neg (by simp)]
  have room : ((#[] : Array Value) ++ us.toArray).size ≤ sizeLine + 1 := by
    rw [Array.size_append, List.size_toArray]
    exact Nat.le_succ_of_le (by simpa using small)
  refine wpAny_bind (listUpdate_at (xs := #[]) (n := 0) mine rfl (wpAny_pure ?e) (Nat.zero_le _) room)
  show wpAny (model prog w) A (do match (← load s.heap.objs.size).data with | .seq xs _ => pure xs.toList | _ => unsupported "internal:collect") R E { s with heap := _ }
  refine wpAny_bind (wpAny_load (get?_update_seq mine _) ?f)
  have same : ((#[] : Array Value) ++ us.toArray).toList = us := by simp
  show wpAny _ _ (pure ((#[] : Array Value) ++ us.toArray).toList) R E _
  rw [same]
  exact wpAny_pure done
open SrtO in
/-- sorted of a tuple: its items in a new list, in order -/
theorem sorted_tup {t : Addr} {us : List Value} {lt : Value → Value → Bool} {R : Value → Shared → Prop} (O : Swo lt) (ht : IsTup s.heap t us.toArray) (small : us.length ≤ sizeLine)
    (cmp : 2 ≤ us.length → ∀ (g : Heap) (b : Addr), g.get? b = some (seqObj "list" us.toArray 0) → (∀ c o, s.heap.get? c = some o → c ≠ b ∧ g.get? c = some o) → SortableO prog w A.in1.in1 { s with heap := g } b us lt)
    (done : ∀ os : List Value, Srtd lt os → Stb lt os us → R (.ref (s.heap.objs.size + 1)) { s with heap := sortedAll s.heap us os.toArray }) : wpAny (model prog w) A (call (.builtin "sorted") [.ref t]) R E s := by
  refine Calls.call_function_entry kind_sorted plain_sorted entry_sorted (args_sorted1 _) ?_
  unfold Builtin.«sorted»
  refine wpAny_bind (m := checkCount "sorted" 1 1 _) (wpAny_pure (wpAny_bind (collect_tup ht small (wpAny_bind (wpAny_newList ?_ small)))))
  have len1 : ((s.heap.push (seqObj "list" #[] 0)).update s.heap.objs.size (Obj.mapSeq (· ++ us.toArray))).objs.size = s.heap.objs.size + 1 := by rw [Heap.size_update, size_push']
  have here : (((s.heap.push (seqObj "list" #[] 0)).update s.heap.objs.size (Obj.mapSeq (· ++ us.toArray))).push (seqObj "list" us.toArray 0)).get? (s.heap.objs.size + 1) = some (seqObj "list" us.toArray 0) := len1 ▸ Heap.get?_push_size _ rfl
  have old : ∀ c o, s.heap.get? c = some o → c ≠ s.heap.objs.size + 1 ∧ (((s.heap.push (seqObj "list" #[] 0)).update s.heap.objs.size (Obj.mapSeq (· ++ us.toArray))).push (seqObj "list" us.toArray 0)).get? c = some o := by
    intro c o hc
    have below := Heap.lt_size hc
    have k : ((s.heap.push (seqObj "list" #[] 0)).update s.heap.objs.size (Obj.mapSeq (· ++ us.toArray))).get? c = some o :=
      (Heap.get?_update_ne _ _ _ _ (Nat.ne_of_lt below)).trans (Heap.get?_push_of_some _ hc)
    exact ⟨Nat.ne_of_lt (Nat.lt_succ_of_lt below), Heap.get?_push_of_some _ k⟩
  show wpAny _ _ _ _ _ { s with heap := ((s.heap.push (seqObj "list" #[] 0)).update s.heap.objs.size (Obj.mapSeq (· ++ us.toArray))).push (seqObj "list" us.toArray 0) }
  rw [len1]
  refine wpAny_bind (wpAny_holding (wpAny_call_entry slot_list_sort ⟨_, here, rfl⟩ entry_list_sort ?_ (args_list_sort _)))
  exact list_sort_ord O here small (fun two => cmp two _ _ here old) fun os h1 h2 => ⟨_, rfl, wpAny_pure ⟨_, rfl, done os h1 h2⟩⟩
end
/-- sorted(t), t a tuple of ints -/
def rSortT (K : PySem.W.Frag) : List V → Hp → VK → Prop := fun vs H Q => ∃ (a : Addr) (ns : List Int), vs = [V.ref a] ∧ SqT K H a (ns.map V.int) ∧
  ∀ (ns' : List Int) (p : Addr) (H2 : Hp), ns'.Perm ns → ns'.Pairwise (· ≤ ·) → New H p (.lst (ns'.map V.int)) H2 → Q (.ref p) H2
theorem call_sortT : CallR X (.builtin "sorted") (rSortT X.K) := by
  intro pins s σ H vs us Q I r h
  obtain ⟨a, ns, rfl, hs, q⟩ := h
  obtain ⟨its, rv, hl, hz⟩ := I.tuple hs
  rw [Vals.ref1 r]
  have hi := rv.ints
  refine sorted_tup SrtO.swo_int hl (by rw [← rv.length]; exact hz) (fun h2 h₁ a' _ _ => SrtO.ints_sortable hi h2) fun out h1 h2 => ?_
  obtain ⟨k1, k2, k3⟩ := SrtO.ints_out hi h1 h2
  obtain ⟨ep, he'⟩ := PyProof.Rows.sortedAll_at s.heap its out.toArray
  have hlen : ((out.map SrtO.iv).map V.int).length ≤ sizeLine := by
    rw [List.length_map, k2.length_eq]
    rw [List.length_map] at hz
    exact hz
  exact ⟨.ref _, upd H (s.heap.objs.size + 1) (.lst ((out.map SrtO.iv).map V.int)), I.laid (t' := s.toks) (fun _ _ => PyProof.Rows.sortedAll_old) (Nat.le_succ _) ⟨hlen, out, ep, vals_of_ints k1, he'⟩, rfl, q _ _ _ k2 k3 ⟨I.hok.fresh (Nat.le_succ _), rfl⟩⟩
end
end Hd

namespace Hd
open PySem PySem.Spec PyProof.Rows L2
/-! ### the store of draws -/
structure Sr where
  a : Addr
  c : Addr
  ns : List Int
def StOk (S : Sr) (H : Hp) : Prop := ∃ i1 i2 i3 i4 i5 i6 : Int, H S.a = some (.lst [.ref S.c, .int i1, .int i2, .int i3, .int i4, .int i5, .int i6]) ∧ H S.c = some (.lst (S.ns.map V.int)) ∧ 0 ≤ i1
theorem StOk.ca {S : Sr} {H : Hp} (h : StOk S H) : S.c ≠ S.a := by
  obtain ⟨i1, i2, i3, i4, i5, i6, h1, h2, _⟩ := h
  intro e
  rw [e, h1] at h2
  have := HO.lst.inj (Option.some.inj h2)
  cases hn : S.ns with
  | nil => rw [hn] at this; cases this
  | cons x r => rw [hn] at this; cases this
structure Wd (S : Sr) (G H : Hp) : Prop where
  gh : Same G H
  gs : G S.a = none
  st : StOk S H
structure Go (S : Sr) (G H G' H' : Hp) : Prop where
  s : Stp S.a G H G' H'
  w0 : Wd S G H
  st : StOk S H'
section
variable {S : Sr} {G H G1 H1 G2 H2 : Hp}
theorem StOk.na (h : StOk S H) : H S.a ≠ none := by
  obtain ⟨i1, i2, i3, i4, i5, i6, h1, h2, _⟩ := h
  exact ne_none h1
theorem StOk.nc (h : StOk S H) : H S.c ≠ none := by
  obtain ⟨i1, i2, i3, i4, i5, i6, h1, h2, _⟩ := h
  exact ne_none h2
theorem StOk.up (h : StOk S H) (g : Same H H1) : StOk S H1 := by
  obtain ⟨i1, i2, i3, i4, i5, i6, h1, h2, z⟩ := h
  exact ⟨i1, i2, i3, i4, i5, i6, g _ _ h1, g _ _ h2, z⟩
theorem Go.wd (s : Go S G H G1 H1) : Wd S G1 H1 := ⟨s.s.gh, s.s.nw _ s.w0.st.na s.w0.gs, s.st⟩
theorem Go.refl (w : Wd S G H) : Go S G H G H := ⟨.refl w.gh, w, w.st⟩
theorem Go.trans (a : Go S G H G1 H1) (b : Go S G1 H1 G2 H2) : Go S G H G2 H2 := ⟨a.s.trans b.s, a.w0, b.st⟩
theorem Go.q (a : Go S G H G1 H1) (b : Stq G1 H1 G2 H2) : Go S G H G2 H2 := ⟨a.s.q b, a.w0, a.st.up b.hh⟩
theorem Go.gg (a : Go S G H G1 H1) : Same G G1 := a.s.gg
theorem Go.gh (a : Go S G H G1 H1) : Same G1 H1 := a.s.gh
theorem Go.hh (a : Go S G H G1 H1) {b : Addr} {o : HO} (h : H b = some o) (n : b ≠ S.a) : H1 b = some o := a.s.hh b o n h
theorem Go.nw (a : Go S G H G1 H1) {b : Addr} {o : HO} (h : H b = some o) (g : G b = none) : G1 b = none := a.s.nw b (ne_none h) g
theorem Go.know {p : Addr} {o : HO} (a : Go S G H G1 H1) (n : New H1 p o H2) : ∃ G2, Go S G H G2 H2 ∧ Same G1 G2 ∧ G2 p = some o ∧ ∀ b, b ≠ p → G2 b = G1 b := by
  obtain ⟨G2, s, e, k⟩ := Stq.know a.gh n
  exact ⟨G2, a.q s, s.gg, e, k⟩
theorem Go.fresh {p : Addr} (a : Go S G H G1 H1) (n : H1 p = none) : H p = none := by
  cases e : H p with
  | none => rfl
  | some o => exact absurd n (a.s.al p (ne_none e))
theorem Go.loc {p : Addr} {o : HO} (a : Go S G H G1 H1) (n : New H1 p o H2) : Go S G H G1 H2 ∧ G1 p = none ∧ H2 p = some o ∧ H p = none := by
  obtain ⟨s, g, e⟩ := Stq.loc a.gh n
  exact ⟨a.q s, g, e, a.fresh n.fr⟩
theorem Go.mut {l : Addr} {o : HO} (a : Go S G H G1 H1) (g : G1 l = none) (f : H l = none) (e : H2 = upd H1 l o) : Go S G H G1 H2 := by
  refine ⟨a.s.mut g f e, a.w0, ?_⟩
  have n1 : S.a ≠ l := fun q => a.w0.st.na (by rw [q]; exact f)
  have n2 : S.c ≠ l := fun q => a.w0.st.nc (by rw [q]; exact f)
  subst e
  obtain ⟨i1, i2, i3, i4, i5, i6, h1, h2, z⟩ := a.st
  exact ⟨i1, i2, i3, i4, i5, i6, by rw [upd_ne n1]; exact h1, by rw [upd_ne n2]; exact h2, z⟩
theorem Go.put {i1 i2 i3 i4 i5 i6 : Int} (a : Go S G H G1 H1) (e : H2 = upd H1 S.a (.lst [.ref S.c, .int i1, .int i2, .int i3, .int i4, .int i5, .int i6])) (z : 0 ≤ i1) : Go S G H G1 H2 := by
  have gs := a.wd.gs
  subst e
  refine ⟨⟨a.s.gg, fun b u h => ?_, a.s.nw, fun b u n h => ?_, fun b h => ?_⟩, a.w0, ?_⟩
  · rw [upd_ne (ne_of_none h gs)]
    exact a.s.gh _ _ h
  · rw [upd_ne n]
    exact a.s.hh b u n h
  · by_cases q : b = S.a
    · rw [q, upd_same]
      intro z; cases z
    · rw [upd_ne q]
      exact a.s.al b h
  · obtain ⟨j1, j2, j3, j4, j5, j6, h1, h2, _⟩ := a.st
    exact ⟨i1, i2, i3, i4, i5, i6, upd_same, by rw [upd_ne a.st.ca]; exact h2, z⟩
theorem Go.frz {l : Addr} {o : HO} (a : Go S G H G1 H1) (g : G1 l = none) (f : H l = none) (h : H1 l = some o) : ∃ G2, Go S G H G2 H1 ∧ Same G1 G2 ∧ G2 l = some o ∧ ∀ b, b ≠ l → G2 b = G1 b := by
  obtain ⟨G2, s, e, k, u⟩ := a.s.frz (l := l) g f h
  exact ⟨G2, ⟨s, a.w0, a.st⟩, e, k, u⟩
theorem Go.ns (a : Go S G H G1 H1) {l : Addr} (f : H l = none) : l ≠ S.a := fun q => a.w0.st.na (by rw [← q]; exact f)
theorem Wd.ne (w : Wd S G H) {b : Addr} {o : HO} (h : G b = some o) : b ≠ S.a := fun q => by
  rw [q, w.gs] at h
  cases h
end
theorem upd_at {H H2 : Hp} {l : Addr} {o : HO} (e : H2 = upd H l o) : H2 l = some o := by rw [e]; exact upd_same
theorem upd_else {H H2 : Hp} {l b : Addr} {o u : HO} (e : H2 = upd H l o) (h : H b = some u) (n : b ≠ l) : H2 b = some u := by rw [e, upd_ne n]; exact h
theorem New.else {H H2 : Hp} {p b : Addr} {o u : HO} (n : New H p o H2) (h : H b = some u) : H2 b = some u := n.same _ _ h
theorem dec_of {p : Prop} [Decidable p] (h : decide p = true) : p := of_decide_eq_true h
theorem dec_not {p : Prop} [Decidable p] (h : ¬ decide p = true) : ¬ p := fun q => h (decide_eq_true q)
/-! ### promises of the draws -/
def Dr (d n : Int) : Prop := 0 ≤ d ∧ (d < n ∨ (n < 1 ∧ d = 0))
def spMixed : Sp := fun vs H Q _ => ∃ a b : Int, vs = [.int a, .int b] ∧ ∀ r : Int, Q (.int r) H
def spTake : Sp := fun vs H Q _ => ∃ (S : Sr) (G : Hp) (n : Int), vs = [.ref S.a, .int n] ∧ Wd S G H ∧ n < 1073741824 ∧ ∀ (d : Int) (H' : Hp), 0 ≤ d → (d < n ∨ (n < 1 ∧ d = 0)) → Go S G H G H' → Q (.int d) H'
/-- a sequence of known items -/
def SeqV (H : Hp) (S : Sr) (v : V) (xs : List V) : Prop :=
  (∃ a, v = .ref a ∧ a ≠ S.a ∧ H a = some (.lst xs)) ∨ (∃ a, v = .ref a ∧ a ≠ S.a ∧ H a = some (.tup xs)) ∨ ∃ z : Str, v = .str z ∧ z.length ≤ 1000000 ∧ xs = z.cps.toList.map fun c => V.str ⟨#[c]⟩
def spPick : Sp := fun vs H Q _ => ∃ (S : Sr) (G : Hp) (v : V) (xs : List V), vs = [.ref S.a, v] ∧ Wd S G H ∧ SeqV H S v xs ∧ 0 < xs.length ∧ xs.length < 1000000 ∧ ∀ (x : V) (H' : Hp), x ∈ xs → Go S G H G H' → Q x H'
def spPlace : Sp := fun vs H Q _ => ∃ (S : Sr) (G : Hp) (n : Int), vs = [.ref S.a, .int n] ∧ Wd S G H ∧ 1 ≤ n ∧ n < 1073741824 ∧ ∀ (d : Int) (H' : Hp), 0 ≤ d → d < n → Go S G H G H' → Q (.int d) H'
end Hd

namespace Hd
open PySem PySem.Spec PyProof.Rows L2
theorem at_int {xs : List V} {d : Int} (h0 : 0 ≤ d) (h1 : d < (xs.length : Nat)) : ∃ x, xs[d.toNat]? = some x ∧ atI xs d = some x ∧ x ∈ xs := by
  have k : d.toNat < xs.length := by omega
  have e : xs[d.toNat]? = some xs[d.toNat] := List.getElem?_eq_getElem k
  refine ⟨xs[d.toNat], e, ?_, List.getElem_mem k⟩
  have q := atI_nat e
  rwa [show ((d.toNat : Nat) : Int) = d by omega] at q
theorem at_str {z : Str} {d : Int} (h0 : 0 ≤ d) (h1 : d < (z.length : Nat)) : ∃ c, atI z.cps.toList d = some c ∧ z.cps.toList[d.toNat]? = some c := by
  have hl : z.cps.toList.length = z.length := Array.length_toList
  have k : d.toNat < z.cps.toList.length := by omega
  have e : z.cps.toList[d.toNat]? = some z.cps.toList[d.toNat] := List.getElem?_eq_getElem k
  refine ⟨_, ?_, e⟩
  have q := atI_nat e
  rwa [show ((d.toNat : Nat) : Int) = d by omega] at q
theorem ln {n : Nat} (h : n ≤ 1000000) : n ≤ sizeLine := Nat.le_trans h (by decide)
theorem lt {n : Nat} (h : n < 1000000) : n < sizeLine := Nat.lt_of_lt_of_le h (by decide)
theorem perm_erase {α : Type} : ∀ {xs : List α} {i : Nat} {x : α}, xs[i]? = some x → xs.Perm (x :: xs.eraseIdx i)
  | [], i, x, h => by simp at h
  | a :: xs, 0, x, h => by
    have e := Option.some.inj h
    subst e
    exact .refl _
  | a :: xs, i + 1, x, h => ((perm_erase (xs := xs) (i := i) h).cons a).trans (.swap _ _ _)
/-! ### sizes of nested data -/
mutual
def szD : PyData → Nat
  | .list ds => 1 + szL ds
  | .tuple ds => 1 + szL ds
  | .str x => 1 + x.length
  | _ => 1
def szL : List PyData → Nat
  | [] => 0
  | d :: ds => szD d + szL ds
end
theorem szD_pos : ∀ d, 1 ≤ szD d
  | .none => Nat.le_refl _
  | .bool _ => Nat.le_refl _
  | .int _ => Nat.le_refl _
  | .str _ => by unfold szD; omega
  | .list ds => by unfold szD; omega
  | .tuple ds => by unfold szD; omega
  | .dict _ => Nat.le_refl _
theorem szL_append : ∀ (a b : List PyData), szL (a ++ b) = szL a + szL b
  | [], b => by unfold szL; simp
  | d :: a, b => by
    show szD d + szL (a ++ b) = szD d + szL a + szL b
    rw [szL_append a b]
    omega
theorem szL_len : ∀ (a : List PyData), a.length ≤ szL a
  | [] => Nat.zero_le _
  | d :: a => by
    have := szL_len a
    have := szD_pos d
    show a.length + 1 ≤ szD d + szL a
    omega
theorem szL_get : ∀ {a : List PyData} {i : Nat} {d : PyData}, a[i]? = some d → szD d ≤ szL a
  | [], i, d, h => by simp at h
  | x :: a, 0, d, h => by
    have e := Option.some.inj h
    subst e
    show szD _ ≤ szD _ + szL a
    omega
  | x :: a, i + 1, d, h => by
    have := szL_get (a := a) (i := i) h
    show szD d ≤ szD x + szL a
    omega
theorem szL_take (a : List PyData) (n : Nat) : szL (a.take n) + szL (a.drop n) = szL a := by
  rw [← szL_append, List.take_append_drop]
/-! ### lists of nested data -/
section
variable {G : Hp}
theorem DaAll.append : ∀ {vs ws : List V} {ds es : List PyData}, DaAll G vs ds → DaAll G ws es → DaAll G (vs ++ ws) (ds ++ es)
  | [], ws, _, es, h, k => by cases h; exact k
  | v :: vs, ws, _, es, h, k => by
    cases h with
    | cons a b => exact .cons a (DaAll.append b k)
theorem DaAll.take : ∀ (n : Nat) {vs : List V} {ds : List PyData}, DaAll G vs ds → DaAll G (vs.take n) (ds.take n)
  | 0, _, _, h => by
    rw [List.take_zero, List.take_zero]
    exact .nil
  | n + 1, [], _, h => by cases h; exact .nil
  | n + 1, v :: vs, _, h => by
    cases h with
    | cons a b => exact .cons a (DaAll.take n b)
theorem DaAll.drop : ∀ (n : Nat) {vs : List V} {ds : List PyData}, DaAll G vs ds → DaAll G (vs.drop n) (ds.drop n)
  | 0, _, _, h => h
  | n + 1, [], _, h => by cases h; exact .nil
  | n + 1, v :: vs, _, h => by
    cases h with
    | cons a b => exact DaAll.drop n b
theorem DaAll.set {v : V} {d : PyData} (k : Da G v d) : ∀ (n : Nat) {vs : List V} {ds : List PyData}, DaAll G vs ds → DaAll G (vs.set n v) (ds.set n d)
  | _, [], _, h => by cases h; exact .nil
  | 0, _ :: _, _, h => by
    cases h with
    | cons a b => exact .cons k b
  | n + 1, _ :: _, _, h => by
    cases h with
    | cons a b => exact .cons a (DaAll.set k n b)
theorem DaAll.one {v : V} {d : PyData} (k : Da G v d) : DaAll G [v] [d] := .cons k .nil
theorem DaAll.ints : ∀ (ns : List Int), DaAll G (ns.map V.int) (ns.map PyData.int)
  | [] => .nil
  | n :: ns => .cons (.int n) (DaAll.ints ns)
theorem DaAll.reverse {vs : List V} {ds : List PyData} (h : DaAll G vs ds) : DaAll G vs.reverse ds.reverse := by
  induction vs generalizing ds with
  | nil => cases h; exact .nil
  | cons v vs ih =>
    cases h with
    | cons a b =>
      rw [List.reverse_cons, List.reverse_cons]
      exact (ih b).append (.one a)
end
theorem szL_ints : ∀ (ns : List Int), szL (ns.map PyData.int) = ns.length
  | [] => rfl
  | n :: ns => by
    show 1 + szL (ns.map PyData.int) = ns.length + 1
    rw [szL_ints ns]
    omega
theorem szL_set : ∀ (n : Nat) (ds : List PyData) (d : PyData), szL (ds.set n d) ≤ szL ds + szD d
  | _, [], d => Nat.zero_le _
  | 0, x :: r, d => by
    show szD d + szL r ≤ szD x + szL r + szD d
    omega
  | n + 1, x :: r, d => by
    have := szL_set n r d
    show szD x + szL (r.set n d) ≤ szD x + szL r + szD d
    omega
/-! ### leaves -/
inductive Leaf : V → PyData → Prop
  | non : Leaf .non .none
  | bl (b : Bool) : Leaf (.bl b) (.bool b)
  | int (i : Int) : Leaf (.int i) (.int i)
  | str (x : Str) : x.length ≤ 100 → Leaf (.str x) (.str x)
theorem Leaf.da {G : Hp} {v : V} {d : PyData} (h : Leaf v d) : Da G v d := by
  cases h with
  | non => exact .non
  | bl b => exact .bl b
  | int i => exact .int i
  | str x _ => exact .str x
theorem Leaf.sz {v : V} {d : PyData} (h : Leaf v d) : szD d ≤ 101 := by
  cases h with
  | str x hx => unfold szD; omega
  | _ => show 1 ≤ 101; decide
/-! ### texts -/
theorem len_app (a b : Str) : (a ++ b).length = a.length + b.length := Array.size_append
theorem join_len : ∀ ys : List Str, (Txt.join Str.empty ys).length = (ys.map (·.length)).sum := fun ys => by
  rw [TL.join_eq]
  induction ys with
  | nil => rfl
  | cons x r ih =>
    cases r with
    | nil =>
      show x.length = x.length + 0
      omega
    | cons y r =>
      rw [List.map_cons, List.sum_cons, ← ih]
      show (x ++ Str.empty ++ Str.join Str.empty (y :: r)).length = x.length + _
      rw [len_app, len_app]
      rfl
theorem sum_ones : ∀ ys : List Str, (∀ y ∈ ys, y.length = 1) → (ys.map (·.length)).sum = ys.length
  | [], _ => rfl
  | y :: r, h => by
    rw [List.map_cons, List.sum_cons, h y List.mem_cons_self, sum_ones r fun z hz => h z (List.mem_cons_of_mem _ hz), List.length_cons]
    omega
theorem log_small {i : Int} (h0 : 0 ≤ i) (h1 : i < 10 ^ 100) : i.natAbs.log2 < 1920 := by
  by_cases e : i.natAbs = 0
  · rw [e]; decide
  · rw [Nat.log2_lt e]
    have h2 : i.natAbs < 10 ^ 100 := by omega
    exact Nat.lt_trans h2 (by decide +kernel)
def isIntV : V → Bool
  | .int _ => true
  | _ => false
theorem all_int {xs : List V} (h : xs.all isIntV = true) {x : V} (m : x ∈ xs) : ∃ d, x = .int d := by
  have q := List.all_eq_true.mp h x m
  cases x with
  | int d => exact ⟨d, rfl⟩
  | _ => cases q
theorem yesT {σ : L2.St} {H : Hp} {A B : Hp → Prop} (h : A H) : tYes σ H (fun b H3 => if b = true then A H3 else B H3) := iteT (B := B H) h
theorem Da.of_if {G : Hp} {p : Addr} {b : Bool} {xs : List V} {ds : List PyData} (h : G p = some (if b then HO.tup xs else HO.lst xs)) (k : DaAll G xs ds) : Da G (.ref p) (if b then .tuple ds else .list ds) := by
  cases b with
  | true => exact .tup h k
  | false => exact .lst h k
theorem sz_if (b : Bool) (ds : List PyData) : szD (if b then PyData.tuple ds else .list ds) = 1 + szL ds := by cases b <;> rfl
theorem szL_one (d : PyData) : szL [d] = szD d := Nat.add_zero _
/-! ### promises -/
abbrev HasL (H : Hp) (a : Addr) (xs : List V) : Prop := H a = some (.lst xs) ∨ H a = some (.tup xs)
theorem HasL.len {K : PySem.W.Frag} {H : Hp} {a : Addr} {xs : List V} (h : HasL H a xs) : SqL K H a xs ∨ SqT K H a xs := h.elim (fun h => .inl (.of h)) (fun h => .inr (.of h))
def spDrawn : Sp := fun vs H Q _ => ∃ (S : Sr) (G : Hp) (a : Addr) (xs : List V) (n : Int), vs = [.ref S.a, .ref a, .int n] ∧ Wd S G H ∧ HasL H a xs ∧ xs.length ≤ 100000 ∧ 0 ≤ n ∧ n ≤ 100000 ∧
  ∀ (l : Addr) (ys rest : List V) (H' : Hp), Go S G H G H' → G l = none → H l = none → H' l = some (.lst ys) → (ys ++ rest).Perm xs → ys.length = min n.toNat xs.length → Q (.ref l) H'
def spEither : Sp := fun vs H Q _ => ∃ (S : Sr) (G : Hp) (a : Addr) (xs : List V), vs = [.ref S.a, .ref a] ∧ Wd S G H ∧ a ≠ S.a ∧ H a = some (.lst xs) ∧
  ∀ (p : Addr) (b : Bool) (H' : Hp), Go S G H G H' → G p = none → H p = none → H' p = some (if b then .tup xs else .lst xs) → Q (.ref p) H'
def spWhole : Sp := fun vs H Q _ => ∃ (S : Sr) (G : Hp), vs = [.ref S.a] ∧ Wd S G H ∧ ∀ (d : Int) (H' : Hp), Go S G H G H' → Q (.int d) H'
def spSign : Sp := fun vs H Q _ => ∃ (S : Sr) (G : Hp), vs = [.ref S.a] ∧ Wd S G H ∧ ∀ (c : Nat) (H' : Hp), Go S G H G H' → Q (.str ⟨#[c]⟩) H'
def spText : Sp := fun vs H Q _ => ∃ (S : Sr) (G : Hp) (n : Int), vs = [.ref S.a, .int n] ∧ Wd S G H ∧ 0 ≤ n ∧ n ≤ 10000 ∧ ∀ (z : Str) (H' : Hp), z.length ≤ n.toNat → Go S G H G H' → Q (.str z) H'
def spLeaf : Sp := fun vs H Q _ => ∃ (S : Sr) (G : Hp), vs = [.ref S.a] ∧ Wd S G H ∧ ∀ (v : V) (d : PyData) (H' : Hp), Leaf v d → Go S G H G H' → Q v H'
def spValue : Sp := fun vs H Q _ => ∃ (S : Sr) (G : Hp) (n : Int), vs = [.ref S.a, .int n] ∧ Wd S G H ∧ n ≤ 1000 ∧ ∀ (v : V) (d : PyData) (G' H' : Hp), Da G' v d → szD d ≤ 5000 → Go S G H G' H' → Q v H'
/-- a tuple of whole numbers, a move on n points -/
def IsMv (ns : List Int) (n : Int) : Prop := ns.Perm ((List.range n.toNat).map fun (i : Nat) => (i : Int))
def spMove : Sp := fun vs H Q _ => ∃ (S : Sr) (G : Hp) (n : Int), vs = [.ref S.a, .int n] ∧ Wd S G H ∧ 0 ≤ n ∧ n ≤ 10000 ∧
  ∀ (p : Addr) (ns : List Int) (G' H' : Hp), Go S G H G' H' → G' p = some (.tup (ns.map V.int)) → IsMv ns n → Q (.ref p) H'
end Hd

namespace Hd
open PySem PySem.Spec PyProof.Rows L2
/-! ### equal data -/
mutual
def sameD : PyData → PyData → Bool
  | .none, .none => true
  | .bool a, .bool b => decide (a = b)
  | .int a, .int b => decide (a = b)
  | .str a, .str b => decide (a = b)
  | .list a, .list b => sameL a b
  | .tuple a, .tuple b => sameL a b
  | _, _ => false
def sameL : List PyData → List PyData → Bool
  | [], [] => true
  | x :: a, y :: b => sameD x y && sameL a b
  | _, _ => false
end
def noDict : PyData → Bool
  | .dict _ => false
  | _ => true
mutual
theorem sameD_self {G : Hp} : ∀ (d : PyData) (v : V), Da G v d → sameD d d = true
  | .none, _, _ => rfl
  | .bool a, _, _ => decide_eq_true rfl
  | .int a, _, _ => decide_eq_true rfl
  | .str a, _, _ => decide_eq_true rfl
  | .list a, _, h => by
    cases h with
    | lst h1 h2 => exact sameL_self a _ h2
  | .tuple a, _, h => by
    cases h with
    | tup h1 h2 => exact sameL_self a _ h2
  | .dict _, _, h => by cases h
theorem sameL_self {G : Hp} : ∀ (ds : List PyData) (vs : List V), DaAll G vs ds → sameL ds ds = true
  | [], _, _ => rfl
  | d :: ds, _, h => by
    cases h with
    | cons a b =>
      show (sameD d d && sameL ds ds) = true
      rw [sameD_self d _ a, sameL_self ds _ b]
      rfl
end
theorem sameL_len : ∀ {a b : List PyData}, a.length ≠ b.length → sameL a b = false
  | [], [], h => absurd rfl h
  | [], _ :: _, _ => rfl
  | _ :: _, [], _ => rfl
  | x :: a, y :: b, h => by
    show (sameD x y && sameL a b) = false
    rw [sameL_len (a := a) (b := b) (fun e => h (by rw [List.length_cons, List.length_cons, e])), Bool.and_false]
theorem sameL_all : ∀ {a b : List PyData}, a.length = b.length → sameL a b = (a.zip b).all fun p => sameD p.1 p.2
  | [], [], _ => rfl
  | [], _ :: _, h => by cases h
  | _ :: _, [], h => by cases h
  | x :: a, y :: b, h => by
    show (sameD x y && sameL a b) = _
    rw [sameL_all (a := a) (b := b) (Nat.succ.inj h)]
    rfl
section
variable {G : Hp} {v w : V} {d e : PyData}
theorem Da.non_iff (h : Da G v d) : v = .non ↔ d = .none := by cases h <;> simp
theorem Da.bl_iff (h : Da G v d) {b : Bool} : v = .bl b ↔ d = .bool b := by cases h <;> simp
end
theorem ib_none_int  : instB PyData.none "int" = false := by simp [instB, tyD]
theorem ib_none_bool  : instB PyData.none "bool" = false := by simp [instB, tyD]
theorem ib_none_tuple  : instB PyData.none "tuple" = false := by simp [instB, tyD]
theorem ib_none_list  : instB PyData.none "list" = false := by simp [instB, tyD]
theorem ib_none_str  : instB PyData.none "str" = false := by simp [instB, tyD]
theorem ib_bool_int (x : Bool) : instB (.bool x) "int" = true := by simp [instB, tyD]
theorem ib_bool_bool (x : Bool) : instB (.bool x) "bool" = true := by simp [instB, tyD]
theorem ib_bool_tuple (x : Bool) : instB (.bool x) "tuple" = false := by simp [instB, tyD]
theorem ib_bool_list (x : Bool) : instB (.bool x) "list" = false := by simp [instB, tyD]
theorem ib_bool_str (x : Bool) : instB (.bool x) "str" = false := by simp [instB, tyD]
theorem ib_int_int (x : Int) : instB (.int x) "int" = true := by simp [instB, tyD]
theorem ib_int_bool (x : Int) : instB (.int x) "bool" = false := by simp [instB, tyD]
theorem ib_int_tuple (x : Int) : instB (.int x) "tuple" = false := by simp [instB, tyD]
theorem ib_int_list (x : Int) : instB (.int x) "list" = false := by simp [instB, tyD]
theorem ib_int_str (x : Int) : instB (.int x) "str" = false := by simp [instB, tyD]
theorem ib_str_int (x : Str) : instB (.str x) "int" = false := by simp [instB, tyD]
theorem ib_str_bool (x : Str) : instB (.str x) "bool" = false := by simp [instB, tyD]
theorem ib_str_tuple (x : Str) : instB (.str x) "tuple" = false := by simp [instB, tyD]
theorem ib_str_list (x : Str) : instB (.str x) "list" = false := by simp [instB, tyD]
theorem ib_str_str (x : Str) : instB (.str x) "str" = true := by simp [instB, tyD]
theorem ib_list_int (x : List PyData) : instB (.list x) "int" = false := by simp [instB, tyD]
theorem ib_list_bool (x : List PyData) : instB (.list x) "bool" = false := by simp [instB, tyD]
theorem ib_list_tuple (x : List PyData) : instB (.list x) "tuple" = false := by simp [instB, tyD]
theorem ib_list_list (x : List PyData) : instB (.list x) "list" = true := by simp [instB, tyD]
theorem ib_list_str (x : List PyData) : instB (.list x) "str" = false := by simp [instB, tyD]
theorem ib_tuple_int (x : List PyData) : instB (.tuple x) "int" = false := by simp [instB, tyD]
theorem ib_tuple_bool (x : List PyData) : instB (.tuple x) "bool" = false := by simp [instB, tyD]
theorem ib_tuple_tuple (x : List PyData) : instB (.tuple x) "tuple" = true := by simp [instB, tyD]
theorem ib_tuple_list (x : List PyData) : instB (.tuple x) "list" = false := by simp [instB, tyD]
theorem ib_tuple_str (x : List PyData) : instB (.tuple x) "str" = false := by simp [instB, tyD]
theorem iteDT {c A B : Prop} [Decidable c] (h : c) (k : A) : if decide c = true then A else B := by rw [decide_eq_true h]; exact iteT k
theorem iteDF {c A B : Prop} [Decidable c] (h : ¬ c) (k : B) : if decide c = true then A else B := by rw [decide_eq_false h]; exact iteF k
theorem iteBT {b : Bool} {A B : Prop} (h : b = true) (k : A) : if b = true then A else B := by rw [h]; exact iteT k
theorem iteBF {b : Bool} {A B : Prop} (h : b = false) (k : B) : if b = true then A else B := by rw [h]; exact iteF k
theorem nd_of {p : Prop} [Decidable p] (h : (!decide p) = true) : ¬ p := fun q => by rw [decide_eq_true q] at h; cases h
theorem nd_not {p : Prop} [Decidable p] (h : ¬ (!decide p) = true) : p := by
  by_cases q : p
  · exact q
  · rw [decide_eq_false q] at h
    exact absurd rfl h
theorem rIx_of {K : PySem.W.Frag} {H : Hp} {Q : VK} {a : Addr} {xs : List V} {i : Int} {x : V} (h : HasL H a xs) (e : atI xs i = some x) (q : Q x H) : rIx K (.ref a) (.int i) H Q :=
  h.elim (fun h => .inl ⟨a, xs, i, x, rfl, rfl, .of h, e, q⟩) (fun h => .inr (.inl ⟨a, xs, i, x, rfl, rfl, .of h, e, q⟩))
theorem HasL.lenV {K : PySem.W.Frag} {H : Hp} {a : Addr} {xs : List V} (h : HasL H a xs) : LenV K (.ref a) H xs.length := h.elim (fun h => .inl ⟨xs, .of h, rfl⟩) (fun h => .inr ⟨xs, .of h, rfl⟩)
theorem HasL.up {H H' : Hp} {a : Addr} {xs : List V} (h : HasL H a xs) (g : Same H H') : HasL H' a xs := h.elim (fun h => .inl (g _ _ h)) (fun h => .inr (g _ _ h))
theorem at_nat {xs : List V} {i : Nat} (h : i < xs.length) : ∃ x, xs[i]? = some x ∧ atI xs (0 + (i : Int)) = some x := by
  have e : xs[i]? = some xs[i] := List.getElem?_eq_getElem h
  refine ⟨xs[i], e, ?_⟩
  rw [Int.zero_add]
  exact atI_nat e
theorem zip_take : ∀ {a b : List PyData} {i : Nat} {x y : PyData}, a[i]? = some x → b[i]? = some y → (a.take (i + 1)).zip (b.take (i + 1)) = (a.take i).zip (b.take i) ++ [(x, y)]
  | [], _, i, _, _, h, _ => by simp at h
  | _ :: _, [], i, _, _, _, h => by simp at h
  | a :: as, b :: bs, 0, x, y, h, k => by
    have e := Option.some.inj h
    have f := Option.some.inj k
    subst e f
    rfl
  | a :: as, b :: bs, i + 1, x, y, h, k => by
    have ih := zip_take (a := as) (b := bs) (i := i) h k
    show (a, b) :: (as.take (i + 1)).zip (bs.take (i + 1)) = (a, b) :: ((as.take i).zip (bs.take i)) ++ [(x, y)]
    rw [ih]
    rfl

def sqD (t : Bool) (ds : List PyData) : PyData := if t then .tuple ds else .list ds
theorem sqD_sz (t : Bool) (ds : List PyData) : szD (sqD t ds) = 1 + szL ds := by cases t <;> rfl
theorem Da.kind {G : Hp} {v : V} {d : PyData} (h : Da G v d) : (v = .non ∧ d = .none) ∨ (∃ b, v = .bl b ∧ d = .bool b) ∨ (∃ i, v = .int i ∧ d = .int i) ∨ (∃ x, v = .str x ∧ d = .str x) ∨
    ∃ a xs ds t, v = .ref a ∧ HasL G a xs ∧ (t = true → G a = some (.tup xs)) ∧ (t = false → G a = some (.lst xs)) ∧ DaAll G xs ds ∧ d = sqD t ds := by
  cases h with
  | non => exact .inl ⟨rfl, rfl⟩
  | bl b => exact .inr (.inl ⟨b, rfl, rfl⟩)
  | int i => exact .inr (.inr (.inl ⟨i, rfl, rfl⟩))
  | str x => exact .inr (.inr (.inr (.inl ⟨x, rfl, rfl⟩)))
  | lst a b => exact .inr (.inr (.inr (.inr ⟨_, _, _, false, rfl, .inl a, (fun z => nomatch z), fun _ => a, b, rfl⟩)))
  | tup a b => exact .inr (.inr (.inr (.inr ⟨_, _, _, true, rfl, .inr a, fun _ => a, (fun z => nomatch z), b, rfl⟩)))
/-- pairs that are still to be compared -/
structure Pr where
  a : Addr
  v : V
  w : V
  d : PyData
  e : PyData
def PairAt (G H : Hp) (x : Pr) : Prop := H x.a = some (.tup [x.v, x.w]) ∧ Da G x.v x.d ∧ Da G x.w x.e
def szP (ps : List Pr) : Nat := (ps.map fun x => szD x.d + szD x.e).sum
theorem szP_app (a b : List Pr) : szP (a ++ b) = szP a + szP b := by unfold szP; rw [List.map_append, List.sum_append]
theorem szP_one (x : Pr) : szP [x] = szD x.d + szD x.e := Nat.add_zero _
theorem szP_len : ∀ ps : List Pr, ps.length ≤ szP ps
  | [] => Nat.zero_le _
  | x :: r => by
    have := szP_len r
    have := szD_pos x.d
    show r.length + 1 ≤ (szD x.d + szD x.e) + szP r
    omega
def allP (ps : List Pr) : Bool := ps.all fun x => sameD x.d x.e
theorem allP_app (a b : List Pr) : allP (a ++ b) = (allP a && allP b) := List.all_append
theorem allP_one (x : Pr) : allP [x] = sameD x.d x.e := Bool.and_true _
theorem PairAt.new {G H H' : Hp} {x : Pr} {p : Addr} {o : HO} (h : PairAt G H x) (n : New H p o H') : PairAt G H' x := ⟨n.else h.1, h.2⟩
theorem PairAt.put {G H H' : Hp} {x : Pr} {l : Addr} {xs ys : List V} (h : PairAt G H x) (hl : H l = some (.lst xs)) (e : H' = upd H l (.lst ys)) : PairAt G H' x := ⟨upd_else e h.1 (ne_of h.1 hl (by intro z; cases z)), h.2⟩
theorem szL_takes (a : List PyData) (i : Nat) {d : PyData} (h : a[i]? = some d) : szL (a.take (i + 1)) = szL (a.take i) + szD d := by
  rw [List.take_add_one, h, szL_append]
  show _ + (szD d + 0) = _
  omega
/-- what `_law_same` promises -/
def spSame : Sp := fun vs H Q _ => ∃ (G : Hp) (v w : V) (d e : PyData), vs = [v, w] ∧ Same G H ∧ Da G v d ∧ Da G w e ∧ szD d ≤ 1900000 ∧ szD e ≤ 1900000 ∧ ∀ H', Same H H' → Q (.bl (sameD d e)) H'
def spIsWhole : Sp := fun vs H Q _ => ∃ (v : V) (d : PyData), vs = [v] ∧ Da H v d ∧ Q (.bl (isI d)) H
theorem isI_inst (d : PyData) (h : noDict d = true) : (instB d "int" && !instB d "bool") = isI d := by
  cases d <;> first | rfl | cases h | decide +kernel
theorem Da.nd {G : Hp} {v : V} {d : PyData} (h : Da G v d) : noDict d = true := by cases h <;> rfl
end Hd

namespace Hd
open PySem PySem.Spec PyProof.Rows L2
/-! ### == of lists of ints -/
theorem DpAll.ints {K : PySem.W.Frag} {H : Hp} : ∀ (ns : List Int), DpAll K H (ns.map V.int) (ns.map PyData.int)
  | [] => .nil
  | n :: ns => .cons (.int n) (DpAll.ints ns)
theorem eqv_ints : ∀ (ns ms : List Int), PyData.eqvAll (ns.map PyData.int) (ms.map PyData.int) = decide (ns = ms)
  | [], [] => rfl
  | [], _ :: _ => rfl
  | _ :: _, [] => rfl
  | a :: ns, b :: ms => by
    show (PyData.eqv (.int a) (.int b) && PyData.eqvAll (ns.map PyData.int) (ms.map PyData.int)) = _
    rw [eqv_ints ns ms]
    show ((a == b) && decide (ns = ms)) = decide (a :: ns = b :: ms)
    by_cases h : a = b
    · subst h
      by_cases k : ns = ms
      · subst k; simp
      · simp [k]
    · simp [h]
def rEqLI (K : PySem.W.Frag) : R2 := fun x y H Q => ∃ (a b : Addr) (ns ms : List Int), x = .ref a ∧ y = .ref b ∧ SqL K H a (ns.map V.int) ∧ SqL K H b (ms.map V.int) ∧ Q (.bl (decide (ns = ms))) H
theorem op_eqLI {X : Cx} (hu : X.A.units + 64 < cLine) : OpR X (compareOp .Eq) (rEqLI X.K) := opR_mono (op_eqD hu) fun x y H Q h => by
  obtain ⟨a, b, ns, ms, rfl, rfl, ha, hb, q⟩ := h
  refine ⟨.list (ns.map .int), .list (ms.map .int), .lst ha (DpAll.ints ns), .lst hb (DpAll.ints ms), PySem.W.ke_shaped_ints ns, PySem.W.ke_shaped_ints ms, ?_⟩
  rw [PyData.eqv, eqv_ints]
  exact q
/-! ### steps without a store -/
section
variable {G H G1 H1 H2 : Hp} {p l : Addr} {o : HO}
theorem Stq.loc2 (s : Stq G H G1 H1) (n : New H1 p o H2) : Stq G H G1 H2 ∧ G1 p = none ∧ H2 p = some o ∧ H p = none :=
  ⟨s.trans (Stq.loc s.gh n).1, (Stq.loc s.gh n).2.1, n.at, s.hh.free n.fr⟩
theorem Stq.know2 (s : Stq G H G1 H1) (n : New H1 p o H2) : ∃ G2, Stq G H G2 H2 ∧ Same G1 G2 ∧ G2 p = some o ∧ ∀ b, b ≠ p → G2 b = G1 b := by
  obtain ⟨G2, t, e, k⟩ := Stq.know s.gh n
  exact ⟨G2, s.trans t, t.gg, e, k⟩
theorem Stq.nw2 (s : Stq G H G1 H1) {b : Addr} {u : HO} (h : H b = some u) (g : G b = none) : G1 b = none := s.nw b (ne_none h) g
end
/-! ### what frozen says -/
def frz : Nat → PyData → PyData
  | k + 1, .list ds => .tuple [.str "list", .tuple (ds.map (frz k))]
  | k + 1, .tuple ds => .tuple [.str "tuple", .tuple (ds.map (frz k))]
  | _, d => d
theorem szL_map (f : PyData → PyData) (h : ∀ d, szD (f d) ≤ 8 * szD d) : ∀ ds, szL (ds.map f) ≤ 8 * szL ds
  | [] => Nat.le_refl _
  | d :: ds => by
    have h1 := h d
    have h2 := szL_map f h ds
    show szD (f d) + szL (ds.map f) ≤ 8 * (szD d + szL ds)
    omega
theorem frz_sz : ∀ (k : Nat) (d : PyData), szD (frz k d) ≤ 8 * szD d
  | 0, d => by
    have : frz 0 d = d := by cases d <;> rfl
    rw [this]
    omega
  | k + 1, d => by
    have ih := szL_map (frz k) (frz_sz k)
    cases d with
    | list ds =>
      have h1 := ih ds
      have e : szD (.str "list") ≤ 6 := by decide +kernel
      show 1 + (szD (.str "list") + (1 + szL (ds.map (frz k)) + 0)) ≤ 8 * (1 + szL ds)
      omega
    | tuple ds =>
      have h1 := ih ds
      have e : szD (.str "tuple") ≤ 6 := by decide +kernel
      show 1 + (szD (.str "tuple") + (1 + szL (ds.map (frz k)) + 0)) ≤ 8 * (1 + szL ds)
      omega
    | str x => show szD (.str x) ≤ 8 * szD (.str x); omega
    | _ => show 1 ≤ 8 * 1; omega
def spFrozen (k : Nat) : Sp := fun vs H Q _ => ∃ (G : Hp) (v : V) (d : PyData) (n : Int), vs = [v, .int n] ∧ Same G H ∧ Da G v d ∧ szD d ≤ 300000 ∧ 0 ≤ n ∧ n < k ∧ ∀ (v' : V) (G' H' : Hp), Stq G H G' H' → Da G' v' (frz n.toNat d) → Q v' H'
/-! ### what counted says -/
def isIt (k : Int) : PyData → Bool
  | .int i => decide (i = k)
  | _ => false
def cntD : PyData → Bool
  | .tuple ds => decide (ds.length ≤ 12) && (List.range ds.length).all fun (k : Nat) => decide ((ds.filter (isIt (k : Int))).length = 1)
  | _ => false
def spCounted : Sp := fun vs H Q _ => ∃ (G : Hp) (v : V) (d : PyData), vs = [v] ∧ Same G H ∧ Da G v d ∧ szD d ≤ 300000 ∧ ∀ H', Same H H' → Q (.bl (cntD d)) H'
/-! ### what is_move says -/
def isNum (d : PyData) (lo hi : Int) : Bool := match d with
  | .int i => decide (lo ≤ i) && decide (i ≤ hi)
  | _ => false
def intsOf : List PyData → List Int
  | [] => []
  | .int i :: r => i :: intsOf r
  | _ :: r => intsOf r
def mvOn (n : Int) : PyData → Bool
  | .tuple ds => decide (((ds.length : Nat) : Int) = n) && (ds.all (fun d => isNum d 0 (n - 1)) && decide ((intsOf ds).Perm ((List.range n.toNat).map fun (i : Nat) => (i : Int))))
  | _ => false
def mvD : PyData → Bool
  | .tuple ds => decide (ds.length ≤ 12) && mvOn ds.length (.tuple ds)
  | _ => false
def spIsNum : Sp := fun vs H Q _ => ∃ v d lo hi, vs = [v, .int lo, .int hi] ∧ Da H v d ∧ Q (.bl (isNum d lo hi)) H
def spIsPoint : Sp := fun vs H Q _ => ∃ v d n, vs = [.int n, v] ∧ Da H v d ∧ Q (.bl (isNum d 0 (n - 1))) H
def spIsMoveOn : Sp := fun vs H Q _ => ∃ (G : Hp) (v : V) (d : PyData) (n : Int), vs = [.int n, v] ∧ Same G H ∧ Da G v d ∧ szD d ≤ 1000000 ∧ ∀ H', Same H H' → Q (.bl (mvOn n d)) H'
def spIsMove : Sp := fun vs H Q _ => ∃ (G : Hp) (v : V) (d : PyData), vs = [v] ∧ Same G H ∧ Da G v d ∧ szD d ≤ 1000000 ∧ ∀ H', Same H H' → Q (.bl (mvD d)) H'
end Hd

namespace Hd
open PySem PySem.Spec PyProof.Rows L2
def rngI (n : Int) : List Int := (List.range n.toNat).map fun (i : Nat) => (i : Int)
theorem rngI_len (n : Int) : (rngI n).length = n.toNat := by unfold rngI; rw [List.length_map, List.length_range]
theorem rngI_mem {n k : Int} : k ∈ rngI n ↔ 0 ≤ k ∧ k < n := by
  unfold rngI
  rw [List.mem_map]
  constructor
  · rintro ⟨i, hi, rfl⟩
    have := List.mem_range.mp hi
    omega
  · intro h
    exact ⟨k.toNat, List.mem_range.mpr (by omega), by omega⟩
theorem rngI_nodup (n : Int) : (rngI n).Nodup := by
  unfold rngI
  exact List.Pairwise.map (R := (· ≠ ·)) _ (fun a b h e => h (by omega)) List.nodup_range
theorem rngI_sorted (n : Int) : (rngI n).Pairwise (· ≤ ·) := by
  unfold rngI
  exact List.Pairwise.map (R := (· < ·)) _ (fun a b h => by omega) List.pairwise_lt_range
theorem rgV_rngI (n : Int) : rgV 0 n = (rngI n).map V.int := by
  unfold rgV rngI
  rw [List.map_map, Int.sub_zero]
  refine List.map_congr_left fun i _ => ?_
  show V.int (0 + (i : Int)) = V.int (i : Int)
  rw [Int.zero_add]
theorem perm_of_subset : ∀ {S L : List Int}, S.Nodup → (∀ x ∈ S, x ∈ L) → L.length ≤ S.length → L.Perm S
  | [], L, _, _, h => by
    rw [List.eq_nil_of_length_eq_zero (Nat.le_zero.mp h)]
  | a :: S, L, nd, hs, hl => by
    have ha := hs a List.mem_cons_self
    have nd2 := List.nodup_cons.mp nd
    have p := List.perm_cons_erase ha
    have hl2 := p.length_eq
    rw [List.length_cons] at hl2 hl
    refine p.trans (List.Perm.cons a (perm_of_subset nd2.2 (fun x hx => ?_) (by omega)))
    refine (List.mem_erase_of_ne (show x ≠ a from fun e => nd2.1 (e ▸ hx))).mpr (hs x (List.mem_cons_of_mem _ hx))
theorem ints_len : ∀ ds : List PyData, (intsOf ds).length ≤ ds.length
  | [] => Nat.le_refl _
  | .int i :: r => Nat.succ_le_succ (ints_len r)
  | .none :: r => Nat.le_succ_of_le (ints_len r)
  | .bool _ :: r => Nat.le_succ_of_le (ints_len r)
  | .str _ :: r => Nat.le_succ_of_le (ints_len r)
  | .list _ :: r => Nat.le_succ_of_le (ints_len r)
  | .tuple _ :: r => Nat.le_succ_of_le (ints_len r)
  | .dict _ :: r => Nat.le_succ_of_le (ints_len r)
theorem ints_all : ∀ ds : List PyData, (intsOf ds).length = ds.length → ds = (intsOf ds).map PyData.int
  | [], _ => rfl
  | .int i :: r, h => by
    have := ints_all r (Nat.succ.inj h)
    show PyData.int i :: r = PyData.int i :: (intsOf r).map PyData.int
    rw [← this]
  | .none :: r, h => absurd h (Nat.ne_of_lt (Nat.lt_succ_of_le (ints_len r)))
  | .bool _ :: r, h => absurd h (Nat.ne_of_lt (Nat.lt_succ_of_le (ints_len r)))
  | .str _ :: r, h => absurd h (Nat.ne_of_lt (Nat.lt_succ_of_le (ints_len r)))
  | .list _ :: r, h => absurd h (Nat.ne_of_lt (Nat.lt_succ_of_le (ints_len r)))
  | .tuple _ :: r, h => absurd h (Nat.ne_of_lt (Nat.lt_succ_of_le (ints_len r)))
  | .dict _ :: r, h => absurd h (Nat.ne_of_lt (Nat.lt_succ_of_le (ints_len r)))
theorem ints_count (k : Int) : ∀ ds : List PyData, (ds.filter (isIt k)).length = (intsOf ds).count k
  | [] => rfl
  | .int i :: r => by
    have ih := ints_count k r
    show ((PyData.int i :: r).filter (isIt k)).length = (i :: intsOf r).count k
    rw [List.filter_cons, List.count_cons]
    by_cases h : i = k
    · rw [if_pos (show isIt k (.int i) = true from decide_eq_true h), List.length_cons, ih, if_pos (by simpa using h)]
    · rw [if_neg (by show ¬ decide (i = k) = true; rw [decide_eq_false h]; decide), ih, if_neg (by simpa using h)]
      rfl
  | .none :: r => ints_count k r
  | .bool _ :: r => ints_count k r
  | .str _ :: r => ints_count k r
  | .list _ :: r => ints_count k r
  | .tuple _ :: r => ints_count k r
  | .dict _ :: r => ints_count k r
theorem ints_isNum {ds : List PyData} {lo hi : Int} (h : ds.all (fun d => isNum d lo hi) = true) : ds = (intsOf ds).map PyData.int := by
  induction ds with
  | nil => rfl
  | cons d r ih =>
    rw [List.all_cons, Bool.and_eq_true] at h
    cases d with
    | int i =>
      show PyData.int i :: r = PyData.int i :: (intsOf r).map PyData.int
      rw [← ih h.2]
    | _ => cases h.1
theorem mv_cnt (d : PyData) : mvD d = cntD d := by
  cases d with
  | tuple ds =>
    show (decide (ds.length ≤ 12) && (decide (((ds.length : Nat) : Int) = ((ds.length : Nat) : Int)) && (ds.all (fun d => isNum d 0 (((ds.length : Nat) : Int) - 1)) && decide ((intsOf ds).Perm (rngI ((ds.length : Nat) : Int)))))) = (decide (ds.length ≤ 12) && (List.range ds.length).all fun (k : Nat) => decide ((ds.filter (isIt (k : Int))).length = 1))
    rw [decide_eq_true (rfl : ((ds.length : Nat) : Int) = ((ds.length : Nat) : Int)), Bool.true_and]
    refine congrArg _ (Bool.eq_iff_iff.mpr ?_)
    rw [Bool.and_eq_true, decide_eq_true_eq, List.all_eq_true, List.all_eq_true]
    constructor
    · rintro ⟨h1, h2⟩ k hk
      have hk := List.mem_range.mp hk
      refine decide_eq_true ?_
      rw [ints_count, h2.count_eq]
      exact (rngI_nodup _).count (a := (k : Int)) ▸ (if_pos (rngI_mem.mpr ⟨by omega, by omega⟩))
    · intro h
      have mem : ∀ x ∈ rngI ((ds.length : Nat) : Int), x ∈ intsOf ds := fun x hx => by
        have hx := rngI_mem.mp hx
        have := of_decide_eq_true (h x.toNat (List.mem_range.mpr (by omega)))
        rw [ints_count, show ((x.toNat : Nat) : Int) = x by omega] at this
        exact List.count_pos_iff.mp (by omega)
      have pm := perm_of_subset (rngI_nodup _) mem (by rw [rngI_len]; have := ints_len ds; omega)
      refine ⟨fun d hd => ?_, pm⟩
      have e := ints_all ds (by rw [pm.length_eq, rngI_len]; omega)
      rw [e] at hd
      obtain ⟨i, hi, rfl⟩ := List.mem_map.mp hd
      have := rngI_mem.mp (pm.mem_iff.mp hi)
      show (decide (0 ≤ i) && decide (i ≤ ((ds.length : Nat) : Int) - 1)) = true
      rw [decide_eq_true (by omega), decide_eq_true (by omega)]
      rfl
  | _ => rfl
theorem vals_int {G : Hp} : ∀ {xs : List V} {ns : List Int}, DaAll G xs (ns.map PyData.int) → xs = ns.map V.int
  | [], [], _ => rfl
  | [], _ :: _, h => by cases h
  | _ :: _, [], h => by cases h
  | x :: xs, n :: ns, h => by
    cases h with
    | cons a b =>
      cases a
      rw [vals_int (ns := ns) b]
      rfl
end Hd

namespace L2
open PySem PySem.Spec PyProof.Rows
/-- a tuple times an int that gives the tuple itself: it is empty, or the int is 1 -/
theorem mulSelf (t : Addr) (us : Array Value) (ep : Nat) (od : Option Addr) (sl : Array (Option Value)) (k : Int) (tk : Tok) (fits : (decide (k < -(2 ^ 63)) || decide (k ≥ 2 ^ 63)) = false) (self : (us.isEmpty || k == 1) = true) :
    Meets (Builtin.«tuple.__mul__» ⟨[.ref t, .int k tk], []⟩) (fun _ R s => s.heap.get? t = some { cls := .type "tuple", dict := od, data := .seq us ep, slots := sl } ∧ R (.ok (.ret (Value.ref t))) s) := by
  refine .of_wp fun prog w A R s hs => ?_
  obtain ⟨hp, gn, dn, tn, os⟩ := s
  obtain ⟨at0, fin⟩ := hs
  have ix := AutoSeq1.idx_int
  wp_walk using wpAny_loadPart' at0
  refine wpAny_ite_false (decide_eq_false fun z => Bool.false_ne_true (fits.symm.trans z)) ?_
  wp_walk using wpAny_loadPart' at0
  exact ⟨_, rfl, fin⟩
end L2
namespace Hd
open PySem PySem.Spec PyProof.Rows L2
/-- t * k of a tuple, k at least 1 -/
def rRepA (K : PySem.W.Frag) : R2 := fun x y H Q => ∃ l k xs, x = .ref l ∧ y = .int k ∧ SqT K H l xs ∧ 1 ≤ k ∧ k ≤ 1000000 ∧ xs.length * k.toNat ≤ 1000000 ∧
  ((xs = [] ∨ k = 1) → Q (.ref l) H) ∧ (¬ (xs = [] ∨ k = 1) → ∀ p H2, New H p (.tup (List.replicate k.toNat xs).flatten) H2 → Q (.ref p) H2)
theorem op_repA {X : Cx} : OpR X (binaryOp .Mult) (rRepA X.K) := by
  intro pins s σ H x y v u Q I rx ry h
  obtain ⟨t, k, xs, rfl, rfl, hT, one, top, all, qs, qn⟩ := h
  cases rx
  obtain ⟨tk, rfl⟩ := ry
  obtain ⟨us, r, ⟨⟨cls, od, data, sl⟩, at0, cl0, ep, dat⟩, _⟩ := I.tuple hT
  simp only at cl0 dat
  subst cl0 dat
  have lu : us.length = xs.length := r.length.symm
  have su : us.toArray.size = xs.length := (List.size_toArray ..).trans lu
  have fits : (decide (k < -(2 ^ 63)) || decide (k ≥ 2 ^ 63)) = false := by simp only [Bool.or_eq_false_iff, decide_eq_false_iff_not]; omega
  by_cases self : xs = [] ∨ k = 1
  · have e : (us.toArray.isEmpty || k == 1) = true := by
      cases self with
      | inl z => cases z; cases us with
        | nil => rfl
        | cons _ _ => cases lu
      | inr z => rw [z, beq_self_eq_true, Bool.or_true]
    refine wpAny_binaryOp_repeat_ref (T := "tuple") (U := "int") (by decide) ⟨_, at0, rfl⟩ (fun s' => typeIs_int s' k tk) noFill_tuple_mul F.fills_int_mul F.slot_int_rmul repeat_tuple F.slot_int_index.lookup ?_
    refine call_meets F.slot_int_rmul (typeIs_int s k tk) F.entry_int_rmul (F.args_int_rmul_2 _ _) (int_rmul_tuple k tk t us.toArray ep od sl) ⟨at0, rfl, ⟨_, at0, rfl⟩, ?_⟩
    exact call_meets F.slot_tuple_mul ⟨_, at0, rfl⟩ F.entry_tuple_mul (F.args_tuple_mul_2 _ _) (mulSelf t us.toArray ep od sl k tk fits e) ⟨at0, .ref t, H, I, rfl, qs self⟩
  · have full : us.toArray.isEmpty = false := by
      cases us with
      | nil => exact absurd (.inl (List.eq_nil_of_length_eq_zero lu.symm)) self
      | cons _ _ => rfl
    have k1 : (k == 1) = false := beq_eq_false_iff_ne.mpr fun z => self (.inr z)
    have n1 : (us.toArray.isEmpty || k == 1) = false := by rw [full, k1]; rfl
    have n2 : (decide (k ≤ 0) || us.toArray.isEmpty) = false := by rw [full, decide_eq_false (by omega)]; rfl
    have prod : ((us.toArray.size : Nat) : Int) * k ≤ 1000000 := by
      rw [su, ← Int.toNat_of_nonneg (show 0 ≤ k by omega), ← Int.natCast_mul]
      exact Int.ofNat_le.mpr all
    have room : (List.replicate k.toNat us).flatten.length ≤ sizeLine := by
      rw [PyProof.Rows.lm_len_rep_flat, lu, Nat.mul_comm]
      exact Hd.ln all
    have roomX : (List.replicate k.toNat xs).flatten.length ≤ sizeLine := by
      rw [PyProof.Rows.lm_len_rep_flat, Nat.mul_comm]
      exact Hd.ln all
    have n4 : Builtin.Tuple.tupleTooMany (((us.toArray.size : Nat) : Int) * k) = false := by
      unfold Builtin.Tuple.tupleTooMany
      exact decide_eq_false (by rw [sizeLine_eq]; omega)
    refine wpAny_binaryOp_repeat_ref (T := "tuple") (U := "int") (by decide) ⟨_, at0, rfl⟩ (fun s' => typeIs_int s' k tk) noFill_tuple_mul F.fills_int_mul F.slot_int_rmul repeat_tuple F.slot_int_index.lookup ?_
    refine call_meets F.slot_int_rmul (typeIs_int s k tk) F.entry_int_rmul (F.args_int_rmul_2 _ _) (int_rmul_tuple k tk t us.toArray ep od sl) ⟨at0, rfl, ⟨_, at0, rfl⟩, ?_⟩
    refine call_meets F.slot_tuple_mul ⟨_, at0, rfl⟩ F.entry_tuple_mul (F.args_tuple_mul_2 _ _) (tuple_mulW t us.toArray ep od sl k tk fits n1 n2 (by omega) n4 (by rw [size_rep, List.size_toArray]; exact room)) ⟨at0, ?_⟩
    rw [size_rep]
    have fresh : H s.heap.objs.size = none := I.hok.fresh (Nat.le_refl _)
    have I2 := I.laid (t' := s.toks) (a := s.heap.objs.size) (o := .tup (List.replicate k.toNat xs).flatten) (h' := s.heap.push { cls := .type "tuple", data := .seq (List.replicate k.toNat us).flatten.toArray }) (fun _ _ z => Heap.get?_push_of_some _ z) (Nat.le_refl _) ⟨roomX, _, r.rep k.toNat, IsTup.new _ _⟩
    exact ⟨.ref s.heap.objs.size, _, I2, rfl, qn self _ _ ⟨fresh, rfl⟩⟩
/-! ### xs[::-1] -/
section
variable {X : Cx}
def tRevN (K : PySem.W.Frag) (te : TE) : TE := fun σ H Q => te σ H fun x H1 => ∃ a xs, x = .ref a ∧ SqL K H1 a xs ∧ ∀ p H2, New H1 p (.lst xs.reverse) H2 → Q (.ref p) H2
theorem rev_eq (K : PySem.W.Frag) (te : TE) : tRevN K te = tRevL K te := funext fun σ => funext fun H => funext fun Q => congrArg (te σ H) (funext fun x => funext fun H1 => propext
  ⟨fun ⟨a, xs, e, h, q⟩ => ⟨a, xs, e, h, newAll (K := fun p H2 => Q (.ref p) H2) |>.mp q⟩, fun ⟨a, xs, e, h, q⟩ => ⟨a, xs, e, h, newAll (K := fun p H2 => Q (.ref p) H2) |>.mpr q⟩⟩)
theorem pe_revN {e : Expr} {te : TE} {k : Nat} {p1 p2 p3 pos : Pos} (he : PE X e te) : PE X (.Subscript e (.Slice none none (some (.UnaryOp .USub (.Constant (.int 1) k p1) p2)) p3) pos) (tRevN X.K te) := by
  rw [rev_eq]
  exact pe_revL he
end
end Hd

namespace Hd
open PySem PySem.Spec PyProof.Rows L2
/-! ### moves -/
theorem isMv_of {ns : List Int} {n : Int} (h0 : 0 ≤ n) (hl : ns.length = n.toNat) (h : ∀ x, 0 ≤ x → x < n → x ∈ ns) : IsMv ns n :=
  perm_of_subset (rngI_nodup n) (fun x hx => h x (rngI_mem.mp hx).1 (rngI_mem.mp hx).2) (by rw [hl]; exact Nat.le_of_eq (rngI_len n).symm)
theorem IsMv.len {ns : List Int} {n : Int} (h : IsMv ns n) : ns.length = n.toNat := by
  have := List.Perm.length_eq h
  rwa [show ((List.range n.toNat).map fun (i : Nat) => (i : Int)) = rngI n from rfl, rngI_len] at this
theorem IsMv.mem {ns : List Int} {n : Int} (h : IsMv ns n) {x : Int} : x ∈ ns ↔ 0 ≤ x ∧ x < n := (List.Perm.mem_iff h).trans rngI_mem
theorem IsMv.nodup {ns : List Int} {n : Int} (h : IsMv ns n) : ns.Nodup := (List.Perm.nodup_iff h).mpr (rngI_nodup n)
def intV : V → Int
  | .int i => i
  | _ => 0
theorem map_intV (ns : List Int) : (ns.map V.int).map intV = ns := by
  rw [List.map_map]
  exact List.map_id'' (fun _ => rfl) _
/-- a part of a list of ints is a list of ints -/
theorem perm_ints {ys rest : List V} {ns : List Int} (h : (ys ++ rest).Perm (ns.map V.int)) : ∃ (rs ms : List Int), ys = rs.map V.int ∧ rest = ms.map V.int ∧ (rs ++ ms).Perm ns := by
  have all : ∀ v ∈ ys ++ rest, ∃ i, v = V.int i := fun v hv => by
    obtain ⟨i, _, e⟩ := List.mem_map.mp (h.mem_iff.mp hv)
    exact ⟨i, e.symm⟩
  have one : ∀ zs : List V, (∀ v ∈ zs, ∃ i, v = V.int i) → zs = (zs.map intV).map V.int := fun zs hz => by
    induction zs with
    | nil => rfl
    | cons v r ih =>
      obtain ⟨i, rfl⟩ := hz v List.mem_cons_self
      rw [List.map_cons, List.map_cons, ← ih fun w hw => hz w (List.mem_cons_of_mem _ hw)]
      rfl
  refine ⟨ys.map intV, rest.map intV, one _ fun v hv => all v (List.mem_append_left _ hv), one _ fun v hv => all v (List.mem_append_right _ hv), ?_⟩
  have := h.map intV
  rwa [map_intV, List.map_append] at this
theorem atI_ints {ns : List Int} {d : Int} (h0 : 0 ≤ d) (h1 : d < (ns.length : Nat)) : ∃ n, ns[d.toNat]? = some n ∧ atI (ns.map V.int) d = some (.int n) ∧ n ∈ ns := by
  obtain ⟨x, e, f, _⟩ := at_int (xs := ns.map V.int) h0 (by rw [List.length_map]; exact h1)
  rw [List.getElem?_map] at e
  cases g : ns[d.toNat]? with
  | none => rw [g] at e; cases e
  | some n =>
    rw [g] at e
    cases e
    exact ⟨n, rfl, f, List.mem_of_getElem? g⟩
/-- the ring of the points rs on n points, the first i of them set -/
def Ring (n : Nat) (rs : List Int) (i : Nat) (L : List Int) : Prop :=
  L.length = n ∧ (∀ j r, j < i → rs[j]? = some r → ∃ t, rs[(j + 1) % rs.length]? = some t ∧ L[r.toNat]? = some t) ∧
    ∀ x : Nat, x < n → (∀ j, j < i → rs[j]? ≠ some (x : Int)) → L[x]? = some (x : Int)
theorem Ring.start (n : Int) (rs : List Int) : Ring n.toNat rs 0 (rngI n) := by
  refine ⟨rngI_len n, fun j r h => absurd h (Nat.not_lt_zero _), fun x hx _ => ?_⟩
  unfold rngI
  rw [List.getElem?_map, List.getElem?_range hx]
  rfl
theorem Ring.step {n : Nat} {rs : List Int} {i : Nat} {L : List Int} {r t : Int} (h : Ring n rs i L) (nd : rs.Nodup) (hb : ∀ x ∈ rs, 0 ≤ x ∧ x < (n : Int)) (hr : rs[i]? = some r) (ht : rs[(i + 1) % rs.length]? = some t) : Ring n rs (i + 1) (L.set r.toNat t) := by
  obtain ⟨h1, h2, h3⟩ := h
  have br := hb r (List.mem_of_getElem? hr)
  refine ⟨by rw [List.length_set]; exact h1, fun j q hj hq => ?_, fun x hx hno => ?_⟩
  · by_cases e : j = i
    · subst e
      rw [hr] at hq
      cases hq
      exact ⟨t, ht, List.getElem?_set_self (by omega)⟩
    · obtain ⟨u, f1, f2⟩ := h2 j q (by omega) hq
      refine ⟨u, f1, ?_⟩
      have bq := hb q (List.mem_of_getElem? hq)
      have ne : r ≠ q := fun z => by
        subst z
        obtain ⟨a1, a2⟩ := List.getElem?_eq_some_iff.mp hr
        obtain ⟨b1, b2⟩ := List.getElem?_eq_some_iff.mp hq
        exact e ((List.getElem_inj nd).mp (b2.trans a2.symm))
      rw [List.getElem?_set_ne (by omega)]
      exact f2
  · have ne : (x : Int) ≠ r := fun z => hno i (by omega) (by rw [z]; exact hr)
    rw [List.getElem?_set_ne (by omega)]
    exact h3 x hx fun j hj => hno j (by omega)
theorem Ring.mv {n : Int} {rs L : List Int} (h0 : 0 ≤ n) (h : Ring n.toNat rs rs.length L) (hb : ∀ x ∈ rs, 0 ≤ x ∧ x < n) : IsMv L n := by
  obtain ⟨h1, h2, h3⟩ := h
  refine isMv_of h0 h1 fun x x0 x1 => ?_
  by_cases hx : x ∈ rs
  · obtain ⟨k, hk⟩ := List.getElem?_of_mem hx
    have kl := (List.getElem?_eq_some_iff.mp hk).1
    -- the one in front of it
    have : ∃ j, j < rs.length ∧ (j + 1) % rs.length = k := by
      by_cases k0 : k = 0
      · exact ⟨rs.length - 1, by omega, by rw [k0, Nat.sub_add_cancel (by omega), Nat.mod_self]⟩
      · exact ⟨k - 1, by omega, by rw [Nat.sub_add_cancel (by omega)]; exact Nat.mod_eq_of_lt kl⟩
    obtain ⟨j, jl, je⟩ := this
    obtain ⟨t, f1, f2⟩ := h2 j rs[j] jl (List.getElem?_eq_getElem jl)
    rw [je, hk] at f1
    cases f1
    exact List.mem_of_getElem? f2
  · have := h3 x.toNat (by omega) fun j hj e => by
      rw [show ((x.toNat : Nat) : Int) = x by omega] at e
      exact hx (List.mem_of_getElem? e)
    rw [show ((x.toNat : Nat) : Int) = x by omega] at this
    exact List.mem_of_getElem? this
theorem shift_mv {n s : Int} (h0 : 0 < n) : IsMv ((List.range n.toNat).map fun (k : Nat) => ((k : Int) + s) % n) n := by
  refine isMv_of (by omega) (by rw [List.length_map, List.length_range]) fun x x0 x1 => ?_
  refine List.mem_map.mpr ⟨((x - s) % n).toNat, List.mem_range.mpr ?_, ?_⟩
  · have a := Int.emod_nonneg (x - s) (show n ≠ 0 by omega)
    have b := Int.emod_lt_of_pos (x - s) h0
    omega
  · have a := Int.emod_nonneg (x - s) (show n ≠ 0 by omega)
    rw [Int.toNat_of_nonneg a, Int.emod_add_emod, Int.sub_add_cancel]
    exact Int.emod_eq_of_lt x0 x1
theorem turn_mv {n : Int} (h0 : 0 ≤ n) : IsMv ((List.range n.toNat).map fun (k : Nat) => n - 1 - (k : Int)) n := by
  refine isMv_of h0 (by rw [List.length_map, List.length_range]) fun x x0 x1 => ?_
  exact List.mem_map.mpr ⟨(n - 1 - x).toNat, List.mem_range.mpr (by omega), by omega⟩
theorem rIndex_ints {K : PySem.W.Frag} {H : Hp} {Q : VK} {a : Addr} {ns : List Int} {k : Int} (h : H a = some (.lst (ns.map V.int))) (nd : ns.Nodup) (m : k ∈ ns) (q : ∀ j : Nat, j < ns.length → ns[j]? = some k → Q (.int (j : Int)) H) : rIndex K (.ref a) [.int k] H Q := by
  obtain ⟨j, hj⟩ := List.getElem?_of_mem m
  have jl := (List.getElem?_eq_some_iff.mp hj).1
  refine ⟨a, _, .int k, j, .int k, rfl, rfl, .of h, rfl, List.all_eq_true.mpr fun v hv => ?_, by rw [List.getElem?_map, hj]; rfl, by simp [eqV], fun i z hi hz => ?_, q j jl hj⟩
  · obtain ⟨i, _, rfl⟩ := List.mem_map.mp hv
    rfl
  · rw [List.getElem?_map] at hz
    cases e : ns[i]? with
    | none => rw [e] at hz; cases hz
    | some t =>
      rw [e] at hz
      cases hz
      have ne : t ≠ k := fun z => by
        subst z
        obtain ⟨a1, a2⟩ := List.getElem?_eq_some_iff.mp e
        obtain ⟨b1, b2⟩ := List.getElem?_eq_some_iff.mp hj
        have := (List.getElem_inj nd).mp (a2.trans b2.symm)
        omega
      show (t == k) = false
      exact beq_eq_false_iff_ne.mpr ne
theorem flat_ints (ns : List Int) : (ns.map V.int).all flatV = true := List.all_eq_true.mpr fun v hv => by
  obtain ⟨i, _, rfl⟩ := List.mem_map.mp hv
  rfl
theorem index_ints {ns : List Int} {k : Int} (nd : ns.Nodup) (m : k ∈ ns) : ∃ (j : Nat) (z : V), (ns.map V.int)[j]? = some z ∧ eqV z (.int k) = true ∧ (∀ (i : Nat) (z' : V), i < j → (ns.map V.int)[i]? = some z' → eqV z' (.int k) = false) ∧ j < ns.length := by
  obtain ⟨j, hj⟩ := List.getElem?_of_mem m
  have jl := (List.getElem?_eq_some_iff.mp hj).1
  refine ⟨j, .int k, by rw [List.getElem?_map, hj]; rfl, by simp [eqV], fun i z hi hz => ?_, jl⟩
  rw [List.getElem?_map] at hz
  cases e : ns[i]? with
  | none => rw [e] at hz; cases hz
  | some t =>
    rw [e] at hz
    cases hz
    have ne : t ≠ k := fun z => by
      subst z
      obtain ⟨a1, a2⟩ := List.getElem?_eq_some_iff.mp e
      obtain ⟨b1, b2⟩ := List.getElem?_eq_some_iff.mp hj
      have := (List.getElem_inj nd).mp (a2.trans b2.symm)
      omega
    show (t == k) = false
    exact beq_eq_false_iff_ne.mpr ne
def spBadMove : Sp := fun vs H Q _ => ∃ (S : Sr) (G : Hp) (a : Addr) (ns : List Int) (n : Int), vs = [.ref S.a, .ref a] ∧ Wd S G H ∧ G a = some (.tup (ns.map V.int)) ∧ IsMv ns n ∧ 0 ≤ n ∧ n ≤ 1000 ∧
  ∀ (v : V) (d : PyData) (G' H' : Hp), Go S G H G' H' → Da G' v d → szD d ≤ 1300 → Q v H'
theorem DaAll.erase {G : Hp} {vs : List V} {ds : List PyData} (n : Nat) (h : DaAll G vs ds) : DaAll G (vs.eraseIdx n) (ds.eraseIdx n) := by
  rw [List.eraseIdx_eq_take_drop_succ, List.eraseIdx_eq_take_drop_succ]
  exact (h.take n).append (h.drop (n + 1))
theorem szL_erase (n : Nat) (ds : List PyData) : szL (ds.eraseIdx n) ≤ szL ds := by
  rw [List.eraseIdx_eq_take_drop_succ, szL_append]
  have h1 := szL_take ds n
  have h2 := szL_take (ds.drop n) 1
  rw [List.drop_drop] at h2
  omega
theorem rngI_mv {n : Int} : IsMv (rngI n) n := List.Perm.refl _
end Hd

namespace Hd
open PySem PySem.Spec PyProof.Rows L2
theorem str_nil {z : Str} (h : z.length = 0) : z = Str.ofString "" := by
  obtain ⟨c⟩ := z
  have e : c = #[] := Array.eq_empty_of_size_eq_zero h
  subst e
  rfl
/-- a value without parts -/
def Flat (v : V) (d : PyData) : Prop := (v = .non ∧ d = .none) ∨ (∃ b, v = .bl b ∧ d = .bool b) ∨ (∃ i, v = .int i ∧ d = .int i) ∨ ∃ x, v = .str x ∧ d = .str x
theorem Flat.da {G : Hp} {v : V} {d : PyData} (h : Flat v d) : Da G v d := by
  rcases h with ⟨rfl, rfl⟩ | ⟨b, rfl, rfl⟩ | ⟨i, rfl, rfl⟩ | ⟨x, rfl, rfl⟩
  · exact .non
  · exact .bl b
  · exact .int i
  · exact .str x
def spBentText : Sp := fun vs H Q _ => ∃ (S : Sr) (G : Hp) (z : Str), vs = [.ref S.a, .str z] ∧ Wd S G H ∧ z.length ≤ 100000 ∧ ∀ (z' : Str) (H' : Hp), z'.length ≤ 4 * z.length + 4 → Go S G H G H' → Q (.str z') H'
def spBentLeaf : Sp := fun vs H Q _ => ∃ (S : Sr) (G : Hp) (v : V) (d : PyData), vs = [.ref S.a, v] ∧ Wd S G H ∧ Flat v d ∧ szD d ≤ 100000 ∧ ∀ (v' : V) (d' : PyData) (G' H' : Hp), Da G' v' d' → szD d' ≤ 4 * szD d + 200 → Go S G H G' H' → Q v' H'
def spBentPart : Sp := fun vs H Q _ => ∃ (S : Sr) (G : Hp) (a : Addr) (xs : List V) (ds : List PyData) (t : Bool), vs = [.ref S.a, .ref a] ∧ Wd S G H ∧ G a = some (if t then .tup xs else .lst xs) ∧ DaAll G xs ds ∧ szL ds ≤ 100000 ∧
  ∀ (v' : V) (d' : PyData) (G' H' : Hp), Da G' v' d' → szD d' ≤ 4 * szL ds + 300 → Go S G H G' H' → Q v' H'
def cutD (ds : List PyData) (lo hi : Option Int) : List PyData := (ds.drop (HT.sIx ds.length 0 lo)).take (HT.sIx ds.length ds.length hi - HT.sIx ds.length 0 lo)
theorem DaAll.cut {G : Hp} {xs : List V} {ds : List PyData} (h : DaAll G xs ds) (lo hi : Option Int) : DaAll G (cutV xs lo hi) (cutD ds lo hi) := by
  unfold cutV cutD
  rw [h.length]
  exact (h.drop _).take _
theorem szL_cut (ds : List PyData) (lo hi : Option Int) : szL (cutD ds lo hi) ≤ szL ds := by
  unfold cutD
  have h1 := szL_take ds (HT.sIx ds.length 0 lo)
  have h2 := szL_take (ds.drop (HT.sIx ds.length 0 lo)) (HT.sIx ds.length ds.length hi - HT.sIx ds.length 0 lo)
  omega
/-- a container on the way down: its object, its items, their data, its kind, the place that is gone to; and the tuple that keeps it -/
structure Pth where
  tp : Addr
  a : Addr
  xs : List V
  ds : List PyData
  t : Bool
  i : Nat
def PthAt (G : Hp) (p : Pth) : Prop := G p.tp = some (.tup [.ref p.a, .int (p.i : Int)]) ∧ G p.a = some (if p.t then .tup p.xs else .lst p.xs) ∧ DaAll G p.xs p.ds ∧ p.i < p.xs.length
theorem PthAt.up {G G' : Hp} {p : Pth} (h : PthAt G p) (g : Same G G') : PthAt G' p := ⟨g _ _ h.1, g _ _ h.2.1, h.2.2.1.up g, h.2.2.2⟩
theorem Da.kind2 {G : Hp} {v : V} {d : PyData} (h : Da G v d) : (Flat v d ∧ instB d "list" = false ∧ instB d "tuple" = false) ∨ ∃ a xs ds t, v = .ref a ∧ G a = some (if t then HO.tup xs else HO.lst xs) ∧ DaAll G xs ds ∧ d = sqD t ds := by
  cases h with
  | non => exact .inl ⟨.inl ⟨rfl, rfl⟩, ib_none_list, ib_none_tuple⟩
  | bl b => exact .inl ⟨.inr (.inl ⟨b, rfl, rfl⟩), ib_bool_list b, ib_bool_tuple b⟩
  | int i => exact .inl ⟨.inr (.inr (.inl ⟨i, rfl, rfl⟩)), ib_int_list i, ib_int_tuple i⟩
  | str x => exact .inl ⟨.inr (.inr (.inr ⟨x, rfl, rfl⟩)), ib_str_list x, ib_str_tuple x⟩
  | lst a b => exact .inr ⟨_, _, _, false, rfl, a, b, rfl⟩
  | tup a b => exact .inr ⟨_, _, _, true, rfl, a, b, rfl⟩
theorem hasL_if {G : Hp} {a : Addr} {t : Bool} {xs : List V} (h : G a = some (if t then HO.tup xs else HO.lst xs)) : HasL G a xs := by
  cases t with
  | true => exact .inr h
  | false => exact .inl h
theorem sqD_lt (t : Bool) (ds : List PyData) : (instB (sqD t ds) "list" || instB (sqD t ds) "tuple") = true := by
  cases t with
  | true => rw [show instB (sqD true ds) "tuple" = true from ib_tuple_tuple ds, Bool.or_true]
  | false => rw [show instB (sqD false ds) "list" = true from ib_list_list ds]; rfl
def spBent : Sp := fun vs H Q _ => ∃ (S : Sr) (G : Hp) (v : V) (d : PyData), vs = [.ref S.a, v] ∧ Wd S G H ∧ Da G v d ∧ szD d ≤ 10000 ∧ ∀ (v' : V) (d' : PyData) (G' H' : Hp), Da G' v' d' → szD d' ≤ 9 * szD d + 310 → Go S G H G' H' → Q v' H'
def spJudged : Sp := fun vs H Q _ => ∃ (S : Sr) (G : Hp) (v : V) (d : PyData), vs = [.ref S.a, v] ∧ Wd S G H ∧ Da G v d ∧ szD d ≤ 1000 ∧ ∀ (v' : V) (d' : PyData) (G' H' : Hp), Da G' v' d' → szD d' ≤ 90000 → Go S G H G' H' → Q v' H'
def spNear : Sp := fun vs H Q _ => ∃ (S : Sr) (G : Hp), vs = [.ref S.a] ∧ Wd S G H ∧ ∀ (v' : V) (d' : PyData) (G' H' : Hp), Da G' v' d' → szD d' ≤ 210000 → Go S G H G' H' → Q v' H'
theorem flat_rep (k : Nat) (ns : List Int) : (List.replicate k (ns.map V.int)).flatten = ((List.replicate k ns).flatten).map V.int := by
  rw [List.map_flatten, List.map_replicate]
theorem len_rep (k : Nat) (ns : List Int) : ((List.replicate k ns).flatten).length = k * ns.length := by
  rw [List.length_flatten, List.map_replicate, List.sum_replicate_nat]
theorem Da.ints {G : Hp} {p : Addr} {ns : List Int} (h : G p = some (.tup (ns.map V.int))) : Da G (.ref p) (.tuple (ns.map PyData.int)) := .tup h (DaAll.ints ns)
theorem sz_ints (ns : List Int) : szD (.tuple (ns.map PyData.int)) = 1 + ns.length := by
  show 1 + szL _ = _
  rw [szL_ints]
theorem Go.pure {S : Sr} {G H G1 H1 H2 : Hp} (a : Go S G H G1 H1) (g : Same H1 H2) : Go S G H G1 H2 := a.q ⟨Same.refl _, a.gh.trans g, fun _ _ h => h, g⟩
theorem intsOf_map : ∀ ns : List Int, intsOf (ns.map PyData.int) = ns
  | [] => rfl
  | n :: r => by
    show n :: intsOf (r.map PyData.int) = n :: r
    rw [intsOf_map r]
theorem mvD_mv {ns : List Int} {n : Int} (h0 : 0 ≤ n) (h : IsMv ns n) (hn : n ≤ 12) : mvD (.tuple (ns.map PyData.int)) = true := by
  have ln := h.len
  have e : ((ns.length : Nat) : Int) = n := by omega
  show (decide ((ns.map PyData.int).length ≤ 12) && (decide ((((ns.map PyData.int).length : Nat) : Int) = (((ns.map PyData.int).length : Nat) : Int)) && ((ns.map PyData.int).all (fun d => isNum d 0 ((((ns.map PyData.int).length : Nat) : Int) - 1)) && decide ((intsOf (ns.map PyData.int)).Perm (rngI (((ns.map PyData.int).length : Nat) : Int)))))) = true
  rw [List.length_map, intsOf_map, e, decide_eq_true (by omega), decide_eq_true rfl, decide_eq_true (show ns.Perm (rngI n) from h), List.all_eq_true.mpr]
  · rfl
  · intro d hd
    obtain ⟨i, hi, rfl⟩ := List.mem_map.mp hd
    have := h.mem.mp hi
    show (decide (0 ≤ i) && decide (i ≤ n - 1)) = true
    rw [decide_eq_true (by omega), decide_eq_true (by omega)]
    rfl
theorem mvD_long {ds : List PyData} (h : 12 < ds.length) : mvD (.tuple ds) = false := by
  show (decide (ds.length ≤ 12) && _) = false
  rw [decide_eq_false (by omega), Bool.false_and]
def spAnswers : Sp := fun vs H Q _ => ∃ (G : Hp) (v : V) (d : PyData), vs = [v] ∧ Same G H ∧ Da G v d ∧ szD d ≤ 210000 ∧ ∀ H', Same H H' → Q (.bl true) H'
def spStore (K : PySem.W.Frag) : Sp := fun vs H Q _ => ∃ (a : Addr) (ns : List Int), vs = [.ref a] ∧ SqL K H a (ns.map V.int) ∧ ns.length ≤ 63 ∧ ∀ (S : Sr) (H' : Hp), Wd S H H' → Q (.ref S.a) H'
def spLaw (K : PySem.W.Frag) : Sp := fun vs H Q _ => ∃ (a : Addr) (ns : List Int), vs = [.ref a] ∧ SqL K H a (ns.map V.int) ∧ ns.length ≤ 63 ∧ ∀ H', Q (.bl true) H'
theorem spLaw_of {K : PySem.W.Frag} {H : Hp} {a : Addr} {ns : List Int} (hl : ns.length ≤ 63) (hS : SqL K H a (ns.map V.int)) : spLaw K [.ref a] H (fun v _ => v = .bl true) fun _ _ _ => False := ⟨a, ns, rfl, hS, hl, fun _ => rfl⟩
theorem cut_all {xs : List V} {n : Nat} (h : xs.length ≤ n) : cutV xs none (some (n : Int)) = xs := by
  unfold cutV
  rw [show HT.sIx xs.length xs.length (some (n : Int)) = min n xs.length from HT.sIx_nat xs.length xs.length n, HT.sIx_none, List.drop_zero, Nat.sub_zero, Nat.min_eq_right h]
  exact List.take_length
end Hd

namespace Hd
open PySem PySem.Spec PyProof.Rows L2
def topS (i : Nat) : Stmt := PySem.Challenge.pw_heldorder_k00_moves_known.main.body.getD i (.Pass ⟨0, 0, 0, 0⟩)
abbrev s_is_number : Stmt := topS 2
theorem sc_is_number : FnScope ["value", "low", "high"] ["value", "low", "high"] (defScope s_is_number) := ⟨rfl, rfl, rfl, by decide +kernel, rfl, by decide +kernel, by decide +kernel⟩
abbrev s_is_point : Stmt := topS 3
theorem sc_is_point : FnScope ["points", "value"] ["points", "value"] (defScope s_is_point) := ⟨rfl, rfl, rfl, by decide +kernel, rfl, by decide +kernel, by decide +kernel⟩
abbrev s_is_move_on : Stmt := topS 4
theorem sc_is_move_on : FnScope ["points", "value", "image"] ["points", "value"] (defScope s_is_move_on) := ⟨rfl, rfl, rfl, by decide +kernel, rfl, by decide +kernel, by decide +kernel⟩
abbrev s_is_move : Stmt := topS 6
theorem sc_is_move : FnScope ["value"] ["value"] (defScope s_is_move) := ⟨rfl, rfl, rfl, by decide +kernel, rfl, by decide +kernel, by decide +kernel⟩
abbrev s_law_store : Stmt := topS 8
theorem sc_law_store : FnScope ["script", "cell"] ["script"] (defScope s_law_store) := ⟨rfl, rfl, rfl, by decide +kernel, rfl, by decide +kernel, by decide +kernel⟩
abbrev s_law_mixed : Stmt := topS 9
theorem sc_law_mixed : FnScope ["seed", "turn", "first", "second"] ["seed", "turn"] (defScope s_law_mixed) := ⟨rfl, rfl, rfl, by decide +kernel, rfl, by decide +kernel, by decide +kernel⟩
abbrev s_law_take : Stmt := topS 10
theorem sc_law_take : FnScope ["store", "many", "cell", "digit"] ["store", "many"] (defScope s_law_take) := ⟨rfl, rfl, rfl, by decide +kernel, rfl, by decide +kernel, by decide +kernel⟩
abbrev s_law_pick : Stmt := topS 11
theorem sc_law_pick : FnScope ["store", "things"] ["store", "things"] (defScope s_law_pick) := ⟨rfl, rfl, rfl, by decide +kernel, rfl, by decide +kernel, by decide +kernel⟩
abbrev s_law_place : Stmt := topS 12
theorem sc_law_place : FnScope ["store", "size", "pick"] ["store", "size"] (defScope s_law_place) := ⟨rfl, rfl, rfl, by decide +kernel, rfl, by decide +kernel, by decide +kernel⟩
abbrev s_law_drawn : Stmt := topS 13
theorem sc_law_drawn : FnScope ["store", "things", "many", "pool", "found", "k", "at"] ["store", "things", "many"] (defScope s_law_drawn) := ⟨rfl, rfl, rfl, by decide +kernel, rfl, by decide +kernel, by decide +kernel⟩
abbrev s_law_either : Stmt := topS 14
theorem sc_law_either : FnScope ["store", "entries"] ["store", "entries"] (defScope s_law_either) := ⟨rfl, rfl, rfl, by decide +kernel, rfl, by decide +kernel, by decide +kernel⟩
abbrev s_law_whole : Stmt := topS 15
theorem sc_law_whole : FnScope ["store", "pick", "edges", "number", "k"] ["store"] (defScope s_law_whole) := ⟨rfl, rfl, rfl, by decide +kernel, rfl, by decide +kernel, by decide +kernel⟩
abbrev s_law_sign : Stmt := topS 16
theorem sc_law_sign : FnScope ["store", "signs"] ["store"] (defScope s_law_sign) := ⟨rfl, rfl, rfl, by decide +kernel, rfl, by decide +kernel, by decide +kernel⟩
abbrev s_law_text : Stmt := topS 17
theorem sc_law_text : FnScope ["store", "most", "size", "k"] ["store", "most"] (defScope s_law_text) := ⟨rfl, rfl, rfl, by decide +kernel, rfl, by decide +kernel, by decide +kernel⟩
abbrev s_law_leaf : Stmt := topS 18
theorem sc_law_leaf : FnScope ["store", "pick"] ["store"] (defScope s_law_leaf) := ⟨rfl, rfl, rfl, by decide +kernel, rfl, by decide +kernel, by decide +kernel⟩
abbrev s_law_value : Stmt := topS 19
theorem sc_law_value : FnScope ["store", "deep", "pick", "entries", "k", "size", "value", "j"] ["store", "deep"] (defScope s_law_value) := ⟨rfl, rfl, rfl, by decide +kernel, rfl, by decide +kernel, by decide +kernel⟩
abbrev s_law_is_whole : Stmt := topS 20
theorem sc_law_is_whole : FnScope ["value"] ["value"] (defScope s_law_is_whole) := ⟨rfl, rfl, rfl, by decide +kernel, rfl, by decide +kernel, by decide +kernel⟩
abbrev s_law_same : Stmt := topS 21
theorem sc_law_same : FnScope ["actual", "due", "left", "pair", "one", "two", "k"] ["actual", "due"] (defScope s_law_same) := ⟨rfl, rfl, rfl, by decide +kernel, rfl, by decide +kernel, by decide +kernel⟩
abbrev s_law_frozen : Stmt := topS 22
theorem sc_law_frozen : FnScope ["value", "deep", "part"] ["value", "deep"] (defScope s_law_frozen) := ⟨rfl, rfl, rfl, by decide +kernel, rfl, by decide +kernel, by decide +kernel⟩
abbrev s_law_move : Stmt := topS 23
theorem sc_law_move : FnScope ["store", "points", "pick", "image", "size", "ring_row", "k", "shift"] ["store", "points"] (defScope s_law_move) := ⟨rfl, rfl, rfl, by decide +kernel, rfl, by decide +kernel, by decide +kernel⟩
abbrev s_law_bad_move : Stmt := topS 24
theorem sc_law_bad_move : FnScope ["store", "move", "pick", "size", "image", "at"] ["store", "move"] (defScope s_law_bad_move) := ⟨rfl, rfl, rfl, by decide +kernel, rfl, by decide +kernel, by decide +kernel⟩
abbrev s_law_bent_text : Stmt := topS 25
theorem sc_law_bent_text : FnScope ["store", "text", "pick", "sign", "at"] ["store", "text"] (defScope s_law_bent_text) := ⟨rfl, rfl, rfl, by decide +kernel, rfl, by decide +kernel, by decide +kernel⟩
abbrev s_law_bent_leaf : Stmt := topS 26
theorem sc_law_bent_leaf : FnScope ["store", "leaf", "pick"] ["store", "leaf"] (defScope s_law_bent_leaf) := ⟨rfl, rfl, rfl, by decide +kernel, rfl, by decide +kernel, by decide +kernel⟩
abbrev s_law_bent_part : Stmt := topS 27
theorem sc_law_bent_part : FnScope ["store", "part", "entries", "pick", "at"] ["store", "part"] (defScope s_law_bent_part) := ⟨rfl, rfl, rfl, by decide +kernel, rfl, by decide +kernel, by decide +kernel⟩
abbrev s_law_bent : Stmt := topS 28
theorem sc_law_bent : FnScope ["store", "value", "path", "here", "k", "at", "step", "entries"] ["store", "value"] (defScope s_law_bent) := ⟨rfl, rfl, rfl, by decide +kernel, rfl, by decide +kernel, by decide +kernel⟩
abbrev s_law_judged : Stmt := topS 29
theorem sc_law_judged : FnScope ["store", "right", "pick", "bent"] ["store", "right"] (defScope s_law_judged) := ⟨rfl, rfl, rfl, by decide +kernel, rfl, by decide +kernel, by decide +kernel⟩
abbrev s_law_counted : Stmt := topS 30
theorem sc_law_counted : FnScope ["value", "k", "entry"] ["value"] (defScope s_law_counted) := ⟨rfl, rfl, rfl, by decide +kernel, rfl, by decide +kernel, by decide +kernel⟩
abbrev s_law_near : Stmt := topS 31
theorem sc_law_near : FnScope ["store", "pick", "move", "many", "shift", "image", "p", "k"] ["store"] (defScope s_law_near) := ⟨rfl, rfl, rfl, by decide +kernel, rfl, by decide +kernel, by decide +kernel⟩
abbrev s_law_answers : Stmt := topS 32
theorem sc_law_answers : FnScope ["value", "due", "before"] ["value"] (defScope s_law_answers) := ⟨rfl, rfl, rfl, by decide +kernel, rfl, by decide +kernel, by decide +kernel⟩
abbrev s_law : Stmt := topS 33
theorem sc_law : FnScope ["script", "store", "points", "good", "twin", "k", "wide"] ["script"] (defScope s_law) := ⟨rfl, rfl, rfl, by decide +kernel, rfl, by decide +kernel, by decide +kernel⟩
structure Zs (mg : Str → Option Value) : Prop where
  z_isinstance : mg "isinstance" = none
  z_int : mg "int" = none
  z_bool : mg "bool" = none
  z_str : mg "str" = none
  z_tuple : mg "tuple" = none
  z_list : mg "list" = none
  z_len : mg "len" = none
  z_range : mg "range" = none
  z_all : mg "all" = none
  z_sorted : mg "sorted" = none
  z_min : mg "min" = none
  z_max : mg "max" = none
  c_MOST_POINTS : ∃ t, mg "MOST_POINTS" = some (.int 12 t)
structure Ds (K : PySem.W.Frag) (mg : Str → Option Value) : Prop where
  d_is_number : Def K mg "is_number" s_is_number ["value", "low", "high"]
  d_is_point : Def K mg "is_point" s_is_point ["points", "value"]
  d_is_move_on : Def K mg "is_move_on" s_is_move_on ["points", "value"]
  d_is_move : Def K mg "is_move" s_is_move ["value"]
  d_law_store : Def K mg "_law_store" s_law_store ["script"]
  d_law_mixed : Def K mg "_law_mixed" s_law_mixed ["seed", "turn"]
  d_law_take : Def K mg "_law_take" s_law_take ["store", "many"]
  d_law_pick : Def K mg "_law_pick" s_law_pick ["store", "things"]
  d_law_place : Def K mg "_law_place" s_law_place ["store", "size"]
  d_law_drawn : Def K mg "_law_drawn" s_law_drawn ["store", "things", "many"]
  d_law_either : Def K mg "_law_either" s_law_either ["store", "entries"]
  d_law_whole : Def K mg "_law_whole" s_law_whole ["store"]
  d_law_sign : Def K mg "_law_sign" s_law_sign ["store"]
  d_law_text : Def K mg "_law_text" s_law_text ["store", "most"]
  d_law_leaf : Def K mg "_law_leaf" s_law_leaf ["store"]
  d_law_value : Def K mg "_law_value" s_law_value ["store", "deep"]
  d_law_is_whole : Def K mg "_law_is_whole" s_law_is_whole ["value"]
  d_law_same : Def K mg "_law_same" s_law_same ["actual", "due"]
  d_law_frozen : Def K mg "_law_frozen" s_law_frozen ["value", "deep"]
  d_law_move : Def K mg "_law_move" s_law_move ["store", "points"]
  d_law_bad_move : Def K mg "_law_bad_move" s_law_bad_move ["store", "move"]
  d_law_bent_text : Def K mg "_law_bent_text" s_law_bent_text ["store", "text"]
  d_law_bent_leaf : Def K mg "_law_bent_leaf" s_law_bent_leaf ["store", "leaf"]
  d_law_bent_part : Def K mg "_law_bent_part" s_law_bent_part ["store", "part"]
  d_law_bent : Def K mg "_law_bent" s_law_bent ["store", "value"]
  d_law_judged : Def K mg "_law_judged" s_law_judged ["store", "right"]
  d_law_counted : Def K mg "_law_counted" s_law_counted ["value"]
  d_law_near : Def K mg "_law_near" s_law_near ["store"]
  d_law_answers : Def K mg "_law_answers" s_law_answers ["value"]
section
variable {P : Program} {w : World} {K : PySem.W.Frag} {mg : Str → Option Value} {base : Heap}
theorem ok_mixed (Z : Zs mg) (D : Ds K mg) : Cal P w K mg base "_law_mixed" 1 ["seed", "turn"] spMixed := by
  refine Def.cal D.d_law_mixed sc_law_mixed (fun vs H Q E h => ?_) (fun f cdv A outer s H vs Q E hr h => ?_)
  · obtain ⟨a, b, rfl, q⟩ := h
    rfl
  obtain ⟨a, b, rfl, q⟩ := h
  refine ⟨_, (pss_cons (ps_set (i := 2) sc_law_mixed.nd rfl (Or.inl rfl) (pe_op op_mod (pe_callTy call_int1 (by rfl) Z.z_int (by decide +kernel) (pa_cons (pe_op op_add (pe_op op_add (pe_op op_mul (pv 0) pe_int) (pe_op op_mul (pv 1) pe_int)) pe_int) pa_nil)) pe_int))
      (pss_cons (ps_set (i := 3) sc_law_mixed.nd rfl (Or.inl rfl) (pe_op op_mod (pe_callTy call_int1 (by rfl) Z.z_int (by decide +kernel) (pa_cons (pe_op op_add (pe_op op_add (pe_op op_mul (pv 2) (pv 2)) (pe_op op_mul (pv 0) pe_int)) (pv 1)) pa_nil)) pe_int))
      (pss_one (ps_ret (pe_op op_mod (pe_callTy call_int1 (by rfl) Z.z_int (by decide +kernel) (pa_cons (pe_op op_add (pe_op op_mul (pv 3) (pv 3)) (pv 2)) pa_nil)) pe_int))))), ?_⟩
  have c1 : CMul a 48271 := .inr ⟨by omega, by omega⟩
  have c2 : CMul b 69621 := .inr ⟨by omega, by omega⟩
  refine ⟨_, rfl, _, _, rfl, rfl, c1, _, rfl, _, _, rfl, rfl, c2, _, _, rfl, rfl, _, _, rfl, rfl, .inl ⟨_, rfl, _, _, rfl, rfl, (by omega), ?_⟩⟩
  obtain ⟨f1, e1⟩ : ∃ f1, f1 = (a * 48271 + b * 69621 + 1013904223) % 2147483647 := ⟨_, rfl⟩
  have b1 : 0 ≤ f1 ∧ f1 < 2147483647 := by omega
  have c3 : CMul f1 f1 := .inl ⟨by omega, by omega⟩
  have c4 : CMul a 7 := .inr ⟨by omega, by omega⟩
  rw [show (fun i j => V.int (i % j)) (a * 48271 + b * 69621 + 1013904223) 2147483647 = V.int f1 from congrArg V.int e1.symm]
  refine ⟨_, rfl, _, rfl, _, _, rfl, rfl, c3, _, rfl, _, _, rfl, rfl, c4, _, _, rfl, rfl, _, rfl, _, _, rfl, rfl, .inl ⟨_, rfl, _, _, rfl, rfl, (by omega), ?_⟩⟩
  obtain ⟨f2, e2⟩ : ∃ f2, f2 = (f1 * f1 + a * 7 + b) % 2147483563 := ⟨_, rfl⟩
  have b2 : 0 ≤ f2 ∧ f2 < 2147483563 := by omega
  have c5 : CMul f2 f2 := .inl ⟨by omega, by omega⟩
  rw [show (fun i j => V.int (i % j)) (f1 * f1 + a * 7 + b) 2147483563 = V.int f2 from congrArg V.int e2.symm]
  refine ⟨_, rfl, _, rfl, _, _, rfl, rfl, c5, _, rfl, _, _, rfl, rfl, .inl ⟨_, rfl, _, _, rfl, rfl, (by omega), ?_⟩⟩
  exact q _
theorem ok_take (Z : Zs mg) (D : Ds K mg) (c__law_mixed : Cal P w K mg base "_law_mixed" 1 ["seed", "turn"] spMixed) : Cal P w K mg base "_law_take" 2 ["store", "many"] spTake := by
  refine Def.cal D.d_law_take sc_law_take (fun vs H Q E h => ?_) (fun f cdv A outer s H vs Q E hr h => ?_)
  · obtain ⟨S, G, n, rfl, wd, hn, q⟩ := h
    rfl
  obtain ⟨S, G, n, rfl, wd, hn, q⟩ := h
  refine ⟨_, (pss_cons (ps_if (pt_cmp (pc_lt (pv 1) pe_int) (nomark _)) (pss_one (ps_ret pe_int)) pss_nil)
      (Evl.pss_cut (ps_if (PW.pt (pw_and (pt_cmp (pc_lt (pe_ix ix_list (pv 0) pe_int (fun _ _ => rfl)) pe_int) (nomark _)) (pw_and (pt_cmp (pc_eqI (pe_ix ix_list (pv 0) pe_int (fun _ _ => rfl)) pe_int) (nomark _)) (pw_and1 (pt_cmp (pc_lt (pe_ix ix_list (pv 0) pe_int (fun _ _ => rfl)) (pe_callB call_len_seq (by rfl) Z.z_len (by decide +kernel) (pa_cons (pe_ix ix_list (pv 0) pe_int (fun _ _ => rfl)) pa_nil))) (nomark _)))))) (pss_cons (ps_set (i := 2) sc_law_take.nd rfl (Or.inl rfl) (pe_ix ix_list (pe_ix ix_list (pv 0) pe_int (fun _ _ => rfl)) (pe_ix ix_list (pv 0) pe_int (fun _ _ => rfl)) (fun _ _ => rfl)))
      (pss_cons (ps_asg (pe_op op_add (pe_ix ix_list (pv 0) pe_int (fun _ _ => rfl)) pe_int) (pg_sub (pv 0) pe_int set_listN))
      (pss_cons (ps_asg (pe_op op_mod (pe_callTy call_int1 (by rfl) Z.z_int (by decide +kernel) (pa_cons (pe_op op_add (pe_op op_add (pe_op op_mul (pe_ix ix_list (pv 0) pe_int (fun _ _ => rfl)) pe_int) (pe_op op_mod (pe_callTy call_int1 (by rfl) Z.z_int (by decide +kernel) (pa_cons (pv 2) pa_nil)) pe_int)) pe_int) pa_nil)) pe_int) (pg_sub (pv 0) pe_int set_listN))
      (pss_one (ps_if (pt_cmp (pc_ge (pv 2) (pe_op op_pow pe_int pe_int)) (nomark _)) (pss_one (ps_asg (pv 2) (pg_sub (pv 0) pe_int set_listN))) (pss_cons (ps_asg pe_int (pg_sub (pv 0) pe_int set_listN))
      (pss_one (ps_asg (pe_op op_mod (pe_callTy call_int1 (by rfl) Z.z_int (by decide +kernel) (pa_cons (pv 2) pa_nil)) pe_int) (pg_sub (pv 0) pe_int set_listN))))))))) pss_nil)
      (pss_cons (ps_if (pt_cmp (pc_ge (pe_ix ix_list (pv 0) pe_int (fun _ _ => rfl)) pe_int) (nomark _)) (pss_cons (ps_set (i := 3) sc_law_take.nd rfl (Or.inl rfl) (pe_op op_mod (pe_callTy call_int1 (by rfl) Z.z_int (by decide +kernel) (pa_cons (pe_ix ix_list (pv 0) pe_int (fun _ _ => rfl)) pa_nil)) (pv 1)))
      (pss_cons (ps_asg (pe_op op_fdiv (pe_ix ix_list (pv 0) pe_int (fun _ _ => rfl)) (pv 1)) (pg_sub (pv 0) pe_int set_listN))
      (pss_one (ps_ret (pv 3))))) pss_nil)
      (pss_cons (ps_asg (pe_op op_add (pe_ix ix_list (pv 0) pe_int (fun _ _ => rfl)) pe_int) (pg_sub (pv 0) pe_int set_listN))
      (pss_cons (ps_if (pt_cmp (pc_gt (pe_ix ix_list (pv 0) pe_int (fun _ _ => rfl)) pe_int) (nomark _)) (pss_cons (ps_asg (pe_op op_sub (pe_ix ix_list (pv 0) pe_int (fun _ _ => rfl)) pe_int) (pg_sub (pv 0) pe_int set_listN))
      (pss_one (ps_ret (pe_op op_mod (pe_callTy call_int1 (by rfl) Z.z_int (by decide +kernel) (pa_cons (pe_cal c__law_mixed (hr.mono (by first | decide | omega)) (by rfl) (pa_cons (pe_ix ix_list (pv 0) pe_int (fun _ _ => rfl)) (pa_cons (pe_ix ix_list (pv 0) pe_int (fun _ _ => rfl)) pa_nil))) pa_nil)) (pv 1))))) pss_nil)
      (pss_one (ps_ret (pe_op op_mod (pe_callTy call_int1 (by rfl) Z.z_int (by decide +kernel) (pa_cons (pe_cal c__law_mixed (hr.mono (by first | decide | omega)) (by rfl) (pa_cons (pe_ix ix_list (pv 0) pe_int (fun _ _ => rfl)) (pa_cons (pe_ix ix_list (pv 0) pe_int (fun _ _ => rfl)) pa_nil))) pa_nil)) (pv 1))))))))), ?_⟩
  refine ⟨_, rfl, _, _, rfl, rfl, _, rfl, ite2 (fun c => ?_) (fun c => ?_)⟩
  · have c := dec_of c
    exact q 0 H (by omega) (by omega) (.refl wd)
  have c := dec_not c
  refine ⟨fun σ' H' => ∃ y2, σ' = [some (.ref S.a), some (.int n), y2, none] ∧ Go S G H G H', ?_, ?_⟩
  · obtain ⟨i1, i2, i3, i4, i5, i6, h1, h2, z⟩ := wd.st
    refine ⟨_, rfl, S.a, _, 2, .int i2, rfl, rfl, .of h1, rfl, _, _, rfl, rfl, _, rfl, ite2 (fun c2 => ?_) (fun c2 => iteF ⟨none, rfl, .refl wd⟩)⟩
    refine ⟨_, rfl, S.a, _, 3, .int i3, rfl, rfl, .of h1, rfl, _, _, rfl, rfl, _, rfl, ite2 (fun c3 => ?_) (fun c3 => iteF ⟨none, rfl, .refl wd⟩)⟩
    refine ⟨_, rfl, S.a, _, 1, .int i1, rfl, rfl, .of h1, rfl, _, rfl, S.a, _, 0, .ref S.c, rfl, rfl, .of h1, rfl, _, _, rfl, .inl (.of h2), _, _, rfl, rfl, _, rfl, ite2 (fun c1 => ?_) (fun c1 => ⟨none, rfl, .refl wd⟩)⟩
    have c1 : i1 < ((S.ns.map V.int).length : Nat) := dec_of c1
    rw [List.length_map] at c1
    have k1 : i1.toNat < S.ns.length := by omega
    have a1 : atI (S.ns.map V.int) i1 = some (.int S.ns[i1.toNat]) := by
      have q := atI_nat (xs := S.ns.map V.int) (j := i1.toNat) (v := .int S.ns[i1.toNat]) (by rw [List.getElem?_map, List.getElem?_eq_getElem k1]; rfl)
      rwa [show ((i1.toNat : Nat) : Int) = i1 by omega] at q
    generalize S.ns[i1.toNat] = x at a1
    -- cell = store[0][store[1]]; store[1] = store[1] + 1
    refine ⟨_, rfl, S.a, _, 0, .ref S.c, rfl, rfl, .of h1, rfl, _, rfl, S.a, _, 1, .int i1, rfl, rfl, .of h1, rfl, S.c, _, i1, .int x, rfl, rfl, .of h2, a1, ?_⟩
    refine ⟨_, rfl, S.a, _, 1, .int i1, rfl, rfl, .of h1, rfl, _, _, rfl, rfl, _, rfl, S.a, _, 1, rfl, rfl, h1, (by show 1 < 7; decide), fun H1 e1 => ?_⟩
    have s1 : Go S G H G H1 := (Go.refl wd).put e1 (by omega)
    have h1 : H1 S.a = _ := upd_at e1
    have m5 : CMul i5 31 := .inr ⟨by omega, by omega⟩
    refine ⟨_, rfl, S.a, _, 5, .int i5, rfl, rfl, .of h1, rfl, _, _, rfl, rfl, m5, _, rfl, .inl ⟨_, rfl, _, _, rfl, rfl, (by omega), _, _, rfl, rfl, _, _, rfl, rfl, .inl ⟨_, rfl, _, _, rfl, rfl, (by omega), ?_⟩⟩⟩
    refine ⟨_, rfl, S.a, _, 5, rfl, rfl, h1, (by show 5 < 7; decide), fun H2 e2 => ?_⟩
    have s1 : Go S G H G H2 := s1.put e2 (by omega)
    have h1 : H2 S.a = _ := upd_at e2
    refine ⟨_, rfl, _, _, rfl, rfl, ⟨by omega, by omega, by decide⟩, _, _, rfl, rfl, _, rfl, ite2 (fun c => ?_) (fun c => ?_)⟩
    · refine ⟨_, rfl, _, rfl, S.a, _, 2, rfl, rfl, h1, (by show 2 < 7; decide), fun H3 e3 => ?_⟩
      exact ⟨_, rfl, s1.put e3 (by omega)⟩
    · refine ⟨_, rfl, S.a, _, 3, rfl, rfl, h1, (by show 3 < 7; decide), fun H3 e3 => ?_⟩
      have s1 : Go S G H G H3 := s1.put e3 (by omega)
      have h1 : H3 S.a = _ := upd_at e3
      refine ⟨_, rfl, .inl ⟨_, rfl, _, _, rfl, rfl, (by omega), _, rfl, S.a, _, 6, rfl, rfl, h1, (by show 6 < 7; decide), fun H4 e4 => ?_⟩⟩
      exact ⟨_, rfl, s1.put e4 (by omega)⟩
  · rintro σ' H1 ⟨y2, rfl, s1⟩
    obtain ⟨i1, i2, i3, i4, i5, i6, h1, h2, z⟩ := s1.st
    refine ⟨_, rfl, S.a, _, 2, .int i2, rfl, rfl, .of h1, rfl, _, _, rfl, rfl, _, rfl, ite2 (fun c2 => ?_) (fun c2 => ?_)⟩
    · refine ⟨_, rfl, S.a, _, 2, .int i2, rfl, rfl, .of h1, rfl, .inl ⟨_, rfl, _, rfl, _, _, rfl, rfl, (by omega), ?_⟩⟩
      refine ⟨_, rfl, S.a, _, 2, .int i2, rfl, rfl, .of h1, rfl, _, rfl, _, _, rfl, rfl, ⟨by omega, by omega⟩, _, rfl, S.a, _, 2, rfl, rfl, h1, (by show 2 < 7; decide), fun H2 e2 => ?_⟩
      have s1 : Go S G H G H2 := s1.put e2 (by omega)
      refine ⟨_, rfl, ?_⟩
      exact q _ _ (Int.emod_nonneg _ (by omega)) (.inl (Int.emod_lt_of_pos _ (by omega))) s1
    refine ⟨_, rfl, S.a, _, 4, .int i4, rfl, rfl, .of h1, rfl, _, _, rfl, rfl, _, rfl, S.a, _, 4, rfl, rfl, h1, (by show 4 < 7; decide), fun H2 e2 => ?_⟩
    have s1 : Go S G H G H2 := s1.put e2 (by omega)
    have h1 : H2 S.a = _ := upd_at e2
    refine ⟨_, rfl, S.a, _, 3, .int i3, rfl, rfl, .of h1, rfl, _, _, rfl, rfl, _, rfl, ite2 (fun c3 => ?_) (fun c3 => ?_)⟩
    · refine ⟨_, rfl, S.a, _, 3, .int i3, rfl, rfl, .of h1, rfl, _, _, rfl, rfl, _, rfl, S.a, _, 3, rfl, rfl, h1, (by show 3 < 7; decide), fun H3 e3 => ?_⟩
      have s1 : Go S G H G H3 := s1.put e3 (by omega)
      have h1 : H3 S.a = _ := upd_at e3
      refine ⟨_, rfl, S.a, _, 6, .int i6, rfl, rfl, .of h1, rfl, _, rfl, S.a, _, 4, _, rfl, rfl, .of h1, rfl, _, _, rfl, fun r => ?_⟩
      refine .inl ⟨_, rfl, _, rfl, _, _, rfl, rfl, (by omega), ?_⟩
      exact q _ _ (Int.emod_nonneg _ (by omega)) (.inl (Int.emod_lt_of_pos _ (by omega))) s1
    · refine ⟨_, rfl, S.a, _, 5, .int i5, rfl, rfl, .of h1, rfl, _, rfl, S.a, _, 4, _, rfl, rfl, .of h1, rfl, _, _, rfl, fun r => ?_⟩
      refine .inl ⟨_, rfl, _, rfl, _, _, rfl, rfl, (by omega), ?_⟩
      exact q _ _ (Int.emod_nonneg _ (by omega)) (.inl (Int.emod_lt_of_pos _ (by omega))) s1

theorem ok_pick (Z : Zs mg) (D : Ds K mg) (c__law_take : Cal P w K mg base "_law_take" 2 ["store", "many"] spTake) : Cal P w K mg base "_law_pick" 3 ["store", "things"] spPick := by
  refine Def.cal D.d_law_pick sc_law_pick (fun vs H Q E h => ?_) (fun f cdv A outer s H vs Q E hr h => ?_)
  · obtain ⟨S, G, v, xs, rfl, wd, hv, h0, h1, q⟩ := h
    rfl
  obtain ⟨S, G, v, xs, rfl, wd, hv, h0, h1, q⟩ := h
  refine ⟨_, (pss_one (ps_ret (pe_ix ix_seq (pv 1) (pe_cal c__law_take (hr.mono (by first | decide | omega)) (by rfl) (pa_cons (pv 0) (pa_cons (pe_callB call_len (by rfl) Z.z_len (by decide +kernel) (pa_cons (pv 1) pa_nil)) pa_nil))) (fun _ _ => rfl)))), ?_⟩
  rcases hv with ⟨a, rfl, na, ha⟩ | ⟨a, rfl, na, ha⟩ | ⟨z, rfl, hz, rfl⟩
  · refine ⟨_, rfl, _, rfl, _, rfl, .ref a, xs.length, rfl, .inl ⟨xs, .of ha, rfl⟩, S, G, _, rfl, wd, by omega, fun d H1 p0 p1 s1 => ?_⟩
    obtain ⟨x, _, e, m⟩ := at_int (xs := xs) p0 (by omega)
    exact .inl ⟨a, xs, d, x, rfl, rfl, .of (s1.hh ha na), e, q _ _ m s1⟩
  · refine ⟨_, rfl, _, rfl, _, rfl, .ref a, xs.length, rfl, .inr ⟨xs, .of ha, rfl⟩, S, G, _, rfl, wd, by omega, fun d H1 p0 p1 s1 => ?_⟩
    obtain ⟨x, _, e, m⟩ := at_int (xs := xs) p0 (by omega)
    exact .inr (.inl ⟨a, xs, d, x, rfl, rfl, .of (s1.hh ha na), e, q _ _ m s1⟩)
  · have hl : z.cps.toList.length = z.length := Array.length_toList
    rw [List.length_map, hl] at h0 h1
    refine ⟨_, rfl, _, rfl, _, rfl, .str z, z.length, rfl, ⟨ln (by omega), rfl⟩, S, G, _, rfl, wd, by omega, fun d H1 p0 p1 s1 => ?_⟩
    obtain ⟨c, e, g⟩ := at_str (z := z) p0 (by omega)
    exact .inr (.inr ⟨z, d, c, rfl, rfl, ln (by omega), e, q _ _ (List.mem_map.mpr ⟨c, List.mem_of_getElem? g, rfl⟩) s1⟩)
theorem ok_place (Z : Zs mg) (D : Ds K mg) (c__law_take : Cal P w K mg base "_law_take" 2 ["store", "many"] spTake) : Cal P w K mg base "_law_place" 3 ["store", "size"] spPlace := by
  refine Def.cal D.d_law_place sc_law_place (fun vs H Q E h => ?_) (fun f cdv A outer s H vs Q E hr h => ?_)
  · obtain ⟨S, G, n, rfl, wd, h1, hn, q⟩ := h
    rfl
  obtain ⟨S, G, n, rfl, wd, h1, hn, q⟩ := h
  refine ⟨_, (pss_cons (ps_set (i := 2) sc_law_place.nd rfl (Or.inl rfl) (pe_cal c__law_take (hr.mono (by first | decide | omega)) (by rfl) (pa_cons (pv 0) (pa_cons pe_int pa_nil))))
      (pss_cons (ps_if (pt_cmp (pc_eqI (pv 2) pe_int) (nomark _)) (pss_one (ps_ret pe_int)) pss_nil)
      (pss_cons (ps_if (pt_cmp (pc_eqI (pv 2) pe_int) (nomark _)) (pss_one (ps_ret (pe_op op_sub (pv 1) pe_int))) pss_nil)
      (pss_one (ps_ret (pe_cal c__law_take (hr.mono (by first | decide | omega)) (by rfl) (pa_cons (pv 0) (pa_cons (pv 1) pa_nil)))))))), ?_⟩
  refine ⟨_, rfl, S, G, 6, rfl, wd, by omega, fun d1 H1 p0 p1 s1 => ?_⟩
  refine ⟨_, rfl, _, _, rfl, rfl, _, rfl, ite2 (fun c => q _ _ (by omega) (by omega) s1) (fun c => ?_)⟩
  refine ⟨_, rfl, _, _, rfl, rfl, _, rfl, ite2 (fun c => ⟨_, rfl, _, _, rfl, rfl, q _ _ (by omega) (by omega) s1⟩) (fun c => ?_)⟩
  exact ⟨_, rfl, _, rfl, S, G, n, rfl, s1.wd, hn, fun d2 H2 r0 r1 s2 => q _ _ (by omega) (by omega) (s1.trans s2)⟩
theorem ok_drawn (Z : Zs mg) (D : Ds K mg) (c__law_take : Cal P w K mg base "_law_take" 2 ["store", "many"] spTake) : Cal P w K mg base "_law_drawn" 3 ["store", "things", "many"] spDrawn := by
  refine Def.cal D.d_law_drawn sc_law_drawn (fun vs H Q E h => ?_) (fun f cdv A outer s H vs Q E hr h => ?_)
  · obtain ⟨S, G, a, xs, n, rfl, wd, ha, hx, h0, h1, q⟩ := h
    rfl
  obtain ⟨S, G, a, xs, n, rfl, wd, ha, hx, h0, h1, q⟩ := h
  refine ⟨_, (pss_cons (ps_set (i := 3) sc_law_drawn.nd rfl (Or.inl rfl) (pe_callTy call_listN (by rfl) Z.z_list (by decide +kernel) (pa_cons (pv 1) pa_nil)))
      (pss_cons (ps_set (i := 4) sc_law_drawn.nd rfl (Or.inl rfl) (pe_lstN pa_nil))
      (pss_cons (ps_for PassesOwn.never rfl (pi_range1 (by rfl) Z.z_range (pa_cons (pe_callB (call_min2 rfl) (by rfl) Z.z_min (by decide +kernel) (pa_cons (pv 2) (pa_cons (pe_callB call_len_seq (by rfl) Z.z_len (by decide +kernel) (pa_cons (pv 3) pa_nil)) pa_nil))) pa_nil)) (pg_name (i := 5) sc_law_drawn.nd rfl (Or.inl rfl)) (pss_cons (ps_set (i := 6) sc_law_drawn.nd rfl (Or.inl rfl) (pe_cal c__law_take (hr.mono (by first | decide | omega)) (by rfl) (pa_cons (pv 0) (pa_cons (pe_callB call_len_seq (by rfl) Z.z_len (by decide +kernel) (pa_cons (pv 3) pa_nil)) pa_nil))))
      (pss_one (ps_expr (pe_bm PySem.F.plainAttrs_list PySem.F.slot_list_append PySem.F.type_list_append mt_appendN (pv 4) (pa_cons (pe_bm PySem.F.plainAttrs_list PySem.F.slot_list_pop PySem.F.type_list_pop mt_popAtN (pv 3) (pa_cons (pv 6) pa_nil)) pa_nil))))))
      (pss_one (ps_ret (pv 4)))))), ?_⟩
  refine ⟨_, rfl, a, xs, rfl, ha.len, fun p H1 n1 => ?_⟩
  obtain ⟨s1, gp, hp, fp⟩ := (Go.refl wd).loc n1
  refine ⟨Nat.zero_le _, fun l H2 n2 => ?_⟩
  obtain ⟨s2, gl, hl, fl⟩ := s1.loc n2
  have hp := n2.else hp
  have npl : p ≠ l := n2.ne (ne_none (n1.at))
  refine ⟨_, rfl, _, rfl, p, xs, rfl, .inl (.of hp), _, _, rfl, _, rfl, ?_⟩
  have em : (if ((xs.length : Nat) : Int) < n then ((xs.length : Nat) : Int) else n) = ((min n.toNat xs.length : Nat) : Int) := by split <;> omega
  rw [em]
  refine ⟨by omega, by omega, for_range (lo := 0) (n := ((min n.toNat xs.length : Nat) : Int).toNat) (fun i σ' H' => ∃ ys ps y5 y6, σ' = [some (.ref S.a), some (.ref a), some (.int n), some (.ref p), some (.ref l), y5, y6] ∧
    Go S G H G H' ∧ H' p = some (.lst ps) ∧ H' l = some (.lst ys) ∧ (ys ++ ps).Perm xs ∧ ys.length = i) ⟨[], xs, none, none, rfl, s2, hp, hl, .refl _, rfl⟩ ?_ ?_⟩
  · rintro i σ' H3 hi ⟨ys, ps, y5, y6, rfl, s3, hp, hl, pm, rfl⟩
    have lp : ys.length + ps.length = xs.length := by
      have := pm.length_eq
      rwa [List.length_append] at this
    refine ⟨_, rfl, _, rfl, p, ps, rfl, .inl (.of hp), S, G, _, rfl, s3.wd, by omega, fun d H4 p0 p1 s4 => ?_⟩
    have hp := s4.hh hp (s3.ns fp)
    have hl := s4.hh hl (s3.ns fl)
    have s4 := s3.trans s4
    obtain ⟨x, e, _, _⟩ := at_int (xs := ps) p0 (by omega)
    refine ⟨_, rfl, .inl ⟨rfl, _, .of hl⟩, _, rfl, .inl ⟨rfl, _, .of hp⟩, _, rfl, p, ps, d, d.toNat, x, rfl, rfl, hp, by omega, by omega, e, fun H5 e5 => ?_⟩
    have s5 := s4.mut gp fp e5
    have hl := upd_else e5 hl npl.symm
    have hp := upd_at e5
    refine ⟨l, ys, x, rfl, rfl, hl, lt (by omega), fun H6 e6 => ?_⟩
    have s6 := s5.mut gl fl e6
    have hp := upd_else e6 hp npl
    refine ⟨ys ++ [x], ps.eraseIdx d.toNat, _, _, rfl, s6, hp, upd_at e6, ?_, by rw [List.length_append]; rfl⟩
    refine List.Perm.trans ?_ pm
    rw [List.append_assoc]
    refine List.Perm.append_left ys ?_
    exact (perm_erase e).symm
  · rintro σ' H3 ⟨ys, ps, y5, y6, rfl, s3, hp, hl, pm, hy⟩
    exact ⟨_, rfl, q l ys ps H3 s3 gl fl hl pm (by omega)⟩
theorem ok_either (Z : Zs mg) (D : Ds K mg) (c__law_take : Cal P w K mg base "_law_take" 2 ["store", "many"] spTake) : Cal P w K mg base "_law_either" 3 ["store", "entries"] spEither := by
  refine Def.cal D.d_law_either sc_law_either (fun vs H Q E h => ?_) (fun f cdv A outer s H vs Q E hr h => ?_)
  · obtain ⟨S, G, a, xs, rfl, wd, na, ha, q⟩ := h
    rfl
  obtain ⟨S, G, a, xs, rfl, wd, na, ha, q⟩ := h
  refine ⟨_, (pss_cons (ps_if (pt_cmp (pc_eqI (pe_cal c__law_take (hr.mono (by first | decide | omega)) (by rfl) (pa_cons (pv 0) (pa_cons pe_int pa_nil))) pe_int) (nomark _)) (pss_one (ps_ret (pe_callTy call_tupleN (by rfl) Z.z_tuple (by decide +kernel) (pa_cons (pv 1) pa_nil)))) pss_nil)
      (pss_one (ps_ret (pe_callTy call_listN (by rfl) Z.z_list (by decide +kernel) (pa_cons (pv 1) pa_nil))))), ?_⟩
  refine ⟨_, rfl, S, G, 2, rfl, wd, by omega, fun d1 H1 p0 p1 s1 => ?_⟩
  have ha := s1.hh ha na
  refine ⟨_, _, rfl, rfl, _, rfl, ite2 (fun c => ?_) (fun c => ?_)⟩
  · refine ⟨_, rfl, a, xs, rfl, .of ha, fun p H2 n2 => ?_⟩
    obtain ⟨s2, gp, hp, fp⟩ := s1.loc n2
    exact q p true H2 s2 gp fp hp
  · refine ⟨_, rfl, a, xs, rfl, .inl (.of ha), fun p H2 n2 => ?_⟩
    obtain ⟨s2, gp, hp, fp⟩ := s1.loc n2
    exact q p false H2 s2 gp fp hp

theorem ok_whole (Z : Zs mg) (D : Ds K mg) (c__law_take : Cal P w K mg base "_law_take" 2 ["store", "many"] spTake) (c__law_pick : Cal P w K mg base "_law_pick" 3 ["store", "things"] spPick) : Cal P w K mg base "_law_whole" 4 ["store"] spWhole := by
  refine Def.cal D.d_law_whole sc_law_whole (fun vs H Q E h => ?_) (fun f cdv A outer s H vs Q E hr h => ?_)
  · obtain ⟨S, G, rfl, wd, q⟩ := h
    rfl
  obtain ⟨S, G, rfl, wd, q⟩ := h
  refine ⟨_, (pss_cons (ps_set (i := 1) sc_law_whole.nd rfl (Or.inl rfl) (pe_cal c__law_take (hr.mono (by first | decide | omega)) (by rfl) (pa_cons (pv 0) (pa_cons pe_int pa_nil))))
      (pss_cons (ps_if (pt_cmp (pc_lt (pv 1) pe_int) (nomark _)) (pss_one (ps_ret (pe_op op_sub (pe_cal c__law_take (hr.mono (by first | decide | omega)) (by rfl) (pa_cons (pv 0) (pa_cons pe_int pa_nil))) pe_int))) pss_nil)
      (pss_cons (ps_if (pt_cmp (pc_eqI (pv 1) pe_int) (nomark _)) (pss_cons (ps_set (i := 2) sc_law_whole.nd rfl (Or.inl rfl) (pe_lstN (pa_cons (pe_un un_neg pe_int) (pa_cons pe_int (pa_cons pe_int (pa_cons pe_int (pa_cons pe_int (pa_cons pe_int (pa_cons pe_int (pa_cons pe_int (pa_cons pe_int (pa_cons pe_int (pa_cons pe_int (pa_cons pe_int (pa_cons pe_int (pa_cons pe_int (pa_cons pe_int (pa_cons pe_int (pa_cons pe_int (pa_cons pe_int (pa_cons pe_int (pa_cons pe_int pa_nil))))))))))))))))))))))
      (pss_cons (ps_set (i := 2) sc_law_whole.nd rfl (Or.inl rfl) (pe_op op_catN (pv 2) (pe_lstN (pa_cons (pe_un un_neg pe_int) (pa_cons (pe_un un_neg pe_int) (pa_cons pe_int (pa_cons pe_int (pa_cons pe_int (pa_cons pe_int pa_nil)))))))))
      (pss_one (ps_ret (pe_cal c__law_pick (hr.mono (by first | decide | omega)) (by rfl) (pa_cons (pv 0) (pa_cons (pv 2) pa_nil))))))) pss_nil)
      (pss_cons (ps_if (pt_cmp (pc_eqI (pv 1) pe_int) (nomark _)) (pss_one (ps_ret (pe_op op_sub (pe_cal c__law_take (hr.mono (by first | decide | omega)) (by rfl) (pa_cons (pv 0) (pa_cons pe_int pa_nil))) pe_int))) pss_nil)
      (pss_cons (ps_set (i := 3) sc_law_whole.nd rfl (Or.inl rfl) pe_int)
      (pss_cons (ps_for PassesOwn.never rfl (pi_range1 (by rfl) Z.z_range (pa_cons pe_int pa_nil)) (pg_name (i := 4) sc_law_whole.nd rfl (Or.inl rfl)) (pss_one (ps_set (i := 3) sc_law_whole.nd rfl (Or.inl rfl) (pe_op op_add (pe_op op_mul (pv 3) pe_int) (pe_cal c__law_take (hr.mono (by first | decide | omega)) (by rfl) (pa_cons (pv 0) (pa_cons pe_int pa_nil)))))))
      (pss_cons (ps_if (pt_cmp (pc_eqI (pv 1) pe_int) (nomark _)) (pss_one (ps_ret (pe_un un_neg (pv 3)))) pss_nil)
      (pss_one (ps_ret (pv 3)))))))))), ?_⟩
  refine ⟨_, rfl, S, G, 6, rfl, wd, by omega, fun d1 H1 p0 p1 s1 => ?_⟩
  refine ⟨_, rfl, _, _, rfl, rfl, _, rfl, ite2 (fun c => ?_) (fun c => ?_)⟩
  · exact ⟨_, rfl, S, G, 16, rfl, s1.wd, by omega, fun d2 H2 r0 r1 s2 => ⟨_, _, rfl, rfl, q _ _ (s1.trans s2)⟩⟩
  refine ⟨_, rfl, _, _, rfl, rfl, _, rfl, ite2 (fun c => ?_) (fun c => ?_)⟩
  · refine ⟨_, rfl, by decide, fun p H2 n2 => ?_⟩
    obtain ⟨s2, gp, hp, fp⟩ := s1.loc n2
    refine ⟨_, rfl, _, rfl, _, rfl, by decide, fun p2 H3 n3 => ?_⟩
    obtain ⟨s3, gp2, hp2, fp2⟩ := s2.loc n3
    refine ⟨p, p2, _, _, rfl, rfl, n3.else hp, hp2, by decide, fun p4 H4 n4 => ?_⟩
    obtain ⟨s4, gp4, hp4, fp4⟩ := s3.loc n4
    refine ⟨_, rfl, _, rfl, S, G, _, _, rfl, s4.wd, .inl ⟨p4, rfl, s4.ns fp4, hp4⟩, by decide, by decide, fun x H5 m s5 => ?_⟩
    obtain ⟨d, rfl⟩ := all_int (by rfl) m
    exact q _ _ (s4.trans s5)
  refine ⟨_, rfl, _, _, rfl, rfl, _, rfl, ite2 (fun c => ?_) (fun c => ?_)⟩
  · exact ⟨_, rfl, S, G, 5000, rfl, s1.wd, by omega, fun d2 H2 r0 r1 s2 => ⟨_, _, rfl, rfl, q _ _ (s1.trans s2)⟩⟩
  refine ⟨5, rfl, by omega, by omega, for_range (lo := 0) (n := 5) (fun i σ' H' => ∃ m y4, σ' = [some (.ref S.a), some (.int d1), none, some (.int m), y4] ∧ Go S G H G H') ⟨0, none, rfl, s1⟩ ?_ ?_⟩
  · rintro i σ' H3 hi ⟨m, y4, rfl, s3⟩
    refine ⟨_, rfl, _, _, rfl, rfl, .inr ⟨by omega, by omega⟩, _, rfl, S, G, 1000000, rfl, s3.wd, by omega, fun d2 H2 r0 r1 s2 => ⟨_, _, rfl, rfl, _, _, rfl, s3.trans s2⟩⟩
  · rintro σ' H3 ⟨m, y4, rfl, s3⟩
    refine ⟨_, rfl, _, _, rfl, rfl, _, rfl, ite2 (fun c => ?_) (fun c => ?_)⟩
    · exact ⟨_, rfl, _, rfl, q _ _ s3⟩
    · exact ⟨_, rfl, q _ _ s3⟩
theorem ok_sign (Z : Zs mg) (D : Ds K mg) (c__law_take : Cal P w K mg base "_law_take" 2 ["store", "many"] spTake) : Cal P w K mg base "_law_sign" 3 ["store"] spSign := by
  refine Def.cal D.d_law_sign sc_law_sign (fun vs H Q E h => ?_) (fun f cdv A outer s H vs Q E hr h => ?_)
  · obtain ⟨S, G, rfl, wd, q⟩ := h
    rfl
  obtain ⟨S, G, rfl, wd, q⟩ := h
  refine ⟨_, (pss_cons (ps_set (i := 1) sc_law_sign.nd rfl (Or.inl rfl) pe_str)
      (pss_cons (ps_set (i := 1) sc_law_sign.nd rfl (Or.inl rfl) (pe_op op_add_str (pv 1) pe_str))
      (pss_one (ps_ret (pe_ix ix_str (pv 1) (pe_cal c__law_take (hr.mono (by first | decide | omega)) (by rfl) (pa_cons (pv 0) (pa_cons (pe_callB call_len_str (by rfl) Z.z_len (by decide +kernel) (pa_cons (pv 1) pa_nil)) pa_nil))) (fun _ _ => rfl)))))), ?_⟩
  refine ⟨_, rfl, _, _, rfl, rfl, by decide +kernel, _, rfl, _, rfl, _, rfl, _, rfl, ?_, S, G, _, rfl, wd, ?_, fun d H1 p0 p1 s1 => ?_⟩
  · decide +kernel
  · decide +kernel
  · have p2 := p1.resolve_right (fun z => absurd z.1 (by decide +kernel))
    obtain ⟨c, e, _⟩ := at_str p0 p2
    exact ⟨_, d, c, rfl, rfl, by decide +kernel, e, q _ _ s1⟩
theorem ok_text (Z : Zs mg) (D : Ds K mg) (c__law_place : Cal P w K mg base "_law_place" 3 ["store", "size"] spPlace) (c__law_sign : Cal P w K mg base "_law_sign" 3 ["store"] spSign) : Cal P w K mg base "_law_text" 4 ["store", "most"] spText := by
  refine Def.cal D.d_law_text sc_law_text (fun vs H Q E h => ?_) (fun f cdv A outer s H vs Q E hr h => ?_)
  · obtain ⟨S, G, n, rfl, wd, h0, h1, q⟩ := h
    rfl
  obtain ⟨S, G, n, rfl, wd, h0, h1, q⟩ := h
  refine ⟨_, (pss_cons (ps_set (i := 2) sc_law_text.nd rfl (Or.inl rfl) (pe_cal c__law_place (hr.mono (by first | decide | omega)) (by rfl) (pa_cons (pv 0) (pa_cons (pe_op op_add (pv 1) pe_int) pa_nil))))
      (pss_one (ps_ret (pe_bm PySem.F.plainAttrs_str PySem.F.slot_str_join PySem.F.type_str_join mt_join pe_str (pa_cons (pe_lc (own := [("k", 3)]) (g := gName 3) (tt := tYes) (by rfl) sc_law_text.nd (pi_range1 (by rfl) Z.z_range (pa_cons (pv 2) pa_nil)) (blkOk_by (N := ["store", "most", "size", "k"]) (sc := defScope s_law_text) (by decide +kernel)) (fun _ _ _ _ _ => pg_name (i := 3) sc_law_text.nd rfl (Or.inl rfl)) (fun _ _ _ _ _ => pts_nil) (fun _ _ _ _ _ => (pe_cal c__law_sign (hr.mono (by first | decide | omega)) (by rfl) (pa_cons (pv 0) pa_nil)))) pa_nil))))), ?_⟩
  refine ⟨_, rfl, _, rfl, _, _, rfl, rfl, S, G, n + 1, rfl, wd, by omega, by omega, fun m H1 p0 p1 s1 => ?_⟩
  refine ⟨rfl, _, rfl, m, rfl, by omega, by omega, fun l hl => ?_⟩
  refine lc_range (lo := 0) (n := m.toNat) (fun i H' => ∃ zs : List Str, Go S G H G H' ∧ G l = none ∧ H l = none ∧ H' l = some (.lst (zs.map V.str)) ∧ zs.length = i ∧ ∀ z ∈ zs, z.length = 1) ?_ ?_ ?_
  · obtain ⟨s2, gl, hl2, fl⟩ := s1.loc (o := .lst []) (p := l) ⟨hl, rfl⟩
    exact ⟨[], s2, gl, fl, hl2, rfl, fun _ z => nomatch z⟩
  · rintro i H3 hi ⟨zs, s3, gl, fl, hl3, rfl, hz⟩
    refine ⟨rfl, yesT ⟨_, rfl, S, G, rfl, s3.wd, fun c H4 s4 => ?_⟩⟩
    have hl4 := s4.hh hl3 (s3.ns fl)
    have s5 := (s3.trans s4).mut (l := l) (o := .lst (zs.map V.str ++ [.str ⟨#[c]⟩])) gl fl rfl
    refine ⟨_, hl4, lt (by rw [List.length_map]; omega), zs ++ [⟨#[c]⟩], s5, gl, fl, ?_, by rw [List.length_append]; rfl, fun z m => ?_⟩
    · rw [List.map_append]
      exact upd_same
    · rcases List.mem_append.mp m with m | m
      · exact hz z m
      · rw [List.mem_singleton.mp m]
        rfl
  · rintro H3 ⟨zs, s3, gl, fl, hl3, hn, hz⟩
    have e := sum_ones zs hz
    refine ⟨_, l, zs, rfl, rfl, .inl (.of hl3), ?_, ?_⟩
    · rw [e]
      show zs.length + zs.length * 0 ≤ _
      omega
    · exact q _ _ (by rw [show (Str.ofString "") = Str.empty from rfl, join_len, e]; omega) s3
theorem ok_leaf (Z : Zs mg) (D : Ds K mg) (c__law_take : Cal P w K mg base "_law_take" 2 ["store", "many"] spTake) (c__law_text : Cal P w K mg base "_law_text" 4 ["store", "most"] spText) (c__law_whole : Cal P w K mg base "_law_whole" 4 ["store"] spWhole) : Cal P w K mg base "_law_leaf" 5 ["store"] spLeaf := by
  refine Def.cal D.d_law_leaf sc_law_leaf (fun vs H Q E h => ?_) (fun f cdv A outer s H vs Q E hr h => ?_)
  · obtain ⟨S, G, rfl, wd, q⟩ := h
    rfl
  obtain ⟨S, G, rfl, wd, q⟩ := h
  refine ⟨_, (pss_cons (ps_set (i := 1) sc_law_leaf.nd rfl (Or.inl rfl) (pe_cal c__law_take (hr.mono (by first | decide | omega)) (by rfl) (pa_cons (pv 0) (pa_cons pe_int pa_nil))))
      (pss_cons (ps_if (pt_cmp (pc_eqI (pv 1) pe_int) (nomark _)) (pss_one (ps_ret pe_non)) pss_nil)
      (pss_cons (ps_if (pt_cmp (pc_eqI (pv 1) pe_int) (nomark _)) (pss_one (ps_ret pe_bl)) pss_nil)
      (pss_cons (ps_if (pt_cmp (pc_eqI (pv 1) pe_int) (nomark _)) (pss_one (ps_ret pe_bl)) pss_nil)
      (pss_cons (ps_if (pt_cmp (pc_eqI (pv 1) pe_int) (nomark _)) (pss_one (ps_ret (pe_cal c__law_text (hr.mono (by first | decide | omega)) (by rfl) (pa_cons (pv 0) (pa_cons pe_int pa_nil))))) pss_nil)
      (pss_cons (ps_if (pt_cmp (pc_eqI (pv 1) pe_int) (nomark _)) (pss_one (ps_ret (pe_callTy call_str_int (by rfl) Z.z_str (by decide +kernel) (pa_cons (pe_cal c__law_take (hr.mono (by first | decide | omega)) (by rfl) (pa_cons (pv 0) (pa_cons pe_int pa_nil))) pa_nil)))) pss_nil)
      (pss_one (ps_ret (pe_cal c__law_whole (hr.mono (by first | decide | omega)) (by rfl) (pa_cons (pv 0) pa_nil)))))))))), ?_⟩
  refine ⟨_, rfl, S, G, 8, rfl, wd, by omega, fun d1 H1 p0 p1 s1 => ?_⟩
  refine ⟨_, rfl, _, _, rfl, rfl, _, rfl, ite2 (fun c => q _ _ _ .non s1) (fun c => ?_)⟩
  refine ⟨_, rfl, _, _, rfl, rfl, _, rfl, ite2 (fun c => q _ _ _ (.bl true) s1) (fun c => ?_)⟩
  refine ⟨_, rfl, _, _, rfl, rfl, _, rfl, ite2 (fun c => q _ _ _ (.bl false) s1) (fun c => ?_)⟩
  refine ⟨_, rfl, _, _, rfl, rfl, _, rfl, ite2 (fun c => ?_) (fun c => ?_)⟩
  · exact ⟨_, rfl, S, G, 6, rfl, s1.wd, by omega, by omega, fun z H2 hz s2 => q _ _ _ (.str z (by omega)) (s1.trans s2)⟩
  refine ⟨_, rfl, _, _, rfl, rfl, _, rfl, ite2 (fun c => ?_) (fun c => ?_)⟩
  · refine ⟨_, rfl, S, G, 13, rfl, s1.wd, by omega, fun d2 H2 r0 r1 s2 => ⟨d2, rfl, log_small r0 (by omega), q _ _ _ (.str _ ?_) (s1.trans s2)⟩⟩
    exact Nat.le_trans (PyProof.Rows.toString_length_le (k := 100) r0 (by decide) (by omega)) (by decide)
  · exact ⟨_, rfl, S, G, rfl, s1.wd, fun d H2 s2 => q _ _ _ (.int d) (s1.trans s2)⟩

theorem ok_value (Z : Zs mg) (D : Ds K mg) (c__law_take : Cal P w K mg base "_law_take" 2 ["store", "many"] spTake) (c__law_leaf : Cal P w K mg base "_law_leaf" 5 ["store"] spLeaf) (c__law_either : Cal P w K mg base "_law_either" 3 ["store", "entries"] spEither) : Cal P w K mg base "_law_value" 6 ["store", "deep"] spValue := by
  refine Def.cal D.d_law_value sc_law_value (fun vs H Q E h => ?_) (fun f cdv A outer s H vs Q E hr h => ?_)
  · obtain ⟨S, G, n, rfl, wd, hn, q⟩ := h
    rfl
  obtain ⟨S, G, n, rfl, wd, hn, q⟩ := h
  refine ⟨_, (pss_cons (ps_set (i := 2) sc_law_value.nd rfl (Or.inl rfl) (pe_cal c__law_take (hr.mono (by first | decide | omega)) (by rfl) (pa_cons (pv 0) (pa_cons pe_int pa_nil))))
      (pss_cons (ps_if (PW.pt (pw_or (pt_cmp (pc_lt (pv 1) pe_int) (nomark _)) (pw_or1 (pt_cmp (pc_eqI (pv 2) pe_int) (nomark _))))) (pss_one (ps_ret (pe_cal c__law_leaf (hr.mono (by first | decide | omega)) (by rfl) (pa_cons (pv 0) pa_nil)))) pss_nil)
      (pss_cons (ps_set (i := 3) sc_law_value.nd rfl (Or.inl rfl) (pe_lstN pa_nil))
      (pss_cons (ps_for PassesOwn.never rfl (pi_range1 (by rfl) Z.z_range (pa_cons (pe_cal c__law_take (hr.mono (by first | decide | omega)) (by rfl) (pa_cons (pv 0) (pa_cons pe_int pa_nil))) pa_nil)) (pg_name (i := 4) sc_law_value.nd rfl (Or.inl rfl)) (pss_one (ps_if (PW.pt (pw_and (pt_cmp (pc_gt (pv 1) pe_int) (nomark _)) (pw_and1 (pt_cmp (pc_eqI (pe_cal c__law_take (hr.mono (by first | decide | omega)) (by rfl) (pa_cons (pv 0) (pa_cons pe_int pa_nil))) pe_int) (nomark _))))) (pss_cons (ps_set (i := 5) sc_law_value.nd rfl (Or.inl rfl) (pe_cal c__law_take (hr.mono (by first | decide | omega)) (by rfl) (pa_cons (pv 0) (pa_cons pe_int pa_nil))))
      (pss_one (ps_expr (pe_bm PySem.F.plainAttrs_list PySem.F.slot_list_append PySem.F.type_list_append mt_appendN (pv 3) (pa_cons (pe_cal c__law_either (hr.mono (by first | decide | omega)) (by rfl) (pa_cons (pv 0) (pa_cons (pe_lc (own := [("j", 7)]) (g := gName 7) (tt := tYes) (by rfl) sc_law_value.nd (pi_range1 (by rfl) Z.z_range (pa_cons (pv 5) pa_nil)) (blkOk_by (N := ["store", "deep", "pick", "entries", "k", "size", "value", "j"]) (sc := defScope s_law_value) (by decide +kernel)) (fun _ _ _ _ _ => pg_name (i := 7) sc_law_value.nd rfl (Or.inl rfl)) (fun _ _ _ _ _ => pts_nil) (fun _ _ _ _ _ => (pe_cal c__law_leaf (hr.mono (by first | decide | omega)) (by rfl) (pa_cons (pv 0) pa_nil)))) pa_nil))) pa_nil))))) (pss_one (ps_expr (pe_bm PySem.F.plainAttrs_list PySem.F.slot_list_append PySem.F.type_list_append mt_appendN (pv 3) (pa_cons (pe_cal c__law_leaf (hr.mono (by first | decide | omega)) (by rfl) (pa_cons (pv 0) pa_nil)) pa_nil)))))))
      (pss_cons (ps_set (i := 6) sc_law_value.nd rfl (Or.inl rfl) (pe_cal c__law_either (hr.mono (by first | decide | omega)) (by rfl) (pa_cons (pv 0) (pa_cons (pv 3) pa_nil))))
      (pss_cons (ps_if (pt_cmp (pc_eqI (pv 2) pe_int) (nomark _)) (pss_one (ps_for PassesOwn.never rfl (pi_range1 (by rfl) Z.z_range (pa_cons (pe_cal c__law_take (hr.mono (by first | decide | omega)) (by rfl) (pa_cons (pv 0) (pa_cons (pe_op op_sub (pv 1) pe_int) pa_nil))) pa_nil)) (pg_name (i := 4) sc_law_value.nd rfl (Or.inl rfl)) (pss_one (ps_set (i := 6) sc_law_value.nd rfl (Or.inl rfl) (pe_cal c__law_either (hr.mono (by first | decide | omega)) (by rfl) (pa_cons (pv 0) (pa_cons (pe_lstN (pa_cons (pv 6) pa_nil)) pa_nil))))))) pss_nil)
      (pss_one (ps_ret (pv 6))))))))), ?_⟩
  refine ⟨_, rfl, S, G, 4, rfl, wd, by omega, fun d1 H1 p0 p1 s1 => ?_⟩
  refine ⟨_, rfl, _, _, rfl, rfl, _, rfl, ite2 (fun c => iteT ⟨_, rfl, ⟨S, G, rfl, s1.wd, fun v d H2 l s2 => q v d G H2 l.da (by have := l.sz; omega) (s1.trans s2)⟩⟩) (fun c => ?_)⟩
  refine ⟨_, rfl, _, _, rfl, rfl, _, rfl, ite2 (fun c => ⟨_, rfl, ⟨S, G, rfl, s1.wd, fun v d H2 l s2 => q v d G H2 l.da (by have := l.sz; omega) (s1.trans s2)⟩⟩) (fun c => ?_)⟩
  -- entries = []
  refine ⟨Nat.zero_le _, fun l H2 n2 => ?_⟩
  obtain ⟨s2, gl, hl, fl⟩ := s1.loc n2
  refine ⟨_, rfl, S, G, 5, rfl, s2.wd, by omega, fun t H3 t0 t1 s3 => ?_⟩
  have hl := s3.hh hl (s2.ns fl)
  have s3 := s2.trans s3
  refine ⟨t, rfl, by omega, by omega, for_range (lo := 0) (n := t.toNat) (fun i σ' H' => ∃ (G' : Hp) (xs : List V) (ds : List PyData) (y4 y5 y7 : Option V), σ' = [some (.ref S.a), some (.int n), some (.int d1), some (.ref l), y4, y5, none, y7] ∧
    Go S G H G' H' ∧ G' l = none ∧ H' l = some (.lst xs) ∧ xs.length = i ∧ DaAll G' xs ds ∧ szL ds ≤ 500 * i) ⟨G, [], [], none, none, none, rfl, s3, gl, hl, rfl, .nil, Nat.le_refl _⟩ ?_ ?_⟩
  · rintro i σ' H4 hi ⟨G4, xs, ds, y4, y5, y7, rfl, s4, gl, hl, rfl, da, sz⟩
    have app : ∀ (D : Ends) (y4 y5 y7 : Option V) (H5 : Hp), (∀ (v : V) (d : PyData) (H7 : Hp), Leaf v d → Go S G H G4 H7 → H7 l = some (.lst (xs ++ [v])) → D.nx [some (.ref S.a), some (.int n), some (.int d1), some (.ref l), y4, y5, none, y7] H7) → Go S G H G4 H5 → H5 l = some (.lst xs) →
      (tDrop (tBM K "list" rAppendN (tVar 3) (tCons (tCall spLeaf [] E0 (tCons (tVar 0) tNil)) tNil))) D [some (.ref S.a), some (.int n), some (.int d1), some (.ref l), y4, y5, none, y7] H5 := by
      intro D y4 y5 y7 H5 hD s5 hl5
      refine ⟨_, rfl, .inl ⟨rfl, _, .of hl5⟩, _, rfl, S, G4, rfl, s5.wd, fun v d H6 lf s6 => ?_⟩
      have hl6 := s6.hh hl5 (s5.ns fl)
      refine ⟨l, xs, v, rfl, rfl, hl6, lt (by omega), fun H7 e7 => ?_⟩
      exact hD v d H7 lf ((s5.trans s6).mut gl fl e7) (upd_at e7)
    have fin : ∀ (y4 y5 y7 : Option V) (v : V) (d : PyData) (H7 : Hp), Leaf v d → Go S G H G4 H7 → H7 l = some (.lst (xs ++ [v])) → ∃ (G' : Hp) (xs' : List V) (ds : List PyData) (z4 z5 z7 : Option V), [some (.ref S.a), some (.int n), some (.int d1), some (.ref l), y4, y5, none, y7] = [some (.ref S.a), some (.int n), some (.int d1), some (.ref l), z4, z5, none, z7] ∧
        Go S G H G' H7 ∧ G' l = none ∧ H7 l = some (.lst xs') ∧ xs'.length = xs.length + 1 ∧ DaAll G' xs' ds ∧ szL ds ≤ 500 * (xs.length + 1) := by
      intro y4 y5 y7 v d H7 lf s7 h7
      refine ⟨G4, xs ++ [v], ds ++ [d], _, _, _, rfl, s7, gl, h7, by rw [List.length_append]; rfl, da.append (.one lf.da), ?_⟩
      have := lf.sz
      rw [szL_append, szL_one]
      omega
    refine ⟨_, rfl, _, _, rfl, rfl, _, rfl, ite2 (fun c => ?_) (fun c => iteF (app _ _ _ _ H4 (fin _ _ _) s4 hl))⟩
    refine ⟨_, rfl, S, G4, 4, rfl, s4.wd, by omega, fun u H5 u0 u1 s5 => ?_⟩
    have hl5 := s5.hh hl (s4.ns fl)
    have s5 := s4.trans s5
    refine ⟨_, _, rfl, rfl, _, rfl, ite2 (fun c => ?_) (fun c => app _ _ _ _ H5 (fin _ _ _) s5 hl5)⟩
    refine ⟨_, rfl, S, G4, 4, rfl, s5.wd, by omega, fun m H6 m0 m1 s6 => ?_⟩
    have hl6 := s6.hh hl5 (s5.ns fl)
    have s6 := s5.trans s6
    refine ⟨_, rfl, .inl ⟨rfl, _, .of hl6⟩, _, rfl, _, rfl, m, rfl, by omega, by omega, fun e he => ?_⟩
    refine lc_range (lo := 0) (n := m.toNat) (fun j H' => ∃ (zs : List V) (es : List PyData), Go S G H G4 H' ∧ G4 e = none ∧ H e = none ∧ e ≠ l ∧ H' e = some (.lst zs) ∧ H' l = some (.lst xs) ∧ zs.length = j ∧ DaAll G4 zs es ∧ szL es ≤ 101 * j) ?_ ?_ ?_
    · obtain ⟨s7, ge, h7, fe⟩ := s6.loc (o := .lst []) (p := e) ⟨he, rfl⟩
      have nel : l ≠ e := ne_of_none hl6 he
      exact ⟨[], [], s7, ge, fe, nel.symm, h7, by rw [upd_ne nel]; exact hl6, rfl, .nil, Nat.zero_le _⟩
    · rintro j H7 hj ⟨zs, es, s7, ge, fe, nel, he7, hl7, rfl, dz, sz2⟩
      refine ⟨rfl, yesT ⟨_, rfl, S, G4, rfl, s7.wd, fun v d H8 lf s8 => ?_⟩⟩
      have he8 := s8.hh he7 (s7.ns fe)
      have hl8 := s8.hh hl7 (s7.ns fl)
      refine ⟨_, he8, lt (by omega), zs ++ [v], es ++ [d], (s7.trans s8).mut ge fe rfl, ge, fe, nel, upd_same, by rw [upd_ne nel.symm]; exact hl8, by rw [List.length_append]; rfl, dz.append (.one lf.da), ?_⟩
      have := lf.sz
      rw [szL_append, szL_one]
      omega
    · rintro H7 ⟨zs, es, s7, ge, fe, nel, he7, hl7, hz, dz, sz2⟩
      refine ⟨S, G4, e, zs, rfl, s7.wd, s7.ns fe, he7, fun p b H8 s8 gp fp hp => ?_⟩
      have hl8 := s8.hh hl7 (s7.ns fl)
      have s8 := s7.trans s8
      have nlp : l ≠ p := ne_of_none hl7 fp
      have fp := s7.fresh fp
      obtain ⟨G9, s9, g9, kp, ko⟩ := s8.frz gp fp hp
      refine ⟨l, xs, .ref p, rfl, rfl, hl8, lt (by omega), fun H9 e9 => ?_⟩
      have gl9 : G9 l = none := by rw [ko _ nlp]; exact gl
      refine ⟨G9, xs ++ [.ref p], ds ++ [_], _, _, _, rfl, s9.mut gl9 fl e9, gl9, upd_at e9, by rw [List.length_append]; rfl, (da.up g9).append (.one (.of_if kp (dz.up g9))), ?_⟩
      rw [szL_append, szL_one, sz_if]
      omega
  · rintro σ' H4 ⟨G4, xs, ds, y4, y5, y7, rfl, s4, gl, hl, hx, da, sz⟩
    refine ⟨_, rfl, _, rfl, S, G4, l, xs, rfl, s4.wd, s4.ns fl, hl, fun p b H5 s5 gp fp hp => ?_⟩
    have s5 := s4.trans s5
    have fp := s4.fresh fp
    obtain ⟨G6, s6, g6, kp, ko⟩ := s5.frz gp fp hp
    have dv := Da.of_if kp (da.up g6)
    have zv := sz_if b ds
    generalize (if b = true then PyData.tuple ds else PyData.list ds) = dd at dv zv
    refine ⟨_, rfl, _, _, rfl, rfl, _, rfl, ite2 (fun c => ?_) (fun c => ⟨_, rfl, q _ dd G6 H5 dv (by omega) s6⟩)⟩
    refine ⟨_, rfl, _, rfl, _, _, rfl, rfl, S, G6, n - 1, rfl, s6.wd, by omega, fun r H7 r0 r1 s7 => ?_⟩
    have s7 := s6.trans s7
    refine ⟨r, rfl, by omega, by omega, for_range (lo := 0) (n := r.toNat) (fun i σ' H' => ∃ (G' : Hp) (v : V) (d : PyData) (y4 y5 y7 : Option V), σ' = [some (.ref S.a), some (.int n), some (.int d1), some (.ref l), y4, y5, some v, y7] ∧
      Go S G H G' H' ∧ Da G' v d ∧ szD d ≤ 3000 + i) ⟨G6, _, dd, _, _, _, rfl, s7, dv, by omega⟩ ?_ ?_⟩
    · rintro i σ' H8 hi ⟨G8, v, d, y4, y5, y7, rfl, s8, dv, sz⟩
      refine ⟨_, rfl, _, rfl, by show 1 ≤ sizeLine; decide, fun m H9 n9 => ?_⟩
      obtain ⟨s9, gm, hm, fm⟩ := s8.loc n9
      refine ⟨S, G8, m, [v], rfl, s9.wd, s9.ns fm, hm, fun p b H5 s5 gp fp hp => ?_⟩
      have s5 := s9.trans s5
      have fp := s9.fresh fp
      obtain ⟨G6, s6, g6, kp, ko⟩ := s5.frz gp fp hp
      refine ⟨G6, _, _, _, _, _, rfl, s6, .of_if kp (.one (dv.up g6)), ?_⟩
      rw [sz_if, szL_one]
      omega
    · rintro σ' H8 ⟨G8, v, d, y4, y5, y7, rfl, s8, dv, sz⟩
      exact ⟨_, rfl, q v d G8 H8 dv (by omega) s8⟩

theorem ok_is_whole (Z : Zs mg) (D : Ds K mg) : Cal P w K mg base "_law_is_whole" 1 ["value"] spIsWhole := by
  refine Def.cal D.d_law_is_whole sc_law_is_whole (fun vs H Q E h => ?_) (fun f cdv A outer s H vs Q E hr h => ?_)
  · obtain ⟨v, d, rfl, hd, q⟩ := h
    rfl
  obtain ⟨v, d, rfl, hd, q⟩ := h
  refine ⟨_, (pss_one (ps_ret (pe_and (pe_callB call_isD (by rfl) Z.z_isinstance (by decide +kernel) (pa_cons (pv 0) (pa_cons (pe_bltn (v := .ty "int") (by rfl) Z.z_int (by decide +kernel) rfl) pa_nil))) (pe_one (pe_not (pe_callB call_isD (by rfl) Z.z_isinstance (by decide +kernel) (pa_cons (pv 0) (pa_cons (pe_bltn (v := .ty "bool") (by rfl) Z.z_bool (by decide +kernel) rfl) pa_nil)))))))), ?_⟩
  rw [← isI_inst d hd.nd] at q
  refine ⟨_, rfl, v, d, "int", rfl, hd, .inl rfl, _, rfl, ?_⟩
  cases e : instB d "int" with
  | true =>
    rw [e] at q
    exact iteT ⟨_, rfl, v, d, "bool", rfl, hd, .inr (.inl rfl), _, rfl, q⟩
  | false =>
    rw [e] at q
    exact iteF q
theorem ok_same (Z : Zs mg) (D : Ds K mg) (c__law_is_whole : Cal P w K mg base "_law_is_whole" 1 ["value"] spIsWhole) : Cal P w K mg base "_law_same" 2 ["actual", "due"] spSame := by
  refine Def.cal D.d_law_same sc_law_same (fun vs H Q E h => ?_) (fun f cdv A outer s H vs Q E hr h => ?_)
  · obtain ⟨G, v, w, d, e, rfl, gh, hd, he, zd, ze, q⟩ := h
    rfl
  obtain ⟨G, v, w, d, e, rfl, gh, hd, he, zd, ze, q⟩ := h
  refine ⟨_, (pss_cons (ps_set (i := 2) sc_law_same.nd rfl (Or.inl rfl) (pe_lstN (pa_cons (pe_tupN (pa_cons (pv 0) (pa_cons (pv 1) pa_nil))) pa_nil)))
      (pss_cons (ps_while PassesOwn.never (pt_cmp (pc_gt (pe_callB call_len_seq (by rfl) Z.z_len (by decide +kernel) (pa_cons (pv 2) pa_nil)) pe_int) (nomark _)) (pss_cons (ps_set (i := 3) sc_law_same.nd rfl (Or.inl rfl) (pe_bm0 PySem.F.plainAttrs_list PySem.F.slot_list_pop PySem.F.type_list_pop mt_popN (pv 2)))
      (pss_cons (ps_set (i := 4) sc_law_same.nd rfl (Or.inl rfl) (pe_ix ix_tup (pv 3) pe_int (fun _ _ => rfl)))
      (pss_cons (ps_set (i := 5) sc_law_same.nd rfl (Or.inl rfl) (pe_ix ix_tup (pv 3) pe_int (fun _ _ => rfl)))
      (pss_one (ps_if (PW.pt (pw_or (pt_cmpR op_isN (pv 5) pe_non (nomark _)) (pw_or (pt_cmpR op_isBD (pv 5) pe_bl (nomark _)) (pw_or1 (pt_cmpR op_isBD (pv 5) pe_bl (nomark _)))))) (pss_one (ps_if (pt_not (PW.pt (pw_or (PW.pt (pw_and (pt_cmpR op_isN (pv 5) pe_non (nomark _)) (pw_and1 (pt_cmpR op_isN (pv 4) pe_non (nomark _))))) (pw_or (PW.pt (pw_and (pt_cmpR op_isBD (pv 5) pe_bl (nomark _)) (pw_and1 (pt_cmpR op_isBD (pv 4) pe_bl (nomark _))))) (pw_or1 (PW.pt (pw_and (pt_cmpR op_isBD (pv 5) pe_bl (nomark _)) (pw_and1 (pt_cmpR op_isBD (pv 4) pe_bl (nomark _)))))))))) (pss_one (ps_ret pe_bl)) pss_nil)) (pss_one (ps_if (pt_val (pe_callB call_isD (by rfl) Z.z_isinstance (by decide +kernel) (pa_cons (pv 5) (pa_cons (pe_bltn (v := .ty "int") (by rfl) Z.z_int (by decide +kernel) rfl) pa_nil)))) (pss_one (ps_if (PW.pt (pw_or (pt_not (pt_val (pe_cal c__law_is_whole (hr.mono (by first | decide | omega)) (by rfl) (pa_cons (pv 4) pa_nil)))) (pw_or1 (pt_cmpR op_ne (pv 4) (pv 5) (nomark _))))) (pss_one (ps_ret pe_bl)) pss_nil)) (pss_one (ps_if (pt_val (pe_callB call_isD (by rfl) Z.z_isinstance (by decide +kernel) (pa_cons (pv 5) (pa_cons (pe_bltn (v := .ty "str") (by rfl) Z.z_str (by decide +kernel) rfl) pa_nil)))) (pss_one (ps_if (PW.pt (pw_or (pt_not (pt_val (pe_callB call_isD (by rfl) Z.z_isinstance (by decide +kernel) (pa_cons (pv 4) (pa_cons (pe_bltn (v := .ty "str") (by rfl) Z.z_str (by decide +kernel) rfl) pa_nil))))) (pw_or1 (pt_cmpR op_ne (pv 4) (pv 5) (nomark _))))) (pss_one (ps_ret pe_bl)) pss_nil)) (Evl.pss_cut (ps_if (PW.pt (pw_and (pt_val (pe_callB call_isD (by rfl) Z.z_isinstance (by decide +kernel) (pa_cons (pv 5) (pa_cons (pe_bltn (v := .ty "tuple") (by rfl) Z.z_tuple (by decide +kernel) rfl) pa_nil)))) (pw_and1 (pt_not (pt_val (pe_callB call_isD (by rfl) Z.z_isinstance (by decide +kernel) (pa_cons (pv 4) (pa_cons (pe_bltn (v := .ty "tuple") (by rfl) Z.z_tuple (by decide +kernel) rfl) pa_nil)))))))) (pss_one (ps_ret pe_bl)) pss_nil)
      (Evl.pss_cut (ps_if (PW.pt (pw_and (pt_val (pe_callB call_isD (by rfl) Z.z_isinstance (by decide +kernel) (pa_cons (pv 5) (pa_cons (pe_bltn (v := .ty "list") (by rfl) Z.z_list (by decide +kernel) rfl) pa_nil)))) (pw_and1 (pt_not (pt_val (pe_callB call_isD (by rfl) Z.z_isinstance (by decide +kernel) (pa_cons (pv 4) (pa_cons (pe_bltn (v := .ty "list") (by rfl) Z.z_list (by decide +kernel) rfl) pa_nil)))))))) (pss_one (ps_ret pe_bl)) pss_nil)
      (pss_cons (ps_if (pt_cmp (pc_neI (pe_callB call_len (by rfl) Z.z_len (by decide +kernel) (pa_cons (pv 4) pa_nil)) (pe_callB call_len (by rfl) Z.z_len (by decide +kernel) (pa_cons (pv 5) pa_nil))) (nomark _)) (pss_one (ps_ret pe_bl)) pss_nil)
      (pss_one (ps_for PassesOwn.never rfl (pi_range1 (by rfl) Z.z_range (pa_cons (pe_callB call_len (by rfl) Z.z_len (by decide +kernel) (pa_cons (pv 5) pa_nil)) pa_nil)) (pg_name (i := 6) sc_law_same.nd rfl (Or.inl rfl)) (pss_one (ps_expr (pe_bm PySem.F.plainAttrs_list PySem.F.slot_list_append PySem.F.type_list_append mt_appendN (pv 2) (pa_cons (pe_tupN (pa_cons (pe_ix ix_seq (pv 4) (pv 6) (fun _ _ => rfl)) (pa_cons (pe_ix ix_seq (pv 5) (pv 6) (fun _ _ => rfl)) pa_nil))) pa_nil)))))))))))))))))))
      (pss_one (ps_ret pe_bl)))), ?_⟩
  refine ⟨_, rfl, _, rfl, by show 2 ≤ sizeLine; decide, fun p H1 n1 => ⟨by show 1 ≤ sizeLine; decide, fun l H2 n2 => ?_⟩⟩
  have s1 : Stq G H G H1 := (Stq.loc gh n1).1
  have fp := n1.fr
  have s2 := (Stq.refl gh).trans (s1.trans (Stq.loc s1.gh n2).1)
  have gl : G l = none := s1.gh.free n2.fr
  have fl : H l = none := s1.hh.free n2.fr
  have hl := n2.at
  have hp := n2.else n1.at
  refine ⟨fun m σ' H' => ∃ (ps : List Pr) (y3 y4 y5 y6 : Option V), σ' = [some v, some w, some (.ref l), y3, y4, y5, y6] ∧ Stq G H G H' ∧ H' l = some (.lst (ps.map fun x => V.ref x.a)) ∧ (∀ x ∈ ps, PairAt G H' x) ∧ sameD d e = allP ps ∧ szP ps = m ∧ m ≤ 4000000,
    ⟨_, [⟨p, v, w, d, e⟩], none, none, none, none, rfl, s2, hl, ?_, ?_, rfl, ?_⟩, ?_⟩
  · intro x hx
    rw [List.mem_singleton.mp hx]
    exact ⟨hp, hd, he⟩
  · rw [allP_one]
  · rw [szP_one]
    show szD d + szD e ≤ 4000000
    omega
  rintro m σ' H3 ⟨ps, y3, y4, y5, y6, rfl, s3, hl, hps, hall, hsz, hm⟩
  have hlen := szP_len ps
  refine ⟨_, rfl, l, _, rfl, .inl (.of hl), _, _, rfl, rfl, _, rfl, ite2 (fun c => ?_) (fun c => ?_)⟩
  · have c : (0 : Int) < ((ps.map fun x => V.ref x.a).length : Nat) := dec_of c
    rw [List.length_map] at c
    rcases List.eq_nil_or_concat ps with rfl | ⟨qs, x, rfl⟩
    · exact absurd c (by decide)
    rw [List.concat_eq_append] at *
    refine ⟨fun σ' H' => ∃ m', m' < m ∧ ∃ (ps : List Pr) (y3 y4 y5 y6 : Option V), σ' = [some v, some w, some (.ref l), y3, y4, y5, y6] ∧ Stq G H G H' ∧ H' l = some (.lst (ps.map fun x => V.ref x.a)) ∧ (∀ x ∈ ps, PairAt G H' x) ∧ sameD d e = allP ps ∧ szP ps = m' ∧ m' ≤ 4000000, fun σ' H' h => h, ?_⟩
    rw [szP_app, szP_one] at hsz
    rw [allP_app, allP_one] at hall
    have hx := hps x (List.mem_append_right _ (List.mem_singleton.mpr rfl))
    have hqs : ∀ y ∈ qs, PairAt G H3 y := fun y hy => hps y (List.mem_append_left _ hy)
    rw [List.map_append] at hl
    refine ⟨_, rfl, .inl ⟨rfl, _, .of hl⟩, l, _, .ref x.a, rfl, rfl, hl, ?_, fun H4 e4 => ?_⟩
    · rw [List.length_append, List.getElem?_append_right (by simp)]
      simp
    have s4 := s3.mut gl fl e4
    have hl4 : H4 l = some (.lst (qs.map fun x => V.ref x.a)) := by
      have := upd_at e4
      simpa using this
    have hq4 : ∀ y ∈ qs, PairAt G H4 y := fun y hy => (hqs y hy).put hl e4
    obtain ⟨hxa, hxd, hxe⟩ := hx.put hl e4
    refine ⟨_, rfl, x.a, _, 0, x.v, rfl, rfl, .of hxa, rfl, _, rfl, x.a, _, 1, x.w, rfl, rfl, .of hxa, rfl, ?_⟩
    have done : sameD x.d x.e = true → ∀ y3 y4 y5 y6, ∃ m', m' < m ∧ ∃ (ps : List Pr) (z3 z4 z5 z6 : Option V), [some v, some w, some (.ref l), y3, y4, y5, y6] = [some v, some w, some (.ref l), z3, z4, z5, z6] ∧ Stq G H G H4 ∧ H4 l = some (.lst (ps.map fun x => V.ref x.a)) ∧ (∀ x ∈ ps, PairAt G H4 x) ∧ sameD d e = allP ps ∧ szP ps = m' ∧ m' ≤ 4000000 := by
      intro ex y3 y4 y5 y6
      have := szD_pos x.d
      exact ⟨szP qs, by omega, qs, _, _, _, _, rfl, s4, hl4, hq4, by rw [hall, ex, Bool.and_true], rfl, by omega⟩
    have bad : sameD x.d x.e = false → Q (.bl false) H4 := by
      intro ex
      have q4 := q H4 s4.hh
      rwa [hall, ex, Bool.and_false] at q4
    obtain ⟨xa, xv, xw, xd, xe⟩ := x
    simp only at *
    have hxd4 : Da H4 xv xd := hxd.up s4.gh
    rcases hxe.kind with ⟨rfl, rfl⟩ | ⟨b, rfl, rfl⟩ | ⟨j, rfl, rfl⟩ | ⟨j, rfl, rfl⟩ | ⟨b, ys, es, t, rfl, hb, hbt, hbl, dys, rfl⟩
    ·
      refine ⟨_, rfl, rfl, _, rfl, iteDT rfl (iteT ?_)⟩
      refine ⟨_, rfl, rfl, _, rfl, iteDT rfl ⟨_, rfl, rfl, _, rfl, ite2 (fun c => ?_) (fun c => ?_)⟩⟩
      · have e := hxd.non_iff.mp (dec_of c)
        subst e
        exact iteF (done rfl _ _ _ _)
      · have e : ¬ xd = .none := fun z => dec_not c (hxd.non_iff.mpr z)
        refine ⟨_, rfl, .none, true, .non, rfl, _, rfl, iteDF (by intro z; cases z) ⟨_, rfl, .none, false, .non, rfl, _, rfl, iteDF (by intro z; cases z) (iteT (bad ?_))⟩⟩
        cases xd <;> first | rfl | exact absurd rfl e
    ·
      refine ⟨_, rfl, rfl, _, rfl, iteDF (by intro z; cases z) ?_⟩
      cases b with
      | true =>
        refine ⟨_, rfl, _, true, .bl true, rfl, _, rfl, iteDT rfl (iteT ?_)⟩
        refine ⟨_, rfl, rfl, _, rfl, iteDF (by intro z; cases z) (iteF ⟨_, rfl, _, true, .bl true, rfl, _, rfl, iteDT rfl ⟨_, rfl, xd, true, hxd4, rfl, _, rfl, ite2 (fun c => ?_) (fun c => ?_)⟩⟩)⟩
        · have e := hxd.bl_iff.mp (dec_of c)
          subst e
          exact iteF (done rfl _ _ _ _)
        · have e : ¬ xd = .bool true := fun z => dec_not c (hxd.bl_iff.mpr z)
          refine ⟨_, rfl, _, false, .bl true, rfl, _, rfl, iteDF (by intro z; cases z) (iteT (bad ?_))⟩
          cases xd with
          | bool b => cases b with
            | true => exact absurd rfl e
            | false => rfl
          | _ => rfl
      | false =>
        refine ⟨_, rfl, _, true, .bl false, rfl, _, rfl, iteDF (by intro z; cases z) ⟨_, rfl, _, false, .bl false, rfl, _, rfl, iteDT rfl ?_⟩⟩
        refine ⟨_, rfl, rfl, _, rfl, iteDF (by intro z; cases z) (iteF ⟨_, rfl, _, true, .bl false, rfl, _, rfl, iteDF (by intro z; cases z) (iteF ⟨_, rfl, _, false, .bl false, rfl, _, rfl, iteDT rfl ⟨_, rfl, xd, false, hxd4, rfl, _, rfl, ite2 (fun c => ?_) (fun c => ?_)⟩⟩)⟩)⟩
        · have e : ¬ xd = .bool false := fun z => nd_of c (hxd.bl_iff.mpr z)
          refine bad ?_
          cases xd with
          | bool b => cases b with
            | false => exact absurd rfl e
            | true => rfl
          | _ => rfl
        · have e := hxd.bl_iff.mp (nd_not c)
          subst e
          exact done rfl _ _ _ _
    · refine ⟨_, rfl, rfl, _, rfl, iteDF (by intro z; cases z) ⟨_, rfl, _, true, .int j, rfl, _, rfl, iteDF (by intro z; cases z) ⟨_, rfl, _, false, .int j, rfl, _, rfl, iteDF (by intro z; cases z) ?_⟩⟩⟩
      refine ⟨_, rfl, _, _, "int", rfl, .int j, .inl rfl, _, rfl, iteBT (ib_int_int j) ⟨_, rfl, xv, xd, rfl, hxd4, _, rfl, ?_⟩⟩
      cases hxd with
      | int i =>
        refine iteF ⟨_, rfl, _, rfl, rfl, _, rfl, ite2 (fun c => bad (decide_eq_false fun z => nd_of c (by rw [z]))) (fun c => done (decide_eq_true (V.int.inj (nd_not c))) _ _ _ _)⟩
      | _ => exact iteT (iteT (bad rfl))
    · refine ⟨_, rfl, rfl, _, rfl, iteDF (by intro z; cases z) ⟨_, rfl, _, true, .str j, rfl, _, rfl, iteDF (by intro z; cases z) ⟨_, rfl, _, false, .str j, rfl, _, rfl, iteDF (by intro z; cases z) ?_⟩⟩⟩
      refine ⟨_, rfl, _, _, "int", rfl, .str j, .inl rfl, _, rfl, iteBF (ib_str_int j) ⟨_, rfl, _, _, "str", rfl, .str j, ok_str, _, rfl, iteBT (ib_str_str j) ⟨_, rfl, xv, xd, "str", rfl, hxd4, ok_str, _, rfl, ?_⟩⟩⟩
      cases hxd with
      | str i =>
        refine iteBF (by rw [ib_str_str]; rfl) ⟨_, rfl, _, rfl, rfl, _, rfl, ite2 (fun c => bad (decide_eq_false fun z => nd_of c (by rw [z]))) (fun c => done (decide_eq_true (V.str.inj (nd_not c))) _ _ _ _)⟩
      | non => exact iteBT (by rw [ib_none_str]; rfl) (iteT (bad rfl))
      | bl b => exact iteBT (by rw [ib_bool_str]; rfl) (iteT (bad rfl))
      | int b => exact iteBT (by rw [ib_int_str]; rfl) (iteT (bad rfl))
      | lst _ _ => exact iteBT (by rw [ib_list_str]; rfl) (iteT (bad rfl))
      | tup _ _ => exact iteBT (by rw [ib_tuple_str]; rfl) (iteT (bad rfl))
    · have hw : Da H4 (.ref b) (sqD t es) := by
        have dys4 := dys.up s4.gh
        cases t with
        | true => exact .tup (s4.gh _ _ (hbt rfl)) dys4
        | false => exact .lst (s4.gh _ _ (hbl rfl)) dys4
      have i1 : instB (sqD t es) "int" = false := by cases t <;> first | exact ib_list_int es | exact ib_tuple_int es
      have i2 : instB (sqD t es) "str" = false := by cases t <;> first | exact ib_list_str es | exact ib_tuple_str es
      have i3 : instB (sqD t es) "tuple" = t := by cases t <;> first | exact ib_list_tuple es | exact ib_tuple_tuple es
      have i4 : instB (sqD t es) "list" = !t := by cases t <;> first | exact ib_list_list es | exact ib_tuple_list es
      have sd := sqD_sz t es
      refine ⟨_, rfl, rfl, _, rfl, iteDF (by intro z; cases z) ⟨_, rfl, _, true, hw, rfl, _, rfl, iteDF (by intro z; cases z) ⟨_, rfl, _, false, hw, rfl, _, rfl, iteDF (by intro z; cases z) ?_⟩⟩⟩
      refine ⟨_, rfl, _, _, "int", rfl, hw, .inl rfl, _, rfl, iteBF i1 ⟨_, rfl, _, _, "str", rfl, hw, ok_str, _, rfl, iteBF i2 ?_⟩⟩
      refine ⟨fun σ' H' => σ' = [some v, some w, some (.ref l), some (.ref xa), some xv, some (.ref b), y6] ∧ H4 = H' ∧ (t = true → ∃ a xs ds, xv = .ref a ∧ xd = .tuple ds ∧ G a = some (.tup xs) ∧ DaAll G xs ds), ?_, ?_⟩
      · refine ⟨_, rfl, _, _, "tuple", rfl, hw, ok_tuple, _, rfl, ?_⟩
        cases t with
        | false => exact iteBF i3 (iteF ⟨rfl, rfl, fun z => nomatch z⟩)
        | true =>
          refine iteBT i3 ⟨_, rfl, xv, xd, "tuple", rfl, hxd4, ok_tuple, _, rfl, ?_⟩
          cases hxd with
          | tup h1 h2 => exact iteBF (by rw [ib_tuple_tuple]; rfl) ⟨rfl, rfl, fun _ => ⟨_, _, _, rfl, rfl, h1, h2⟩⟩
          | non => exact iteBT (by rw [ib_none_tuple]; rfl) (bad rfl)
          | bl b => exact iteBT (by rw [ib_bool_tuple]; rfl) (bad rfl)
          | int b => exact iteBT (by rw [ib_int_tuple]; rfl) (bad rfl)
          | str b => exact iteBT (by rw [ib_str_tuple]; rfl) (bad rfl)
          | lst _ _ => exact iteBT (by rw [ib_list_tuple]; rfl) (bad rfl)
      rintro σ' H' ⟨rfl, rfl, ht⟩
      refine ⟨fun σ' H' => ∃ a xs ds, σ' = [some v, some w, some (.ref l), some (.ref xa), some (.ref a), some (.ref b), y6] ∧ H4 = H' ∧ HasL G a xs ∧ DaAll G xs ds ∧ xd = sqD t ds, ?_, ?_⟩
      · refine ⟨_, rfl, _, _, "list", rfl, hw, ok_list, _, rfl, ?_⟩
        cases t with
        | true =>
          obtain ⟨a, xs, ds, rfl, rfl, h1, h2⟩ := ht rfl
          exact iteBF i4 (iteF ⟨a, xs, ds, rfl, rfl, .inr h1, h2, rfl⟩)
        | false =>
          refine iteBT i4 ⟨_, rfl, xv, xd, "list", rfl, hxd4, ok_list, _, rfl, ?_⟩
          cases hxd with
          | lst h1 h2 => exact iteBF (by rw [ib_list_list]; rfl) ⟨_, _, _, rfl, rfl, .inl h1, h2, rfl⟩
          | non => exact iteBT (by rw [ib_none_list]; rfl) (bad rfl)
          | bl b => exact iteBT (by rw [ib_bool_list]; rfl) (bad rfl)
          | int b => exact iteBT (by rw [ib_int_list]; rfl) (bad rfl)
          | str b => exact iteBT (by rw [ib_str_list]; rfl) (bad rfl)
          | tup _ _ => exact iteBT (by rw [ib_tuple_list]; rfl) (bad rfl)
      rintro σ' H' ⟨a, xs, ds, rfl, rfl, ha, dxs, rfl⟩
      have ss : sameD (sqD t ds) (sqD t es) = sameL ds es := by cases t <;> rfl
      have lx := dxs.length
      have ly := dys.length
      have sd2 := sqD_sz t ds
      have la := szL_len ds
      have lb := szL_len es
      refine ⟨_, rfl, _, _, rfl, (ha.up s4.gh).lenV, _, rfl, _, _, rfl, (hb.up s4.gh).lenV, _, _, rfl, rfl, _, rfl, ite2 (fun c => ?_) (fun c => ?_)⟩
      · have c : ¬ ((xs.length : Nat) : Int) = ((ys.length : Nat) : Int) := nd_of c
        exact bad (by rw [ss]; exact sameL_len (by omega))
      · have c : ((xs.length : Nat) : Int) = ((ys.length : Nat) : Int) := nd_not c
        have lxy : ds.length = es.length := by omega
        refine ⟨_, rfl, _, _, rfl, (hb.up s4.gh).lenV, _, rfl, by omega, by omega, for_range (lo := 0) (n := ((ys.length : Nat) : Int).toNat) (fun i σ' H' => ∃ (ns : List Pr) (y6 : Option V), σ' = [some v, some w, some (.ref l), some (.ref xa), some (.ref a), some (.ref b), y6] ∧ Stq G H G H' ∧
          H' l = some (.lst ((qs ++ ns).map fun x => V.ref x.a)) ∧ (∀ x ∈ qs ++ ns, PairAt G H' x) ∧ ns.length = i ∧ allP ns = ((ds.take i).zip (es.take i)).all (fun p => sameD p.1 p.2) ∧ szP ns = szL (ds.take i) + szL (es.take i)) ?_ ?_ ?_⟩
        · refine ⟨[], y6, rfl, s4, by rw [List.append_nil]; exact hl4, by rw [List.append_nil]; exact hq4, rfl, rfl, rfl⟩
        · rintro i σ' H5 hi ⟨ns, y6, rfl, s5, hl5, hq5, rfl, hal, hsz5⟩
          obtain ⟨x1, e1, a1⟩ := at_nat (xs := xs) (i := ns.length) (by omega)
          obtain ⟨x2, e2, a2⟩ := at_nat (xs := ys) (i := ns.length) (by omega)
          obtain ⟨d1, f1, k1⟩ := dxs.get e1
          obtain ⟨d2, f2, k2⟩ := dys.get e2
          refine ⟨_, rfl, .inl ⟨rfl, _, .of hl5⟩, _, rfl, _, rfl, rIx_of (ha.up s5.gh) a1 ⟨_, rfl, _, rfl, rIx_of (hb.up s5.gh) a2 ⟨by show 2 ≤ sizeLine; decide, fun p H6 n6 => ?_⟩⟩⟩
          have s6 := s5.trans (Stq.loc s5.gh n6).1
          have hl6 := n6.else hl5
          have hq6 : ∀ x ∈ qs ++ ns, PairAt G H6 x := fun x hx => (hq5 x hx).new n6
          have hlen6 := szP_len qs
          refine ⟨l, _, .ref p, rfl, rfl, hl6, ?_, fun H7 e7 => ?_⟩
          · rw [List.length_map, List.length_append, sizeLine_eq]
            omega
          have hp6 : PairAt G H6 ⟨p, x1, x2, d1, d2⟩ := ⟨n6.at, k1, k2⟩
          refine ⟨ns ++ [⟨p, x1, x2, d1, d2⟩], _, rfl, s6.mut gl fl e7, ?_, ?_, ?_, ?_, ?_⟩
          · have := upd_at e7
            rw [this, ← List.append_assoc, List.map_append (l₁ := qs ++ ns)]
            rfl
          · intro x hx
            rw [← List.append_assoc] at hx
            rcases List.mem_append.mp hx with hx | hx
            · exact (hq6 x hx).put hl6 e7
            · rw [List.mem_singleton.mp hx]
              exact hp6.put hl6 e7
          · rw [List.length_append]
            rfl
          · rw [allP_app, allP_one, hal, zip_take f1 f2, List.all_append]
            show _ = (_ && (sameD d1 d2 && true))
            rw [Bool.and_true]
          · rw [szP_app, szP_one, hsz5, szL_takes ds _ f1, szL_takes es _ f2]
            show _ + (szD d1 + szD d2) = _
            omega
        · rintro σ' H5 ⟨ns, y6, rfl, s5, hl5, hq5, hn, hal, hsz5⟩
          have t1 : ds.take ((ys.length : Nat) : Int).toNat = ds := List.take_of_length_le (by omega)
          have t2 : es.take ((ys.length : Nat) : Int).toNat = es := List.take_of_length_le (by omega)
          rw [t1, t2] at hal hsz5
          refine ⟨szP qs + szP ns, by omega, qs ++ ns, _, _, _, _, rfl, s5, hl5, hq5, ?_, szP_app _ _, by omega⟩
          rw [hall, ss, sameL_all lxy, allP_app, hal]
  · have c : ¬ (0 : Int) < ((ps.map fun x => V.ref x.a).length : Nat) := dec_not c
    rw [List.length_map] at c
    have e : ps = [] := List.eq_nil_of_length_eq_zero (by omega)
    subst e
    have q3 := q H3 s3.hh
    rw [hall] at q3
    exact q3

theorem no_level {x : Str} {st : Stmt} {ps : List Str} {sp : Sp} (D : Def K mg x st ps) (no : ∀ vs H Q E, ¬ sp vs H Q E) : Cal P w K mg base x 0 ps sp := by
  obtain ⟨f, fd, F, g, b⟩ := D
  exact ⟨f, fd, ⟨fun vs H Q E h => absurd h (no vs H Q E), fun A outer s H args us vs Q E _ _ _ _ h => absurd h (no vs H Q E)⟩, g, F.kp, b⟩
theorem ok_frozen_step (Z : Zs mg) (D : Ds K mg) (k : Nat) (c__law_frozen : Cal P w K mg base "_law_frozen" k ["value", "deep"] (spFrozen k)) : Cal P w K mg base "_law_frozen" (k + 1) ["value", "deep"] (spFrozen (k + 1)) := by
  refine Def.cal D.d_law_frozen sc_law_frozen (fun vs H Q E h => ?_) (fun f cdv A outer s H vs Q E hr h => ?_)
  · obtain ⟨G, v, d, n, rfl, gh, hd, sz, hn0, hn, q⟩ := h
    rfl
  obtain ⟨G, v, d, n, rfl, gh, hd, sz, hn0, hn, q⟩ := h
  refine ⟨_, (pss_cons (ps_if (PW.pt (pw_and (pt_cmp (pc_gt (pv 1) pe_int) (nomark _)) (pw_and1 (pt_val (pe_callB call_isD (by rfl) Z.z_isinstance (by decide +kernel) (pa_cons (pv 0) (pa_cons (pe_bltn (v := .ty "list") (by rfl) Z.z_list (by decide +kernel) rfl) pa_nil))))))) (pss_one (ps_ret (pe_tupN (pa_cons pe_str (pa_cons (pe_callTy call_tupleN (by rfl) Z.z_tuple (by decide +kernel) (pa_cons (pe_lc (own := [("part", 2)]) (g := gName 2) (tt := tYes) (by rfl) sc_law_frozen.nd (pi_list (pv 0)) (blkOk_by (N := ["value", "deep", "part"]) (sc := defScope s_law_frozen) (by decide +kernel)) (fun _ _ _ _ _ => pg_name (i := 2) sc_law_frozen.nd rfl (Or.inl rfl)) (fun _ _ _ _ _ => pts_nil) (fun _ _ _ _ _ => (pe_cal c__law_frozen (hr.mono (by first | decide | omega)) (by rfl) (pa_cons (pv 2) (pa_cons (pe_op op_sub (pv 1) pe_int) pa_nil))))) pa_nil)) pa_nil))))) pss_nil)
      (pss_cons (ps_if (PW.pt (pw_and (pt_cmp (pc_gt (pv 1) pe_int) (nomark _)) (pw_and1 (pt_val (pe_callB call_isD (by rfl) Z.z_isinstance (by decide +kernel) (pa_cons (pv 0) (pa_cons (pe_bltn (v := .ty "tuple") (by rfl) Z.z_tuple (by decide +kernel) rfl) pa_nil))))))) (pss_one (ps_ret (pe_tupN (pa_cons pe_str (pa_cons (pe_callTy call_tupleN (by rfl) Z.z_tuple (by decide +kernel) (pa_cons (pe_lc (own := [("part", 2)]) (g := gName 2) (tt := tYes) (by rfl) sc_law_frozen.nd (pi_tup (pv 0)) (blkOk_by (N := ["value", "deep", "part"]) (sc := defScope s_law_frozen) (by decide +kernel)) (fun _ _ _ _ _ => pg_name (i := 2) sc_law_frozen.nd rfl (Or.inl rfl)) (fun _ _ _ _ _ => pts_nil) (fun _ _ _ _ _ => (pe_cal c__law_frozen (hr.mono (by first | decide | omega)) (by rfl) (pa_cons (pv 2) (pa_cons (pe_op op_sub (pv 1) pe_int) pa_nil))))) pa_nil)) pa_nil))))) pss_nil)
      (pss_one (ps_ret (pv 0))))), ?_⟩
  have hdH := hd.up gh
  have out : n ≤ 0 → Q v H := fun hn => by
    refine q v G H (.refl gh) ?_
    rw [show n.toNat = 0 by omega]
    have : frz 0 d = d := by cases d <;> rfl
    rw [this]
    exact hd
  refine ⟨_, rfl, _, _, rfl, rfl, _, rfl, ite2 (fun c => ?_) (fun c => iteF ?_)⟩
  · have c : 0 < n := dec_of c
    obtain ⟨m, hm⟩ : ∃ m, n.toNat = m + 1 := ⟨n.toNat - 1, by omega⟩
    refine ⟨_, rfl, v, d, "list", rfl, hdH, ok_list, _, rfl, ?_⟩
    have rest : instB d "list" = false → (frz n.toNat d = d ∨ ∃ ds, d = .tuple ds) := by
      intro h
      cases d with
      | list ds => rw [ib_list_list] at h; cases h
      | tuple ds => exact .inr ⟨ds, rfl⟩
      | _ => left; rw [hm]; rfl
    rcases hd.kind with ⟨rfl, rfl⟩ | ⟨b, rfl, rfl⟩ | ⟨j, rfl, rfl⟩ | ⟨j, rfl, rfl⟩ | ⟨a, xs, ds, t, rfl, ha, hat, hal, dxs, rfl⟩
    · exact iteBF ib_none_list (⟨_, rfl, _, _, rfl, rfl, _, rfl, iteDT c ⟨_, rfl, _, _, "tuple", rfl, hdH, ok_tuple, _, rfl, iteBF ib_none_tuple ⟨_, rfl, q _ G H (.refl gh) (by rw [hm]; exact hd)⟩⟩⟩)
    · exact iteBF (ib_bool_list b) (⟨_, rfl, _, _, rfl, rfl, _, rfl, iteDT c ⟨_, rfl, _, _, "tuple", rfl, hdH, ok_tuple, _, rfl, iteBF (ib_bool_tuple b) ⟨_, rfl, q _ G H (.refl gh) (by rw [hm]; exact hd)⟩⟩⟩)
    · exact iteBF (ib_int_list j) (⟨_, rfl, _, _, rfl, rfl, _, rfl, iteDT c ⟨_, rfl, _, _, "tuple", rfl, hdH, ok_tuple, _, rfl, iteBF (ib_int_tuple j) ⟨_, rfl, q _ G H (.refl gh) (by rw [hm]; exact hd)⟩⟩⟩)
    · exact iteBF (ib_str_list j) (⟨_, rfl, _, _, rfl, rfl, _, rfl, iteDT c ⟨_, rfl, _, _, "tuple", rfl, hdH, ok_tuple, _, rfl, iteBF (ib_str_tuple j) ⟨_, rfl, q _ G H (.refl gh) (by rw [hm]; exact hd)⟩⟩⟩)
    · have lx := dxs.length
      have zz := sqD_sz t ds
      have zl := szL_len ds
      cases t with
      | false =>
        have ha := hal rfl
        refine iteBT (ib_list_list ds) ?_
        refine ⟨_, rfl, a, rfl, ⟨_, .of (gh _ _ ha)⟩, fun l hl => ?_⟩
        refine lc_list (xs := xs) (fun i H' => ∃ (G' : Hp) (zs : List V), Stq G H G' H' ∧ G' l = none ∧ H l = none ∧ H' l = some (.lst zs) ∧ zs.length = i ∧ DaAll G' zs ((ds.take i).map (frz m))) ?_ ?_ ?_ ?_
        · obtain ⟨s1, gl, h1, fl⟩ := (Stq.refl gh).loc2 (p := l) (o := .lst []) ⟨hl, rfl⟩
          exact ⟨G, [], s1, gl, fl, h1, rfl, .nil⟩
        · rintro i H' hi ⟨G', zs, s1, _⟩
          exact .of (s1.hh _ _ (gh _ _ ha))
        · rintro i x H1 hi ⟨G1, zs, s1, gl, fl, h1, rfl, dz⟩
          obtain ⟨e, he, hde⟩ := dxs.get hi
          have ze := szL_get he
          have hi2 := (List.getElem?_eq_some_iff.mp hi).1
          refine ⟨rfl, yesT ⟨_, rfl, _, rfl, _, _, rfl, rfl, G1, x, e, n - 1, rfl, s1.gh, hde.up s1.gg, by omega, by omega, by omega, fun v' G2 H2 s2 dv => ?_⟩⟩
          have h2 := s2.hh _ _ h1
          have gl2 := s2.nw2 h1 gl
          have dz2 := dz.up s2.gg
          have s2 := s1.trans s2
          rw [show (n - 1).toNat = m by omega] at dv
          refine ⟨_, h2, lt (by omega), G2, zs ++ [v'], s2.mut gl2 fl rfl, gl2, fl, upd_same, by rw [List.length_append]; rfl, ?_⟩
          rw [List.take_add_one, he, List.map_append]
          exact dz2.append (.one dv)
        · rintro H1 ⟨G1, zs, s1, gl, fl, h1, hz, dz⟩
          rw [List.take_of_length_le (by omega)] at dz
          refine ⟨l, zs, rfl, .of h1, fun p H2 n2 => ⟨by show 2 ≤ sizeLine; decide, fun p2 H3 n3 => ?_⟩⟩
          obtain ⟨G2, s2, g2, k2, _⟩ := s1.know2 n2
          obtain ⟨G3, s3, g3, k3, _⟩ := s2.know2 n3
          refine q _ G3 H3 s3 ?_
          rw [hm]
          exact .tup k3 (.cons (.str _) (.one (.tup (g3 _ _ k2) (dz.up (g2.trans g3)))))
      | true =>
        have ha := hat rfl
        refine iteBF (ib_tuple_list ds) (⟨_, rfl, _, _, rfl, rfl, _, rfl, iteDT c ⟨_, rfl, _, _, "tuple", rfl, hdH, ok_tuple, _, rfl, iteBT (ib_tuple_tuple ds) ?_⟩⟩)
        refine ⟨_, rfl, a, rfl, ⟨_, .of (gh _ _ ha)⟩, fun l hl => ?_⟩
        refine lc_tup (xs := xs) (fun i H' => ∃ (G' : Hp) (zs : List V), Stq G H G' H' ∧ G' l = none ∧ H l = none ∧ H' l = some (.lst zs) ∧ zs.length = i ∧ DaAll G' zs ((ds.take i).map (frz m))) ?_ ?_ ?_ ?_
        · obtain ⟨s1, gl, h1, fl⟩ := (Stq.refl gh).loc2 (p := l) (o := .lst []) ⟨hl, rfl⟩
          exact ⟨G, [], s1, gl, fl, h1, rfl, .nil⟩
        · rintro i H' hi ⟨G', zs, s1, _⟩
          exact .of (s1.hh _ _ (gh _ _ ha))
        · rintro i x H1 hi ⟨G1, zs, s1, gl, fl, h1, rfl, dz⟩
          obtain ⟨e, he, hde⟩ := dxs.get hi
          have ze := szL_get he
          have hi2 := (List.getElem?_eq_some_iff.mp hi).1
          refine ⟨rfl, yesT ⟨_, rfl, _, rfl, _, _, rfl, rfl, G1, x, e, n - 1, rfl, s1.gh, hde.up s1.gg, by omega, by omega, by omega, fun v' G2 H2 s2 dv => ?_⟩⟩
          have h2 := s2.hh _ _ h1
          have gl2 := s2.nw2 h1 gl
          have dz2 := dz.up s2.gg
          have s2 := s1.trans s2
          rw [show (n - 1).toNat = m by omega] at dv
          refine ⟨_, h2, lt (by omega), G2, zs ++ [v'], s2.mut gl2 fl rfl, gl2, fl, upd_same, by rw [List.length_append]; rfl, ?_⟩
          rw [List.take_add_one, he, List.map_append]
          exact dz2.append (.one dv)
        · rintro H1 ⟨G1, zs, s1, gl, fl, h1, hz, dz⟩
          rw [List.take_of_length_le (by omega)] at dz
          refine ⟨l, zs, rfl, .of h1, fun p H2 n2 => ⟨by show 2 ≤ sizeLine; decide, fun p2 H3 n3 => ?_⟩⟩
          obtain ⟨G2, s2, g2, k2, _⟩ := s1.know2 n2
          obtain ⟨G3, s3, g3, k3, _⟩ := s2.know2 n3
          refine q _ G3 H3 s3 ?_
          rw [hm]
          exact .tup k3 (.cons (.str _) (.one (.tup (g3 _ _ k2) (dz.up (g2.trans g3)))))
  · have c : ¬ 0 < n := dec_not c
    exact ⟨_, rfl, _, _, rfl, rfl, _, rfl, iteDF c (iteF ⟨_, rfl, out (by omega)⟩)⟩
theorem ok_frozen (Z : Zs mg) (D : Ds K mg) : ∀ k, Cal P w K mg base "_law_frozen" k ["value", "deep"] (spFrozen k)
  | 0 => no_level D.d_law_frozen fun vs H Q E h => by
    obtain ⟨G, v, d, n, _, _, _, _, h0, h1, _⟩ := h
    omega
  | k + 1 => ok_frozen_step Z D k (ok_frozen Z D k)
theorem ok_counted (Z : Zs mg) (D : Ds K mg) (c__law_is_whole : Cal P w K mg base "_law_is_whole" 1 ["value"] spIsWhole) : Cal P w K mg base "_law_counted" 2 ["value"] spCounted := by
  refine Def.cal D.d_law_counted sc_law_counted (fun vs H Q E h => ?_) (fun f cdv A outer s H vs Q E hr h => ?_)
  · obtain ⟨G, v, d, rfl, gh, hd, sz, q⟩ := h
    rfl
  obtain ⟨G, v, d, rfl, gh, hd, sz, q⟩ := h
  refine ⟨_, (pss_cons (ps_if (PW.pt (pw_or (pt_not (pt_val (pe_callB call_isD (by rfl) Z.z_isinstance (by decide +kernel) (pa_cons (pv 0) (pa_cons (pe_bltn (v := .ty "tuple") (by rfl) Z.z_tuple (by decide +kernel) rfl) pa_nil))))) (pw_or1 (pt_cmp (pc_gt (pe_callB call_len (by rfl) Z.z_len (by decide +kernel) (pa_cons (pv 0) pa_nil)) pe_int) (nomark _))))) (pss_one (ps_ret pe_bl)) pss_nil)
      (pss_cons (ps_for PassesOwn.never rfl (pi_range1 (by rfl) Z.z_range (pa_cons (pe_callB call_len (by rfl) Z.z_len (by decide +kernel) (pa_cons (pv 0) pa_nil)) pa_nil)) (pg_name (i := 1) sc_law_counted.nd rfl (Or.inr rfl)) (pss_one (ps_if (pt_cmp (pc_neI (pe_callB call_len_seq (by rfl) Z.z_len (by decide +kernel) (pa_cons (pe_lc (own := [("entry", 2)]) (g := gName 2) (by rfl) sc_law_counted.nd (pi_tup (pv 0)) (blkOk_by (N := ["value", "k", "entry"]) (sc := defScope s_law_counted) (by decide +kernel)) (fun _ _ _ _ _ => pg_name (i := 2) sc_law_counted.nd rfl (Or.inl rfl)) (fun _ _ _ _ _ => pts_one (PW.pt (pw_and (pt_val (pe_cal c__law_is_whole (hr.mono (by first | decide | omega)) (by rfl) (pa_cons (pv 2) pa_nil))) (pw_and1 (pt_cmp (pc_eqI (pv 2) (pv 1)) (nomark _)))))) (fun _ _ _ _ _ => (pv 2))) pa_nil)) pe_int) (nomark _)) (pss_one (ps_ret pe_bl)) pss_nil)))
      (pss_one (ps_ret pe_bl)))), ?_⟩
  have hdH := hd.up gh
  refine ⟨_, rfl, v, d, "tuple", rfl, hdH, ok_tuple, _, rfl, ?_⟩
  rcases hd.kind with ⟨rfl, rfl⟩ | ⟨b, rfl, rfl⟩ | ⟨j, rfl, rfl⟩ | ⟨j, rfl, rfl⟩ | ⟨a, xs, ds, t, rfl, ha, hat, hal, dxs, rfl⟩
  · exact iteBT (by rw [ib_none_tuple]; rfl) (iteT (q H (.refl _)))
  · exact iteBT (by rw [ib_bool_tuple]; rfl) (iteT (q H (.refl _)))
  · exact iteBT (by rw [ib_int_tuple]; rfl) (iteT (q H (.refl _)))
  · exact iteBT (by rw [ib_str_tuple]; rfl) (iteT (q H (.refl _)))
  cases t with
  | false => exact iteBT (by rw [show instB (sqD false ds) "tuple" = false from ib_list_tuple ds]; rfl) (iteT (q H (.refl _)))
  | true =>
    have ha := hat rfl
    have lx := dxs.length
    have cn : cntD (sqD true ds) = (decide (ds.length ≤ 12) && (List.range ds.length).all fun (k : Nat) => decide ((ds.filter (isIt (k : Int))).length = 1)) := rfl
    refine iteBF (by rw [show instB (sqD true ds) "tuple" = true from ib_tuple_tuple ds]; rfl) ⟨_, rfl, _, _, rfl, .inr ⟨xs, .of (gh _ _ ha), rfl⟩, _, _, rfl, rfl, _, rfl, ite2 (fun c => ?_) (fun c => ?_)⟩
    · have c : (12 : Int) < ((xs.length : Nat) : Int) := dec_of c
      have q1 := q H (.refl _)
      rw [cn, decide_eq_false (by omega)] at q1
      exact q1
    have c : ¬ (12 : Int) < ((xs.length : Nat) : Int) := dec_not c
    rw [cn, decide_eq_true (by omega), Bool.true_and] at q
    refine ⟨_, rfl, _, _, rfl, .inr ⟨xs, .of (gh _ _ ha), rfl⟩, _, rfl, by omega, by omega, for_range (lo := 0) (n := ((xs.length : Nat) : Int).toNat) (fun i σ' H' => ∃ (y1 y2 : Option V), σ' = [some (.ref a), y1, y2] ∧ Same H H' ∧ ∀ k, k < i → (ds.filter (isIt (k : Int))).length = 1) ⟨none, none, rfl, .refl _, fun k h => absurd h (Nat.not_lt_zero _)⟩ ?_ ?_⟩
    · rintro i σ' H1 hi ⟨y1, y2, rfl, g1, hk⟩
      refine ⟨_, rfl, a, rfl, ⟨_, .of (g1 _ _ (gh _ _ ha))⟩, fun l hl => ?_⟩
      refine lc_tup (xs := xs) (fun j H' => Same H1 H' ∧ H1 l = none ∧ ∃ zs : List V, H' l = some (.lst zs) ∧ zs.length = ((ds.take j).filter (isIt (i : Int))).length ∧ zs.length ≤ j) ?_ ?_ ?_ ?_
      · exact ⟨New.same (o := .lst []) ⟨hl, rfl⟩, hl, [], upd_same, rfl, Nat.le_refl _⟩
      · rintro j H' hj ⟨g2, _⟩
        exact .of (g2 _ _ (g1 _ _ (gh _ _ ha)))
      · rintro j x H2 hj ⟨g2, fl, zs, hz, hl2, hl3⟩
        obtain ⟨e, he, hde⟩ := dxs.get hj
        have hj2 := (List.getElem?_eq_some_iff.mp hj).1
        have tk : (ds.take (j + 1)).filter (isIt (i : Int)) = (ds.take j).filter (isIt (i : Int)) ++ [e].filter (isIt (i : Int)) := by
          rw [List.take_add_one, he, List.filter_append]
          rfl
        refine ⟨rfl, _, rfl, x, e, rfl, hde.up (gh.trans (g1.trans g2)), _, rfl, ?_⟩
        have no : isIt (i : Int) e = false → Same H1 H2 ∧ H1 l = none ∧ ∃ zs : List V, H2 l = some (.lst zs) ∧ zs.length = ((ds.take (j + 1)).filter (isIt (i : Int))).length ∧ zs.length ≤ j + 1 := fun h => by
          refine ⟨g2, fl, zs, hz, ?_, by omega⟩
          rw [tk, List.length_append, hl2, List.filter_cons, if_neg (by rw [h]; decide)]
          rfl
        cases hde with
        | int m =>
          refine iteT ⟨_, rfl, _, rfl, _, _, rfl, rfl, _, rfl, ?_⟩
          rw [Int.zero_add]
          refine ite2 (fun c => ?_) (fun c => no (decide_eq_false (dec_not c)))
          have c : m = (i : Int) := dec_of c
          refine ⟨_, rfl, zs, hz, lt (by omega), fun b o h => ?_, fl, zs ++ [.int m], upd_same, ?_, by rw [List.length_append, List.length_singleton]; omega⟩
          · rw [upd_ne (ne_of_none h fl)]
            exact g2 _ _ h
          · rw [tk, List.length_append, List.length_append, hl2, List.filter_cons, if_pos (show isIt (i : Int) (.int m) = true from decide_eq_true c)]
            rfl
        | _ => exact no rfl
      · rintro H2 ⟨g2, fl, zs, hz, hl2, hl3⟩
        rw [List.take_of_length_le (by omega)] at hl2
        refine ⟨_, _, rfl, .inl (.of hz), _, _, rfl, rfl, _, rfl, ite2 (fun c => ?_) (fun c => ?_)⟩
        · have c : ¬ ((zs.length : Nat) : Int) = 1 := nd_of c
          have q1 := q H2 (g1.trans g2)
          rw [List.all_eq_false.mpr ⟨i, List.mem_range.mpr (by omega), by rw [decide_eq_false (by omega)]; decide⟩] at q1
          exact q1
        · have c : ((zs.length : Nat) : Int) = 1 := nd_not c
          refine ⟨_, _, rfl, g1.trans g2, fun k hk2 => ?_⟩
          by_cases e : k = i
          · subst e
            omega
          · exact hk k (by omega)
    · rintro σ' H1 ⟨y1, y2, rfl, g1, hk⟩
      have q1 := q H1 g1
      rw [List.all_eq_true.mpr fun k hk2 => decide_eq_true (hk k (by have := List.mem_range.mp hk2; omega))] at q1
      exact q1

theorem ok_is_number (Z : Zs mg) (D : Ds K mg) : Cal P w K mg base "is_number" 1 ["value", "low", "high"] spIsNum := by
  refine Def.cal D.d_is_number sc_is_number (fun vs H Q E h => ?_) (fun f cdv A outer s H vs Q E hr h => ?_)
  · obtain ⟨v, d, lo, hi, rfl, hd, q⟩ := h
    rfl
  obtain ⟨v, d, lo, hi, rfl, hd, q⟩ := h
  refine ⟨_, (pss_one (ps_ret (pe_and (pe_callB call_isD (by rfl) Z.z_isinstance (by decide +kernel) (pa_cons (pv 0) (pa_cons (pe_bltn (v := .ty "int") (by rfl) Z.z_int (by decide +kernel) rfl) pa_nil))) (pe_and (pe_not (pe_callB call_isD (by rfl) Z.z_isinstance (by decide +kernel) (pa_cons (pv 0) (pa_cons (pe_bltn (v := .ty "bool") (by rfl) Z.z_bool (by decide +kernel) rfl) pa_nil)))) (pe_one (pe_chain op_le op_le (pv 1) (pv 0) (pv 2))))))), ?_⟩
  refine ⟨_, rfl, v, d, "int", rfl, hd, ok_int, _, rfl, ?_⟩
  rcases hd.kind with ⟨rfl, rfl⟩ | ⟨b, rfl, rfl⟩ | ⟨i, rfl, rfl⟩ | ⟨j, rfl, rfl⟩ | ⟨a, xs, ds, t, rfl, ha, hat, hal, dxs, rfl⟩
  · exact iteBF ib_none_int q
  · exact iteBT (ib_bool_int b) ⟨_, rfl, _, _, "bool", rfl, hd, ok_bool, _, rfl, _, rfl, iteBF (by rw [ib_bool_bool]; rfl) q⟩
  · refine iteBT (ib_int_int i) ⟨_, rfl, _, _, "bool", rfl, hd, ok_bool, _, rfl, _, rfl, iteBT (by rw [ib_int_bool]; rfl) ⟨_, rfl, _, rfl, _, _, rfl, rfl, _, rfl, ?_⟩⟩
    have q : Q (.bl (decide (lo ≤ i) && decide (i ≤ hi))) H := q
    refine ite2 (fun c => ⟨_, rfl, _, _, rfl, rfl, ?_⟩) (fun c => ?_)
    · rw [c, Bool.true_and] at q
      exact q
    · rw [Bool.eq_false_iff.mpr c, Bool.false_and] at q
      exact q
  · exact iteBF (ib_str_int j) q
  · cases t with
    | true => exact iteBF (ib_tuple_int ds) q
    | false => exact iteBF (ib_list_int ds) q
theorem ok_is_point (Z : Zs mg) (D : Ds K mg) (c_is_number : Cal P w K mg base "is_number" 1 ["value", "low", "high"] spIsNum) : Cal P w K mg base "is_point" 2 ["points", "value"] spIsPoint := by
  refine Def.cal D.d_is_point sc_is_point (fun vs H Q E h => ?_) (fun f cdv A outer s H vs Q E hr h => ?_)
  · obtain ⟨v, d, n, rfl, hd, q⟩ := h
    rfl
  obtain ⟨v, d, n, rfl, hd, q⟩ := h
  refine ⟨_, (pss_one (ps_ret (pe_cal c_is_number (hr.mono (by first | decide | omega)) (by rfl) (pa_cons (pv 1) (pa_cons pe_int (pa_cons (pe_op op_sub (pv 0) pe_int) pa_nil)))))), ?_⟩
  exact ⟨_, rfl, _, rfl, _, _, rfl, rfl, v, d, 0, n - 1, rfl, hd, q⟩
theorem ok_is_move_on (Z : Zs mg) (D : Ds K mg) (c_is_point : Cal P w K mg base "is_point" 2 ["points", "value"] spIsPoint) : Cal P w K mg base "is_move_on" 3 ["points", "value"] spIsMoveOn := by
  refine Def.cal D.d_is_move_on sc_is_move_on (fun vs H Q E h => ?_) (fun f cdv A outer s H vs Q E hr h => ?_)
  · obtain ⟨G, v, d, n, rfl, gh, hd, sz, q⟩ := h
    rfl
  obtain ⟨G, v, d, n, rfl, gh, hd, sz, q⟩ := h
  refine ⟨_, (pss_cons (ps_if (PW.pt (pw_or (pt_not (pt_val (pe_callB call_isD (by rfl) Z.z_isinstance (by decide +kernel) (pa_cons (pv 1) (pa_cons (pe_bltn (v := .ty "tuple") (by rfl) Z.z_tuple (by decide +kernel) rfl) pa_nil))))) (pw_or1 (pt_cmp (pc_neI (pe_callB call_len (by rfl) Z.z_len (by decide +kernel) (pa_cons (pv 1) pa_nil)) (pv 0)) (nomark _))))) (pss_one (ps_ret pe_bl)) pss_nil)
      (pss_one (ps_ret (pe_and (pe_callB (cr_all rfl) (by rfl) Z.z_all (by decide +kernel) (pa_cons (pe_lc (own := [("image", 2)]) (g := gName 2) (tt := tYes) (by rfl) sc_is_move_on.nd (pi_tup (pv 1)) (blkOk_by (N := ["points", "value", "image"]) (sc := defScope s_is_move_on) (by decide +kernel)) (fun _ _ _ _ _ => pg_name (i := 2) sc_is_move_on.nd rfl (Or.inl rfl)) (fun _ _ _ _ _ => pts_nil) (fun _ _ _ _ _ => (pe_cal c_is_point (hr.mono (by first | decide | omega)) (by rfl) (pa_cons (pv 0) (pa_cons (pv 2) pa_nil))))) pa_nil)) (pe_one (pe_cmpR (op_eqLI hr.units) (pe_callB call_sortT (by rfl) Z.z_sorted (by decide +kernel) (pa_cons (pv 1) pa_nil)) (pe_listRgN rfl (by rfl) Z.z_list (prg_1 (by rfl) Z.z_range (pv 0))) (nomark _))))))), ?_⟩
  have hdH := hd.up gh
  refine ⟨_, rfl, v, d, "tuple", rfl, hdH, ok_tuple, _, rfl, ?_⟩
  rcases hd.kind with ⟨rfl, rfl⟩ | ⟨b, rfl, rfl⟩ | ⟨j, rfl, rfl⟩ | ⟨j, rfl, rfl⟩ | ⟨a, xs, ds, t, rfl, ha, hat, hal, dxs, rfl⟩
  · exact iteBT (by rw [ib_none_tuple]; rfl) (iteT (q H (.refl _)))
  · exact iteBT (by rw [ib_bool_tuple]; rfl) (iteT (q H (.refl _)))
  · exact iteBT (by rw [ib_int_tuple]; rfl) (iteT (q H (.refl _)))
  · exact iteBT (by rw [ib_str_tuple]; rfl) (iteT (q H (.refl _)))
  cases t with
  | false => exact iteBT (by rw [show instB (sqD false ds) "tuple" = false from ib_list_tuple ds]; rfl) (iteT (q H (.refl _)))
  | true =>
    have ha := hat rfl
    have lx := dxs.length
    have cn : mvOn n (sqD true ds) = (decide (((ds.length : Nat) : Int) = n) && (ds.all (fun d => isNum d 0 (n - 1)) && decide ((intsOf ds).Perm (rngI n)))) := rfl
    refine iteBF (by rw [show instB (sqD true ds) "tuple" = true from ib_tuple_tuple ds]; rfl) ⟨_, rfl, _, _, rfl, .inr ⟨xs, .of (gh _ _ ha), rfl⟩, _, rfl, _, _, rfl, rfl, _, rfl, ite2 (fun c => ?_) (fun c => ?_)⟩
    · have c : ¬ ((xs.length : Nat) : Int) = n := nd_of c
      have q1 := q H (.refl _)
      rw [cn, decide_eq_false (by omega), Bool.false_and] at q1
      exact q1
    have c : ((xs.length : Nat) : Int) = n := nd_not c
    have szl : ds.length ≤ 1000000 := by
      have := szL_len ds
      have := sqD_sz true ds
      omega
    rw [cn, decide_eq_true (by omega), Bool.true_and] at q
    refine ⟨_, rfl, a, rfl, ⟨_, .of (gh _ _ ha)⟩, fun l hl => ?_⟩
    refine lc_tup (xs := xs) (fun j H' => Same H H' ∧ H l = none ∧ H' l = some (.lst (((ds.take j).map fun d => isNum d 0 (n - 1)).map V.bl))) ?_ ?_ ?_ ?_
    · exact ⟨New.same (o := .lst []) ⟨hl, rfl⟩, hl, upd_same⟩
    · rintro j H' hj ⟨g2, _⟩
      exact .of (g2 _ _ (gh _ _ ha))
    · rintro j x H2 hj ⟨g2, fl, hz⟩
      obtain ⟨e, he, hde⟩ := dxs.get hj
      have hj2 := (List.getElem?_eq_some_iff.mp hj).1
      refine ⟨rfl, yesT ⟨_, rfl, _, rfl, x, e, n, rfl, hde.up (gh.trans g2), _, hz, ?_, fun b o h => ?_, fl, ?_⟩⟩
      · rw [List.length_map, List.length_map, List.length_take, sizeLine_eq]
        omega
      · rw [upd_ne (ne_of_none h fl)]
        exact g2 _ _ h
      · rw [upd_same, List.take_add_one, he, List.map_append, List.map_append]
        rfl
    · rintro H2 ⟨g2, fl, hz⟩
      rw [List.take_of_length_le (by omega)] at hz
      refine ⟨l, _, rfl, .of hz, _, rfl, ?_⟩
      have ea : (ds.map fun d => isNum d 0 (n - 1)).all id = ds.all fun d => isNum d 0 (n - 1) := by rw [List.all_map]; rfl
      refine ite2 (fun c2 => ?_) (fun c2 => ?_)
      · rw [ea] at c2
        rw [c2, Bool.true_and] at q
        have ed := ints_isNum c2
        have ex : xs = (intsOf ds).map V.int := vals_int (G := G) (by rw [← ed]; exact dxs)
        refine ⟨_, rfl, a, intsOf ds, rfl, ?_, fun ns' p H3 pm srt n3 => ?_⟩
        · rw [← ex]
          exact .of (g2 _ _ (gh _ _ ha))
        refine ⟨_, rfl, n, rfl, .of_le (by decide) (by omega) (by decide) (by omega), fun r H4 n4 => ?_⟩
        have h4 := n4.at
        rw [rgV_rngI] at h4
        refine ⟨p, r, ns', rngI n, rfl, rfl, .of (n4.else n3.at), .of h4, ?_⟩
        have q4 := q H4 (g2.trans (n3.same.trans n4.same))
        have e : decide (ns' = rngI n) = decide ((intsOf ds).Perm (rngI n)) := by
          refine decide_eq_decide.mpr ⟨fun h => h ▸ pm.symm, fun h => ?_⟩
          exact List.Perm.eq_of_pairwise (le := (· ≤ ·)) (fun a b _ _ h1 h2 => Int.le_antisymm h1 h2) srt (rngI_sorted n) (pm.trans h)
        rw [e]
        exact q4
      · rw [ea] at c2
        rw [Bool.eq_false_iff.mpr c2, Bool.false_and] at q
        exact q H2 g2
theorem ok_is_move (Z : Zs mg) (D : Ds K mg) (c_is_move_on : Cal P w K mg base "is_move_on" 3 ["points", "value"] spIsMoveOn) : Cal P w K mg base "is_move" 4 ["value"] spIsMove := by
  refine Def.cal D.d_is_move sc_is_move (fun vs H Q E h => ?_) (fun f cdv A outer s H vs Q E hr h => ?_)
  · obtain ⟨G, v, d, rfl, gh, hd, sz, q⟩ := h
    rfl
  obtain ⟨G, v, d, rfl, gh, hd, sz, q⟩ := h
  refine ⟨_, (pss_one (ps_ret (pe_and (pe_callB call_isD (by rfl) Z.z_isinstance (by decide +kernel) (pa_cons (pv 0) (pa_cons (pe_bltn (v := .ty "tuple") (by rfl) Z.z_tuple (by decide +kernel) rfl) pa_nil))) (pe_and (pe_cmp (pc_le (pe_callB call_len (by rfl) Z.z_len (by decide +kernel) (pa_cons (pv 0) pa_nil)) (pe_globI (by rfl) Z.c_MOST_POINTS)) (nomark _)) (pe_one (pe_cal c_is_move_on (hr.mono (by first | decide | omega)) (by rfl) (pa_cons (pe_callB call_len (by rfl) Z.z_len (by decide +kernel) (pa_cons (pv 0) pa_nil)) (pa_cons (pv 0) pa_nil)))))))), ?_⟩
  have hdH := hd.up gh
  refine ⟨_, rfl, v, d, "tuple", rfl, hdH, ok_tuple, _, rfl, ?_⟩
  rcases hd.kind with ⟨rfl, rfl⟩ | ⟨b, rfl, rfl⟩ | ⟨j, rfl, rfl⟩ | ⟨j, rfl, rfl⟩ | ⟨a, xs, ds, t, rfl, ha, hat, hal, dxs, rfl⟩
  · exact iteBF ib_none_tuple (q H (.refl _))
  · exact iteBF (ib_bool_tuple b) (q H (.refl _))
  · exact iteBF (ib_int_tuple j) (q H (.refl _))
  · exact iteBF (ib_str_tuple j) (q H (.refl _))
  cases t with
  | false => exact iteBF (show instB (sqD false ds) "tuple" = false from ib_list_tuple ds) (q H (.refl _))
  | true =>
    have ha := hat rfl
    have lx := dxs.length
    have cn : mvD (sqD true ds) = (decide (ds.length ≤ 12) && mvOn ds.length (sqD true ds)) := rfl
    rw [cn] at q
    refine iteBT (show instB (sqD true ds) "tuple" = true from ib_tuple_tuple ds) ⟨_, rfl, _, _, rfl, .inr ⟨xs, .of (gh _ _ ha), rfl⟩, _, _, rfl, rfl, _, rfl, ite2 (fun c => ?_) (fun c => ?_)⟩
    · have c : ((xs.length : Nat) : Int) ≤ 12 := dec_of c
      rw [decide_eq_true (by omega), Bool.true_and] at q
      refine ⟨_, rfl, _, _, rfl, .inr ⟨xs, .of (gh _ _ ha), rfl⟩, _, rfl, G, _, _, _, rfl, gh, hd, sz, fun H' g => ?_⟩
      rw [lx]
      exact q H' g
    · have c : ¬ ((xs.length : Nat) : Int) ≤ 12 := dec_not c
      rw [decide_eq_false (by omega), Bool.false_and] at q
      exact q H (.refl _)

theorem ok_move (Z : Zs mg) (D : Ds K mg) (c__law_take : Cal P w K mg base "_law_take" 2 ["store", "many"] spTake) (c__law_drawn : Cal P w K mg base "_law_drawn" 3 ["store", "things", "many"] spDrawn) : Cal P w K mg base "_law_move" 4 ["store", "points"] spMove := by
  refine Def.cal D.d_law_move sc_law_move (fun vs H Q E h => ?_) (fun f cdv A outer s H vs Q E hr h => ?_)
  · obtain ⟨S, G, n, rfl, wd, h0, h1, q⟩ := h
    rfl
  obtain ⟨S, G, n, rfl, wd, h0, h1, q⟩ := h
  refine ⟨_, (pss_cons (ps_set (i := 2) sc_law_move.nd rfl (Or.inl rfl) (pe_cal c__law_take (hr.mono (by first | decide | omega)) (by rfl) (pa_cons (pv 0) (pa_cons pe_int pa_nil))))
      (pss_cons (ps_set (i := 3) sc_law_move.nd rfl (Or.inl rfl) (pe_listRgN rfl (by rfl) Z.z_list (prg_1 (by rfl) Z.z_range (pv 1))))
      (pss_cons (ps_if (PW.pt (pw_or (pt_cmp (pc_eqI (pv 2) pe_int) (nomark _)) (pw_or1 (pt_cmp (pc_lt (pv 1) pe_int) (nomark _))))) (pss_one (ps_ret (pe_callTy call_tupleN (by rfl) Z.z_tuple (by decide +kernel) (pa_cons (pv 3) pa_nil)))) pss_nil)
      (pss_cons (ps_if (pt_cmp (pc_lt (pv 2) pe_int) (nomark _)) (pss_cons (ps_set (i := 4) sc_law_move.nd rfl (Or.inl rfl) pe_int)
      (Evl.pss_cut (ps_if (pt_cmp (pc_gt (pv 2) pe_int) (nomark _)) (pss_one (ps_set (i := 4) sc_law_move.nd rfl (Or.inl rfl) (pe_op op_add pe_int (pe_cal c__law_take (hr.mono (by first | decide | omega)) (by rfl) (pa_cons (pv 0) (pa_cons (pe_op op_sub (pv 1) pe_int) pa_nil)))))) pss_nil)
      (pss_cons (ps_set (i := 5) sc_law_move.nd rfl (Or.inl rfl) (pe_cal c__law_drawn (hr.mono (by first | decide | omega)) (by rfl) (pa_cons (pv 0) (pa_cons (pv 3) (pa_cons (pv 4) pa_nil)))))
      (pss_cons (ps_for PassesOwn.never rfl (pi_range1 (by rfl) Z.z_range (pa_cons (pv 4) pa_nil)) (pg_name (i := 6) sc_law_move.nd rfl (Or.inl rfl)) (pss_one (ps_asg (pe_ix ix_list (pv 5) (pe_op op_mod (pe_callTy call_int1 (by rfl) Z.z_int (by decide +kernel) (pa_cons (pe_op op_add (pv 6) pe_int) pa_nil)) (pv 4)) (fun _ _ => rfl)) (pg_sub (pv 3) (pe_ix ix_list (pv 5) (pv 6) (fun _ _ => rfl)) set_listN))))
      (pss_one (ps_ret (pe_callTy call_tupleN (by rfl) Z.z_tuple (by decide +kernel) (pa_cons (pv 3) pa_nil)))))))) pss_nil)
      (pss_cons (ps_if (pt_cmp (pc_eqI (pv 2) pe_int) (nomark _)) (pss_cons (ps_set (i := 7) sc_law_move.nd rfl (Or.inr rfl) (pe_op op_add pe_int (pe_cal c__law_take (hr.mono (by first | decide | omega)) (by rfl) (pa_cons (pv 0) (pa_cons (pe_op op_sub (pv 1) pe_int) pa_nil)))))
      (pss_one (ps_ret (pe_callTy call_tupleN (by rfl) Z.z_tuple (by decide +kernel) (pa_cons (pe_lc (own := [("k", 6)]) (g := gName 6) (tt := tYes) (by rfl) sc_law_move.nd (pi_range1 (by rfl) Z.z_range (pa_cons (pv 1) pa_nil)) (blkOk_by (N := ["store", "points", "pick", "image", "size", "ring_row", "k", "shift"]) (sc := defScope s_law_move) (by decide +kernel)) (fun _ _ _ _ _ => pg_name (i := 6) sc_law_move.nd rfl (Or.inl rfl)) (fun _ _ _ _ _ => pts_nil) (fun _ _ _ _ _ => (pe_op op_mod (pe_callTy call_int1 (by rfl) Z.z_int (by decide +kernel) (pa_cons (pe_op op_add (pv 6) (pv 7)) pa_nil)) (pv 1)))) pa_nil))))) pss_nil)
      (pss_cons (ps_if (pt_cmp (pc_eqI (pv 2) pe_int) (nomark _)) (pss_one (ps_ret (pe_callTy call_tupleN (by rfl) Z.z_tuple (by decide +kernel) (pa_cons (pe_lc (own := [("k", 6)]) (g := gName 6) (tt := tYes) (by rfl) sc_law_move.nd (pi_range1 (by rfl) Z.z_range (pa_cons (pv 1) pa_nil)) (blkOk_by (N := ["store", "points", "pick", "image", "size", "ring_row", "k", "shift"]) (sc := defScope s_law_move) (by decide +kernel)) (fun _ _ _ _ _ => pg_name (i := 6) sc_law_move.nd rfl (Or.inl rfl)) (fun _ _ _ _ _ => pts_nil) (fun _ _ _ _ _ => (pe_op op_sub (pe_op op_sub (pv 1) pe_int) (pv 6)))) pa_nil)))) pss_nil)
      (pss_one (ps_ret (pe_callTy call_tupleN (by rfl) Z.z_tuple (by decide +kernel) (pa_cons (pe_cal c__law_drawn (hr.mono (by first | decide | omega)) (by rfl) (pa_cons (pv 0) (pa_cons (pv 3) (pa_cons (pv 1) pa_nil)))) pa_nil)))))))))), ?_⟩
  refine ⟨_, rfl, S, G, 8, rfl, wd, by omega, fun d1 H1 p0 p1 s1 => ?_⟩
  refine ⟨_, rfl, n, rfl, .of_le (by decide) (by omega) (by decide) (by omega), fun l H2 n2 => ?_⟩
  obtain ⟨s2, gl, hl, fl⟩ := s1.loc n2
  rw [rgV_rngI] at hl
  have ret : ∀ (H3 : Hp) (L : List Int), Go S G H G H3 → H3 l = some (.lst (L.map V.int)) → IsMv L n → ∃ p ys, [V.ref l] = [.ref p] ∧ SqL K H3 p ys ∧ ∀ p2 H4, New H3 p2 (.tup ys) H4 → Q (.ref p2) H4 := fun H3 L s3 h3 mv =>
    ⟨l, _, rfl, .of h3, fun p2 H4 n4 => by
      obtain ⟨G4, s4, _, k4, _⟩ := s3.know n4
      exact q p2 L G4 H4 s4 k4 mv⟩
  have plain := ret H2 _ s2 hl rngI_mv
  refine ⟨_, rfl, _, _, rfl, rfl, _, rfl, ite2 (fun c => iteT ⟨_, rfl, plain⟩) (fun c => ?_)⟩
  refine ⟨_, rfl, _, _, rfl, rfl, _, rfl, ite2 (fun c => ⟨_, rfl, plain⟩) (fun c => ?_)⟩
  have hn : ¬ n < 2 := dec_not c
  refine ⟨_, rfl, _, _, rfl, rfl, _, rfl, ite2 (fun c => ?_) (fun c => ?_)⟩
  · -- a ring
    refine ⟨fun σ' H' => ∃ m, σ' = [some (.ref S.a), some (.int n), some (.int d1), some (.ref l), some (.int m), none, none, none] ∧ Go S G H G H' ∧ H' l = some (.lst ((rngI n).map V.int)) ∧ 2 ≤ m ∧ m ≤ n, ?_, ?_⟩
    · refine ⟨_, rfl, _, _, rfl, rfl, _, rfl, ite2 (fun c => ?_) (fun c => ⟨2, rfl, s2, hl, by omega, by omega⟩)⟩
      refine ⟨_, rfl, _, rfl, _, _, rfl, rfl, S, G, n - 1, rfl, s2.wd, by omega, fun t H3 t0 t1 s3 => ⟨_, _, rfl, rfl, 2 + t, rfl, s2.trans s3, s3.hh hl (s2.ns fl), by omega, by omega⟩⟩
    · rintro σ' H3 ⟨m, rfl, s3, hl, m0, m1⟩
      refine ⟨_, rfl, _, rfl, _, rfl, S, G, l, _, m, rfl, s3.wd, .inl hl, by rw [List.length_map, rngI_len]; omega, by omega, by omega, fun r ys rest H4 s4 gr fr hr pm0 hy => ?_⟩
      obtain ⟨rs, ms, rfl, rfl, pm⟩ := perm_ints pm0
      rw [List.length_map, List.length_map, rngI_len] at hy
      have hm : rs.length = m.toNat := by omega
      have hl4 := s4.hh hl (s3.ns fl)
      have fr3 := fr
      have s4 := s3.trans s4
      have fr := s3.fresh fr
      have nd : rs.Nodup := (List.nodup_append.mp (pm.nodup_iff.mpr (rngI_nodup n))).1
      have hb : ∀ x ∈ rs, 0 ≤ x ∧ x < n := fun x hx => rngI_mem.mp (pm.mem_iff.mp (List.mem_append_left _ hx))
      have hb2 : ∀ x ∈ rs, 0 ≤ x ∧ x < ((n.toNat : Nat) : Int) := fun x hx => by have := hb x hx; omega
      have nrl : r ≠ l := fun z => by rw [z] at fr3; rw [hl] at fr3; cases fr3
      refine ⟨_, rfl, m, rfl, by omega, by omega, for_range (lo := 0) (n := m.toNat) (fun i σ' H' => ∃ (L : List Int) (y6 : Option V), σ' = [some (.ref S.a), some (.int n), some (.int d1), some (.ref l), some (.int m), some (.ref r), y6, none] ∧ Go S G H G H' ∧ H' l = some (.lst (L.map V.int)) ∧ H' r = some (.lst (rs.map V.int)) ∧ Ring n.toNat rs i L) ⟨rngI n, none, rfl, s4, hl4, hr, Ring.start n rs⟩ ?_ ?_⟩
      · rintro i σ' H5 hi ⟨L, y6, rfl, s5, h5, hr5, R⟩
        obtain ⟨a, e1, e2, _⟩ := atI_ints (ns := rs) (d := (0 + (i : Int) + 1) % m) (Int.emod_nonneg _ (by omega)) (by have := Int.emod_lt_of_pos (0 + (i : Int) + 1) (show 0 < m by omega); omega)
        obtain ⟨b, f1, f2, _⟩ := atI_ints (ns := rs) (d := 0 + (i : Int)) (by omega) (by omega)
        rw [show (0 + (i : Int)).toNat = i by omega] at f1
        have e1 : rs[(i + 1) % rs.length]? = some a := by
          rw [← e1]
          congr 1
          rw [hm, show 0 + (i : Int) + 1 = (((i + 1 : Nat)) : Int) by omega]
          have : ((i + 1 : Nat) : Int) % m = (((i + 1) % m.toNat : Nat) : Int) := by
            rw [Int.natCast_emod, Int.toNat_of_nonneg (by omega)]
          rw [this]
          rfl
        have bb := hb b (List.mem_of_getElem? f1)
        refine ⟨_, rfl, _, rfl, _, _, rfl, rfl, .inl ⟨_, rfl, _, rfl, _, _, rfl, rfl, by omega, r, _, _, _, rfl, rfl, .of hr5, e2, ?_⟩⟩
        refine ⟨_, rfl, _, rfl, _, rfl, r, _, _, _, rfl, rfl, .of hr5, f2, l, _, b.toNat, rfl, by rw [Int.toNat_of_nonneg bb.1], h5, by rw [List.length_map, R.1]; omega, fun H6 e6 => ?_⟩
        refine ⟨L.set b.toNat a, _, rfl, s5.mut gl fl e6, ?_, upd_else e6 hr5 nrl, R.step nd hb2 f1 e1⟩
        rw [upd_at e6, List.map_set]
      · rintro σ' H5 ⟨L, y6, rfl, s5, h5, hr5, R⟩
        exact ⟨_, rfl, ret H5 L s5 h5 (Ring.mv h0 (by rw [hm]; exact R) hb)⟩
  refine ⟨_, rfl, _, _, rfl, rfl, _, rfl, ite2 (fun c => ?_) (fun c => ?_)⟩
  · -- a shift
    refine ⟨_, rfl, _, rfl, _, _, rfl, rfl, S, G, n - 1, rfl, s2.wd, by omega, fun t H3 t0 t1 s3 => ⟨_, _, rfl, rfl, ?_⟩⟩
    have s3 := s2.trans s3
    refine ⟨_, rfl, n, rfl, by omega, by omega, fun e he => ?_⟩
    refine lc_range (lo := 0) (n := n.toNat) (fun i H' => Go S G H G H' ∧ G e = none ∧ H e = none ∧ H' e = some (.lst (((List.range i).map fun (k : Nat) => ((k : Int) + (1 + t)) % n).map V.int))) ?_ ?_ ?_
    · obtain ⟨s4, ge, h4, fe⟩ := s3.loc (p := e) (o := .lst []) ⟨he, rfl⟩
      exact ⟨s4, ge, fe, h4⟩
    · rintro i H4 hi ⟨s4, ge, fe, h4⟩
      refine ⟨rfl, yesT ⟨_, rfl, _, rfl, _, _, rfl, rfl, .inl ⟨_, rfl, _, rfl, _, _, rfl, rfl, by omega, _, h4, ?_, s4.mut ge fe rfl, ge, fe, ?_⟩⟩⟩
      · rw [List.length_map, List.length_map, List.length_range]
        exact lt (by omega)
      · rw [upd_same, List.range_succ, List.map_append, List.map_append, Int.zero_add]
        rfl
    · rintro H4 ⟨s4, ge, fe, h4⟩
      refine ⟨e, _, rfl, .of h4, fun p H5 n5 => ?_⟩
      obtain ⟨G5, s5, _, k5, _⟩ := s4.know n5
      exact q p _ G5 H5 s5 k5 (shift_mv (by omega))
  refine ⟨_, rfl, _, _, rfl, rfl, _, rfl, ite2 (fun c => ?_) (fun c => ?_)⟩
  · -- turned about
    refine ⟨_, rfl, n, rfl, by omega, by omega, fun e he => ?_⟩
    refine lc_range (lo := 0) (n := n.toNat) (fun i H' => Go S G H G H' ∧ G e = none ∧ H e = none ∧ H' e = some (.lst (((List.range i).map fun (k : Nat) => n - 1 - (k : Int)).map V.int))) ?_ ?_ ?_
    · obtain ⟨s4, ge, h4, fe⟩ := s2.loc (p := e) (o := .lst []) ⟨he, rfl⟩
      exact ⟨s4, ge, fe, h4⟩
    · rintro i H4 hi ⟨s4, ge, fe, h4⟩
      refine ⟨rfl, yesT ⟨_, rfl, _, _, rfl, rfl, _, rfl, _, _, rfl, rfl, _, h4, ?_, s4.mut ge fe rfl, ge, fe, ?_⟩⟩
      · rw [List.length_map, List.length_map, List.length_range]
        exact lt (by omega)
      · rw [upd_same, List.range_succ, List.map_append, List.map_append, Int.zero_add]
        rfl
    · rintro H4 ⟨s4, ge, fe, h4⟩
      refine ⟨e, _, rfl, .of h4, fun p H5 n5 => ?_⟩
      obtain ⟨G5, s5, _, k5, _⟩ := s4.know n5
      exact q p _ G5 H5 s5 k5 (turn_mv h0)
  · refine ⟨_, rfl, _, rfl, _, rfl, S, G, l, _, n, rfl, s2.wd, .inl hl, by rw [List.length_map, rngI_len]; omega, by omega, by omega, fun r ys rest H4 s4 gr fr hr pm0 hy => ?_⟩
    obtain ⟨rs, ms, rfl, rfl, pm⟩ := perm_ints pm0
    rw [List.length_map, List.length_map, rngI_len] at hy
    have pl := pm.length_eq
    rw [List.length_append, rngI_len] at pl
    have e : ms = [] := List.eq_nil_of_length_eq_zero (by omega)
    subst e
    rw [List.append_nil] at pm
    refine ⟨r, _, rfl, .of hr, fun p H5 n5 => ?_⟩
    obtain ⟨G5, s5, _, k5, _⟩ := (s2.trans s4).know n5
    exact q p rs G5 H5 s5 k5 pm

theorem ok_bad_move (Z : Zs mg) (D : Ds K mg) (c__law_take : Cal P w K mg base "_law_take" 2 ["store", "many"] spTake) (c__law_place : Cal P w K mg base "_law_place" 3 ["store", "size"] spPlace) (c__law_leaf : Cal P w K mg base "_law_leaf" 5 ["store"] spLeaf) : Cal P w K mg base "_law_bad_move" 6 ["store", "move"] spBadMove := by
  refine Def.cal D.d_law_bad_move sc_law_bad_move (fun vs H Q E h => ?_) (fun f cdv A outer s H vs Q E hr h => ?_)
  · obtain ⟨S, G, a, ns, n, rfl, wd, ha, mv, h0, hn, q⟩ := h
    rfl
  obtain ⟨S, G, a, ns, n, rfl, wd, ha, mv, h0, hn, q⟩ := h
  refine ⟨_, (pss_cons (ps_set (i := 2) sc_law_bad_move.nd rfl (Or.inl rfl) (pe_cal c__law_take (hr.mono (by first | decide | omega)) (by rfl) (pa_cons (pv 0) (pa_cons pe_int pa_nil))))
      (pss_cons (ps_set (i := 3) sc_law_bad_move.nd rfl (Or.inl rfl) (pe_callB call_len_seq (by rfl) Z.z_len (by decide +kernel) (pa_cons (pv 1) pa_nil)))
      (pss_cons (ps_set (i := 4) sc_law_bad_move.nd rfl (Or.inl rfl) (pe_callTy call_listN (by rfl) Z.z_list (by decide +kernel) (pa_cons (pv 1) pa_nil)))
      (pss_cons (ps_if (pt_cmp (pc_eqI (pv 2) pe_int) (nomark _)) (pss_one (ps_ret (pv 4))) pss_nil)
      (pss_cons (ps_if (pt_cmp (pc_eqI (pv 2) pe_int) (nomark _)) (pss_one (ps_ret (pe_callTy call_tupleN (by rfl) Z.z_tuple (by decide +kernel) (pa_cons (pe_op op_catN (pv 4) (pe_lstN (pa_cons (pv 3) pa_nil))) pa_nil)))) pss_nil)
      (pss_cons (ps_if (pt_cmp (pc_eqI (pv 2) pe_int) (nomark _)) (pss_one (ps_ret (pe_cal c__law_leaf (hr.mono (by first | decide | omega)) (by rfl) (pa_cons (pv 0) pa_nil)))) pss_nil)
      (pss_cons (ps_if (pt_cmp (pc_eqI (pv 3) pe_int) (nomark _)) (pss_one (ps_ret (pe_tupN (pa_cons (pe_cal c__law_leaf (hr.mono (by first | decide | omega)) (by rfl) (pa_cons (pv 0) pa_nil)) pa_nil)))) pss_nil)
      (pss_cons (ps_set (i := 5) sc_law_bad_move.nd rfl (Or.inl rfl) (pe_cal c__law_place (hr.mono (by first | decide | omega)) (by rfl) (pa_cons (pv 0) (pa_cons (pv 3) pa_nil))))
      (Evl.pss_cut (ps_if (pt_cmp (pc_eqI (pv 2) pe_int) (nomark _)) (pss_one (ps_expr (pe_bm PySem.F.plainAttrs_list PySem.F.slot_list_pop PySem.F.type_list_pop mt_popAtN (pv 4) (pa_cons (pv 5) pa_nil)))) (pss_one (ps_if (pt_cmp (pc_eqI (pv 2) pe_int) (nomark _)) (pss_one (ps_asg (pv 3) (pg_sub (pv 4) (pv 5) set_listN))) (pss_one (ps_if (pt_cmp (pc_eqI (pv 2) pe_int) (nomark _)) (pss_one (ps_asg (pe_op op_add (pe_ix ix_list (pv 4) (pe_op op_mod (pe_callTy call_int1 (by rfl) Z.z_int (by decide +kernel) (pa_cons (pe_op op_add (pv 5) pe_int) pa_nil)) (pv 3)) (fun _ _ => rfl)) (pe_callTy call_int1 (by rfl) Z.z_int (by decide +kernel) (pa_cons (pe_cmp (pc_eqI (pv 3) pe_int) (nomark _)) pa_nil))) (pg_sub (pv 4) (pv 5) set_listN))) (pss_one (ps_if (pt_cmp (pc_eqI (pv 2) pe_int) (nomark _)) (pss_one (ps_asg (pe_op op_sub (pe_ix ix_list (pv 4) (pv 5) (fun _ _ => rfl)) (pv 3)) (pg_sub (pv 4) (pv 5) set_listN))) (pss_one (ps_if (PW.pt (pw_and (pt_cmp (pc_eqI (pv 2) pe_int) (nomark _)) (pw_and1 (pt_cmp (pc_gt (pv 3) pe_int) (nomark _))))) (pss_one (ps_asg pe_bl (pg_sub (pv 4) (pe_bm PySem.F.plainAttrs_list PySem.F.slot_list_index PySem.F.type_list_index mt_index (pv 4) (pa_cons pe_int pa_nil)) set_listN))) (pss_one (ps_asg pe_bl (pg_sub (pv 4) (pe_bm PySem.F.plainAttrs_list PySem.F.slot_list_index PySem.F.type_list_index mt_index (pv 4) (pa_cons pe_int pa_nil)) set_listN))))))))))))
      (pss_one (ps_ret (pe_callTy call_tupleN (by rfl) Z.z_tuple (by decide +kernel) (pa_cons (pv 4) pa_nil))))))))))))), ?_⟩
  have ln := mv.len
  refine ⟨_, rfl, S, G, 9, rfl, wd, by omega, fun d1 H1 p0 p1 s1 => ?_⟩
  refine ⟨_, rfl, a, _, rfl, .inr (.of (s1.gh _ _ ha)), ?_⟩
  refine ⟨_, rfl, a, _, rfl, .inr (.of (s1.gh _ _ ha)), fun l H2 n2 => ?_⟩
  obtain ⟨s2, gl, hl, fl⟩ := s1.loc n2
  have dn : DaAll G (ns.map V.int) (ns.map PyData.int) := DaAll.ints ns
  have zn := szL_ints ns
  rw [List.length_map]
  refine ⟨_, rfl, _, _, rfl, rfl, _, rfl, ite2 (fun c => ?_) (fun c => ?_)⟩
  · obtain ⟨G3, s3, g3, k3, _⟩ := s2.frz gl fl hl
    refine ⟨_, rfl, q _ _ G3 H2 s3 (.lst k3 (dn.up g3)) ?_⟩
    show 1 + szL _ ≤ 1300
    omega
  refine ⟨_, rfl, _, _, rfl, rfl, _, rfl, ite2 (fun c => ?_) (fun c => ?_)⟩
  · refine ⟨_, rfl, _, rfl, by show 1 ≤ sizeLine; decide, fun p H3 n3 => ?_⟩
    obtain ⟨s3, gp, hp, fp⟩ := s2.loc n3
    refine ⟨l, p, _, _, rfl, rfl, n3.else hl, hp, Hd.ln (by rw [List.length_map]; show ns.length + 1 ≤ 1000000; omega), fun p4 H4 n4 => ?_⟩
    obtain ⟨s4, gp4, hp4, fp4⟩ := s3.loc n4
    refine ⟨p4, _, rfl, .of hp4, fun p5 H5 n5 => ?_⟩
    obtain ⟨G5, s5, g5, k5, _⟩ := s4.know n5
    refine q _ _ G5 H5 s5 (.tup k5 ((dn.append (.one (.int _))).up g5)) ?_
    show 1 + szL _ ≤ 1300
    rw [szL_append, szL_one, zn]
    show 1 + (ns.length + 1) ≤ 1300
    omega
  refine ⟨_, rfl, _, _, rfl, rfl, _, rfl, ite2 (fun c => ?_) (fun c => ?_)⟩
  · exact ⟨_, rfl, S, G, rfl, s2.wd, fun v d H3 lf s3 => q v d G H3 (s2.trans s3) lf.da (by have := lf.sz; omega)⟩
  refine ⟨_, rfl, _, _, rfl, rfl, _, rfl, ite2 (fun c => ?_) (fun c => ?_)⟩
  · refine ⟨_, rfl, S, G, rfl, s2.wd, fun v d H3 lf s3 => ⟨by show 1 ≤ sizeLine; decide, fun p H4 n4 => ?_⟩⟩
    obtain ⟨G4, s4, g4, k4, _⟩ := (s2.trans s3).know n4
    refine q _ _ G4 H4 s4 (.tup k4 (.one lf.da)) ?_
    have := lf.sz
    show 1 + szL _ ≤ 1300
    rw [szL_one]
    omega
  have c : ¬ ((ns.length : Nat) : Int) = 0 := dec_not c
  refine ⟨_, rfl, _, rfl, S, G, _, rfl, s2.wd, by omega, by omega, fun t H3 t0 t1 s3 => ?_⟩
  have hl3 := s3.hh hl (s2.ns fl)
  have s3 := s2.trans s3
  refine ⟨fun σ' H' => ∃ (xs : List V) (ds : List PyData), σ' = [some (.ref S.a), some (.ref a), some (.int d1), some (.int ns.length), some (.ref l), some (.int t)] ∧ Go S G H G H' ∧ H' l = some (.lst xs) ∧ DaAll G xs ds ∧ szL ds ≤ 1200, ?_, ?_⟩
  · have seti : ∀ (H4 : Hp) (i : Int), H4 = upd H3 l (.lst ((ns.map V.int).set t.toNat (.int i))) → ∃ (xs : List V) (ds : List PyData), [some (V.ref S.a), some (.ref a), some (.int d1), some (.int ns.length), some (.ref l), some (.int t)] = [some (.ref S.a), some (.ref a), some (.int d1), some (.int ns.length), some (.ref l), some (.int t)] ∧ Go S G H G H4 ∧ H4 l = some (.lst xs) ∧ DaAll G xs ds ∧ szL ds ≤ 1200 := fun H4 i e4 => by
      refine ⟨_, _, rfl, s3.mut gl fl e4, upd_at e4, DaAll.set (.int i) _ dn, ?_⟩
      have := szL_set t.toNat (ns.map PyData.int) (.int i)
      have e : szD (.int i) = 1 := rfl
      omega
    refine ⟨_, rfl, _, _, rfl, rfl, _, rfl, ite2 (fun c => ?_) (fun c => ?_)⟩
    · obtain ⟨x, e, _⟩ := at_int (xs := ns.map V.int) t0 (by rw [List.length_map]; omega)
      refine ⟨_, rfl, .inl ⟨rfl, _, .of hl3⟩, _, rfl, l, _, t, t.toNat, x, rfl, rfl, hl3, by omega, by omega, e, fun H4 e4 => ?_⟩
      refine ⟨_, _, rfl, s3.mut gl fl e4, upd_at e4, dn.erase _, ?_⟩
      have := szL_erase t.toNat (ns.map PyData.int)
      omega
    refine ⟨_, rfl, _, _, rfl, rfl, _, rfl, ite2 (fun c => ?_) (fun c => ?_)⟩
    · exact ⟨_, rfl, _, rfl, _, rfl, l, _, t.toNat, rfl, by rw [Int.toNat_of_nonneg t0], hl3, by rw [List.length_map]; omega, fun H4 e4 => seti H4 _ e4⟩
    refine ⟨_, rfl, _, _, rfl, rfl, _, rfl, ite2 (fun c => ?_) (fun c => ?_)⟩
    · obtain ⟨x, e1, e2, _⟩ := atI_ints (ns := ns) (d := (t + 1) % ((ns.length : Nat) : Int)) (Int.emod_nonneg _ (by omega)) (Int.emod_lt_of_pos _ (by omega))
      refine ⟨_, rfl, _, rfl, _, _, rfl, rfl, .inl ⟨_, rfl, _, rfl, _, _, rfl, rfl, by omega, l, _, _, _, rfl, rfl, .of hl3, e2, ?_⟩⟩
      refine ⟨_, rfl, _, _, rfl, rfl, .inr ⟨_, rfl, _, _, rfl, rfl, ?_⟩⟩
      exact ⟨_, rfl, _, rfl, l, _, t.toNat, rfl, by rw [Int.toNat_of_nonneg t0], hl3, by rw [List.length_map]; omega, fun H4 e4 => seti H4 _ e4⟩
    refine ⟨_, rfl, _, _, rfl, rfl, _, rfl, ite2 (fun c => ?_) (fun c => ?_)⟩
    · obtain ⟨x, e1, e2, _⟩ := atI_ints (ns := ns) (d := t) t0 (by omega)
      refine ⟨_, rfl, _, rfl, l, _, _, _, rfl, rfl, .of hl3, e2, _, rfl, _, _, rfl, rfl, ?_⟩
      exact ⟨_, rfl, _, rfl, l, _, t.toNat, rfl, by rw [Int.toNat_of_nonneg t0], hl3, by rw [List.length_map]; omega, fun H4 e4 => seti H4 _ e4⟩
    have setb : ∀ (H4 : Hp) (j : Nat) (b : Bool), H4 = upd H3 l (.lst ((ns.map V.int).set j (.bl b))) → ∃ (xs : List V) (ds : List PyData), [some (V.ref S.a), some (.ref a), some (.int d1), some (.int ns.length), some (.ref l), some (.int t)] = [some (.ref S.a), some (.ref a), some (.int d1), some (.int ns.length), some (.ref l), some (.int t)] ∧ Go S G H G H4 ∧ H4 l = some (.lst xs) ∧ DaAll G xs ds ∧ szL ds ≤ 1200 := fun H4 j b e4 => by
      refine ⟨_, _, rfl, s3.mut gl fl e4, upd_at e4, DaAll.set (.bl b) _ dn, ?_⟩
      have := szL_set j (ns.map PyData.int) (.bool b)
      have e : szD (.bool b) = 1 := rfl
      omega
    obtain ⟨j0, z0, i1, i2, i3, i4⟩ := index_ints (k := 0) mv.nodup (mv.mem.mpr ⟨by omega, by omega⟩)
    have els : (tAsg (tC (V.bl false)) (gSub (tVar 4) (tBM K "list" (rIndex K) (tVar 4) (tCons (tC (V.int 0)) tNil)) rSetN)) { nx := fun σ' H' => ∃ (xs : List V) (ds : List PyData), σ' = [some (.ref S.a), some (.ref a), some (.int d1), some (.int ns.length), some (.ref l), some (.int t)] ∧ Go S G H G H' ∧ H' l = some (.lst xs) ∧ DaAll G xs ds ∧ szL ds ≤ 1200, rt := Q } [some (.ref S.a), some (.ref a), some (.int d1), some (.int ns.length), some (.ref l), some (.int t)] H3 :=
      ⟨_, rfl, _, rfl, .inl ⟨rfl, _, .of hl3⟩, l, _, .int 0, j0, z0, rfl, rfl, .of hl3, rfl, flat_ints ns, i1, i2, i3, l, _, j0, rfl, rfl, hl3, by rw [List.length_map]; exact i4, fun H4 e4 => setb H4 j0 false e4⟩
    refine ⟨_, rfl, _, _, rfl, rfl, _, rfl, ite2 (fun c => ?_) (fun c => iteF els)⟩
    refine ⟨_, rfl, _, _, rfl, rfl, _, rfl, ite2 (fun c => ?_) (fun c => els)⟩
    have c : (1 : Int) < ((ns.length : Nat) : Int) := dec_of c
    obtain ⟨j1, z1, i1, i2, i3, i4⟩ := index_ints (k := 1) mv.nodup (mv.mem.mpr ⟨by omega, by omega⟩)
    exact ⟨_, rfl, _, rfl, .inl ⟨rfl, _, .of hl3⟩, l, _, .int 1, j1, z1, rfl, rfl, .of hl3, rfl, flat_ints ns, i1, i2, i3, l, _, j1, rfl, rfl, hl3, by rw [List.length_map]; exact i4, fun H4 e4 => setb H4 j1 true e4⟩
  · rintro σ' H4 ⟨xs, ds, rfl, s4, h4, dx, zx⟩
    refine ⟨_, rfl, l, _, rfl, .of h4, fun p H5 n5 => ?_⟩
    obtain ⟨G5, s5, g5, k5, _⟩ := s4.know n5
    refine q _ _ G5 H5 s5 (.tup k5 (dx.up g5)) ?_
    show 1 + szL _ ≤ 1300
    omega

theorem ok_bent_text (Z : Zs mg) (D : Ds K mg) (c__law_take : Cal P w K mg base "_law_take" 2 ["store", "many"] spTake) (c__law_place : Cal P w K mg base "_law_place" 3 ["store", "size"] spPlace) (c__law_sign : Cal P w K mg base "_law_sign" 3 ["store"] spSign) (c__law_pick : Cal P w K mg base "_law_pick" 3 ["store", "things"] spPick) : Cal P w K mg base "_law_bent_text" 4 ["store", "text"] spBentText := by
  refine Def.cal D.d_law_bent_text sc_law_bent_text (fun vs H Q E h => ?_) (fun f cdv A outer s H vs Q E hr h => ?_)
  · obtain ⟨S, G, z, rfl, wd, hz, q⟩ := h
    rfl
  obtain ⟨S, G, z, rfl, wd, hz, q⟩ := h
  refine ⟨_, (pss_cons (ps_set (i := 2) sc_law_bent_text.nd rfl (Or.inl rfl) (pe_cal c__law_take (hr.mono (by first | decide | omega)) (by rfl) (pa_cons (pv 0) (pa_cons pe_int pa_nil))))
      (pss_cons (ps_set (i := 3) sc_law_bent_text.nd rfl (Or.inl rfl) (pe_cal c__law_sign (hr.mono (by first | decide | omega)) (by rfl) (pa_cons (pv 0) pa_nil)))
      (Evl.pss_cut (ps_if (pt_cmp (pc_gt (pe_cal c__law_take (hr.mono (by first | decide | omega)) (by rfl) (pa_cons (pv 0) (pa_cons pe_int pa_nil))) pe_int) (nomark _)) (pss_one (ps_set (i := 3) sc_law_bent_text.nd rfl (Or.inl rfl) (pe_cal c__law_pick (hr.mono (by first | decide | omega)) (by rfl) (pa_cons (pv 0) (pa_cons pe_str pa_nil))))) pss_nil)
      (pss_cons (ps_if (pt_cmp (pc_eqI (pv 2) pe_int) (nomark _)) (pss_one (ps_ret (pe_op op_add_str (pv 1) pe_str))) pss_nil)
      (pss_cons (ps_if (PW.pt (pw_or (pt_cmp (pc_eqI (pv 2) pe_int) (nomark _)) (pw_or1 (pt_cmpR op_eq (pv 1) pe_str (nomark _))))) (pss_one (ps_ret (pe_op op_add_str (pv 1) (pv 3)))) pss_nil)
      (pss_cons (ps_set (i := 4) sc_law_bent_text.nd rfl (Or.inl rfl) (pe_cal c__law_place (hr.mono (by first | decide | omega)) (by rfl) (pa_cons (pv 0) (pa_cons (pe_callB call_len_str (by rfl) Z.z_len (by decide +kernel) (pa_cons (pv 1) pa_nil)) pa_nil))))
      (pss_cons (ps_if (pt_cmp (pc_eqI (pv 2) pe_int) (nomark _)) (pss_one (ps_ret (pe_op op_add_str (pe_slice sl_str (pv 1) po_none (po_some (pv 4))) (pe_slice sl_str (pv 1) (po_some (pe_op op_add (pv 4) pe_int)) po_none)))) pss_nil)
      (pss_cons (ps_if (pt_cmp (pc_eqI (pv 2) pe_int) (nomark _)) (pss_one (ps_ret (pe_op op_add_str (pe_op op_add_str (pe_slice sl_str (pv 1) po_none (po_some (pv 4))) (pe_ix ix_str (pv 1) (pv 4) (fun _ _ => rfl))) (pe_slice sl_str (pv 1) (po_some (pv 4)) po_none)))) pss_nil)
      (pss_cons (ps_if (pt_cmp (pc_eqI (pv 2) pe_int) (nomark _)) (pss_one (ps_ret (pe_op op_add_str (pe_op op_add_str (pe_op op_add_str (pe_slice sl_str (pv 1) po_none (po_some (pv 4))) (pe_slice sl_str (pv 1) (po_some (pe_op op_add (pv 4) pe_int)) (po_some (pe_op op_add (pv 4) pe_int)))) (pe_ix ix_str (pv 1) (pv 4) (fun _ _ => rfl))) (pe_slice sl_str (pv 1) (po_some (pe_op op_add (pv 4) pe_int)) po_none)))) pss_nil)
      (pss_cons (ps_if (pt_cmp (pc_eqI (pv 2) pe_int) (nomark _)) (pss_one (ps_ret (pe_slice sl_str (pv 1) po_none (po_some (pv 4))))) pss_nil)
      (pss_cons (ps_if (pt_cmp (pc_eqI (pv 2) pe_int) (nomark _)) (pss_one (ps_ret (pe_op op_add_str (pe_op op_add_str (pe_slice sl_str (pv 1) po_none (po_some (pv 4))) (pv 3)) (pe_slice sl_str (pv 1) (po_some (pv 4)) po_none)))) pss_nil)
      (pss_one (ps_ret (pe_op op_add_str (pe_op op_add_str (pe_slice sl_str (pv 1) po_none (po_some (pv 4))) (pv 3)) (pe_slice sl_str (pv 1) (po_some (pe_op op_add (pv 4) pe_int)) po_none))))))))))))))), ?_⟩
  have hz2 : z.length ≤ sizeLine := Hd.ln (by omega)
  have cl := fun lo hi => cutS_length z lo hi
  refine ⟨_, rfl, S, G, 8, rfl, wd, by omega, fun d1 H1 p0 p1 s1 => ?_⟩
  refine ⟨_, rfl, S, G, rfl, s1.wd, fun sg H2 s2 => ?_⟩
  have s2 := s1.trans s2
  refine ⟨fun σ' H' => ∃ c : Nat, σ' = [some (.ref S.a), some (.str z), some (.int d1), some (.str ⟨#[c]⟩), none] ∧ Go S G H G H', ?_, ?_⟩
  · refine ⟨_, rfl, S, G, 3, rfl, s2.wd, by omega, fun d2 H3 r0 r1 s3 => ⟨_, _, rfl, rfl, _, rfl, ite2 (fun c => ?_) (fun c => ⟨sg, rfl, s2.trans s3⟩)⟩⟩
    have s3 := s2.trans s3
    refine ⟨_, rfl, S, G, _, _, rfl, s3.wd, .inr (.inr ⟨_, rfl, by decide +kernel, rfl⟩), by decide +kernel, by decide +kernel, fun x H4 m s4 => ?_⟩
    obtain ⟨c, _, rfl⟩ := List.mem_map.mp m
    exact ⟨c, rfl, s3.trans s4⟩
  rintro σ' H3 ⟨cc, rfl, s3⟩
  have l1 : (Str.mk #[cc]).length = 1 := rfl
  have l2 : (Str.ofString "\n").length = 1 := by decide +kernel
  refine ⟨_, rfl, _, _, rfl, rfl, _, rfl, ite2 (fun c => ⟨_, rfl, _, _, rfl, rfl, Hd.ln (by omega), q _ H3 (by rw [len_app]; omega) s3⟩) (fun c => ?_)⟩
  have plain : z.length + (Str.mk #[cc]).length ≤ sizeLine := Hd.ln (by omega)
  refine ⟨_, rfl, _, _, rfl, rfl, _, rfl, ite2 (fun c => iteT ⟨_, rfl, _, rfl, _, _, rfl, rfl, plain, q _ H3 (by rw [len_app]; omega) s3⟩) (fun c => ?_)⟩
  refine ⟨_, rfl, rfl, _, rfl, ite2 (fun c => ⟨_, rfl, _, rfl, _, _, rfl, rfl, plain, q _ H3 (by rw [len_app]; omega) s3⟩) (fun c => ?_)⟩
  have zp : z.length ≠ 0 := fun e => dec_not c (by rw [str_nil e])
  refine ⟨_, rfl, _, rfl, _, rfl, hz2, S, G, _, rfl, s3.wd, by omega, by omega, fun t H4 t0 t1 s4 => ?_⟩
  have s4 := s3.trans s4
  obtain ⟨x, ex, _⟩ := at_str (z := z) t0 t1
  have lx : (Str.mk #[x]).length = 1 := rfl
  have a1 := cl none (some t)
  have a2 := cl (some (t + 1)) none
  have a3 := cl (some t) none
  have a4 := cl (some (t + 1)) (some (t + 2))
  have a5 := cl (some (t + 2)) none
  refine ⟨_, rfl, _, _, rfl, rfl, _, rfl, ite2 (fun c => ?_) (fun c => ?_)⟩
  · exact ⟨_, rfl, _, rfl, _, rfl, _, rfl, hz2, _, rfl, _, rfl, _, _, rfl, rfl, _, rfl, _, rfl, hz2, _, _, rfl, rfl, Hd.ln (by omega), q _ H4 (by rw [len_app]; omega) s4⟩
  refine ⟨_, rfl, _, _, rfl, rfl, _, rfl, ite2 (fun c => ?_) (fun c => ?_)⟩
  · exact ⟨_, rfl, _, rfl, _, rfl, _, rfl, hz2, _, rfl, _, rfl, _, _, x, rfl, rfl, hz2, ex, _, _, rfl, rfl, Hd.ln (by omega), _, rfl, _, rfl, _, rfl, _, rfl, hz2, _, _, rfl, rfl, Hd.ln (by rw [len_app]; omega), q _ H4 (by rw [len_app, len_app]; omega) s4⟩
  refine ⟨_, rfl, _, _, rfl, rfl, _, rfl, ite2 (fun c => ?_) (fun c => ?_)⟩
  · exact ⟨_, rfl, _, rfl, _, rfl, _, rfl, hz2, _, rfl, _, rfl, _, _, rfl, rfl, _, rfl, _, rfl, _, _, rfl, rfl, _, rfl, _, rfl, hz2, _, _, rfl, rfl, Hd.ln (by omega), _, rfl, _, rfl, _, _, x, rfl, rfl, hz2, ex, _, _, rfl, rfl, Hd.ln (by rw [len_app]; omega), _, rfl, _, rfl, _, _, rfl, rfl, _, rfl, _, rfl, hz2, _, _, rfl, rfl, Hd.ln (by rw [len_app, len_app]; omega), q _ H4 (by rw [len_app, len_app, len_app]; omega) s4⟩
  refine ⟨_, rfl, _, _, rfl, rfl, _, rfl, ite2 (fun c => ?_) (fun c => ?_)⟩
  · exact ⟨_, rfl, _, rfl, _, rfl, _, rfl, hz2, q _ H4 (by omega) s4⟩
  refine ⟨_, rfl, _, _, rfl, rfl, _, rfl, ite2 (fun c => ?_) (fun c => ?_)⟩
  · exact ⟨_, rfl, _, rfl, _, rfl, _, rfl, hz2, _, rfl, _, _, rfl, rfl, Hd.ln (by omega), _, rfl, _, rfl, _, rfl, _, rfl, hz2, _, _, rfl, rfl, Hd.ln (by rw [len_app]; omega), q _ H4 (by rw [len_app, len_app]; omega) s4⟩
  · exact ⟨_, rfl, _, rfl, _, rfl, _, rfl, hz2, _, rfl, _, _, rfl, rfl, Hd.ln (by omega), _, rfl, _, rfl, _, _, rfl, rfl, _, rfl, _, rfl, hz2, _, _, rfl, rfl, Hd.ln (by rw [len_app]; omega), q _ H4 (by rw [len_app, len_app]; omega) s4⟩
theorem ok_bent_leaf (Z : Zs mg) (D : Ds K mg) (c__law_take : Cal P w K mg base "_law_take" 2 ["store", "many"] spTake) (c__law_whole : Cal P w K mg base "_law_whole" 4 ["store"] spWhole) (c__law_bent_text : Cal P w K mg base "_law_bent_text" 4 ["store", "text"] spBentText) : Cal P w K mg base "_law_bent_leaf" 5 ["store", "leaf"] spBentLeaf := by
  refine Def.cal D.d_law_bent_leaf sc_law_bent_leaf (fun vs H Q E h => ?_) (fun f cdv A outer s H vs Q E hr h => ?_)
  · obtain ⟨S, G, v, d, rfl, wd, fl, sz, q⟩ := h
    rfl
  obtain ⟨S, G, v, d, rfl, wd, fl, sz, q⟩ := h
  refine ⟨_, (pss_cons (ps_set (i := 2) sc_law_bent_leaf.nd rfl (Or.inl rfl) (pe_cal c__law_take (hr.mono (by first | decide | omega)) (by rfl) (pa_cons (pv 0) (pa_cons pe_int pa_nil))))
      (pss_cons (ps_if (pt_cmp (pc_eqI (pv 2) pe_int) (nomark _)) (pss_one (ps_ret pe_non)) pss_nil)
      (pss_cons (ps_if (pt_cmp (pc_eqI (pv 2) pe_int) (nomark _)) (pss_one (ps_ret (pe_tupN (pa_cons (pv 1) pa_nil)))) pss_nil)
      (pss_cons (ps_if (pt_val (pe_callB call_isD (by rfl) Z.z_isinstance (by decide +kernel) (pa_cons (pv 1) (pa_cons (pe_bltn (v := .ty "str") (by rfl) Z.z_str (by decide +kernel) rfl) pa_nil)))) (pss_one (ps_ret (pe_cal c__law_bent_text (hr.mono (by first | decide | omega)) (by rfl) (pa_cons (pv 0) (pa_cons (pv 1) pa_nil))))) pss_nil)
      (pss_cons (ps_if (PW.pt (pw_or (pt_cmpR op_isN (pv 1) pe_non (nomark _)) (pw_or (pt_cmpR op_isBD (pv 1) pe_bl (nomark _)) (pw_or1 (pt_cmpR op_isBD (pv 1) pe_bl (nomark _)))))) (pss_one (ps_ret (pe_cal c__law_take (hr.mono (by first | decide | omega)) (by rfl) (pa_cons (pv 0) (pa_cons pe_int pa_nil))))) pss_nil)
      (pss_cons (ps_if (pt_cmp (pc_eqI (pv 2) pe_int) (nomark _)) (pss_one (ps_ret (pe_cmp (pc_neI (pv 1) pe_int) (nomark _)))) pss_nil)
      (pss_cons (ps_if (pt_cmp (pc_eqI (pv 2) pe_int) (nomark _)) (pss_one (ps_ret (pe_callTy call_str_int (by rfl) Z.z_str (by decide +kernel) (pa_cons (pe_op op_mod (pe_callTy call_int1 (by rfl) Z.z_int (by decide +kernel) (pa_cons (pv 1) pa_nil)) (pe_op op_pow pe_int pe_int)) pa_nil)))) pss_nil)
      (pss_cons (ps_if (pt_cmp (pc_eqI (pv 2) pe_int) (nomark _)) (pss_one (ps_ret (pe_op op_add pe_int (pe_cal c__law_take (hr.mono (by first | decide | omega)) (by rfl) (pa_cons (pv 0) (pa_cons pe_int pa_nil)))))) pss_nil)
      (pss_cons (ps_if (pt_cmp (pc_eqI (pv 2) pe_int) (nomark _)) (pss_one (ps_ret (pe_cal c__law_whole (hr.mono (by first | decide | omega)) (by rfl) (pa_cons (pv 0) pa_nil)))) pss_nil)
      (pss_one (ps_ret (pe_op op_sub (pe_op op_add (pe_op op_mod (pe_callTy call_int1 (by rfl) Z.z_int (by decide +kernel) (pa_cons (pv 1) pa_nil)) (pe_op op_pow pe_int pe_int)) pe_int) (pe_op op_mul pe_int (pe_cal c__law_take (hr.mono (by first | decide | omega)) (by rfl) (pa_cons (pv 0) (pa_cons pe_int pa_nil)))))))))))))))), ?_⟩
  have one : ∀ {G' : Hp} {v' : V} {d' : PyData} (H' : Hp), Da G' v' d' → szD d' = 1 → Go S G H G' H' → Q v' H' := fun H' a b c => q _ _ _ _ a (by omega) c
  refine ⟨_, rfl, S, G, 8, rfl, wd, by omega, fun d1 H1 p0 p1 s1 => ?_⟩
  refine ⟨_, rfl, _, _, rfl, rfl, _, rfl, ite2 (fun c => one H1 .non rfl s1) (fun c => ?_)⟩
  refine ⟨_, rfl, _, _, rfl, rfl, _, rfl, ite2 (fun c => ?_) (fun c => ?_)⟩
  · refine ⟨_, rfl, by show 1 ≤ sizeLine; decide, fun p H2 n2 => ?_⟩
    obtain ⟨G2, s2, g2, k2, _⟩ := s1.know n2
    refine q _ _ G2 H2 (.tup k2 (.one fl.da)) ?_ s2
    show 1 + szL [d] ≤ _
    rw [szL_one]
    omega
  refine ⟨_, rfl, v, d, "str", rfl, fl.da, ok_str, _, rfl, ?_⟩
  rcases fl with ⟨rfl, rfl⟩ | ⟨b, rfl, rfl⟩ | ⟨i, rfl, rfl⟩ | ⟨x, rfl, rfl⟩
  · exact iteBF ib_none_str ⟨_, rfl, rfl, _, rfl, iteDT rfl ⟨_, rfl, S, G, 3, rfl, s1.wd, by omega, fun d2 H2 r0 r1 s2 => one H2 (.int d2) rfl (s1.trans s2)⟩⟩
  · refine iteBF (ib_bool_str b) ⟨_, rfl, rfl, _, rfl, iteDF (by intro z; cases z) ?_⟩
    cases b with
    | true => exact ⟨_, rfl, _, true, .bl true, rfl, _, rfl, iteDT rfl ⟨_, rfl, S, G, 3, rfl, s1.wd, by omega, fun d2 H2 r0 r1 s2 => one H2 (.int d2) rfl (s1.trans s2)⟩⟩
    | false => exact ⟨_, rfl, _, true, .bl false, rfl, _, rfl, iteDF (by intro z; cases z) ⟨_, rfl, _, false, .bl false, rfl, _, rfl, iteDT rfl ⟨_, rfl, S, G, 3, rfl, s1.wd, by omega, fun d2 H2 r0 r1 s2 => one H2 (.int d2) rfl (s1.trans s2)⟩⟩⟩
  · refine iteBF (ib_int_str i) ⟨_, rfl, rfl, _, rfl, iteDF (by intro z; cases z) ⟨_, rfl, _, true, .int i, rfl, _, rfl, iteDF (by intro z; cases z) ⟨_, rfl, _, false, .int i, rfl, _, rfl, iteDF (by intro z; cases z) ?_⟩⟩⟩
    refine ⟨_, rfl, _, _, rfl, rfl, _, rfl, ite2 (fun c => ⟨_, rfl, _, _, rfl, rfl, one H1 (.bl _) rfl s1⟩) (fun c => ?_)⟩
    have c10 : CPow 10 29 := ⟨by omega, by omega, by decide⟩
    have m0 : (0 : Int) < 10 ^ (29 : Int).toNat := by decide
    have e0 := Int.emod_nonneg i (show (10 : Int) ^ (29 : Int).toNat ≠ 0 by decide)
    have e1 := Int.emod_lt_of_pos i m0
    have e2 : (10 : Int) ^ (29 : Int).toNat < 10 ^ 100 := by decide +kernel
    refine ⟨_, rfl, _, _, rfl, rfl, _, rfl, ite2 (fun c => ?_) (fun c => ?_)⟩
    · refine ⟨_, rfl, .inl ⟨_, rfl, _, _, rfl, rfl, c10, _, _, rfl, rfl, m0, _, rfl, log_small e0 (Int.lt_trans e1 e2), q _ _ G H1 (.str _) ?_ s1⟩⟩
      have := PyProof.Rows.toString_length_le (k := 100) e0 (by decide) (Int.lt_trans e1 e2)
      show 1 + _ ≤ 4 * 1 + 200
      omega
    refine ⟨_, rfl, _, _, rfl, rfl, _, rfl, ite2 (fun c => ?_) (fun c => ?_)⟩
    · exact ⟨_, rfl, S, G, 2, rfl, s1.wd, by omega, fun d2 H2 r0 r1 s2 => ⟨_, _, rfl, rfl, one H2 (.int _) rfl (s1.trans s2)⟩⟩
    refine ⟨_, rfl, _, _, rfl, rfl, _, rfl, ite2 (fun c => ?_) (fun c => ?_)⟩
    · exact ⟨_, rfl, S, G, rfl, s1.wd, fun d2 H2 s2 => one H2 (.int _) rfl (s1.trans s2)⟩
    · exact ⟨_, rfl, .inl ⟨_, rfl, _, _, rfl, rfl, c10, _, _, rfl, rfl, m0, _, _, rfl, rfl, _, rfl, S, G, 2, rfl, s1.wd, by omega, fun d2 H2 r0 r1 s2 => ⟨_, _, rfl, rfl, .inl ⟨by omega, by omega⟩, _, _, rfl, rfl, one H2 (.int _) rfl (s1.trans s2)⟩⟩⟩
  · refine iteBT (ib_str_str x) ⟨_, rfl, _, rfl, S, G, x, rfl, s1.wd, ?_, fun z' H2 hz s2 => q _ _ G H2 (.str z') ?_ (s1.trans s2)⟩
    · have : 1 + x.length ≤ 100000 := sz
      omega
    · show 1 + z'.length ≤ 4 * (1 + x.length) + 200
      omega

theorem ok_bent_part (Z : Zs mg) (D : Ds K mg) (c__law_take : Cal P w K mg base "_law_take" 2 ["store", "many"] spTake) (c__law_place : Cal P w K mg base "_law_place" 3 ["store", "size"] spPlace) (c__law_leaf : Cal P w K mg base "_law_leaf" 5 ["store"] spLeaf) : Cal P w K mg base "_law_bent_part" 6 ["store", "part"] spBentPart := by
  refine Def.cal D.d_law_bent_part sc_law_bent_part (fun vs H Q E h => ?_) (fun f cdv A outer s H vs Q E hr h => ?_)
  · obtain ⟨S, G, a, xs, ds, t, rfl, wd, ha, dx, sz, q⟩ := h
    rfl
  obtain ⟨S, G, a, xs, ds, t, rfl, wd, ha, dx, sz, q⟩ := h
  refine ⟨_, (pss_cons (ps_set (i := 2) sc_law_bent_part.nd rfl (Or.inl rfl) (pe_callTy call_listN (by rfl) Z.z_list (by decide +kernel) (pa_cons (pv 1) pa_nil)))
      (pss_cons (ps_set (i := 3) sc_law_bent_part.nd rfl (Or.inl rfl) (pe_cal c__law_take (hr.mono (by first | decide | omega)) (by rfl) (pa_cons (pv 0) (pa_cons pe_int pa_nil))))
      (pss_cons (ps_if (pt_cmp (pc_eqI (pv 3) pe_int) (nomark _)) (pss_cons (ps_if (pt_val (pe_callB call_isD (by rfl) Z.z_isinstance (by decide +kernel) (pa_cons (pv 1) (pa_cons (pe_bltn (v := .ty "tuple") (by rfl) Z.z_tuple (by decide +kernel) rfl) pa_nil)))) (pss_one (ps_ret (pv 2))) pss_nil)
      (pss_one (ps_ret (pe_callTy call_tupleN (by rfl) Z.z_tuple (by decide +kernel) (pa_cons (pv 2) pa_nil))))) pss_nil)
      (pss_cons (ps_set (i := 4) sc_law_bent_part.nd rfl (Or.inl rfl) (pe_cal c__law_place (hr.mono (by first | decide | omega)) (by rfl) (pa_cons (pv 0) (pa_cons (pe_op op_add (pe_callB call_len_seq (by rfl) Z.z_len (by decide +kernel) (pa_cons (pv 2) pa_nil)) pe_int) pa_nil))))
      (Evl.pss_cut (ps_if (pt_cmp (pc_eqI (pv 3) pe_int) (nomark _)) (pss_one (ps_set (i := 2) sc_law_bent_part.nd rfl (Or.inl rfl) (pe_lstN pa_nil))) (pss_one (ps_if (pt_cmp (pc_eqI (pv 3) pe_int) (nomark _)) (pss_one (ps_set (i := 2) sc_law_bent_part.nd rfl (Or.inl rfl) (pe_revN (pv 2)))) (pss_one (ps_if (pt_cmp (pc_lt (pv 3) pe_int) (nomark _)) (pss_one (ps_set (i := 2) sc_law_bent_part.nd rfl (Or.inl rfl) (pe_op op_catN (pe_slice sl_listN (pv 2) po_none (po_some (pv 4))) (pe_slice sl_listN (pv 2) (po_some (pe_op op_add (pv 4) pe_int)) po_none)))) (pss_one (ps_if (pt_cmp (pc_eqI (pv 3) pe_int) (nomark _)) (pss_one (ps_set (i := 2) sc_law_bent_part.nd rfl (Or.inl rfl) (pe_op op_catN (pe_op op_catN (pe_slice sl_listN (pv 2) po_none (po_some (pv 4))) (pe_slice sl_listN (pv 2) (po_some (pv 4)) (po_some (pe_op op_add (pv 4) pe_int)))) (pe_slice sl_listN (pv 2) (po_some (pv 4)) po_none)))) (pss_one (ps_if (pt_cmp (pc_eqI (pv 3) pe_int) (nomark _)) (pss_one (ps_set (i := 2) sc_law_bent_part.nd rfl (Or.inl rfl) (pe_op op_catN (pe_op op_catN (pe_op op_catN (pe_slice sl_listN (pv 2) po_none (po_some (pv 4))) (pe_slice sl_listN (pv 2) (po_some (pe_op op_add (pv 4) pe_int)) (po_some (pe_op op_add (pv 4) pe_int)))) (pe_slice sl_listN (pv 2) (po_some (pv 4)) (po_some (pe_op op_add (pv 4) pe_int)))) (pe_slice sl_listN (pv 2) (po_some (pe_op op_add (pv 4) pe_int)) po_none)))) (pss_one (ps_expr (pe_bm PySem.F.plainAttrs_list PySem.F.slot_list_insert PySem.F.type_list_insert mt_insertN (pv 2) (pa_cons (pv 4) (pa_cons (pe_cal c__law_leaf (hr.mono (by first | decide | omega)) (by rfl) (pa_cons (pv 0) pa_nil)) pa_nil))))))))))))))
      (pss_cons (ps_if (pt_val (pe_callB call_isD (by rfl) Z.z_isinstance (by decide +kernel) (pa_cons (pv 1) (pa_cons (pe_bltn (v := .ty "tuple") (by rfl) Z.z_tuple (by decide +kernel) rfl) pa_nil)))) (pss_one (ps_ret (pe_callTy call_tupleN (by rfl) Z.z_tuple (by decide +kernel) (pa_cons (pv 2) pa_nil)))) pss_nil)
      (pss_one (ps_ret (pv 2))))))))), ?_⟩
  have hL : HasL H a xs := by
    cases t with
    | true => exact .inr (wd.gh _ _ ha)
    | false => exact .inl (wd.gh _ _ ha)
  have hdG : Da G (.ref a) (sqD t ds) := Da.of_if ha dx
  have i3 : instB (sqD t ds) "tuple" = t := by cases t <;> first | exact ib_list_tuple ds | exact ib_tuple_tuple ds
  have lx := dx.length
  have ll := szL_len ds
  refine ⟨_, rfl, a, xs, rfl, hL.len, fun l H1 n1 => ?_⟩
  obtain ⟨s1, gl, hl, fl⟩ := (Go.refl wd).loc n1
  refine ⟨_, rfl, S, G, 8, rfl, s1.wd, by omega, fun d1 H2 p0 p1 s2 => ?_⟩
  have hl := s2.hh hl (s1.ns fl)
  have s2 := s1.trans s2
  -- what is handed back
  have fin : ∀ (H3 : Hp) (l : Addr) (ys : List V) (es : List PyData), Go S G H G H3 → G l = none → H l = none → H3 l = some (.lst ys) → DaAll G ys es → szL es ≤ 4 * szL ds + 200 → Q (.ref l) H3 := fun H3 l ys es s3 gl fl hl de ze => by
    obtain ⟨G4, s4, g4, k4, _⟩ := s3.frz gl fl hl
    refine q _ _ G4 H3 (.lst k4 (de.up g4)) ?_ s4
    show 1 + szL es ≤ _
    omega
  have fint : ∀ (H3 : Hp) (l : Addr) (ys : List V) (es : List PyData), Go S G H G H3 → H3 l = some (.lst ys) → DaAll G ys es → szL es ≤ 4 * szL ds + 200 → ∃ p zs, [V.ref l] = [.ref p] ∧ SqL K H3 p zs ∧ ∀ p2 H4, New H3 p2 (.tup zs) H4 → Q (.ref p2) H4 := fun H3 l ys es s3 hl de ze =>
    ⟨l, ys, rfl, .of hl, fun p2 H4 n4 => by
      obtain ⟨G4, s4, g4, k4, _⟩ := s3.know n4
      refine q _ _ G4 H4 (.tup k4 (de.up g4)) ?_ s4
      show 1 + szL es ≤ _
      omega⟩
  refine ⟨_, rfl, _, _, rfl, rfl, _, rfl, ite2 (fun c => ?_) (fun c => ?_)⟩
  · refine ⟨_, rfl, _, _, _, rfl, hdG.up s2.gh, ok_tuple, _, rfl, ?_⟩
    rw [i3]
    refine ite2 (fun c => ?_) (fun c => ?_)
    · exact ⟨_, rfl, fin H2 l xs ds s2 gl fl hl dx (by omega)⟩
    · exact ⟨_, rfl, fint H2 l xs ds s2 hl dx (by omega)⟩
  refine ⟨_, rfl, _, rfl, l, xs, rfl, .inl (.of hl), _, _, rfl, rfl, S, G, _, rfl, s2.wd, by omega, by omega, fun m H3 m0 m1 s3 => ?_⟩
  have hl := s3.hh hl (s2.ns fl)
  have s3 := s2.trans s3
  refine ⟨fun σ' H' => ∃ (e : Addr) (ys : List V) (es : List PyData), σ' = [some (.ref S.a), some (.ref a), some (.ref e), some (.int d1), some (.int m)] ∧ Go S G H G H' ∧ G e = none ∧ H e = none ∧ H' e = some (.lst ys) ∧ DaAll G ys es ∧ szL es ≤ 4 * szL ds + 200, ?_, ?_⟩
  · have big : ∀ n : Nat, n ≤ 8 * xs.length → n ≤ sizeLine := fun n h => Hd.ln (by omega)
    have cl := fun lo hi => cutV_length xs lo hi
    have cz := fun lo hi => szL_cut ds lo hi
    have a1 := cl none (some m)
    have a2 := cl (some (m + 1)) none
    have a3 := cl (some m) (some (m + 1))
    have a4 := cl (some m) none
    have a5 := cl (some (m + 1)) (some (m + 2))
    have a6 := cl (some (m + 2)) none
    have z1 := cz none (some m)
    have z2 := cz (some (m + 1)) none
    have z3 := cz (some m) (some (m + 1))
    have z4 := cz (some m) none
    have z5 := cz (some (m + 1)) (some (m + 2))
    have z6 := cz (some (m + 2)) none
    refine ⟨_, rfl, _, _, rfl, rfl, _, rfl, ite2 (fun c => ?_) (fun c => ?_)⟩
    · refine ⟨Nat.zero_le _, fun p H4 n4 => ?_⟩
      obtain ⟨s4, gp, hp, fp⟩ := s3.loc n4
      exact ⟨p, [], [], rfl, s4, gp, fp, hp, .nil, Nat.zero_le _⟩
    refine ⟨_, rfl, _, _, rfl, rfl, _, rfl, ite2 (fun c => ?_) (fun c => ?_)⟩
    · refine ⟨_, rfl, l, xs, rfl, .of hl, fun p H4 n4 => ?_⟩
      obtain ⟨s4, gp, hp, fp⟩ := s3.loc n4
      refine ⟨p, _, _, rfl, s4, gp, fp, hp, dx.reverse, ?_⟩
      have : ∀ es : List PyData, szL es.reverse = szL es := fun es => by
        induction es with
        | nil => rfl
        | cons d r ih =>
          rw [List.reverse_cons, szL_append, szL_one, ih]
          show _ = szD d + szL r
          omega
      rw [this]
      omega
    refine ⟨_, rfl, _, _, rfl, rfl, _, rfl, ite2 (fun c => ?_) (fun c => ?_)⟩
    · refine ⟨_, rfl, _, rfl, _, rfl, l, xs, rfl, .of hl, fun p4 H4 n4 => ?_⟩
      obtain ⟨s4, gp4, h4, fp4⟩ := s3.loc n4
      have hl4 := n4.else hl
      refine ⟨_, rfl, _, rfl, _, _, rfl, rfl, _, rfl, l, xs, rfl, .of hl4, fun p5 H5 n5 => ?_⟩
      obtain ⟨s5, gp5, h5, fp5⟩ := s4.loc n5
      refine ⟨p4, p5, _, _, rfl, rfl, n5.else h4, h5, big _ (by omega), fun p6 H6 n6 => ?_⟩
      obtain ⟨s6, gp6, h6, fp6⟩ := s5.loc n6
      refine ⟨p6, _, _, rfl, s6, gp6, fp6, h6, (dx.cut _ _).append (dx.cut _ _), ?_⟩
      rw [szL_append]
      omega
    refine ⟨_, rfl, _, _, rfl, rfl, _, rfl, ite2 (fun c => ?_) (fun c => ?_)⟩
    · refine ⟨_, rfl, _, rfl, _, rfl, l, xs, rfl, .of hl, fun p4 H4 n4 => ?_⟩
      obtain ⟨s4, gp4, h4, fp4⟩ := s3.loc n4
      have hl4 := n4.else hl
      refine ⟨_, rfl, _, rfl, _, rfl, _, rfl, _, _, rfl, rfl, _, rfl, l, xs, rfl, .of hl4, fun p5 H5 n5 => ?_⟩
      obtain ⟨s5, gp5, h5, fp5⟩ := s4.loc n5
      have hl5 := n5.else hl4
      refine ⟨p4, p5, _, _, rfl, rfl, n5.else h4, h5, big _ (by omega), fun p6 H6 n6 => ?_⟩
      obtain ⟨s6, gp6, h6, fp6⟩ := s5.loc n6
      have hl6 := n6.else hl5
      refine ⟨_, rfl, _, rfl, _, rfl, l, xs, rfl, .of hl6, fun p7 H7 n7 => ?_⟩
      obtain ⟨s7, gp7, h7, fp7⟩ := s6.loc n7
      refine ⟨p6, p7, _, _, rfl, rfl, n7.else h6, h7, big _ (by rw [List.length_append]; omega), fun p8 H8 n8 => ?_⟩
      obtain ⟨s8, gp8, h8, fp8⟩ := s7.loc n8
      refine ⟨p8, _, _, rfl, s8, gp8, fp8, h8, ((dx.cut _ _).append (dx.cut _ _)).append (dx.cut _ _), ?_⟩
      rw [szL_append, szL_append]
      omega
    refine ⟨_, rfl, _, _, rfl, rfl, _, rfl, ite2 (fun c => ?_) (fun c => ?_)⟩
    · refine ⟨_, rfl, _, rfl, _, rfl, l, xs, rfl, .of hl, fun p4 H4 n4 => ?_⟩
      obtain ⟨s4, gp4, h4, fp4⟩ := s3.loc n4
      have hl4 := n4.else hl
      refine ⟨_, rfl, _, rfl, _, _, rfl, rfl, _, rfl, _, rfl, _, _, rfl, rfl, _, rfl, l, xs, rfl, .of hl4, fun p5 H5 n5 => ?_⟩
      obtain ⟨s5, gp5, h5, fp5⟩ := s4.loc n5
      have hl5 := n5.else hl4
      refine ⟨p4, p5, _, _, rfl, rfl, n5.else h4, h5, big _ (by omega), fun p6 H6 n6 => ?_⟩
      obtain ⟨s6, gp6, h6, fp6⟩ := s5.loc n6
      have hl6 := n6.else hl5
      refine ⟨_, rfl, _, rfl, _, rfl, _, rfl, _, _, rfl, rfl, _, rfl, l, xs, rfl, .of hl6, fun p7 H7 n7 => ?_⟩
      obtain ⟨s7, gp7, h7, fp7⟩ := s6.loc n7
      have hl7 := n7.else hl6
      refine ⟨p6, p7, _, _, rfl, rfl, n7.else h6, h7, big _ (by rw [List.length_append]; omega), fun p8 H8 n8 => ?_⟩
      obtain ⟨s8, gp8, h8, fp8⟩ := s7.loc n8
      have hl8 := n8.else hl7
      refine ⟨_, rfl, _, rfl, _, _, rfl, rfl, _, rfl, l, xs, rfl, .of hl8, fun p9 H9 n9 => ?_⟩
      obtain ⟨s9, gp9, h9, fp9⟩ := s8.loc n9
      refine ⟨p8, p9, _, _, rfl, rfl, n9.else h8, h9, big _ (by rw [List.length_append, List.length_append]; omega), fun pA HA nA => ?_⟩
      obtain ⟨sA, gpA, hA, fpA⟩ := s9.loc nA
      refine ⟨pA, _, _, rfl, sA, gpA, fpA, hA, (((dx.cut _ _).append (dx.cut _ _)).append (dx.cut _ _)).append (dx.cut _ _), ?_⟩
      rw [szL_append, szL_append, szL_append]
      omega
    · refine ⟨_, rfl, .inl ⟨rfl, _, .of hl⟩, _, rfl, _, rfl, S, G, rfl, s3.wd, fun v d H4 lf s4 => ?_⟩
      have hl4 := s4.hh hl (s3.ns fl)
      refine ⟨l, xs, m, v, rfl, rfl, hl4, lt (by omega), m0, by omega, fun H5 e5 => ?_⟩
      refine ⟨l, _, _, rfl, (s3.trans s4).mut gl fl e5, gl, fl, upd_at e5, ((dx.take m.toNat).append (.one lf.da)).append (dx.drop m.toNat), ?_⟩
      have := szL_take ds m.toNat
      have := lf.sz
      rw [szL_append, szL_append, szL_one]
      omega
  · rintro σ' H4 ⟨e, ys, es, rfl, s4, ge, fe, he, de, ze⟩
    refine ⟨_, rfl, _, _, _, rfl, hdG.up s4.gh, ok_tuple, _, rfl, ?_⟩
    rw [i3]
    refine ite2 (fun c => ?_) (fun c => ?_)
    · exact ⟨_, rfl, fint H4 e ys es s4 he de ze⟩
    · exact ⟨_, rfl, fin H4 e ys es s4 ge fe he de ze⟩

theorem ok_bent (Z : Zs mg) (D : Ds K mg) (c__law_take : Cal P w K mg base "_law_take" 2 ["store", "many"] spTake) (c__law_place : Cal P w K mg base "_law_place" 3 ["store", "size"] spPlace) (c__law_bent_leaf : Cal P w K mg base "_law_bent_leaf" 5 ["store", "leaf"] spBentLeaf) (c__law_bent_part : Cal P w K mg base "_law_bent_part" 6 ["store", "part"] spBentPart) : Cal P w K mg base "_law_bent" 7 ["store", "value"] spBent := by
  refine Def.cal D.d_law_bent sc_law_bent (fun vs H Q E h => ?_) (fun f cdv A outer s H vs Q E hr h => ?_)
  · obtain ⟨S, G, v, d, rfl, wd, hd, sz, q⟩ := h
    rfl
  obtain ⟨S, G, v, d, rfl, wd, hd, sz, q⟩ := h
  refine ⟨_, (pss_cons (ps_set (i := 2) sc_law_bent.nd rfl (Or.inl rfl) (pe_lstN pa_nil))
      (pss_cons (ps_set (i := 3) sc_law_bent.nd rfl (Or.inl rfl) (pv 1))
      (Evl.pss_cut (ps_for PassesOwn.never rfl (pi_range1 (by rfl) Z.z_range (pa_cons pe_int pa_nil)) (pg_name (i := 4) sc_law_bent.nd rfl (Or.inl rfl)) (pss_cons (ps_if (PW.pt (pw_or (pt_not (pt_val (pe_callB call_isD2 (by rfl) Z.z_isinstance (by decide +kernel) (pa_cons (pv 3) (pa_cons (pe_tupN (pa_cons (pe_bltn (v := .ty "list") (by rfl) Z.z_list (by decide +kernel) rfl) (pa_cons (pe_bltn (v := .ty "tuple") (by rfl) Z.z_tuple (by decide +kernel) rfl) pa_nil))) pa_nil))))) (pw_or (pt_cmp (pc_eqI (pe_callB call_len (by rfl) Z.z_len (by decide +kernel) (pa_cons (pv 3) pa_nil)) pe_int) (nomark _)) (pw_or1 (pt_cmp (pc_eqI (pe_cal c__law_take (hr.mono (by first | decide | omega)) (by rfl) (pa_cons (pv 0) (pa_cons pe_int pa_nil))) pe_int) (nomark _)))))) (pss_one ps_break) pss_nil)
      (pss_cons (ps_set (i := 5) sc_law_bent.nd rfl (Or.inl rfl) (pe_cal c__law_place (hr.mono (by first | decide | omega)) (by rfl) (pa_cons (pv 0) (pa_cons (pe_callB call_len (by rfl) Z.z_len (by decide +kernel) (pa_cons (pv 3) pa_nil)) pa_nil))))
      (pss_cons (ps_expr (pe_bm PySem.F.plainAttrs_list PySem.F.slot_list_append PySem.F.type_list_append mt_appendN (pv 2) (pa_cons (pe_tupN (pa_cons (pv 3) (pa_cons (pv 5) pa_nil))) pa_nil)))
      (pss_one (ps_set (i := 3) sc_law_bent.nd rfl (Or.inl rfl) (pe_ix ix_seq (pv 3) (pv 5) (fun _ _ => rfl))))))))
      (Evl.pss_cut (ps_if (pt_val (pe_callB call_isD2 (by rfl) Z.z_isinstance (by decide +kernel) (pa_cons (pv 3) (pa_cons (pe_tupN (pa_cons (pe_bltn (v := .ty "list") (by rfl) Z.z_list (by decide +kernel) rfl) (pa_cons (pe_bltn (v := .ty "tuple") (by rfl) Z.z_tuple (by decide +kernel) rfl) pa_nil))) pa_nil)))) (pss_one (ps_set (i := 3) sc_law_bent.nd rfl (Or.inl rfl) (pe_cal c__law_bent_part (hr.mono (by first | decide | omega)) (by rfl) (pa_cons (pv 0) (pa_cons (pv 3) pa_nil))))) (pss_one (ps_set (i := 3) sc_law_bent.nd rfl (Or.inl rfl) (pe_cal c__law_bent_leaf (hr.mono (by first | decide | omega)) (by rfl) (pa_cons (pv 0) (pa_cons (pv 3) pa_nil))))))
      (pss_cons (ps_for PassesOwn.never rfl (pi_list (pe_revN (pv 2))) (pg_name (i := 6) sc_law_bent.nd rfl (Or.inl rfl)) (pss_cons (ps_set (i := 7) sc_law_bent.nd rfl (Or.inl rfl) (pe_callTy call_listN (by rfl) Z.z_list (by decide +kernel) (pa_cons (pe_ix ix_tup (pv 6) pe_int (fun _ _ => rfl)) pa_nil)))
      (pss_cons (ps_asg (pv 3) (pg_sub (pv 7) (pe_ix ix_tup (pv 6) pe_int (fun _ _ => rfl)) set_listN))
      (pss_one (ps_if (pt_val (pe_callB call_isD (by rfl) Z.z_isinstance (by decide +kernel) (pa_cons (pe_ix ix_tup (pv 6) pe_int (fun _ _ => rfl)) (pa_cons (pe_bltn (v := .ty "tuple") (by rfl) Z.z_tuple (by decide +kernel) rfl) pa_nil)))) (pss_one (ps_set (i := 3) sc_law_bent.nd rfl (Or.inl rfl) (pe_callTy call_tupleN (by rfl) Z.z_tuple (by decide +kernel) (pa_cons (pv 7) pa_nil)))) (pss_one (ps_set (i := 3) sc_law_bent.nd rfl (Or.inl rfl) (pv 7))))))))
      (pss_one (ps_ret (pv 3)))))))), ?_⟩
  refine ⟨Nat.zero_le _, fun l H1 n1 => ?_⟩
  obtain ⟨s1, gl, hl, fl⟩ := (Go.refl wd).loc n1
  refine ⟨_, rfl, ?_⟩
  -- down
  refine ⟨fun σ' H' => ∃ (G' : Hp) (ps : List Pth) (w : V) (e : PyData) (y4 y5 : Option V), σ' = [some (.ref S.a), some v, some (.ref l), some w, y4, y5, none, none] ∧ Go S G H G' H' ∧ G' l = none ∧ H' l = some (.lst (ps.map fun p => V.ref p.tp)) ∧ (∀ p ∈ ps, PthAt G' p ∧ szL p.ds ≤ szD d) ∧ ps.length ≤ 5 ∧ Da G' w e ∧ szD e ≤ szD d, ?_, ?_⟩
  · refine ⟨5, rfl, by omega, by omega, for_range (lo := 0) (n := 5) (fun i σ' H' => ∃ (G' : Hp) (ps : List Pth) (w : V) (e : PyData) (y4 y5 : Option V), σ' = [some (.ref S.a), some v, some (.ref l), some w, y4, y5, none, none] ∧ Go S G H G' H' ∧ G' l = none ∧ H' l = some (.lst (ps.map fun p => V.ref p.tp)) ∧ (∀ p ∈ ps, PthAt G' p ∧ szL p.ds ≤ szD d) ∧ ps.length = i ∧ Da G' w e ∧ szD e ≤ szD d)
      ⟨G, [], v, d, none, none, rfl, s1, gl, hl, (fun _ z => nomatch z), rfl, hd, Nat.le_refl _⟩ ?_ ?_⟩
    · rintro i σ' H2 hi ⟨G2, ps, w, e, y4, y5, rfl, s2, gl, hl, hp, hi2, he, ze⟩
      refine ⟨_, rfl, by show 2 ≤ sizeLine; decide, fun tp H3 n3 => ?_⟩
      have s3 := (s2.loc n3).1
      have hl3 := n3.else hl
      refine ⟨w, e, tp, rfl, n3.at, he.up s3.gh, _, rfl, ?_⟩
      rcases he.kind2 with ⟨_, e1, e2⟩ | ⟨a, xs, ds, t, rfl, ha, dx, rfl⟩
      · rw [e1, e2]
        exact iteT ⟨G2, ps, w, e, _, _, rfl, s3, gl, hl3, hp, by omega, he, ze⟩
      rw [sqD_lt]
      have hL := hasL_if ha
      have lx := dx.length
      have zz := sqD_sz t ds
      have ll := szL_len ds
      refine iteF ⟨_, rfl, _, _, rfl, (hL.up s3.gh).lenV, _, _, rfl, rfl, _, rfl, ite2 (fun c => iteT ⟨G2, ps, _, _, _, _, rfl, s3, gl, hl3, hp, by omega, he, ze⟩) (fun c => ?_)⟩
      have c : ¬ ((xs.length : Nat) : Int) = 0 := dec_not c
      refine ⟨_, rfl, S, G2, 4, rfl, s3.wd, by omega, fun u H4 u0 u1 s4 => ?_⟩
      have hl4 := s4.hh hl3 (s3.ns fl)
      have s4 := s3.trans s4
      refine ⟨_, _, rfl, rfl, _, rfl, ite2 (fun c => ⟨G2, ps, _, _, _, _, rfl, s4, gl, hl4, hp, by omega, he, ze⟩) (fun c => ?_)⟩
      refine ⟨_, rfl, _, rfl, _, _, rfl, (hL.up s4.gh).lenV, S, G2, _, rfl, s4.wd, by omega, by omega, fun m H5 m0 m1 s5 => ?_⟩
      have hl5 := s5.hh hl4 (s4.ns fl)
      have s5 := s4.trans s5
      refine ⟨_, rfl, .inl ⟨rfl, _, .of hl5⟩, _, rfl, _, rfl, by show 2 ≤ sizeLine; decide, fun tq H6 n6 => ?_⟩
      have hl6 := n6.else hl5
      have nlq : l ≠ tq := ne_of_none hl5 n6.fr
      obtain ⟨G6, s6, g6, k6, o6⟩ := s5.know n6
      have gl6 : G6 l = none := by rw [o6 _ nlq]; exact gl
      refine ⟨l, _, .ref tq, rfl, rfl, hl6, by rw [List.length_map]; exact lt (by omega), fun H7 e7 => ?_⟩
      have s7 := s6.mut gl6 fl e7
      obtain ⟨x, f1, f2, _⟩ := at_int (xs := xs) m0 m1
      obtain ⟨dc, f3, f4⟩ := dx.get f1
      have zc := szL_get f3
      refine ⟨_, rfl, _, rfl, rIx_of ((hL.up g6).up s7.gh) f2 ⟨G6, ps ++ [⟨tq, a, xs, ds, t, m.toNat⟩], x, dc, _, _, rfl, s7, gl6, ?_, fun p hp2 => ?_, by rw [List.length_append, hi2]; rfl, f4.up g6, by omega⟩⟩
      · rw [upd_at e7, List.map_append]
        rfl
      · rcases List.mem_append.mp hp2 with h | h
        · exact ⟨(hp p h).1.up g6, (hp p h).2⟩
        · rw [List.mem_singleton.mp h]
          refine ⟨⟨?_, g6 _ _ ha, dx.up g6, by show m.toNat < xs.length; omega⟩, by show szL ds ≤ szD d; omega⟩
          show G6 tq = some (.tup [.ref a, .int ((m.toNat : Nat) : Int)])
          rw [Int.toNat_of_nonneg m0]
          exact k6
    · rintro σ' H2 ⟨G2, ps, w, e, y4, y5, rfl, s2, gl, hl, hp, hi2, he, ze⟩
      exact ⟨G2, ps, w, e, y4, y5, rfl, s2, gl, hl, hp, by omega, he, ze⟩
  -- the part at the bottom
  rintro σ' H2 ⟨G2, ps, w, e, y4, y5, rfl, s2, gl, hl, hp, hi2, he, ze⟩
  refine ⟨fun σ' H' => ∃ (G' : Hp) (w : V) (e : PyData), σ' = [some (.ref S.a), some v, some (.ref l), some w, y4, y5, none, none] ∧ Go S G H G' H' ∧ Same G2 G' ∧ H' l = some (.lst (ps.map fun p => V.ref p.tp)) ∧ Da G' w e ∧ szD e ≤ 4 * szD d + 300, ?_, ?_⟩
  · refine ⟨_, rfl, by show 2 ≤ sizeLine; decide, fun tp H3 n3 => ?_⟩
    have s3 := (s2.loc n3).1
    have hl3 := n3.else hl
    refine ⟨w, e, tp, rfl, n3.at, he.up s3.gh, _, rfl, ?_⟩
    rcases he.kind2 with ⟨f, e1, e2⟩ | ⟨a, xs, ds, t, rfl, ha, dx, rfl⟩
    · rw [e1, e2]
      exact iteF ⟨_, rfl, _, rfl, S, G2, w, e, rfl, s3.wd, f, by omega, fun v' d' G4 H4 dv zv s4 => ⟨G4, v', d', rfl, s3.trans s4, s4.gg, s4.hh hl3 (s3.ns fl), dv, by omega⟩⟩
    · rw [sqD_lt]
      have zz := sqD_sz t ds
      exact iteT ⟨_, rfl, _, rfl, S, G2, a, xs, ds, t, rfl, s3.wd, ha, dx, by omega, fun v' d' G4 H4 dv zv s4 => ⟨G4, v', d', rfl, s3.trans s4, s4.gg, s4.hh hl3 (s3.ns fl), dv, by omega⟩⟩
  -- up again
  rintro σ' H3 ⟨G3, w3, e3, rfl, s3, g3, hl3, he3, ze3⟩
  refine ⟨_, rfl, l, _, rfl, .of hl3, fun r H4 n4 => ?_⟩
  obtain ⟨s4, gr, hr4, fr⟩ := s3.loc n4
  refine ⟨r, rfl, ⟨_, .of hr4⟩, for_list (K := K) (a := r) (xs := (ps.map fun p => V.ref p.tp).reverse) (fun i σ' H' => ∃ (G' : Hp) (w : V) (e : PyData) (y6 y7 : Option V), σ' = [some (.ref S.a), some v, some (.ref l), some w, y4, y5, y6, y7] ∧ Go S G H G' H' ∧ Same G3 G' ∧ H' r = some (.lst (ps.map fun p => V.ref p.tp).reverse) ∧ Da G' w e ∧ szD e ≤ 4 * szD d + 300 + i * (szD d + 1))
    ⟨G3, w3, e3, none, none, rfl, s4, Same.refl _, hr4, he3, by omega⟩ (fun i σ' H' _ ⟨_, _, _, _, _, _, _, _, h, _⟩ => .of h) ?_ ?_⟩
  · rintro i x σ' H5 hx ⟨G5, w5, e5, y6, y7, rfl, s5, g5, hr5, he5, ze5⟩
    have hm : x ∈ (ps.map fun p => V.ref p.tp) := List.mem_reverse.mp (List.mem_of_getElem? hx)
    obtain ⟨p, pm, rfl⟩ := List.mem_map.mp hm
    obtain ⟨pa, pz⟩ := hp p pm
    obtain ⟨q1, q2, q3, q4⟩ := pa.up (g3.trans g5)
    have hL := hasL_if q2
    refine ⟨_, rfl, p.tp, _, 0, .ref p.a, rfl, rfl, .of (s5.gh _ _ q1), rfl, p.a, p.xs, rfl, (hL.up s5.gh).len, fun m H6 n6 => ?_⟩
    obtain ⟨s6, gm, hm6, fm⟩ := s5.loc n6
    have hr6 := n6.else hr5
    have nrm : r ≠ m := ne_of_none hr5 n6.fr
    refine ⟨_, rfl, _, rfl, _, rfl, p.tp, _, 1, .int p.i, rfl, rfl, .of (s6.gh _ _ q1), rfl, m, p.xs, p.i, rfl, rfl, hm6, q4, fun H7 e7 => ?_⟩
    have s7 := s6.mut gm fm e7
    have hm7 := upd_at e7
    have hr7 := upd_else e7 hr6 nrm
    have dset : DaAll G5 (p.xs.set p.i w5) (p.ds.set p.i e5) := DaAll.set he5 _ q3
    have zset := szL_set p.i p.ds e5
    have zfin : 1 + szL (p.ds.set p.i e5) ≤ 4 * szD d + 300 + (i + 1) * (szD d + 1) := by
      rw [Nat.add_mul]
      omega
    have i3 : instB (sqD p.t p.ds) "tuple" = p.t := by cases p.t <;> first | exact ib_list_tuple p.ds | exact ib_tuple_tuple p.ds
    have hc : Da H7 (.ref p.a) (sqD p.t p.ds) := (Da.of_if q2 q3).up s7.gh
    refine ⟨_, rfl, p.tp, _, 0, .ref p.a, rfl, rfl, .of (s7.gh _ _ q1), rfl, _, _, _, rfl, hc, ok_tuple, _, rfl, ?_⟩
    rw [i3]
    refine ite2 (fun c => ?_) (fun c => ?_)
    · refine ⟨_, rfl, m, _, rfl, .of hm7, fun m2 H8 n8 => ?_⟩
      obtain ⟨G8, s8, g8, k8, _⟩ := s7.know n8
      exact ⟨G8, _, _, _, _, rfl, s8, g5.trans g8, n8.else hr7, .tup k8 (dset.up g8), zfin⟩
    · obtain ⟨G8, s8, g8, k8, _⟩ := s7.frz gm fm hm7
      exact ⟨_, rfl, G8, _, _, _, _, rfl, s8, g5.trans g8, hr7, .lst k8 (dset.up g8), zfin⟩
  · rintro σ' H5 ⟨G5, w5, e5, y6, y7, rfl, s5, g5, hr5, he5, ze5⟩
    rw [List.length_reverse, List.length_map] at ze5
    have : ps.length * (szD d + 1) ≤ 5 * (szD d + 1) := Nat.mul_le_mul_right _ hi2
    exact ⟨_, rfl, q w5 e5 G5 H5 he5 (by omega) s5⟩
theorem ok_judged (Z : Zs mg) (D : Ds K mg) (c__law_take : Cal P w K mg base "_law_take" 2 ["store", "many"] spTake) (c__law_value : Cal P w K mg base "_law_value" 6 ["store", "deep"] spValue) (c__law_bent : Cal P w K mg base "_law_bent" 7 ["store", "value"] spBent) : Cal P w K mg base "_law_judged" 8 ["store", "right"] spJudged := by
  refine Def.cal D.d_law_judged sc_law_judged (fun vs H Q E h => ?_) (fun f cdv A outer s H vs Q E hr h => ?_)
  · obtain ⟨S, G, v, d, rfl, wd, hd, sz, q⟩ := h
    rfl
  obtain ⟨S, G, v, d, rfl, wd, hd, sz, q⟩ := h
  refine ⟨_, (pss_cons (ps_set (i := 2) sc_law_judged.nd rfl (Or.inl rfl) (pe_cal c__law_take (hr.mono (by first | decide | omega)) (by rfl) (pa_cons (pv 0) (pa_cons pe_int pa_nil))))
      (pss_cons (ps_if (pt_cmp (pc_eqI (pv 2) pe_int) (nomark _)) (pss_one (ps_ret (pv 1))) pss_nil)
      (pss_cons (ps_if (pt_cmp (pc_eqI (pv 2) pe_int) (nomark _)) (pss_one (ps_ret (pe_cal c__law_value (hr.mono (by first | decide | omega)) (by rfl) (pa_cons (pv 0) (pa_cons (pe_op op_add pe_int (pe_cal c__law_take (hr.mono (by first | decide | omega)) (by rfl) (pa_cons (pv 0) (pa_cons pe_int pa_nil)))) pa_nil))))) pss_nil)
      (pss_cons (ps_set (i := 3) sc_law_judged.nd rfl (Or.inl rfl) (pe_cal c__law_bent (hr.mono (by first | decide | omega)) (by rfl) (pa_cons (pv 0) (pa_cons (pv 1) pa_nil))))
      (pss_cons (ps_if (pt_cmp (pc_eqI (pv 2) pe_int) (nomark _)) (pss_one (ps_set (i := 3) sc_law_judged.nd rfl (Or.inl rfl) (pe_cal c__law_bent (hr.mono (by first | decide | omega)) (by rfl) (pa_cons (pv 0) (pa_cons (pv 3) pa_nil))))) pss_nil)
      (pss_one (ps_ret (pv 3)))))))), ?_⟩
  refine ⟨_, rfl, S, G, 6, rfl, wd, by omega, fun d1 H1 p0 p1 s1 => ?_⟩
  refine ⟨_, rfl, _, _, rfl, rfl, _, rfl, ite2 (fun c => ⟨_, rfl, q v d G H1 hd (by omega) s1⟩) (fun c => ?_)⟩
  refine ⟨_, rfl, _, _, rfl, rfl, _, rfl, ite2 (fun c => ?_) (fun c => ?_)⟩
  · exact ⟨_, rfl, _, rfl, S, G, 6, rfl, s1.wd, by omega, fun d2 H2 r0 r1 s2 => ⟨_, _, rfl, rfl, S, G, _, rfl, (s1.trans s2).wd, by omega, fun v' d' G3 H3 dv zv s3 => q v' d' G3 H3 dv (by omega) ((s1.trans s2).trans s3)⟩⟩
  refine ⟨_, rfl, _, rfl, S, G, v, d, rfl, s1.wd, hd, by omega, fun v2 d2 G2 H2 dv2 zv2 s2 => ?_⟩
  have s2 := s1.trans s2
  refine ⟨_, rfl, _, _, rfl, rfl, _, rfl, ite2 (fun c => ?_) (fun c => ⟨_, rfl, q v2 d2 G2 H2 dv2 (by omega) s2⟩)⟩
  exact ⟨_, rfl, _, rfl, S, G2, v2, d2, rfl, s2.wd, dv2, by omega, fun v3 d3 G3 H3 dv3 zv3 s3 => ⟨_, rfl, q v3 d3 G3 H3 dv3 (by omega) (s2.trans s3)⟩⟩

theorem ok_near (Z : Zs mg) (D : Ds K mg) (c__law_take : Cal P w K mg base "_law_take" 2 ["store", "many"] spTake) (c__law_place : Cal P w K mg base "_law_place" 3 ["store", "size"] spPlace) (c__law_pick : Cal P w K mg base "_law_pick" 3 ["store", "things"] spPick) (c__law_drawn : Cal P w K mg base "_law_drawn" 3 ["store", "things", "many"] spDrawn) (c__law_move : Cal P w K mg base "_law_move" 4 ["store", "points"] spMove) (c__law_whole : Cal P w K mg base "_law_whole" 4 ["store"] spWhole)
    (c__law_bad_move : Cal P w K mg base "_law_bad_move" 6 ["store", "move"] spBadMove) (c__law_value : Cal P w K mg base "_law_value" 6 ["store", "deep"] spValue) (c__law_judged : Cal P w K mg base "_law_judged" 8 ["store", "right"] spJudged) : Cal P w K mg base "_law_near" 9 ["store"] spNear := by
  refine Def.cal D.d_law_near sc_law_near (fun vs H Q E h => ?_) (fun f cdv A outer s H vs Q E hr h => ?_)
  · obtain ⟨S, G, rfl, wd, q⟩ := h
    rfl
  obtain ⟨S, G, rfl, wd, q⟩ := h
  refine ⟨_, (pss_cons (ps_set (i := 1) sc_law_near.nd rfl (Or.inl rfl) (pe_cal c__law_take (hr.mono (by first | decide | omega)) (by rfl) (pa_cons (pv 0) (pa_cons pe_int pa_nil))))
      (pss_cons (ps_set (i := 2) sc_law_near.nd rfl (Or.inl rfl) (pe_cal c__law_move (hr.mono (by first | decide | omega)) (by rfl) (pa_cons (pv 0) (pa_cons (pe_cal c__law_place (hr.mono (by first | decide | omega)) (by rfl) (pa_cons (pv 0) (pa_cons pe_int pa_nil))) pa_nil))))
      (pss_cons (ps_if (pt_cmp (pc_eqI (pv 1) pe_int) (nomark _)) (pss_one (ps_ret (pv 2))) pss_nil)
      (pss_cons (ps_if (pt_cmp (pc_lt (pv 1) pe_int) (nomark _)) (pss_one (ps_ret (pe_cal c__law_bad_move (hr.mono (by first | decide | omega)) (by rfl) (pa_cons (pv 0) (pa_cons (pv 2) pa_nil))))) pss_nil)
      (pss_cons (ps_if (pt_cmp (pc_eqI (pv 1) pe_int) (nomark _)) (pss_cons (ps_set (i := 3) sc_law_near.nd rfl (Or.inr rfl) (pe_op op_add pe_int (pe_cal c__law_place (hr.mono (by first | decide | omega)) (by rfl) (pa_cons (pv 0) (pa_cons pe_int pa_nil)))))
      (pss_one (ps_ret (pe_callTy call_tupleN (by rfl) Z.z_tuple (by decide +kernel) (pa_cons (pe_cal c__law_drawn (hr.mono (by first | decide | omega)) (by rfl) (pa_cons (pv 0) (pa_cons (pe_listRgN rfl (by rfl) Z.z_list (prg_1 (by rfl) Z.z_range (pv 3))) (pa_cons (pv 3) pa_nil)))) pa_nil))))) pss_nil)
      (pss_cons (ps_if (pt_cmp (pc_eqI (pv 1) pe_int) (nomark _)) (pss_one (ps_ret (pe_cal c__law_value (hr.mono (by first | decide | omega)) (by rfl) (pa_cons (pv 0) (pa_cons (pe_cal c__law_take (hr.mono (by first | decide | omega)) (by rfl) (pa_cons (pv 0) (pa_cons pe_int pa_nil))) pa_nil))))) pss_nil)
      (pss_cons (ps_if (pt_cmp (pc_eqI (pv 1) pe_int) (nomark _)) (pss_cons (ps_set (i := 4) sc_law_near.nd rfl (Or.inr rfl) (pe_cal c__law_pick (hr.mono (by first | decide | omega)) (by rfl) (pa_cons (pv 0) (pa_cons (pe_lstN (pa_cons pe_int (pa_cons (pe_un un_neg pe_int) (pa_cons (pe_un un_neg (pe_callB call_len_seq (by rfl) Z.z_len (by decide +kernel) (pa_cons (pv 2) pa_nil))) (pa_cons pe_int (pa_cons (pe_op op_fdiv (pe_cal c__law_whole (hr.mono (by first | decide | omega)) (by rfl) (pa_cons (pv 0) pa_nil)) pe_int) pa_nil)))))) pa_nil))))
      (pss_cons (ps_setLc (i := 5) (own := [("p", 6)]) (g := gName 6) (tt := tYes) (by rfl) sc_law_near.nd rfl rfl (sw_true rfl rfl rfl (by decide +kernel)) (pi_tup (pv 2)) (blkOk_by (N := ["store", "pick", "move", "many", "shift", "image", "p", "k"]) (sc := defScope s_law_near) (by decide +kernel)) (fun _ _ _ _ _ => pg_name (i := 6) sc_law_near.nd rfl (Or.inl rfl)) (fun _ _ _ _ _ => pts_nil) (fun _ _ _ _ _ => (pe_op op_add (pv 6) (pv 4))))
      (Evl.pss_cut (ps_if (PW.pt (pw_and (pt_cmp (pc_gt (pe_callB call_len_seq (by rfl) Z.z_len (by decide +kernel) (pa_cons (pv 2) pa_nil)) pe_int) (nomark _)) (pw_and1 (pt_cmp (pc_eqI (pe_cal c__law_take (hr.mono (by first | decide | omega)) (by rfl) (pa_cons (pv 0) (pa_cons pe_int pa_nil))) pe_int) (nomark _))))) (pss_cons (ps_set (i := 5) sc_law_near.nd rfl (Or.inl rfl) (pe_callTy call_listN (by rfl) Z.z_list (by decide +kernel) (pa_cons (pv 2) pa_nil)))
      (pss_one (ps_asg (pe_cal c__law_whole (hr.mono (by first | decide | omega)) (by rfl) (pa_cons (pv 0) pa_nil)) (pg_sub (pv 5) (pe_cal c__law_place (hr.mono (by first | decide | omega)) (by rfl) (pa_cons (pv 0) (pa_cons (pe_callB call_len_seq (by rfl) Z.z_len (by decide +kernel) (pa_cons (pv 2) pa_nil)) pa_nil))) set_listN)))) pss_nil)
      (pss_one (ps_ret (pe_callTy call_tupleN (by rfl) Z.z_tuple (by decide +kernel) (pa_cons (pv 5) pa_nil))))))) pss_nil)
      (pss_cons (ps_if (pt_cmp (pc_eqI (pv 1) pe_int) (nomark _)) (pss_cons (ps_if (pt_cmp (pc_eqI (pe_cal c__law_take (hr.mono (by first | decide | omega)) (by rfl) (pa_cons (pv 0) (pa_cons pe_int pa_nil))) pe_int) (nomark _)) (pss_one (ps_ret (pe_op op_repA (pe_tupN (pa_cons (pe_cal c__law_take (hr.mono (by first | decide | omega)) (by rfl) (pa_cons (pv 0) (pa_cons pe_int pa_nil))) pa_nil)) pe_int))) pss_nil)
      (pss_cons (ps_set (i := 3) sc_law_near.nd rfl (Or.inr rfl) (pe_cal c__law_place (hr.mono (by first | decide | omega)) (by rfl) (pa_cons (pv 0) (pa_cons pe_int pa_nil))))
      (pss_cons (ps_set (i := 5) sc_law_near.nd rfl (Or.inl rfl) (pe_callTy call_tupleN (by rfl) Z.z_tuple (by decide +kernel) (pa_cons (pe_lc (own := [("k", 7)]) (g := gName 7) (tt := tYes) (by rfl) sc_law_near.nd (pi_range1 (by rfl) Z.z_range (pa_cons (pv 3) pa_nil)) (blkOk_by (N := ["store", "pick", "move", "many", "shift", "image", "p", "k"]) (sc := defScope s_law_near) (by decide +kernel)) (fun _ _ _ _ _ => pg_name (i := 7) sc_law_near.nd rfl (Or.inl rfl)) (fun _ _ _ _ _ => pts_nil) (fun _ _ _ _ _ => (pe_cal c__law_place (hr.mono (by first | decide | omega)) (by rfl) (pa_cons (pv 0) (pa_cons (pe_callB (call_max2 rfl) (by rfl) Z.z_max (by decide +kernel) (pa_cons pe_int (pa_cons (pv 3) pa_nil))) pa_nil))))) pa_nil)))
      (pss_one (ps_ret (pe_op op_repA (pv 5) (pe_op op_add pe_int (pe_cal c__law_pick (hr.mono (by first | decide | omega)) (by rfl) (pa_cons (pv 0) (pa_cons (pe_lstN (pa_cons pe_int (pa_cons pe_int (pa_cons pe_int (pa_cons pe_int (pa_cons (pe_cal c__law_take (hr.mono (by first | decide | omega)) (by rfl) (pa_cons (pv 0) (pa_cons pe_int pa_nil))) pa_nil)))))) pa_nil)))))))))) pss_nil)
      (pss_one (ps_ret (pe_cal c__law_judged (hr.mono (by first | decide | omega)) (by rfl) (pa_cons (pv 0) (pa_cons (pv 2) pa_nil))))))))))))), ?_⟩
  refine ⟨_, rfl, S, G, 8, rfl, wd, by omega, fun d1 H1 p0 p1 s1 => ?_⟩
  refine ⟨_, rfl, _, rfl, S, G, 13, rfl, s1.wd, by omega, by omega, fun n H2 n0 n1 s2 => ?_⟩
  have s2 := s1.trans s2
  refine ⟨S, G, n, rfl, s2.wd, n0, by omega, fun a ns G3 H3 s3 ha mv => ?_⟩
  have s3 := s2.trans s3
  have ln := mv.len
  have hda := Da.ints ha
  have hsz := sz_ints ns
  refine ⟨_, rfl, _, _, rfl, rfl, _, rfl, ite2 (fun c => ⟨_, rfl, q _ _ G3 H3 hda (by omega) s3⟩) (fun c => ?_)⟩
  refine ⟨_, rfl, _, _, rfl, rfl, _, rfl, ite2 (fun c => ?_) (fun c => ?_)⟩
  · exact ⟨_, rfl, _, rfl, S, G3, a, ns, n, rfl, s3.wd, ha, mv, n0, by omega, fun v d G4 H4 s4 dv zv => q v d G4 H4 dv (by omega) (s3.trans s4)⟩
  refine ⟨_, rfl, _, _, rfl, rfl, _, rfl, ite2 (fun c => ?_) (fun c => ?_)⟩
  · refine ⟨_, rfl, S, G3, 28, rfl, s3.wd, by omega, by omega, fun m H4 m0 m1 s4 => ⟨_, _, rfl, rfl, ?_⟩⟩
    have s4 := s3.trans s4
    refine ⟨_, rfl, _, rfl, 13 + m, rfl, .of_le (by decide) (by omega) (by decide) (by omega), fun r H5 n5 => ?_⟩
    obtain ⟨s5, gr, hr, fr⟩ := s4.loc n5
    rw [rgV_rngI] at hr
    refine ⟨_, rfl, S, G3, r, _, 13 + m, rfl, s5.wd, .inl hr, by rw [List.length_map, rngI_len]; omega, by omega, by omega, fun l ys rest H6 s6 gl fl hl pm0 hy => ?_⟩
    obtain ⟨rs, ms, rfl, rfl, pm⟩ := perm_ints pm0
    rw [List.length_map, List.length_map, rngI_len] at hy
    refine ⟨l, _, rfl, .of hl, fun p H7 n7 => ?_⟩
    obtain ⟨G7, s7, g7, k7, _⟩ := (s5.trans s6).know n7
    exact q _ _ G7 H7 (.ints k7) (by rw [sz_ints]; omega) s7
  refine ⟨_, rfl, _, _, rfl, rfl, _, rfl, ite2 (fun c => ?_) (fun c => ?_)⟩
  · exact ⟨_, rfl, _, rfl, S, G3, 7, rfl, s3.wd, by omega, fun d2 H4 r0 r1 s4 => ⟨S, G3, _, rfl, (s3.trans s4).wd, by omega, fun v' d' G5 H5 dv zv s5 => q v' d' G5 H5 dv (by omega) ((s3.trans s4).trans s5)⟩⟩
  refine ⟨_, rfl, _, _, rfl, rfl, _, rfl, ite2 (fun c => ?_) (fun c => ?_)⟩
  · refine ⟨_, rfl, _, rfl, _, rfl, a, _, rfl, .inr (.of (s3.gh _ _ ha)), _, rfl, _, rfl, S, G3, rfl, s3.wd, fun w H4 s4 => ⟨_, _, rfl, rfl, ⟨by omega, by omega⟩, by show 5 ≤ sizeLine; decide, fun p H5 n5 => ?_⟩⟩
    obtain ⟨s5, gp, hp, fp⟩ := (s3.trans s4).loc n5
    refine ⟨S, G3, _, _, rfl, s5.wd, .inl ⟨p, rfl, s5.ns fp, hp⟩, by show 0 < 5; decide, by show 5 < 1000000; decide, fun x H6 m s6 => ?_⟩
    obtain ⟨sh, rfl⟩ := all_int (by rfl) m
    have s6 := s5.trans s6
    refine ⟨_, rfl, a, rfl, ⟨_, .of (s6.gh _ _ ha)⟩, fun e he => ?_⟩
    refine lc_tup (xs := ns.map V.int) (fun i H' => Go S G H G3 H' ∧ G3 e = none ∧ H e = none ∧ ∃ zs : List Int, H' e = some (.lst (zs.map V.int)) ∧ zs.length = i) ?_ ?_ ?_ ?_
    · obtain ⟨s7, ge, h7, fe⟩ := s6.loc (p := e) (o := .lst []) ⟨he, rfl⟩
      exact ⟨s7, ge, fe, [], h7, rfl⟩
    · rintro i H7 hi ⟨s7, _⟩
      exact .of (s7.gh _ _ ha)
    · rintro i x H7 hx ⟨s7, ge, fe, zs, h7, rfl⟩
      have hi := (List.getElem?_eq_some_iff.mp hx).1
      rw [List.length_map] at hi
      obtain ⟨v, rfl⟩ : ∃ v, x = V.int v := by
        obtain ⟨v, _, e⟩ := List.mem_map.mp (List.mem_of_getElem? hx)
        exact ⟨v, e.symm⟩
      refine ⟨rfl, yesT ⟨_, rfl, _, rfl, _, _, rfl, rfl, _, h7, by rw [List.length_map]; exact lt (by omega), s7.mut ge fe rfl, ge, fe, zs ++ [v + sh], ?_, by rw [List.length_append]; rfl⟩⟩
      rw [upd_same, List.map_append]
      rfl
    · rintro H7 ⟨s7, ge, fe, zs, h7, hz⟩
      rw [List.length_map] at hz
      refine ⟨fun σ' H' => ∃ (e : Addr) (zs : List Int), σ' = [some (.ref S.a), some (.int d1), some (.ref a), none, some (.int sh), some (.ref e), none, none] ∧ Go S G H G3 H' ∧ H' e = some (.lst (zs.map V.int)) ∧ zs.length ≤ 20, ?_, ?_⟩
      · refine ⟨_, rfl, a, _, rfl, .inr (.of (s7.gh _ _ ha)), _, _, rfl, rfl, _, rfl, ite2 (fun c => ?_) (fun c => iteF ⟨e, zs, rfl, s7, h7, by omega⟩)⟩
        have c : (0 : Int) < (((ns.map V.int).length : Nat) : Int) := dec_of c
        rw [List.length_map] at c
        refine ⟨_, rfl, S, G3, 2, rfl, s7.wd, by omega, fun d2 H8 r0 r1 s8 => ⟨_, _, rfl, rfl, _, rfl, ite2 (fun c => ?_) (fun c => ⟨e, zs, rfl, s7.trans s8, s8.hh h7 (s7.ns fe), by omega⟩)⟩⟩
        have s8 := s7.trans s8
        refine ⟨_, rfl, a, _, rfl, .inr (.of (s8.gh _ _ ha)), fun l H9 n9 => ?_⟩
        obtain ⟨s9, gl, hl, fl⟩ := s8.loc n9
        refine ⟨_, rfl, S, G3, rfl, s9.wd, fun w2 HA sA => ?_⟩
        have hlA := sA.hh hl (s9.ns fl)
        have sA := s9.trans sA
        refine ⟨_, rfl, _, rfl, _, rfl, a, _, rfl, .inr (.of (sA.gh _ _ ha)), S, G3, _, rfl, sA.wd, by rw [List.length_map]; omega, by rw [List.length_map]; omega, fun k HB k0 k1 sB => ?_⟩
        have hlB := sB.hh hlA (sA.ns fl)
        have sB := sA.trans sB
        rw [List.length_map] at k1
        refine ⟨l, _, k.toNat, rfl, by rw [Int.toNat_of_nonneg k0], hlB, by rw [List.length_map]; omega, fun HC eC => ?_⟩
        refine ⟨l, ns.set k.toNat w2, rfl, sB.mut gl fl eC, ?_, by rw [List.length_set]; omega⟩
        rw [upd_at eC, List.map_set]
      · rintro σ' H8 ⟨e, zs, rfl, s8, h8, hz⟩
        refine ⟨_, rfl, e, _, rfl, .of h8, fun p H9 n9 => ?_⟩
        obtain ⟨G9, s9, g9, k9, _⟩ := s8.know n9
        exact q _ _ G9 H9 (.ints k9) (by rw [sz_ints]; omega) s9
  refine ⟨_, rfl, _, _, rfl, rfl, _, rfl, ite2 (fun c => ?_) (fun c => ?_)⟩
  · refine ⟨_, rfl, S, G3, 256, rfl, s3.wd, by omega, fun d2 H4 r0 r1 s4 => ⟨_, _, rfl, rfl, _, rfl, ite2 (fun c => ?_) (fun c => ?_)⟩⟩
    · have s4 := s3.trans s4
      refine ⟨_, rfl, S, G3, 2, rfl, s4.wd, by omega, fun d3 H5 t0 t1 s5 => ⟨by show 1 ≤ sizeLine; decide, fun p H6 n6 => ?_⟩⟩
      obtain ⟨s6, gp, hp, fp⟩ := (s4.trans s5).loc n6
      refine ⟨p, 200000, _, rfl, rfl, .of hp, by omega, by omega, by show 1 * 200000 ≤ 1000000; decide, (fun h => h.elim (fun z => by cases z) (fun z => by omega)), fun _ p2 H7 n7 => ?_⟩
      obtain ⟨G7, s7, g7, k7, _⟩ := s6.know n7
      rw [show ([V.int d3] : List V) = [d3].map V.int from rfl, flat_rep] at k7
      refine q _ _ G7 H7 (.ints k7) ?_ s7
      rw [sz_ints, len_rep]
      show 1 + 200000 * 1 ≤ 210000
      omega
    · have s4 := s3.trans s4
      refine ⟨_, rfl, S, G3, 14, rfl, s4.wd, by omega, by omega, fun m H5 m0 m1 s5 => ?_⟩
      have s5 := s4.trans s5
      refine ⟨_, rfl, m, rfl, by omega, by omega, fun e he => ?_⟩
      refine lc_range (lo := 0) (n := m.toNat) (fun i H' => Go S G H G3 H' ∧ G3 e = none ∧ H e = none ∧ ∃ zs : List Int, H' e = some (.lst (zs.map V.int)) ∧ zs.length = i) ?_ ?_ ?_
      · obtain ⟨s7, ge, h7, fe⟩ := s5.loc (p := e) (o := .lst []) ⟨he, rfl⟩
        exact ⟨s7, ge, fe, [], h7, rfl⟩
      · rintro i H7 hi ⟨s7, ge, fe, zs, h7, rfl⟩
        refine ⟨rfl, yesT ⟨_, rfl, _, rfl, _, _, rfl, S, G3, _, rfl, s7.wd, by split <;> omega, by split <;> omega, fun k H8 k0 k1 s8 => ?_⟩⟩
        have h8 := s8.hh h7 (s7.ns fe)
        refine ⟨_, h8, by rw [List.length_map]; exact lt (by omega), (s7.trans s8).mut ge fe rfl, ge, fe, zs ++ [k], ?_, by rw [List.length_append]; rfl⟩
        rw [upd_same, List.map_append]
        rfl
      · rintro H7 ⟨s7, ge, fe, zs, h7, hz⟩
        refine ⟨e, _, rfl, .of h7, fun p H8 n8 => ?_⟩
        obtain ⟨G8, s8, g8, k8, _⟩ := s7.know n8
        refine ⟨_, rfl, _, rfl, _, rfl, S, G8, 200, rfl, s8.wd, by omega, fun u H9 u0 u1 s9 => ⟨by show 5 ≤ sizeLine; decide, fun pl HA nA => ?_⟩⟩
        obtain ⟨sA, gA, hA, fA⟩ := (s8.trans s9).loc nA
        refine ⟨S, G8, _, _, rfl, sA.wd, .inl ⟨pl, rfl, sA.ns fA, hA⟩, by show 0 < 5; decide, by show 5 < 1000000; decide, fun x HB mx sB => ?_⟩
        have sB := sA.trans sB
        obtain ⟨w, rfl, w0, w1⟩ : ∃ w, x = V.int w ∧ 0 ≤ w ∧ w < 200 := by
          simp only [List.mem_cons, List.not_mem_nil, or_false] at mx
          rcases mx with h | h | h | h | h <;> subst h
          · exact ⟨0, rfl, by omega, by omega⟩
          · exact ⟨0, rfl, by omega, by omega⟩
          · exact ⟨0, rfl, by omega, by omega⟩
          · exact ⟨1, rfl, by omega, by omega⟩
          · exact ⟨u, rfl, u0, by omega⟩
        have hzl : zs.length * (1 + w).toNat ≤ 20 * 200 := Nat.mul_le_mul (by omega) (by omega)
        refine ⟨_, _, rfl, rfl, p, 1 + w, _, rfl, rfl, .of (sB.gh _ _ k8), by omega, by omega, by rw [List.length_map]; omega, fun _ => q _ _ G8 HB (.ints k8) (by rw [sz_ints]; omega) sB, fun _ p2 HC nC => ?_⟩
        obtain ⟨GC, sC, gC, kC, _⟩ := sB.know nC
        rw [flat_rep] at kC
        refine q _ _ GC HC (.ints kC) ?_ sC
        rw [sz_ints, len_rep, Nat.mul_comm]
        omega
  · exact ⟨_, rfl, _, rfl, S, G3, _, _, rfl, s3.wd, hda, by omega, fun v' d' G4 H4 dv zv s4 => q v' d' G4 H4 dv (by omega) (s3.trans s4)⟩

theorem ok_store (Z : Zs mg) (D : Ds K mg) : Cal P w K mg base "_law_store" 1 ["script"] (spStore K) := by
  refine Def.cal D.d_law_store sc_law_store (fun vs H Q E h => ?_) (fun f cdv A outer s H vs Q E hr h => ?_)
  · obtain ⟨a, ns, rfl, hS, hn, q⟩ := h
    rfl
  obtain ⟨a, ns, rfl, hS, hn, q⟩ := h
  refine ⟨_, (pss_one (ps_ret (pe_lstN (pa_cons (pe_lc (own := [("cell", 1)]) (g := gName 1) (tt := tYes) (by rfl) sc_law_store.nd (pi_list (pe_slice sl_listN (pv 0) po_none (po_some pe_int))) (blkOk_by (N := ["script", "cell"]) (sc := defScope s_law_store) (by decide +kernel)) (fun _ _ _ _ _ => pg_name (i := 1) sc_law_store.nd rfl (Or.inl rfl)) (fun _ _ _ _ _ => pts_nil) (fun _ _ _ _ _ => (pe_callTy call_int1 (by rfl) Z.z_int (by decide +kernel) (pa_cons (pv 1) pa_nil)))) (pa_cons pe_int (pa_cons pe_int (pa_cons pe_int (pa_cons pe_int (pa_cons pe_int (pa_cons pe_int pa_nil)))))))))), ?_⟩
  refine ⟨_, rfl, _, rfl, a, _, rfl, hS, fun p H1 n1 => ?_⟩
  have h1 := n1.at
  have ec : cutV (ns.map V.int) none (some 63) = ns.map V.int := cut_all (n := 63) (by rw [List.length_map]; exact hn)
  rw [ec] at h1
  refine ⟨p, rfl, ⟨_, .of h1⟩, fun c hc => ?_⟩
  refine lc_list (xs := ns.map V.int) (fun i H' => Same H H' ∧ H c = none ∧ H' p = some (.lst (ns.map V.int)) ∧ c ≠ p ∧ H' c = some (.lst ((ns.take i).map V.int))) ?_ ?_ ?_ ?_
  · have nc : c ≠ p := (ne_of_none h1 hc).symm
    exact ⟨n1.same.trans (New.same (o := .lst []) ⟨hc, rfl⟩), n1.same.free hc, by rw [upd_ne nc.symm]; exact h1, nc, upd_same⟩
  · rintro i H' _ ⟨_, _, hp, _⟩
    exact .of hp
  · rintro i x H2 hx ⟨g, fc, hp, nc, hc2⟩
    have hi := (List.getElem?_eq_some_iff.mp hx).1
    rw [List.length_map] at hi
    have ex : x = V.int ns[i] := by
      rw [List.getElem?_map, List.getElem?_eq_getElem hi] at hx
      exact (Option.some.inj hx).symm
    subst ex
    refine ⟨rfl, yesT ⟨_, rfl, .inl ⟨_, rfl, _, hc2, by rw [List.length_map, List.length_take]; exact lt (by omega), fun b o h => ?_, fc, by rw [upd_ne nc.symm]; exact hp, nc, ?_⟩⟩⟩
    · rw [upd_ne (ne_of_none h fc)]
      exact g _ _ h
    · rw [upd_same, List.take_add_one, List.getElem?_eq_getElem hi, List.map_append]
      rfl
  · rintro H2 ⟨g, fc, hp, nc, hc2⟩
    rw [List.length_map, List.take_length] at hc2
    refine ⟨by show 7 ≤ sizeLine; decide, fun s H3 n3 => ?_⟩
    exact q ⟨s, c, ns⟩ H3 ⟨g.trans n3.same, g.free n3.fr, 0, 0, 0, 0, 0, 0, n3.at, n3.else hc2, Int.le_refl _⟩
theorem ok_answers (Z : Zs mg) (D : Ds K mg) (c__law_counted : Cal P w K mg base "_law_counted" 2 ["value"] spCounted) (c__law_frozen : Cal P w K mg base "_law_frozen" 9 ["value", "deep"] (spFrozen 9)) (c__law_same : Cal P w K mg base "_law_same" 2 ["actual", "due"] spSame) (c_is_move : Cal P w K mg base "is_move" 4 ["value"] spIsMove) : Cal P w K mg base "_law_answers" 10 ["value"] spAnswers := by
  refine Def.cal D.d_law_answers sc_law_answers (fun vs H Q E h => ?_) (fun f cdv A outer s H vs Q E hr h => ?_)
  · obtain ⟨G, v, d, rfl, gh, hd, sz, q⟩ := h
    rfl
  obtain ⟨G, v, d, rfl, gh, hd, sz, q⟩ := h
  refine ⟨_, (pss_cons (ps_set (i := 1) sc_law_answers.nd rfl (Or.inl rfl) (pe_cal c__law_counted (hr.mono (by first | decide | omega)) (by rfl) (pa_cons (pv 0) pa_nil)))
      (pss_cons (ps_set (i := 2) sc_law_answers.nd rfl (Or.inl rfl) (pe_cal c__law_frozen (hr.mono (by first | decide | omega)) (by rfl) (pa_cons (pv 0) (pa_cons pe_int pa_nil))))
      (pss_cons (ps_if (pt_not (pt_val (pe_cal c__law_same (hr.mono (by first | decide | omega)) (by rfl) (pa_cons (pe_cal c_is_move (hr.mono (by first | decide | omega)) (by rfl) (pa_cons (pv 0) pa_nil)) (pa_cons (pv 1) pa_nil))))) (pss_one (ps_ret pe_bl)) pss_nil)
      (pss_cons (ps_if (PW.pt (pw_and (pt_val (pe_callB call_isD (by rfl) Z.z_isinstance (by decide +kernel) (pa_cons (pv 0) (pa_cons (pe_bltn (v := .ty "tuple") (by rfl) Z.z_tuple (by decide +kernel) rfl) pa_nil)))) (pw_and1 (pt_not (pt_val (pe_cal c__law_same (hr.mono (by first | decide | omega)) (by rfl) (pa_cons (pe_cal c_is_move (hr.mono (by first | decide | omega)) (by rfl) (pa_cons (pe_callTy call_listN (by rfl) Z.z_list (by decide +kernel) (pa_cons (pv 0) pa_nil)) pa_nil)) (pa_cons pe_bl pa_nil)))))))) (pss_one (ps_ret pe_bl)) pss_nil)
      (pss_one (ps_ret (pe_and (pe_cal c__law_same (hr.mono (by first | decide | omega)) (by rfl) (pa_cons (pe_cal c_is_move (hr.mono (by first | decide | omega)) (by rfl) (pa_cons (pv 0) pa_nil)) (pa_cons (pv 1) pa_nil))) (pe_one (pe_cal c__law_same (hr.mono (by first | decide | omega)) (by rfl) (pa_cons (pe_cal c__law_frozen (hr.mono (by first | decide | omega)) (by rfl) (pa_cons (pv 0) (pa_cons pe_int pa_nil))) (pa_cons (pv 2) pa_nil))))))))))), ?_⟩
  have fz := frz_sz 8 d
  refine ⟨_, rfl, G, v, d, rfl, gh, hd, by omega, fun H1 g1 => ?_⟩
  have gh1 := gh.trans g1
  refine ⟨_, rfl, G, v, d, 8, rfl, gh1, hd, by omega, by omega, by omega, fun v2 G2 H2 s2 hb => ?_⟩
  have hb : Da G2 v2 (frz 8 d) := hb
  have hd2 := hd.up s2.gg
  have sb : ∀ (G' : Hp) (b : Bool), sameD (.bool b) (.bool b) = true := fun _ b => decide_eq_true rfl
  refine ⟨_, rfl, G2, v, d, rfl, s2.gh, hd2, by omega, fun H3 g3 => ⟨_, rfl, G2, _, _, _, _, rfl, s2.gh.trans g3, .bl _, .bl _, by show 1 ≤ 1900000; decide, by show 1 ≤ 1900000; decide, fun H4 g4 => ?_⟩⟩
  have gh4 := s2.gh.trans (g3.trans g4)
  have all := g1.trans (s2.hh.trans (g3.trans g4))
  rw [mv_cnt]
  refine ⟨_, rfl, iteBF (by rw [sb G2]; rfl) ?_⟩
  have last : ∀ H5, Same H4 H5 → (tRet (tAndV (tCall spSame [] E0 (tCons (tCall spIsMove [] E0 (tCons (tVar 0) tNil)) (tCons (tVar 1) tNil))) (tCall spSame [] E0 (tCons (tCall (spFrozen 9) [] E0 (tCons (tVar 0) (tCons (tC (V.int 8)) tNil))) (tCons (tVar 2) tNil))))) { nx := fun _ H' => Q .non H', rt := Q } [some v, some (.bl (cntD d)), some v2] H5 := fun H5 g5 => by
    have gh5 := gh4.trans g5
    refine ⟨_, rfl, G2, v, d, rfl, gh5, hd2, by omega, fun H6 g6 => ⟨_, rfl, G2, _, _, _, _, rfl, gh5.trans g6, .bl _, .bl _, by show 1 ≤ 1900000; decide, by show 1 ≤ 1900000; decide, fun H7 g7 => ?_⟩⟩
    rw [mv_cnt, sb G2]
    refine ⟨_, rfl, iteT ⟨_, rfl, G2, v, d, 8, rfl, gh5.trans (g6.trans g7), hd2, by omega, by omega, by omega, fun v8 G8 H8 s8 h8 => ?_⟩⟩
    have h8 : Da G8 v8 (frz 8 d) := h8
    refine ⟨_, rfl, G8, _, _, _, _, rfl, s8.gh, h8, hb.up s8.gg, by omega, by omega, fun H9 g9 => ?_⟩
    rw [sameD_self _ _ hb]
    exact q H9 (all.trans (g5.trans (g6.trans (g7.trans (s8.hh.trans g9)))))
  refine ⟨_, rfl, v, d, "tuple", rfl, hd2.up gh4, ok_tuple, _, rfl, ?_⟩
  rcases hd2.kind2 with ⟨_, e1, e2⟩ | ⟨a, xs, ds, t, rfl, ha, dx, rfl⟩
  · rw [e2]
    exact iteF (last H4 (.refl _))
  have i3 : instB (sqD t ds) "tuple" = t := by cases t <;> first | exact ib_list_tuple ds | exact ib_tuple_tuple ds
  rw [i3]
  refine ite2 (fun c => ?_) (fun c => iteF (last H4 (.refl _)))
  have zz := sqD_sz t ds
  refine ⟨_, rfl, a, xs, rfl, ((hasL_if ha).up gh4).len, fun l H5 n5 => ?_⟩
  obtain ⟨G5, s5, k5, _⟩ := Stq.know gh4 n5
  refine ⟨G5, .ref l, .list ds, rfl, s5.gh, .lst k5 (dx.up s5.gg), by show 1 + szL ds ≤ 1000000; omega, fun H6 g6 => ⟨G5, _, _, _, _, rfl, s5.gh.trans g6, .bl _, .bl _, by show 1 ≤ 1900000; decide, by show 1 ≤ 1900000; decide, fun H7 g7 => ?_⟩⟩
  exact ⟨_, rfl, iteF (last H7 (n5.same.trans (g6.trans g7)))⟩
theorem ok_law {f : Addr} {fd : FuncData} (Z : Zs mg) (D : Ds K mg) (F : Fun K "law" "law" s_law f fd) (c__law_store : Cal P w K mg base "_law_store" 1 ["script"] (spStore K)) (c__law_place : Cal P w K mg base "_law_place" 3 ["store", "size"] spPlace) (c__law_take : Cal P w K mg base "_law_take" 2 ["store", "many"] spTake) (c__law_move : Cal P w K mg base "_law_move" 4 ["store", "points"] spMove) (c__law_near : Cal P w K mg base "_law_near" 9 ["store"] spNear) (c__law_answers : Cal P w K mg base "_law_answers" 10 ["value"] spAnswers)
    (c__law_same : Cal P w K mg base "_law_same" 2 ["actual", "due"] spSame) (c_is_move : Cal P w K mg base "is_move" 4 ["value"] spIsMove) (c__law_counted : Cal P w K mg base "_law_counted" 2 ["value"] spCounted) (c__law_drawn : Cal P w K mg base "_law_drawn" 3 ["store", "things", "many"] spDrawn) : FnOk P w K mg base CX0 11 f fd ["script"] (spLaw K) := by
  refine F.ok sc_law (fun vs H Q E h => ?_) (fun cdv A outer s H vs Q E hr h => ?_)
  · obtain ⟨a, ns, rfl, _⟩ := h
    rfl
  obtain ⟨a, ns, rfl, hS, hn, q⟩ := h
  refine ⟨_, (pss_cons (ps_set (i := 1) sc_law.nd rfl (Or.inl rfl) (pe_cal c__law_store (hr.mono (by first | decide | omega)) (by rfl) (pa_cons (pv 0) pa_nil)))
      (pss_cons (ps_set (i := 2) sc_law.nd rfl (Or.inl rfl) (pe_cal c__law_place (hr.mono (by first | decide | omega)) (by rfl) (pa_cons (pv 1) (pa_cons pe_int pa_nil))))
      (pss_cons (ps_set (i := 3) sc_law.nd rfl (Or.inl rfl) (pe_cal c__law_move (hr.mono (by first | decide | omega)) (by rfl) (pa_cons (pv 1) (pa_cons (pv 2) pa_nil))))
      (pss_cons (ps_set (i := 4) sc_law.nd rfl (Or.inl rfl) (pe_callTy call_listN (by rfl) Z.z_list (by decide +kernel) (pa_cons (pv 3) pa_nil)))
      (pss_cons (ps_for PassesOwn.never rfl (pi_range1 (by rfl) Z.z_range (pa_cons (pv 2) pa_nil)) (pg_name (i := 5) sc_law.nd rfl (Or.inl rfl)) (pss_one (ps_if (PW.pt (pw_and (pt_cmp (pc_lt (pe_ix ix_tup (pv 3) (pv 5) (fun _ _ => rfl)) pe_int) (nomark _)) (pw_and1 (pt_cmp (pc_eqI (pe_cal c__law_take (hr.mono (by first | decide | omega)) (by rfl) (pa_cons (pv 1) (pa_cons pe_int pa_nil))) pe_int) (nomark _))))) (pss_one (ps_asg (pe_cmp (pc_eqI (pe_ix ix_tup (pv 3) (pv 5) (fun _ _ => rfl)) pe_int) (nomark _)) (pg_sub (pv 4) (pv 5) set_listN))) pss_nil)))
      (pss_cons (ps_for PassesOwn.never rfl (pi_range1 (by rfl) Z.z_range (pa_cons pe_int pa_nil)) (pg_name (i := 5) sc_law.nd rfl (Or.inl rfl)) (pss_cons (ps_if (PW.pt (pw_or (pt_not (pt_val (pe_cal c__law_answers (hr.mono (by first | decide | omega)) (by rfl) (pa_cons (pe_cal c__law_near (hr.mono (by first | decide | omega)) (by rfl) (pa_cons (pv 1) pa_nil)) pa_nil)))) (pw_or1 (pt_not (pt_val (pe_cal c__law_same (hr.mono (by first | decide | omega)) (by rfl) (pa_cons (pe_cal c_is_move (hr.mono (by first | decide | omega)) (by rfl) (pa_cons (pv 3) pa_nil)) (pa_cons pe_bl pa_nil)))))))) (pss_one (ps_ret pe_bl)) pss_nil)
      (pss_one (ps_if (pt_not (pt_val (pe_cal c__law_same (hr.mono (by first | decide | omega)) (by rfl) (pa_cons (pe_cal c_is_move (hr.mono (by first | decide | omega)) (by rfl) (pa_cons (pe_callTy call_tupleN (by rfl) Z.z_tuple (by decide +kernel) (pa_cons (pv 4) pa_nil)) pa_nil)) (pa_cons (pe_cal c__law_counted (hr.mono (by first | decide | omega)) (by rfl) (pa_cons (pe_callTy call_tupleN (by rfl) Z.z_tuple (by decide +kernel) (pa_cons (pv 4) pa_nil)) pa_nil)) pa_nil))))) (pss_one (ps_ret pe_bl)) pss_nil))))
      (pss_cons (ps_set (i := 6) sc_law.nd rfl (Or.inl rfl) (pe_cal c__law_drawn (hr.mono (by first | decide | omega)) (by rfl) (pa_cons (pv 1) (pa_cons (pe_listRgN rfl (by rfl) Z.z_list (prg_1 (by rfl) Z.z_range pe_int)) (pa_cons pe_int pa_nil)))))
      (pss_cons (ps_if (PW.pt (pw_or (pt_not (pt_val (pe_cal c__law_same (hr.mono (by first | decide | omega)) (by rfl) (pa_cons (pe_cal c_is_move (hr.mono (by first | decide | omega)) (by rfl) (pa_cons (pe_callTy call_tupleN (by rfl) Z.z_tuple (by decide +kernel) (pa_cons (pv 6) pa_nil)) pa_nil)) (pa_cons pe_bl pa_nil))))) (pw_or1 (pt_not (pt_val (pe_cal c__law_same (hr.mono (by first | decide | omega)) (by rfl) (pa_cons (pe_cal c_is_move (hr.mono (by first | decide | omega)) (by rfl) (pa_cons (pe_callTy call_tupleN (by rfl) Z.z_tuple (by decide +kernel) (pa_cons (pe_op op_catN (pv 6) (pe_lstN (pa_cons pe_int pa_nil))) pa_nil)) pa_nil)) (pa_cons pe_bl pa_nil)))))))) (pss_one (ps_ret pe_bl)) pss_nil)
      (pss_one (ps_ret (pe_and (pe_cal c__law_same (hr.mono (by first | decide | omega)) (by rfl) (pa_cons (pe_cal c_is_move (hr.mono (by first | decide | omega)) (by rfl) (pa_cons (pe_tupN pa_nil) pa_nil)) (pa_cons pe_bl pa_nil))) (pe_and (pe_cal c__law_same (hr.mono (by first | decide | omega)) (by rfl) (pa_cons (pe_cal c_is_move (hr.mono (by first | decide | omega)) (by rfl) (pa_cons (pv 6) pa_nil)) (pa_cons pe_bl pa_nil))) (pe_one (pe_cal c__law_same (hr.mono (by first | decide | omega)) (by rfl) (pa_cons (pe_cal c_is_move (hr.mono (by first | decide | omega)) (by rfl) (pa_cons (pe_tupN (pa_cons pe_bl pa_nil)) pa_nil)) (pa_cons pe_bl pa_nil)))))))))))))))), ?_⟩
  have sb : ∀ b : Bool, sameD (.bool b) (.bool b) = true := fun b => decide_eq_true rfl
  have one : (1 : Nat) ≤ 1900000 := by decide
  refine ⟨_, rfl, a, ns, rfl, hS, hn, fun S H1 w1 => ?_⟩
  have s1 := Go.refl w1
  refine ⟨_, rfl, S, H, 13, rfl, w1, by omega, by omega, fun n H2 n0 n1 s2 => ?_⟩
  refine ⟨_, rfl, _, rfl, S, H, n, rfl, s2.wd, n0, by omega, fun p ms G3 H3 s3 hp mv => ?_⟩
  have s3 := s2.trans s3
  have lm := mv.len
  refine ⟨_, rfl, p, _, rfl, .inr (.of (s3.gh _ _ hp)), fun l H4 n4 => ?_⟩
  obtain ⟨s4, gl, hl, fl⟩ := s3.loc n4
  refine ⟨_, rfl, n, rfl, by omega, by omega, for_range (lo := 0) (n := n.toNat) (fun i σ' H' => ∃ (xs : List V) (ds : List PyData) (y5 : Option V), σ' = [some (.ref a), some (.ref S.a), some (.int n), some (.ref p), some (.ref l), y5, none] ∧ Go S H H1 G3 H' ∧ H' l = some (.lst xs) ∧ DaAll G3 xs ds ∧ xs.length = n.toNat ∧ szL ds ≤ n.toNat + i)
    ⟨_, _, none, rfl, s4, hl, DaAll.ints ms, by rw [List.length_map]; exact lm, by rw [szL_ints]; omega⟩ ?_ ?_⟩
  · rintro i σ' H5 hi ⟨xs, ds, y5, rfl, s5, h5, dx, lx, zx⟩
    obtain ⟨x, e1, e2, _⟩ := atI_ints (ns := ms) (d := 0 + (i : Int)) (by omega) (by omega)
    refine ⟨_, rfl, _, rfl, p, _, _, _, rfl, rfl, .of (s5.gh _ _ hp), e2, _, _, rfl, rfl, _, rfl, ite2 (fun c => ?_) (fun c => iteF ⟨xs, ds, _, rfl, s5, h5, dx, lx, by omega⟩)⟩
    refine ⟨_, rfl, S, G3, 2, rfl, s5.wd, by omega, fun d2 H6 r0 r1 s6 => ⟨_, _, rfl, rfl, _, rfl, ite2 (fun c => ?_) (fun c => ⟨xs, ds, _, rfl, s5.trans s6, s6.hh h5 (s5.ns fl), dx, lx, by omega⟩)⟩⟩
    have h6 := s6.hh h5 (s5.ns fl)
    have s6 := s5.trans s6
    refine ⟨_, rfl, _, rfl, p, _, _, _, rfl, rfl, .of (s6.gh _ _ hp), e2, _, _, rfl, rfl, _, rfl, _, rfl, l, xs, i, rfl, by rw [Int.zero_add], h6, by omega, fun H7 e7 => ?_⟩
    refine ⟨_, ds.set i (.bool (decide (x = 1))), _, rfl, s6.mut gl fl e7, upd_at e7, DaAll.set (.bl _) i dx, by rw [List.length_set]; exact lx, ?_⟩
    have := szL_set i ds (.bool (decide (x = 1)))
    have e : szD (.bool (decide (x = 1))) = 1 := rfl
    omega
  rintro σ' H5 ⟨xs, ds, y5, rfl, s5, h5, dx, lx, zx⟩
  have hgood : Da G3 (.ref p) (.tuple (ms.map PyData.int)) := Da.ints hp
  have zgood := sz_ints ms
  refine ⟨3, rfl, by omega, by omega, for_range (lo := 0) (n := 3) (fun i σ' H' => ∃ (G' : Hp) (y5 : Option V), σ' = [some (.ref a), some (.ref S.a), some (.int n), some (.ref p), some (.ref l), y5, none] ∧ Go S H H1 G' H' ∧ Same G3 G' ∧ H' l = some (.lst xs)) ⟨G3, y5, rfl, s5, Same.refl _, h5⟩ ?_ ?_⟩
  · rintro i σ' H6 hi ⟨G6, y5, rfl, s6, g6, h6⟩
    refine ⟨_, rfl, S, G6, rfl, s6.wd, fun v d G7 H7 dv zv s7 => ?_⟩
    have h7 := s7.hh h6 (s6.ns fl)
    have g7 := g6.trans s7.gg
    have s7 := s6.trans s7
    refine ⟨G7, v, d, rfl, s7.gh, dv, zv, fun H8 g8 => ⟨_, rfl, iteF ?_⟩⟩
    have s8 := s7.pure g8
    refine ⟨_, rfl, G7, _, _, rfl, s8.gh, hgood.up g7, by omega, fun H9 g9 => ⟨G7, _, _, _, _, rfl, s8.gh.trans g9, .bl _, .bl _, one, one, fun HA gA => ?_⟩⟩
    rw [mvD_mv n0 mv (by omega), sb]
    refine ⟨_, rfl, iteF ?_⟩
    have sA := s8.pure (g9.trans gA)
    have hA := gA _ _ (g9 _ _ (g8 _ _ h7))
    refine ⟨_, rfl, l, xs, rfl, .of hA, fun pb HB nB => ?_⟩
    obtain ⟨GB, sB, gB, kB, _⟩ := sA.know nB
    have hB := nB.else hA
    have dB : Da GB (.ref pb) (.tuple ds) := .tup kB ((dx.up g7).up gB)
    have zB : szD (.tuple ds) ≤ 300000 := by show 1 + szL ds ≤ 300000; omega
    refine ⟨GB, _, _, rfl, sB.gh, dB, by omega, fun HC gC => ?_⟩
    have sC := sB.pure gC
    have hC := gC _ _ hB
    refine ⟨_, rfl, l, xs, rfl, .of hC, fun pd HD nD => ?_⟩
    obtain ⟨GD, sD, gD, kD, _⟩ := sC.know nD
    have hD := nD.else hC
    have dD : Da GD (.ref pd) (.tuple ds) := .tup kD (((dx.up g7).up gB).up gD)
    refine ⟨GD, _, _, rfl, sD.gh, dD, by omega, fun HE gE => ⟨GD, _, _, _, _, rfl, sD.gh.trans gE, .bl _, .bl _, one, one, fun HF gF => ?_⟩⟩
    rw [mv_cnt, sb]
    exact ⟨_, rfl, iteF ⟨GD, _, rfl, sD.pure (gE.trans gF), g7.trans (gB.trans gD), gF _ _ (gE _ _ hD)⟩⟩
  rintro σ' H6 ⟨G6, y5, rfl, s6, g6, h6⟩
  refine ⟨_, rfl, 12, rfl, .of_le (by decide) (by omega) (by decide) (by omega), fun r H7 n7 => ?_⟩
  obtain ⟨s7, gr, hr7, fr⟩ := s6.loc n7
  rw [rgV_rngI] at hr7
  refine ⟨S, G6, r, _, 12, rfl, s7.wd, .inl hr7, by decide, by omega, by omega, fun lw ys rest H8 s8 gw fw hw pm0 hy => ?_⟩
  obtain ⟨rs, ts, rfl, rfl, pm⟩ := perm_ints pm0
  have fw := s7.fresh fw
  have s8 := s7.trans s8
  rw [List.length_map, List.length_map, rngI_len] at hy
  have lr : rs.length = 12 := hy
  have pl := pm.length_eq
  rw [List.length_append, rngI_len] at pl
  have e : ts = [] := List.eq_nil_of_length_eq_zero (by have : (12 : Int).toNat = 12 := rfl; omega)
  subst e
  rw [List.append_nil] at pm
  have mvw : IsMv rs 12 := pm
  refine ⟨_, rfl, lw, _, rfl, .of hw, fun pa H9 n9 => ?_⟩
  obtain ⟨G9, s9, g9, k9, o9⟩ := s8.know n9
  have hw9 := n9.else hw
  have gw9 : G9 lw = none := by rw [o9 _ (n9.ne (ne_none hw))]; exact gw
  refine ⟨G9, _, _, rfl, s9.gh, .ints k9, by rw [sz_ints]; omega, fun HA gA => ⟨G9, _, _, _, _, rfl, s9.gh.trans gA, .bl _, .bl _, one, one, fun HB gB => ?_⟩⟩
  rw [mvD_mv (by omega) mvw (by omega), sb]
  have sB := s9.pure (gA.trans gB)
  have hwB := gB _ _ (gA _ _ hw9)
  refine ⟨_, rfl, iteF ⟨_, rfl, by show 1 ≤ sizeLine; decide, fun pc HC nC => ?_⟩⟩
  obtain ⟨sC, gpc, hpc, fpc⟩ := sB.loc nC
  refine ⟨lw, pc, _, _, rfl, rfl, nC.else hwB, hpc, by rw [List.length_map, lr]; show 12 + 1 ≤ sizeLine; decide, fun pd HD nD => ?_⟩
  obtain ⟨sD, gpd, hpd, fpd⟩ := sC.loc nD
  refine ⟨pd, _, rfl, .of hpd, fun pe HE nE => ?_⟩
  obtain ⟨GE, sE, gE, kE, oE⟩ := sD.know nE
  have hwE := nE.else (nD.else (nC.else hwB))
  have dE : Da GE (.ref pe) (.tuple (rs.map PyData.int ++ [.int 12])) := .tup kE ((DaAll.ints rs).append (.one (.int 12)))
  refine ⟨GE, _, _, rfl, sE.gh, dE, ?_, fun HF gF => ⟨GE, _, _, _, _, rfl, sE.gh.trans gF, .bl _, .bl _, one, one, fun HG gG => ?_⟩⟩
  · show 1 + szL _ ≤ 1000000
    rw [szL_append, szL_ints, szL_one]
    show 1 + (rs.length + 1) ≤ 1000000
    omega
  rw [mvD_long (by rw [List.length_append, List.length_map, lr]; decide), sb]
  have sG := sE.pure (gF.trans gG)
  have hwG := gG _ _ (gF _ _ hwE)
  refine ⟨_, rfl, iteF ⟨Nat.zero_le _, fun ph HH nH => ?_⟩⟩
  obtain ⟨GH, sH, gH, kH, oH⟩ := sG.know nH
  have hwH := nH.else hwG
  have dH : Da GH (.ref ph) (.tuple (([] : List Int).map PyData.int)) := Da.ints kH
  refine ⟨GH, _, _, rfl, sH.gh, dH, by decide, fun HI gI => ⟨GH, _, _, _, _, rfl, sH.gh.trans gI, .bl _, .bl _, one, one, fun HJ gJ => ?_⟩⟩
  have e0 : mvD (.tuple (([] : List Int).map PyData.int)) = true := mvD_mv (ns := []) (n := 0) (by omega) (List.Perm.refl _) (by omega)
  rw [e0, sb]
  have sJ := sH.pure (gI.trans gJ)
  have hwJ := gJ _ _ (gI _ _ hwH)
  refine ⟨_, rfl, iteT ?_⟩
  have gwH : GH lw = none := by
    rw [oH _ (nH.ne (ne_none hwG)), oE _ (nE.ne (ne_none (nD.else (nC.else hwB))))]
    exact gw9
  obtain ⟨GK, sK, gK, kK, _⟩ := sJ.frz gwH fw hwJ
  have dK : Da GK (.ref lw) (.list (rs.map PyData.int)) := .lst kK (DaAll.ints rs)
  refine ⟨_, rfl, GK, _, _, rfl, sK.gh, dK, ?_, fun HL gL => ⟨GK, _, _, _, _, rfl, sK.gh.trans gL, .bl _, .bl _, one, one, fun HM gM => ?_⟩⟩
  · show 1 + szL _ ≤ 1000000
    rw [szL_ints]
    omega
  have e1 : mvD (.list (rs.map PyData.int)) = false := rfl
  rw [e1, sb]
  have sM := sK.pure (gL.trans gM)
  refine ⟨_, rfl, iteT ⟨by show 1 ≤ sizeLine; decide, fun po HN nN => ?_⟩⟩
  obtain ⟨GN, sN, gN, kN, _⟩ := sM.know nN
  have dN : Da GN (.ref po) (.tuple [.bool false]) := .tup kN (.one (.bl false))
  refine ⟨GN, _, _, rfl, sN.gh, dN, by decide, fun HO gO => ⟨GN, _, _, _, _, rfl, sN.gh.trans gO, .bl _, .bl _, one, one, fun HP gP => ?_⟩⟩
  have e2 : mvD (.tuple [.bool false]) = false := rfl
  rw [e2, sb]
  exact q HP

end
theorem all_mk {l : PySem.W.OpenLaw} {w : World} {K : PySem.W.Frag} {h : Heap} {mg : Str → Option Value} {fa : Addr} (X : K.In h) (G : h.Ns mainGlobals mg) (hfa : mg "law" = some (.ref fa))
    {f0 : Addr} {od0 an0 : Option Addr} {sl0 : Array (Option Value)} {oc0 kV0 dc0 pm0 cd0 ct0 : Value}
    {f1 : Addr} {od1 an1 : Option Addr} {sl1 : Array (Option Value)} {oc1 kV1 dc1 pm1 cd1 ct1 : Value}
    {f2 : Addr} {od2 an2 : Option Addr} {sl2 : Array (Option Value)} {oc2 kV2 dc2 pm2 cd2 ct2 : Value}
    {f3 : Addr} {od3 an3 : Option Addr} {sl3 : Array (Option Value)} {oc3 kV3 dc3 pm3 cd3 ct3 : Value}
    {f4 : Addr} {od4 an4 : Option Addr} {sl4 : Array (Option Value)} {oc4 kV4 dc4 pm4 cd4 ct4 : Value}
    {f5 : Addr} {od5 an5 : Option Addr} {sl5 : Array (Option Value)} {oc5 kV5 dc5 pm5 cd5 ct5 : Value}
    {f6 : Addr} {od6 an6 : Option Addr} {sl6 : Array (Option Value)} {oc6 kV6 dc6 pm6 cd6 ct6 : Value}
    {f7 : Addr} {od7 an7 : Option Addr} {sl7 : Array (Option Value)} {oc7 kV7 dc7 pm7 cd7 ct7 : Value}
    {f8 : Addr} {od8 an8 : Option Addr} {sl8 : Array (Option Value)} {oc8 kV8 dc8 pm8 cd8 ct8 : Value}
    {f9 : Addr} {od9 an9 : Option Addr} {sl9 : Array (Option Value)} {oc9 kV9 dc9 pm9 cd9 ct9 : Value}
    {f10 : Addr} {od10 an10 : Option Addr} {sl10 : Array (Option Value)} {oc10 kV10 dc10 pm10 cd10 ct10 : Value}
    {f11 : Addr} {od11 an11 : Option Addr} {sl11 : Array (Option Value)} {oc11 kV11 dc11 pm11 cd11 ct11 : Value}
    {f12 : Addr} {od12 an12 : Option Addr} {sl12 : Array (Option Value)} {oc12 kV12 dc12 pm12 cd12 ct12 : Value}
    {f13 : Addr} {od13 an13 : Option Addr} {sl13 : Array (Option Value)} {oc13 kV13 dc13 pm13 cd13 ct13 : Value}
    {f14 : Addr} {od14 an14 : Option Addr} {sl14 : Array (Option Value)} {oc14 kV14 dc14 pm14 cd14 ct14 : Value}
    {f15 : Addr} {od15 an15 : Option Addr} {sl15 : Array (Option Value)} {oc15 kV15 dc15 pm15 cd15 ct15 : Value}
    {f16 : Addr} {od16 an16 : Option Addr} {sl16 : Array (Option Value)} {oc16 kV16 dc16 pm16 cd16 ct16 : Value}
    {f17 : Addr} {od17 an17 : Option Addr} {sl17 : Array (Option Value)} {oc17 kV17 dc17 pm17 cd17 ct17 : Value}
    {f18 : Addr} {od18 an18 : Option Addr} {sl18 : Array (Option Value)} {oc18 kV18 dc18 pm18 cd18 ct18 : Value}
    {f19 : Addr} {od19 an19 : Option Addr} {sl19 : Array (Option Value)} {oc19 kV19 dc19 pm19 cd19 ct19 : Value}
    {f20 : Addr} {od20 an20 : Option Addr} {sl20 : Array (Option Value)} {oc20 kV20 dc20 pm20 cd20 ct20 : Value}
    {f21 : Addr} {od21 an21 : Option Addr} {sl21 : Array (Option Value)} {oc21 kV21 dc21 pm21 cd21 ct21 : Value}
    {f22 : Addr} {od22 an22 : Option Addr} {sl22 : Array (Option Value)} {oc22 kV22 dc22 pm22 cd22 ct22 : Value}
    {f23 : Addr} {od23 an23 : Option Addr} {sl23 : Array (Option Value)} {oc23 kV23 dc23 pm23 cd23 ct23 : Value}
    {f24 : Addr} {od24 an24 : Option Addr} {sl24 : Array (Option Value)} {oc24 kV24 dc24 pm24 cd24 ct24 : Value}
    {f25 : Addr} {od25 an25 : Option Addr} {sl25 : Array (Option Value)} {oc25 kV25 dc25 pm25 cd25 ct25 : Value}
    {f26 : Addr} {od26 an26 : Option Addr} {sl26 : Array (Option Value)} {oc26 kV26 dc26 pm26 cd26 ct26 : Value}
    {f27 : Addr} {od27 an27 : Option Addr} {sl27 : Array (Option Value)} {oc27 kV27 dc27 pm27 cd27 ct27 : Value}
    {f28 : Addr} {od28 an28 : Option Addr} {sl28 : Array (Option Value)} {oc28 kV28 dc28 pm28 cd28 ct28 : Value}
    {f29 : Addr} {od29 an29 : Option Addr} {sl29 : Array (Option Value)} {oc29 kV29 dc29 pm29 cd29 ct29 : Value}
    (a0 : PySem.W.nsIn K mainGlobals "is_number" = some (some (.ref f0))) (l0 : K.lookup f0 = some ⟨oc0, od0, .func (PySem.W.fnOf "is_number" "is_number" (defArgs s_is_number) (defBody s_is_number) (defScope s_is_number) .none kV0 dc0 pm0 an0 cd0 ct0), sl0⟩) (c0 : PySem.W.codeIn K cd0 "is_number" = true) (k0 : PySem.W.keepIn K (.ref f0) = true)
    (a1 : PySem.W.nsIn K mainGlobals "is_point" = some (some (.ref f1))) (l1 : K.lookup f1 = some ⟨oc1, od1, .func (PySem.W.fnOf "is_point" "is_point" (defArgs s_is_point) (defBody s_is_point) (defScope s_is_point) .none kV1 dc1 pm1 an1 cd1 ct1), sl1⟩) (c1 : PySem.W.codeIn K cd1 "is_point" = true) (k1 : PySem.W.keepIn K (.ref f1) = true)
    (a2 : PySem.W.nsIn K mainGlobals "is_move_on" = some (some (.ref f2))) (l2 : K.lookup f2 = some ⟨oc2, od2, .func (PySem.W.fnOf "is_move_on" "is_move_on" (defArgs s_is_move_on) (defBody s_is_move_on) (defScope s_is_move_on) .none kV2 dc2 pm2 an2 cd2 ct2), sl2⟩) (c2 : PySem.W.codeIn K cd2 "is_move_on" = true) (k2 : PySem.W.keepIn K (.ref f2) = true)
    (a3 : PySem.W.nsIn K mainGlobals "is_move" = some (some (.ref f3))) (l3 : K.lookup f3 = some ⟨oc3, od3, .func (PySem.W.fnOf "is_move" "is_move" (defArgs s_is_move) (defBody s_is_move) (defScope s_is_move) .none kV3 dc3 pm3 an3 cd3 ct3), sl3⟩) (c3 : PySem.W.codeIn K cd3 "is_move" = true) (k3 : PySem.W.keepIn K (.ref f3) = true)
    (a4 : PySem.W.nsIn K mainGlobals "_law_store" = some (some (.ref f4))) (l4 : K.lookup f4 = some ⟨oc4, od4, .func (PySem.W.fnOf "_law_store" "_law_store" (defArgs s_law_store) (defBody s_law_store) (defScope s_law_store) .none kV4 dc4 pm4 an4 cd4 ct4), sl4⟩) (c4 : PySem.W.codeIn K cd4 "_law_store" = true) (k4 : PySem.W.keepIn K (.ref f4) = true)
    (a5 : PySem.W.nsIn K mainGlobals "_law_mixed" = some (some (.ref f5))) (l5 : K.lookup f5 = some ⟨oc5, od5, .func (PySem.W.fnOf "_law_mixed" "_law_mixed" (defArgs s_law_mixed) (defBody s_law_mixed) (defScope s_law_mixed) .none kV5 dc5 pm5 an5 cd5 ct5), sl5⟩) (c5 : PySem.W.codeIn K cd5 "_law_mixed" = true) (k5 : PySem.W.keepIn K (.ref f5) = true)
    (a6 : PySem.W.nsIn K mainGlobals "_law_take" = some (some (.ref f6))) (l6 : K.lookup f6 = some ⟨oc6, od6, .func (PySem.W.fnOf "_law_take" "_law_take" (defArgs s_law_take) (defBody s_law_take) (defScope s_law_take) .none kV6 dc6 pm6 an6 cd6 ct6), sl6⟩) (c6 : PySem.W.codeIn K cd6 "_law_take" = true) (k6 : PySem.W.keepIn K (.ref f6) = true)
    (a7 : PySem.W.nsIn K mainGlobals "_law_pick" = some (some (.ref f7))) (l7 : K.lookup f7 = some ⟨oc7, od7, .func (PySem.W.fnOf "_law_pick" "_law_pick" (defArgs s_law_pick) (defBody s_law_pick) (defScope s_law_pick) .none kV7 dc7 pm7 an7 cd7 ct7), sl7⟩) (c7 : PySem.W.codeIn K cd7 "_law_pick" = true) (k7 : PySem.W.keepIn K (.ref f7) = true)
    (a8 : PySem.W.nsIn K mainGlobals "_law_place" = some (some (.ref f8))) (l8 : K.lookup f8 = some ⟨oc8, od8, .func (PySem.W.fnOf "_law_place" "_law_place" (defArgs s_law_place) (defBody s_law_place) (defScope s_law_place) .none kV8 dc8 pm8 an8 cd8 ct8), sl8⟩) (c8 : PySem.W.codeIn K cd8 "_law_place" = true) (k8 : PySem.W.keepIn K (.ref f8) = true)
    (a9 : PySem.W.nsIn K mainGlobals "_law_drawn" = some (some (.ref f9))) (l9 : K.lookup f9 = some ⟨oc9, od9, .func (PySem.W.fnOf "_law_drawn" "_law_drawn" (defArgs s_law_drawn) (defBody s_law_drawn) (defScope s_law_drawn) .none kV9 dc9 pm9 an9 cd9 ct9), sl9⟩) (c9 : PySem.W.codeIn K cd9 "_law_drawn" = true) (k9 : PySem.W.keepIn K (.ref f9) = true)
    (a10 : PySem.W.nsIn K mainGlobals "_law_either" = some (some (.ref f10))) (l10 : K.lookup f10 = some ⟨oc10, od10, .func (PySem.W.fnOf "_law_either" "_law_either" (defArgs s_law_either) (defBody s_law_either) (defScope s_law_either) .none kV10 dc10 pm10 an10 cd10 ct10), sl10⟩) (c10 : PySem.W.codeIn K cd10 "_law_either" = true) (k10 : PySem.W.keepIn K (.ref f10) = true)
    (a11 : PySem.W.nsIn K mainGlobals "_law_whole" = some (some (.ref f11))) (l11 : K.lookup f11 = some ⟨oc11, od11, .func (PySem.W.fnOf "_law_whole" "_law_whole" (defArgs s_law_whole) (defBody s_law_whole) (defScope s_law_whole) .none kV11 dc11 pm11 an11 cd11 ct11), sl11⟩) (c11 : PySem.W.codeIn K cd11 "_law_whole" = true) (k11 : PySem.W.keepIn K (.ref f11) = true)
    (a12 : PySem.W.nsIn K mainGlobals "_law_sign" = some (some (.ref f12))) (l12 : K.lookup f12 = some ⟨oc12, od12, .func (PySem.W.fnOf "_law_sign" "_law_sign" (defArgs s_law_sign) (defBody s_law_sign) (defScope s_law_sign) .none kV12 dc12 pm12 an12 cd12 ct12), sl12⟩) (c12 : PySem.W.codeIn K cd12 "_law_sign" = true) (k12 : PySem.W.keepIn K (.ref f12) = true)
    (a13 : PySem.W.nsIn K mainGlobals "_law_text" = some (some (.ref f13))) (l13 : K.lookup f13 = some ⟨oc13, od13, .func (PySem.W.fnOf "_law_text" "_law_text" (defArgs s_law_text) (defBody s_law_text) (defScope s_law_text) .none kV13 dc13 pm13 an13 cd13 ct13), sl13⟩) (c13 : PySem.W.codeIn K cd13 "_law_text" = true) (k13 : PySem.W.keepIn K (.ref f13) = true)
    (a14 : PySem.W.nsIn K mainGlobals "_law_leaf" = some (some (.ref f14))) (l14 : K.lookup f14 = some ⟨oc14, od14, .func (PySem.W.fnOf "_law_leaf" "_law_leaf" (defArgs s_law_leaf) (defBody s_law_leaf) (defScope s_law_leaf) .none kV14 dc14 pm14 an14 cd14 ct14), sl14⟩) (c14 : PySem.W.codeIn K cd14 "_law_leaf" = true) (k14 : PySem.W.keepIn K (.ref f14) = true)
    (a15 : PySem.W.nsIn K mainGlobals "_law_value" = some (some (.ref f15))) (l15 : K.lookup f15 = some ⟨oc15, od15, .func (PySem.W.fnOf "_law_value" "_law_value" (defArgs s_law_value) (defBody s_law_value) (defScope s_law_value) .none kV15 dc15 pm15 an15 cd15 ct15), sl15⟩) (c15 : PySem.W.codeIn K cd15 "_law_value" = true) (k15 : PySem.W.keepIn K (.ref f15) = true)
    (a16 : PySem.W.nsIn K mainGlobals "_law_is_whole" = some (some (.ref f16))) (l16 : K.lookup f16 = some ⟨oc16, od16, .func (PySem.W.fnOf "_law_is_whole" "_law_is_whole" (defArgs s_law_is_whole) (defBody s_law_is_whole) (defScope s_law_is_whole) .none kV16 dc16 pm16 an16 cd16 ct16), sl16⟩) (c16 : PySem.W.codeIn K cd16 "_law_is_whole" = true) (k16 : PySem.W.keepIn K (.ref f16) = true)
    (a17 : PySem.W.nsIn K mainGlobals "_law_same" = some (some (.ref f17))) (l17 : K.lookup f17 = some ⟨oc17, od17, .func (PySem.W.fnOf "_law_same" "_law_same" (defArgs s_law_same) (defBody s_law_same) (defScope s_law_same) .none kV17 dc17 pm17 an17 cd17 ct17), sl17⟩) (c17 : PySem.W.codeIn K cd17 "_law_same" = true) (k17 : PySem.W.keepIn K (.ref f17) = true)
    (a18 : PySem.W.nsIn K mainGlobals "_law_frozen" = some (some (.ref f18))) (l18 : K.lookup f18 = some ⟨oc18, od18, .func (PySem.W.fnOf "_law_frozen" "_law_frozen" (defArgs s_law_frozen) (defBody s_law_frozen) (defScope s_law_frozen) .none kV18 dc18 pm18 an18 cd18 ct18), sl18⟩) (c18 : PySem.W.codeIn K cd18 "_law_frozen" = true) (k18 : PySem.W.keepIn K (.ref f18) = true)
    (a19 : PySem.W.nsIn K mainGlobals "_law_move" = some (some (.ref f19))) (l19 : K.lookup f19 = some ⟨oc19, od19, .func (PySem.W.fnOf "_law_move" "_law_move" (defArgs s_law_move) (defBody s_law_move) (defScope s_law_move) .none kV19 dc19 pm19 an19 cd19 ct19), sl19⟩) (c19 : PySem.W.codeIn K cd19 "_law_move" = true) (k19 : PySem.W.keepIn K (.ref f19) = true)
    (a20 : PySem.W.nsIn K mainGlobals "_law_bad_move" = some (some (.ref f20))) (l20 : K.lookup f20 = some ⟨oc20, od20, .func (PySem.W.fnOf "_law_bad_move" "_law_bad_move" (defArgs s_law_bad_move) (defBody s_law_bad_move) (defScope s_law_bad_move) .none kV20 dc20 pm20 an20 cd20 ct20), sl20⟩) (c20 : PySem.W.codeIn K cd20 "_law_bad_move" = true) (k20 : PySem.W.keepIn K (.ref f20) = true)
    (a21 : PySem.W.nsIn K mainGlobals "_law_bent_text" = some (some (.ref f21))) (l21 : K.lookup f21 = some ⟨oc21, od21, .func (PySem.W.fnOf "_law_bent_text" "_law_bent_text" (defArgs s_law_bent_text) (defBody s_law_bent_text) (defScope s_law_bent_text) .none kV21 dc21 pm21 an21 cd21 ct21), sl21⟩) (c21 : PySem.W.codeIn K cd21 "_law_bent_text" = true) (k21 : PySem.W.keepIn K (.ref f21) = true)
    (a22 : PySem.W.nsIn K mainGlobals "_law_bent_leaf" = some (some (.ref f22))) (l22 : K.lookup f22 = some ⟨oc22, od22, .func (PySem.W.fnOf "_law_bent_leaf" "_law_bent_leaf" (defArgs s_law_bent_leaf) (defBody s_law_bent_leaf) (defScope s_law_bent_leaf) .none kV22 dc22 pm22 an22 cd22 ct22), sl22⟩) (c22 : PySem.W.codeIn K cd22 "_law_bent_leaf" = true) (k22 : PySem.W.keepIn K (.ref f22) = true)
    (a23 : PySem.W.nsIn K mainGlobals "_law_bent_part" = some (some (.ref f23))) (l23 : K.lookup f23 = some ⟨oc23, od23, .func (PySem.W.fnOf "_law_bent_part" "_law_bent_part" (defArgs s_law_bent_part) (defBody s_law_bent_part) (defScope s_law_bent_part) .none kV23 dc23 pm23 an23 cd23 ct23), sl23⟩) (c23 : PySem.W.codeIn K cd23 "_law_bent_part" = true) (k23 : PySem.W.keepIn K (.ref f23) = true)
    (a24 : PySem.W.nsIn K mainGlobals "_law_bent" = some (some (.ref f24))) (l24 : K.lookup f24 = some ⟨oc24, od24, .func (PySem.W.fnOf "_law_bent" "_law_bent" (defArgs s_law_bent) (defBody s_law_bent) (defScope s_law_bent) .none kV24 dc24 pm24 an24 cd24 ct24), sl24⟩) (c24 : PySem.W.codeIn K cd24 "_law_bent" = true) (k24 : PySem.W.keepIn K (.ref f24) = true)
    (a25 : PySem.W.nsIn K mainGlobals "_law_judged" = some (some (.ref f25))) (l25 : K.lookup f25 = some ⟨oc25, od25, .func (PySem.W.fnOf "_law_judged" "_law_judged" (defArgs s_law_judged) (defBody s_law_judged) (defScope s_law_judged) .none kV25 dc25 pm25 an25 cd25 ct25), sl25⟩) (c25 : PySem.W.codeIn K cd25 "_law_judged" = true) (k25 : PySem.W.keepIn K (.ref f25) = true)
    (a26 : PySem.W.nsIn K mainGlobals "_law_counted" = some (some (.ref f26))) (l26 : K.lookup f26 = some ⟨oc26, od26, .func (PySem.W.fnOf "_law_counted" "_law_counted" (defArgs s_law_counted) (defBody s_law_counted) (defScope s_law_counted) .none kV26 dc26 pm26 an26 cd26 ct26), sl26⟩) (c26 : PySem.W.codeIn K cd26 "_law_counted" = true) (k26 : PySem.W.keepIn K (.ref f26) = true)
    (a27 : PySem.W.nsIn K mainGlobals "_law_near" = some (some (.ref f27))) (l27 : K.lookup f27 = some ⟨oc27, od27, .func (PySem.W.fnOf "_law_near" "_law_near" (defArgs s_law_near) (defBody s_law_near) (defScope s_law_near) .none kV27 dc27 pm27 an27 cd27 ct27), sl27⟩) (c27 : PySem.W.codeIn K cd27 "_law_near" = true) (k27 : PySem.W.keepIn K (.ref f27) = true)
    (a28 : PySem.W.nsIn K mainGlobals "_law_answers" = some (some (.ref f28))) (l28 : K.lookup f28 = some ⟨oc28, od28, .func (PySem.W.fnOf "_law_answers" "_law_answers" (defArgs s_law_answers) (defBody s_law_answers) (defScope s_law_answers) .none kV28 dc28 pm28 an28 cd28 ct28), sl28⟩) (c28 : PySem.W.codeIn K cd28 "_law_answers" = true) (k28 : PySem.W.keepIn K (.ref f28) = true)
    (a29 : PySem.W.nsIn K mainGlobals "law" = some (some (.ref f29))) (l29 : K.lookup f29 = some ⟨oc29, od29, .func (PySem.W.fnOf "law" "law" (defArgs s_law) (defBody s_law) (defScope s_law) .none kV29 dc29 pm29 an29 cd29 ct29), sl29⟩) (c29 : PySem.W.codeIn K cd29 "law" = true) (k29 : PySem.W.keepIn K (.ref f29) = true)
    (z_isinstance : PySem.W.nsIn K mainGlobals "isinstance" = some none)
    (z_int : PySem.W.nsIn K mainGlobals "int" = some none)
    (z_bool : PySem.W.nsIn K mainGlobals "bool" = some none)
    (z_str : PySem.W.nsIn K mainGlobals "str" = some none)
    (z_tuple : PySem.W.nsIn K mainGlobals "tuple" = some none)
    (z_list : PySem.W.nsIn K mainGlobals "list" = some none)
    (z_len : PySem.W.nsIn K mainGlobals "len" = some none)
    (z_range : PySem.W.nsIn K mainGlobals "range" = some none)
    (z_all : PySem.W.nsIn K mainGlobals "all" = some none)
    (z_sorted : PySem.W.nsIn K mainGlobals "sorted" = some none)
    (z_min : PySem.W.nsIn K mainGlobals "min" = some none)
    (z_max : PySem.W.nsIn K mainGlobals "max" = some none)
    {t_MOST_POINTS : Tok} (c_MOST_POINTS : PySem.W.nsIn K mainGlobals "MOST_POINTS" = some (some (.int 12 t_MOST_POINTS))) :
    ∃ fd : FuncData, (∀ (s : Shared) (v : Value), BindsTo s fd ⟨[v], []⟩ [("script", v)]) ∧ ∀ base : Heap, K.In base → base.Ns mainGlobals mg → FnOk l.prog w K mg base CX0 11 fa fd ["script"] (spLaw K) := by
  have e := hfa.symm.trans (PySem.W.mg_of X G a29)
  cases e
  have Z : Zs mg := ⟨PySem.W.mg_none_of X G z_isinstance, PySem.W.mg_none_of X G z_int, PySem.W.mg_none_of X G z_bool, PySem.W.mg_none_of X G z_str, PySem.W.mg_none_of X G z_tuple, PySem.W.mg_none_of X G z_list, PySem.W.mg_none_of X G z_len, PySem.W.mg_none_of X G z_range, PySem.W.mg_none_of X G z_all, PySem.W.mg_none_of X G z_sorted, PySem.W.mg_none_of X G z_min, PySem.W.mg_none_of X G z_max, ⟨_, PySem.W.mg_of X G c_MOST_POINTS⟩⟩
  have D0 : Def K mg "is_number" s_is_number ["value", "low", "high"] := def_mk X G a0 l0 c0 k0 fun _ _ _ _ _ _ us hl => match us, hl with | [_, _, _], _ => rfl
  have D1 : Def K mg "is_point" s_is_point ["points", "value"] := def_mk X G a1 l1 c1 k1 fun _ _ _ _ _ _ us hl => match us, hl with | [_, _], _ => rfl
  have D2 : Def K mg "is_move_on" s_is_move_on ["points", "value"] := def_mk X G a2 l2 c2 k2 fun _ _ _ _ _ _ us hl => match us, hl with | [_, _], _ => rfl
  have D3 : Def K mg "is_move" s_is_move ["value"] := def_mk X G a3 l3 c3 k3 fun _ _ _ _ _ _ us hl => match us, hl with | [_], _ => rfl
  have D4 : Def K mg "_law_store" s_law_store ["script"] := def_mk X G a4 l4 c4 k4 fun _ _ _ _ _ _ us hl => match us, hl with | [_], _ => rfl
  have D5 : Def K mg "_law_mixed" s_law_mixed ["seed", "turn"] := def_mk X G a5 l5 c5 k5 fun _ _ _ _ _ _ us hl => match us, hl with | [_, _], _ => rfl
  have D6 : Def K mg "_law_take" s_law_take ["store", "many"] := def_mk X G a6 l6 c6 k6 fun _ _ _ _ _ _ us hl => match us, hl with | [_, _], _ => rfl
  have D7 : Def K mg "_law_pick" s_law_pick ["store", "things"] := def_mk X G a7 l7 c7 k7 fun _ _ _ _ _ _ us hl => match us, hl with | [_, _], _ => rfl
  have D8 : Def K mg "_law_place" s_law_place ["store", "size"] := def_mk X G a8 l8 c8 k8 fun _ _ _ _ _ _ us hl => match us, hl with | [_, _], _ => rfl
  have D9 : Def K mg "_law_drawn" s_law_drawn ["store", "things", "many"] := def_mk X G a9 l9 c9 k9 fun _ _ _ _ _ _ us hl => match us, hl with | [_, _, _], _ => rfl
  have D10 : Def K mg "_law_either" s_law_either ["store", "entries"] := def_mk X G a10 l10 c10 k10 fun _ _ _ _ _ _ us hl => match us, hl with | [_, _], _ => rfl
  have D11 : Def K mg "_law_whole" s_law_whole ["store"] := def_mk X G a11 l11 c11 k11 fun _ _ _ _ _ _ us hl => match us, hl with | [_], _ => rfl
  have D12 : Def K mg "_law_sign" s_law_sign ["store"] := def_mk X G a12 l12 c12 k12 fun _ _ _ _ _ _ us hl => match us, hl with | [_], _ => rfl
  have D13 : Def K mg "_law_text" s_law_text ["store", "most"] := def_mk X G a13 l13 c13 k13 fun _ _ _ _ _ _ us hl => match us, hl with | [_, _], _ => rfl
  have D14 : Def K mg "_law_leaf" s_law_leaf ["store"] := def_mk X G a14 l14 c14 k14 fun _ _ _ _ _ _ us hl => match us, hl with | [_], _ => rfl
  have D15 : Def K mg "_law_value" s_law_value ["store", "deep"] := def_mk X G a15 l15 c15 k15 fun _ _ _ _ _ _ us hl => match us, hl with | [_, _], _ => rfl
  have D16 : Def K mg "_law_is_whole" s_law_is_whole ["value"] := def_mk X G a16 l16 c16 k16 fun _ _ _ _ _ _ us hl => match us, hl with | [_], _ => rfl
  have D17 : Def K mg "_law_same" s_law_same ["actual", "due"] := def_mk X G a17 l17 c17 k17 fun _ _ _ _ _ _ us hl => match us, hl with | [_, _], _ => rfl
  have D18 : Def K mg "_law_frozen" s_law_frozen ["value", "deep"] := def_mk X G a18 l18 c18 k18 fun _ _ _ _ _ _ us hl => match us, hl with | [_, _], _ => rfl
  have D19 : Def K mg "_law_move" s_law_move ["store", "points"] := def_mk X G a19 l19 c19 k19 fun _ _ _ _ _ _ us hl => match us, hl with | [_, _], _ => rfl
  have D20 : Def K mg "_law_bad_move" s_law_bad_move ["store", "move"] := def_mk X G a20 l20 c20 k20 fun _ _ _ _ _ _ us hl => match us, hl with | [_, _], _ => rfl
  have D21 : Def K mg "_law_bent_text" s_law_bent_text ["store", "text"] := def_mk X G a21 l21 c21 k21 fun _ _ _ _ _ _ us hl => match us, hl with | [_, _], _ => rfl
  have D22 : Def K mg "_law_bent_leaf" s_law_bent_leaf ["store", "leaf"] := def_mk X G a22 l22 c22 k22 fun _ _ _ _ _ _ us hl => match us, hl with | [_, _], _ => rfl
  have D23 : Def K mg "_law_bent_part" s_law_bent_part ["store", "part"] := def_mk X G a23 l23 c23 k23 fun _ _ _ _ _ _ us hl => match us, hl with | [_, _], _ => rfl
  have D24 : Def K mg "_law_bent" s_law_bent ["store", "value"] := def_mk X G a24 l24 c24 k24 fun _ _ _ _ _ _ us hl => match us, hl with | [_, _], _ => rfl
  have D25 : Def K mg "_law_judged" s_law_judged ["store", "right"] := def_mk X G a25 l25 c25 k25 fun _ _ _ _ _ _ us hl => match us, hl with | [_, _], _ => rfl
  have D26 : Def K mg "_law_counted" s_law_counted ["value"] := def_mk X G a26 l26 c26 k26 fun _ _ _ _ _ _ us hl => match us, hl with | [_], _ => rfl
  have D27 : Def K mg "_law_near" s_law_near ["store"] := def_mk X G a27 l27 c27 k27 fun _ _ _ _ _ _ us hl => match us, hl with | [_], _ => rfl
  have D28 : Def K mg "_law_answers" s_law_answers ["value"] := def_mk X G a28 l28 c28 k28 fun _ _ _ _ _ _ us hl => match us, hl with | [_], _ => rfl
  have D29 : Def K mg "law" s_law ["script"] := def_mk X G a29 l29 c29 k29 fun _ _ _ _ _ _ us hl => match us, hl with | [_], _ => rfl
  have D : Ds K mg := ⟨D0, D1, D2, D3, D4, D5, D6, D7, D8, D9, D10, D11, D12, D13, D14, D15, D16, D17, D18, D19, D20, D21, D22, D23, D24, D25, D26, D27, D28⟩
  refine ⟨PySem.W.fnOf "law" "law" (defArgs s_law) (defBody s_law) (defScope s_law) .none kV29 dc29 pm29 an29 cd29 ct29, fun s v => .of_eq rfl, fun base _ _ => ?_⟩
  have c__law_mixed := ok_mixed (P := l.prog) (w := w) (K := K) (mg := mg) (base := base) Z D
  have c__law_take := ok_take (P := l.prog) (w := w) (K := K) (mg := mg) (base := base) Z D c__law_mixed
  have c__law_pick := ok_pick (P := l.prog) (w := w) (K := K) (mg := mg) (base := base) Z D c__law_take
  have c__law_place := ok_place (P := l.prog) (w := w) (K := K) (mg := mg) (base := base) Z D c__law_take
  have c__law_drawn := ok_drawn (P := l.prog) (w := w) (K := K) (mg := mg) (base := base) Z D c__law_take
  have c__law_either := ok_either (P := l.prog) (w := w) (K := K) (mg := mg) (base := base) Z D c__law_take
  have c__law_whole := ok_whole (P := l.prog) (w := w) (K := K) (mg := mg) (base := base) Z D c__law_take c__law_pick
  have c__law_sign := ok_sign (P := l.prog) (w := w) (K := K) (mg := mg) (base := base) Z D c__law_take
  have c__law_text := ok_text (P := l.prog) (w := w) (K := K) (mg := mg) (base := base) Z D c__law_place c__law_sign
  have c__law_leaf := ok_leaf (P := l.prog) (w := w) (K := K) (mg := mg) (base := base) Z D c__law_take c__law_text c__law_whole
  have c__law_value := ok_value (P := l.prog) (w := w) (K := K) (mg := mg) (base := base) Z D c__law_take c__law_leaf c__law_either
  have c__law_is_whole := ok_is_whole (P := l.prog) (w := w) (K := K) (mg := mg) (base := base) Z D
  have c__law_same := ok_same (P := l.prog) (w := w) (K := K) (mg := mg) (base := base) Z D c__law_is_whole
  have c__law_counted := ok_counted (P := l.prog) (w := w) (K := K) (mg := mg) (base := base) Z D c__law_is_whole
  have c_is_number := ok_is_number (P := l.prog) (w := w) (K := K) (mg := mg) (base := base) Z D
  have c_is_point := ok_is_point (P := l.prog) (w := w) (K := K) (mg := mg) (base := base) Z D c_is_number
  have c_is_move_on := ok_is_move_on (P := l.prog) (w := w) (K := K) (mg := mg) (base := base) Z D c_is_point
  have c_is_move := ok_is_move (P := l.prog) (w := w) (K := K) (mg := mg) (base := base) Z D c_is_move_on
  have c__law_move := ok_move (P := l.prog) (w := w) (K := K) (mg := mg) (base := base) Z D c__law_take c__law_drawn
  have c__law_bad_move := ok_bad_move (P := l.prog) (w := w) (K := K) (mg := mg) (base := base) Z D c__law_take c__law_place c__law_leaf
  have c__law_bent_text := ok_bent_text (P := l.prog) (w := w) (K := K) (mg := mg) (base := base) Z D c__law_take c__law_place c__law_sign c__law_pick
  have c__law_bent_leaf := ok_bent_leaf (P := l.prog) (w := w) (K := K) (mg := mg) (base := base) Z D c__law_take c__law_whole c__law_bent_text
  have c__law_bent_part := ok_bent_part (P := l.prog) (w := w) (K := K) (mg := mg) (base := base) Z D c__law_take c__law_place c__law_leaf
  have c__law_bent := ok_bent (P := l.prog) (w := w) (K := K) (mg := mg) (base := base) Z D c__law_take c__law_place c__law_bent_leaf c__law_bent_part
  have c__law_judged := ok_judged (P := l.prog) (w := w) (K := K) (mg := mg) (base := base) Z D c__law_take c__law_value c__law_bent
  have c__law_near := ok_near (P := l.prog) (w := w) (K := K) (mg := mg) (base := base) Z D c__law_take c__law_place c__law_pick c__law_drawn c__law_move c__law_whole c__law_bad_move c__law_value c__law_judged
  have c__law_store := ok_store (P := l.prog) (w := w) (K := K) (mg := mg) (base := base) Z D
  have c__law_frozen := ok_frozen (P := l.prog) (w := w) (K := K) (mg := mg) (base := base) Z D 9
  have c__law_answers := ok_answers (P := l.prog) (w := w) (K := K) (mg := mg) (base := base) Z D c__law_counted c__law_frozen c__law_same c_is_move
  exact ok_law Z D (fun_mk (st := s_law) l29 c29 k29) c__law_store c__law_place c__law_take c__law_move c__law_near c__law_answers c__law_same c_is_move c__law_counted c__law_drawn

end Hd
open PySem PySem.W PyProof.Rows
set_option maxHeartbeats 0 in
theorem PySem.Challenge.cw_heldorder_k00_moves_known_holds : PySem.Challenge.rw_heldorder_k00_moves_known.Holds := by
  w_on; o_law; k_head; (case hw => w_witness2)
  k_fill
  refine L2.walk_of (l := PySem.Challenge.rw_heldorder_k00_moves_known) (n := 63) (k := 11) (x := "script") (CX := fun _ => L2.CX0) (sp := fun w => Hd.spLaw _) rfl (by decide) rfl ⟨rfl, by decide, by decide⟩ (fun w h Y => PySem.W.kIn_of Y) ?F (fun _ _ a ns hl _ hS => Hd.spLaw_of hl hS) (fun _ _ _ _ _ h => h)
  case F =>
    intro w mg fa h KX G hmg
    refine' Hd.all_mk KX G hmg ?a0 ?l0 ?c0 ?k0 ?a1 ?l1 ?c1 ?k1 ?a2 ?l2 ?c2 ?k2 ?a3 ?l3 ?c3 ?k3 ?a4 ?l4 ?c4 ?k4 ?a5 ?l5 ?c5 ?k5 ?a6 ?l6 ?c6 ?k6 ?a7 ?l7 ?c7 ?k7 ?a8 ?l8 ?c8 ?k8 ?a9 ?l9 ?c9 ?k9 ?a10 ?l10 ?c10 ?k10 ?a11 ?l11 ?c11 ?k11 ?a12 ?l12 ?c12 ?k12 ?a13 ?l13 ?c13 ?k13 ?a14 ?l14 ?c14 ?k14 ?a15 ?l15 ?c15 ?k15 ?a16 ?l16 ?c16 ?k16 ?a17 ?l17 ?c17 ?k17 ?a18 ?l18 ?c18 ?k18 ?a19 ?l19 ?c19 ?k19 ?a20 ?l20 ?c20 ?k20 ?a21 ?l21 ?c21 ?k21 ?a22 ?l22 ?c22 ?k22 ?a23 ?l23 ?c23 ?k23 ?a24 ?l24 ?c24 ?k24 ?a25 ?l25 ?c25 ?k25 ?a26 ?l26 ?c26 ?k26 ?a27 ?l27 ?c27 ?k27 ?a28 ?l28 ?c28 ?k28 ?a29 ?l29 ?c29 ?k29 ?z_isinstance ?z_int ?z_bool ?z_str ?z_tuple ?z_list ?z_len ?z_range ?z_all ?z_sorted ?z_min ?z_max ?c_MOST_POINTS
    (case a0 => k_is)
    (case l0 => k_is)
    (case c0 => k_is)
    (case k0 => k_is)
    (case a1 => k_is)
    (case l1 => k_is)
    (case c1 => k_is)
    (case k1 => k_is)
    (case a2 => k_is)
    (case l2 => k_is)
    (case c2 => k_is)
    (case k2 => k_is)
    (case a3 => k_is)
    (case l3 => k_is)
    (case c3 => k_is)
    (case k3 => k_is)
    (case a4 => k_is)
    (case l4 => k_is)
    (case c4 => k_is)
    (case k4 => k_is)
    (case a5 => k_is)
    (case l5 => k_is)
    (case c5 => k_is)
    (case k5 => k_is)
    (case a6 => k_is)
    (case l6 => k_is)
    (case c6 => k_is)
    (case k6 => k_is)
    (case a7 => k_is)
    (case l7 => k_is)
    (case c7 => k_is)
    (case k7 => k_is)
    (case a8 => k_is)
    (case l8 => k_is)
    (case c8 => k_is)
    (case k8 => k_is)
    (case a9 => k_is)
    (case l9 => k_is)
    (case c9 => k_is)
    (case k9 => k_is)
    (case a10 => k_is)
    (case l10 => k_is)
    (case c10 => k_is)
    (case k10 => k_is)
    (case a11 => k_is)
    (case l11 => k_is)
    (case c11 => k_is)
    (case k11 => k_is)
    (case a12 => k_is)
    (case l12 => k_is)
    (case c12 => k_is)
    (case k12 => k_is)
    (case a13 => k_is)
    (case l13 => k_is)
    (case c13 => k_is)
    (case k13 => k_is)
    (case a14 => k_is)
    (case l14 => k_is)
    (case c14 => k_is)
    (case k14 => k_is)
    (case a15 => k_is)
    (case l15 => k_is)
    (case c15 => k_is)
    (case k15 => k_is)
    (case a16 => k_is)
    (case l16 => k_is)
    (case c16 => k_is)
    (case k16 => k_is)
    (case a17 => k_is)
    (case l17 => k_is)
    (case c17 => k_is)
    (case k17 => k_is)
    (case a18 => k_is)
    (case l18 => k_is)
    (case c18 => k_is)
    (case k18 => k_is)
    (case a19 => k_is)
    (case l19 => k_is)
    (case c19 => k_is)
    (case k19 => k_is)
    (case a20 => k_is)
    (case l20 => k_is)
    (case c20 => k_is)
    (case k20 => k_is)
    (case a21 => k_is)
    (case l21 => k_is)
    (case c21 => k_is)
    (case k21 => k_is)
    (case a22 => k_is)
    (case l22 => k_is)
    (case c22 => k_is)
    (case k22 => k_is)
    (case a23 => k_is)
    (case l23 => k_is)
    (case c23 => k_is)
    (case k23 => k_is)
    (case a24 => k_is)
    (case l24 => k_is)
    (case c24 => k_is)
    (case k24 => k_is)
    (case a25 => k_is)
    (case l25 => k_is)
    (case c25 => k_is)
    (case k25 => k_is)
    (case a26 => k_is)
    (case l26 => k_is)
    (case c26 => k_is)
    (case k26 => k_is)
    (case a27 => k_is)
    (case l27 => k_is)
    (case c27 => k_is)
    (case k27 => k_is)
    (case a28 => k_is)
    (case l28 => k_is)
    (case c28 => k_is)
    (case k28 => k_is)
    (case a29 => k_is)
    (case l29 => k_is)
    (case c29 => k_is)
    (case k29 => k_is)
    (case z_isinstance => k_is)
    (case z_int => k_is)
    (case z_bool => k_is)
    (case z_str => k_is)
    (case z_tuple => k_is)
    (case z_list => k_is)
    (case z_len => k_is)
    (case z_range => k_is)
    (case z_all => k_is)
    (case z_sorted => k_is)
    (case z_min => k_is)
    (case z_max => k_is)
    (case c_MOST_POINTS => k_is)
