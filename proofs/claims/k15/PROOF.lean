import PyProof.Rows.All
import Wide.All
import OpenK.AllK
import Wide.FinOn
import HandS.ForMost
import HandS.IsInst
import HandS.Conv
import HandS.SortInts
import HandS.Style
import HandS.TupAny
import HandS.Deep
import HandS.TupMul
import HandS.More
import HandS.Evl
import KE.KEqSeq
import HandS.HotCalls
import HandS.ExcCtx
import HandS.ExcInit
import HandS.ExcInitHot
import HandS.ExcField
import HandS.ExcIs
import HandS.RaiseFrom
import KE.KExcIs
import KE.GoesMore
import HandS.SetFor
import HandS.ExcValue
import HandS.Strs
import HandS.TupLen
import HandS.NamedTupSort
import KE.KDictSum
import HandS.Property
import HandS.Defaults
import HandS.OwnEq
import HandS.HeadNt
import HandS.Head0
import HandS.Head1
import HandS.Head2
import HandS.HeadEnd
import HandS.IterVal
import HandS.IterNext
import HandS.TupLe
import PySem.Challenge.RW_heldorder_k15_needless_told
set_option Elab.async false
set_option linter.all false
set_option maxRecDepth 100000
set_option maxHeartbeats 4000000
namespace Hd
open PySem PySem.Spec PyProof.Rows L2

/-! ### defs of the text, promises of callees -/
def Def (K : PySem.W.Frag) (mg : Str → Option Value) (x : Str) (st : Stmt) (ps : List Str) : Prop :=
  ∃ f fd, Fun K x x st f fd ∧ mg x = some (.ref f) ∧ Binds K fd ps []
def Cal (P : Program) (w : World) (K : PySem.W.Frag) (mg : Str → Option Value) (base : Heap) (x : Str) (k : Nat) (ps : List Str) (sp : Sp) : Prop :=
  ∃ f fd, FnOk P w K mg base CX0 k f fd ps sp ∧ mg x = some (.ref f) ∧ PySem.W.keepIn K (.ref f) = true ∧ Binds K fd ps []
section
variable {P : Program} {w : World} {K : PySem.W.Frag} {mg : Str → Option Value} {base : Heap} {x : Str} {st : Stmt} {ps N : List Str} {k : Nat} {sp : Sp}
theorem Def.cal (D : Def K mg x st ps) (S : FnScope N ps (defScope st)) (len : ∀ vs H Q E, sp vs H Q E → vs.length = ps.length)
    (hbody : ∀ (f : Addr) (cdv : Value) (A : Around) (outer : List Env) (s : Shared) (H : Hp) (vs : List V) (Q : VK) (E : XK), Room k (A.deeper (envOfC x (defScope st) s.heap.objs.size f cdv)) → sp vs H Q E →
      ∃ t, PSs (cxOf CX0 P w K mg base N x (defScope st) f cdv A outer s H E).nox (defBody st) t ∧ t { nx := fun _ H' => Q .non H', rt := Q } (start N vs) H) : Cal P w K mg base x (k + 1) ps sp := by
  obtain ⟨f, fd, F, g, b⟩ := D
  exact ⟨f, fd, F.ok S len (fun cdv A outer s H vs Q E hr h => hbody f cdv A outer s H vs Q E hr h), g, F.kp, b⟩
end
section
variable {X : Cx} {x : Str} {p pos : Pos} {e : Expr} {es : List Expr} {k : Nat} {ps : List Str} {sp : Sp} {t : TA}
theorem pe_cal (C : Cal X.prog X.w X.K X.mg X.base x k ps sp) (hr : Room k X.A) (hg : Gl X x) (ha : PA X (e :: es) t) (hdb : (x == ("__debug__" : Str)) = false := by decide)
    (he : starEach (e :: es) X.env = (false, eval e X.env) :: starEach es X.env := by rfl) (hpl : (backTo pos (starEach es X.env)).any (·.1) = false := by rfl) :
    PE X (.Call (.Name x p) (e :: es) [] pos) (tCall sp [] E0 t) := by
  obtain ⟨f, fd, F, g, kp, b⟩ := C
  exact pe_call F hr hg g kp b .nil pass0 ha hdb he hpl
end
section
variable {X : Cx}
theorem pe_globI {x : Str} {n : Int} {pos : Pos} (hg : Gl X x) (hm : ∃ t, X.mg x = some (.int n t)) (hd : (x == ("__debug__" : Str)) = false := by decide) : PE X (.Name x pos) (tC (.int n)) := by
  obtain ⟨t, h⟩ := hm
  exact pe_glob hg h ⟨t, rfl⟩ hd
end
/-! ### nested data that stands in a part of the heap -/
mutual
inductive Da (H : Hp) : V → PyData → Prop
  | non : Da H .non .none
  | bl (b : Bool) : Da H (.bl b) (.bool b)
  | int (i : Int) : Da H (.int i) (.int i)
  | str (x : Str) : Da H (.str x) (.str x)
  | lst {a : Addr} {xs : List V} {ds : List PyData} : H a = some (.lst xs) → DaAll H xs ds → Da H (.ref a) (.list ds)
  | tup {a : Addr} {xs : List V} {ds : List PyData} : H a = some (.tup xs) → DaAll H xs ds → Da H (.ref a) (.tuple ds)
inductive DaAll (H : Hp) : List V → List PyData → Prop
  | nil : DaAll H [] []
  | cons {v : V} {vs : List V} {d : PyData} {ds : List PyData} : Da H v d → DaAll H vs ds → DaAll H (v :: vs) (d :: ds)
end
mutual
theorem Da.mono {H H' : Hp} (g : Same H H') : ∀ (d : PyData) (v : V), Da H v d → Da H' v d
  | .none, _, h => by cases h; exact .non
  | .bool b, _, h => by cases h; exact .bl b
  | .int b, _, h => by cases h; exact .int b
  | .str b, _, h => by cases h; exact .str b
  | .list ds, _, h => by
    cases h with
    | lst a b => exact .lst (g _ _ a) (DaAll.mono g ds _ b)
  | .tuple ds, _, h => by
    cases h with
    | tup a b => exact .tup (g _ _ a) (DaAll.mono g ds _ b)
  | .dict _, _, h => by cases h
theorem DaAll.mono {H H' : Hp} (g : Same H H') : ∀ (ds : List PyData) (vs : List V), DaAll H vs ds → DaAll H' vs ds
  | [], _, h => by cases h; exact .nil
  | d :: ds, _, h => by
    cases h with
    | cons a b => exact .cons (Da.mono g d _ a) (DaAll.mono g ds _ b)
end
theorem Da.up {H H' : Hp} (g : Same H H') {v : V} {d : PyData} (h : Da H v d) : Da H' v d := Da.mono g d v h
theorem DaAll.up {H H' : Hp} (g : Same H H') {v : List V} {d : List PyData} (h : DaAll H v d) : DaAll H' v d := DaAll.mono g d v h
mutual
theorem Da.dp {K : PySem.W.Frag} {H : Hp} : ∀ (d : PyData) (v : V), Da H v d → Dp K H v d
  | .none, _, h => by cases h; exact .non
  | .bool b, _, h => by cases h; exact .bl b
  | .int b, _, h => by cases h; exact .int b
  | .str b, _, h => by cases h; exact .str b
  | .list ds, _, h => by
    cases h with
    | lst a b => exact .lst (.inl (.inl a)) (DaAll.dp ds _ b)
  | .tuple ds, _, h => by
    cases h with
    | tup a b => exact .tup (.inl (.inl a)) (DaAll.dp ds _ b)
  | .dict _, _, h => by cases h
theorem DaAll.dp {K : PySem.W.Frag} {H : Hp} : ∀ (ds : List PyData) (vs : List V), DaAll H vs ds → DpAll K H vs ds
  | [], _, h => by cases h; exact .nil
  | d :: ds, _, h => by
    cases h with
    | cons a b => exact .cons (Da.dp d _ a) (DaAll.dp ds _ b)
end
theorem DaAll.length {H : Hp} : ∀ {ds : List PyData} {vs : List V}, DaAll H vs ds → vs.length = ds.length
  | [], _, h => by cases h; rfl
  | d :: ds, _, h => by
    cases h with
    | cons a b => rw [List.length_cons, List.length_cons, DaAll.length b]
theorem DaAll.get {H : Hp} : ∀ {ds : List PyData} {vs : List V} {i : Nat} {v : V}, DaAll H vs ds → vs[i]? = some v → ∃ d, ds[i]? = some d ∧ Da H v d
  | [], _, i, v, h, e => by cases h; simp at e
  | d :: ds, _, 0, v, h, e => by
    cases h with
    | cons a b =>
      have e' := Option.some.inj e
      subst e'
      exact ⟨d, rfl, a⟩
  | d :: ds, _, i + 1, v, h, e => by
    cases h with
    | cons a b => exact DaAll.get (i := i) b e
/-- isinstance of nested data -/
def tyD : PyData → String
  | .none => "NoneType"
  | .bool _ => "bool"
  | .int _ => "int"
  | .str _ => "str"
  | .list _ => "list"
  | .tuple _ => "tuple"
  | .dict _ => "dict"
theorem Da.ty {K : PySem.W.Frag} {G H : Hp} (g : Same G H) {v : V} {d : PyData} (h : Da G v d) : TyX K H v (.type (tyD d)) := by
  cases h with
  | non => exact .base .non
  | bl b => exact .base (.bl b)
  | int b => exact .base (.int b)
  | str b => exact .base (.str b)
  | lst a b => exact .base (.lst (g _ _ a))
  | tup a b => exact .base (.tup (g _ _ a))
/-- isinstance(x, T) for T of int, bool, tuple, list, str: the answer -/
def instB (d : PyData) (T : String) : Bool := tyD d == T || (T == "int" && tyD d == "bool")
theorem kit_da {K : PySem.W.Frag} {H : Hp} {v : V} {d : PyData} (h : Da H v d) {T : String} (hT : T = "int" ∨ T = "bool" ∨ T = "tuple" ∨ T = "list" ∨ T = "str") : PySem.W.kitOne K (.type (tyD d)) (.type T) = some (instB d T) := by
  refine kit_ty ?_
  have e : tyD d = "NoneType" ∨ tyD d = "bool" ∨ tyD d = "int" ∨ tyD d = "str" ∨ tyD d = "list" ∨ tyD d = "tuple" := by
    cases h with
    | non => exact .inl rfl
    | bl b => exact .inr (.inl rfl)
    | int b => exact .inr (.inr (.inl rfl))
    | str b => exact .inr (.inr (.inr (.inl rfl)))
    | lst a b => exact .inr (.inr (.inr (.inr (.inl rfl))))
    | tup a b => exact .inr (.inr (.inr (.inr (.inr rfl))))
  unfold instB
  rcases hT with rfl | rfl | rfl | rfl | rfl <;> rcases e with e | e | e | e | e | e <;> rw [e] <;> decide +kernel
theorem rIsi_da {K : PySem.W.Frag} {G H : Hp} {Q : VK} (g : Same G H) {v : V} {d : PyData} (h : Da G v d) {T : String} (hT : T = "int" ∨ T = "bool" ∨ T = "tuple" ∨ T = "list" ∨ T = "str") (q : Q (.bl (instB d T)) H) : rIsi K [v, .ty T] H Q :=
  ⟨v, .ty T, _, _, instB d T, rfl, ClsV.ty T, h.ty g, kit_da h hT, q⟩
end Hd

namespace Hd
open PySem PySem.Spec PyProof.Rows L2
/-! ### heaps: what changed -/
/-- a new object o at p -/
structure New (H : Hp) (p : Addr) (o : HO) (H' : Hp) : Prop where
  fr : H p = none
  eq : H' = upd H p o
theorem New.at {H H' : Hp} {p : Addr} {o : HO} (n : New H p o H') : H' p = some o := by rw [n.eq]; exact upd_same
theorem New.same {H H' : Hp} {p : Addr} {o : HO} (n : New H p o H') : Same H H' := fun b u e => by
  rw [n.eq, upd_ne (ne_of_none e n.fr)]
  exact e
theorem New.ne {H H' : Hp} {p a : Addr} {o : HO} (n : New H p o H') (h : H a ≠ none) : a ≠ p := fun e => h (by rw [e]; exact n.fr)
/-- a tuple: it never changes, so it may be known at any time -/
def isT : HO → Bool
  | .tup _ => true
  | _ => false
/-- G is the part of the heap H that no longer changes; from (G, H) to (G', H'): all of G kept, only new objects known, all objects of H but that at S kept -/
structure Stp (S : Addr) (G H G' H' : Hp) : Prop where
  gg : Same G G'
  gh : Same G' H'
  nw : ∀ b o, H b = some o → isT o = false → G b = none → G' b = none
  hh : ∀ b o, b ≠ S → H b = some o → H' b = some o
  al : ∀ b o, H b = some o → ∃ o', H' b = some o' ∧ (isT o = false → isT o' = false)
structure Stq (G H G' H' : Hp) : Prop where
  gg : Same G G'
  gh : Same G' H'
  nw : ∀ b o, H b = some o → isT o = false → G b = none → G' b = none
  hh : Same H H'
theorem ne_none {H : Hp} {b : Addr} {o : HO} (h : H b = some o) : H b ≠ none := by rw [h]; intro z; cases z
theorem Stq.al {G H G' H' : Hp} (s : Stq G H G' H') : ∀ b o, H b = some o → ∃ o', H' b = some o' ∧ (isT o = false → isT o' = false) := fun b o h => ⟨o, s.hh _ _ h, id⟩
theorem Stp.refl {S : Addr} {G H : Hp} (g : Same G H) : Stp S G H G H := ⟨Same.refl _, g, fun _ _ _ _ h => h, fun _ _ _ h => h, fun _ o h => ⟨o, h, id⟩⟩
theorem Stq.refl {G H : Hp} (g : Same G H) : Stq G H G H := ⟨Same.refl _, g, fun _ _ _ _ h => h, Same.refl _⟩
theorem Stp.trans {S : Addr} {G H G1 H1 G2 H2 : Hp} (a : Stp S G H G1 H1) (b : Stp S G1 H1 G2 H2) : Stp S G H G2 H2 :=
  ⟨a.gg.trans b.gg, b.gh, fun c o h t g => by
    obtain ⟨o1, h1, k⟩ := a.al c o h
    exact b.nw c o1 h1 (k t) (a.nw c o h t g), fun c o n h => b.hh c o n (a.hh c o n h), fun c o h => by
    obtain ⟨o1, h1, k⟩ := a.al c o h
    obtain ⟨o2, h2, k2⟩ := b.al c o1 h1
    exact ⟨o2, h2, fun t => k2 (k t)⟩⟩
theorem Stq.trans {G H G1 H1 G2 H2 : Hp} (a : Stq G H G1 H1) (b : Stq G1 H1 G2 H2) : Stq G H G2 H2 :=
  ⟨a.gg.trans b.gg, b.gh, fun c o h t g => b.nw c o (a.hh c o h) t (a.nw c o h t g), a.hh.trans b.hh⟩
theorem Stq.p {S : Addr} {G H G' H' : Hp} (s : Stq G H G' H') : Stp S G H G' H' := ⟨s.gg, s.gh, s.nw, fun b o _ h => s.hh b o h, s.al⟩
theorem Stp.q {S : Addr} {G H G1 H1 G2 H2 : Hp} (a : Stp S G H G1 H1) (b : Stq G1 H1 G2 H2) : Stp S G H G2 H2 := a.trans b.p
/-- a new object, known -/
theorem same_upd {G H : Hp} (g : Same G H) {p : Addr} {o : HO} (h : H p = none) : Same (upd G p o) (L2.upd H p o) := fun b u e => by
  by_cases hb : b = p
  · subst hb
    rw [upd_same] at e
    rw [upd_same]
    exact e
  · rw [upd_ne hb] at e
    rw [upd_ne hb]
    exact g _ _ e
theorem Stq.know {G H H' : Hp} {p : Addr} {o : HO} (g : Same G H) (n : New H p o H') : ∃ G', Stq G H G' H' ∧ G' p = some o ∧ ∀ b, b ≠ p → G' b = G b := by
  refine ⟨upd G p o, ⟨fun b u e => ?_, ?_, fun b o' h _ e => ?_, n.same⟩, upd_same, fun b h => upd_ne h⟩
  · rw [upd_ne (ne_of_none (g _ _ e) n.fr)]
    exact e
  · rw [n.eq]
    exact same_upd g n.fr
  · rw [upd_ne (n.ne (ne_none h))]
    exact e
/-- a new object, not (yet) known: it may change -/
theorem Stq.loc {G H H' : Hp} {p : Addr} {o : HO} (g : Same G H) (n : New H p o H') : Stq G H G H' ∧ G p = none ∧ H' p = some o :=
  ⟨⟨Same.refl _, g.trans n.same, fun _ _ _ _ h => h, n.same⟩, g.free n.fr, n.at⟩
/-- it has changed -/
theorem Stp.mut {S : Addr} {G0 H0 G H H' : Hp} (s : Stp S G0 H0 G H) {l : Addr} {o : HO} (g : G l = none) (f : H0 l = none) (e : H' = upd H l o) : Stp S G0 H0 G H' := by
  subst e
  refine ⟨s.gg, fun b u h => ?_, s.nw, fun b u n h => ?_, fun b u h => ?_⟩
  · rw [upd_ne (ne_of_none h g)]
    exact s.gh _ _ h
  · rw [upd_ne (ne_of_none h f)]
    exact s.hh b u n h
  · rw [upd_ne (ne_of_none h f)]
    exact s.al b u h
theorem Stq.mut {G0 H0 G H H' : Hp} (s : Stq G0 H0 G H) {l : Addr} {o : HO} (g : G l = none) (f : H0 l = none) (e : H' = upd H l o) : Stq G0 H0 G H' := by
  subst e
  refine ⟨s.gg, fun b u h => ?_, s.nw, fun b u h => ?_⟩
  · rw [upd_ne (ne_of_none h g)]
    exact s.gh _ _ h
  · rw [upd_ne (ne_of_none h f)]
    exact s.hh b u h
/-- it is known from now on -/
theorem Stp.frz {S : Addr} {G0 H0 G H : Hp} (s : Stp S G0 H0 G H) {l : Addr} {o : HO} (g : G l = none) (f : H0 l = none) (h : H l = some o) : ∃ G', Stp S G0 H0 G' H ∧ Same G G' ∧ G' l = some o ∧ ∀ b, b ≠ l → G' b = G b := by
  have gn : Same G (upd G l o) := fun b u e => by
    rw [upd_ne (ne_of_none e g)]
    exact e
  refine ⟨upd G l o, ⟨s.gg.trans gn, fun b u e => ?_, fun b u hb t e => ?_, s.hh, s.al⟩, gn, upd_same, fun b h => upd_ne h⟩
  · by_cases q : b = l
    · subst q
      rw [upd_same] at e
      rw [h]
      exact e
    · rw [upd_ne q] at e
      exact s.gh _ _ e
  · rw [upd_ne (ne_of_none hb f)]
    exact s.nw b u hb t e
theorem Stq.frz {G0 H0 G H : Hp} (s : Stq G0 H0 G H) {l : Addr} {o : HO} (g : G l = none) (f : H0 l = none) (h : H l = some o) : ∃ G', Stq G0 H0 G' H ∧ Same G G' ∧ G' l = some o ∧ ∀ b, b ≠ l → G' b = G b := by
  have gn : Same G (upd G l o) := fun b u e => by
    rw [upd_ne (ne_of_none e g)]
    exact e
  refine ⟨upd G l o, ⟨s.gg.trans gn, fun b u e => ?_, fun b u hb t e => ?_, s.hh⟩, gn, upd_same, fun b h => upd_ne h⟩
  · by_cases q : b = l
    · subst q
      rw [upd_same] at e
      rw [h]
      exact e
    · rw [upd_ne q] at e
      exact s.gh _ _ e
  · rw [upd_ne (ne_of_none hb f)]
    exact s.nw b u hb t e
/-! ### readings in a form of our own -/
section
variable {X : Cx} {e : Expr} {t t' : TE}
theorem PE.mono (h : PE X e t) (m : ∀ σ H Q, t' σ H Q → t σ H Q) : PE X e t' := ⟨fun pins s σ H Q I q => h.run pins s σ H Q I (m σ H Q q)⟩
theorem PT.mono {t t' : TT} (h : PT X e t) (m : ∀ σ H Q, t' σ H Q → t σ H Q) : PT X e t' := ⟨fun pins s σ H Q I q => h.run pins s σ H Q I (m σ H Q q)⟩
theorem callR_mono {f : Value} {r r' : List V → Hp → VK → Prop} (h : CallR X f r) (m : ∀ xs H Q, r' xs H Q → r xs H Q) : CallR X f r' := fun pins s σ H xs us Q I rv q => h pins s σ H xs us Q I rv (m _ _ _ q)
theorem opR_mono {f : Value → Value → Sem Value} {r r' : R2} (h : OpR X f r) (m : ∀ x y H Q, r' x y H Q → r x y H Q) : OpR X f r' := fun pins s σ H x y v u Q I rx ry q => h pins s σ H x y v u Q I rx ry (m _ _ _ _ q)
theorem mtR_mono {id : String} {r r' : V → List V → Hp → VK → Prop} (h : MtR X id r) (m : ∀ x xs H Q, r' x xs H Q → r x xs H Q) : MtR X id r' := fun pins s σ H x xs v us Q I rx rxs q => h pins s σ H x xs v us Q I rx rxs (m _ _ _ _ q)
theorem slR_mono {r r' : V → Option Int → Option Int → Hp → VK → Prop} (h : SlR X r) (m : ∀ x a b H Q, r' x a b H Q → r x a b H Q) : SlR X r' := fun pins s σ H x v vl vu lo hi sl Q I rx hs pl pu q => h pins s σ H x v vl vu lo hi sl Q I rx hs pl pu (m _ _ _ _ _ q)
end
section
variable {X : Cx}
def rLstN (t : TA) : TE := fun σ H Q => t σ H fun xs H1 => xs.length ≤ sizeLine ∧ ∀ p H2, New H1 p (.lst xs) H2 → Q (.ref p) H2
def rTupN (t : TA) : TE := fun σ H Q => t σ H fun xs H1 => xs.length ≤ sizeLine ∧ ∀ p H2, New H1 p (.tup xs) H2 → Q (.ref p) H2
theorem newAll {H : Hp} {o : HO} {K : Addr → Hp → Prop} : (∀ p H2, New H p o H2 → K p H2) ↔ ∀ p, H p = none → K p (upd H p o) :=
  ⟨fun h p e => h p _ ⟨e, rfl⟩, fun h p H2 n => by rw [n.eq]; exact h p n.fr⟩
theorem rLstN_eq (t : TA) : rLstN t = tLst t := funext fun σ => funext fun H => funext fun Q =>
  congrArg (t σ H) (funext fun xs => funext fun H1 => propext (and_congr_right fun _ => newAll (K := fun p H2 => Q (.ref p) H2)))
theorem rTupN_eq (t : TA) : rTupN t = tTup t := funext fun σ => funext fun H => funext fun Q =>
  congrArg (t σ H) (funext fun xs => funext fun H1 => propext (and_congr_right fun _ => newAll (K := fun p H2 => Q (.ref p) H2)))
theorem pe_lstN {es : List Expr} {t : TA} {pos : Pos} (h : PA X es t) : PE X (.List es pos) (rLstN t) := by
  rw [rLstN_eq]
  exact pe_lst h
theorem pe_tupN {es : List Expr} {t : TA} {x1 : Nat} {pos : Pos} (h : PA X es t) : PE X (.Tuple es x1 pos) (rTupN t) := by
  rw [rTupN_eq]
  exact pe_tup h
/-- list(xs), of a list or tuple -/
def rListN (K : PySem.W.Frag) : List V → Hp → VK → Prop := fun xs H Q => ∃ p ys, xs = [.ref p] ∧ (SqL K H p ys ∨ SqT K H p ys) ∧ ∀ l H2, New H l (.lst ys) H2 → Q (.ref l) H2
theorem call_listN : CallR X (.type "list") (rListN X.K) := callR_mono call_list_of fun xs H Q h => by
  obtain ⟨p, ys, e, h, q⟩ := h
  exact ⟨p, ys, e, h, fun l hl => q l _ ⟨hl, rfl⟩⟩
/-- tuple(xs), of a list -/
def rTupleN (K : PySem.W.Frag) : List V → Hp → VK → Prop := fun xs H Q => ∃ p ys, xs = [.ref p] ∧ SqL K H p ys ∧ ∀ l H2, New H l (.tup ys) H2 → Q (.ref l) H2
theorem call_tupleN : CallR X (.type "tuple") (rTupleN X.K) := callR_mono call_tuple_of fun xs H Q h => by
  obtain ⟨p, ys, e, h, q⟩ := h
  exact ⟨p, ys, e, .inl ⟨h, fun l hl => q l _ ⟨hl, rfl⟩⟩⟩
/-- list(range(..)) -/
def tLstRgN (te : L2.St → Hp → (Int → Int → Hp → Prop) → Prop) : TE := fun σ H Q => te σ H fun a b H1 => RgOk a b ∧ ∀ q H2, New H1 q (.lst (rgV a b)) H2 → Q (.ref q) H2
def tTupRgN (te : L2.St → Hp → (Int → Int → Hp → Prop) → Prop) : TE := fun σ H Q => te σ H fun a b H1 => RgOk a b ∧ ∀ q H2, New H1 q (.tup (rgV a b)) H2 → Q (.ref q) H2
/-- xs[a:b] of a list -/
def rSlLN (K : PySem.W.Frag) : V → Option Int → Option Int → Hp → VK → Prop := fun x lo hi H Q => ∃ a xs, x = .ref a ∧ SqL K H a xs ∧ ∀ p H2, New H p (.lst (cutV xs lo hi)) H2 → Q (.ref p) H2
theorem sl_listN : SlR X (rSlLN X.K) := slR_mono sl_list fun x lo hi H Q h => by
  obtain ⟨a, xs, e, h, q⟩ := h
  exact ⟨a, xs, e, h, fun p hp => q p _ ⟨hp, rfl⟩⟩
/-- methods that change a list -/
def rAppendN : V → List V → Hp → VK → Prop := fun x vs H Q => ∃ l xs y, x = .ref l ∧ vs = [y] ∧ H l = some (.lst xs) ∧ xs.length < sizeLine ∧ ∀ H2, H2 = upd H l (.lst (xs ++ [y])) → Q .non H2
theorem mt_appendN : MtR X "list.append" rAppendN := mtR_mono mt_append fun x xs H Q h => by
  obtain ⟨l, zs, y, e1, e2, h, z, q⟩ := h
  exact ⟨l, zs, y, e1, e2, h, z, q _ rfl⟩
/-- xs.pop(i), 0 ≤ i < len(xs) -/
def rPopAtN : V → List V → Hp → VK → Prop := fun x vs H Q => ∃ l xs i k y, x = .ref l ∧ vs = [.int i] ∧ H l = some (.lst xs) ∧ i = ((k : Nat) : Int) ∧ k < 2 ^ 63 ∧ xs[k]? = some y ∧ ∀ H2, H2 = upd H l (.lst (xs.eraseIdx k)) → Q y H2
theorem seqIndex_nat {n k : Nat} (h : k < n) : seqIndex? (k : Int) n = some k := by
  have := ixN_seq (n := n) (i := (k : Int)) (j := k) (by
    unfold ixN
    rw [if_pos (by omega), if_pos (by omega)]
    rfl)
  exact this.1
theorem mt_popAtN : MtR X "list.pop" rPopAtN := mtR_mono mt_popAt fun x xs H Q h => by
  obtain ⟨l, zs, i, k, y, e1, e2, h, rfl, b, z, q⟩ := h
  exact ⟨l, zs, _, k, y, e1, e2, h, by omega, by omega, seqIndex_nat (List.getElem?_eq_some_iff.mp z).1, z, q _ rfl⟩
def rInsertN : V → List V → Hp → VK → Prop := fun x vs H Q => ∃ (l : Addr) (xs : List V) (i : Int) (y : V), x = .ref l ∧ vs = [.int i, y] ∧ H l = some (.lst xs) ∧ xs.length < sizeLine ∧ 0 ≤ i ∧ i < 2 ^ 63 ∧
    ∀ H2, H2 = upd H l (.lst (xs.take i.toNat ++ [y] ++ xs.drop i.toNat)) → Q .non H2
theorem mt_insertN : MtR X "list.insert" rInsertN := mtR_mono mt_insert fun x xs H Q h => by
  obtain ⟨l, zs, i, y, e1, e2, h, z, a, b, q⟩ := h
  exact ⟨l, zs, i, y, e1, e2, h, z, a, b, q _ rfl⟩
def rSetN : V → V → V → Hp → (Hp → Prop) → Prop := fun o i v H Q => ∃ p xs k, o = .ref p ∧ i = .int ((k : Nat) : Int) ∧ H p = some (.lst xs) ∧ k < xs.length ∧ ∀ H2, H2 = upd H p (.lst (xs.set k v)) → Q H2
theorem ixN_of {n k : Nat} (h : k < n) : ixN n (k : Int) = some k := by
  unfold ixN
  rw [if_pos (by omega), if_pos (by omega)]
  rfl
theorem set_listN : PSet X rSetN := fun pins s σ H o i v uo ui uv Q I ro ri rv h => by
  obtain ⟨p, xs, k, e1, e2, h, z, q⟩ := h
  exact set_list pins s σ H o i v uo ui uv Q I ro ri rv ⟨p, xs, _, k, e1, e2, h, ixN_of z, q _ rfl⟩
/-- xs + ys of two lists -/
def rCatN : R2 := fun x y H Q => ∃ l b xs zs, x = .ref l ∧ y = .ref b ∧ H l = some (.lst xs) ∧ H b = some (.lst zs) ∧ xs.length + zs.length ≤ sizeLine ∧ ∀ p H2, New H p (.lst (xs ++ zs)) H2 → Q (.ref p) H2
theorem op_catN : OpR X (binaryOp .Add) rCatN := opR_mono op_cat fun x y H Q h => by
  obtain ⟨l, b, xs, zs, e1, e2, h1, h2, z, q⟩ := h
  exact ⟨l, b, xs, zs, e1, e2, h1, h2, z, fun p hp => q p _ ⟨hp, rfl⟩⟩
/-- isinstance(x, T) of nested data -/
def okT (T : String) : Prop := T = "int" ∨ T = "bool" ∨ T = "tuple" ∨ T = "list" ∨ T = "str"
theorem ok_int : okT "int" := .inl rfl
theorem ok_bool : okT "bool" := .inr (.inl rfl)
theorem ok_tuple : okT "tuple" := .inr (.inr (.inl rfl))
theorem ok_list : okT "list" := .inr (.inr (.inr (.inl rfl)))
theorem ok_str : okT "str" := .inr (.inr (.inr (.inr rfl)))
def rIsD : List V → Hp → VK → Prop := fun xs H Q => ∃ v d T, xs = [v, .ty T] ∧ Da H v d ∧ okT T ∧ Q (.bl (instB d T)) H
theorem call_isD : CallR X (.builtin "isinstance") rIsD := callR_mono call_isi fun xs H Q h => by
  obtain ⟨v, d, T, rfl, hd, hT, q⟩ := h
  exact rIsi_da (Same.refl H) hd hT q
theorem kitAny_two {K : PySem.W.Frag} {t a b : Value} {x y : Bool} (h1 : PySem.W.kitOne K t a = some x) (h2 : PySem.W.kitOne K t b = some y) : PySem.W.kitAny K t [a, b] = some (x || y) := by
  unfold PySem.W.kitAny
  rw [h1]
  cases x with
  | true => rfl
  | false =>
    show PySem.W.kitAny K t [b] = some y
    unfold PySem.W.kitAny
    rw [h2]
    cases y <;> rfl
/-- isinstance(x, (list, tuple)) -/
def rIsD2 : List V → Hp → VK → Prop := fun xs H Q => ∃ v d tp, xs = [v, .ref tp] ∧ H tp = some (.tup [.ty "list", .ty "tuple"]) ∧ Da H v d ∧ Q (.bl (instB d "list" || instB d "tuple")) H
theorem call_isD2 : CallR X (.builtin "isinstance") rIsD2 := callR_mono call_isiT fun xs H Q h => by
  obtain ⟨v, d, tp, rfl, ht, hd, q⟩ := h
  refine ⟨v, tp, _, _, [.type "list", .type "tuple"], _, rfl, ht, .cons (.ty _) (.cons (.ty _) .nil), hd.ty (Same.refl H), kitAny_two (kit_da hd (.inr (.inr (.inr (.inl rfl))))) (kit_da hd (.inr (.inr (.inl rfl)))), q⟩
section
variable {e : Expr} {te : L2.St → Hp → (Int → Int → Hp → Prop) → Prop}
theorem lstRg_eq (te : L2.St → Hp → (Int → Int → Hp → Prop) → Prop) : tLstRgN te = tLstRg te := funext fun σ => funext fun H => funext fun Q =>
  congrArg (te σ H) (funext fun a => funext fun b => funext fun H1 => propext (and_congr_right fun _ => newAll (K := fun p H2 => Q (.ref p) H2)))
theorem tupRg_eq (te : L2.St → Hp → (Int → Int → Hp → Prop) → Prop) : tTupRgN te = tTupRg te := funext fun σ => funext fun H => funext fun Q =>
  congrArg (te σ H) (funext fun a => funext fun b => funext fun H1 => propext (and_congr_right fun _ => newAll (K := fun p H2 => Q (.ref p) H2)))
theorem pe_listRgN {p pos : Pos} (hc : X.calm = true) (hg : Gl X "list") (hm : X.mg "list" = none) (he : PRg X e te) (na : starEach [e] X.env = (false, eval e X.env) :: starEach [] X.env := by rfl) :
    PE X (.Call (.Name "list" p) [e] [] pos) (tLstRgN te) := by
  rw [lstRg_eq]
  exact pe_listRg hc hg hm he na
theorem pe_tupRgN {p pos : Pos} (hc : X.calm = true) (hg : Gl X "tuple") (hm : X.mg "tuple" = none) (he : PRg X e te) (na : starEach [e] X.env = (false, eval e X.env) :: starEach [] X.env := by rfl) :
    PE X (.Call (.Name "tuple" p) [e] [] pos) (tTupRgN te) := by
  rw [tupRg_eq]
  exact pe_tupRg hc hg hm he na
end
/-- is, is not: nested data against True, False -/
def rIsBD : R2 := fun x y H Q => ∃ d b, Da H x d ∧ y = .bl b ∧ Q (.bl (decide (x = .bl b))) H
def rNotBD : R2 := fun x y H Q => ∃ d b, Da H x d ∧ y = .bl b ∧ Q (.bl (!decide (x = .bl b))) H
theorem plain_bl {H : Hp} {x : V} {d : PyData} {v : Value} {b : Bool} (h : Da H x d) (r : RelV x v) : plainIs v (.bool b) = true := by
  cases h with
  | non => cases r; rfl
  | bl c => cases r; rfl
  | int i => obtain ⟨t, rfl⟩ := r; rfl
  | str i => obtain ⟨t, rfl⟩ := r; rfl
  | lst a c => cases r; rfl
  | tup a c => cases r; rfl
theorem rel_bl {H : Hp} {x : V} {d : PyData} {v : Value} {b : Bool} (h : Da H x d) (r : RelV x v) : v = .bool b ↔ x = .bl b := by
  cases h with
  | non => cases r; exact ⟨(fun z => nomatch z), (fun z => nomatch z)⟩
  | bl c => cases r; exact ⟨fun z => by cases z; rfl, fun z => by cases z; rfl⟩
  | int i => obtain ⟨t, rfl⟩ := r; exact ⟨(fun z => nomatch z), (fun z => nomatch z)⟩
  | str i => obtain ⟨t, rfl⟩ := r; exact ⟨(fun z => nomatch z), (fun z => nomatch z)⟩
  | lst a c => cases r; exact ⟨(fun z => nomatch z), (fun z => nomatch z)⟩
  | tup a c => cases r; exact ⟨(fun z => nomatch z), (fun z => nomatch z)⟩
theorem op_isBD : OpR X (compareOp .Is) rIsBD := by
  intro pins s σ H x y v u Q I rx ry h
  obtain ⟨d, b, hd, rfl, q⟩ := h
  cases (show u = Value.bool b from ry)
  have q' : Q (.bl (decide (x = .bl b))) H := q
  by_cases e : x = .bl b
  · have ev := (rel_bl hd rx).mpr e
    subst ev
    rw [decide_eq_true e] at q'
    exact wpAny_is_self (by rfl) ⟨.bl true, H, I, rfl, q'⟩
  · rw [decide_eq_false e] at q'
    exact wpAny_is_other (plain_bl hd rx) (fun z => e ((rel_bl hd rx).mp z)) ⟨.bl false, H, I, rfl, q'⟩
theorem op_notBD : OpR X (compareOp .IsNot) rNotBD := by
  intro pins s σ H x y v u Q I rx ry h
  obtain ⟨d, b, hd, rfl, q⟩ := h
  cases (show u = Value.bool b from ry)
  have q' : Q (.bl (!decide (x = .bl b))) H := q
  by_cases e : x = .bl b
  · have ev := (rel_bl hd rx).mpr e
    subst ev
    rw [decide_eq_true e] at q'
    exact wpAny_isNot_self (by rfl) ⟨.bl false, H, I, rfl, q'⟩
  · rw [decide_eq_false e] at q'
    exact wpAny_isNot_other (plain_bl hd rx) (fun z => e ((rel_bl hd rx).mp z)) ⟨.bl true, H, I, rfl, q'⟩
/-! ### sorted of a tuple of ints -/
section
variable {prog : Program} {w : World} {A : Around} {E : Value → Shared → Prop} {s : Shared}
/-- what is collected of a tuple: a new list, its items -/
theorem collect_tup {t : Addr} {us : List Value} {R : List Value → Shared → Prop} (ht : IsTup s.heap t us.toArray) (small : us.length ≤ sizeLine)
    (done : R us { s with heap := (s.heap.push (seqObj "list" #[] 0)).update s.heap.objs.size (Obj.mapSeq (· ++ us.toArray)) }) : wpAny (model prog w) A (collect (.ref t)) R E s := by
  obtain ⟨ob, at0, cls0, ep, dat⟩ := id ht
  have at1 : (s.heap.push (seqObj "list" #[] 0)).get? t = some ob := Heap.get?_push_of_some _ at0
  have mine : (s.heap.push (seqObj "list" #[] 0)).get? s.heap.objs.size = some (seqObj "list" #[] 0) := Heap.get?_push_size _ rfl
  unfold collect
  refine wpAny_bind (wpAny_runValue (codeAny_builtin entry_proto_collect' ?a))
  show wpAny _ _ (do again (.builtin "list.__iadd__" ⟨[← newList [], .ref t], []⟩)) _ _ s
  refine wpAny_bind (wpAny_newList (wpAny_pure ⟨Code.quiet_builtin _ (by decide +kernel), codeAny_builtin entry_list_iadd' ?b⟩))
  show wpAny _ _ (Builtin.List.listExtendWith (.ref s.heap.objs.size) (.ref t) (.ref s.heap.objs.size)) _ _ { s with heap := _ }
  unfold Builtin.List.listExtendWith
  refine wpAny_bind (wpAny_typeOf (T := "tuple") ⟨ob, at1, cls0⟩ ?c)
  rw [if_pos (by rw [(rfl : (Value.type "tuple" == Value.type "tuple") = true)]; simp)]
  refine wpAny_bind (listItems_at at1 dat (wpAny_bind (listItems_at (xs := #[]) (n := 0) mine rfl ?d)))
  rw [if_neg (by simp)]
  have room : ((#[] : Array Value) ++ us.toArray).size ≤ sizeLine + 1 := by
    rw [Array.size_append, List.size_toArray]
    exact Nat.le_succ_of_le (by simpa using small)
  refine wpAny_bind (listUpdate_at (xs := #[]) (n := 0) mine rfl (wpAny_pure ?e) (Nat.zero_le _) room)
  show wpAny (model prog w) A (do match (← load s.heap.objs.size).data with | .seq xs _ => pure xs.toList | _ => unsupported "internal:collect") R E { s with heap := _ }
  refine wpAny_bind (wpAny_load (get?_update_seq mine _) ?f)
  have same : ((#[] : Array Value) ++ us.toArray).toList = us := by simp
  show wpAny _ _ (pure ((#[] : Array Value) ++ us.toArray).toList) R E _
  rw [same]
  exact wpAny_pure done
open SrtO in
/-- sorted of a tuple: its items in a new list, in order -/
theorem sorted_tup {t : Addr} {us : List Value} {lt : Value → Value → Bool} {R : Value → Shared → Prop} (O : Swo lt) (ht : IsTup s.heap t us.toArray) (small : us.length ≤ sizeLine)
    (cmp : 2 ≤ us.length → ∀ (g : Heap) (b : Addr), g.get? b = some (seqObj "list" us.toArray 0) → (∀ c o, s.heap.get? c = some o → c ≠ b ∧ g.get? c = some o) → SortableO prog w A.in1.in1 { s with heap := g } b us lt)
    (done : ∀ os : List Value, Srtd lt os → Stb lt os us → R (.ref (s.heap.objs.size + 1)) { s with heap := sortedAll s.heap us os.toArray }) : wpAny (model prog w) A (call (.builtin "sorted") [.ref t]) R E s := by
  refine Calls.call_function_entry kind_sorted plain_sorted entry_sorted (args_sorted1 _) ?_
  unfold Builtin.«sorted»
  refine wpAny_bind (m := checkCount "sorted" 1 1 _) (wpAny_pure (wpAny_bind (collect_tup ht small (wpAny_bind (wpAny_newList ?_ small)))))
  have len1 : ((s.heap.push (seqObj "list" #[] 0)).update s.heap.objs.size (Obj.mapSeq (· ++ us.toArray))).objs.size = s.heap.objs.size + 1 := by rw [Heap.size_update, size_push']
  have here : (((s.heap.push (seqObj "list" #[] 0)).update s.heap.objs.size (Obj.mapSeq (· ++ us.toArray))).push (seqObj "list" us.toArray 0)).get? (s.heap.objs.size + 1) = some (seqObj "list" us.toArray 0) := len1 ▸ Heap.get?_push_size _ rfl
  have old : ∀ c o, s.heap.get? c = some o → c ≠ s.heap.objs.size + 1 ∧ (((s.heap.push (seqObj "list" #[] 0)).update s.heap.objs.size (Obj.mapSeq (· ++ us.toArray))).push (seqObj "list" us.toArray 0)).get? c = some o := by
    intro c o hc
    have below := Heap.lt_size hc
    have k : ((s.heap.push (seqObj "list" #[] 0)).update s.heap.objs.size (Obj.mapSeq (· ++ us.toArray))).get? c = some o :=
      (Heap.get?_update_ne _ _ _ _ (Nat.ne_of_lt below)).trans (Heap.get?_push_of_some _ hc)
    exact ⟨Nat.ne_of_lt (Nat.lt_succ_of_lt below), Heap.get?_push_of_some _ k⟩
  show wpAny _ _ _ _ _ { s with heap := ((s.heap.push (seqObj "list" #[] 0)).update s.heap.objs.size (Obj.mapSeq (· ++ us.toArray))).push (seqObj "list" us.toArray 0) }
  rw [len1]
  refine wpAny_bind (wpAny_holding (wpAny_call_entry slot_list_sort ⟨_, here, rfl⟩ entry_list_sort ?_ (args_list_sort _)))
  exact list_sort_ord O here small (fun two => cmp two _ _ here old) fun os h1 h2 => ⟨_, rfl, wpAny_pure ⟨_, rfl, done os h1 h2⟩⟩
end
/-- sorted(t), t a tuple of ints -/
def rSortT (K : PySem.W.Frag) : List V → Hp → VK → Prop := fun vs H Q => ∃ (a : Addr) (ns : List Int), vs = [V.ref a] ∧ SqT K H a (ns.map V.int) ∧
  ∀ (ns' : List Int) (p : Addr) (H2 : Hp), ns'.Perm ns → ns'.Pairwise (· ≤ ·) → New H p (.lst (ns'.map V.int)) H2 → Q (.ref p) H2
theorem call_sortT : CallR X (.builtin "sorted") (rSortT X.K) := by
  intro pins s σ H vs us Q I r h
  obtain ⟨a, ns, rfl, hs, q⟩ := h
  obtain ⟨its, rv, hl, hz⟩ := I.tuple hs
  rw [Vals.ref1 r]
  have hi := rv.ints
  refine sorted_tup SrtO.swo_int hl (by rw [← rv.length]; exact hz) (fun h2 h₁ a' _ _ => SrtO.ints_sortable hi h2) fun out h1 h2 => ?_
  obtain ⟨k1, k2, k3⟩ := SrtO.ints_out hi h1 h2
  obtain ⟨ep, he'⟩ := PyProof.Rows.sortedAll_at s.heap its out.toArray
  have hlen : ((out.map SrtO.iv).map V.int).length ≤ sizeLine := by
    rw [List.length_map, k2.length_eq]
    rw [List.length_map] at hz
    exact hz
  exact ⟨.ref _, upd H (s.heap.objs.size + 1) (.lst ((out.map SrtO.iv).map V.int)), I.laid (t' := s.toks) (fun _ _ => PyProof.Rows.sortedAll_old) (Nat.le_succ _) ⟨hlen, out, ep, vals_of_ints k1, he'⟩, rfl, q _ _ _ k2 k3 ⟨I.hok.fresh (Nat.le_succ _), rfl⟩⟩
end
end Hd

namespace Hd
open PySem PySem.Spec PyProof.Rows L2
/-! ### the store of draws -/
structure Sr where
  a : Addr
  c : Addr
  ns : List Int
def StOk (S : Sr) (H : Hp) : Prop := ∃ i1 i2 i3 i4 i5 i6 : Int, H S.a = some (.lst [.ref S.c, .int i1, .int i2, .int i3, .int i4, .int i5, .int i6]) ∧ H S.c = some (.lst (S.ns.map V.int)) ∧ 0 ≤ i1
theorem StOk.ca {S : Sr} {H : Hp} (h : StOk S H) : S.c ≠ S.a := by
  obtain ⟨i1, i2, i3, i4, i5, i6, h1, h2, _⟩ := h
  intro e
  rw [e, h1] at h2
  have := HO.lst.inj (Option.some.inj h2)
  cases hn : S.ns with
  | nil => rw [hn] at this; cases this
  | cons x r => rw [hn] at this; cases this
structure Wd (S : Sr) (G H : Hp) : Prop where
  gh : Same G H
  gs : G S.a = none
  st : StOk S H
structure Go (S : Sr) (G H G' H' : Hp) : Prop where
  s : Stp S.a G H G' H'
  w0 : Wd S G H
  st : StOk S H'
section
variable {S : Sr} {G H G1 H1 G2 H2 : Hp}
theorem StOk.na (h : StOk S H) : H S.a ≠ none := by
  obtain ⟨i1, i2, i3, i4, i5, i6, h1, h2, _⟩ := h
  exact ne_none h1
theorem StOk.nc (h : StOk S H) : H S.c ≠ none := by
  obtain ⟨i1, i2, i3, i4, i5, i6, h1, h2, _⟩ := h
  exact ne_none h2
theorem StOk.up (h : StOk S H) (g : Same H H1) : StOk S H1 := by
  obtain ⟨i1, i2, i3, i4, i5, i6, h1, h2, z⟩ := h
  exact ⟨i1, i2, i3, i4, i5, i6, g _ _ h1, g _ _ h2, z⟩
theorem Go.wd (s : Go S G H G1 H1) : Wd S G1 H1 := ⟨s.s.gh, by
  obtain ⟨i1, i2, i3, i4, i5, i6, h1, h2, _⟩ := s.w0.st
  exact s.s.nw _ _ h1 rfl s.w0.gs, s.st⟩
theorem Go.refl (w : Wd S G H) : Go S G H G H := ⟨.refl w.gh, w, w.st⟩
theorem Go.trans (a : Go S G H G1 H1) (b : Go S G1 H1 G2 H2) : Go S G H G2 H2 := ⟨a.s.trans b.s, a.w0, b.st⟩
theorem Go.q (a : Go S G H G1 H1) (b : Stq G1 H1 G2 H2) : Go S G H G2 H2 := ⟨a.s.q b, a.w0, a.st.up b.hh⟩
theorem Go.gg (a : Go S G H G1 H1) : Same G G1 := a.s.gg
theorem Go.gh (a : Go S G H G1 H1) : Same G1 H1 := a.s.gh
theorem Go.hh (a : Go S G H G1 H1) {b : Addr} {o : HO} (h : H b = some o) (n : b ≠ S.a) : H1 b = some o := a.s.hh b o n h
theorem Go.nw (a : Go S G H G1 H1) {b : Addr} {o : HO} (h : H b = some o) (g : G b = none) (t : isT o = false := by rfl) : G1 b = none := a.s.nw b o h t g
theorem Go.know {p : Addr} {o : HO} (a : Go S G H G1 H1) (n : New H1 p o H2) : ∃ G2, Go S G H G2 H2 ∧ Same G1 G2 ∧ G2 p = some o ∧ ∀ b, b ≠ p → G2 b = G1 b := by
  obtain ⟨G2, s, e, k⟩ := Stq.know a.gh n
  exact ⟨G2, a.q s, s.gg, e, k⟩
theorem Go.fresh {p : Addr} (a : Go S G H G1 H1) (n : H1 p = none) : H p = none := by
  cases e : H p with
  | none => rfl
  | some o =>
    obtain ⟨o', h, _⟩ := a.s.al p o e
    rw [n] at h
    cases h
theorem Go.loc {p : Addr} {o : HO} (a : Go S G H G1 H1) (n : New H1 p o H2) : Go S G H G1 H2 ∧ G1 p = none ∧ H2 p = some o ∧ H p = none := by
  obtain ⟨s, g, e⟩ := Stq.loc a.gh n
  exact ⟨a.q s, g, e, a.fresh n.fr⟩
theorem Go.mut {l : Addr} {o : HO} (a : Go S G H G1 H1) (g : G1 l = none) (f : H l = none) (e : H2 = upd H1 l o) : Go S G H G1 H2 := by
  refine ⟨a.s.mut g f e, a.w0, ?_⟩
  have n1 : S.a ≠ l := fun q => a.w0.st.na (by rw [q]; exact f)
  have n2 : S.c ≠ l := fun q => a.w0.st.nc (by rw [q]; exact f)
  subst e
  obtain ⟨i1, i2, i3, i4, i5, i6, h1, h2, z⟩ := a.st
  exact ⟨i1, i2, i3, i4, i5, i6, by rw [upd_ne n1]; exact h1, by rw [upd_ne n2]; exact h2, z⟩
theorem Go.put {i1 i2 i3 i4 i5 i6 : Int} (a : Go S G H G1 H1) (e : H2 = upd H1 S.a (.lst [.ref S.c, .int i1, .int i2, .int i3, .int i4, .int i5, .int i6])) (z : 0 ≤ i1) : Go S G H G1 H2 := by
  have gs := a.wd.gs
  subst e
  refine ⟨⟨a.s.gg, fun b u h => ?_, a.s.nw, fun b u n h => ?_, fun b u h => ?_⟩, a.w0, ?_⟩
  · rw [upd_ne (ne_of_none h gs)]
    exact a.s.gh _ _ h
  · rw [upd_ne n]
    exact a.s.hh b u n h
  · by_cases q : b = S.a
    · rw [q, upd_same]
      exact ⟨_, rfl, fun _ => rfl⟩
    · rw [upd_ne q]
      exact a.s.al b u h
  · obtain ⟨j1, j2, j3, j4, j5, j6, h1, h2, _⟩ := a.st
    exact ⟨i1, i2, i3, i4, i5, i6, upd_same, by rw [upd_ne a.st.ca]; exact h2, z⟩
theorem Go.frz {l : Addr} {o : HO} (a : Go S G H G1 H1) (g : G1 l = none) (f : H l = none) (h : H1 l = some o) : ∃ G2, Go S G H G2 H1 ∧ Same G1 G2 ∧ G2 l = some o ∧ ∀ b, b ≠ l → G2 b = G1 b := by
  obtain ⟨G2, s, e, k, u⟩ := a.s.frz (l := l) g f h
  exact ⟨G2, ⟨s, a.w0, a.st⟩, e, k, u⟩
theorem Go.ns (a : Go S G H G1 H1) {l : Addr} (f : H l = none) : l ≠ S.a := fun q => a.w0.st.na (by rw [← q]; exact f)
theorem Wd.ne (w : Wd S G H) {b : Addr} {o : HO} (h : G b = some o) : b ≠ S.a := fun q => by
  rw [q, w.gs] at h
  cases h
end
theorem upd_at {H H2 : Hp} {l : Addr} {o : HO} (e : H2 = upd H l o) : H2 l = some o := by rw [e]; exact upd_same
theorem upd_else {H H2 : Hp} {l b : Addr} {o u : HO} (e : H2 = upd H l o) (h : H b = some u) (n : b ≠ l) : H2 b = some u := by rw [e, upd_ne n]; exact h
theorem New.else {H H2 : Hp} {p b : Addr} {o u : HO} (n : New H p o H2) (h : H b = some u) : H2 b = some u := n.same _ _ h
theorem dec_of {p : Prop} [Decidable p] (h : decide p = true) : p := of_decide_eq_true h
theorem dec_not {p : Prop} [Decidable p] (h : ¬ decide p = true) : ¬ p := fun q => h (decide_eq_true q)
/-! ### promises of the draws -/
def spMixed : Sp := fun vs H Q _ => ∃ a b : Int, vs = [.int a, .int b] ∧ ∀ r : Int, Q (.int r) H
def spTake : Sp := fun vs H Q _ => ∃ (S : Sr) (G : Hp) (n : Int), vs = [.ref S.a, .int n] ∧ Wd S G H ∧ n < 1073741824 ∧ ∀ (d : Int) (H' : Hp), 0 ≤ d → (d < n ∨ (n < 1 ∧ d = 0)) → Go S G H G H' → Q (.int d) H'
/-- a sequence of known items -/
def SeqV (H : Hp) (S : Sr) (v : V) (xs : List V) : Prop :=
  (∃ a, v = .ref a ∧ a ≠ S.a ∧ H a = some (.lst xs)) ∨ (∃ a, v = .ref a ∧ a ≠ S.a ∧ H a = some (.tup xs)) ∨ ∃ z : Str, v = .str z ∧ z.length ≤ 1000000 ∧ xs = z.cps.toList.map fun c => V.str ⟨#[c]⟩
def spPick : Sp := fun vs H Q _ => ∃ (S : Sr) (G : Hp) (v : V) (xs : List V), vs = [.ref S.a, v] ∧ Wd S G H ∧ SeqV H S v xs ∧ 0 < xs.length ∧ xs.length < 1000000 ∧ ∀ (x : V) (H' : Hp), x ∈ xs → Go S G H G H' → Q x H'
def spPlace : Sp := fun vs H Q _ => ∃ (S : Sr) (G : Hp) (n : Int), vs = [.ref S.a, .int n] ∧ Wd S G H ∧ 1 ≤ n ∧ n < 1073741824 ∧ ∀ (d : Int) (H' : Hp), 0 ≤ d → d < n → Go S G H G H' → Q (.int d) H'
end Hd

namespace Hd
open PySem PySem.Spec PyProof.Rows L2
theorem at_int {xs : List V} {d : Int} (h0 : 0 ≤ d) (h1 : d < (xs.length : Nat)) : ∃ x, xs[d.toNat]? = some x ∧ atI xs d = some x ∧ x ∈ xs := by
  have k : d.toNat < xs.length := by omega
  have e : xs[d.toNat]? = some xs[d.toNat] := List.getElem?_eq_getElem k
  refine ⟨xs[d.toNat], e, ?_, List.getElem_mem k⟩
  have q := atI_nat e
  rwa [show ((d.toNat : Nat) : Int) = d by omega] at q
theorem at_str {z : Str} {d : Int} (h0 : 0 ≤ d) (h1 : d < (z.length : Nat)) : ∃ c, atI z.cps.toList d = some c ∧ z.cps.toList[d.toNat]? = some c := by
  have hl : z.cps.toList.length = z.length := Array.length_toList
  have k : d.toNat < z.cps.toList.length := by omega
  have e : z.cps.toList[d.toNat]? = some z.cps.toList[d.toNat] := List.getElem?_eq_getElem k
  refine ⟨_, ?_, e⟩
  have q := atI_nat e
  rwa [show ((d.toNat : Nat) : Int) = d by omega] at q
theorem ln {n : Nat} (h : n ≤ 1000000) : n ≤ sizeLine := Nat.le_trans h (by decide)
theorem lt {n : Nat} (h : n < 1000000) : n < sizeLine := Nat.lt_of_lt_of_le h (by decide)
theorem perm_erase {α : Type} : ∀ {xs : List α} {i : Nat} {x : α}, xs[i]? = some x → xs.Perm (x :: xs.eraseIdx i)
  | [], i, x, h => by simp at h
  | a :: xs, 0, x, h => by
    have e := Option.some.inj h
    subst e
    exact .refl _
  | a :: xs, i + 1, x, h => ((perm_erase (xs := xs) (i := i) h).cons a).trans (.swap _ _ _)
/-! ### sizes of nested data -/
mutual
def szD : PyData → Nat
  | .list ds => 1 + szL ds
  | .tuple ds => 1 + szL ds
  | .str x => 1 + x.length
  | _ => 1
def szL : List PyData → Nat
  | [] => 0
  | d :: ds => szD d + szL ds
end
theorem szD_pos : ∀ d, 1 ≤ szD d
  | .none => Nat.le_refl _
  | .bool _ => Nat.le_refl _
  | .int _ => Nat.le_refl _
  | .str _ => by unfold szD; omega
  | .list ds => by unfold szD; omega
  | .tuple ds => by unfold szD; omega
  | .dict _ => Nat.le_refl _
theorem szL_len : ∀ (a : List PyData), a.length ≤ szL a
  | [] => Nat.zero_le _
  | d :: a => by
    have := szL_len a
    have := szD_pos d
    show a.length + 1 ≤ szD d + szL a
    omega
theorem szL_get : ∀ {a : List PyData} {i : Nat} {d : PyData}, a[i]? = some d → szD d ≤ szL a
  | [], i, d, h => by simp at h
  | x :: a, 0, d, h => by
    have e := Option.some.inj h
    subst e
    show szD _ ≤ szD _ + szL a
    omega
  | x :: a, i + 1, d, h => by
    have := szL_get (a := a) (i := i) h
    show szD d ≤ szD x + szL a
    omega
/-! ### lists of nested data -/
section
variable {G : Hp}
theorem DaAll.append : ∀ {vs ws : List V} {ds es : List PyData}, DaAll G vs ds → DaAll G ws es → DaAll G (vs ++ ws) (ds ++ es)
  | [], ws, _, es, h, k => by cases h; exact k
  | v :: vs, ws, _, es, h, k => by
    cases h with
    | cons a b => exact .cons a (DaAll.append b k)
theorem DaAll.take : ∀ (n : Nat) {vs : List V} {ds : List PyData}, DaAll G vs ds → DaAll G (vs.take n) (ds.take n)
  | 0, _, _, h => by
    rw [List.take_zero, List.take_zero]
    exact .nil
  | n + 1, [], _, h => by cases h; exact .nil
  | n + 1, v :: vs, _, h => by
    cases h with
    | cons a b => exact .cons a (DaAll.take n b)
theorem DaAll.drop : ∀ (n : Nat) {vs : List V} {ds : List PyData}, DaAll G vs ds → DaAll G (vs.drop n) (ds.drop n)
  | 0, _, _, h => h
  | n + 1, [], _, h => by cases h; exact .nil
  | n + 1, v :: vs, _, h => by
    cases h with
    | cons a b => exact DaAll.drop n b
theorem DaAll.set {v : V} {d : PyData} (k : Da G v d) : ∀ (n : Nat) {vs : List V} {ds : List PyData}, DaAll G vs ds → DaAll G (vs.set n v) (ds.set n d)
  | _, [], _, h => by cases h; exact .nil
  | 0, _ :: _, _, h => by
    cases h with
    | cons a b => exact .cons k b
  | n + 1, _ :: _, _, h => by
    cases h with
    | cons a b => exact .cons a (DaAll.set k n b)
theorem DaAll.one {v : V} {d : PyData} (k : Da G v d) : DaAll G [v] [d] := .cons k .nil
theorem DaAll.ints : ∀ (ns : List Int), DaAll G (ns.map V.int) (ns.map PyData.int)
  | [] => .nil
  | n :: ns => .cons (.int n) (DaAll.ints ns)
theorem DaAll.reverse {vs : List V} {ds : List PyData} (h : DaAll G vs ds) : DaAll G vs.reverse ds.reverse := by
  induction vs generalizing ds with
  | nil => cases h; exact .nil
  | cons v vs ih =>
    cases h with
    | cons a b =>
      rw [List.reverse_cons, List.reverse_cons]
      exact (ih b).append (.one a)
end
theorem szL_ints : ∀ (ns : List Int), szL (ns.map PyData.int) = ns.length
  | [] => rfl
  | n :: ns => by
    show 1 + szL (ns.map PyData.int) = ns.length + 1
    rw [szL_ints ns]
    omega
/-! ### leaves -/
inductive Leaf : V → PyData → Prop
  | non : Leaf .non .none
  | bl (b : Bool) : Leaf (.bl b) (.bool b)
  | int (i : Int) : Leaf (.int i) (.int i)
  | str (x : Str) : x.length ≤ 100 → Leaf (.str x) (.str x)
theorem Leaf.da {G : Hp} {v : V} {d : PyData} (h : Leaf v d) : Da G v d := by
  cases h with
  | non => exact .non
  | bl b => exact .bl b
  | int i => exact .int i
  | str x _ => exact .str x
theorem Leaf.sz {v : V} {d : PyData} (h : Leaf v d) : szD d ≤ 101 := by
  cases h with
  | str x hx => unfold szD; omega
  | _ => show 1 ≤ 101; decide
/-! ### texts -/
theorem yesT {σ : L2.St} {H : Hp} {A B : Hp → Prop} (h : A H) : tYes σ H (fun b H3 => if b = true then A H3 else B H3) := iteT (B := B H) h
/-! ### promises -/
abbrev HasL (H : Hp) (a : Addr) (xs : List V) : Prop := H a = some (.lst xs) ∨ H a = some (.tup xs)
theorem HasL.len {K : PySem.W.Frag} {H : Hp} {a : Addr} {xs : List V} (h : HasL H a xs) : SqL K H a xs ∨ SqT K H a xs := h.elim (fun h => .inl (.of h)) (fun h => .inr (.of h))
def spDrawn : Sp := fun vs H Q _ => ∃ (S : Sr) (G : Hp) (a : Addr) (xs : List V) (n : Int), vs = [.ref S.a, .ref a, .int n] ∧ Wd S G H ∧ HasL H a xs ∧ xs.length ≤ 100000 ∧ 0 ≤ n ∧ n ≤ 100000 ∧
  ∀ (l : Addr) (ys rest : List V) (H' : Hp), Go S G H G H' → G l = none → H l = none → H' l = some (.lst ys) → (ys ++ rest).Perm xs → ys.length = min n.toNat xs.length → Q (.ref l) H'
def spEither : Sp := fun vs H Q _ => ∃ (S : Sr) (G : Hp) (a : Addr) (xs : List V), vs = [.ref S.a, .ref a] ∧ Wd S G H ∧ a ≠ S.a ∧ H a = some (.lst xs) ∧
  ∀ (p : Addr) (b : Bool) (H' : Hp), Go S G H G H' → G p = none → H p = none → H' p = some (if b then .tup xs else .lst xs) → Q (.ref p) H'
/-- a tuple of whole numbers, a move on n points -/
def IsMv (ns : List Int) (n : Int) : Prop := ns.Perm ((List.range n.toNat).map fun (i : Nat) => (i : Int))
def spMove : Sp := fun vs H Q _ => ∃ (S : Sr) (G : Hp) (n : Int), vs = [.ref S.a, .int n] ∧ Wd S G H ∧ 0 ≤ n ∧ n ≤ 10000 ∧
  ∀ (p : Addr) (ns : List Int) (G' H' : Hp), Go S G H G' H' → G' p = some (.tup (ns.map V.int)) → IsMv ns n → Q (.ref p) H'
end Hd

namespace Hd
open PySem PySem.Spec PyProof.Rows L2
/-! ### equal data -/
mutual
def sameD : PyData → PyData → Bool
  | .none, .none => true
  | .bool a, .bool b => decide (a = b)
  | .int a, .int b => decide (a = b)
  | .str a, .str b => decide (a = b)
  | .list a, .list b => sameL a b
  | .tuple a, .tuple b => sameL a b
  | _, _ => false
def sameL : List PyData → List PyData → Bool
  | [], [] => true
  | x :: a, y :: b => sameD x y && sameL a b
  | _, _ => false
end
def noDict : PyData → Bool
  | .dict _ => false
  | _ => true
mutual
theorem sameD_self {G : Hp} : ∀ (d : PyData) (v : V), Da G v d → sameD d d = true
  | .none, _, _ => rfl
  | .bool a, _, _ => decide_eq_true rfl
  | .int a, _, _ => decide_eq_true rfl
  | .str a, _, _ => decide_eq_true rfl
  | .list a, _, h => by
    cases h with
    | lst h1 h2 => exact sameL_self a _ h2
  | .tuple a, _, h => by
    cases h with
    | tup h1 h2 => exact sameL_self a _ h2
  | .dict _, _, h => by cases h
theorem sameL_self {G : Hp} : ∀ (ds : List PyData) (vs : List V), DaAll G vs ds → sameL ds ds = true
  | [], _, _ => rfl
  | d :: ds, _, h => by
    cases h with
    | cons a b =>
      show (sameD d d && sameL ds ds) = true
      rw [sameD_self d _ a, sameL_self ds _ b]
      rfl
end
theorem sameL_len : ∀ {a b : List PyData}, a.length ≠ b.length → sameL a b = false
  | [], [], h => absurd rfl h
  | [], _ :: _, _ => rfl
  | _ :: _, [], _ => rfl
  | x :: a, y :: b, h => by
    show (sameD x y && sameL a b) = false
    rw [sameL_len (a := a) (b := b) (fun e => h (by rw [List.length_cons, List.length_cons, e])), Bool.and_false]
section
variable {G : Hp} {v w : V} {d e : PyData}
theorem Da.non_iff (h : Da G v d) : v = .non ↔ d = .none := by cases h <;> simp
theorem Da.bl_iff (h : Da G v d) {b : Bool} : v = .bl b ↔ d = .bool b := by cases h <;> simp
end
theorem ib_none_int  : instB PyData.none "int" = false := by simp [instB, tyD]
theorem ib_none_tuple  : instB PyData.none "tuple" = false := by simp [instB, tyD]
theorem ib_none_list  : instB PyData.none "list" = false := by simp [instB, tyD]
theorem ib_none_str  : instB PyData.none "str" = false := by simp [instB, tyD]
theorem ib_bool_int (x : Bool) : instB (.bool x) "int" = true := by simp [instB, tyD]
theorem ib_bool_bool (x : Bool) : instB (.bool x) "bool" = true := by simp [instB, tyD]
theorem ib_bool_tuple (x : Bool) : instB (.bool x) "tuple" = false := by simp [instB, tyD]
theorem ib_bool_list (x : Bool) : instB (.bool x) "list" = false := by simp [instB, tyD]
theorem ib_bool_str (x : Bool) : instB (.bool x) "str" = false := by simp [instB, tyD]
theorem ib_int_int (x : Int) : instB (.int x) "int" = true := by simp [instB, tyD]
theorem ib_int_bool (x : Int) : instB (.int x) "bool" = false := by simp [instB, tyD]
theorem ib_int_tuple (x : Int) : instB (.int x) "tuple" = false := by simp [instB, tyD]
theorem ib_int_list (x : Int) : instB (.int x) "list" = false := by simp [instB, tyD]
theorem ib_int_str (x : Int) : instB (.int x) "str" = false := by simp [instB, tyD]
theorem ib_str_int (x : Str) : instB (.str x) "int" = false := by simp [instB, tyD]
theorem ib_str_tuple (x : Str) : instB (.str x) "tuple" = false := by simp [instB, tyD]
theorem ib_str_list (x : Str) : instB (.str x) "list" = false := by simp [instB, tyD]
theorem ib_str_str (x : Str) : instB (.str x) "str" = true := by simp [instB, tyD]
theorem ib_list_int (x : List PyData) : instB (.list x) "int" = false := by simp [instB, tyD]
theorem ib_list_tuple (x : List PyData) : instB (.list x) "tuple" = false := by simp [instB, tyD]
theorem ib_list_list (x : List PyData) : instB (.list x) "list" = true := by simp [instB, tyD]
theorem ib_list_str (x : List PyData) : instB (.list x) "str" = false := by simp [instB, tyD]
theorem ib_tuple_int (x : List PyData) : instB (.tuple x) "int" = false := by simp [instB, tyD]
theorem ib_tuple_tuple (x : List PyData) : instB (.tuple x) "tuple" = true := by simp [instB, tyD]
theorem ib_tuple_list (x : List PyData) : instB (.tuple x) "list" = false := by simp [instB, tyD]
theorem ib_tuple_str (x : List PyData) : instB (.tuple x) "str" = false := by simp [instB, tyD]
theorem iteDT {c A B : Prop} [Decidable c] (h : c) (k : A) : if decide c = true then A else B := by rw [decide_eq_true h]; exact iteT k
theorem iteDF {c A B : Prop} [Decidable c] (h : ¬ c) (k : B) : if decide c = true then A else B := by rw [decide_eq_false h]; exact iteF k
theorem iteBT {b : Bool} {A B : Prop} (h : b = true) (k : A) : if b = true then A else B := by rw [h]; exact iteT k
theorem iteBF {b : Bool} {A B : Prop} (h : b = false) (k : B) : if b = true then A else B := by rw [h]; exact iteF k
theorem nd_of {p : Prop} [Decidable p] (h : (!decide p) = true) : ¬ p := fun q => by rw [decide_eq_true q] at h; cases h
theorem nd_not {p : Prop} [Decidable p] (h : ¬ (!decide p) = true) : p := by
  by_cases q : p
  · exact q
  · rw [decide_eq_false q] at h
    exact absurd rfl h
theorem HasL.lenV {K : PySem.W.Frag} {H : Hp} {a : Addr} {xs : List V} (h : HasL H a xs) : LenV K (.ref a) H xs.length := h.elim (fun h => .inl ⟨xs, .of h, rfl⟩) (fun h => .inr ⟨xs, .of h, rfl⟩)
theorem HasL.up {H H' : Hp} {a : Addr} {xs : List V} (h : HasL H a xs) (g : Same H H') : HasL H' a xs := h.elim (fun h => .inl (g _ _ h)) (fun h => .inr (g _ _ h))
def sqD (t : Bool) (ds : List PyData) : PyData := if t then .tuple ds else .list ds
theorem sqD_sz (t : Bool) (ds : List PyData) : szD (sqD t ds) = 1 + szL ds := by cases t <;> rfl
theorem Da.kind {G : Hp} {v : V} {d : PyData} (h : Da G v d) : (v = .non ∧ d = .none) ∨ (∃ b, v = .bl b ∧ d = .bool b) ∨ (∃ i, v = .int i ∧ d = .int i) ∨ (∃ x, v = .str x ∧ d = .str x) ∨
    ∃ a xs ds t, v = .ref a ∧ HasL G a xs ∧ (t = true → G a = some (.tup xs)) ∧ (t = false → G a = some (.lst xs)) ∧ DaAll G xs ds ∧ d = sqD t ds := by
  cases h with
  | non => exact .inl ⟨rfl, rfl⟩
  | bl b => exact .inr (.inl ⟨b, rfl, rfl⟩)
  | int i => exact .inr (.inr (.inl ⟨i, rfl, rfl⟩))
  | str x => exact .inr (.inr (.inr (.inl ⟨x, rfl, rfl⟩)))
  | lst a b => exact .inr (.inr (.inr (.inr ⟨_, _, _, false, rfl, .inl a, (fun z => nomatch z), fun _ => a, b, rfl⟩)))
  | tup a b => exact .inr (.inr (.inr (.inr ⟨_, _, _, true, rfl, .inr a, fun _ => a, (fun z => nomatch z), b, rfl⟩)))
/-- pairs that are still to be compared -/
structure Pr where
  a : Addr
  v : V
  w : V
  d : PyData
  e : PyData
def PairAt (G H : Hp) (x : Pr) : Prop := H x.a = some (.tup [x.v, x.w]) ∧ Da G x.v x.d ∧ Da G x.w x.e
theorem PairAt.new {G H H' : Hp} {x : Pr} {p : Addr} {o : HO} (h : PairAt G H x) (n : New H p o H') : PairAt G H' x := ⟨n.else h.1, h.2⟩
theorem PairAt.put {G H H' : Hp} {x : Pr} {l : Addr} {xs ys : List V} (h : PairAt G H x) (hl : H l = some (.lst xs)) (e : H' = upd H l (.lst ys)) : PairAt G H' x := ⟨upd_else e h.1 (ne_of h.1 hl (by intro z; cases z)), h.2⟩
theorem Da.nd {G : Hp} {v : V} {d : PyData} (h : Da G v d) : noDict d = true := by cases h <;> rfl
end Hd

namespace Hd
open PySem PySem.Spec PyProof.Rows L2
/-! ### == of lists of ints -/
theorem DpAll.ints {K : PySem.W.Frag} {H : Hp} : ∀ (ns : List Int), DpAll K H (ns.map V.int) (ns.map PyData.int)
  | [] => .nil
  | n :: ns => .cons (.int n) (DpAll.ints ns)
theorem eqv_ints : ∀ (ns ms : List Int), PyData.eqvAll (ns.map PyData.int) (ms.map PyData.int) = decide (ns = ms)
  | [], [] => rfl
  | [], _ :: _ => rfl
  | _ :: _, [] => rfl
  | a :: ns, b :: ms => by
    show (PyData.eqv (.int a) (.int b) && PyData.eqvAll (ns.map PyData.int) (ms.map PyData.int)) = _
    rw [eqv_ints ns ms]
    show ((a == b) && decide (ns = ms)) = decide (a :: ns = b :: ms)
    by_cases h : a = b
    · subst h
      by_cases k : ns = ms
      · subst k; simp
      · simp [k]
    · simp [h]
def rEqLI (K : PySem.W.Frag) : R2 := fun x y H Q => ∃ (a b : Addr) (ns ms : List Int), x = .ref a ∧ y = .ref b ∧ SqL K H a (ns.map V.int) ∧ SqL K H b (ms.map V.int) ∧ Q (.bl (decide (ns = ms))) H
theorem op_eqLI {X : Cx} (hu : X.A.units + 64 < cLine) : OpR X (compareOp .Eq) (rEqLI X.K) := opR_mono (op_eqD hu) fun x y H Q h => by
  obtain ⟨a, b, ns, ms, rfl, rfl, ha, hb, q⟩ := h
  refine ⟨.list (ns.map .int), .list (ms.map .int), .lst ha (DpAll.ints ns), .lst hb (DpAll.ints ms), PySem.W.ke_shaped_ints ns, PySem.W.ke_shaped_ints ms, ?_⟩
  rw [PyData.eqv, eqv_ints]
  exact q
/-! ### steps without a store -/
section
variable {G H G1 H1 H2 : Hp} {p l : Addr} {o : HO}
theorem Stq.loc2 (s : Stq G H G1 H1) (n : New H1 p o H2) : Stq G H G1 H2 ∧ G1 p = none ∧ H2 p = some o ∧ H p = none :=
  ⟨s.trans (Stq.loc s.gh n).1, (Stq.loc s.gh n).2.1, n.at, s.hh.free n.fr⟩
theorem Stq.know2 (s : Stq G H G1 H1) (n : New H1 p o H2) : ∃ G2, Stq G H G2 H2 ∧ Same G1 G2 ∧ G2 p = some o ∧ ∀ b, b ≠ p → G2 b = G1 b := by
  obtain ⟨G2, t, e, k⟩ := Stq.know s.gh n
  exact ⟨G2, s.trans t, t.gg, e, k⟩
theorem Stq.nw2 (s : Stq G H G1 H1) {b : Addr} {u : HO} (h : H b = some u) (g : G b = none) (t : isT u = false := by rfl) : G1 b = none := s.nw b u h t g
end
/-! ### what frozen says -/
def frz : Nat → PyData → PyData
  | k + 1, .list ds => .tuple [.str "list", .tuple (ds.map (frz k))]
  | k + 1, .tuple ds => .tuple [.str "tuple", .tuple (ds.map (frz k))]
  | _, d => d
/-! ### what counted says -/
/-! ### what is_move says -/
def isNum (d : PyData) (lo hi : Int) : Bool := match d with
  | .int i => decide (lo ≤ i) && decide (i ≤ hi)
  | _ => false
def intsOf : List PyData → List Int
  | [] => []
  | .int i :: r => i :: intsOf r
  | _ :: r => intsOf r
def mvOn (n : Int) : PyData → Bool
  | .tuple ds => decide (((ds.length : Nat) : Int) = n) && (ds.all (fun d => isNum d 0 (n - 1)) && decide ((intsOf ds).Perm ((List.range n.toNat).map fun (i : Nat) => (i : Int))))
  | _ => false
def spIsNum : Sp := fun vs H Q _ => ∃ v d lo hi, vs = [v, .int lo, .int hi] ∧ Da H v d ∧ Q (.bl (isNum d lo hi)) H
def spIsPoint : Sp := fun vs H Q _ => ∃ v d n, vs = [.int n, v] ∧ Da H v d ∧ Q (.bl (isNum d 0 (n - 1))) H
def spIsMoveOn : Sp := fun vs H Q _ => ∃ (G : Hp) (v : V) (d : PyData) (n : Int), vs = [.int n, v] ∧ Same G H ∧ Da G v d ∧ szD d ≤ 1000000 ∧ ∀ H', Same H H' → Q (.bl (mvOn n d)) H'
end Hd

namespace Hd
open PySem PySem.Spec PyProof.Rows L2
def rngI (n : Int) : List Int := (List.range n.toNat).map fun (i : Nat) => (i : Int)
theorem rngI_len (n : Int) : (rngI n).length = n.toNat := by unfold rngI; rw [List.length_map, List.length_range]
theorem rngI_mem {n k : Int} : k ∈ rngI n ↔ 0 ≤ k ∧ k < n := by
  unfold rngI
  rw [List.mem_map]
  constructor
  · rintro ⟨i, hi, rfl⟩
    have := List.mem_range.mp hi
    omega
  · intro h
    exact ⟨k.toNat, List.mem_range.mpr (by omega), by omega⟩
theorem rngI_nodup (n : Int) : (rngI n).Nodup := by
  unfold rngI
  exact List.Pairwise.map (R := (· ≠ ·)) _ (fun a b h e => h (by omega)) List.nodup_range
theorem rngI_sorted (n : Int) : (rngI n).Pairwise (· ≤ ·) := by
  unfold rngI
  exact List.Pairwise.map (R := (· < ·)) _ (fun a b h => by omega) List.pairwise_lt_range
theorem rgV_rngI (n : Int) : rgV 0 n = (rngI n).map V.int := by
  unfold rgV rngI
  rw [List.map_map, Int.sub_zero]
  refine List.map_congr_left fun i _ => ?_
  show V.int (0 + (i : Int)) = V.int (i : Int)
  rw [Int.zero_add]
theorem perm_of_subset : ∀ {S L : List Int}, S.Nodup → (∀ x ∈ S, x ∈ L) → L.length ≤ S.length → L.Perm S
  | [], L, _, _, h => by
    rw [List.eq_nil_of_length_eq_zero (Nat.le_zero.mp h)]
  | a :: S, L, nd, hs, hl => by
    have ha := hs a List.mem_cons_self
    have nd2 := List.nodup_cons.mp nd
    have p := List.perm_cons_erase ha
    have hl2 := p.length_eq
    rw [List.length_cons] at hl2 hl
    refine p.trans (List.Perm.cons a (perm_of_subset nd2.2 (fun x hx => ?_) (by omega)))
    refine (List.mem_erase_of_ne (show x ≠ a from fun e => nd2.1 (e ▸ hx))).mpr (hs x (List.mem_cons_of_mem _ hx))
theorem ints_isNum {ds : List PyData} {lo hi : Int} (h : ds.all (fun d => isNum d lo hi) = true) : ds = (intsOf ds).map PyData.int := by
  induction ds with
  | nil => rfl
  | cons d r ih =>
    rw [List.all_cons, Bool.and_eq_true] at h
    cases d with
    | int i =>
      show PyData.int i :: r = PyData.int i :: (intsOf r).map PyData.int
      rw [← ih h.2]
    | _ => cases h.1
theorem vals_int {G : Hp} : ∀ {xs : List V} {ns : List Int}, DaAll G xs (ns.map PyData.int) → xs = ns.map V.int
  | [], [], _ => rfl
  | [], _ :: _, h => by cases h
  | _ :: _, [], h => by cases h
  | x :: xs, n :: ns, h => by
    cases h with
    | cons a b =>
      cases a
      rw [vals_int (ns := ns) b]
      rfl
end Hd

namespace L2
open PySem PySem.Spec PyProof.Rows
end L2
namespace Hd
open PySem PySem.Spec PyProof.Rows L2
/-! ### xs[::-1] -/
section
variable {X : Cx}
def tRevN (K : PySem.W.Frag) (te : TE) : TE := fun σ H Q => te σ H fun x H1 => ∃ a xs, x = .ref a ∧ SqL K H1 a xs ∧ ∀ p H2, New H1 p (.lst xs.reverse) H2 → Q (.ref p) H2
theorem rev_eq (K : PySem.W.Frag) (te : TE) : tRevN K te = tRevL K te := funext fun σ => funext fun H => funext fun Q => congrArg (te σ H) (funext fun x => funext fun H1 => propext
  ⟨fun ⟨a, xs, e, h, q⟩ => ⟨a, xs, e, h, newAll (K := fun p H2 => Q (.ref p) H2) |>.mp q⟩, fun ⟨a, xs, e, h, q⟩ => ⟨a, xs, e, h, newAll (K := fun p H2 => Q (.ref p) H2) |>.mpr q⟩⟩)
theorem pe_revN {e : Expr} {te : TE} {k : Nat} {p1 p2 p3 pos : Pos} (he : PE X e te) : PE X (.Subscript e (.Slice none none (some (.UnaryOp .USub (.Constant (.int 1) k p1) p2)) p3) pos) (tRevN X.K te) := by
  rw [rev_eq]
  exact pe_revL he
end
end Hd

namespace Hd
open PySem PySem.Spec PyProof.Rows L2
/-! ### moves -/
theorem isMv_of {ns : List Int} {n : Int} (h0 : 0 ≤ n) (hl : ns.length = n.toNat) (h : ∀ x, 0 ≤ x → x < n → x ∈ ns) : IsMv ns n :=
  perm_of_subset (rngI_nodup n) (fun x hx => h x (rngI_mem.mp hx).1 (rngI_mem.mp hx).2) (by rw [hl]; exact Nat.le_of_eq (rngI_len n).symm)
theorem IsMv.len {ns : List Int} {n : Int} (h : IsMv ns n) : ns.length = n.toNat := by
  have := List.Perm.length_eq h
  rwa [show ((List.range n.toNat).map fun (i : Nat) => (i : Int)) = rngI n from rfl, rngI_len] at this
theorem IsMv.mem {ns : List Int} {n : Int} (h : IsMv ns n) {x : Int} : x ∈ ns ↔ 0 ≤ x ∧ x < n := (List.Perm.mem_iff h).trans rngI_mem
theorem IsMv.nodup {ns : List Int} {n : Int} (h : IsMv ns n) : ns.Nodup := (List.Perm.nodup_iff h).mpr (rngI_nodup n)
def intV : V → Int
  | .int i => i
  | _ => 0
theorem map_intV (ns : List Int) : (ns.map V.int).map intV = ns := by
  rw [List.map_map]
  exact List.map_id'' (fun _ => rfl) _
/-- a part of a list of ints is a list of ints -/
theorem perm_ints {ys rest : List V} {ns : List Int} (h : (ys ++ rest).Perm (ns.map V.int)) : ∃ (rs ms : List Int), ys = rs.map V.int ∧ rest = ms.map V.int ∧ (rs ++ ms).Perm ns := by
  have all : ∀ v ∈ ys ++ rest, ∃ i, v = V.int i := fun v hv => by
    obtain ⟨i, _, e⟩ := List.mem_map.mp (h.mem_iff.mp hv)
    exact ⟨i, e.symm⟩
  have one : ∀ zs : List V, (∀ v ∈ zs, ∃ i, v = V.int i) → zs = (zs.map intV).map V.int := fun zs hz => by
    induction zs with
    | nil => rfl
    | cons v r ih =>
      obtain ⟨i, rfl⟩ := hz v List.mem_cons_self
      rw [List.map_cons, List.map_cons, ← ih fun w hw => hz w (List.mem_cons_of_mem _ hw)]
      rfl
  refine ⟨ys.map intV, rest.map intV, one _ fun v hv => all v (List.mem_append_left _ hv), one _ fun v hv => all v (List.mem_append_right _ hv), ?_⟩
  have := h.map intV
  rwa [map_intV, List.map_append] at this
theorem atI_ints {ns : List Int} {d : Int} (h0 : 0 ≤ d) (h1 : d < (ns.length : Nat)) : ∃ n, ns[d.toNat]? = some n ∧ atI (ns.map V.int) d = some (.int n) ∧ n ∈ ns := by
  obtain ⟨x, e, f, _⟩ := at_int (xs := ns.map V.int) h0 (by rw [List.length_map]; exact h1)
  rw [List.getElem?_map] at e
  cases g : ns[d.toNat]? with
  | none => rw [g] at e; cases e
  | some n =>
    rw [g] at e
    cases e
    exact ⟨n, rfl, f, List.mem_of_getElem? g⟩
/-- the ring of the points rs on n points, the first i of them set -/
def Ring (n : Nat) (rs : List Int) (i : Nat) (L : List Int) : Prop :=
  L.length = n ∧ (∀ j r, j < i → rs[j]? = some r → ∃ t, rs[(j + 1) % rs.length]? = some t ∧ L[r.toNat]? = some t) ∧
    ∀ x : Nat, x < n → (∀ j, j < i → rs[j]? ≠ some (x : Int)) → L[x]? = some (x : Int)
theorem Ring.start (n : Int) (rs : List Int) : Ring n.toNat rs 0 (rngI n) := by
  refine ⟨rngI_len n, fun j r h => absurd h (Nat.not_lt_zero _), fun x hx _ => ?_⟩
  unfold rngI
  rw [List.getElem?_map, List.getElem?_range hx]
  rfl
theorem Ring.step {n : Nat} {rs : List Int} {i : Nat} {L : List Int} {r t : Int} (h : Ring n rs i L) (nd : rs.Nodup) (hb : ∀ x ∈ rs, 0 ≤ x ∧ x < (n : Int)) (hr : rs[i]? = some r) (ht : rs[(i + 1) % rs.length]? = some t) : Ring n rs (i + 1) (L.set r.toNat t) := by
  obtain ⟨h1, h2, h3⟩ := h
  have br := hb r (List.mem_of_getElem? hr)
  refine ⟨by rw [List.length_set]; exact h1, fun j q hj hq => ?_, fun x hx hno => ?_⟩
  · by_cases e : j = i
    · subst e
      rw [hr] at hq
      cases hq
      exact ⟨t, ht, List.getElem?_set_self (by omega)⟩
    · obtain ⟨u, f1, f2⟩ := h2 j q (by omega) hq
      refine ⟨u, f1, ?_⟩
      have bq := hb q (List.mem_of_getElem? hq)
      have ne : r ≠ q := fun z => by
        subst z
        obtain ⟨a1, a2⟩ := List.getElem?_eq_some_iff.mp hr
        obtain ⟨b1, b2⟩ := List.getElem?_eq_some_iff.mp hq
        exact e ((List.getElem_inj nd).mp (b2.trans a2.symm))
      rw [List.getElem?_set_ne (by omega)]
      exact f2
  · have ne : (x : Int) ≠ r := fun z => hno i (by omega) (by rw [z]; exact hr)
    rw [List.getElem?_set_ne (by omega)]
    exact h3 x hx fun j hj => hno j (by omega)
theorem Ring.mv {n : Int} {rs L : List Int} (h0 : 0 ≤ n) (h : Ring n.toNat rs rs.length L) (hb : ∀ x ∈ rs, 0 ≤ x ∧ x < n) : IsMv L n := by
  obtain ⟨h1, h2, h3⟩ := h
  refine isMv_of h0 h1 fun x x0 x1 => ?_
  by_cases hx : x ∈ rs
  · obtain ⟨k, hk⟩ := List.getElem?_of_mem hx
    have kl := (List.getElem?_eq_some_iff.mp hk).1
    -- the one in front of it
    have : ∃ j, j < rs.length ∧ (j + 1) % rs.length = k := by
      by_cases k0 : k = 0
      · exact ⟨rs.length - 1, by omega, by rw [k0, Nat.sub_add_cancel (by omega), Nat.mod_self]⟩
      · exact ⟨k - 1, by omega, by rw [Nat.sub_add_cancel (by omega)]; exact Nat.mod_eq_of_lt kl⟩
    obtain ⟨j, jl, je⟩ := this
    obtain ⟨t, f1, f2⟩ := h2 j rs[j] jl (List.getElem?_eq_getElem jl)
    rw [je, hk] at f1
    cases f1
    exact List.mem_of_getElem? f2
  · have := h3 x.toNat (by omega) fun j hj e => by
      rw [show ((x.toNat : Nat) : Int) = x by omega] at e
      exact hx (List.mem_of_getElem? e)
    rw [show ((x.toNat : Nat) : Int) = x by omega] at this
    exact List.mem_of_getElem? this
theorem shift_mv {n s : Int} (h0 : 0 < n) : IsMv ((List.range n.toNat).map fun (k : Nat) => ((k : Int) + s) % n) n := by
  refine isMv_of (by omega) (by rw [List.length_map, List.length_range]) fun x x0 x1 => ?_
  refine List.mem_map.mpr ⟨((x - s) % n).toNat, List.mem_range.mpr ?_, ?_⟩
  · have a := Int.emod_nonneg (x - s) (show n ≠ 0 by omega)
    have b := Int.emod_lt_of_pos (x - s) h0
    omega
  · have a := Int.emod_nonneg (x - s) (show n ≠ 0 by omega)
    rw [Int.toNat_of_nonneg a, Int.emod_add_emod, Int.sub_add_cancel]
    exact Int.emod_eq_of_lt x0 x1
theorem turn_mv {n : Int} (h0 : 0 ≤ n) : IsMv ((List.range n.toNat).map fun (k : Nat) => n - 1 - (k : Int)) n := by
  refine isMv_of h0 (by rw [List.length_map, List.length_range]) fun x x0 x1 => ?_
  exact List.mem_map.mpr ⟨(n - 1 - x).toNat, List.mem_range.mpr (by omega), by omega⟩
theorem flat_ints (ns : List Int) : (ns.map V.int).all flatV = true := List.all_eq_true.mpr fun v hv => by
  obtain ⟨i, _, rfl⟩ := List.mem_map.mp hv
  rfl
theorem DaAll.erase {G : Hp} {vs : List V} {ds : List PyData} (n : Nat) (h : DaAll G vs ds) : DaAll G (vs.eraseIdx n) (ds.eraseIdx n) := by
  rw [List.eraseIdx_eq_take_drop_succ, List.eraseIdx_eq_take_drop_succ]
  exact (h.take n).append (h.drop (n + 1))
theorem rngI_mv {n : Int} : IsMv (rngI n) n := List.Perm.refl _
end Hd

namespace Hd
open PySem PySem.Spec PyProof.Rows L2
/-- a value without parts -/
def Flat (v : V) (d : PyData) : Prop := (v = .non ∧ d = .none) ∨ (∃ b, v = .bl b ∧ d = .bool b) ∨ (∃ i, v = .int i ∧ d = .int i) ∨ ∃ x, v = .str x ∧ d = .str x
theorem Flat.da {G : Hp} {v : V} {d : PyData} (h : Flat v d) : Da G v d := by
  rcases h with ⟨rfl, rfl⟩ | ⟨b, rfl, rfl⟩ | ⟨i, rfl, rfl⟩ | ⟨x, rfl, rfl⟩
  · exact .non
  · exact .bl b
  · exact .int i
  · exact .str x
/-- a container on the way down: its object, its items, their data, its kind, the place that is gone to; and the tuple that keeps it -/
structure Pth where
  tp : Addr
  a : Addr
  xs : List V
  ds : List PyData
  t : Bool
  i : Nat
def PthAt (G : Hp) (p : Pth) : Prop := G p.tp = some (.tup [.ref p.a, .int (p.i : Int)]) ∧ G p.a = some (if p.t then .tup p.xs else .lst p.xs) ∧ DaAll G p.xs p.ds ∧ p.i < p.xs.length
theorem PthAt.up {G G' : Hp} {p : Pth} (h : PthAt G p) (g : Same G G') : PthAt G' p := ⟨g _ _ h.1, g _ _ h.2.1, h.2.2.1.up g, h.2.2.2⟩
theorem hasL_if {G : Hp} {a : Addr} {t : Bool} {xs : List V} (h : G a = some (if t then HO.tup xs else HO.lst xs)) : HasL G a xs := by
  cases t with
  | true => exact .inr h
  | false => exact .inl h
theorem Da.ints {G : Hp} {p : Addr} {ns : List Int} (h : G p = some (.tup (ns.map V.int))) : Da G (.ref p) (.tuple (ns.map PyData.int)) := .tup h (DaAll.ints ns)
theorem sz_ints (ns : List Int) : szD (.tuple (ns.map PyData.int)) = 1 + ns.length := by
  show 1 + szL _ = _
  rw [szL_ints]
theorem Go.pure {S : Sr} {G H G1 H1 H2 : Hp} (a : Go S G H G1 H1) (g : Same H1 H2) : Go S G H G1 H2 := a.q ⟨Same.refl _, a.gh.trans g, fun _ _ _ _ h => h, g⟩
theorem intsOf_map : ∀ ns : List Int, intsOf (ns.map PyData.int) = ns
  | [] => rfl
  | n :: r => by
    show n :: intsOf (r.map PyData.int) = n :: r
    rw [intsOf_map r]
def spStore (K : PySem.W.Frag) : Sp := fun vs H Q _ => ∃ (a : Addr) (ns : List Int), vs = [.ref a] ∧ SqL K H a (ns.map V.int) ∧ ns.length ≤ 63 ∧ ∀ (S : Sr) (H' : Hp), Wd S H H' → Q (.ref S.a) H'
def spLaw (K : PySem.W.Frag) : Sp := fun vs H Q _ => ∃ (a : Addr) (ns : List Int), vs = [.ref a] ∧ SqL K H a (ns.map V.int) ∧ ns.length ≤ 63 ∧ ∀ H', Q (.bl true) H'
theorem spLaw_of {K : PySem.W.Frag} {H : Hp} {a : Addr} {ns : List Int} (hl : ns.length ≤ 63) (hS : SqL K H a (ns.map V.int)) : spLaw K [.ref a] H (fun v _ => v = .bl true) fun _ _ _ => False := ⟨a, ns, rfl, hS, hl, fun _ => rfl⟩
theorem cut_all {xs : List V} {n : Nat} (h : xs.length ≤ n) : cutV xs none (some (n : Int)) = xs := by
  unfold cutV
  rw [show HT.sIx xs.length xs.length (some (n : Int)) = min n xs.length from HT.sIx_nat xs.length xs.length n, HT.sIx_none, List.drop_zero, Nat.sub_zero, Nat.min_eq_right h]
  exact List.take_length
end Hd

namespace Hd
open PySem PySem.Spec PyProof.Rows L2

/-! ### the end of a walk while an exception is handled -/
section
variable {prog : Program} {w : World} {A : Around} {s : Shared}
end
/-! ### walks over lists and tuples there -/
section
variable {P : Program} {w : World} {K : PySem.W.Frag} {tg : Expr}
theorem HotC.out {X : Cx} {pins : List (Addr × Obj)} {σ : L2.St} {H : Hp} {s : Shared} {b : Addr} (c : L2H.HotC X) (I : Inv X pins σ H s) (f : FpOk X pins H b) : ∃ x1, HotX.HotAt X.A x1 s.heap ∧ x1 ≠ b := by
  obtain ⟨p, ⟨hd, v1, k1, c1⟩, m⟩ := c
  obtain ⟨-, -, -, -, -, f5⟩ := f
  exact ⟨p.1, ⟨hd, p.2, v1, (I.pin p (List.mem_append_left _ m)).1, k1, c1⟩, f5 p (List.mem_append_left _ m)⟩
end
section
variable {X : Cx} {tg l : Expr} {tl : TE}
end
/-! ### comprehensions there -/
section
variable {X : Cx} {pins : List (Addr × Obj)} {σ : L2.St} {H : Hp} {s : Shared}
end
end Hd

namespace Hd
open PySem PySem.Spec PyProof.Rows L2

/-! ### own exception classes -/
/-- what the written part tells of such a class: x its name, D its place -/
structure Ec (K : PySem.W.Frag) (mg : Str → Option Value) (x : Str) (D : Addr) : Prop where
  gC : mg x = some (.ref D)
  ox : OexC K D
  xf : XfC K D
  ca : PySem.W.findIn K (.ref D) "__class__" = some (some (.builtin "object.__class__"))
  sg : PySem.W.specialIn K (.builtin "object.__class__") "__get__" = some (some (.builtin "getset_descriptor.__get__"))
  tk : PySem.W.takesIn K (.builtin "object.__class__") = some true
  mo : PySem.W.mroIn K D (.type "object") = some true
  ic : PySem.W.isClsIn K D = true
/-- an exception at p of the class at D, its attributes fs standing at d -/
structure ErrAt (D d : Addr) (fs : List (Str × V)) (H : Hp) (p : Addr × Obj) : Prop where
  cls : p.2.cls = .ref D
  dict : p.2.dict = some d
  data : ∃ vs, p.2.data = .fields vs
  at_ : H d = some (.xd fs)
theorem ErrAt.up {D d : Addr} {fs : List (Str × V)} {H H' : Hp} {p : Addr × Obj} (e : ErrAt D d fs H p) (h : H' d = H d) : ErrAt D d fs H' p := ⟨e.cls, e.dict, e.data, h.trans e.at_⟩
section
variable {X : Cx} {p : Addr × Obj} {D d : Addr} {fs : List (Str × V)}
end
/-! ### defs called while an exception is handled; their promise may speak of that exception -/
abbrev SpH := Addr × Obj → Sp
structure FnE (P : Program) (w : World) (K : PySem.W.Frag) (mg : Str → Option Value) (base : Heap) (k : Nat) (f : Addr) (fd : FuncData) (ps : List Str) (sp : SpH) : Prop where
  len : ∀ p vs H Q E, sp p vs H Q E → vs.length = ps.length
  go : ∀ (A : Around) (outer : List Env) (s : Shared) (H : Hp) (args : Args) (us : List Value) (vs : List V) (Q : VK) (E : XK) (p : Addr × Obj), L2H.RoomH k A → L2H.Hot1 A p → L2H.PinOk outer H s p → Env0 P w K mg base A outer s H → BindsTo s fd args (ps.zip us) →
    Vals vs us → sp p vs H Q E → codeAny (model P w) A (.call (.ref f) args) (CR CX0 outer P w H s Q E) s
section
variable {P : Program} {w : World} {K : PySem.W.Frag} {mg : Str → Option Value} {base : Heap} {x : Str} {st : Stmt} {ps N : List Str} {k : Nat} {sp : SpH}
end
section
variable {X : Cx} {x : Str} {q pos : Pos} {e : Expr} {es : List Expr} {k : Nat} {ps : List Str} {sp : SpH} {t : TA} {p : Addr × Obj}
end
end Hd

namespace Hd
open PySem PySem.Spec PyProof.Rows L2

/-! ### defs that may raise -/
theorem nothing_out {X : Cx} : Passes (L2N.CX X.prog X.w) X E0 := by
  rintro pins σ H s e s' I ⟨_, _, _, _, _, _, _, _, _, _, _, _, z⟩
  exact z.elim
def CalX (P : Program) (w : World) (K : PySem.W.Frag) (mg : Str → Option Value) (base : Heap) (x : Str) (k : Nat) (ps : List Str) (sp : Sp) : Prop :=
  ∃ f fd, FnOk P w K mg base (L2N.CX P w) k f fd ps sp ∧ mg x = some (.ref f) ∧ PySem.W.keepIn K (.ref f) = true ∧ Binds K fd ps []
section
variable {P : Program} {w : World} {K : PySem.W.Frag} {mg : Str → Option Value} {base : Heap} {x : Str} {st : Stmt} {ps N : List Str} {k : Nat} {sp : Sp}
theorem Def.calX (D : Def K mg x st ps) (S : FnScope N ps (defScope st)) (len : ∀ vs H Q E, sp vs H Q E → vs.length = ps.length)
    (hbody : ∀ (f : Addr) (cdv : Value) (A : Around) (outer : List Env) (s : Shared) (H : Hp) (vs : List V) (Q : VK) (E : XK), Room k (A.deeper (envOfC x (defScope st) s.heap.objs.size f cdv)) → sp vs H Q E →
      ∃ t, PSs (cxOf (L2N.CX P w) P w K mg base N x (defScope st) f cdv A outer s H E) (defBody st) t ∧ t { nx := fun _ H' => Q .non H', rt := Q } (start N vs) H) : CalX P w K mg base x (k + 1) ps sp := by
  obtain ⟨f, fd, F, g, b⟩ := D
  have kp := F.kp
  obtain ⟨oc, od, kV, doc, pm, an, cdv, ct, osl, rfl, lk, hcd⟩ := F.ex
  exact ⟨f, _, fn_of lk hcd S len fun A outer s H vs Q E hr h => hbody f cdv A outer s H vs Q E hr h, g, kp, b⟩
end
section
variable {X : Cx} {x : Str} {p pos : Pos} {e : Expr} {es : List Expr} {k : Nat} {ps : List Str} {sp : Sp} {t : TA}
/-- within a try, or in a def that lets it out -/
theorem pe_calX {W : WX} (C : CalX X.prog X.w X.K X.mg X.base x k ps sp) (tk : L2N.Takes X W) (hr : Room k X.A) (hg : Gl X x) (ha : PA X (e :: es) t) (hdb : (x == ("__debug__" : Str)) = false := by decide)
    (he : starEach (e :: es) X.env = (false, eval e X.env) :: starEach es X.env := by rfl) (hpl : (backTo pos (starEach es X.env)).any (·.1) = false := by rfl) :
    PE X (.Call (.Name x p) (e :: es) [] pos) (tCallS sp (WE W) t) := by
  obtain ⟨f, fd, F, g, kp, b⟩ := C
  exact pe_callS F hr hg g kp b (fun σ => L2N.passAt tk σ) ha hdb he hpl
/-- where it is known that nothing is raised -/
theorem pe_calQ (C : CalX X.prog X.w X.K X.mg X.base x k ps sp) (hr : Room k X.A) (hg : Gl X x) (ha : PA X (e :: es) t) (hdb : (x == ("__debug__" : Str)) = false := by decide)
    (he : starEach (e :: es) X.env = (false, eval e X.env) :: starEach es X.env := by rfl) (hpl : (backTo pos (starEach es X.env)).any (·.1) = false := by rfl) :
    PE X (.Call (.Name x p) (e :: es) [] pos) (tCall sp [] E0 t) := by
  obtain ⟨f, fd, F, g, kp, b⟩ := C
  exact pe_call F hr hg g kp b .nil nothing_out ha hdb he hpl
end
/-! ### own exceptions made where nothing is handled -/
section
variable {X : Cx} {C fI : Addr} {k : Nat} {fd : FuncData} {ps : List Str} {sp : Sp} {e : Expr} {es : List Expr} {ta : TA} {p pos : Pos} {x : Str}
theorem mk_calm (T : OexC X.K C) (iC : PySem.W.findIn X.K (.ref C) "__init__" = some (some (.ref fI))) (tI : PySem.W.typeIn X.K (.ref fI) = some (.type "function")) (F1 : FnOk X.prog X.w X.K X.mg X.base CX0 k fI fd ps sp) (hr : Room (k + 1) X.A)
    (hb : Binds X.K fd ps []) (hg : Gl X x) (hm : X.mg x = some (.ref C)) (ha : PA X (e :: es) ta) (hdb : (x == ("__debug__" : Str)) = false := by decide)
    (he : starEach (e :: es) X.env = (false, eval e X.env) :: starEach es X.env := by rfl) (hpl : (backTo pos (starEach es X.env)).any (·.1) = false := by rfl) : L2N.PMk X (.Call (.Name x p) (e :: es) [] pos) (tMkO C sp [] ta) := by
  rintro pins s σ H Q I h
  obtain ⟨nm, q, N, bs, bm, sn, sub, ab, col, dd, k0, k1, k2, k3, k5, hC, hbm⟩ := T.cls
  apply wpAny_Call_Name_kw (ld_glob I hg hm _ hdb)
  refine PySem.W.callWith_K (h₀ := X.base) I.ok.mod.kin T.kC (thn (ha.run pos pins s σ H _ I h) ?_) he hpl
  rintro us ⟨hp, g, dr, tk, os⟩ ⟨vs, H1, I1, r1, hz, q1⟩
  refine ⟨I1.kIn, ?_⟩
  change wpAny _ _ (call (.ref C) us) _ _ _
  generalize hn : hp.objs.size + 1 = a
  have big : hp.objs.size ≤ a := by omega
  have new : H1 a = none := I1.hok.fresh big
  have sq := q1 a new
  rw [List.append_nil] at sq
  have up : ∀ b o, hp.get? b = some o → ((hp.push (PySem.W.kdv_tup us)).push (PySem.HandSPX.excO C hp.objs.size)).get? b = some o := fun b o z => Heap.get?_push_of_some _ (Heap.get?_push_of_some _ z)
  have at_ : ((hp.push (PySem.W.kdv_tup us)).push (PySem.HandSPX.excO C hp.objs.size)).get? a = some (PySem.HandSPX.excO C hp.objs.size) := by subst hn; heap_get
  have I2 : Inv X pins σ (upd H1 a (exo a C none)) ⟨(hp.push (PySem.W.kdv_tup us)).push (PySem.HandSPX.excO C hp.objs.size), g, dr, tk, os⟩ := I1.laid (t' := tk) up big (exo_ok at_)
  have r2 : Vals (V.ref a :: vs) (Value.ref a :: us) := .cons rfl r1
  have ln : (Value.ref a :: us).length = ps.length := r2.length.symm.trans (F1.len _ _ _ _ sq)
  have bd := hb ⟨(hp.push (PySem.W.kdv_tup us)).push (PySem.HandSPX.excO C hp.objs.size), g, dr, tk, os⟩ (Value.ref a :: us) I2.kIn ((congrArg List.length (List.append_nil _)).trans ln)
  rw [List.append_nil] at bd
  have few : us.length ≤ sizeLine := by
    have := r1.length
    rw [sizeLine_eq]
    omega
  subst hn
  refine wpAny_call (PySem.HandSPX.call_own F.excBase_ValueError (fun Y => PySem.HandSPX.refsVE_contains Y bm hbm) (I1.kIn _ _ hC) (PySem.W.looks_findIn I1.kIn iC) (fun self => PySem.W.bind_fn I1.kIn self tI) few ?_)
  refine codeAny_mono (F1.run _ X.stack _ _ ⟨_, []⟩ _ _ _ (fun _ _ _ => False) (hr.make C us []) (I2.env0.make C us []) bd r2 sq) ?_
  intro res s' hq
  cases res with
  | error _ => exact hq.elim
  | ok fl =>
    cases fl
    · exact hq.elim
    · exact hq.elim
    · exact hq.elim
    · obtain ⟨v, H2, os2, bare2, un2, hok2, rv, rfl, d, fs, ea, ed, hd1, q2⟩ := hq
      obtain ⟨h2, g2, d2, t2, os'⟩ := s'
      obtain ⟨t0, G, J, kG, ge, hoe, na⟩ := mk_end0 (d2 := d2) (t2 := t2) I1 big up un2 hok2 os2 bare2 ea ed hd1
      refine ⟨rv, _, _, _, ⟨G, g2, d2, t2, os'⟩, _, .ref C, some d, rfl, J, kG, ge, hoe, ⟨rfl, rfl, ?_⟩, rfl, rfl, na, rfl, bare2, raises_own T.exC T.tyC, q2⟩
      intro vs hv
      cases hv
      rfl
end
/-! ### __init__ that keeps its arguments, one after the other -/
def clsB (s : Stmt) : List Stmt := match s with
  | .ClassDef _ _ _ b _ _ _ _ _ _ _ => b
  | _ => []
/-- the class named x at D, and its __init__ -/
structure Xc (K : PySem.W.Frag) (mg : Str → Option Value) (x q : Str) (st : Stmt) (ps : List Str) (D : Addr) : Prop where
  ec : Ec K mg x D
  ini : ∃ fI fd, PySem.W.findIn K (.ref D) "__init__" = some (some (.ref fI)) ∧ PySem.W.typeIn K (.ref fI) = some (.type "function") ∧ Fun K "__init__" q st fI fd ∧ Binds K fd ps []
  no : ∀ f ∈ ps.tail, PySem.W.findIn K (.ref D) f = some none
section
variable {X : Cx} {K : PySem.W.Frag} {mg : Str → Option Value} {x q f g : Str} {st : Stmt} {D : Addr} {P : Program} {w : World} {base : Heap} {e : Expr} {es : List Expr} {ta : TA} {p pos : Pos}
def spIni (D : Addr) (gs : List Str) : Sp := fun vs H Q _ => ∃ (a : Addr) (us : List V), vs = .ref a :: us ∧ us.length = gs.length ∧ H a = some (exo a D none) ∧ ∀ dx, H dx = none → dx ≠ a → Q .non (upd (upd H dx (exd dx ((gs.zip us).reverse))) a (exo a D (some dx)))
theorem ini_end {gs : List Str} {us : List V} {H1 : Hp} {Q : XK} {E : XK} (h1 : us.length = gs.length) (hl : us.length ≤ 1000) (q : ∀ d, H1 d = none → Q (.ref D) (some d) (upd H1 d (.xd ((gs.zip us).reverse)))) :
    us.length ≤ 1000 ∧ ∀ a, H1 a = none → spIni D gs (.ref a :: (us ++ [])) (upd H1 a (exo a D none)) (fun v H2 => v = .non ∧ ∃ (d : Addr) (fs : List (Str × V)), H2 a = some (exo a D (some d)) ∧ H2 d = some (exd d fs) ∧ H1 d = none ∧ Q (.ref D) (some d) (upd (del H2 a) d (.xd fs))) E := by
  refine ⟨hl, fun a ha => ⟨a, us, by rw [List.append_nil], h1, upd_same, fun dx hdx ne => ⟨rfl, dx, _, upd_same, (upd_ne ne).trans upd_same, ?_, ?_⟩⟩⟩
  · rw [upd_ne ne] at hdx
    exact hdx
  · rw [upd_ne ne] at hdx
    have e : upd (del (upd (upd (upd H1 a (exo a D none)) dx (exd dx ((gs.zip us).reverse))) a (exo a D (some dx))) a) dx (.xd ((gs.zip us).reverse)) = upd H1 dx (.xd ((gs.zip us).reverse)) := by
      funext b
      by_cases h : b = dx
      · rw [h, upd_same, upd_same]
      · rw [upd_ne h, upd_ne h]
        by_cases k : b = a
        · rw [k, del_same, ha]
        · rw [del_ne k, upd_ne k, upd_ne h, upd_ne k]
    rw [e]
    exact q dx hdx
theorem ini1 {f : Str} (S : FnScope ["self", f] ["self", f] (defScope st)) (hb : ∃ p00 p01 p02 p03, defBody st = [.Assign [.Attribute (.Name "self" p00) f p01] (.Name f p02) p03])
    (T : OexC K D) (vs0 : (defScope st).names.lookup ("self" : Str) = some NameKind.local) (vf : (defScope st).names.lookup f = some NameKind.local) (df : (f == ("__debug__" : Str)) = false) (cf : (f == ("__classdict__" : Str)) = false) (nof : PySem.W.findIn K (.ref D) f = some none)
    {fI : Addr} {fd : FuncData} (F : Fun K "__init__" q st fI fd) : FnOk P w K mg base CX0 1 fI fd ["self", f] (spIni D [f]) := by
  obtain ⟨p00, p01, p02, p03, hb⟩ := hb
  refine F.ok S ?_ ?_
  · rintro vs H Q E ⟨a, us, rfl, l, -⟩
    rw [List.length_cons, l] <;> rfl
  · rintro cdv A outer s H vs Q E hr ⟨a, us, rfl, l, ea, q⟩
    obtain ⟨u, rfl⟩ : ∃ u, us = [u] := by
      match us, l with
      | [u], _ => exact ⟨u, rfl⟩
    rw [hb]
    refine ⟨_, (pss_one (ps_ost (pv 0 rfl (.inl vs0)) (pv 1 rfl (.inl vf) df cf))), ?_⟩
    exact ⟨_, rfl, _, rfl, a, D, rfl, T, nof, .inl ⟨ea, fun dx n ne => q dx n ne⟩⟩
theorem ini2 {f g : Str} (S : FnScope ["self", f, g] ["self", f, g] (defScope st)) (hb : ∃ p00 p01 p02 p03 p10 p11 p12 p13, defBody st = [.Assign [.Attribute (.Name "self" p00) f p01] (.Name f p02) p03, .Assign [.Attribute (.Name "self" p10) g p11] (.Name g p12) p13])
    (T : OexC K D) (vs0 : (defScope st).names.lookup ("self" : Str) = some NameKind.local) (vf : (defScope st).names.lookup f = some NameKind.local) (df : (f == ("__debug__" : Str)) = false) (cf : (f == ("__classdict__" : Str)) = false) (nof : PySem.W.findIn K (.ref D) f = some none) (vg : (defScope st).names.lookup g = some NameKind.local) (dg : (g == ("__debug__" : Str)) = false) (cg : (g == ("__classdict__" : Str)) = false) (nog : PySem.W.findIn K (.ref D) g = some none)
    {fI : Addr} {fd : FuncData} (F : Fun K "__init__" q st fI fd) : FnOk P w K mg base CX0 1 fI fd ["self", f, g] (spIni D [f, g]) := by
  obtain ⟨p00, p01, p02, p03, p10, p11, p12, p13, hb⟩ := hb
  refine F.ok S ?_ ?_
  · rintro vs H Q E ⟨a, us, rfl, l, -⟩
    rw [List.length_cons, l] <;> rfl
  · rintro cdv A outer s H vs Q E hr ⟨a, us, rfl, l, ea, q⟩
    obtain ⟨u, v, rfl⟩ : ∃ u v, us = [u, v] := by
      match us, l with
      | [u, v], _ => exact ⟨u, v, rfl⟩
    rw [hb]
    refine ⟨_, (pss_cons (ps_ost (pv 0 rfl (.inl vs0)) (pv 1 rfl (.inl vf) df cf)) (pss_one (ps_ost (pv 0 rfl (.inl vs0)) (pv 2 rfl (.inl vg) dg cg)))), ?_⟩
    refine ⟨_, rfl, _, rfl, a, D, rfl, T, nof, .inl ⟨ea, fun dx n ne => ?_⟩⟩
    refine ⟨_, rfl, _, rfl, a, D, rfl, T, nog, .inr ⟨dx, _, upd_same, (upd_ne ne).trans upd_same, (by simp), ?_⟩⟩
    have r := q dx n ne
    have e : upd (upd (upd H dx (exd dx [(f, u)])) a (exo a D (some dx))) dx (exd dx [(g, v), (f, u)]) = upd (upd H dx (exd dx [(g, v), (f, u)])) a (exo a D (some dx)) := by
      funext b
      by_cases h : b = dx
      · rw [h, upd_same, upd_ne ne, upd_same]
      · by_cases k : b = a
        · simp only [k, upd_same, upd_ne (Ne.symm ne)]
        · simp only [upd_ne h, upd_ne k]
    show Q .non (upd (upd (upd H dx (exd dx [(f, u)])) a (exo a D (some dx))) dx (exd dx [(g, v), (f, u)]))
    rw [e]
    exact r
theorem ini3 {f g k : Str} (S : FnScope ["self", f, g, k] ["self", f, g, k] (defScope st)) (hb : ∃ p00 p01 p02 p03 p10 p11 p12 p13 p20 p21 p22 p23, defBody st = [.Assign [.Attribute (.Name "self" p00) f p01] (.Name f p02) p03, .Assign [.Attribute (.Name "self" p10) g p11] (.Name g p12) p13, .Assign [.Attribute (.Name "self" p20) k p21] (.Name k p22) p23])
    (T : OexC K D) (vs0 : (defScope st).names.lookup ("self" : Str) = some NameKind.local) (vf : (defScope st).names.lookup f = some NameKind.local) (df : (f == ("__debug__" : Str)) = false) (cf : (f == ("__classdict__" : Str)) = false) (nof : PySem.W.findIn K (.ref D) f = some none) (vg : (defScope st).names.lookup g = some NameKind.local) (dg : (g == ("__debug__" : Str)) = false) (cg : (g == ("__classdict__" : Str)) = false) (nog : PySem.W.findIn K (.ref D) g = some none) (vk : (defScope st).names.lookup k = some NameKind.local) (dk : (k == ("__debug__" : Str)) = false) (ck : (k == ("__classdict__" : Str)) = false) (nok : PySem.W.findIn K (.ref D) k = some none)
    {fI : Addr} {fd : FuncData} (F : Fun K "__init__" q st fI fd) : FnOk P w K mg base CX0 1 fI fd ["self", f, g, k] (spIni D [f, g, k]) := by
  obtain ⟨p00, p01, p02, p03, p10, p11, p12, p13, p20, p21, p22, p23, hb⟩ := hb
  refine F.ok S ?_ ?_
  · rintro vs H Q E ⟨a, us, rfl, l, -⟩
    rw [List.length_cons, l] <;> rfl
  · rintro cdv A outer s H vs Q E hr ⟨a, us, rfl, l, ea, q⟩
    obtain ⟨u, v, z, rfl⟩ : ∃ u v z, us = [u, v, z] := by
      match us, l with
      | [u, v, z], _ => exact ⟨u, v, z, rfl⟩
    rw [hb]
    refine ⟨_, (pss_cons (ps_ost (pv 0 rfl (.inl vs0)) (pv 1 rfl (.inl vf) df cf)) (pss_cons (ps_ost (pv 0 rfl (.inl vs0)) (pv 2 rfl (.inl vg) dg cg)) (pss_one (ps_ost (pv 0 rfl (.inl vs0)) (pv 3 rfl (.inl vk) dk ck))))), ?_⟩
    refine ⟨_, rfl, _, rfl, a, D, rfl, T, nof, .inl ⟨ea, fun dx n ne => ?_⟩⟩
    refine ⟨_, rfl, _, rfl, a, D, rfl, T, nog, .inr ⟨dx, _, upd_same, (upd_ne ne).trans upd_same, (by simp), ?_⟩⟩
    refine ⟨_, rfl, _, rfl, a, D, rfl, T, nok, .inr ⟨dx, _, (upd_ne (Ne.symm ne)).trans upd_same, upd_same, (by simp), ?_⟩⟩
    have r := q dx n ne
    have e : upd (upd (upd (upd H dx (exd dx [(f, u)])) a (exo a D (some dx))) dx (exd dx [(g, v), (f, u)])) dx (exd dx [(k, z), (g, v), (f, u)]) = upd (upd H dx (exd dx [(k, z), (g, v), (f, u)])) a (exo a D (some dx)) := by
      funext b
      by_cases h : b = dx
      · rw [h, upd_same, upd_ne ne, upd_same]
      · by_cases k : b = a
        · simp only [k, upd_same, upd_ne (Ne.symm ne)]
        · simp only [upd_ne h, upd_ne k]
    show Q .non (upd (upd (upd (upd H dx (exd dx [(f, u)])) a (exo a D (some dx))) dx (exd dx [(g, v), (f, u)])) dx (exd dx [(k, z), (g, v), (f, u)]))
    rw [e]
    exact r
end
end Hd

namespace Hd
open PySem PySem.Spec PyProof.Rows L2

/-- the class named x at D, made from the arguments gs -/
def Xm (P : Program) (w : World) (K : PySem.W.Frag) (mg : Str → Option Value) (base : Heap) (x : Str) (D : Addr) (gs : List Str) : Prop :=
  Ec K mg x D ∧ (∀ f ∈ gs, PySem.W.findIn K (.ref D) f = some none) ∧ ∃ fI fd, PySem.W.findIn K (.ref D) "__init__" = some (some (.ref fI)) ∧ PySem.W.typeIn K (.ref fI) = some (.type "function") ∧ FnOk P w K mg base CX0 1 fI fd ("self" :: gs) (spIni D gs) ∧ Binds K fd ("self" :: gs) []
section
variable {X : Cx} {x : Str} {D : Addr} {gs : List Str} {e : Expr} {es : List Expr} {ta : TA} {p pos : Pos}
theorem pmk_x (M : Xm X.prog X.w X.K X.mg X.base x D gs) (hr : Room 2 X.A) (hg : Gl X x) (ha : PA X (e :: es) ta) (hdb : (x == ("__debug__" : Str)) = false := by decide)
    (he : starEach (e :: es) X.env = (false, eval e X.env) :: starEach es X.env := by rfl) (hpl : (backTo pos (starEach es X.env)).any (·.1) = false := by rfl) : L2N.PMk X (.Call (.Name x p) (e :: es) [] pos) (tMkO D (spIni D gs) [] ta) := by
  obtain ⟨T, no, fI, fd, iC, tI, F1, bd⟩ := M
  exact mk_calm T.ox iC tI F1 hr bd hg T.gC ha hdb he hpl
end
theorem pe_cls {X : Cx} {x : Str} {C : Addr} {pos : Pos} (hg : Gl X x) (h : X.mg x = some (.ref C)) (hd : (x == ("__debug__" : Str)) = false := by decide) : PE X (.Name x pos) (tC (.ref C)) := pe_glob hg h rfl hd
end Hd

namespace Hd
open PySem PySem.Spec PyProof.Rows L2

/-! ### enumerate(tuple) -/
def Ete (K : PySem.W.Frag) (a : Addr) : It where
  go := fun i H => ∃ (xs : List V) (x : V), SqT K H a xs ∧ xs[i]? = some x
  yld := fun i H v H' => ∃ T x, v = .ref T ∧ New H T (.tup [.int (i : Nat), x]) H' ∧ ∀ xs, SqT K H a xs → xs[i]? = some x
  stop := fun i H => ∃ xs : List V, SqT K H a xs ∧ xs.length ≤ i
def iEnumT (K : PySem.W.Frag) (ta : TA) : TI := fun σ H R => ta σ H fun vs H1 => ∃ a xs, vs = [.ref a] ∧ SqT K H1 a xs ∧ R (Ete K a) H1
set_option maxHeartbeats 8000000 in
theorem enum_new {v : Value} {o : Obj} {C : Heap → Prop} (B : Begins v o C) :
    Meets (Builtin.«enumerate.__new__» ⟨[.type "enumerate", v], []⟩) (fun _ R s => C s.heap ∧ R (.ok (.ret (.ref (s.heap.push o).objs.size)))
      { s with heap := (s.heap.push o).push { cls := .type "enumerate", data := .fields #[.none, .bool false, .ref s.heap.objs.size, rawInt 0, .none, .none] } }) :=
  .of_wp fun prog w A R s q => by
    obtain ⟨heap, gens, dr, toks, os⟩ := s
    obtain ⟨st, q⟩ := q
    have isE := sub_enumerate
    have begin_ : ∀ {A' : Around} {E' : Value → Shared → Prop} {Q' : Value → Shared → Prop}, Q' (.ref heap.objs.size) ⟨heap.push o, gens, dr, toks, os⟩ → wpAny (model prog w) A' (pyIter v) Q' E' ⟨heap, gens, dr, toks, os⟩ := fun z =>
      B.iter prog w _ _ ⟨heap, gens, dr, toks, os⟩ _ st z
    wp_walk using begin_
    refine wpAny_stack_any fun frames => wpAny_pure ?_
    split
    next c _ _ _ _ _ =>
      by_cases hc : (c == Value.type "enumerate") = true
      · simp only [hc]
        wp_walk using begin_
        exact ⟨_, rfl, q⟩
      · simp only [hc]
        wp_walk using begin_
        exact ⟨_, rfl, q⟩
    next =>
      wp_walk using begin_
      exact ⟨_, rfl, q⟩
theorem enum_call {prog : Program} {w : World} {A : Around} {E : Value → Shared → Prop} {s : Shared} {v : Value} {o : Obj} {C : Heap → Prop} {Q : Value → Shared → Prop} (B : Begins v o C) (st : C s.heap)
    (q : ∀ g, IsEnum g (s.heap.objs.size + 1) s.heap.objs.size 0 .none → g.get? s.heap.objs.size = some o → (∀ b u, s.heap.get? b = some u → g.get? b = some u) → Q (.ref (s.heap.objs.size + 1)) { s with heap := g }) :
    wpAny (model prog w) A (call (.type "enumerate") [v]) Q E s := by
  have sz : (s.heap.push o).objs.size = s.heap.objs.size + 1 := Heap.size_push ..
  have at1 : IsEnum ((s.heap.push o).push { cls := .type "enumerate", data := .fields #[.none, .bool false, .ref s.heap.objs.size, rawInt 0, .none, .none] }) (s.heap.objs.size + 1) s.heap.objs.size 0 .none := sz ▸ Heap.get?_push_size (s.heap.push o) rfl
  apply callType_new F.called_enumerate (by decide) (F.typeCall_enumerate_1 _) (F.newCall_enumerate_1 _) (fun obj => F.args_object_init_2 obj _) F.entry_enumerate_new (enum_new B)
  refine ⟨st, ?_⟩
  rw [sz]
  exact ⟨⟨_, at1, rfl⟩, q _ at1 (Heap.get?_push_of_some _ (Heap.get?_push_size _ B.free)) fun b u z => Heap.get?_push_of_some _ (Heap.get?_push_of_some _ z)⟩
section
variable {P : Program} {w : World} {K : PySem.W.Frag} {elts : List Expr} {kk : Nat} {tpos : Pos}
theorem two_of {b e it : Addr} (h : b ∈ [e, it]) : b = e ∨ b = it := by simpa using h
theorem walk_enumT (a e it : Addr) : Turn P w K (.Tuple elts kk tpos) (Ete K a) [e, it] e (fun i h => (∃ old, IsEnum h e it ((i : Nat) : Int) old) ∧ h.IsTupleIter it a i ∧ e ≠ it) := by
  constructor
  case mem => exact List.mem_cons_self
  case obj =>
    rintro i h ⟨⟨old, he⟩, ⟨o, ho, hc, hd⟩, -⟩ b hb
    obtain rfl | rfl := two_of hb
    · exact ⟨_, he, fun v q => nomatch q⟩
    · exact ⟨o, ho, fun v q => Data.noConfusion (hd.symm.trans q)⟩
  case keep =>
    rintro i h h' ⟨⟨old, he⟩, hi, ne⟩ k
    exact ⟨⟨old, k e List.mem_cons_self _ he⟩, hi.at fun o q => k it (List.mem_cons_of_mem _ List.mem_cons_self) o q, ne⟩
  case self => exact fun A i s Q E st q => st.1.elim fun _ he => wpAny_pyIter_enum he q
  case item =>
    rintro X rfl rfl rfl hc i pins s σ H E I fp ⟨⟨old, he⟩, hit, ne⟩ ⟨xs, x, sq, at_⟩
    obtain ⟨vs, rv, pl, -⟩ := I.tuple sq
    have isT : s.heap.IsTuple a vs.toArray := pl
    obtain ⟨u, hu, ru⟩ := rv.get at_
    have lt1 : e < s.heap.objs.size := Heap.lt_size he
    have lt2 : it < s.heap.objs.size := by
      obtain ⟨_, q, -⟩ := hit
      exact Heap.lt_size q
    have nai : a ≠ it := fun z => by
      subst z
      obtain ⟨o1, q1, c1, -⟩ := hit
      obtain ⟨o2, q2, c2, -⟩ := isT
      rw [q1] at q2
      cases q2
      rw [c1] at c2
      exact absurd (Value.type.inj c2) (by decide)
    have nae : e ≠ a := fun z => by
      subst z
      obtain ⟨o2, q2, c2, -⟩ := isT
      have q1 : s.heap.get? e = some _ := he
      rw [q1] at q2
      cases q2
      exact absurd (Value.type.inj c2) (by decide)
    have hi : i < vs.toArray.size := by
      have := (List.getElem?_eq_some_iff.mp hu).1
      simpa using this
    refine wpAny_pyNext_enum_itemD (Draws.tuple (A := X.A.in1) (I.ok.hd hc) it a nai vs.toArray) he ⟨hit, isT⟩ hi ne (fun z => ?_) ?_
    · rcases two_of z with z | z
      · exact ne z
      · exact nae z
    rintro y g tk py out ⟨hit', -⟩ gT hz keep
    have ey : y = u := by
      have := py.symm.trans ((by simpa using hu) : vs.toArray[i]? = some u)
      exact Option.some.inj this
    subst ey
    refine ⟨_, rfl, wpAny_letOwnedTupleGo_enum (s := { s with heap := g, toks := tk + 1 }) out fun g2 he2 sb => ?_⟩
    have gT2 : g2.get? s.heap.objs.size = some { cls := .type "tuple", data := .seq #[.int i tk, y] } := (sb.2 _ (Nat.ne_of_gt lt1)).trans gT
    have okT : ObjOk X.prog X.w (upd H s.heap.objs.size (.tup [.int (i : Nat), x])) g2 s.heap.objs.size (.tup [.int (i : Nat), x]) := ⟨by show 2 ≤ sizeLine; decide, [.int i tk, y], .cons ⟨_, rfl⟩ (.cons ru .nil), ⟨_, gT2, rfl, _, rfl⟩⟩
    have J : Inv X pins σ (upd H s.heap.objs.size (.tup [.int (i : Nat), x])) { s with heap := g2, toks := tk + 1 } :=
      I.turnedNew (ch := [e, it]) (fun b o hb q => (sb.2 b fun z => hb (by simp [z])).trans (keep b o (fun z => hb (by simp [z])) (fun z => hb (by simp [z])) q)) fp (Nat.le_refl _) okT
    refine ⟨.ref s.heap.objs.size, _, J, rfl, ⟨_, x, rfl, ⟨I.hok.fresh (Nat.le_refl _), rfl⟩, fun ys hy => ?_⟩, ⟨⟨y, ?_⟩, hit'.at fun o q => (sb.2 it (Ne.symm ne)).trans q, ne⟩, fun b hb => ?_⟩
    · rw [I.tuple_inj hy sq]
      exact at_
    · have e1 : ((i + 1 : Nat) : Int) = (i : Int) + 1 := rfl
      rw [e1]
      exact he2
    · have lt : b < s.heap.objs.size := by
        obtain rfl | rfl := two_of hb
        · exact lt1
        · exact lt2
      exact (upd_ne (Nat.ne_of_lt lt)).trans (fp b hb).1
  case done =>
    rintro X rfl rfl rfl hc i pins s σ H E I fp ⟨⟨old, he⟩, hit, ne⟩ ⟨xs, sq, hle⟩
    obtain ⟨vs, rv, pl, -⟩ := I.tuple sq
    have isT : s.heap.IsTuple a vs.toArray := pl
    have hl := rv.length
    have past : vs.toArray[i]? = none := by simp; omega
    obtain ⟨f0, f1, f2, f3, f4, f5⟩ := fp it (List.mem_cons_of_mem _ List.mem_cons_self)
    have D0 : Draws X.prog X.w X.A.in1 it [it, a] 0 (fun _ _ => True) (fun j h => h.IsTupleIter it a (i + j) ∧ h.IsTuple a vs.toArray) := {
      live := fun _ _ st => st.1.elim fun o q => ⟨o, q.1⟩
      frame := fun _ _ _ st hk => ⟨st.1.at fun o e => hk it (by simp) o e, st.2.at fun o e => hk a (by simp) o e⟩
      item := fun j _ _ _ z => absurd z (Nat.not_lt_zero j)
      done := fun s Q E st hE => wpAny_nextOf_tuple_end (show X.A.in1.handled = none from I.ok.hd hc) st.1 st.2 past hE }
    exact wpAny_pyNext_enum_endD D0 he ⟨hit, isT⟩ fun g eb => ⟨rfl, I.turned (t' := s.toks) (fun b o hb q => eb b o hb q) f0 f1 f3 f4 f5⟩
end
theorem pi_enumT {X : Cx} {e : Expr} {ta : TA} {p pos tpos : Pos} {elts : List Expr} {kk : Nat} (hg : Gl X "enumerate") (hm : X.mg "enumerate" = none) (ha : PA X [e] ta) (hs : starEach [e] X.env = [(false, eval e X.env)] := by rfl) :
    PI X (.Tuple elts kk tpos) (.Call (.Name "enumerate" p) [e] [] pos) (iEnumT X.K ta) := by
  constructor
  intro pins s σ H R I h
  apply Call_ (ld_blt I hg hm boot_enumerate _)
  refine PyProof.Rows.callWith_type1 (thn (ha.run pos pins s σ H _ I h) ?_) hs rfl
  rintro us s1 ⟨vs, H1, I1, r1, a, xs, rfl, sq, q⟩
  cases r1 with
  | cons r rr =>
    cases rr
    cases r
    obtain ⟨its, rv, pl, -⟩ := I1.tuple sq
    refine enum_call (begins_tuple a its.toArray) (show s1.heap.IsTuple a its.toArray from pl) fun g he hit hk => wpAny_pyIter_enum he ?_
    have I2 : Inv X pins σ H1 { s1 with heap := g } := I1.kept (t' := s1.toks) hk
    refine ⟨_, _, _, _, H1, rfl, I2, walk_enumT a (s1.heap.objs.size + 1) s1.heap.objs.size, ⟨⟨.none, he⟩, ⟨_, hit, rfl, rfl⟩, Nat.succ_ne_self _⟩, fun b hb => ?_, q⟩
    have big : s1.heap.objs.size ≤ b := by
      obtain rfl | rfl := two_of hb
      · exact Nat.le_add_right _ _
      · exact Nat.le_refl _
    exact I1.fpOk big (I1.hok.fresh big)
/-! ### min(tuple of ints) -/
/-! ### rules whose reading names the written part, for the block of a comprehension -/
section
variable {X : Cx} {K : PySem.W.Frag} (hk : X.K = K)
include hk
theorem ix_tupK : IxR X (rIxT K) := hk ▸ ix_tup
theorem ix_listK : IxR X (rIxL K) := hk ▸ ix_list
theorem ix_seqK : IxR X (rIx K) := hk ▸ ix_seq
theorem op_notIn_seqK : OpR X (compareOp .NotIn) (rIn K true) := hk ▸ op_notIn_seq
end
end Hd

namespace Hd
open PySem PySem.Spec PyProof.Rows L2

/-! ### the cycles of a move -/
def stp (ns : List Int) (p : Int) : Int := (ns[p.toNat]?).getD 0
def itn (ns : List Int) : Nat → Int → Int
  | 0, s => s
  | k + 1, s => stp ns (itn ns k s)
def inR (n p : Int) : Prop := 0 ≤ p ∧ p < n
section
variable {ns : List Int} {n : Int} (h : IsMv ns n)
include h
theorem stp_at {p : Int} (hp : inR n p) : ns[p.toNat]? = some (stp ns p) ∧ inR n (stp ns p) := by
  have l := h.len
  have lt : p.toNat < ns.length := by have := hp.1; have := hp.2; omega
  have e : ns[p.toNat]? = some ns[p.toNat] := List.getElem?_eq_getElem lt
  have es : stp ns p = ns[p.toNat] := by unfold stp; rw [e]; rfl
  refine ⟨by rw [es]; exact e, ?_⟩
  rw [es]
  exact h.mem.mp (List.getElem_mem lt)
theorem stp_inj {p q : Int} (hp : inR n p) (hq : inR n q) (e : stp ns p = stp ns q) : p = q := by
  have l := h.len
  have lp : p.toNat < ns.length := by have := hp.1; have := hp.2; omega
  have lq : q.toNat < ns.length := by have := hq.1; have := hq.2; omega
  have ep : ns[p.toNat] = ns[q.toNat] := by
    have a := (stp_at h hp).1
    have b := (stp_at h hq).1
    rw [List.getElem?_eq_getElem lp] at a
    rw [List.getElem?_eq_getElem lq] at b
    exact (Option.some.inj a).trans (e.trans (Option.some.inj b).symm)
  have nd := List.pairwise_iff_getElem.mp h.nodup
  have := hp.1; have := hq.1
  rcases Nat.lt_trichotomy p.toNat q.toNat with z | z | z
  · exact absurd ep (nd _ _ lp lq z)
  · omega
  · exact absurd ep.symm (nd _ _ lq lp z)
end
def IsPer (ns : List Int) (s : Int) (m : Nat) : Prop := 1 ≤ m ∧ itn ns m s = s ∧ ∀ k, 1 ≤ k → k < m → itn ns k s ≠ s
theorem IsPer.uniq {ns : List Int} {s : Int} {a b : Nat} (x : IsPer ns s a) (y : IsPer ns s b) : a = b := by
  rcases Nat.lt_trichotomy a b with l | l | l
  · exact absurd x.2.1 (y.2.2 a x.1 l)
  · exact l
  · exact absurd y.2.1 (x.2.2 b y.1 l)
section
variable {ns : List Int} {n : Int} (h : IsMv ns n)
include h
end
end Hd

namespace Hd
open PySem PySem.Spec PyProof.Rows L2

def pts (f : Nat → Bool) (n : Nat) : List Int := ((List.range n).filter f).map fun (j : Nat) => (j : Int)
theorem pts_step (f : Nat → Bool) (i : Nat) : pts f (i + 1) = pts f i ++ if f i then [(i : Int)] else [] := by
  unfold pts
  rw [List.range_succ, List.filter_append, List.map_append]
  congr 1
  cases e : f i <;> simp [e]
theorem pts_len (f : Nat → Bool) (n : Nat) : (pts f n).length ≤ n := by
  unfold pts
  rw [List.length_map]
  exact Nat.le_trans (List.length_filter_le ..) (by rw [List.length_range]; exact Nat.le_refl _)
theorem pts_mem {f : Nat → Bool} {n : Nat} {x : Int} : x ∈ pts f n ↔ 0 ≤ x ∧ x.toNat < n ∧ f x.toNat = true := by
  unfold pts
  rw [List.mem_map]
  constructor
  · rintro ⟨j, hj, rfl⟩
    obtain ⟨h1, h2⟩ := List.mem_filter.mp hj
    exact ⟨by omega, List.mem_range.mp h1, h2⟩
  · rintro ⟨h0, h1, h2⟩
    exact ⟨x.toNat, List.mem_filter.mpr ⟨List.mem_range.mpr h1, h2⟩, by omega⟩
section
variable {ns : List Int} {n : Int} (h : IsMv ns n)
include h
end
theorem ErrAt.new {D d p' : Addr} {fs : List (Str × V)} {H H' : Hp} {p : Addr × Obj} {o : HO} (e : ErrAt D d fs H p) (n : New H p' o H') : ErrAt D d fs H' p := ⟨e.cls, e.dict, e.data, n.else e.at_⟩
theorem ErrAt.same {D d : Addr} {fs : List (Str × V)} {H H' : Hp} {p : Addr × Obj} (e : ErrAt D d fs H p) (s : Same H H') : ErrAt D d fs H' p := ⟨e.cls, e.dict, e.data, s _ _ e.at_⟩
theorem same_put {H H' : Hp} {l : Addr} {o : HO} (s : Same H H') (h : H l = none) : Same H (upd H' l o) := fun b u e => by
  rw [upd_ne fun z => by rw [z, h] at e; cases e]
  exact s _ _ e
theorem map_at {ns : List Int} {i : Nat} {x : V} (h : (ns.map V.int)[i]? = some x) : ∃ m, ns[i]? = some m ∧ x = .int m := by
  rw [List.getElem?_map] at h
  obtain ⟨m, hm, e⟩ := Option.map_eq_some_iff.mp h
  exact ⟨m, hm, e.symm⟩
/-- an error of the class at D with these attributes leaves -/
def Errs (E : XK) (D : Addr) (fs : List (Str × V)) (H : Hp) : Prop := ∀ (d : Addr) (H' : Hp), Same H H' → H' d = some (.xd fs) → E (.ref D) (some d) H'
theorem Errs.up {E : XK} {D : Addr} {fs : List (Str × V)} {H H' : Hp} (e : Errs E D fs H) (s : Same H H') : Errs E D fs H' := fun d H2 s2 h => e d H2 (s.trans s2) h
end Hd
namespace Hd
open PySem PySem.Spec PyProof.Rows L2
theorem inV_ints (p : Int) (ns : List Int) : inV (.int p) (ns.map V.int) = decide (p ∈ ns) := by
  induction ns with
  | nil => rfl
  | cons a r ih =>
    have e : eqV (.int a) (.int p) = decide (a = p) := by
      show (a == p) = _
      by_cases c : a = p <;> simp [c]
    show (eqV (.int a) (.int p) || inV (.int p) (r.map V.int)) = _
    rw [ih, e]
    by_cases c : a = p
    · simp [c]
    · have c2 : p ≠ a := fun z => c z.symm
      simp [c, c2]
section
variable {ns : List Int} {n : Int} (h : IsMv ns n)
include h
end
theorem Stq.pure {G H G1 H1 H2 : Hp} (s : Stq G H G1 H1) (g : Same H1 H2) : Stq G H G1 H2 := ⟨s.gg, s.gh.trans g, s.nw, s.hh.trans g⟩
def rRepL : R2 := fun x y H Q => ∃ l k xs, x = .ref l ∧ y = .int k ∧ H l = some (.lst xs) ∧ -(2 ^ 63) ≤ k ∧ k < 2 ^ 63 ∧ xs.length * k.toNat ≤ sizeLine ∧ ∀ p H2, New H p (.lst (List.replicate k.toNat xs).flatten) H2 → Q (.ref p) H2
theorem op_repL {X : Cx} : OpR X (binaryOp .Mult) rRepL := opR_mono op_rep fun x y H Q h => by
  obtain ⟨l, k, xs, e1, e2, h1, z1, z2, z3, q⟩ := h
  exact ⟨l, k, xs, e1, e2, h1, z1, z2, z3, fun p hp => q p _ ⟨hp, rfl⟩⟩
theorem stp_nat {ns : List Int} {n : Int} (h : IsMv ns n) {k : Nat} (hk : (k : Int) < n) : ns[k]? = some (stp ns k) ∧ inR n (stp ns k) := stp_at h (p := (k : Int)) ⟨by omega, hk⟩
theorem renamed_mv {ns bs L : List Int} {n : Int} (n0 : 0 ≤ n) (hn : IsMv ns n) (hb : IsMv bs n) (hl : L.length = n.toNat) (h : ∀ k : Nat, (k : Int) < n → L[(stp bs k).toNat]? = some (stp bs (stp ns k))) : IsMv L n := by
  refine isMv_of n0 hl fun x x0 x1 => ?_
  obtain ⟨y, hy⟩ := List.getElem?_of_mem (hb.mem.mpr ⟨x0, x1⟩)
  have ly := hb.len
  have yl := (List.getElem?_eq_some_iff.mp hy).1
  obtain ⟨k, hk⟩ := List.getElem?_of_mem ((hn.mem (x := (y : Int))).mpr ⟨by omega, by omega⟩)
  have lk := hn.len
  have kl := (List.getElem?_eq_some_iff.mp hk).1
  have ek : stp ns k = y := Option.some.inj ((stp_nat hn (by omega)).1.symm.trans hk)
  have ey : stp bs (y : Int) = x := Option.some.inj ((stp_nat hb (by omega)).1.symm.trans hy)
  have := h k (by omega)
  rw [ek, ey] at this
  exact List.mem_of_getElem? this
theorem sgn_mv {n s g : Int} (h0 : 0 < n) (hg : g = 1 ∨ g = -1) : IsMv ((List.range n.toNat).map fun (k : Nat) => (g * (k : Int) + s) % n) n := by
  refine isMv_of (by omega) (by rw [List.length_map, List.length_range]) fun x x0 x1 => ?_
  have back : ∀ y : Int, ∃ k : Nat, (k : Int) < n ∧ ∃ q : Int, (k : Int) = y + n * q := fun y => by
    have a := Int.emod_nonneg y (show n ≠ 0 by omega)
    have b := Int.emod_lt_of_pos y h0
    refine ⟨(y % n).toNat, by omega, -(y / n), ?_⟩
    have := Int.emod_add_mul_ediv y n
    rw [Int.toNat_of_nonneg a, Int.mul_neg]
    omega
  rcases hg with rfl | rfl
  · obtain ⟨k, kn, q, e⟩ := back (x - s)
    refine List.mem_map.mpr ⟨k, List.mem_range.mpr (by omega), ?_⟩
    rw [Int.one_mul, e, show x - s + n * q + s = x + n * q by omega, Int.add_mul_emod_self_left]
    exact Int.emod_eq_of_lt x0 x1
  · obtain ⟨k, kn, q, e⟩ := back (s - x)
    refine List.mem_map.mpr ⟨k, List.mem_range.mpr (by omega), ?_⟩
    have : (-1) * (k : Int) + s = x + n * (-q) := by rw [e, Int.mul_neg]; omega
    rw [this, Int.add_mul_emod_self_left]
    exact Int.emod_eq_of_lt x0 x1
theorem app_mv {L B : List Int} {t m : Int} (t0 : 0 ≤ t) (m0 : 0 ≤ m) (hl : IsMv L t) (hb : IsMv B m) : IsMv (L ++ B.map (t + ·)) (t + m) := by
  refine isMv_of (by omega) (by rw [List.length_append, List.length_map, hl.len, hb.len]; omega) fun x x0 x1 => ?_
  by_cases c : x < t
  · exact List.mem_append_left _ (hl.mem.mpr ⟨x0, c⟩)
  · exact List.mem_append_right _ (List.mem_map.mpr ⟨x - t, hb.mem.mpr ⟨by omega, by omega⟩, by omega⟩)
end Hd

namespace Hd
open PySem PySem.Spec PyProof.Rows L2
/-! ### the facts of the head, put together -/
section
variable {K : PySem.W.Frag} {h : Heap} {mg : Str → Option Value} {x : Str} {D C CH : Addr}
end
end Hd

namespace Hd
open PySem PySem.Spec PyProof.Rows L2
/-! ### exceptions held as values -/
/-- at a: a new exception of the class at D, its attributes fs at d -/
structure MkX (H H' : Hp) (a d D : Addr) (fs : List (Str × V)) : Prop where
  na : H a = none
  nd : H d = none
  ne : d ≠ a
  at_ : H' a = some (exo a D (some d))
  dc : H' d = some (exd d fs)
  old : ∀ b, b ≠ a → b ≠ d → H' b = H b
theorem MkX.same {H H' : Hp} {a d D : Addr} {fs : List (Str × V)} (m : MkX H H' a d D fs) : Same H H' := fun b u e => by
  rw [m.old b (fun z => by rw [z, m.na] at e; cases e) fun z => by rw [z, m.nd] at e; cases e]
  exact e
section
variable {X : Cx} {x : Str} {D : Addr} {gs : List Str} {e : Expr} {es : List Expr} {ta : TA} {p pos : Pos}
end
/-- what isinstance wants of a class of exceptions -/
structure EcI (K : PySem.W.Frag) (D : Addr) : Prop where
  ga : PySem.W.findIn K (.ref D) "__getattribute__" = some (some (.builtin "BaseException.__getattribute__"))
  gg : PySem.W.findIn K (.ref D) "__getattr__" = some none
  ex : PySem.W.subIn K (.ref D) (.type "BaseException") = some true
  ca : PySem.W.findIn K (.ref D) "__class__" = some (some (.builtin "object.__class__"))
  sg : PySem.W.specialIn K (.builtin "object.__class__") "__get__" = some (some (.builtin "getset_descriptor.__get__"))
  tk : PySem.W.takesIn K (.builtin "object.__class__") = some true
  mo : PySem.W.mroIn K D (.type "object") = some true
  ic : PySem.W.isClsIn K D = true
theorem Ec.i {K : PySem.W.Frag} {mg : Str → Option Value} {x : Str} {D : Addr} (e : Ec K mg x D) : EcI K D := ⟨e.xf.ga, e.xf.gg, e.xf.exC, e.ca, e.sg, e.tk, e.mo, e.ic⟩
/-- an exception of the class at D stands at a -/
def ErV (H : Hp) (a D : Addr) : Prop := (∃ d fs, H a = some (exo a D (some d)) ∧ H d = some (exd d fs)) ∨ H a = some (ExO (.ref D) a)
theorem ErV.up {H H' : Hp} {a D : Addr} (e : ErV H a D) (s : Same H H') : ErV H' a D := e.imp (fun ⟨d, fs, h1, h2⟩ => ⟨d, fs, s _ _ h1, s _ _ h2⟩) (fun h => s _ _ h)
section
variable {X : Cx} {D a d : Addr}
end
end Hd

namespace Hd
open PySem PySem.Spec PyProof.Rows L2
/-! ### moves done one after the other -/
def aft (ns ms : List Int) : List Int := ns.map (stp ms)
theorem aft_len (ns ms : List Int) : (aft ns ms).length = ns.length := List.length_map ..
section
variable {ns ms : List Int} {n : Int} (hn : IsMv ns n) (hm : IsMv ms n)
include hn
theorem stp_aft {p : Int} (hp : inR n p) : stp (aft ns ms) p = stp ms (stp ns p) := by
  have e := (stp_at hn hp).1
  show ((ns.map (stp ms))[p.toNat]?).getD 0 = _
  rw [List.getElem?_map, e]
  rfl
theorem mv_ext {L : List Int} (hl : L.length = n.toNat) (h : ∀ k : Nat, (k : Int) < n → L[k]? = some (stp ns k)) : L = ns := by
  refine List.ext_getElem? fun k => ?_
  have ln := hn.len
  by_cases c : (k : Int) < n
  · rw [h k c, (stp_nat hn c).1]
  · rw [List.getElem?_eq_none (by omega), List.getElem?_eq_none (by omega)]
include hm
theorem aft_mv (n0 : 0 ≤ n) : IsMv (aft ns ms) n := by
  refine isMv_of n0 (by rw [aft_len]; exact hn.len) fun x x0 x1 => ?_
  obtain ⟨y, hy⟩ := List.getElem?_of_mem (hm.mem.mpr ⟨x0, x1⟩)
  have ly := hm.len
  have yl := (List.getElem?_eq_some_iff.mp hy).1
  have iy : inR n (y : Int) := ⟨by omega, by omega⟩
  refine List.mem_map.mpr ⟨(y : Int), hn.mem.mpr iy, ?_⟩
  exact Option.some.inj ((stp_nat hm iy.2).1.symm.trans hy)
end
theorem aft_assoc {a b c : List Int} {n : Int} (ha : IsMv a n) (hb : IsMv b n) : aft (aft a b) c = aft a (aft b c) := by
  unfold aft
  rw [List.map_map]
  refine List.map_congr_left fun x hx => ?_
  exact (stp_aft (ms := c) hb (ha.mem.mp hx)).symm
/-- ms undoes ns -/
def Undo (n : Int) (ns ms : List Int) : Prop := ∀ p, inR n p → stp ns (stp ms p) = p
theorem stp_rng {n p : Int} (h : inR n p) : stp (rngI n) p = p := by
  show ((rngI n)[p.toNat]?).getD 0 = p
  unfold rngI
  rw [List.getElem?_map, List.getElem?_range (by have := h.1; have := h.2; omega)]
  show ((p.toNat : Nat) : Int) = p
  have := h.1
  omega
theorem rng_mv {n : Int} : IsMv (rngI n) n := .refl _
section
variable {ns ms : List Int} {n : Int} (hn : IsMv ns n) (hm : IsMv ms n) (u : Undo n ns ms)
include hn hm u
end
/-! ### tuple.index of ints -/
end Hd

namespace Hd
open PySem PySem.Spec PyProof.Rows L2
/-! ### sorted of tuples of ints, any number of them -/
def rowD (r : List Int) : PyData := .tuple (r.map PyData.int)
section
variable {prog : Program} {w : World} {A : Around} {E : Value → Shared → Prop} {s : Shared}
theorem lex_go {b fin : Bool} {Q : Bool → Shared → Prop} {xs ys : List Value} {ns ms : List Int} (i : Nat) (hx : IntsAre xs ns) (hy : IntsAre ys ms) (hf : fin = decide (ns.length < ms.length)) (h : Q (HT.lexLt ns ms) s) : PySem.W.KatLex prog w A b fin Q (xs.zip ys) i s := by
  induction hx generalizing ys ms i with
  | nil =>
    cases hy with
    | nil =>
      rw [HT.lexLt_nil_nil] at h
      have : fin = false := by rw [hf]; rfl
      rw [List.zip_nil_left, this]
      exact PySem.W.kat_nil h
    | cons q u hy =>
      rw [HT.lexLt_nil_cons] at h
      have : fin = true := by rw [hf]; exact decide_eq_true (by simp)
      rw [List.zip_nil_left, this]
      exact PySem.W.kat_nil h
  | @cons p t xs ns hx ih =>
    cases hy with
    | nil =>
      rw [HT.lexLt_cons_nil] at h
      have : fin = false := by rw [hf]; exact decide_eq_false (by simp)
      rw [List.zip_nil_right, this]
      exact PySem.W.kat_nil h
    | @cons q u ys ms hy =>
      show PySem.W.KatLex prog w A b fin Q ((Value.int p t, Value.int q u) :: xs.zip ys) i s
      rw [HT.lexLt_cons] at h
      refine PySem.W.kat_cons (wpAny_eqBool_int ?_)
      by_cases e : p = q
      · subst e
        rw [beq_self_eq_true]
        rw [if_pos rfl] at h
        have hf' : fin = decide (ns.length < ms.length) := by
          rw [hf]
          refine decide_eq_decide.mpr ?_
          simp
        exact PySem.W.kat_yes (ih (i + 1) hy hf' h)
      · rw [show (p == q) = false from beq_eq_false_iff_ne.mpr e]
        rw [if_neg e] at h
        exact PySem.W.kat_no (TS.oneLt_ints _ h)
theorem firsts_tups {h : Heap} {k : Value → List Int} : ∀ vs : List Value, (∀ v ∈ vs, TS.TupInts h v (k v)) → (∀ v ∈ vs, k v ≠ []) → ∃ fs, PySem.W.KatTups h vs fs ∧ fs.length = vs.length ∧ ∀ f, f ∈ fs → ∃ n t, f = Value.int n t
  | [], _, _ => ⟨[], PySem.W.KatTups.nil, rfl, fun f hf => by simp at hf⟩
  | v :: vs, x, d => by
    obtain ⟨fs, c, hl, hi⟩ := firsts_tups vs (fun u hu => x u (List.mem_cons_of_mem _ hu)) fun u hu => d u (List.mem_cons_of_mem _ hu)
    have hn := d v List.mem_cons_self
    obtain ⟨a, xs, rfl, ⟨o, ho, hc, n, hdt⟩, i⟩ := x v List.mem_cons_self
    obtain ⟨y, ys, e⟩ : ∃ y ys, xs.toList = y :: ys := by
      cases q : xs.toList with
      | nil =>
        rw [q] at i
        have l := i.length
        rw [List.length_nil] at l
        exact absurd (List.eq_nil_of_length_eq_zero l.symm) hn
      | cons y ys => exact ⟨y, ys, rfl⟩
    obtain ⟨m, t, hy⟩ := i.all y (by rw [e]; exact List.mem_cons_self ..)
    refine ⟨y :: fs, PySem.W.KatTups.cons ho hc hdt ?_ c, by simp [hl], ?_⟩
    · have z := congrArg (fun l : List Value => l[0]?) e
      simpa using z
    · intro f hf
      rcases List.mem_cons.mp hf with rfl | hf
      · exact ⟨m, t, hy⟩
      · exact hi f hf
theorem tups_sortable {a : Addr} {vs : List Value} {k : Value → List Int} (h2 : 2 ≤ vs.length) (hd : ∀ v ∈ vs, k v ≠ []) (hp : ∀ v ∈ vs, TS.TupInts s.heap v (k v)) (ha : ∀ o, s.heap.get? a = some o → o.cls ≠ .type "tuple") :
    SrtO.SortableO prog w A s a vs fun v u => HT.lexLt (k v) (k u) := by
  intro h' keep
  have hp' : ∀ v ∈ vs, TS.TupInts h' v (k v) := fun v hm => (hp v hm).keeps fun b o e c => keep b o (fun z => by subst z; exact ha o e c) e
  obtain ⟨fs, h1, h3, h4⟩ := firsts_tups vs hp' hd
  refine ⟨tuples' true, fun Q E hq => ?_, ?_⟩
  · refine PySem.W.kat_kind (T := .type "int") h1 (by omega) (fun f hm => ?_) (by rfl) ?_
    · obtain ⟨x, t, rfl⟩ := h4 f hm
      exact PySem.W.Looks.now
    · have e : (Value.type "int" != Value.type "tuple") = true := by first | decide +kernel | rfl | decide
      rw [e]
      exact hq
  · intro p q hm hm'
    show wpAny (model prog w) A (keyLt' (tuples' true) p.1 q.1) (fun r s' => s' = { s with heap := h' } ∧ r = HT.lexLt (k p.1) (k q.1)) (fun _ _ => False) { s with heap := h' }
    obtain ⟨a1, xs, e1, ⟨o, ho, hc, n, hdt⟩, i1⟩ := hp' _ hm
    obtain ⟨a2, ys, e2, ⟨o', ho', hc', n', hdt'⟩, i2⟩ := hp' _ hm'
    generalize k p.1 = ns at i1 ⊢
    generalize k q.1 = ms at i2 ⊢
    rw [e1, e2]
    refine PySem.W.kat_lt ho hdt ho' hdt' (lex_go 0 i1 i2 ?_ ⟨rfl, rfl⟩)
    have l1 := i1.length
    have l2 := i2.length
    rw [Array.length_toList] at l1 l2
    rw [l1, l2]
end
/-- the ints of the tuple that the heap tells of -/
def kH (H : Hp) : V → List Int
  | .ref a => match H a with
    | some (.tup xs) => xs.map intV
    | _ => []
  | _ => []
theorem kH_row {H : Hp} {v : V} {r : List Int} (h : Da H v (rowD r)) : kH H v = r := by
  unfold rowD at h
  cases h with
  | tup ha dx =>
    obtain rfl := vals_int dx
    simp only [kH, ha]
    exact map_intV r
theorem kH_da {H : Hp} {v : V} {r : List Int} (h : Da H v (rowD r)) : Da H v (rowD (kH H v)) := by rw [kH_row h]; exact h
theorem rows_kH {H : Hp} : ∀ {xs : List V} {Ls : List (List Int)}, DaAll H xs (Ls.map rowD) → Ls = xs.map (kH H)
  | _, [], .nil => rfl
  | _, r :: Ls, .cons h t => by
    rw [List.map_cons, kH_row h, ← rows_kH t]
theorem rows_mem {H : Hp} : ∀ {xs : List V} {Ls : List (List Int)}, DaAll H xs (Ls.map rowD) → ∀ x ∈ xs, Da H x (rowD (kH H x))
  | _, [], .nil, x, hx => by cases hx
  | _, r :: Ls, .cons h t, x, hx => by
    rcases List.mem_cons.mp hx with rfl | hx
    · exact kH_da h
    · exact rows_mem t x hx
theorem rows_of {H : Hp} : ∀ {xs : List V}, (∀ x ∈ xs, Da H x (rowD (kH H x))) → DaAll H xs ((xs.map (kH H)).map rowD)
  | [], _ => .nil
  | x :: xs, h => .cons (h x List.mem_cons_self) (rows_of fun y hy => h y (List.mem_cons_of_mem _ hy))
theorem rows_ref {H : Hp} {x : V} {r : List Int} (h : Da H x (rowD r)) : ∃ t, x = .ref t ∧ H t = some (.tup (r.map V.int)) := by
  unfold rowD at h
  cases h with
  | tup ha dx =>
    obtain rfl := vals_int dx
    exact ⟨_, rfl, ha⟩
/-- sorted of rows: what comes of it -/
def SortedTo (H : Hp) (xs : List V) (Ls : List (List Int)) (Q : VK) : Prop := ∀ (ys : List V) (Ms : List (List Int)) (p : Addr) (H2 : Hp), DaAll H ys (Ms.map rowD) → Ms.Perm Ls → Ms.Pairwise (fun x y => HT.lexLt y x = false) → New H p (.lst ys) H2 → Q (.ref p) H2
def rSortR (K : PySem.W.Frag) : List V → Hp → VK → Prop := fun vs H Q => ∃ (a : Addr) (xs : List V) (Ls : List (List Int)), vs = [V.ref a] ∧ (SqL K H a xs) ∧ DaAll H xs (Ls.map rowD) ∧ (2 ≤ Ls.length → ∀ l ∈ Ls, l ≠ []) ∧ SortedTo H xs Ls Q
section
variable {X : Cx}
theorem tup_raw {pins : List (Addr × Obj)} {σ : L2.St} {H : Hp} {s : Shared} (I : Inv X pins σ H s) {t : Addr} {ns : List Int} (h : H t = some (.tup (ns.map V.int))) : TS.TupInts s.heap (.ref t) ns := by
  obtain ⟨_, its, rv, o, ho, hc, n, hd⟩ := I.hok t _ h
  exact ⟨t, its.toArray, rfl, ⟨o, ho, hc, n, hd⟩, rv.ints⟩
theorem call_sortR : CallR X (.builtin "sorted") (rSortR X.K) := by
  intro pins s σ H vs us Q I r h
  obtain ⟨a, xs, Ls, rfl, hs, hx, ne, q⟩ := h
  obtain ⟨its, rv, hl, hz⟩ := I.list hs
  rw [Vals.ref1 r]
  have hm := rows_mem hx
  obtain ⟨e1, e2⟩ := refs_back rv fun x m => by
    obtain ⟨t, e, _⟩ := rows_ref (hm x m)
    exact ⟨t, e⟩
  have eL := rows_kH hx
  have lL : Ls.length = its.length := by rw [eL, List.length_map, e1, List.length_map]
  have keys : ∀ v ∈ its, Da H (backV v) (rowD (kH H (backV v))) := fun v hv => hm _ (by rw [e1]; exact List.mem_map.mpr ⟨_, hv, rfl⟩)
  refine SrtO.sorted_ord (NtL.swo_lexL fun u => kH H (backV u)) hl.isList (by rw [← rv.length]; exact hz) (fun h2 h₁ b ha kk => ?_) fun out h1 h2 => ?_
  · refine tups_sortable (s := { s with heap := h₁ }) h2 (fun v hv => ?_) (fun v hv => ?_) fun o e => ?_
    · refine ne (by omega) _ ?_
      rw [eL, e1, List.map_map]
      exact List.mem_map.mpr ⟨v, hv, rfl⟩
    · obtain ⟨t, e, ht⟩ := rows_ref (keys v hv)
      obtain ⟨c, rfl⟩ := e2 v hv
      cases e
      exact (tup_raw I ht).keeps fun b o e _ => (kk b o e).2
    · have e' : some o = some (seqObj "list" its.toArray 0) := e.symm.trans ha
      cases e'
      intro c
      exact absurd (Value.type.inj c) (by decide)
  · have h3 : ∀ u ∈ out, ∃ a, u = Value.ref a := fun u hu => e2 u (h2.perm.mem_iff.mp hu)
    obtain ⟨n, hn⟩ := PyProof.Rows.sortedAll_at s.heap its out.toArray
    have pm : (out.map backV).Perm xs := by rw [e1]; exact h2.perm.map _
    have hlen : (out.map backV).length ≤ sizeLine := by rw [pm.length_eq]; exact hz
    refine ⟨.ref _, upd H (s.heap.objs.size + 1) (.lst (out.map backV)), I.laid (t' := s.toks) (fun _ _ => PyProof.Rows.sortedAll_old) (Nat.le_succ _) ⟨hlen, out, n, vals_back h3, hn⟩, rfl, q (out.map backV) ((out.map backV).map (kH H)) _ _ (rows_of fun x hx' => hm x (pm.mem_iff.mp hx')) ?_ ?_ ⟨I.hok.fresh (Nat.le_succ _), rfl⟩⟩
    · rw [eL]
      exact pm.map _
    · rw [List.map_map]
      exact List.pairwise_map.mpr h1
/-- sorted of a dict with such keys -/
def keyL (r : List Int) : List L2.Key := r.map Sum.inl
theorem keyL_kV (r : List Int) : (keyL r).map kV = r.map V.int := by
  unfold keyL
  rw [List.map_map]
  rfl
theorem keyL_inj {a b : List Int} (e : keyL a = keyL b) : a = b := by
  have := congrArg (List.map kV) e
  rw [keyL_kV, keyL_kV] at this
  have z := congrArg (List.map intV) this
  rwa [map_intV, map_intV] at z
def rSortDT : List V → Hp → VK → Prop := fun vs H Q => ∃ (a : Addr) (kvs : List (List L2.Key × V)) (Ls : List (List Int)), vs = [V.ref a] ∧ H a = some (.dT kvs) ∧ kvs.map (·.1) = Ls.map keyL ∧ (2 ≤ Ls.length → ∀ l ∈ Ls, l ≠ []) ∧
  ∀ (ys : List V) (Ms : List (List Int)) (p : Addr) (H2 : Hp), DaAll H ys (Ms.map rowD) → Ms.Perm Ls → Ms.Pairwise (fun x y => HT.lexLt y x = false) → New H p (.lst ys) H2 → Q (.ref p) H2
theorem keys_rows {H : Hp} : ∀ {kvs : List (List L2.Key × V)} {xs : List (List L2.Key × Addr × Value)} {Ls : List (List Int)}, KT H kvs xs → kvs.map (·.1) = Ls.map keyL → DaAll H (xs.map fun x => V.ref x.2.1) (Ls.map rowD)
  | _, _, [], .nil, _ => .nil
  | _, _, _ :: _, .nil, e => by cases e
  | _, _, [], .cons _ _, e => by cases e
  | _, _, r :: Ls, .cons h t, e => by
    rw [List.map_cons, List.map_cons] at e
    injection e with e1 e2
    refine .cons ?_ (keys_rows t e2)
    refine .tup (xs := r.map V.int) ?_ (DaAll.ints r)
    rw [h.2.1, e1, keyL_kV]
theorem call_sortDT (hc : X.calm = true) : CallR X (.builtin "sorted") rSortDT := by
  intro pins s σ H vs us Q I r h
  obtain ⟨d, kvs, Ls, rfl, hd, ek, ne, q⟩ := h
  obtain ⟨u, rfl, rx⟩ := r.one
  cases rx
  obtain ⟨z, hs, ks, pr, o, es, ep, ho, hx, hdt, he, hn⟩ := (show ObjOk X.prog X.w H s.heap d (.dT kvs) from I.hok d _ hd)
  have l1 : es.size = ks.length := size_of_entries he
  have l2 : kvs.length = ks.length := Paired.length pr
  have hr := keys_rows pr ek
  have hm := rows_mem hr
  have eL := rows_kH hr
  refine Calls.call_function_entry kind_sorted plain_sorted entry_sorted (args_sorted1 _) ?_
  unfold Builtin.«sorted»
  refine wpAny_bind (m := checkCount "sorted" 1 1 _) (wpAny_pure ?_)
  refine wpAny_bind (PySem.W.kdu_collect (kdl_raw hs hx hdt) (I.ok.hd hc) ho (by omega) fun h' tk acc kp it => ?_)
  have ea : acc.toList = ks.map fun x => Value.ref x.2.1 := by
    have hl : acc.toList.length = ks.length := by rw [Array.length_toList, it.1]; exact l1
    apply List.ext_getElem?
    intro j
    rw [List.getElem?_map]
    cases hj : acc.toList[j]? with
    | none =>
      have h1 := List.getElem?_eq_none_iff.mp hj
      rw [List.getElem?_eq_none (by omega)]
      all_goals rfl
    | some v =>
      obtain ⟨en, hen, hv⟩ := it.2 j v (by rw [← Array.getElem?_toList]; exact hj)
      have qe := entry_at he j
      rw [hen] at qe
      cases hb : ks[j]? with
      | none =>
        rw [hb] at qe
        exact nomatch (show some en = none from qe)
      | some b =>
        rw [hb] at qe
        have e2 : en = entryOfKey (tupleKind (mixKind X.prog X.w)) b := Option.some.inj qe
        rw [hv, e2]
        all_goals rfl
  generalize eits : acc.toList = its at ea ⊢
  have ex : (ks.map fun x => V.ref x.2.1) = its.map backV := by
    rw [ea, List.map_map]
    rfl
  have e2 : ∀ u ∈ its, ∃ a, u = Value.ref a := fun u hu => by
    rw [ea] at hu
    obtain ⟨x, _, rfl⟩ := List.mem_map.mp hu
    exact ⟨_, rfl⟩
  have li : its.length = ks.length := by rw [ea, List.length_map]
  have lL : Ls.length = its.length := by rw [eL, List.length_map, List.length_map, li]
  have I1 : Inv X pins σ H { s with heap := h', toks := tk } := I.kept kp
  refine wpAny_bind (wpAny_newList ?_ (by omega))
  have here : (h'.push (seqObj "list" its.toArray 0)).get? h'.objs.size = some (seqObj "list" its.toArray 0) := Heap.get?_push_size _ rfl
  show wpAny _ _ _ _ _ { s with heap := h'.push (seqObj "list" its.toArray 0), toks := tk }
  have keys : ∀ v ∈ its, Da H (backV v) (rowD (kH H (backV v))) := fun v hv => hm _ (by rw [ex]; exact List.mem_map.mpr ⟨_, hv, rfl⟩)
  refine wpAny_bind (wpAny_holding (wpAny_call_entry slot_list_sort ⟨_, here, rfl⟩ entry_list_sort
    (SrtO.list_sort_ord (s := { s with heap := h'.push (seqObj "list" its.toArray 0), toks := tk }) (NtL.swo_lexL fun u => kH H (backV u)) here (by omega) (fun h2 => ?_) fun out h1 h2 => ⟨_, rfl, ?_⟩) (args_list_sort _)))
  · refine tups_sortable h2 (fun v hv => ?_) (fun v hv => ?_) fun o e => ?_
    · refine ne (by omega) _ ?_
      rw [eL, ex, List.map_map]
      exact List.mem_map.mpr ⟨v, hv, rfl⟩
    · obtain ⟨t, e, ht⟩ := rows_ref (keys v hv)
      obtain ⟨c, rfl⟩ := e2 v hv
      cases e
      exact (tup_raw I1 ht).keeps fun b o e _ => Heap.get?_push_of_some _ e
    · have e' : some o = some (seqObj "list" its.toArray 0) := e.symm.trans here
      cases e'
      intro c
      exact absurd (Value.type.inj c) (by decide)
  · have h3 : ∀ u ∈ out, ∃ a, u = Value.ref a := fun u hu => e2 u (h2.perm.mem_iff.mp hu)
    obtain ⟨n, hn⟩ := PyProof.Rows.sortedHeap_at (vs := its) (out := out.toArray) here
    have pm : (out.map backV).Perm (ks.map fun x => V.ref x.2.1) := by rw [ex]; exact h2.perm.map _
    have hlen : (out.map backV).length ≤ sizeLine := by rw [pm.length_eq, List.length_map]; omega
    refine wpAny_pure ⟨_, rfl, ⟨.ref _, upd H h'.objs.size (.lst (out.map backV)), I1.laid (t' := tk) (fun b o e => ?_) (Nat.le_refl _) ⟨hlen, out, n, vals_back h3, hn⟩, rfl, q (out.map backV) ((out.map backV).map (kH H)) _ _ (rows_of fun x hx' => hm x (pm.mem_iff.mp hx')) ?_ ?_ ⟨I1.hok.fresh (Nat.le_refl _), rfl⟩⟩⟩
    · have lt := Heap.lt_size e
      rw [PyProof.Rows.sortedHeap_old (Nat.ne_of_lt lt) (by rw [size_push']; exact Nat.lt_succ_of_lt lt)]
      exact Heap.get?_push_of_some _ e
    · rw [eL]
      exact pm.map _
    · rw [List.map_map]
      exact List.pairwise_map.mpr h1
end
end Hd

namespace Hd
open PySem PySem.Spec PyProof.Rows L2
/-! ### rows reached by doing moves in turn -/
inductive Rch (T : List (List Int)) (r : List Int) : List Int → Prop
  | base : Rch T r r
  | step {w m : List Int} : Rch T r w → m ∈ T → Rch T r (aft w m)
def AllMv (n : Int) (T : List (List Int)) : Prop := ∀ m ∈ T, IsMv m n
def RowIn (n : Int) (w : List Int) : Prop := ∀ p ∈ w, inR n p
theorem RowIn.aft {n : Int} {w m : List Int} (h : RowIn n w) (hm : IsMv m n) : RowIn n (aft w m) := fun p hp => by
  obtain ⟨q, hq, rfl⟩ := List.mem_map.mp hp
  exact (stp_at hm (h q hq)).2
theorem IsMv.row {n : Int} {m : List Int} (h : IsMv m n) : RowIn n m := fun p hp => h.mem.mp hp
section
variable {n : Int} {T : List (List Int)} {r : List Int}
theorem Rch.row (hT : AllMv n T) (h : RowIn n r) {w : List Int} (c : Rch T r w) : RowIn n w ∧ w.length = r.length := by
  induction c with
  | base => exact ⟨h, rfl⟩
  | step _ hm ih => exact ⟨ih.1.aft (hT _ hm), by rw [aft_len]; exact ih.2⟩
theorem Rch.mono {T' : List (List Int)} (h : ∀ m ∈ T, m ∈ T') {w : List Int} (c : Rch T r w) : Rch T' r w := by
  induction c with
  | base => exact .base
  | step _ hm ih => exact .step ih (h _ hm)
end
abbrev Mk' (n : Int) (T : List (List Int)) (w : List Int) : Prop := Rch T (rngI n) w
theorem aft_rng {w : List Int} {n : Int} (h : RowIn n w) : aft w (rngI n) = w := by
  unfold aft
  have : w.map (stp (rngI n)) = w.map id := List.map_congr_left fun x hx => stp_rng (h x hx)
  rw [this, List.map_id]
theorem rng_aft {m : List Int} {n : Int} (h : IsMv m n) : aft (rngI n) m = m := by
  refine mv_ext h (by rw [aft_len, rngI_len]) fun k kn => ?_
  unfold aft rngI
  rw [List.map_map, List.getElem?_map, List.getElem?_range (by omega)]
  rfl
section
variable {n : Int} {T : List (List Int)}
theorem made_mv (n0 : 0 ≤ n) (hT : AllMv n T) {w : List Int} (c : Mk' n T w) : IsMv w n := by
  induction c with
  | base => exact rng_mv
  | step _ hm ih => exact aft_mv ih (hT _ hm) n0
theorem made_told (hT : AllMv n T) {m : List Int} (h : m ∈ T) : Mk' n T m := by
  have := Rch.step (Rch.base (T := T) (r := rngI n)) h
  rwa [rng_aft (hT _ h)] at this
theorem made_comp (n0 : 0 ≤ n) (hT : AllMv n T) {a b : List Int} (ca : Mk' n T a) (cb : Mk' n T b) : Mk' n T (aft a b) := by
  induction cb with
  | base => rw [aft_rng (made_mv n0 hT ca).row]; exact ca
  | @step w m cw hm ih =>
    rw [← aft_assoc (made_mv n0 hT ca) (made_mv n0 hT cw)]
    exact .step ih hm
theorem made_sub {T' : List (List Int)} (n0 : 0 ≤ n) (hT : AllMv n T) (h : ∀ m ∈ T', Mk' n T m) {w : List Int} (c : Mk' n T' w) : Mk' n T w := by
  induction c with
  | base => exact .base
  | step _ hm ih => exact made_comp n0 hT ih (h _ hm)
end
/-! ### lists in order -/
theorem lex_irr (xs : List Int) : HT.lexLt xs xs = false := by
  cases e : HT.lexLt xs xs with
  | false => rfl
  | true => rw [NtL.lex_asym xs xs e] at e; cases e
theorem lex_tri : ∀ xs ys : List Int, HT.lexLt xs ys = false → HT.lexLt ys xs = false → xs = ys
  | [], [], _, _ => rfl
  | [], y :: ys, h, _ => by rw [HT.lexLt_nil_cons] at h; cases h
  | x :: xs, [], _, h => by rw [HT.lexLt_nil_cons] at h; cases h
  | x :: xs, y :: ys, h1, h2 => by
    rw [HT.lexLt_cons] at h1 h2
    by_cases e : x = y
    · subst e
      rw [if_pos rfl] at h1 h2
      rw [lex_tri xs ys h1 h2]
    · rw [if_neg e] at h1
      rw [if_neg (Ne.symm e)] at h2
      have a := of_decide_eq_false h1
      have b := of_decide_eq_false h2
      omega
/-- ascending, no two alike -/
def Asc (L : List (List Int)) : Prop := L.Pairwise fun x y => HT.lexLt x y = true
theorem asc_of : ∀ {L : List (List Int)}, L.Pairwise (fun x y => HT.lexLt y x = false) → L.Nodup → Asc L
  | [], _, _ => .nil
  | x :: L, h, nd => by
    obtain ⟨h1, h2⟩ := List.pairwise_cons.mp h
    obtain ⟨n1, n2⟩ := List.nodup_cons.mp nd
    refine List.pairwise_cons.mpr ⟨fun y hy => ?_, asc_of h2 n2⟩
    cases e : HT.lexLt x y with
    | true => rfl
    | false => exact absurd (lex_tri _ _ e (h1 y hy) ▸ hy) n1
theorem Asc.nodup {L : List (List Int)} (h : Asc L) : L.Nodup := List.Pairwise.imp (fun {a b} (e : HT.lexLt a b = true) z => by rw [z, lex_irr] at e; cases e) h
theorem asc_eq : ∀ {L M : List (List Int)}, Asc L → Asc M → (∀ x, x ∈ L ↔ x ∈ M) → L = M
  | [], [], _, _, _ => rfl
  | [], y :: M, _, _, h => absurd ((h y).mpr List.mem_cons_self) (by simp)
  | x :: L, [], _, _, h => absurd ((h x).mp List.mem_cons_self) (by simp)
  | x :: L, y :: M, hl, hm, h => by
    obtain ⟨l1, l2⟩ := List.pairwise_cons.mp hl
    obtain ⟨m1, m2⟩ := List.pairwise_cons.mp hm
    have e : x = y := by
      rcases List.mem_cons.mp ((h x).mp List.mem_cons_self) with e | hx
      · exact e
      · rcases List.mem_cons.mp ((h y).mpr List.mem_cons_self) with e | hy
        · exact e.symm
        · have a := m1 x hx
          have b := l1 y hy
          rw [NtL.lex_asym _ _ a] at b
          cases b
    subst e
    have nx : x ∉ L := fun z => by have := l1 x z; rw [lex_irr] at this; cases this
    have ny : x ∉ M := fun z => by have := m1 x z; rw [lex_irr] at this; cases this
    rw [asc_eq l2 m2 fun z => ?_]
    constructor
    · intro hz
      rcases List.mem_cons.mp ((h z).mp (List.mem_cons_of_mem _ hz)) with e | k
      · rw [e] at hz; exact absurd hz nx
      · exact k
    · intro hz
      rcases List.mem_cons.mp ((h z).mpr (List.mem_cons_of_mem _ hz)) with e | k
      · rw [e] at hz; exact absurd hz ny
      · exact k
/-- L: all that is made, in order -/
structure Grp (n : Int) (T L : List (List Int)) : Prop where
  asc : Asc L
  mem : ∀ w, w ∈ L ↔ Mk' n T w
theorem Grp.uniq {n : Int} {T L M : List (List Int)} (a : Grp n T L) (b : Grp n T M) : L = M := asc_eq a.asc b.asc fun x => (a.mem x).trans (b.mem x).symm
theorem Grp.of_perm {n : Int} {T L Ks : List (List Int)} (nd : Ks.Nodup) (mem : ∀ w, w ∈ Ks ↔ Mk' n T w) (pm : L.Perm Ks) (so : L.Pairwise fun x y => HT.lexLt y x = false) : Grp n T L := ⟨asc_of so ((List.Perm.nodup_iff pm).mpr nd), fun w => (List.Perm.mem_iff pm).trans (mem w)⟩
theorem Grp.like {n : Int} {T T' L : List (List Int)} (n0 : 0 ≤ n) (hT : AllMv n T) (hT' : AllMv n T') (h : ∀ m ∈ T, Mk' n T' m) (h' : ∀ m ∈ T', Mk' n T m) (g : Grp n T L) : Grp n T' L := ⟨g.asc, fun w => (g.mem w).trans ⟨made_sub n0 hT' h, made_sub n0 hT h'⟩⟩
theorem Grp.still {n : Int} {T L : List (List Int)} (g : Grp n T L) : rngI n ∈ L := (g.mem _).mpr .base
theorem Grp.none {n : Int} : Grp n [] [rngI n] := ⟨List.pairwise_singleton _ _, fun w => ⟨fun h => by rw [List.mem_singleton.mp h]; exact .base, fun h => by
  cases h with
  | base => exact List.mem_singleton.mpr rfl
  | step _ hm => cases hm⟩⟩
theorem len_sub : ∀ {K L : List (List Int)}, K.Nodup → (∀ w ∈ K, w ∈ L) → K.length ≤ L.length
  | [], L, _, _ => Nat.zero_le _
  | x :: K, L, nd, h => by
    obtain ⟨n1, n2⟩ := List.nodup_cons.mp nd
    have hx := h x List.mem_cons_self
    have := len_sub (K := K) (L := L.erase x) n2 fun w hw => (List.mem_erase_of_ne fun e => n1 (by rw [← e]; exact hw)).mpr (h w (List.mem_cons_of_mem _ hw))
    rw [List.length_erase_of_mem hx] at this
    have := List.length_pos_of_mem hx
    rw [List.length_cons]
    omega
/-- closed under the moves: then it is all that is reached -/
theorem rch_all {T : List (List Int)} {r : List Int} {K : List (List Int)} (hb : r ∈ K) (hc : ∀ w ∈ K, ∀ m ∈ T, aft w m ∈ K) {w : List Int} (c : Rch T r w) : w ∈ K := by
  induction c with
  | base => exact hb
  | step _ hm ih => exact hc _ ih _ hm
end Hd

namespace Hd
open PySem PySem.Spec PyProof.Rows L2
theorem u65 {k : Nat} {A : Around} (r : Room k A) : A.units + 65 < cLine := by
  have := r.un
  omega
/-! ### a walk that is one of two -/
def iOr (a b : TI) : TI := fun σ H R => a σ H R ∨ b σ H R
theorem pi_or {X : Cx} {tg e : Expr} {a b : TI} (ha : PI X tg e a) (hb : PI X tg e b) : PI X tg e (iOr a b) := ⟨fun pins s σ H R I h => h.elim (fun h => ha.run pins s σ H R I h) fun h => hb.run pins s σ H R I h⟩
/-- a for over enumerate(tuple) -/
theorem for_enumT {K : PySem.W.Frag} {a : Addr} {xs : List V} {g : TG} {tb : TS} {D : Ends} {σ : L2.St} {H : Hp} (Pv : Nat → L2.St → Hp → Prop) (h0 : Pv 0 σ H) (hl : ∀ i σ H, i ≤ xs.length → Pv i σ H → SqT K H a xs)
    (hs : ∀ i x T σ H H', xs[i]? = some x → Pv i σ H → New H T (.tup [.int (i : Nat), x]) H' → g (.ref T) σ H' fun σ2 H2 => tb { D with nx := Pv (i + 1), ct := Pv (i + 1), bk := D.nx } σ2 H2) (hd : ∀ σ H, Pv xs.length σ H → D.nx σ H) :
    ∃ W : Nat → Nat → L2.St → Hp → Prop, (∃ m, W 0 m σ H) ∧ ∀ i m σ H, W i m σ H →
      ((Ete K a).stop i H ∧ D.nx σ H) ∨ ((Ete K a).go i H ∧ ∃ N : L2.St → Hp → Prop, (∀ σ' H', N σ' H' → ∃ m', m' < m ∧ W (i + 1) m' σ' H') ∧ ∀ x H', (Ete K a).yld i H x H' → g x σ H' fun σ2 H2 => tb { D with nx := N, ct := N, bk := D.nx } σ2 H2) := by
  refine ⟨fun i m σ H => m = xs.length - i ∧ i ≤ xs.length ∧ Pv i σ H, ⟨xs.length, by simp, Nat.zero_le _, h0⟩, ?_⟩
  rintro i m σ H ⟨rfl, hi, p⟩
  have q := hl i σ H hi p
  by_cases hlt : i < xs.length
  · refine .inr ⟨⟨xs, xs[i], q, List.getElem?_eq_getElem hlt⟩, Pv (i + 1), fun σ' H' p' => ⟨xs.length - (i + 1), by omega, rfl, hlt, p'⟩, ?_⟩
    rintro v H' ⟨T, x, rfl, nT, k⟩
    exact hs i x T σ H H' (k xs q) p nT
  · have e : i = xs.length := by omega
    subst e
    exact .inl ⟨⟨xs, q, Nat.le_refl _⟩, hd σ H p⟩
theorem for_enumL {K : PySem.W.Frag} {a : Addr} {xs : List V} {g : TG} {tb : TS} {D : Ends} {σ : L2.St} {H : Hp} (Pv : Nat → L2.St → Hp → Prop) (h0 : Pv 0 σ H) (hl : ∀ i σ H, i ≤ xs.length → Pv i σ H → SqL K H a xs)
    (hs : ∀ i x T σ H H', xs[i]? = some x → Pv i σ H → New H T (.tup [.int (i : Nat), x]) H' → g (.ref T) σ H' fun σ2 H2 => tb { D with nx := Pv (i + 1), ct := Pv (i + 1), bk := D.nx } σ2 H2) (hd : ∀ σ H, Pv xs.length σ H → D.nx σ H) :
    ∃ W : Nat → Nat → L2.St → Hp → Prop, (∃ m, W 0 m σ H) ∧ ∀ i m σ H, W i m σ H →
      ((Ite K a).stop i H ∧ D.nx σ H) ∨ ((Ite K a).go i H ∧ ∃ N : L2.St → Hp → Prop, (∀ σ' H', N σ' H' → ∃ m', m' < m ∧ W (i + 1) m' σ' H') ∧ ∀ x H', (Ite K a).yld i H x H' → g x σ H' fun σ2 H2 => tb { D with nx := N, ct := N, bk := D.nx } σ2 H2) := by
  refine ⟨fun i m σ H => m = xs.length - i ∧ i ≤ xs.length ∧ Pv i σ H, ⟨xs.length, by simp, Nat.zero_le _, h0⟩, ?_⟩
  rintro i m σ H ⟨rfl, hi, p⟩
  have q := hl i σ H hi p
  by_cases hlt : i < xs.length
  · refine .inr ⟨⟨xs, xs[i], q, List.getElem?_eq_getElem hlt⟩, Pv (i + 1), fun σ' H' p' => ⟨xs.length - (i + 1), by omega, rfl, hlt, p'⟩, ?_⟩
    rintro v H' ⟨T, x, rfl, nT, eT, k⟩
    exact hs i x T σ H H' (k xs q) p ⟨nT, eT⟩
  · have e : i = xs.length := by omega
    subst e
    exact .inl ⟨⟨xs, q, Nat.le_refl _⟩, hd σ H p⟩
/-! ### defs with defaults, all arguments given -/
def DefD (K : PySem.W.Frag) (mg : Str → Option Value) (x : Str) (st : Stmt) (ps : List Str) : Prop :=
  ∃ f fd dvs, FunD K x x (defArgs st) (defBody st) (defScope st) dvs [] f fd ∧ mg x = some (.ref f) ∧ Binds K fd ps []
section
variable {P : Program} {w : World} {K : PySem.W.Frag} {mg : Str → Option Value} {base : Heap} {x : Str} {st : Stmt} {ps N : List Str} {k : Nat} {sp : Sp}
theorem DefD.calX (D : DefD K mg x st ps) (S : FnScope N ps (defScope st)) (len : ∀ vs H Q E, sp vs H Q E → vs.length = ps.length)
    (hbody : ∀ (f : Addr) (cdv : Value) (A : Around) (outer : List Env) (s : Shared) (H : Hp) (vs : List V) (Q : VK) (E : XK), Room k (A.deeper (envOfC x (defScope st) s.heap.objs.size f cdv)) → sp vs H Q E →
      ∃ t, PSs (cxOf (L2N.CX P w) P w K mg base N x (defScope st) f cdv A outer s H E) (defBody st) t ∧ t { nx := fun _ H' => Q .non H', rt := Q } (start N vs) H) : CalX P w K mg base x (k + 1) ps sp := by
  obtain ⟨f, fd, dvs, F, g, b⟩ := D
  exact ⟨f, fd, F.ok S len fun cdv A outer s H vs Q E hr h => hbody f cdv A outer s H vs Q E hr h, g, F.kp, b⟩
end
theorem bindsD {K : PySem.W.Frag} {x qual : Str} {st : Stmt} {v : V} {f : Addr} {fd : FuncData} {ps : List Str} (F : FunD K x qual (defArgs st) (defBody st) (defScope st) [v] [] f fd)
    (h : ∀ (T : Addr) (kV doc pm : Value) (an : Option Addr) (cdv ct : Value) (us its : List Value), us.length = ps.length → its.length = 1 →
      ∃ k, bindArgs (PySem.W.fnOf x qual (defArgs st) (defBody st) (defScope st) (.ref T) kV doc pm an cdv ct) ⟨us, []⟩ = seqItems? (.ref T) >>= k ∧ k (some its.toArray) = pure (ps.zip (us ++ its.drop 1))) : Binds K fd ps [] := by
  obtain ⟨ds, hv, b⟩ := F.binds1 ps.length 1 (by simp) (by simp) (fun T kV doc pm an cdv ct us its l1 l2 => h T kV doc pm an cdv ct us its l1 l2)
  cases hv
  exact b
/-! ### methods that may raise -/
def CalM (P : Program) (w : World) (K : PySem.W.Frag) (mg : Str → Option Value) (base : Heap) (C : Addr) (m : Str) (k : Nat) (ps : List Str) (sp : Sp) : Prop :=
  ∃ f fd, FnOk P w K mg base (L2N.CX P w) k f fd ps sp ∧ PySem.W.findIn K (.ref C) m = some (some (.ref f)) ∧ PySem.W.isFn K (.ref f) = true ∧ PySem.W.keepIn K (.ref f) = true ∧ Binds K fd ps []
def CalP (P : Program) (w : World) (K : PySem.W.Frag) (mg : Str → Option Value) (base : Heap) (C : Addr) (m : Str) (k : Nat) (ps : List Str) (sp : Sp) : Prop :=
  ∃ p f fd, PropOf K C m p f ∧ FnOk P w K mg base (L2N.CX P w) k f fd ps sp ∧ Binds K fd ps []
/-- a method as it stands behind the top -/
def MDef (K : PySem.W.Frag) (C : Addr) (m qual : Str) (st : Stmt) (ps : List Str) : Prop :=
  ∃ f fd dvs, FunD K m qual (defArgs st) (defBody st) (defScope st) dvs [] f fd ∧ PySem.W.findIn K (.ref C) m = some (some (.ref f)) ∧ PySem.W.isFn K (.ref f) = true ∧ Binds K fd ps []
def PDef (K : PySem.W.Frag) (C : Addr) (m qual : Str) (st : Stmt) (ps : List Str) : Prop :=
  ∃ p f fd dvs, FunD K m qual (defArgs st) (defBody st) (defScope st) dvs [] f fd ∧ PropOf K C m p f ∧ Binds K fd ps []
theorem Fun.D {K : PySem.W.Frag} {x qual : Str} {st : Stmt} {f : Addr} {fd : FuncData} (F : Fun K x qual st f fd) : FunD K x qual (defArgs st) (defBody st) (defScope st) [] [] f fd := by
  obtain ⟨oc, od, kV, doc, pm, an, cdv, ct, osl, rfl, lk, hcd⟩ := F.ex
  exact ⟨⟨oc, od, .none, kV, doc, pm, an, cdv, ct, osl, rfl, lk, hcd, .inl ⟨rfl, rfl⟩, .inl rfl⟩, F.kp⟩
section
variable {P : Program} {w : World} {K : PySem.W.Frag} {mg : Str → Option Value} {base : Heap} {C : Addr} {m qual : Str} {st : Stmt} {ps N : List Str} {k : Nat} {sp : Sp}
theorem MDef.calM (D : MDef K C m qual st ps) (S : FnScope N ps (defScope st)) (len : ∀ vs H Q E, sp vs H Q E → vs.length = ps.length)
    (hbody : ∀ (f : Addr) (cdv : Value) (A : Around) (outer : List Env) (s : Shared) (H : Hp) (vs : List V) (Q : VK) (E : XK), Room k (A.deeper (envOfC qual (defScope st) s.heap.objs.size f cdv)) → sp vs H Q E →
      ∃ t, PSs (cxOf (L2N.CX P w) P w K mg base N qual (defScope st) f cdv A outer s H E) (defBody st) t ∧ t { nx := fun _ H' => Q .non H', rt := Q } (start N vs) H) : CalM P w K mg base C m (k + 1) ps sp := by
  obtain ⟨f, fd, dvs, F, g, isf, b⟩ := D
  exact ⟨f, fd, F.ok S len fun cdv A outer s H vs Q E hr h => hbody f cdv A outer s H vs Q E hr h, g, isf, F.kp, b⟩
theorem PDef.calP (D : PDef K C m qual st ps) (S : FnScope N ps (defScope st)) (len : ∀ vs H Q E, sp vs H Q E → vs.length = ps.length)
    (hbody : ∀ (f : Addr) (cdv : Value) (A : Around) (outer : List Env) (s : Shared) (H : Hp) (vs : List V) (Q : VK) (E : XK), Room k (A.deeper (envOfC qual (defScope st) s.heap.objs.size f cdv)) → sp vs H Q E →
      ∃ t, PSs (cxOf (L2N.CX P w) P w K mg base N qual (defScope st) f cdv A outer s H E) (defBody st) t ∧ t { nx := fun _ H' => Q .non H', rt := Q } (start N vs) H) : CalP P w K mg base C m (k + 1) ps sp := by
  obtain ⟨p, f, fd, dvs, F, hp, b⟩ := D
  exact ⟨p, f, fd, hp, F.ok S len fun cdv A outer s H vs Q E hr h => hbody f cdv A outer s H vs Q E hr h, b⟩
end
structure WCls (K : PySem.W.Frag) (mg : Str → Option Value) (x : Str) (C : Addr) : Prop where
  cl : Cls K C
  gC : mg x = some (.ref C)
  mks : PySem.W.makesIn K C = true
  kp : PySem.W.keepIn K (.ref C) = true
  ca : PySem.W.findIn K (.ref C) "__class__" = some (some (.builtin "object.__class__"))
  sg : PySem.W.specialIn K (.builtin "object.__class__") "__get__" = some (some (.builtin "getset_descriptor.__get__"))
  tk : PySem.W.takesIn K (.builtin "object.__class__") = some true
  mo : PySem.W.mroIn K C (.type "object") = some true
theorem kit_self {K : PySem.W.Frag} {C : Addr} : PySem.W.kitOne K (.ref C) (.ref C) = some true := by
  unfold PySem.W.kitOne
  split
  · rfl
  · rename_i e
    exact absurd (by simp) e
section
variable {X : Cx} {C : Addr} {m x : Str} {k : Nat} {ps : List Str} {sp : Sp} {e : Expr} {es : List Expr} {te : TE} {t : TA} {p pos : Pos}
theorem WCls.ty (c : WCls X.K X.mg x C) {H : Hp} {a dx : Addr} {fs : List (Str × V)} (h : H a = some (.ins C dx fs)) : TyX X.K H (.ref a) (.ref C) := .base (.ins h c.cl c.ca c.sg c.tk c.mo)
/-- C(e, ..) where it is known that nothing is raised -/
theorem pe_makeQ (W : WCls X.K X.mg x C) (M : CalM X.prog X.w X.K X.mg X.base C "__init__" k ps sp) (hr : Room (k + 1) X.A) (hg : Gl X x) (ha : PA X (e :: es) t) (hdb : (x == ("__debug__" : Str)) = false := by decide)
    (he : starEach (e :: es) X.env = (false, eval e X.env) :: starEach es X.env := by rfl) (hpl : (backTo pos (starEach es X.env)).any (·.1) = false := by rfl) : PE X (.Call (.Name x p) (e :: es) [] pos) (tMake C sp [] E0 t) := by
  obtain ⟨f, fd, F, hf, isf, kf, b⟩ := M
  exact pe_make ⟨W.mks, hf, isf, W.kp⟩ F hr hg W.gC b .nil nothing_out ha hdb he hpl
theorem pe_propQ (W : WCls X.K X.mg x C) (M : CalP X.prog X.w X.K X.mg X.base C m k ps sp) (hr : Room (k + 1) X.A) (he : PE X e te) (hab : attributeBase e m X.env (eval e X.env) = eval e X.env := by rfl) : PE X (.Attribute e m pos) (tProp C sp [] E0 te) := by
  obtain ⟨q, f, fd, hp, F, b⟩ := M
  exact pe_prop he W.cl hp F hr b .nil nothing_out hab
/-- running such a method at an instance -/
theorem run_meth {pins : List (Addr × Obj)} {σ : L2.St} {H : Hp} {s : Shared} {Q : VK} {A : Around} {us : List Value} {vs : List V} {E' : Value → Shared → Prop} (M : CalM X.prog X.w X.K X.mg X.base C m k ps sp) (hr : Room k A) (fr : A.frames = X.A.frames)
    (I : Inv X pins σ H s) (r : Vals vs us) (h : sp vs H Q E0) : ∃ f, PySem.W.findIn X.K (.ref C) m = some (some (.ref f)) ∧ PySem.W.isFn X.K (.ref f) = true ∧ wpAny (model X.prog X.w) A (call (.ref f) us) (EP X pins σ Q) E' s := by
  obtain ⟨f, fd, F, hf, isf, kf, b⟩ := M
  refine ⟨f, hf, isf, ?_⟩
  have e0 : Env0 X.prog X.w X.K X.mg X.base A X.stack s H := by
    have e := I.env0
    exact ⟨by rw [fr]; exact e.frames, e.mod, e.bs, e.bsz, e.funs, e.frf, e.hok, e.bare⟩
  have hl := F.len _ _ _ _ h
  refine wpAny_call (codeAny_mono (F.run A X.stack s H ⟨us, []⟩ us vs Q E0 hr e0 (by
    have := b s us I.kIn (by rw [List.append_nil, ← r.length]; exact hl)
    rwa [List.append_nil] at this) r h) fun res s' hq => ?_)
  cases res with
  | error er =>
    obtain ⟨_, _, _, _, _, _, _, _, _, _, _, _, z⟩ := hq
    exact z.elim
  | ok fl =>
    cases fl with
    | ret u => exact I.after hq
    | next => exact hq.elim
    | brk => exact hq.elim
    | cont => exact hq.elim
/-- len(o), its own __len__ -/
def rLenW (C : Addr) (sp : Sp) : List V → Hp → VK → Prop := fun xs H Q => ∃ a dx fs, xs = [.ref a] ∧ H a = some (.ins C dx fs) ∧ sp [.ref a] H (fun v H' => ∃ n : Int, v = .int n ∧ 0 ≤ n ∧ n < 2 ^ 63 ∧ Q (.int n) H') E0
theorem call_lenW (M : CalM X.prog X.w X.K X.mg X.base C "__len__" k ps sp) (hr : Room (k + 1) X.A) : CallR X (.builtin "len") (rLenW C sp) := by
  rintro pins s σ H xs us Q I r ⟨a, dx, fs, rfl, ha, q⟩
  obtain ⟨u, rfl, rx⟩ := vals1 r
  obtain rfl : u = .ref a := rx
  obtain ⟨mA, O, _⟩ := ins_get I.hok ha
  obtain ⟨od, J, _⟩ := O.look
  obtain ⟨f, hf, isf, go⟩ := run_meth (A := X.A.in1) (E' := X.xe) M hr.in1 rfl I r q
  obtain ⟨m0, hF⟩ := I.fr
  refine PySem.W.len_K hF I.ok.mod.kin J hf isf (wpAny_mono go (fun v s' z => ?_) fun _ _ z => z)
  obtain ⟨y, H', I', ry, n, rfl, n0, n1, q'⟩ := z
  obtain ⟨t, rfl⟩ := ry
  exact ⟨⟨n0, n1⟩, .int n, H', I'.tok _, ⟨_, rfl⟩, q'⟩
/-- a == b, the first one's own __eq__ -/
def rEqW (C : Addr) (sp : Sp) : R2 := fun x y H Q => ∃ a b dx dy fs gs, x = .ref a ∧ y = .ref b ∧ H a = some (.ins C dx fs) ∧ H b = some (.ins C dy gs) ∧ sp [.ref a, .ref b] H (fun v H' => (∃ t, v = .bl t) ∧ Q v H') E0
theorem op_eqW (M : CalM X.prog X.w X.K X.mg X.base C "__eq__" k ps sp) (hr : Room k X.A) : OpR X (compareOp .Eq) (rEqW C sp) := by
  rintro pins s σ H x y v u Q I rx ry ⟨a, b, dx, dy, fs, gs, rfl, rfl, ha, hb, q⟩
  cases rx
  cases ry
  show wpAny (model X.prog X.w) X.A (richCompare .Eq (.ref a) (.ref b)) (EP X pins σ Q) X.xe s
  obtain ⟨mA, J, _⟩ := ins_get I.hok ha
  obtain ⟨mB, J', _⟩ := ins_get I.hok hb
  obtain ⟨od, J, _⟩ := J.look
  obtain ⟨od', J', _⟩ := J'.look
  obtain ⟨m0, hF⟩ := I.fr
  obtain ⟨f, hf, isf, go⟩ := run_meth (A := X.A) (E' := X.xe) (vs := [.ref a, .ref b]) (us := [.ref a, .ref b]) M hr rfl I (.cons rfl (.cons rfl .nil)) q
  refine PySem.W.cmp_K (op := .Eq) (tb := .ref C) hr.units0 hF I.ok.mod.kin J J'.type (by simp [PySem.W.notFirst]) hf isf (wpAny_mono go (fun v s' z => ?_) fun _ _ z => z)
  obtain ⟨y, H', I', ry, ⟨t, rfl⟩, q'⟩ := z
  cases ry
  exact ⟨.bl t, H', I', rfl, q'⟩
end
/-! ### {k: v}, k a tuple -/
def tDispT1 (tk tv : TE) : TE := fun σ H Q => ∀ p, H p = none → tk σ (upd H p (.dT [])) fun x H1 => tv σ H1 fun y H2 => H2 p = some (.dT []) ∧ ∃ (b : Addr) (k : List L2.Key), x = .ref b ∧ H2 b = some (.tup (k.map kV)) ∧ Q (.ref p) (upd H2 p (.dT [(k, y)]))
theorem pe_dispT1 {X : Cx} {ke ve : Expr} {tk tv : TE} {pos : Pos} (hu : X.A.units + 1 < cLine) (hk : PE X ke tk) (hv : PE X ve tv) : PE X (.Dict [some ke] [ve] pos) (tDispT1 tk tv) := by
  refine ⟨fun pins s σ H Q I q => ?_⟩
  have hn := I.hok.fresh (Nat.le_refl s.heap.objs.size)
  have I1 := I.laid (a := s.heap.objs.size) (o := .dT []) (h' := s.heap.push { cls := .type "dict", data := .dict #[] }) (t' := s.toks) (fun _ _ q => Heap.get?_push_of_some _ q) (Nat.le_refl _) (dt_empty s.heap I.big)
  refine wpAny_Dict_any rfl rfl (by simp) (by simp) (thn ((pps_cons hk hv pps_nil).run pins _ σ _ (fun ps H2 => match ps with
    | [(x, y)] => H2 s.heap.objs.size = some (.dT []) ∧ ∃ (b : Addr) (k : List L2.Key), x = .ref b ∧ H2 b = some (.tup (k.map kV)) ∧ Q (.ref s.heap.objs.size) (upd H2 s.heap.objs.size (.dT [(k, y)]))
    | _ => False) I1 (q _ hn)) fun vs s2 z => ?_)
  obtain ⟨ps, H2, I2, rel, z⟩ := z
  match ps, z, rel with
  | [(x, y)], ⟨e, b, k, ex, eb, q2⟩, .cons ⟨rx, ry⟩ .nil =>
    subst ex
    rename_i pr
    obtain ⟨u, r⟩ := pr
    cases (show u = Value.ref b from rx)
    obtain ⟨z, hd, xs, rel, dd⟩ := dt_of I2.hok e
    cases rel
    show wpAny _ _ (forIn [(Value.ref b, r)] PUnit.unit _) _ _ _
    rw [List.forIn_cons]
    refine wpAny_bind (wpAny_bind (wpAny_dictSet_heap (hsz := Nat.zero_le _) (knd := tupleKind (mixKind X.prog X.w)) (show X.A.units < cLine by omega) (key_of I2.hok eb) dd fun h' dd' hs => wpAny_pure ?_))
    dsimp only
    rw [List.forIn_nil]
    refine wpAny_pure ⟨.ref s.heap.objs.size, _, ?_, rfl, q2⟩
    obtain ⟨o, es, ep, hq, h2, h3, h4, _, h5⟩ := dd'
    have nb : b ≠ s.heap.objs.size := ne_of eb e (fun z => nomatch z)
    refine d_write I2 (by rw [e]; trivial) hs ⟨o, hq⟩ ⟨(by show 1 ≤ sizeLine; decide), hd, [(k, b, r)], .cons ⟨rfl, ?_, ry⟩ .nil, o, es, ep, hq, h2, h3, h4, h5⟩
    rw [upd_ne nb]
    exact eb
end Hd

namespace Hd
open PySem PySem.Spec PyProof.Rows L2
/-! ### rows reached, layer by layer, each with its word -/
abbrev WL := List (List Int × List Int)
def lookW (W : WL) (r : List Int) : List Int := ((W.find? fun p => decide (p.1 = r)).map (·.2)).getD []
def put1 (r wd m : List Int) (i : Int) (W : WL) : WL := if aft r m ∈ W.map (·.1) then W else W ++ [(aft r m, wd ++ [i])]
def nl1 (T : List (List Int)) (r : List Int) (W : WL) : Nat → WL
  | 0 => W
  | k + 1 => match T[k]? with
    | some m => put1 r (lookW W r) m (k : Int) (nl1 T r W k)
    | none => nl1 T r W k
def nl (T R : List (List Int)) (W : WL) : Nat → WL
  | 0 => W
  | i + 1 => match R[i]? with
    | some r => nl1 T r (nl T R W i) T.length
    | none => nl T R W i
theorem put1_ext (r wd m : List Int) (i : Int) (W : WL) : ∃ Y, put1 r wd m i W = W ++ Y := by
  unfold put1
  by_cases c : aft r m ∈ W.map (·.1)
  · rw [if_pos c]; exact ⟨[], by simp⟩
  · rw [if_neg c]; exact ⟨_, rfl⟩
theorem nl1_ext (T : List (List Int)) (r : List Int) (W : WL) : ∀ k, ∃ Y, nl1 T r W k = W ++ Y
  | 0 => ⟨[], by simp [nl1]⟩
  | k + 1 => by
    obtain ⟨Y, e⟩ := nl1_ext T r W k
    unfold nl1
    cases h : T[k]? with
    | none => exact ⟨Y, e⟩
    | some m =>
      obtain ⟨Y2, e2⟩ := put1_ext r (lookW W r) m k (nl1 T r W k)
      exact ⟨Y ++ Y2, by show put1 _ _ _ _ _ = _; rw [e2, e, List.append_assoc]⟩
theorem nl_ext (T R : List (List Int)) (W : WL) : ∀ k, ∃ Y, nl T R W k = W ++ Y
  | 0 => ⟨[], by simp [nl]⟩
  | k + 1 => by
    obtain ⟨Y, e⟩ := nl_ext T R W k
    unfold nl
    cases h : R[k]? with
    | none => exact ⟨Y, e⟩
    | some r =>
      obtain ⟨Y2, e2⟩ := nl1_ext T r (nl T R W k) T.length
      exact ⟨Y ++ Y2, by show nl1 _ _ _ _ = _; rw [e2, e, List.append_assoc]⟩
/-- the rows that are new since W -/
def fnd (W W' : WL) : List (List Int) := (W'.drop W.length).map (·.1)
theorem fnd_app (W Y : WL) : fnd W (W ++ Y) = Y.map (·.1) := by unfold fnd; rw [List.drop_left]
theorem fnd_self (W : WL) : fnd W W = [] := by unfold fnd; rw [List.drop_length]; rfl
theorem fnd_keys {W W' : WL} (h : ∃ Y, W' = W ++ Y) : W'.map (·.1) = W.map (·.1) ++ fnd W W' := by
  obtain ⟨Y, rfl⟩ := h
  rw [fnd_app, List.map_append]
theorem fnd_len {W W' : WL} (h : ∃ Y, W' = W ++ Y) : W'.length = W.length + (fnd W W').length := by
  obtain ⟨Y, rfl⟩ := h
  rw [fnd_app, List.length_append, List.length_map]
theorem put1_fnd {W W' : WL} (h : ∃ Y, W' = W ++ Y) {r wd m : List Int} {i : Int} (c : aft r m ∉ W'.map (·.1)) : fnd W (put1 r wd m i W') = fnd W W' ++ [aft r m] := by
  obtain ⟨Y, rfl⟩ := h
  unfold put1
  rw [if_neg c, List.append_assoc, fnd_app, fnd_app, List.map_append]
  rfl
/-- an invariant of single steps -/
theorem nl1_ind {T : List (List Int)} {r : List Int} {W : WL} (Pv : WL → Prop) (h0 : Pv W) (hs : ∀ (W' : WL) (m : List Int) (i : Nat), T[i]? = some m → Pv W' → Pv (put1 r (lookW W r) m i W')) : ∀ k, Pv (nl1 T r W k)
  | 0 => h0
  | k + 1 => by
    unfold nl1
    cases h : T[k]? with
    | none => exact nl1_ind Pv h0 hs k
    | some m => exact hs _ m k h (nl1_ind Pv h0 hs k)
theorem nl_ind {T R : List (List Int)} {W : WL} (Pv : WL → Prop) (h0 : Pv W) (hs : ∀ (W' : WL) (r : List Int), r ∈ R → (∃ Y, W' = W ++ Y) → Pv W' → ∀ k, Pv (nl1 T r W' k)) : ∀ k, Pv (nl T R W k)
  | 0 => h0
  | k + 1 => by
    unfold nl
    cases h : R[k]? with
    | none => exact nl_ind Pv h0 hs k
    | some r => exact hs _ r (List.mem_of_getElem? h) (nl_ext T R W k) (nl_ind Pv h0 hs k) _
theorem put1_mem {r wd m : List Int} {i : Int} {W : WL} : aft r m ∈ (put1 r wd m i W).map (·.1) := by
  unfold put1
  by_cases c : aft r m ∈ W.map (·.1)
  · rw [if_pos c]; exact c
  · rw [if_neg c, List.map_append]; exact List.mem_append_right _ (by simp)
theorem put1_nodup {r wd m : List Int} {i : Int} {W : WL} (h : (W.map (·.1)).Nodup) : ((put1 r wd m i W).map (·.1)).Nodup := by
  unfold put1
  by_cases c : aft r m ∈ W.map (·.1)
  · rw [if_pos c]; exact h
  · rw [if_neg c, List.map_append]
    refine List.nodup_append.mpr ⟨h, List.pairwise_singleton _ _, fun a ha b hb e => ?_⟩
    rw [List.mem_singleton.mp hb] at e
    rw [e] at ha
    exact c ha
theorem put1_sub {r wd m : List Int} {i : Int} {W : WL} {x : List Int} (h : x ∈ W.map (·.1)) : x ∈ (put1 r wd m i W).map (·.1) := by
  obtain ⟨Y, e⟩ := put1_ext r wd m i W
  rw [e, List.map_append]
  exact List.mem_append_left _ h
theorem nl1_sub {T : List (List Int)} {r : List Int} {W : WL} {x : List Int} (h : x ∈ W.map (·.1)) (k : Nat) : x ∈ (nl1 T r W k).map (·.1) := by
  obtain ⟨Y, e⟩ := nl1_ext T r W k
  rw [e, List.map_append]
  exact List.mem_append_left _ h
theorem nl_sub {T R : List (List Int)} {W : WL} {x : List Int} (h : x ∈ W.map (·.1)) (k : Nat) : x ∈ (nl T R W k).map (·.1) := by
  obtain ⟨Y, e⟩ := nl_ext T R W k
  rw [e, List.map_append]
  exact List.mem_append_left _ h
theorem nl1_nodup {T : List (List Int)} {r : List Int} {W : WL} (h : (W.map (·.1)).Nodup) (k : Nat) : ((nl1 T r W k).map (·.1)).Nodup := nl1_ind (fun W' => (W'.map (·.1)).Nodup) h (fun _ _ _ _ z => put1_nodup z) k
theorem nl_nodup {T R : List (List Int)} {W : WL} (h : (W.map (·.1)).Nodup) (k : Nat) : ((nl T R W k).map (·.1)).Nodup := nl_ind (fun W' => (W'.map (·.1)).Nodup) h (fun _ _ _ _ z => nl1_nodup z) k
theorem nl1_all {T : List (List Int)} {r : List Int} {W : WL} : ∀ (k i : Nat) (m : List Int), i < k → T[i]? = some m → aft r m ∈ (nl1 T r W k).map (·.1)
  | k + 1, i, m, hi, hm => by
    unfold nl1
    rcases Nat.lt_or_ge i k with z | z
    · have := nl1_all (r := r) (W := W) k i m z hm
      cases h : T[k]? with
      | none => exact this
      | some m' => exact put1_sub this
    · have : i = k := by omega
      subst this
      rw [hm]
      exact put1_mem
theorem nl_all {T R : List (List Int)} {W : WL} : ∀ (k : Nat) (r m : List Int), (∃ i, i < k ∧ R[i]? = some r) → m ∈ T → aft r m ∈ (nl T R W k).map (·.1)
  | k + 1, r, m, ⟨i, hi, hr⟩, hm => by
    unfold nl
    rcases Nat.lt_or_ge i k with z | z
    · have := nl_all (T := T) (R := R) (W := W) k r m ⟨i, z, hr⟩ hm
      cases h : R[k]? with
      | none => exact this
      | some r' => exact nl1_sub this _
    · have : i = k := by omega
      subst this
      rw [hr]
      obtain ⟨j, hj⟩ := List.getElem?_of_mem hm
      exact nl1_all _ j m (List.getElem?_eq_some_iff.mp hj).1 hj
theorem nl_from {T R : List (List Int)} {W : WL} (c : List Int → Prop) (h : ∀ x ∈ W.map (·.1), c x) (hs : ∀ r ∈ R, ∀ m ∈ T, c (aft r m)) (k : Nat) : ∀ x ∈ (nl T R W k).map (·.1), c x := by
  refine nl_ind (fun W' => ∀ x ∈ W'.map (·.1), c x) h (fun W' r hr _ z k => nl1_ind (fun W' => ∀ x ∈ W'.map (·.1), c x) z (fun W2 m i hm z2 x hx => ?_) k) k
  unfold put1 at hx
  by_cases q : aft r m ∈ W2.map (·.1)
  · rw [if_pos q] at hx
    exact z2 x hx
  · rw [if_neg q, List.map_append] at hx
    rcases List.mem_append.mp hx with y | y
    · exact z2 x y
    · rw [show x = aft r m by simpa using y]
      exact hs r hr m (List.mem_of_getElem? hm)
theorem look_mem {W : WL} {r : List Int} (h : r ∈ W.map (·.1)) : (r, lookW W r) ∈ W := by
  unfold lookW
  cases e : W.find? fun p => decide (p.1 = r) with
  | none =>
    obtain ⟨p, hp, rfl⟩ := List.mem_map.mp h
    have := List.find?_eq_none.mp e p hp
    simp at this
  | some p =>
    have h1 := List.mem_of_find?_eq_some e
    have h2 := List.find?_some e
    have h2 : p.1 = r := of_decide_eq_true h2
    rw [← h2]
    exact h1
theorem nl_words {T R : List (List Int)} {W : WL} {B : Nat} (h : ∀ p ∈ W, p.2.length ≤ B + 1) (h' : ∀ r ∈ R, r ∈ W.map (·.1)) (hb : ∀ p ∈ W, p.2.length ≤ B) (nd : (W.map (·.1)).Nodup) (k : Nat) : ∀ p ∈ nl T R W k, p.2.length ≤ B + 1 := by
  have look_ext : ∀ {Y : WL} {r : List Int}, r ∈ W.map (·.1) → lookW (W ++ Y) r = lookW W r := fun {Y r} hr => by
    unfold lookW
    rw [List.find?_append]
    cases e : W.find? fun p => decide (p.1 = r) with
    | some p => rfl
    | none =>
      obtain ⟨p, hp, rfl⟩ := List.mem_map.mp hr
      have := List.find?_eq_none.mp e p hp
      simp at this
  refine nl_ind (fun W' => ∀ p ∈ W', p.2.length ≤ B + 1) h (fun W' r hr ⟨Y, eW⟩ z k => nl1_ind (fun W' => ∀ p ∈ W', p.2.length ≤ B + 1) z (fun W2 m i hm z2 p hp => ?_) k) k
  unfold put1 at hp
  by_cases q : aft r m ∈ W2.map (·.1)
  · rw [if_pos q] at hp
    exact z2 p hp
  · rw [if_neg q] at hp
    rcases List.mem_append.mp hp with y | y
    · exact z2 p y
    · rw [List.mem_singleton.mp y, eW, look_ext (h' r hr)]
      have := hb _ (look_mem (h' r hr))
      simpa using this
theorem put1_len (r wd m : List Int) (i : Int) (W : WL) : (put1 r wd m i W).length ≤ W.length + 1 := by
  unfold put1
  by_cases c : aft r m ∈ W.map (·.1)
  · rw [if_pos c]; omega
  · rw [if_neg c, List.length_append]; exact Nat.le_refl _
theorem nl1_len (T : List (List Int)) (r : List Int) (W : WL) : ∀ k, (nl1 T r W k).length ≤ W.length + k
  | 0 => Nat.le_refl _
  | k + 1 => by
    have h := nl1_len T r W k
    unfold nl1
    cases e : T[k]? with
    | none => exact Nat.le_succ_of_le h
    | some m =>
      have := put1_len r (lookW W r) m k (nl1 T r W k)
      show (put1 _ _ _ _ _).length ≤ _
      omega
theorem nl_len (T R : List (List Int)) (W : WL) : ∀ k, (nl T R W k).length ≤ W.length + k * T.length
  | 0 => by simp [nl]
  | k + 1 => by
    have h := nl_len T R W k
    unfold nl
    rw [Nat.succ_mul]
    cases e : R[k]? with
    | none => exact Nat.le_trans h (by omega)
    | some r =>
      have := nl1_len T r (nl T R W k) T.length
      show (nl1 _ _ _ _).length ≤ _
      omega
theorem nl1_step {T : List (List Int)} {r : List Int} {W : WL} {j : Nat} {m : List Int} (h : T[j]? = some m) : nl1 T r W (j + 1) = put1 r (lookW W r) m j (nl1 T r W j) := by
  show (match T[j]? with | some m => _ | none => _) = _
  rw [h]
theorem nl_step {T R : List (List Int)} {W : WL} {i : Nat} {r : List Int} (h : R[i]? = some r) : nl T R W (i + 1) = nl1 T r (nl T R W i) T.length := by
  show (match R[i]? with | some m => _ | none => _) = _
  rw [h]
/-! ### all layers -/
def lay (T : List (List Int)) (r : List Int) : Nat → WL × List (List Int)
  | 0 => ([(r, [])], [r])
  | k + 1 => (nl T (lay T r k).2 (lay T r k).1 (lay T r k).2.length, fnd (lay T r k).1 (nl T (lay T r k).2 (lay T r k).1 (lay T r k).2.length))
structure LayOk (T : List (List Int)) (r : List Int) (W : WL) (L : List (List Int)) (k : Nat) : Prop where
  nd : (W.map (·.1)).Nodup
  rch : ∀ x ∈ W.map (·.1), Rch T r x
  base : r ∈ W.map (·.1)
  sub : ∀ x ∈ L, x ∈ W.map (·.1)
  clo : ∀ x ∈ W.map (·.1), x ∉ L → ∀ m ∈ T, aft x m ∈ W.map (·.1)
  wl : ∀ p ∈ W, p.2.length ≤ k
  kl : k ≤ W.length
  kL : L ≠ [] → k + 1 ≤ W.length
  lL : L.length ≤ W.length
theorem lay_ok (T : List (List Int)) (r : List Int) : ∀ k, (∀ j, j < k → (lay T r j).2 ≠ []) → LayOk T r (lay T r k).1 (lay T r k).2 k
  | 0, _ => ⟨by simp [lay], fun x hx => by rw [show x = r by simpa [lay] using hx]; exact .base, by simp [lay], fun x hx => hx, fun x hx hn => absurd (by simpa [lay] using hx) (by simpa [lay] using hn), fun p hp => by rw [show p = (r, []) by simpa [lay] using hp]; exact Nat.le_refl _, Nat.zero_le _, fun _ => by simp [lay], by simp [lay]⟩
  | k + 1, hj => by
    have I := lay_ok T r k fun j h => hj j (by omega)
    have ne := hj k (by omega)
    have hk := I.kL ne
    generalize hW : (lay T r k).1 = W at I hk
    generalize hL : (lay T r k).2 = L at I ne
    have ext := nl_ext T L W L.length
    have ln := fnd_len ext
    show LayOk T r (nl T (lay T r k).2 (lay T r k).1 (lay T r k).2.length) (fnd (lay T r k).1 (nl T (lay T r k).2 (lay T r k).1 (lay T r k).2.length)) (k + 1)
    rw [hW, hL]
    have keys := fnd_keys ext
    refine ⟨nl_nodup I.nd _, nl_from (Rch T r) I.rch (fun x hx m hm => .step (I.rch x (I.sub x hx)) hm) _, nl_sub I.base _, fun x hx => by rw [keys]; exact List.mem_append_right _ hx, fun x hx hn m hm => ?_, ?_, by omega, fun z => ?_, by omega⟩
    · rw [keys] at hx
      rcases List.mem_append.mp hx with y | y
      · by_cases c : x ∈ L
        · obtain ⟨i, hi⟩ := List.getElem?_of_mem c
          exact nl_all _ x m ⟨i, (List.getElem?_eq_some_iff.mp hi).1, hi⟩ hm
        · exact nl_sub (I.clo x y c m hm) _
      · exact absurd y hn
    · exact nl_words (fun p hp => Nat.le_succ_of_le (I.wl p hp)) I.sub I.wl I.nd _
    · have := List.length_pos_iff.mpr z
      omega
theorem lay_end {T : List (List Int)} {r : List Int} {W : WL} {k : Nat} (h : LayOk T r W [] k) (x : List Int) : x ∈ W.map (·.1) ↔ Rch T r x := ⟨h.rch x, fun c => rch_all h.base (fun w hw m hm => h.clo w hw (by simp) m hm) c⟩
/-! ### the dict that holds them -/
abbrev Wds (G : Hp) : List (List L2.Key × V) → WL → Prop := Paired fun p q => p.1 = keyL q.1 ∧ Da G p.2 (rowD q.2)
theorem Wds.up {G G' : Hp} (g : Same G G') {kvs : List (List L2.Key × V)} {W : WL} (h : Wds G kvs W) : Wds G' kvs W := by
  induction h with
  | nil => exact .nil
  | cons a t ih => exact .cons ⟨a.1, a.2.up g⟩ ih
theorem Wds.keys {G : Hp} {kvs : List (List L2.Key × V)} {W : WL} (h : Wds G kvs W) : kvs.map (·.1) = (W.map (·.1)).map keyL := by
  induction h with
  | nil => rfl
  | cons a t ih => rw [List.map_cons, List.map_cons, List.map_cons, a.1, ih]
theorem Wds.none {G : Hp} {kvs : List (List L2.Key × V)} {W : WL} (h : Wds G kvs W) {r : List Int} (n : r ∉ W.map (·.1)) : valV kvs (keyL r) = Option.none := by
  induction h with
  | nil => rfl
  | @cons p q ps qs a t ih =>
    rw [List.map_cons, List.mem_cons, not_or] at n
    rw [valV_neg (fun e => n.1 (keyL_inj (e.symm.trans a.1))), ih n.2]
theorem Wds.some {G : Hp} {kvs : List (List L2.Key × V)} {W : WL} (h : Wds G kvs W) {r : List Int} (n : r ∈ W.map (·.1)) : ∃ v, valV kvs (keyL r) = Option.some v ∧ Da G v (rowD (lookW W r)) := by
  induction h with
  | nil => cases n
  | @cons p q ps qs a t ih =>
    by_cases e : q.1 = r
    · refine ⟨p.2, valV_pos (by rw [a.1, e]), ?_⟩
      have : lookW (q :: qs) r = q.2 := by
        unfold lookW
        rw [List.find?_cons_of_pos (by exact decide_eq_true e)]
        rfl
      rw [this]
      exact a.2
    · rw [List.map_cons, List.mem_cons] at n
      obtain ⟨v, h1, h2⟩ := ih (n.resolve_left fun z => e z.symm)
      refine ⟨v, by rw [valV_neg (fun z => e (keyL_inj (a.1.symm.trans z))), h1], ?_⟩
      have : lookW (q :: qs) r = lookW qs r := by
        unfold lookW
        rw [List.find?_cons_of_neg (by exact fun z => e (of_decide_eq_true z))]
      rw [this]
      exact h2
theorem Wds.app {G : Hp} {kvs : List (List L2.Key × V)} {W : WL} (h : Wds G kvs W) {r wd : List Int} {v : V} (hv : Da G v (rowD wd)) : Wds G (kvs ++ [(keyL r, v)]) (W ++ [(r, wd)]) := by
  induction h with
  | nil => exact .cons ⟨rfl, hv⟩ .nil
  | cons a t ih => exact .cons a ih
theorem look_ext {W Y : WL} {r : List Int} (hr : r ∈ W.map (·.1)) : lookW (W ++ Y) r = lookW W r := by
  unfold lookW
  rw [List.find?_append]
  cases e : W.find? fun p => decide (p.1 = r) with
  | some p => rfl
  | none =>
    obtain ⟨p, hp, rfl⟩ := List.mem_map.mp hr
    have := List.find?_eq_none.mp e p hp
    simp at this
theorem Stp.putS {S : Addr} {G0 H0 G H H' : Hp} (s : Stp S G0 H0 G H) {o : HO} (g : G S = none) (t : isT o = false) (e : H' = upd H S o) : Stp S G0 H0 G H' := by
  subst e
  have gs : Same G (upd H S o) := fun b u z => by
    rw [upd_ne fun q => by rw [q, g] at z; cases z]
    exact s.gh b u z
  refine ⟨s.gg, gs, s.nw, fun b u n hb => ?_, fun b u hb => ?_⟩
  · rw [upd_ne n]
    exact s.hh b u n hb
  · by_cases c : b = S
    · rw [c, upd_same]
      exact ⟨o, rfl, fun _ => t⟩
    · rw [upd_ne c]
      exact s.al b u hb
theorem cat_row {K : PySem.W.Frag} {G H : Hp} {Q : VK} {a b : Addr} {ws : List Int} {i : Int} (g : Same G H) (ha : G a = some (.tup (ws.map V.int))) (hb : G b = some (.tup [.int i])) (hz : ws.length ≤ 100000)
    (q : ∀ (p : Addr) (G' H' : Hp), Stq G H G' H' → G' p = some (.tup ((ws ++ [i]).map V.int)) → Q (.ref p) H') : rCatA K (.ref a) (.ref b) H Q := by
  refine ⟨a, b, _, _, rfl, rfl, .of (g _ _ ha), .of (g _ _ hb), ?_, fun e => ?_, (fun _ e => by cases e), fun h1 _ p hp => ?_⟩
  · rw [List.length_map]
    show ws.length + 1 ≤ sizeLine
    exact Nat.le_trans (show _ ≤ 100001 by omega) (by decide)
  · have : ws = [] := by simpa using e
    subst this
    exact q b G H (Stq.refl g) hb
  · obtain ⟨G', s, e, _⟩ := Stq.know g (⟨hp, rfl⟩ : New H p _ _)
    refine q p G' _ s ?_
    rw [e, List.map_append]
    rfl
theorem Stp.gd {S : Addr} {G0 H0 G H : Hp} (s : Stp S G0 H0 G H) {o : HO} (g : G0 S = none) (h : H0 S = some o) (t : isT o = false := by rfl) : G S = none := s.nw S o h t g
theorem Stq.stp {S : Addr} {G H G1 H1 G2 H2 : Hp} (a : Stq G H G1 H1) (b : Stp S G1 H1 G2 H2) (f : H S = none) : Stq G H G2 H2 :=
  ⟨fun c u z => b.gg _ _ (a.gg _ _ z), b.gh, fun c o h t z => b.nw c o (a.hh c o h) t (a.nw c o h t z), fun c u z => b.hh c u (fun e => by rw [e, f] at z; cases z) (a.hh c u z)⟩
/-! ### all tuples that stand may be known -/
def fullG (G H : Hp) : Hp := fun b => match G b with
  | some o => some o
  | none => match H b with
    | some (.tup xs) => some (.tup xs)
    | _ => none
theorem full_same {G H : Hp} : Same G (fullG G H) := fun b u e => by unfold fullG; rw [e]
theorem full_up {G H : Hp} (g : Same G H) : Same (fullG G H) H := fun b u e => by
  unfold fullG at e
  cases h : G b with
  | some o =>
    rw [h] at e
    cases e
    exact g _ _ h
  | none =>
    rw [h] at e
    cases h2 : H b with
    | none => rw [h2] at e; cases e
    | some o =>
      rw [h2] at e
      cases o with
      | tup xs => exact e
      | _ => cases e
theorem full_tup {G H : Hp} (g : Same G H) {b : Addr} {xs : List V} (h : H b = some (.tup xs)) : fullG G H b = some (.tup xs) := by
  unfold fullG
  cases e : G b with
  | some o =>
    have := g _ _ e
    rw [h] at this
    exact this.symm
  | none =>
    show (match H b with | some (.tup xs) => some (HO.tup xs) | _ => none) = _
    rw [h]
theorem full_else {G H : Hp} {b : Addr} {o : HO} (h : H b = some o) (t : isT o = false) (g : G b = none) : fullG G H b = none := by
  unfold fullG
  rw [g]
  show (match H b with | some (.tup xs) => some (HO.tup xs) | _ => none) = _
  rw [h]
  cases o with
  | tup xs => cases t
  | _ => rfl
theorem Stq.full {G H G1 H1 : Hp} (s : Stq G H G1 H1) : Stq G H (fullG G1 H1) H1 :=
  ⟨s.gg.trans full_same, full_up s.gh, fun b o h t g => full_else (s.hh _ _ h) t (s.nw b o h t g), s.hh⟩
theorem Stp.full {S : Addr} {G H G1 H1 : Hp} (s : Stp S G H G1 H1) : Stp S G H (fullG G1 H1) H1 :=
  ⟨s.gg.trans full_same, full_up s.gh, fun b o h t g => by
    obtain ⟨o', h', k⟩ := s.al b o h
    exact full_else h' (k t) (s.nw b o h t g), s.hh, s.al⟩
theorem Go.full {S : Sr} {G H G1 H1 : Hp} (a : Go S G H G1 H1) : Go S G H (fullG G1 H1) H1 := ⟨a.s.full, a.w0, a.st⟩
theorem rows_full {G H : Hp} (g : Same G H) : ∀ {xs : List V} {Ls : List (List Int)}, DaAll H xs (Ls.map rowD) → DaAll (fullG G H) xs (Ls.map rowD)
  | _, [], .nil => .nil
  | _, r :: Ls, .cons h t => by
    refine .cons ?_ (rows_full g t)
    obtain ⟨a, rfl, ha⟩ := rows_ref h
    exact .tup (full_tup g ha) (DaAll.ints r)
/-! ### what is a move on n points -/
theorem mvOn_row {n : Int} {d : PyData} (h : mvOn n d = true) : ∃ m, d = rowD m ∧ IsMv m n := by
  cases d with
  | tuple ds =>
    have h : (decide (((ds.length : Nat) : Int) = n) && (ds.all (fun d => isNum d 0 (n - 1)) && decide ((intsOf ds).Perm (rngI n)))) = true := h
    rw [Bool.and_eq_true, Bool.and_eq_true] at h
    exact ⟨intsOf ds, by unfold rowD; rw [← ints_isNum h.2.1], (of_decide_eq_true h.2.2 : (intsOf ds).Perm (rngI n))⟩
  | _ => cases h
theorem mvOn_of {n : Int} {m : List Int} (h0 : 0 ≤ n) (h : IsMv m n) : mvOn n (rowD m) = true := by
  show (decide ((((m.map PyData.int).length : Nat) : Int) = n) && ((m.map PyData.int).all (fun d => isNum d 0 (n - 1)) && decide ((intsOf (m.map PyData.int)).Perm (rngI n)))) = true
  rw [Bool.and_eq_true, Bool.and_eq_true]
  refine ⟨decide_eq_true ?_, List.all_eq_true.mpr fun d hd => ?_, decide_eq_true ?_⟩
  · rw [List.length_map, h.len]
    omega
  · obtain ⟨x, hx, rfl⟩ := List.mem_map.mp hd
    have := h.mem.mp hx
    show (decide (0 ≤ x) && decide (x ≤ n - 1)) = true
    rw [decide_eq_true this.1, decide_eq_true (show x ≤ n - 1 by omega)]
    rfl
  · rw [intsOf_map]
    exact h
theorem all_rows {n : Int} : ∀ {ds : List PyData}, (∀ d ∈ ds, mvOn n d = true) → ∃ T, ds = T.map rowD ∧ AllMv n T
  | [], _ => ⟨[], rfl, fun m hm => by cases hm⟩
  | d :: ds, h => by
    obtain ⟨m, rfl, hm⟩ := mvOn_row (h d List.mem_cons_self)
    obtain ⟨T, rfl, hT⟩ := all_rows fun e he => h e (List.mem_cons_of_mem _ he)
    refine ⟨m :: T, rfl, fun x hx => ?_⟩
    rcases List.mem_cons.mp hx with rfl | hx
    · exact hm
    · exact hT x hx
theorem rowD_inj {a b : List Int} (e : rowD a = rowD b) : a = b := by
  have := congrArg intsOf (PyData.tuple.inj e)
  rwa [intsOf_map, intsOf_map] at this
theorem rows_inj {A B : List (List Int)} (e : A.map rowD = B.map rowD) : A = B := by
  induction A generalizing B with
  | nil => cases B with
    | nil => rfl
    | cons _ _ => cases e
  | cons a A ih => cases B with
    | nil => cases e
    | cons b B =>
      rw [List.map_cons, List.map_cons] at e
      injection e with e1 e2
      rw [rowD_inj e1, ih e2]
theorem num_int {d : PyData} {lo hi : Int} (h : isNum d lo hi = true) : ∃ i, d = .int i ∧ lo ≤ i ∧ i ≤ hi := by
  cases d with
  | int i =>
    have h : (decide (lo ≤ i) && decide (i ≤ hi)) = true := h
    rw [Bool.and_eq_true] at h
    exact ⟨i, rfl, of_decide_eq_true h.1, of_decide_eq_true h.2⟩
  | _ => cases h
/-! ### lists of rows compared -/
theorem ints_lay : ∀ ns : List Int, PyData.canLayAll0 (ns.map PyData.int) = true
  | [] => by simp [PyData.canLayAll0]
  | z :: zs => by simp [PyData.canLayAll0, PyData.canLay0, ints_lay zs]
theorem ints_depth : ∀ ns : List Int, PyData.depthAll (ns.map PyData.int) = 0
  | [] => by simp [PyData.depthAll]
  | z :: zs => by simp [PyData.depthAll, PyData.depth, ints_depth zs]
theorem row_lay (r : List Int) : (rowD r).canLay0 = true := by simp only [rowD, PyData.canLay0]; exact ints_lay r
theorem row_depth (r : List Int) : (rowD r).depth ≤ 1 := by simp only [rowD, PyData.depth, ints_depth]; omega
theorem rows_lay : ∀ rs : List (List Int), PyData.canLayAll0 (rs.map rowD) = true
  | [] => by simp [PyData.canLayAll0]
  | z :: zs => by simp [PyData.canLayAll0, row_lay z, rows_lay zs]
theorem rows_depth : ∀ rs : List (List Int), PyData.depthAll (rs.map rowD) ≤ 1
  | [] => by simp [PyData.depthAll]
  | z :: zs => by
    have h1 := rows_depth zs
    have h2 := row_depth z
    simp only [List.map_cons, PyData.depthAll]
    omega
theorem row_shaped (r : List Int) : SeqAt.shaped (rowD r) = true := by
  have h := row_depth r
  show ((rowD r).canLay0 && decide ((rowD r).depth ≤ 64)) = true
  rw [Bool.and_eq_true]
  exact ⟨row_lay r, decide_eq_true (by omega)⟩
theorem rows_shaped (rs : List (List Int)) : SeqAt.shaped (.list (rs.map rowD)) = true := by
  have h1 := rows_depth rs
  have h2 : PyData.depth (.list (rs.map rowD)) ≤ 64 := by
    simp only [PyData.depth]
    omega
  show (PyData.canLay0 (.list (rs.map rowD)) && decide (PyData.depth (.list (rs.map rowD)) ≤ 64)) = true
  rw [Bool.and_eq_true]
  exact ⟨by simp only [PyData.canLay0]; exact rows_lay rs, decide_eq_true h2⟩
theorem row_eqv (a b : List Int) : PyData.eqv (rowD a) (rowD b) = decide (a = b) := by
  show PyData.eqv (.tuple (a.map PyData.int)) (.tuple (b.map PyData.int)) = _
  rw [PyData.eqv, eqv_ints]
theorem rows_eqv : ∀ A B : List (List Int), PyData.eqvAll (A.map rowD) (B.map rowD) = decide (A = B)
  | [], [] => rfl
  | [], _ :: _ => rfl
  | _ :: _, [] => rfl
  | a :: A, b :: B => by
    show (PyData.eqv (rowD a) (rowD b) && PyData.eqvAll (A.map rowD) (B.map rowD)) = _
    rw [rows_eqv A B, row_eqv]
    by_cases h : a = b
    · subst h
      by_cases k : A = B
      · subst k; simp
      · simp [k]
    · simp [h]
theorem rows_any (r : List Int) : ∀ B : List (List Int), ((B.map rowD).any fun z => PyData.eqv z (rowD r)) = decide (r ∈ B)
  | [] => by simp
  | b :: B => by
    rw [List.map_cons, List.any_cons, rows_any r B, row_eqv]
    by_cases h : b = r
    · subst h; simp
    · have : ¬ r = b := fun e => h e.symm
      simp [h, this]
def rEqR (K : PySem.W.Frag) : R2 := fun x y H Q => ∃ (a b : Addr) (xs ys : List V) (A B : List (List Int)), x = .ref a ∧ y = .ref b ∧ SqL K H a xs ∧ SqL K H b ys ∧ DaAll H xs (A.map rowD) ∧ DaAll H ys (B.map rowD) ∧ Q (.bl (decide (A = B))) H
theorem op_eqR {X : Cx} (hu : X.A.units + 64 < cLine) : OpR X (compareOp .Eq) (rEqR X.K) := opR_mono (op_eqD hu) fun x y H Q h => by
  obtain ⟨a, b, xs, ys, A, B, rfl, rfl, ha, hb, da, db, q⟩ := h
  refine ⟨.list (A.map rowD), .list (B.map rowD), .lst ha da.dp, .lst hb db.dp, rows_shaped A, rows_shaped B, ?_⟩
  rw [PyData.eqv, rows_eqv]
  exact q
def rInR (K : PySem.W.Frag) (neg : Bool) : R2 := fun x y H Q => ∃ (b : Addr) (r : List Int) (ys : List V) (B : List (List Int)), y = .ref b ∧ Da H x (rowD r) ∧ SqL K H b ys ∧ DaAll H ys (B.map rowD) ∧ Q (.bl (if neg then !decide (r ∈ B) else decide (r ∈ B))) H
theorem op_inR {X : Cx} {K : PySem.W.Frag} (hk : X.K = K) (hu : X.A.units + 65 < cLine) : OpR X (compareOp .In) (rInR K false) := hk ▸ opR_mono (op_inD hu) fun x y H Q h => by
  obtain ⟨b, r, ys, B, rfl, hx, hb, db, q⟩ := h
  refine ⟨rowD r, B.map rowD, hx.dp, .lst hb db.dp, row_shaped r, rows_shaped B, ?_⟩
  rw [rows_any]
  exact q
theorem cut_to {xs : List V} {n : Nat} (h : n ≤ xs.length) : cutV xs none (some (n : Int)) = xs.take n := by
  unfold cutV
  rw [show HT.sIx xs.length xs.length (some (n : Int)) = min n xs.length from HT.sIx_nat xs.length xs.length n, HT.sIx_none, List.drop_zero, Nat.sub_zero, Nat.min_eq_left h]
theorem DaAll.rows_take {G : Hp} (i : Nat) {xs : List V} {Ls : List (List Int)} (h : DaAll G xs (Ls.map rowD)) : DaAll G (xs.take i) ((Ls.take i).map rowD) := by
  rw [List.map_take]
  exact h.take i
/-- a comprehension over enumerate(list); the block leaves the list as it is -/
theorem lc_enumL {K : PySem.W.Frag} {a : Addr} {xs : List V} {g : TG} {tt : TT} {te : TE} {vs : List Nat} {σ : L2.St} {H1 : Hp} {D : Addr} {Qd : Hp → Prop} (Pv : Nat → Hp → Prop) (h0 : Pv 0 (upd H1 D (.lst []))) (hl : ∀ i H, Pv i H → SqL K H a xs)
    (hs : ∀ i x T H H', xs[i]? = some x → Pv i H → New H T (.tup [.int (i : Nat), x]) H' → g (.ref T) (wipe σ vs) H' fun σ2 H2 => wipe σ2 vs = wipe σ vs ∧ tt σ2 H2 fun b H3 =>
      if b = true then te σ2 H3 fun y H4 => ∃ acc, H4 D = some (.lst acc) ∧ acc.length < sizeLine ∧ Pv (i + 1) (upd H4 D (.lst (acc ++ [y]))) else Pv (i + 1) H3) (hd : ∀ H, Pv xs.length H → Qd H) :
    ∃ W : Nat → Nat → Hp → Prop, (∃ m, W 0 m (upd H1 D (.lst []))) ∧ ∀ i m H, W i m H → ((Ite K a).stop i H ∧ Qd H) ∨ ((Ite K a).go i H ∧ ∃ Nx : Hp → Prop, (∀ H', Nx H' → ∃ m', m' < m ∧ W (i + 1) m' H') ∧
      ∀ x H', (Ite K a).yld i H x H' → g x (wipe σ vs) H' fun σ2 H2 => wipe σ2 vs = wipe σ vs ∧ tt σ2 H2 fun b H3 => if b = true then te σ2 H3 fun y H4 => ∃ acc, H4 D = some (.lst acc) ∧ acc.length < sizeLine ∧ Nx (upd H4 D (.lst (acc ++ [y]))) else Nx H3) := by
  refine ⟨fun i m H => i + m = xs.length ∧ Pv i H, ⟨xs.length, Nat.zero_add _, h0⟩, ?_⟩
  rintro i m H ⟨e, p⟩
  have sq := hl i H p
  rcases Nat.eq_zero_or_pos m with rfl | pos
  · refine .inl ⟨⟨xs, sq, by omega⟩, hd H ?_⟩
    rw [← e]
    exact p
  · have lt : i < xs.length := by omega
    refine .inr ⟨⟨xs, xs[i], sq, List.getElem?_eq_getElem lt⟩, Pv (i + 1), fun H' p' => ⟨m - 1, by omega, by omega, p'⟩, ?_⟩
    rintro v H' ⟨T, x, rfl, nT, eT, k⟩
    exact hs i x T H H' (k xs sq) p ⟨nT, eT⟩
/-! ### needless moves -/
def idleP (n : Int) (T : List (List Int)) (i : Nat) : Prop := ∃ m, T[i]? = some m ∧ Mk' n (T.take i) m
noncomputable def idleB (n : Int) (T : List (List Int)) (i : Nat) : Bool := @decide (idleP n T i) (Classical.propDecidable _)
noncomputable def idleL (n : Int) (T : List (List Int)) : List Int := pts (idleB n T) T.length
theorem idle_yes {n : Int} {T : List (List Int)} {i : Nat} (h : idleP n T i) : idleB n T i = true := by unfold idleB; exact @decide_eq_true _ (Classical.propDecidable _) h
theorem idle_no {n : Int} {T : List (List Int)} {i : Nat} (h : ¬ idleP n T i) : idleB n T i = false := by unfold idleB; exact @decide_eq_false _ (Classical.propDecidable _) h
theorem sl_listNK {X : Cx} {K : PySem.W.Frag} (hk : X.K = K) : SlR X (rSlLN K) := hk ▸ sl_listN
/-! ### rows reached, one queue -/
structure QOk (T : List (List Int)) (r : List Int) (Qs : List (List Int)) (at_ j : Nat) : Prop where
  nd : Qs.Nodup
  rch : ∀ x ∈ Qs, Rch T r x
  base : r ∈ Qs
  done : ∀ (i : Nat) (x m : List Int), i < at_ → Qs[i]? = some x → m ∈ T → aft x m ∈ Qs
  cur : ∀ (x : List Int) (k : Nat) (m : List Int), Qs[at_]? = some x → k < j → T[k]? = some m → aft x m ∈ Qs
theorem QOk.same {T : List (List Int)} {r : List Int} {Qs : List (List Int)} {at_ j : Nat} {x m : List Int} (h : QOk T r Qs at_ j) (hx : Qs[at_]? = some x) (hm : T[j]? = some m) (c : aft x m ∈ Qs) : QOk T r Qs at_ (j + 1) :=
  ⟨h.nd, h.rch, h.base, h.done, fun y k m' hy hk hm' => by
    rcases Nat.lt_or_ge k j with z | z
    · exact h.cur y k m' hy z hm'
    · have : k = j := by omega
      subst this
      rw [hx] at hy
      rw [hm] at hm'
      cases hy
      cases hm'
      exact c⟩
theorem QOk.app {T : List (List Int)} {r : List Int} {Qs : List (List Int)} {at_ j : Nat} {x m : List Int} (h : QOk T r Qs at_ j) (hx : Qs[at_]? = some x) (hm : T[j]? = some m) (c : aft x m ∉ Qs) : QOk T r (Qs ++ [aft x m]) at_ (j + 1) := by
  have lt := (List.getElem?_eq_some_iff.mp hx).1
  have old : ∀ {i : Nat} {y : List Int}, i ≤ at_ → (Qs ++ [aft x m])[i]? = some y → Qs[i]? = some y := fun {i y} hi e => by
    rwa [List.getElem?_append_left (by omega)] at e
  refine ⟨List.nodup_append.mpr ⟨h.nd, List.pairwise_singleton _ _, fun a ha b hb e => ?_⟩, fun y hy => ?_, List.mem_append_left _ h.base, fun i y m' hi hy hm' => List.mem_append_left _ (h.done i y m' hi (old (by omega) hy) hm'), fun y k m' hy hk hm' => ?_⟩
  · rw [List.mem_singleton.mp hb] at e
    rw [e] at ha
    exact c ha
  · rcases List.mem_append.mp hy with z | z
    · exact h.rch y z
    · rw [List.mem_singleton.mp z]
      exact .step (h.rch x (List.mem_of_getElem? hx)) (List.mem_of_getElem? hm)
  · have hy := old (Nat.le_refl _) hy
    rcases Nat.lt_or_ge k j with z | z
    · exact List.mem_append_left _ (h.cur y k m' hy z hm')
    · have : k = j := by omega
      subst this
      rw [hx] at hy
      rw [hm] at hm'
      cases hy
      cases hm'
      exact List.mem_append_right _ (List.mem_singleton.mpr rfl)
theorem QOk.next {T : List (List Int)} {r : List Int} {Qs : List (List Int)} {at_ : Nat} (h : QOk T r Qs at_ T.length) : QOk T r Qs (at_ + 1) 0 :=
  ⟨h.nd, h.rch, h.base, fun i x m hi hx hm => by
    rcases Nat.lt_or_ge i at_ with z | z
    · exact h.done i x m z hx hm
    · have : i = at_ := by omega
      subst this
      obtain ⟨k, hk⟩ := List.getElem?_of_mem hm
      exact h.cur x k m hx (List.getElem?_eq_some_iff.mp hk).1 hk, fun x k m _ hk => absurd hk (Nat.not_lt_zero k)⟩
theorem QOk.end_ {T : List (List Int)} {r : List Int} {Qs : List (List Int)} {at_ j : Nat} (h : QOk T r Qs at_ j) (le : Qs.length ≤ at_) (w : List Int) : w ∈ Qs ↔ Rch T r w :=
  ⟨h.rch w, fun c => rch_all h.base (fun x hx m hm => by
    obtain ⟨i, hi⟩ := List.getElem?_of_mem hx
    exact h.done i x m (Nat.lt_of_lt_of_le (List.getElem?_eq_some_iff.mp hi).1 le) hi hm) c⟩
theorem QOk.start (T : List (List Int)) (r : List Int) : QOk T r [r] 0 0 := ⟨List.pairwise_singleton _ _, fun x hx => by rw [List.mem_singleton.mp hx]; exact .base, List.mem_singleton.mpr rfl, fun i _ _ hi => absurd hi (Nat.not_lt_zero i), fun _ k _ _ hk => absurd hk (Nat.not_lt_zero k)⟩
theorem val_some {kvs : List (List L2.Key × V)} : ∀ {Ks : List (List Int)}, kvs.map (·.1) = Ks.map keyL → ∀ r, (valV kvs (keyL r)).isSome = decide (r ∈ Ks) := by
  induction kvs with
  | nil =>
    intro Ks e r
    cases Ks with
    | nil => simp [valV_nil]
    | cons _ _ => cases e
  | cons p kvs ih =>
    intro Ks e r
    cases Ks with
    | nil => cases e
    | cons k Ks =>
      rw [List.map_cons, List.map_cons] at e
      injection e with e1 e2
      by_cases h : k = r
      · rw [valV_pos (by rw [e1, h])]
        simp [h]
      · rw [valV_neg (fun z => h (keyL_inj (e1.symm.trans z))), ih e2 r]
        have : ¬ r = k := fun z => h z.symm
        simp [this]
theorem val_none {kvs : List (List L2.Key × V)} {Ks : List (List Int)} (e : kvs.map (·.1) = Ks.map keyL) {r : List Int} (h : r ∉ Ks) : valV kvs (keyL r) = none := by
  have := val_some e r
  rw [decide_eq_false h] at this
  cases z : valV kvs (keyL r) with
  | none => rfl
  | some _ => rw [z] at this; cases this
end Hd

namespace Hd
open PySem PySem.Spec PyProof.Rows L2
/-! ### what the top leaves, by facts -/
def obsW (fa : List He.Fa) (fn : List He5.DefA) (ex : List (PySem.W.Frag → Bool)) (K : PySem.W.Frag) : He.AlD := (((fa.all fun f => f.ok K) && fn.all fun d => d.ok K) && ex.all fun e => e K, fn.map fun d => He5.fnA K (d.at_ K))
def SaysW (fa : List He.Fa) (fn : List He5.DefA) (ex : List (PySem.W.Frag → Bool)) (K : PySem.W.Frag) : Prop := obsW fa fn ex K = He5.valA fn
def kidsW (g : Addr → Option Obj) (a : Addr) : List Addr := match g a with
  | some o => He.refsO o
  | none => []
/-- what is told of: the module's names; their code and defaults; what their classes hold -/
def asW (g : Addr → Option Obj) : List Addr := mainGlobals :: (kidsW g mainGlobals).flatMap fun a => match g a with
  | some ⟨_, _, .cls cd, _⟩ => a :: cd.ns :: (kidsW g cd.ns).flatMap fun b => b :: (kidsW g b).flatMap fun c => c :: (kidsW g c).flatMap fun d => d :: kidsW g d
  | some ⟨_, _, .func _, _⟩ => a :: (kidsW g a).flatMap fun c => c :: kidsW g c
  | _ => [a]
def obsWG (fa : List He.Fa) (fn : List He5.DefA) (ex : List (PySem.W.Frag → Bool)) (g : Addr → Option Obj) : He.AlD := obsW fa fn ex (He.frG g (asW g))
def hookW (fa : List He.Fa) (fn : List He5.DefA) (ex : List (PySem.W.Frag → Bool)) : PySem.W.Hook where
  α := He.AlD
  obs := fun s => obsWG fa fn ex s.heap.get?
  val := fun _ => He5.valA fn
  says := fun _ h => ∃ K : PySem.W.Frag, K.In h ∧ SaysW fa fn ex K
  of := fun _ _ e => ⟨_, He.frG_in, e⟩
  keeps := fun _ _ _ ⟨K, hK, c⟩ k => ⟨K, PySem.W.Frag.In.keeps hK k, c⟩
theorem obsWG_eq {fa : List He.Fa} {fn : List He5.DefA} {ex : List (PySem.W.Frag → Bool)} {g : Addr → Option Obj} {s : Shared} (h : ∀ a, g a = s.heap.get? a) : obsWG fa fn ex g = (hookW fa fn ex).obs s := by
  have e : g = s.heap.get? := funext h
  rw [e] <;> rfl
section
variable {fa : List He.Fa} {fn : List He5.DefA} {ex : List (PySem.W.Frag → Bool)} {K : PySem.W.Frag}
theorem SaysW.bools (c : SaysW fa fn ex K) : ((fa.all fun f => f.ok K) = true ∧ (fn.all fun d => d.ok K) = true) ∧ (ex.all fun e => e K) = true := by
  have := congrArg (fun z : He.AlD => z.1) c
  have h : (((fa.all fun f => f.ok K) && fn.all fun d => d.ok K) && ex.all fun e => e K) = true := this
  rw [Bool.and_eq_true, Bool.and_eq_true] at h
  exact h
theorem SaysW.fact (c : SaysW fa fn ex K) (i : Nat) {f : He.Fa} (h : fa[i]? = some f := by rfl) : f.ok K = true := List.all_eq_true.mp c.bools.1.1 f (List.mem_of_getElem? h)
theorem SaysW.more (c : SaysW fa fn ex K) (i : Nat) {f : PySem.W.Frag → Bool} (h : ex[i]? = some f := by rfl) : f K = true := List.all_eq_true.mp c.bools.2 f (List.mem_of_getElem? h)
theorem SaysW.def_ (c : SaysW fa fn ex K) (i : Nat) {d : He5.DefA} (h : fn[i]? = some d := by rfl) : ∃ fd, FunD K d.name d.qual d.params d.body d.scope (d.dvs K) (d.kws K) (d.at_ K) fd := by
  have e : fn.map (fun d => He5.fnA K (d.at_ K)) = fn.map He5.DefA.val := congrArg (fun z : He.AlD => z.2) c
  have e2 : (fn.map fun d => He5.fnA K (d.at_ K))[i]? = (fn.map He5.DefA.val)[i]? := by rw [e]
  rw [List.getElem?_map, List.getElem?_map, h] at e2
  exact He5.DefA.funD (Option.some.inj e2) (List.all_eq_true.mp c.bools.1.2 d (List.mem_of_getElem? h))
end
/-- defs -/
abbrev dFn (x : Str) (st : Stmt) : He5.DefA := ⟨fun K => He.ga K x, x, x, defArgs st, defBody st, defScope st, [], []⟩
abbrev dFnD (x : Str) (st : Stmt) : He5.DefA := ⟨fun K => He.ga K x, x, x, defArgs st, defBody st, defScope st, [.adr (He.dflAt (x, none) 0)], []⟩
abbrev dMe (x m q : Str) (st : Stmt) : He5.DefA := ⟨fun K => He.ma K (He.ga K x) m, m, q, defArgs st, defBody st, defScope st, [], []⟩
abbrev dMeD (x m q : Str) (st : Stmt) : He5.DefA := ⟨fun K => He.ma K (He.ga K x) m, m, q, defArgs st, defBody st, defScope st, [.adr (He.dflAt (x, some m) 0)], []⟩
def pgA (x m : Str) (K : PySem.W.Frag) : Addr := match PySem.W.recIn K (He.ma K (He.ga K x) m) "property" with
  | some (.ref g :: _) => g
  | _ => 0
abbrev dPr (x m q : Str) (st : Stmt) : He5.DefA := ⟨pgA x m, m, q, defArgs st, defBody st, defScope st, [], []⟩
section
variable {K : PySem.W.Frag} {h : Heap} {mg : Str → Option Value} {x m q : Str} {st : Stmt} {ps : List Str}
theorem def_w (X : K.In h) (G : h.Ns mainGlobals mg) (F : ∃ fd, FunD K x x (defArgs st) (defBody st) (defScope st) [] [] (He.ga K x) fd) (g : (He.Fa.glo x).ok K = true)
    (hb : ∀ (kV doc pm : Value) (an : Option Addr) (cdv ct : Value) (us : List Value), us.length = ps.length → bindArgs (PySem.W.fnOf x x (defArgs st) (defBody st) (defScope st) .none kV doc pm an cdv ct) ⟨us, []⟩ = pure (ps.zip us)) : Def K mg x st ps := by
  obtain ⟨fd, F⟩ := F
  exact ⟨_, fd, He5.fun_of F, He.glo_ok X G g, FunD.bindsN F hb⟩
theorem defD_w {v : V} (X : K.In h) (G : h.Ns mainGlobals mg) (F : ∃ fd, FunD K x x (defArgs st) (defBody st) (defScope st) [v] [] (He.ga K x) fd) (g : (He.Fa.glo x).ok K = true)
    (hb : ∀ (T : Addr) (kV doc pm : Value) (an : Option Addr) (cdv ct : Value) (us its : List Value), us.length = ps.length → its.length = 1 →
      ∃ k, bindArgs (PySem.W.fnOf x x (defArgs st) (defBody st) (defScope st) (.ref T) kV doc pm an cdv ct) ⟨us, []⟩ = seqItems? (.ref T) >>= k ∧ k (some its.toArray) = pure (ps.zip (us ++ its.drop 1))) : DefD K mg x st ps := by
  obtain ⟨fd, F⟩ := F
  exact ⟨_, fd, _, F, He.glo_ok X G g, bindsD F hb⟩
theorem bindsM (hb : ∀ (kV doc pm : Value) (an : Option Addr) (cdv ct : Value) (us : List Value), us.length = ps.length → bindArgs (PySem.W.fnOf m q (defArgs st) (defBody st) (defScope st) .none kV doc pm an cdv ct) ⟨us, []⟩ = pure (ps.zip us)) {f : Addr} {fd : FuncData}
    (F : FunD K m q (defArgs st) (defBody st) (defScope st) [] [] f fd) : Binds K fd ps [] := FunD.bindsN F hb
theorem mdef_w (F : ∃ fd, FunD K m q (defArgs st) (defBody st) (defScope st) [] [] (He.ma K (He.ga K x) m) fd) (g : (He.Fa.meth x m).ok K = true)
    (hb : ∀ (kV doc pm : Value) (an : Option Addr) (cdv ct : Value) (us : List Value), us.length = ps.length → bindArgs (PySem.W.fnOf m q (defArgs st) (defBody st) (defScope st) .none kV doc pm an cdv ct) ⟨us, []⟩ = pure (ps.zip us)) : MDef K (He.ga K x) m q st ps := by
  obtain ⟨fd, F⟩ := F
  have M := He.meth_ok g
  exact ⟨_, fd, _, F, M.at_, M.fn, bindsM hb F⟩
theorem mdefD_w {v : V} (F : ∃ fd, FunD K m q (defArgs st) (defBody st) (defScope st) [v] [] (He.ma K (He.ga K x) m) fd) (g : (He.Fa.meth x m).ok K = true)
    (hb : ∀ (T : Addr) (kV doc pm : Value) (an : Option Addr) (cdv ct : Value) (us its : List Value), us.length = ps.length → its.length = 1 →
      ∃ k, bindArgs (PySem.W.fnOf m q (defArgs st) (defBody st) (defScope st) (.ref T) kV doc pm an cdv ct) ⟨us, []⟩ = seqItems? (.ref T) >>= k ∧ k (some its.toArray) = pure (ps.zip (us ++ its.drop 1))) : MDef K (He.ga K x) m q st ps := by
  obtain ⟨fd, F⟩ := F
  have M := He.meth_ok g
  exact ⟨_, fd, _, F, M.at_, M.fn, bindsD F hb⟩
/-- a property -/
def prB (x m : Str) (K : PySem.W.Frag) : Bool := He.eqO (PySem.W.findIn K (.ref (He.ga K x)) m) (some (some (.ref (He.ma K (He.ga K x) m)))) && (He.eqO (PySem.W.specialIn K (.ref (He.ma K (He.ga K x) m)) "__get__") (some (some (.builtin "property.__get__"))) &&
  (decide (PySem.W.takesIn K (.ref (He.ma K (He.ga K x) m)) = some true) && decide ((PySem.W.recIn K (He.ma K (He.ga K x) m) "property").bind List.head? = some (.ref (pgA x m K)))))
theorem pdef_w (F : ∃ fd, FunD K m q (defArgs st) (defBody st) (defScope st) [] [] (pgA x m K) fd) (g : prB x m K = true)
    (hb : ∀ (kV doc pm : Value) (an : Option Addr) (cdv ct : Value) (us : List Value), us.length = ps.length → bindArgs (PySem.W.fnOf m q (defArgs st) (defBody st) (defScope st) .none kV doc pm an cdv ct) ⟨us, []⟩ = pure (ps.zip us)) : PDef K (He.ga K x) m q st ps := by
  obtain ⟨fd, F⟩ := F
  obtain ⟨g1, g⟩ := He.ba g
  obtain ⟨g2, g⟩ := He.ba g
  obtain ⟨g3, g4⟩ := He.ba g
  refine ⟨He.ma K (He.ga K x) m, pgA x m K, fd, [], F, ⟨He.eqO_ok g1, He.eqO_ok g2, of_decide_eq_true g3, ?_⟩, bindsM hb F⟩
  have g4 := of_decide_eq_true g4
  cases e : PySem.W.recIn K (He.ma K (He.ga K x) m) "property" with
  | none => rw [e] at g4; cases g4
  | some l =>
    rw [e] at g4
    cases l with
    | nil => cases g4
    | cons a r =>
      have : a = .ref (pgA x m K) := Option.some.inj g4
      exact ⟨r, by rw [this]⟩
/-- an own class -/
def wcB (x : Str) (K : PySem.W.Frag) : Bool := (He.Fa.cls x).ok K && (PySem.W.makesIn K (He.ga K x) && (PySem.W.keepIn K (.ref (He.ga K x)) && (He.eqO (PySem.W.findIn K (.ref (He.ga K x)) "__class__") (some (some (.builtin "object.__class__"))) &&
  (He.eqO (PySem.W.specialIn K (.builtin "object.__class__") "__get__") (some (some (.builtin "getset_descriptor.__get__"))) && (decide (PySem.W.takesIn K (.builtin "object.__class__") = some true) && decide (PySem.W.mroIn K (He.ga K x) (.type "object") = some true))))))
theorem wc_w (X : K.In h) (G : h.Ns mainGlobals mg) (g : (He.Fa.glo x).ok K = true) (b : wcB x K = true) : WCls K mg x (He.ga K x) := by
  obtain ⟨b1, b⟩ := He.ba b
  obtain ⟨b2, b⟩ := He.ba b
  obtain ⟨b3, b⟩ := He.ba b
  obtain ⟨b4, b⟩ := He.ba b
  obtain ⟨b5, b⟩ := He.ba b
  obtain ⟨b6, b7⟩ := He.ba b
  exact ⟨He.cls_ok b1, He.glo_ok X G g, b2, b3, He.eqO_ok b4, He.eqO_ok b5, of_decide_eq_true b6, of_decide_eq_true b7⟩
/-- an own exception class -/
def exShape (C : Addr) (K : PySem.W.Frag) : Bool := match K.lookup C with
  | some ⟨.type "type", _, .cls cd, sl⟩ => (match cd.mro, sl.toList with
    | .ref C' :: bm, [_, _, _, _, some (.builtin n), _] => C' == C && n == "ValueError.__new__" && !cd.hasDel && cd.hasDict && PySem.HandSPX.refsVE bm
    | _, _ => false)
  | _ => false
theorem exShape_ok {C : Addr} (g : exShape C K = true) : ∃ nm q N bs bm sn sub ab col dd k0 k1 k2 k3 k5, K.lookup C = some (excClassObj nm q C N bs bm true sn sub ab col dd k0 k1 k2 k3 k5 "ValueError.__new__") ∧ PySem.HandSPX.refsVE bm = true := by
  unfold exShape at g
  split at g
  · rename_i dd cd sl ho
    split at g
    · rename_i C' bm k0 k1 k2 k3 n k5 hm hs
      simp only [Bool.and_eq_true, beq_iff_eq, Bool.not_eq_true'] at g
      obtain ⟨⟨⟨⟨rfl, rfl⟩, hdel⟩, hdc⟩, ht⟩ := g
      obtain ⟨nm, bs, mro, ns, qn, hd, sn, sub, ab, col, del⟩ := cd
      dsimp only at hm hdel hdc
      subst hm hdel hdc
      have hsl : sl = #[k0, k1, k2, k3, some (.builtin "ValueError.__new__"), k5] := by
        obtain ⟨l⟩ := sl
        simp only at hs
        rw [hs]
      subst hsl
      exact ⟨nm, qn, ns, bs, bm, sn, sub, ab, col, dd, k0, k1, k2, k3, k5, ho, ht⟩
    · cases g
  · cases g
def ecB (x : Str) (K : PySem.W.Frag) : Bool := exShape (He.ga K x) K && (He.eqO (PySem.W.findIn K (.ref (He.ga K x)) "__setattr__") (some (some (.builtin "object.__setattr__"))) && (decide (PySem.W.subIn K (.ref (He.ga K x)) (.type "BaseException") = some true) &&
  (decide (PySem.W.typeIn K (.ref (He.ga K x)) = some (.type "type")) && (PySem.W.keepIn K (.ref (He.ga K x)) && (xfB K (He.ga K x) && (He.eqO (PySem.W.findIn K (.ref (He.ga K x)) "__class__") (some (some (.builtin "object.__class__"))) &&
  (He.eqO (PySem.W.specialIn K (.builtin "object.__class__") "__get__") (some (some (.builtin "getset_descriptor.__get__"))) && (decide (PySem.W.takesIn K (.builtin "object.__class__") = some true) && (decide (PySem.W.mroIn K (He.ga K x) (.type "object") = some true) && PySem.W.isClsIn K (He.ga K x))))))))))
theorem ec_w (X : K.In h) (G : h.Ns mainGlobals mg) (g : (He.Fa.glo x).ok K = true) (b : ecB x K = true) : Ec K mg x (He.ga K x) := by
  obtain ⟨b1, b⟩ := He.ba b
  obtain ⟨b2, b⟩ := He.ba b
  obtain ⟨b3, b⟩ := He.ba b
  obtain ⟨b4, b⟩ := He.ba b
  obtain ⟨b5, b⟩ := He.ba b
  obtain ⟨b6, b⟩ := He.ba b
  obtain ⟨b7, b⟩ := He.ba b
  obtain ⟨b8, b⟩ := He.ba b
  obtain ⟨b9, b⟩ := He.ba b
  obtain ⟨b10, b11⟩ := He.ba b
  exact { gC := He.glo_ok X G g, ox := ⟨exShape_ok b1, He.eqO_ok b2, of_decide_eq_true b3, of_decide_eq_true b4, b5⟩, xf := xfB_ok b6, ca := He.eqO_ok b7, sg := He.eqO_ok b8, tk := of_decide_eq_true b9, mo := of_decide_eq_true b10, ic := b11 }
/-- its __init__ is found, its arguments are no names of the class -/
def xiB (x : Str) (gs : List Str) (K : PySem.W.Frag) : Bool := He.eqO (PySem.W.findIn K (.ref (He.ga K x)) "__init__") (some (some (.ref (He.ma K (He.ga K x) "__init__")))) && (decide (PySem.W.typeIn K (.ref (He.ma K (He.ga K x) "__init__")) = some (.type "function")) &&
  gs.all fun f => He.eqO (PySem.W.findIn K (.ref (He.ga K x)) f) (some none))
theorem xm_w {P : Program} {w : World} {base : Heap} {gs : List Str} (ec : Ec K mg x (He.ga K x)) (b : xiB x gs K = true) {fd : FuncData} (F : FnOk P w K mg base CX0 1 (He.ma K (He.ga K x) "__init__") fd ("self" :: gs) (spIni (He.ga K x) gs))
    (bi : Binds K fd ("self" :: gs) []) : Xm P w K mg base x (He.ga K x) gs := by
  obtain ⟨b1, b⟩ := He.ba b
  obtain ⟨b2, b3⟩ := He.ba b
  exact ⟨ec, fun f hf => He.eqO_ok (List.all_eq_true.mp b3 f hf), _, fd, He.eqO_ok b1, of_decide_eq_true b2, F, bi⟩
theorem xi_no {gs : List Str} (b : xiB x gs K = true) {f : Str} (hf : f ∈ gs) : PySem.W.findIn K (.ref (He.ga K x)) f = some none := by
  obtain ⟨b1, b⟩ := He.ba b
  obtain ⟨b2, b3⟩ := He.ba b
  exact He.eqO_ok (List.all_eq_true.mp b3 f hf)
end
end Hd

namespace Hd
open PySem PySem.Spec PyProof.Rows L2
/-! ### a def whose promise may speak of the size of the heap at its call -/
section
variable {P : Program} {w : World} {K : PySem.W.Frag} {mg : Str → Option Value} {base : Heap}
structure FnS (P : Program) (w : World) (K : PySem.W.Frag) (mg : Str → Option Value) (base : Heap) (k : Nat) (f : Addr) (fd : FuncData) (ps : List Str) (sp : Nat → Sp) : Prop where
  leS : ∀ n vs H Q E, sp n vs H Q E → vs.length = ps.length
  go : ∀ (A : Around) (st : List Env) (s : Shared) (H : Hp) (args : Args) (us : List Value) (vs : List V) (Q : VK) (E : XK), Room k A → Env0 P w K mg base A st s H → BindsTo s fd args (ps.zip us) → Vals vs us → sp s.heap.objs.size vs H Q E → codeAny (model P w) A (.call (.ref f) args) (CR CX0 st P w H s Q E) s
end
/-! ### for x in o, its own __iter__ gives a list's iterator -/
section
variable {X : Cx} {C : Addr} {k : Nat} {ps : List Str}
end
end Hd

namespace Hd
open PySem PySem.Spec PyProof.Rows L2
/-! ### t >= u -/
end Hd

namespace Hd
open PySem PySem.Spec PyProof.Rows L2
/-! ### a list, a tuple, or a tuple that is a constant of the module -/
abbrev KTup (K : PySem.W.Frag) (a : Addr) (xs : List V) : Prop := ∃ (o : Obj) (its : Array Value) (n : Nat), K.lookup a = some o ∧ o.cls = .type "tuple" ∧ o.data = .seq its n ∧ its.size ≤ sizeLine ∧ Vals xs its.toList
abbrev HasS (K : PySem.W.Frag) (H : Hp) (a : Addr) (xs : List V) : Prop := HasL H a xs ∨ KTup K a xs
theorem HasS.len {K : PySem.W.Frag} {H : Hp} {a : Addr} {xs : List V} (h : HasS K H a xs) : SqL K H a xs ∨ SqT K H a xs := h.elim (fun h => h.len) fun h => .inr (.inr h)
theorem HasS.lenV {K : PySem.W.Frag} {H : Hp} {a : Addr} {xs : List V} (h : HasS K H a xs) : LenV K (.ref a) H xs.length := h.len.imp (fun z => ⟨_, z, rfl⟩) fun z => ⟨_, z, rfl⟩
theorem HasS.up {K : PySem.W.Frag} {H H' : Hp} (g : Same H H') {a : Addr} {xs : List V} (h : HasS K H a xs) : HasS K H' a xs := h.imp (fun h => h.imp (g _ _) (g _ _)) id
end Hd

namespace Hd
open PySem PySem.Spec PyProof.Rows L2
/-! ### defs whose last parameter has an empty tuple as its default, called with and without it, and by its name -/
structure Bd (K : PySem.W.Frag) (fd : FuncData) (ps : List Str) (E : Addr) (kn : Str) : Prop where
  all : Binds K fd ps []
  dfl : Binds K fd ps [.ref E]
  kw : KBn K fd ps (ps.length - 1) [kn] (fun us ws => us ++ ws) (fun vs zs => vs ++ zs)
  emp : KTup K E []
def CalB (P : Program) (w : World) (K : PySem.W.Frag) (mg : Str → Option Value) (base : Heap) (x : Str) (k : Nat) (ps : List Str) (sp : Sp) (E : Addr) (kn : Str) : Prop :=
  ∃ f fd, FnOk P w K mg base (L2N.CX P w) k f fd ps sp ∧ mg x = some (.ref f) ∧ PySem.W.keepIn K (.ref f) = true ∧ Bd K fd ps E kn
def CalMB (P : Program) (w : World) (K : PySem.W.Frag) (mg : Str → Option Value) (base : Heap) (C : Addr) (m : Str) (k : Nat) (ps : List Str) (sp : Sp) (E : Addr) : Prop :=
  ∃ f fd, FnOk P w K mg base (L2N.CX P w) k f fd ps sp ∧ PySem.W.findIn K (.ref C) m = some (some (.ref f)) ∧ PySem.W.isFn K (.ref f) = true ∧ PySem.W.keepIn K (.ref f) = true ∧ Binds K fd ps [] ∧ Binds K fd ps [.ref E] ∧ KTup K E []
section
variable {P : Program} {w : World} {K : PySem.W.Frag} {mg : Str → Option Value} {base : Heap} {x m qual kn : Str} {st : Stmt} {ps N : List Str} {k : Nat} {sp : Sp} {C E : Addr}
theorem CalB.emp (c : CalB P w K mg base x k ps sp E kn) : KTup K E [] := by
  obtain ⟨f, fd, F, g, kp, b⟩ := c
  exact b.emp
theorem CalMB.emp (c : CalMB P w K mg base C m k ps sp E) : KTup K E [] := by
  obtain ⟨f, fd, F, g, i, kp, b, b2, e⟩ := c
  exact e
end
section
variable {X : Cx} {x kn : Str} {k : Nat} {ps : List Str} {sp : Sp} {C E : Addr} {e : Expr} {es : List Expr} {kws : List Keyword} {t tk : TA} {p pos : Pos}
end
/-! ### where they come from -/
section
variable {K : PySem.W.Frag} {h : Heap} {mg : Str → Option Value} {x m q kn : Str} {st : Stmt} {ps : List Str} {E f : Addr} {fd : FuncData}
end
section
variable {K : PySem.W.Frag} {h : Heap} {mg : Str → Option Value} {x m q kn : Str} {st : Stmt} {ps : List Str} {E : Addr}
end
end Hd

namespace Hd
open PySem PySem.Spec PyProof.Rows L2
def topS (i : Nat) : Stmt := PySem.Challenge.pw_heldorder_k15_needless_told.main.body.getD i (.Pass ⟨0, 0, 0, 0⟩)
abbrev s_is_number : Stmt := topS 9
theorem sc_is_number : FnScope ["value", "low", "high"] ["value", "low", "high"] (defScope s_is_number) := ⟨rfl, rfl, rfl, by decide +kernel, rfl, by decide +kernel, by decide +kernel⟩
abbrev s_is_point : Stmt := topS 10
theorem sc_is_point : FnScope ["points", "value"] ["points", "value"] (defScope s_is_point) := ⟨rfl, rfl, rfl, by decide +kernel, rfl, by decide +kernel, by decide +kernel⟩
abbrev s_is_move_on : Stmt := topS 11
theorem sc_is_move_on : FnScope ["points", "value", "image"] ["points", "value"] (defScope s_is_move_on) := ⟨rfl, rfl, rfl, by decide +kernel, rfl, by decide +kernel, by decide +kernel⟩
abbrev s_check_number : Stmt := topS 12
theorem sc_check_number : FnScope ["value", "low", "high"] ["value", "low", "high"] (defScope s_check_number) := ⟨rfl, rfl, rfl, by decide +kernel, rfl, by decide +kernel, by decide +kernel⟩
abbrev s_check_points : Stmt := topS 13
theorem sc_check_points : FnScope ["value"] ["value"] (defScope s_check_points) := ⟨rfl, rfl, rfl, by decide +kernel, rfl, by decide +kernel, by decide +kernel⟩
abbrev s_check_moves : Stmt := topS 14
theorem sc_check_moves : FnScope ["points", "moves", "what", "limit", "index", "value"] ["points", "moves", "what", "limit"] (defScope s_check_moves) := ⟨rfl, rfl, rfl, by decide +kernel, rfl, by decide +kernel, by decide +kernel⟩
abbrev s_carry : Stmt := topS 16
theorem sc_carry : FnScope ["move", "row", "point"] ["move", "row"] (defScope s_carry) := ⟨rfl, rfl, rfl, by decide +kernel, rfl, by decide +kernel, by decide +kernel⟩
abbrev s_still_move : Stmt := topS 17
theorem sc_still_move : FnScope ["points"] ["points"] (defScope s_still_move) := ⟨rfl, rfl, rfl, by decide +kernel, rfl, by decide +kernel, by decide +kernel⟩
abbrev s_best_words : Stmt := topS 19
theorem sc_best_words : FnScope ["row", "told", "words", "layer"] ["row", "told"] (defScope s_best_words) := ⟨rfl, rfl, rfl, by decide +kernel, rfl, by decide +kernel, by decide +kernel⟩
abbrev s_make_all : Stmt := topS 20
theorem sc_make_all : FnScope ["points", "moves"] ["points", "moves"] (defScope s_make_all) := ⟨rfl, rfl, rfl, by decide +kernel, rfl, by decide +kernel, by decide +kernel⟩
abbrev s_needless_told : Stmt := topS 22
theorem sc_needless_told : FnScope ["world", "told", "index", "move"] ["world"] (defScope s_needless_told) := ⟨rfl, rfl, rfl, by decide +kernel, rfl, by decide +kernel, by decide +kernel⟩
abbrev s_next_layer : Stmt := topS 23
theorem sc_next_layer : FnScope ["layer", "told", "words", "found", "row", "index", "move", "image"] ["layer", "told", "words"] (defScope s_next_layer) := ⟨rfl, rfl, rfl, by decide +kernel, rfl, by decide +kernel, by decide +kernel⟩
abbrev s_law_store : Stmt := topS 25
theorem sc_law_store : FnScope ["script", "cell"] ["script"] (defScope s_law_store) := ⟨rfl, rfl, rfl, by decide +kernel, rfl, by decide +kernel, by decide +kernel⟩
abbrev s_law_mixed : Stmt := topS 26
theorem sc_law_mixed : FnScope ["seed", "turn", "first", "second"] ["seed", "turn"] (defScope s_law_mixed) := ⟨rfl, rfl, rfl, by decide +kernel, rfl, by decide +kernel, by decide +kernel⟩
abbrev s_law_take : Stmt := topS 27
theorem sc_law_take : FnScope ["store", "many", "cell", "digit"] ["store", "many"] (defScope s_law_take) := ⟨rfl, rfl, rfl, by decide +kernel, rfl, by decide +kernel, by decide +kernel⟩
abbrev s_law_pick : Stmt := topS 28
theorem sc_law_pick : FnScope ["store", "things"] ["store", "things"] (defScope s_law_pick) := ⟨rfl, rfl, rfl, by decide +kernel, rfl, by decide +kernel, by decide +kernel⟩
abbrev s_law_place : Stmt := topS 29
theorem sc_law_place : FnScope ["store", "size", "pick"] ["store", "size"] (defScope s_law_place) := ⟨rfl, rfl, rfl, by decide +kernel, rfl, by decide +kernel, by decide +kernel⟩
abbrev s_law_drawn : Stmt := topS 30
theorem sc_law_drawn : FnScope ["store", "things", "many", "pool", "found", "k", "at"] ["store", "things", "many"] (defScope s_law_drawn) := ⟨rfl, rfl, rfl, by decide +kernel, rfl, by decide +kernel, by decide +kernel⟩
abbrev s_law_either : Stmt := topS 31
theorem sc_law_either : FnScope ["store", "entries"] ["store", "entries"] (defScope s_law_either) := ⟨rfl, rfl, rfl, by decide +kernel, rfl, by decide +kernel, by decide +kernel⟩
abbrev s_law_after : Stmt := topS 32
theorem sc_law_after : FnScope ["first", "second", "p"] ["first", "second"] (defScope s_law_after) := ⟨rfl, rfl, rfl, by decide +kernel, rfl, by decide +kernel, by decide +kernel⟩
abbrev s_law_renamed : Stmt := topS 33
theorem sc_law_renamed : FnScope ["move", "by", "image", "k"] ["move", "by"] (defScope s_law_renamed) := ⟨rfl, rfl, rfl, by decide +kernel, rfl, by decide +kernel, by decide +kernel⟩
abbrev s_law_move : Stmt := topS 34
theorem sc_law_move : FnScope ["store", "points", "pick", "image", "size", "ring_row", "k", "shift"] ["store", "points"] (defScope s_law_move) := ⟨rfl, rfl, rfl, by decide +kernel, rfl, by decide +kernel, by decide +kernel⟩
abbrev s_law_group : Stmt := topS 35
theorem sc_law_group : FnScope ["points", "told", "most", "still", "queue", "seen", "at", "move", "image"] ["points", "told", "most"] (defScope s_law_group) := ⟨rfl, rfl, rfl, by decide +kernel, rfl, by decide +kernel, by decide +kernel⟩
abbrev s_law_alike : Stmt := topS 36
theorem sc_law_alike : FnScope ["one", "two", "k"] ["one", "two"] (defScope s_law_alike) := ⟨rfl, rfl, rfl, by decide +kernel, rfl, by decide +kernel, by decide +kernel⟩
abbrev s_law_arena_menu : Stmt := topS 37
theorem sc_law_arena_menu : FnScope ["store", "pick"] ["store"] (defScope s_law_arena_menu) := ⟨rfl, rfl, rfl, by decide +kernel, rfl, by decide +kernel, by decide +kernel⟩
abbrev s_law_turned_blocks : Stmt := topS 38
theorem sc_law_turned_blocks : FnScope ["store", "points", "sizes", "k", "told", "j", "image", "size", "base", "shift", "sign"] ["store", "points"] (defScope s_law_turned_blocks) := ⟨rfl, rfl, rfl, by decide +kernel, rfl, by decide +kernel, by decide +kernel⟩
abbrev s_law_arena_told : Stmt := topS 39
theorem sc_law_arena_told : FnScope ["store", "points", "pick", "size", "k"] ["store", "points"] (defScope s_law_arena_told) := ⟨rfl, rfl, rfl, by decide +kernel, rfl, by decide +kernel, by decide +kernel⟩
abbrev s_law_arena : Stmt := topS 40
theorem sc_law_arena : FnScope ["store", "share", "points", "drawn", "most", "told", "by", "move", "kept", "made", "wider", "k"] ["store"] (defScope s_law_arena) := ⟨rfl, rfl, rfl, by decide +kernel, rfl, by decide +kernel, by decide +kernel⟩
abbrev s_law_idle : Stmt := topS 41
theorem sc_law_idle : FnScope ["points", "told", "found", "made", "k"] ["points", "told"] (defScope s_law_idle) := ⟨rfl, rfl, rfl, by decide +kernel, rfl, by decide +kernel, by decide +kernel⟩
abbrev s_law_filled : Stmt := topS 42
theorem sc_law_filled : FnScope ["store", "told", "made", "filled", "k"] ["store", "told", "made"] (defScope s_law_filled) := ⟨rfl, rfl, rfl, by decide +kernel, rfl, by decide +kernel, by decide +kernel⟩
abbrev s_law_twins_due : Stmt := topS 43
theorem sc_law_twins_due : FnScope ["store", "world", "points", "told", "due", "turned", "twin", "again", "more"] ["store", "world", "points", "told", "due"] (defScope s_law_twins_due) := ⟨rfl, rfl, rfl, by decide +kernel, rfl, by decide +kernel, by decide +kernel⟩
abbrev s_law : Stmt := topS 44
theorem sc_law : FnScope ["script", "store", "drawn", "points", "told", "due", "handed", "world", "out", "needed", "k"] ["script"] (defScope s_law) := ⟨rfl, rfl, rfl, by decide +kernel, rfl, by decide +kernel, by decide +kernel⟩
abbrev s_World___init__ : Stmt := inClass (topS 21) 0
theorem sc_World___init__ : FnScope ["self", "points", "moves"] ["self", "points", "moves"] (defScope s_World___init__) := ⟨rfl, rfl, rfl, by decide +kernel, rfl, by decide +kernel, by decide +kernel⟩
abbrev s_World_points : Stmt := inClass (topS 21) 1
theorem sc_World_points : FnScope ["self"] ["self"] (defScope s_World_points) := ⟨rfl, rfl, rfl, by decide +kernel, rfl, by decide +kernel, by decide +kernel⟩
abbrev s_World_told : Stmt := inClass (topS 21) 2
theorem sc_World_told : FnScope ["self"] ["self"] (defScope s_World_told) := ⟨rfl, rfl, rfl, by decide +kernel, rfl, by decide +kernel, by decide +kernel⟩
abbrev s_World_made : Stmt := inClass (topS 21) 3
theorem sc_World_made : FnScope ["self"] ["self"] (defScope s_World_made) := ⟨rfl, rfl, rfl, by decide +kernel, rfl, by decide +kernel, by decide +kernel⟩
abbrev s_World___len__ : Stmt := inClass (topS 21) 4
theorem sc_World___len__ : FnScope ["self"] ["self"] (defScope s_World___len__) := ⟨rfl, rfl, rfl, by decide +kernel, rfl, by decide +kernel, by decide +kernel⟩
abbrev s_World___iter__ : Stmt := inClass (topS 21) 5
abbrev s_World___contains__ : Stmt := inClass (topS 21) 6
abbrev s_World___eq__ : Stmt := inClass (topS 21) 7
theorem sc_World___eq__ : FnScope ["self", "other"] ["self", "other"] (defScope s_World___eq__) := ⟨rfl, rfl, rfl, by decide +kernel, rfl, by decide +kernel, by decide +kernel⟩
structure Zs (mg : Str → Option Value) : Prop where
  z_ValueError : mg "ValueError" = none
  z_isinstance : mg "isinstance" = none
  z_int : mg "int" = none
  z_bool : mg "bool" = none
  z_str : mg "str" = none
  z_tuple : mg "tuple" = none
  z_list : mg "list" = none
  z_len : mg "len" = none
  z_range : mg "range" = none
  z_all : mg "all" = none
  z_sorted : mg "sorted" = none
  z_min : mg "min" = none
  z_sum : mg "sum" = none
  z_enumerate : mg "enumerate" = none
  z_iter : mg "iter" = none
  c_MOST_POINTS : ∃ t, mg "MOST_POINTS" = some (.int 12 t)
  c_MOST_TOLD : ∃ t, mg "MOST_TOLD" = some (.int 8 t)
  c_MOST_MADE : ∃ t, mg "MOST_MADE" = some (.int 400 t)
structure Ds (K : PySem.W.Frag) (mg : Str → Option Value) : Prop where
  d_is_number : Def K mg "is_number" s_is_number ["value", "low", "high"]
  d_is_point : Def K mg "is_point" s_is_point ["points", "value"]
  d_is_move_on : Def K mg "is_move_on" s_is_move_on ["points", "value"]
  d_check_number : Def K mg "check_number" s_check_number ["value", "low", "high"]
  d_check_points : Def K mg "check_points" s_check_points ["value"]
  d_check_moves : Def K mg "check_moves" s_check_moves ["points", "moves", "what", "limit"]
  d_carry : Def K mg "carry" s_carry ["move", "row"]
  d_still_move : Def K mg "still_move" s_still_move ["points"]
  d_best_words : Def K mg "best_words" s_best_words ["row", "told"]
  d_make_all : DefD K mg "make_all" s_make_all ["points", "moves"]
  d_needless_told : Def K mg "needless_told" s_needless_told ["world"]
  d_next_layer : Def K mg "_next_layer" s_next_layer ["layer", "told", "words"]
  d_law_store : Def K mg "_law_store" s_law_store ["script"]
  d_law_mixed : Def K mg "_law_mixed" s_law_mixed ["seed", "turn"]
  d_law_take : Def K mg "_law_take" s_law_take ["store", "many"]
  d_law_pick : Def K mg "_law_pick" s_law_pick ["store", "things"]
  d_law_place : Def K mg "_law_place" s_law_place ["store", "size"]
  d_law_drawn : Def K mg "_law_drawn" s_law_drawn ["store", "things", "many"]
  d_law_either : Def K mg "_law_either" s_law_either ["store", "entries"]
  d_law_after : Def K mg "_law_after" s_law_after ["first", "second"]
  d_law_renamed : Def K mg "_law_renamed" s_law_renamed ["move", "by"]
  d_law_move : Def K mg "_law_move" s_law_move ["store", "points"]
  d_law_group : Def K mg "_law_group" s_law_group ["points", "told", "most"]
  d_law_alike : Def K mg "_law_alike" s_law_alike ["one", "two"]
  d_law_arena_menu : Def K mg "_law_arena_menu" s_law_arena_menu ["store"]
  d_law_turned_blocks : Def K mg "_law_turned_blocks" s_law_turned_blocks ["store", "points"]
  d_law_arena_told : Def K mg "_law_arena_told" s_law_arena_told ["store", "points"]
  d_law_arena : Def K mg "_law_arena" s_law_arena ["store"]
  d_law_idle : Def K mg "_law_idle" s_law_idle ["points", "told"]
  d_law_filled : Def K mg "_law_filled" s_law_filled ["store", "told", "made"]
  d_law_twins_due : Def K mg "_law_twins_due" s_law_twins_due ["store", "world", "points", "told", "due"]
structure Dw (K : PySem.W.Frag) (mg : Str → Option Value) (CW : Addr) : Prop where
  wc : WCls K mg "World" CW
  n_made : NoAttr K CW "_made"
  n_points : NoAttr K CW "_points"
  n_told : NoAttr K CW "_told"
  d_World___init__ : MDef K CW "__init__" "World.__init__" s_World___init__ ["self", "points", "moves"]
  d_World_points : PDef K CW "points" "World.points" s_World_points ["self"]
  d_World_told : PDef K CW "told" "World.told" s_World_told ["self"]
  d_World_made : PDef K CW "made" "World.made" s_World_made ["self"]
  d_World___len__ : MDef K CW "__len__" "World.__len__" s_World___len__ ["self"]
  d_World___iter__ : MDef K CW "__iter__" "World.__iter__" s_World___iter__ ["self"]
  d_World___contains__ : MDef K CW "__contains__" "World.__contains__" s_World___contains__ ["self", "value"]
  d_World___eq__ : MDef K CW "__eq__" "World.__eq__" s_World___eq__ ["self", "other"]

abbrev s_ini_BadNumber : Stmt := (clsB (topS 5)).getD 0 (.Pass ⟨0, 0, 0, 0⟩)
theorem sc_ini_BadNumber : FnScope ["self", "value", "low", "high"] ["self", "value", "low", "high"] (defScope s_ini_BadNumber) := ⟨rfl, rfl, rfl, by decide +kernel, rfl, by decide +kernel, by decide +kernel⟩
abbrev s_ini_NotAMove : Stmt := (clsB (topS 6)).getD 0 (.Pass ⟨0, 0, 0, 0⟩)
theorem sc_ini_NotAMove : FnScope ["self", "index"] ["self", "index"] (defScope s_ini_NotAMove) := ⟨rfl, rfl, rfl, by decide +kernel, rfl, by decide +kernel, by decide +kernel⟩
abbrev s_ini_TooMany : Stmt := (clsB (topS 7)).getD 0 (.Pass ⟨0, 0, 0, 0⟩)
theorem sc_ini_TooMany : FnScope ["self", "what", "limit"] ["self", "what", "limit"] (defScope s_ini_TooMany) := ⟨rfl, rfl, rfl, by decide +kernel, rfl, by decide +kernel, by decide +kernel⟩
def faL : List He.Fa := ([.glo "law", .free "ValueError", .free "isinstance", .free "int", .free "bool", .free "str", .free "tuple", .free "list", .free "len", .free "range", .free "all", .free "sorted", .free "min", .free "sum", .free "enumerate", .free "iter", .int "MOST_POINTS" 12, .int "MOST_TOLD" 8, .int "MOST_MADE" 400, .glo "is_number", .glo "is_point", .glo "is_move_on", .glo "check_number", .glo "check_points", .glo "check_moves", .glo "carry", .glo "still_move", .glo "best_words", .glo "make_all", .glo "needless_told", .glo "_next_layer", .glo "_law_store", .glo "_law_mixed", .glo "_law_take", .glo "_law_pick", .glo "_law_place", .glo "_law_drawn", .glo "_law_either", .glo "_law_after", .glo "_law_renamed"] : List (He.Fa)) ++ ([.glo "_law_move", .glo "_law_group", .glo "_law_alike", .glo "_law_arena_menu", .glo "_law_turned_blocks", .glo "_law_arena_told", .glo "_law_arena", .glo "_law_idle", .glo "_law_filled", .glo "_law_twins_due", .glo "World", .noat "World" "_made", .noat "World" "_points", .noat "World" "_told", .meth "World" "__init__", .meth "World" "__len__", .meth "World" "__iter__", .meth "World" "__contains__", .meth "World" "__eq__", .glo "BadNumber", .glo "NotAMove", .glo "TooMany"] : List (He.Fa))
def fnL0 : List He5.DefA := [dFn "law" s_law, dFn "is_number" s_is_number, dFn "is_point" s_is_point, dFn "is_move_on" s_is_move_on, dFn "check_number" s_check_number, dFn "check_points" s_check_points, dFn "check_moves" s_check_moves, dFn "carry" s_carry, dFn "still_move" s_still_move, dFn "best_words" s_best_words, dFnD "make_all" s_make_all, dFn "needless_told" s_needless_told, dFn "_next_layer" s_next_layer, dFn "_law_store" s_law_store, dFn "_law_mixed" s_law_mixed, dFn "_law_take" s_law_take, dFn "_law_pick" s_law_pick, dFn "_law_place" s_law_place, dFn "_law_drawn" s_law_drawn, dFn "_law_either" s_law_either, dFn "_law_after" s_law_after, dFn "_law_renamed" s_law_renamed, dFn "_law_move" s_law_move, dFn "_law_group" s_law_group, dFn "_law_alike" s_law_alike, dFn "_law_arena_menu" s_law_arena_menu, dFn "_law_turned_blocks" s_law_turned_blocks, dFn "_law_arena_told" s_law_arena_told, dFn "_law_arena" s_law_arena, dFn "_law_idle" s_law_idle, dFn "_law_filled" s_law_filled, dFn "_law_twins_due" s_law_twins_due, dMeD "World" "__init__" "World.__init__" s_World___init__, dPr "World" "points" "World.points" s_World_points, dPr "World" "told" "World.told" s_World_told, dPr "World" "made" "World.made" s_World_made]
def fnL1 : List He5.DefA := [dMe "World" "__len__" "World.__len__" s_World___len__, dMe "World" "__iter__" "World.__iter__" s_World___iter__, dMe "World" "__contains__" "World.__contains__" s_World___contains__, dMe "World" "__eq__" "World.__eq__" s_World___eq__, dMe "BadNumber" "__init__" "BadNumber.__init__" s_ini_BadNumber, dMe "NotAMove" "__init__" "NotAMove.__init__" s_ini_NotAMove, dMe "TooMany" "__init__" "TooMany.__init__" s_ini_TooMany]
def fnL : List He5.DefA := fnL0 ++ (fnL1)
def exL : List (PySem.W.Frag → Bool) := ([wcB "World", prB "World" "points", prB "World" "told", prB "World" "made", ecB "BadNumber", xiB "BadNumber" ["value", "low", "high"], ecB "NotAMove", xiB "NotAMove" ["index"], ecB "TooMany", xiB "TooMany" ["what", "limit"]] : List (PySem.W.Frag → Bool))
abbrev rowL : PySem.W.OpenRow := PySem.W.OpenLaw.row PySem.Challenge.rw_heldorder_k15_needless_told
abbrev hkL : PySem.W.Hook := hookW faL fnL exL
def obL (s : PySem.W.SharedT) : He.AlD := obsWG faL fnL exL (HandSHeadRun.getT s)
theorem obL_eq (s : PySem.W.SharedT) : obL s = hkL.obs s.abs := obsWG_eq (HandSHeadRun.getT_eq s)
def looseL : List Str := ([("is_number" : Str), ("is_point" : Str), ("is_move_on" : Str), ("check_number" : Str), ("check_points" : Str), ("check_moves" : Str), ("carry" : Str), ("still_move" : Str), ("best_words" : Str), ("make_all" : Str)] : List (Str)) ++ ([("needless_told" : Str), ("_next_layer" : Str), ("_law_store" : Str), ("_law_mixed" : Str), ("_law_take" : Str), ("_law_pick" : Str), ("_law_place" : Str), ("_law_drawn" : Str), ("_law_either" : Str), ("_law_after" : Str)] : List (Str)) ++ ([("_law_renamed" : Str), ("_law_move" : Str), ("_law_group" : Str), ("_law_alike" : Str), ("_law_arena_menu" : Str), ("_law_turned_blocks" : Str), ("_law_arena_told" : Str), ("_law_arena" : Str), ("_law_idle" : Str), ("_law_filled" : Str)] : List (Str)) ++ ([("_law_twins_due" : Str), ("HeldorderError" : Str), ("BadNumber" : Str), ("NotAMove" : Str), ("TooMany" : Str), ("World" : Str), ("MOST_POINTS" : Str), ("MOST_TOLD" : Str), ("MOST_MADE" : Str)] : List (Str))
noncomputable def endL (w : World) (os : OsState) : Option PySem.W.SharedT := HandSHeadRun.endF (HandSHeadRun.stepQ (HandSHeadRun.denQ HandSHeadRun.tabQ) rowL.prog w) 12000 rowL.prog w os
def frL (s : PySem.W.SharedT) : PySem.W.Frag := He.frG (HandSHeadRun.getT s) (asW (HandSHeadRun.getT s))
theorem tp_seen (w : World) (os : OsState) : (endL w os).map (fun s => (HandSHeadRun.looksF rowL.prog (PySem.W.boot_heap w.params) s.abs, HandSHeadRun.seenQ (PySem.W.view rowL.prog [44]) looseL (importedModules rowL.prog.main.body) (fun s => PySem.W.xlAt (PySem.W.view rowL.prog [44]) [] s && PySem.W.recOk rowL.toRowW.records s) s.abs)) = some (true, PySem.W.openGood (PySem.W.view rowL.prog [44]) looseL) := by
  kernel_rfl
theorem tp_fa (w : World) (os : OsState) : (endL w os).map (fun s => (faL.all fun f => f.ok (frL s)) && exL.all fun e => e (frL s)) = some true := by
  kernel_rfl
theorem tp_fn0 (w : World) (os : OsState) : (endL w os).map (fun s => fnL0.all fun d => d.ok (frL s)) = some true := by
  kernel_rfl
theorem tp_fn1 (w : World) (os : OsState) : (endL w os).map (fun s => fnL1.all fun d => d.ok (frL s)) = some true := by
  kernel_rfl
theorem tp_at (w : World) (os : OsState) : (endL w os).map (fun s => fnL.map fun d => He5.fnA (frL s) (d.at_ (frL s))) = some (fnL.map He5.DefA.val) := by
  kernel_rfl
theorem tp_fn (w : World) (os : OsState) : (endL w os).map (fun s => fnL.all fun d => d.ok (frL s)) = some true := by
  have a0 := tp_fn0 w os
  have a1 := tp_fn1 w os
  cases e : endL w os with
  | none =>
    rw [e] at a0
    cases a0
  | some s =>
    rw [e, Option.map_some] at a0 a1
    rw [Option.map_some]
    have b0 := Option.some.inj a0
    have b1 := Option.some.inj a1
    rw [show fnL = fnL0 ++ (fnL1) from rfl]
    simp only [List.all_append]
    rw [b0, b1]
    first | rfl | done
theorem obL_parts (s : PySem.W.SharedT) : obL s = ((((faL.all fun f => f.ok (frL s)) && (fnL.all fun d => d.ok (frL s))) && exL.all fun e => e (frL s)), fnL.map fun d => He5.fnA (frL s) (d.at_ (frL s))) := rfl
theorem runL (w : World) : HandSHeadRun.RunEq rowL (PySem.W.view rowL.prog [44]) hkL obL 12000 looseL w := fun os => by
  have h1 := tp_seen w os
  have h2 := tp_fa w os
  have h3 := tp_fn w os
  have h4 := tp_at w os
  show (endL w os).map _ = _
  cases e : endL w os with
  | none =>
    rw [e] at h1
    cases h1
  | some s =>
    rw [e, Option.map_some] at h1 h2 h3 h4
    have k1 := Option.some.inj h1
    have k2 := Option.some.inj h2
    have k3 := Option.some.inj h3
    have k4 := Option.some.inj h4
    rw [Bool.and_eq_true] at k2
    rw [Option.map_some, obL_parts, k2.1, k2.2, k3, k4]
    rw [Prod.mk.injEq] at k1
    rw [k1.1, k1.2]
    rfl

section
variable {P : Program} {w : World} {K : PySem.W.Frag} {mg : Str → Option Value} {base : Heap}

theorem ok_mixed (Z : Zs mg) (D : Ds K mg) : Cal P w K mg base "_law_mixed" 1 ["seed", "turn"] spMixed := by
  refine Def.cal D.d_law_mixed sc_law_mixed (fun vs H Q E h => ?_) (fun f cdv A outer s H vs Q E hr h => ?_)
  · obtain ⟨a, b, rfl, q⟩ := h
    rfl
  obtain ⟨a, b, rfl, q⟩ := h
  refine ⟨_, (pss_cons (ps_set (i := 2) sc_law_mixed.nd rfl (Or.inl rfl) (pe_op op_mod (pe_callTy call_int1 (by rfl) Z.z_int (by decide +kernel) (pa_cons (pe_op op_add (pe_op op_add (pe_op op_mul (pv 0) pe_int) (pe_op op_mul (pv 1) pe_int)) pe_int) pa_nil)) pe_int))
      (pss_cons (ps_set (i := 3) sc_law_mixed.nd rfl (Or.inl rfl) (pe_op op_mod (pe_callTy call_int1 (by rfl) Z.z_int (by decide +kernel) (pa_cons (pe_op op_add (pe_op op_add (pe_op op_mul (pv 2) (pv 2)) (pe_op op_mul (pv 0) pe_int)) (pv 1)) pa_nil)) pe_int))
      (pss_one (ps_ret (pe_op op_mod (pe_callTy call_int1 (by rfl) Z.z_int (by decide +kernel) (pa_cons (pe_op op_add (pe_op op_mul (pv 3) (pv 3)) (pv 2)) pa_nil)) pe_int))))), ?_⟩
  have c1 : CMul a 48271 := .inr ⟨by omega, by omega⟩
  have c2 : CMul b 69621 := .inr ⟨by omega, by omega⟩
  refine ⟨_, rfl, _, _, rfl, rfl, c1, _, rfl, _, _, rfl, rfl, c2, _, _, rfl, rfl, _, _, rfl, rfl, .inl ⟨_, rfl, _, _, rfl, rfl, (by omega), ?_⟩⟩
  obtain ⟨f1, e1⟩ : ∃ f1, f1 = (a * 48271 + b * 69621 + 1013904223) % 2147483647 := ⟨_, rfl⟩
  have b1 : 0 ≤ f1 ∧ f1 < 2147483647 := by omega
  have c3 : CMul f1 f1 := .inl ⟨by omega, by omega⟩
  have c4 : CMul a 7 := .inr ⟨by omega, by omega⟩
  rw [show (fun i j => V.int (i % j)) (a * 48271 + b * 69621 + 1013904223) 2147483647 = V.int f1 from congrArg V.int e1.symm]
  refine ⟨_, rfl, _, rfl, _, _, rfl, rfl, c3, _, rfl, _, _, rfl, rfl, c4, _, _, rfl, rfl, _, rfl, _, _, rfl, rfl, .inl ⟨_, rfl, _, _, rfl, rfl, (by omega), ?_⟩⟩
  obtain ⟨f2, e2⟩ : ∃ f2, f2 = (f1 * f1 + a * 7 + b) % 2147483563 := ⟨_, rfl⟩
  have b2 : 0 ≤ f2 ∧ f2 < 2147483563 := by omega
  have c5 : CMul f2 f2 := .inl ⟨by omega, by omega⟩
  rw [show (fun i j => V.int (i % j)) (f1 * f1 + a * 7 + b) 2147483563 = V.int f2 from congrArg V.int e2.symm]
  refine ⟨_, rfl, _, rfl, _, _, rfl, rfl, c5, _, rfl, _, _, rfl, rfl, .inl ⟨_, rfl, _, _, rfl, rfl, (by omega), ?_⟩⟩
  exact q _
theorem ok_take (Z : Zs mg) (D : Ds K mg) (c__law_mixed : Cal P w K mg base "_law_mixed" 1 ["seed", "turn"] spMixed) : Cal P w K mg base "_law_take" 2 ["store", "many"] spTake := by
  refine Def.cal D.d_law_take sc_law_take (fun vs H Q E h => ?_) (fun f cdv A outer s H vs Q E hr h => ?_)
  · obtain ⟨S, G, n, rfl, wd, hn, q⟩ := h
    rfl
  obtain ⟨S, G, n, rfl, wd, hn, q⟩ := h
  refine ⟨_, (pss_cons (ps_if (pt_cmp (pc_lt (pv 1) pe_int) (nomark _)) (pss_one (ps_ret pe_int)) pss_nil)
      (Evl.pss_cut (ps_if (PW.pt (pw_and (pt_cmp (pc_lt (pe_ix ix_list (pv 0) pe_int (fun _ _ => rfl)) pe_int) (nomark _)) (pw_and (pt_cmp (pc_eqI (pe_ix ix_list (pv 0) pe_int (fun _ _ => rfl)) pe_int) (nomark _)) (pw_and1 (pt_cmp (pc_lt (pe_ix ix_list (pv 0) pe_int (fun _ _ => rfl)) (pe_callB call_len_seq (by rfl) Z.z_len (by decide +kernel) (pa_cons (pe_ix ix_list (pv 0) pe_int (fun _ _ => rfl)) pa_nil))) (nomark _)))))) (pss_cons (ps_set (i := 2) sc_law_take.nd rfl (Or.inl rfl) (pe_ix ix_list (pe_ix ix_list (pv 0) pe_int (fun _ _ => rfl)) (pe_ix ix_list (pv 0) pe_int (fun _ _ => rfl)) (fun _ _ => rfl)))
      (pss_cons (ps_asg (pe_op op_add (pe_ix ix_list (pv 0) pe_int (fun _ _ => rfl)) pe_int) (pg_sub (pv 0) pe_int set_listN))
      (pss_cons (ps_asg (pe_op op_mod (pe_callTy call_int1 (by rfl) Z.z_int (by decide +kernel) (pa_cons (pe_op op_add (pe_op op_add (pe_op op_mul (pe_ix ix_list (pv 0) pe_int (fun _ _ => rfl)) pe_int) (pe_op op_mod (pe_callTy call_int1 (by rfl) Z.z_int (by decide +kernel) (pa_cons (pv 2) pa_nil)) pe_int)) pe_int) pa_nil)) pe_int) (pg_sub (pv 0) pe_int set_listN))
      (pss_one (ps_if (pt_cmp (pc_ge (pv 2) (pe_op op_pow pe_int pe_int)) (nomark _)) (pss_one (ps_asg (pv 2) (pg_sub (pv 0) pe_int set_listN))) (pss_cons (ps_asg pe_int (pg_sub (pv 0) pe_int set_listN))
      (pss_one (ps_asg (pe_op op_mod (pe_callTy call_int1 (by rfl) Z.z_int (by decide +kernel) (pa_cons (pv 2) pa_nil)) pe_int) (pg_sub (pv 0) pe_int set_listN))))))))) pss_nil)
      (pss_cons (ps_if (pt_cmp (pc_ge (pe_ix ix_list (pv 0) pe_int (fun _ _ => rfl)) pe_int) (nomark _)) (pss_cons (ps_set (i := 3) sc_law_take.nd rfl (Or.inl rfl) (pe_op op_mod (pe_callTy call_int1 (by rfl) Z.z_int (by decide +kernel) (pa_cons (pe_ix ix_list (pv 0) pe_int (fun _ _ => rfl)) pa_nil)) (pv 1)))
      (pss_cons (ps_asg (pe_op op_fdiv (pe_ix ix_list (pv 0) pe_int (fun _ _ => rfl)) (pv 1)) (pg_sub (pv 0) pe_int set_listN))
      (pss_one (ps_ret (pv 3))))) pss_nil)
      (pss_cons (ps_asg (pe_op op_add (pe_ix ix_list (pv 0) pe_int (fun _ _ => rfl)) pe_int) (pg_sub (pv 0) pe_int set_listN))
      (pss_cons (ps_if (pt_cmp (pc_gt (pe_ix ix_list (pv 0) pe_int (fun _ _ => rfl)) pe_int) (nomark _)) (pss_cons (ps_asg (pe_op op_sub (pe_ix ix_list (pv 0) pe_int (fun _ _ => rfl)) pe_int) (pg_sub (pv 0) pe_int set_listN))
      (pss_one (ps_ret (pe_op op_mod (pe_callTy call_int1 (by rfl) Z.z_int (by decide +kernel) (pa_cons (pe_cal c__law_mixed (hr.mono (by first | decide | omega)) (by rfl) (pa_cons (pe_ix ix_list (pv 0) pe_int (fun _ _ => rfl)) (pa_cons (pe_ix ix_list (pv 0) pe_int (fun _ _ => rfl)) pa_nil))) pa_nil)) (pv 1))))) pss_nil)
      (pss_one (ps_ret (pe_op op_mod (pe_callTy call_int1 (by rfl) Z.z_int (by decide +kernel) (pa_cons (pe_cal c__law_mixed (hr.mono (by first | decide | omega)) (by rfl) (pa_cons (pe_ix ix_list (pv 0) pe_int (fun _ _ => rfl)) (pa_cons (pe_ix ix_list (pv 0) pe_int (fun _ _ => rfl)) pa_nil))) pa_nil)) (pv 1))))))))), ?_⟩
  refine ⟨_, rfl, _, _, rfl, rfl, _, rfl, ite2 (fun c => ?_) (fun c => ?_)⟩
  · have c := dec_of c
    exact q 0 H (by omega) (by omega) (.refl wd)
  have c := dec_not c
  refine ⟨fun σ' H' => ∃ y2, σ' = [some (.ref S.a), some (.int n), y2, none] ∧ Go S G H G H', ?_, ?_⟩
  · obtain ⟨i1, i2, i3, i4, i5, i6, h1, h2, z⟩ := wd.st
    refine ⟨_, rfl, S.a, _, 2, .int i2, rfl, rfl, .of h1, rfl, _, _, rfl, rfl, _, rfl, ite2 (fun c2 => ?_) (fun c2 => iteF ⟨none, rfl, .refl wd⟩)⟩
    refine ⟨_, rfl, S.a, _, 3, .int i3, rfl, rfl, .of h1, rfl, _, _, rfl, rfl, _, rfl, ite2 (fun c3 => ?_) (fun c3 => iteF ⟨none, rfl, .refl wd⟩)⟩
    refine ⟨_, rfl, S.a, _, 1, .int i1, rfl, rfl, .of h1, rfl, _, rfl, S.a, _, 0, .ref S.c, rfl, rfl, .of h1, rfl, _, _, rfl, .inl (.of h2), _, _, rfl, rfl, _, rfl, ite2 (fun c1 => ?_) (fun c1 => ⟨none, rfl, .refl wd⟩)⟩
    have c1 : i1 < ((S.ns.map V.int).length : Nat) := dec_of c1
    rw [List.length_map] at c1
    have k1 : i1.toNat < S.ns.length := by omega
    have a1 : atI (S.ns.map V.int) i1 = some (.int S.ns[i1.toNat]) := by
      have q := atI_nat (xs := S.ns.map V.int) (j := i1.toNat) (v := .int S.ns[i1.toNat]) (by rw [List.getElem?_map, List.getElem?_eq_getElem k1]; rfl)
      rwa [show ((i1.toNat : Nat) : Int) = i1 by omega] at q
    generalize S.ns[i1.toNat] = x at a1
    -- cell = store[0][store[1]]; store[1] = store[1] + 1
    refine ⟨_, rfl, S.a, _, 0, .ref S.c, rfl, rfl, .of h1, rfl, _, rfl, S.a, _, 1, .int i1, rfl, rfl, .of h1, rfl, S.c, _, i1, .int x, rfl, rfl, .of h2, a1, ?_⟩
    refine ⟨_, rfl, S.a, _, 1, .int i1, rfl, rfl, .of h1, rfl, _, _, rfl, rfl, _, rfl, S.a, _, 1, rfl, rfl, h1, (by show 1 < 7; decide), fun H1 e1 => ?_⟩
    have s1 : Go S G H G H1 := (Go.refl wd).put e1 (by omega)
    have h1 : H1 S.a = _ := upd_at e1
    have m5 : CMul i5 31 := .inr ⟨by omega, by omega⟩
    refine ⟨_, rfl, S.a, _, 5, .int i5, rfl, rfl, .of h1, rfl, _, _, rfl, rfl, m5, _, rfl, .inl ⟨_, rfl, _, _, rfl, rfl, (by omega), _, _, rfl, rfl, _, _, rfl, rfl, .inl ⟨_, rfl, _, _, rfl, rfl, (by omega), ?_⟩⟩⟩
    refine ⟨_, rfl, S.a, _, 5, rfl, rfl, h1, (by show 5 < 7; decide), fun H2 e2 => ?_⟩
    have s1 : Go S G H G H2 := s1.put e2 (by omega)
    have h1 : H2 S.a = _ := upd_at e2
    refine ⟨_, rfl, _, _, rfl, rfl, ⟨by omega, by omega, by decide⟩, _, _, rfl, rfl, _, rfl, ite2 (fun c => ?_) (fun c => ?_)⟩
    · refine ⟨_, rfl, _, rfl, S.a, _, 2, rfl, rfl, h1, (by show 2 < 7; decide), fun H3 e3 => ?_⟩
      exact ⟨_, rfl, s1.put e3 (by omega)⟩
    · refine ⟨_, rfl, S.a, _, 3, rfl, rfl, h1, (by show 3 < 7; decide), fun H3 e3 => ?_⟩
      have s1 : Go S G H G H3 := s1.put e3 (by omega)
      have h1 : H3 S.a = _ := upd_at e3
      refine ⟨_, rfl, .inl ⟨_, rfl, _, _, rfl, rfl, (by omega), _, rfl, S.a, _, 6, rfl, rfl, h1, (by show 6 < 7; decide), fun H4 e4 => ?_⟩⟩
      exact ⟨_, rfl, s1.put e4 (by omega)⟩
  · rintro σ' H1 ⟨y2, rfl, s1⟩
    obtain ⟨i1, i2, i3, i4, i5, i6, h1, h2, z⟩ := s1.st
    refine ⟨_, rfl, S.a, _, 2, .int i2, rfl, rfl, .of h1, rfl, _, _, rfl, rfl, _, rfl, ite2 (fun c2 => ?_) (fun c2 => ?_)⟩
    · refine ⟨_, rfl, S.a, _, 2, .int i2, rfl, rfl, .of h1, rfl, .inl ⟨_, rfl, _, rfl, _, _, rfl, rfl, (by omega), ?_⟩⟩
      refine ⟨_, rfl, S.a, _, 2, .int i2, rfl, rfl, .of h1, rfl, _, rfl, _, _, rfl, rfl, ⟨by omega, by omega⟩, _, rfl, S.a, _, 2, rfl, rfl, h1, (by show 2 < 7; decide), fun H2 e2 => ?_⟩
      have s1 : Go S G H G H2 := s1.put e2 (by omega)
      refine ⟨_, rfl, ?_⟩
      exact q _ _ (Int.emod_nonneg _ (by omega)) (.inl (Int.emod_lt_of_pos _ (by omega))) s1
    refine ⟨_, rfl, S.a, _, 4, .int i4, rfl, rfl, .of h1, rfl, _, _, rfl, rfl, _, rfl, S.a, _, 4, rfl, rfl, h1, (by show 4 < 7; decide), fun H2 e2 => ?_⟩
    have s1 : Go S G H G H2 := s1.put e2 (by omega)
    have h1 : H2 S.a = _ := upd_at e2
    refine ⟨_, rfl, S.a, _, 3, .int i3, rfl, rfl, .of h1, rfl, _, _, rfl, rfl, _, rfl, ite2 (fun c3 => ?_) (fun c3 => ?_)⟩
    · refine ⟨_, rfl, S.a, _, 3, .int i3, rfl, rfl, .of h1, rfl, _, _, rfl, rfl, _, rfl, S.a, _, 3, rfl, rfl, h1, (by show 3 < 7; decide), fun H3 e3 => ?_⟩
      have s1 : Go S G H G H3 := s1.put e3 (by omega)
      have h1 : H3 S.a = _ := upd_at e3
      refine ⟨_, rfl, S.a, _, 6, .int i6, rfl, rfl, .of h1, rfl, _, rfl, S.a, _, 4, _, rfl, rfl, .of h1, rfl, _, _, rfl, fun r => ?_⟩
      refine .inl ⟨_, rfl, _, rfl, _, _, rfl, rfl, (by omega), ?_⟩
      exact q _ _ (Int.emod_nonneg _ (by omega)) (.inl (Int.emod_lt_of_pos _ (by omega))) s1
    · refine ⟨_, rfl, S.a, _, 5, .int i5, rfl, rfl, .of h1, rfl, _, rfl, S.a, _, 4, _, rfl, rfl, .of h1, rfl, _, _, rfl, fun r => ?_⟩
      refine .inl ⟨_, rfl, _, rfl, _, _, rfl, rfl, (by omega), ?_⟩
      exact q _ _ (Int.emod_nonneg _ (by omega)) (.inl (Int.emod_lt_of_pos _ (by omega))) s1


theorem ok_pick (Z : Zs mg) (D : Ds K mg) (c__law_take : Cal P w K mg base "_law_take" 2 ["store", "many"] spTake) : Cal P w K mg base "_law_pick" 3 ["store", "things"] spPick := by
  refine Def.cal D.d_law_pick sc_law_pick (fun vs H Q E h => ?_) (fun f cdv A outer s H vs Q E hr h => ?_)
  · obtain ⟨S, G, v, xs, rfl, wd, hv, h0, h1, q⟩ := h
    rfl
  obtain ⟨S, G, v, xs, rfl, wd, hv, h0, h1, q⟩ := h
  refine ⟨_, (pss_one (ps_ret (pe_ix ix_seq (pv 1) (pe_cal c__law_take (hr.mono (by first | decide | omega)) (by rfl) (pa_cons (pv 0) (pa_cons (pe_callB call_len (by rfl) Z.z_len (by decide +kernel) (pa_cons (pv 1) pa_nil)) pa_nil))) (fun _ _ => rfl)))), ?_⟩
  rcases hv with ⟨a, rfl, na, ha⟩ | ⟨a, rfl, na, ha⟩ | ⟨z, rfl, hz, rfl⟩
  · refine ⟨_, rfl, _, rfl, _, rfl, .ref a, xs.length, rfl, .inl ⟨xs, .of ha, rfl⟩, S, G, _, rfl, wd, by omega, fun d H1 p0 p1 s1 => ?_⟩
    obtain ⟨x, _, e, m⟩ := at_int (xs := xs) p0 (by omega)
    exact .inl ⟨a, xs, d, x, rfl, rfl, .of (s1.hh ha na), e, q _ _ m s1⟩
  · refine ⟨_, rfl, _, rfl, _, rfl, .ref a, xs.length, rfl, .inr ⟨xs, .of ha, rfl⟩, S, G, _, rfl, wd, by omega, fun d H1 p0 p1 s1 => ?_⟩
    obtain ⟨x, _, e, m⟩ := at_int (xs := xs) p0 (by omega)
    exact .inr (.inl ⟨a, xs, d, x, rfl, rfl, .of (s1.hh ha na), e, q _ _ m s1⟩)
  · have hl : z.cps.toList.length = z.length := Array.length_toList
    rw [List.length_map, hl] at h0 h1
    refine ⟨_, rfl, _, rfl, _, rfl, .str z, z.length, rfl, ⟨ln (by omega), rfl⟩, S, G, _, rfl, wd, by omega, fun d H1 p0 p1 s1 => ?_⟩
    obtain ⟨c, e, g⟩ := at_str (z := z) p0 (by omega)
    exact .inr (.inr ⟨z, d, c, rfl, rfl, ln (by omega), e, q _ _ (List.mem_map.mpr ⟨c, List.mem_of_getElem? g, rfl⟩) s1⟩)
theorem ok_place (Z : Zs mg) (D : Ds K mg) (c__law_take : Cal P w K mg base "_law_take" 2 ["store", "many"] spTake) : Cal P w K mg base "_law_place" 3 ["store", "size"] spPlace := by
  refine Def.cal D.d_law_place sc_law_place (fun vs H Q E h => ?_) (fun f cdv A outer s H vs Q E hr h => ?_)
  · obtain ⟨S, G, n, rfl, wd, h1, hn, q⟩ := h
    rfl
  obtain ⟨S, G, n, rfl, wd, h1, hn, q⟩ := h
  refine ⟨_, (pss_cons (ps_set (i := 2) sc_law_place.nd rfl (Or.inl rfl) (pe_cal c__law_take (hr.mono (by first | decide | omega)) (by rfl) (pa_cons (pv 0) (pa_cons pe_int pa_nil))))
      (pss_cons (ps_if (pt_cmp (pc_eqI (pv 2) pe_int) (nomark _)) (pss_one (ps_ret pe_int)) pss_nil)
      (pss_cons (ps_if (pt_cmp (pc_eqI (pv 2) pe_int) (nomark _)) (pss_one (ps_ret (pe_op op_sub (pv 1) pe_int))) pss_nil)
      (pss_one (ps_ret (pe_cal c__law_take (hr.mono (by first | decide | omega)) (by rfl) (pa_cons (pv 0) (pa_cons (pv 1) pa_nil)))))))), ?_⟩
  refine ⟨_, rfl, S, G, 6, rfl, wd, by omega, fun d1 H1 p0 p1 s1 => ?_⟩
  refine ⟨_, rfl, _, _, rfl, rfl, _, rfl, ite2 (fun c => q _ _ (by omega) (by omega) s1) (fun c => ?_)⟩
  refine ⟨_, rfl, _, _, rfl, rfl, _, rfl, ite2 (fun c => ⟨_, rfl, _, _, rfl, rfl, q _ _ (by omega) (by omega) s1⟩) (fun c => ?_)⟩
  exact ⟨_, rfl, _, rfl, S, G, n, rfl, s1.wd, hn, fun d2 H2 r0 r1 s2 => q _ _ (by omega) (by omega) (s1.trans s2)⟩
theorem ok_drawn (Z : Zs mg) (D : Ds K mg) (c__law_take : Cal P w K mg base "_law_take" 2 ["store", "many"] spTake) : Cal P w K mg base "_law_drawn" 3 ["store", "things", "many"] spDrawn := by
  refine Def.cal D.d_law_drawn sc_law_drawn (fun vs H Q E h => ?_) (fun f cdv A outer s H vs Q E hr h => ?_)
  · obtain ⟨S, G, a, xs, n, rfl, wd, ha, hx, h0, h1, q⟩ := h
    rfl
  obtain ⟨S, G, a, xs, n, rfl, wd, ha, hx, h0, h1, q⟩ := h
  refine ⟨_, (pss_cons (ps_set (i := 3) sc_law_drawn.nd rfl (Or.inl rfl) (pe_callTy call_listN (by rfl) Z.z_list (by decide +kernel) (pa_cons (pv 1) pa_nil)))
      (pss_cons (ps_set (i := 4) sc_law_drawn.nd rfl (Or.inl rfl) (pe_lstN pa_nil))
      (pss_cons (ps_for PassesOwn.never rfl (pi_range1 (by rfl) Z.z_range (pa_cons (pe_callB (call_min2 rfl) (by rfl) Z.z_min (by decide +kernel) (pa_cons (pv 2) (pa_cons (pe_callB call_len_seq (by rfl) Z.z_len (by decide +kernel) (pa_cons (pv 3) pa_nil)) pa_nil))) pa_nil)) (pg_name (i := 5) sc_law_drawn.nd rfl (Or.inl rfl)) (pss_cons (ps_set (i := 6) sc_law_drawn.nd rfl (Or.inl rfl) (pe_cal c__law_take (hr.mono (by first | decide | omega)) (by rfl) (pa_cons (pv 0) (pa_cons (pe_callB call_len_seq (by rfl) Z.z_len (by decide +kernel) (pa_cons (pv 3) pa_nil)) pa_nil))))
      (pss_one (ps_expr (pe_bm PySem.F.plainAttrs_list PySem.F.slot_list_append PySem.F.type_list_append mt_appendN (pv 4) (pa_cons (pe_bm PySem.F.plainAttrs_list PySem.F.slot_list_pop PySem.F.type_list_pop mt_popAtN (pv 3) (pa_cons (pv 6) pa_nil)) pa_nil))))))
      (pss_one (ps_ret (pv 4)))))), ?_⟩
  refine ⟨_, rfl, a, xs, rfl, ha.len, fun p H1 n1 => ?_⟩
  obtain ⟨s1, gp, hp, fp⟩ := (Go.refl wd).loc n1
  refine ⟨Nat.zero_le _, fun l H2 n2 => ?_⟩
  obtain ⟨s2, gl, hl, fl⟩ := s1.loc n2
  have hp := n2.else hp
  have npl : p ≠ l := n2.ne (ne_none (n1.at))
  refine ⟨_, rfl, _, rfl, p, xs, rfl, .inl (.of hp), _, _, rfl, _, rfl, ?_⟩
  have em : (if ((xs.length : Nat) : Int) < n then ((xs.length : Nat) : Int) else n) = ((min n.toNat xs.length : Nat) : Int) := by split <;> omega
  rw [em]
  refine ⟨by omega, by omega, for_range (lo := 0) (n := ((min n.toNat xs.length : Nat) : Int).toNat) (fun i σ' H' => ∃ ys ps y5 y6, σ' = [some (.ref S.a), some (.ref a), some (.int n), some (.ref p), some (.ref l), y5, y6] ∧
    Go S G H G H' ∧ H' p = some (.lst ps) ∧ H' l = some (.lst ys) ∧ (ys ++ ps).Perm xs ∧ ys.length = i) ⟨[], xs, none, none, rfl, s2, hp, hl, .refl _, rfl⟩ ?_ ?_⟩
  · rintro i σ' H3 hi ⟨ys, ps, y5, y6, rfl, s3, hp, hl, pm, rfl⟩
    have lp : ys.length + ps.length = xs.length := by
      have := pm.length_eq
      rwa [List.length_append] at this
    refine ⟨_, rfl, _, rfl, p, ps, rfl, .inl (.of hp), S, G, _, rfl, s3.wd, by omega, fun d H4 p0 p1 s4 => ?_⟩
    have hp := s4.hh hp (s3.ns fp)
    have hl := s4.hh hl (s3.ns fl)
    have s4 := s3.trans s4
    obtain ⟨x, e, _, _⟩ := at_int (xs := ps) p0 (by omega)
    refine ⟨_, rfl, .inl ⟨rfl, _, .of hl⟩, _, rfl, .inl ⟨rfl, _, .of hp⟩, _, rfl, p, ps, d, d.toNat, x, rfl, rfl, hp, by omega, by omega, e, fun H5 e5 => ?_⟩
    have s5 := s4.mut gp fp e5
    have hl := upd_else e5 hl npl.symm
    have hp := upd_at e5
    refine ⟨l, ys, x, rfl, rfl, hl, lt (by omega), fun H6 e6 => ?_⟩
    have s6 := s5.mut gl fl e6
    have hp := upd_else e6 hp npl
    refine ⟨ys ++ [x], ps.eraseIdx d.toNat, _, _, rfl, s6, hp, upd_at e6, ?_, by rw [List.length_append]; rfl⟩
    refine List.Perm.trans ?_ pm
    rw [List.append_assoc]
    refine List.Perm.append_left ys ?_
    exact (perm_erase e).symm
  · rintro σ' H3 ⟨ys, ps, y5, y6, rfl, s3, hp, hl, pm, hy⟩
    exact ⟨_, rfl, q l ys ps H3 s3 gl fl hl pm (by omega)⟩
theorem ok_either (Z : Zs mg) (D : Ds K mg) (c__law_take : Cal P w K mg base "_law_take" 2 ["store", "many"] spTake) : Cal P w K mg base "_law_either" 3 ["store", "entries"] spEither := by
  refine Def.cal D.d_law_either sc_law_either (fun vs H Q E h => ?_) (fun f cdv A outer s H vs Q E hr h => ?_)
  · obtain ⟨S, G, a, xs, rfl, wd, na, ha, q⟩ := h
    rfl
  obtain ⟨S, G, a, xs, rfl, wd, na, ha, q⟩ := h
  refine ⟨_, (pss_cons (ps_if (pt_cmp (pc_eqI (pe_cal c__law_take (hr.mono (by first | decide | omega)) (by rfl) (pa_cons (pv 0) (pa_cons pe_int pa_nil))) pe_int) (nomark _)) (pss_one (ps_ret (pe_callTy call_tupleN (by rfl) Z.z_tuple (by decide +kernel) (pa_cons (pv 1) pa_nil)))) pss_nil)
      (pss_one (ps_ret (pe_callTy call_listN (by rfl) Z.z_list (by decide +kernel) (pa_cons (pv 1) pa_nil))))), ?_⟩
  refine ⟨_, rfl, S, G, 2, rfl, wd, by omega, fun d1 H1 p0 p1 s1 => ?_⟩
  have ha := s1.hh ha na
  refine ⟨_, _, rfl, rfl, _, rfl, ite2 (fun c => ?_) (fun c => ?_)⟩
  · refine ⟨_, rfl, a, xs, rfl, .of ha, fun p H2 n2 => ?_⟩
    obtain ⟨s2, gp, hp, fp⟩ := s1.loc n2
    exact q p true H2 s2 gp fp hp
  · refine ⟨_, rfl, a, xs, rfl, .inl (.of ha), fun p H2 n2 => ?_⟩
    obtain ⟨s2, gp, hp, fp⟩ := s1.loc n2
    exact q p false H2 s2 gp fp hp


theorem ok_is_number (Z : Zs mg) (D : Ds K mg) : Cal P w K mg base "is_number" 1 ["value", "low", "high"] spIsNum := by
  refine Def.cal D.d_is_number sc_is_number (fun vs H Q E h => ?_) (fun f cdv A outer s H vs Q E hr h => ?_)
  · obtain ⟨v, d, lo, hi, rfl, hd, q⟩ := h
    rfl
  obtain ⟨v, d, lo, hi, rfl, hd, q⟩ := h
  refine ⟨_, (pss_one (ps_ret (pe_and (pe_callB call_isD (by rfl) Z.z_isinstance (by decide +kernel) (pa_cons (pv 0) (pa_cons (pe_bltn (v := .ty "int") (by rfl) Z.z_int (by decide +kernel) rfl) pa_nil))) (pe_and (pe_not (pe_callB call_isD (by rfl) Z.z_isinstance (by decide +kernel) (pa_cons (pv 0) (pa_cons (pe_bltn (v := .ty "bool") (by rfl) Z.z_bool (by decide +kernel) rfl) pa_nil)))) (pe_one (pe_chain op_le op_le (pv 1) (pv 0) (pv 2))))))), ?_⟩
  refine ⟨_, rfl, v, d, "int", rfl, hd, ok_int, _, rfl, ?_⟩
  rcases hd.kind with ⟨rfl, rfl⟩ | ⟨b, rfl, rfl⟩ | ⟨i, rfl, rfl⟩ | ⟨j, rfl, rfl⟩ | ⟨a, xs, ds, t, rfl, ha, hat, hal, dxs, rfl⟩
  · exact iteBF ib_none_int q
  · exact iteBT (ib_bool_int b) ⟨_, rfl, _, _, "bool", rfl, hd, ok_bool, _, rfl, _, rfl, iteBF (by rw [ib_bool_bool]; rfl) q⟩
  · refine iteBT (ib_int_int i) ⟨_, rfl, _, _, "bool", rfl, hd, ok_bool, _, rfl, _, rfl, iteBT (by rw [ib_int_bool]; rfl) ⟨_, rfl, _, rfl, _, _, rfl, rfl, _, rfl, ?_⟩⟩
    have q : Q (.bl (decide (lo ≤ i) && decide (i ≤ hi))) H := q
    refine ite2 (fun c => ⟨_, rfl, _, _, rfl, rfl, ?_⟩) (fun c => ?_)
    · rw [c, Bool.true_and] at q
      exact q
    · rw [Bool.eq_false_iff.mpr c, Bool.false_and] at q
      exact q
  · exact iteBF (ib_str_int j) q
  · cases t with
    | true => exact iteBF (ib_tuple_int ds) q
    | false => exact iteBF (ib_list_int ds) q
theorem ok_is_point (Z : Zs mg) (D : Ds K mg) (c_is_number : Cal P w K mg base "is_number" 1 ["value", "low", "high"] spIsNum) : Cal P w K mg base "is_point" 2 ["points", "value"] spIsPoint := by
  refine Def.cal D.d_is_point sc_is_point (fun vs H Q E h => ?_) (fun f cdv A outer s H vs Q E hr h => ?_)
  · obtain ⟨v, d, n, rfl, hd, q⟩ := h
    rfl
  obtain ⟨v, d, n, rfl, hd, q⟩ := h
  refine ⟨_, (pss_one (ps_ret (pe_cal c_is_number (hr.mono (by first | decide | omega)) (by rfl) (pa_cons (pv 1) (pa_cons pe_int (pa_cons (pe_op op_sub (pv 0) pe_int) pa_nil)))))), ?_⟩
  exact ⟨_, rfl, _, rfl, _, _, rfl, rfl, v, d, 0, n - 1, rfl, hd, q⟩
theorem ok_is_move_on (Z : Zs mg) (D : Ds K mg) (c_is_point : Cal P w K mg base "is_point" 2 ["points", "value"] spIsPoint) : Cal P w K mg base "is_move_on" 3 ["points", "value"] spIsMoveOn := by
  refine Def.cal D.d_is_move_on sc_is_move_on (fun vs H Q E h => ?_) (fun f cdv A outer s H vs Q E hr h => ?_)
  · obtain ⟨G, v, d, n, rfl, gh, hd, sz, q⟩ := h
    rfl
  obtain ⟨G, v, d, n, rfl, gh, hd, sz, q⟩ := h
  refine ⟨_, (pss_cons (ps_if (PW.pt (pw_or (pt_not (pt_val (pe_callB call_isD (by rfl) Z.z_isinstance (by decide +kernel) (pa_cons (pv 1) (pa_cons (pe_bltn (v := .ty "tuple") (by rfl) Z.z_tuple (by decide +kernel) rfl) pa_nil))))) (pw_or1 (pt_cmp (pc_neI (pe_callB call_len (by rfl) Z.z_len (by decide +kernel) (pa_cons (pv 1) pa_nil)) (pv 0)) (nomark _))))) (pss_one (ps_ret pe_bl)) pss_nil)
      (pss_one (ps_ret (pe_and (pe_callB (cr_all rfl) (by rfl) Z.z_all (by decide +kernel) (pa_cons (pe_lc (own := [("image", 2)]) (g := gName 2) (tt := tYes) (by rfl) sc_is_move_on.nd (pi_tup (pv 1)) (blkOk_by (N := ["points", "value", "image"]) (sc := defScope s_is_move_on) (by decide +kernel)) (fun _ _ _ _ _ => pg_name (i := 2) sc_is_move_on.nd rfl (Or.inl rfl)) (fun _ _ _ _ _ => pts_nil) (fun _ _ _ _ _ => (pe_cal c_is_point (hr.mono (by first | decide | omega)) (by rfl) (pa_cons (pv 0) (pa_cons (pv 2) pa_nil))))) pa_nil)) (pe_one (pe_cmpR (op_eqLI hr.units) (pe_callB call_sortT (by rfl) Z.z_sorted (by decide +kernel) (pa_cons (pv 1) pa_nil)) (pe_listRgN rfl (by rfl) Z.z_list (prg_1 (by rfl) Z.z_range (pv 0))) (nomark _))))))), ?_⟩
  have hdH := hd.up gh
  refine ⟨_, rfl, v, d, "tuple", rfl, hdH, ok_tuple, _, rfl, ?_⟩
  rcases hd.kind with ⟨rfl, rfl⟩ | ⟨b, rfl, rfl⟩ | ⟨j, rfl, rfl⟩ | ⟨j, rfl, rfl⟩ | ⟨a, xs, ds, t, rfl, ha, hat, hal, dxs, rfl⟩
  · exact iteBT (by rw [ib_none_tuple]; rfl) (iteT (q H (.refl _)))
  · exact iteBT (by rw [ib_bool_tuple]; rfl) (iteT (q H (.refl _)))
  · exact iteBT (by rw [ib_int_tuple]; rfl) (iteT (q H (.refl _)))
  · exact iteBT (by rw [ib_str_tuple]; rfl) (iteT (q H (.refl _)))
  cases t with
  | false => exact iteBT (by rw [show instB (sqD false ds) "tuple" = false from ib_list_tuple ds]; rfl) (iteT (q H (.refl _)))
  | true =>
    have ha := hat rfl
    have lx := dxs.length
    have cn : mvOn n (sqD true ds) = (decide (((ds.length : Nat) : Int) = n) && (ds.all (fun d => isNum d 0 (n - 1)) && decide ((intsOf ds).Perm (rngI n)))) := rfl
    refine iteBF (by rw [show instB (sqD true ds) "tuple" = true from ib_tuple_tuple ds]; rfl) ⟨_, rfl, _, _, rfl, .inr ⟨xs, .of (gh _ _ ha), rfl⟩, _, rfl, _, _, rfl, rfl, _, rfl, ite2 (fun c => ?_) (fun c => ?_)⟩
    · have c : ¬ ((xs.length : Nat) : Int) = n := nd_of c
      have q1 := q H (.refl _)
      rw [cn, decide_eq_false (by omega), Bool.false_and] at q1
      exact q1
    have c : ((xs.length : Nat) : Int) = n := nd_not c
    have szl : ds.length ≤ 1000000 := by
      have := szL_len ds
      have := sqD_sz true ds
      omega
    rw [cn, decide_eq_true (by omega), Bool.true_and] at q
    refine ⟨_, rfl, a, rfl, ⟨_, .of (gh _ _ ha)⟩, fun l hl => ?_⟩
    refine lc_tup (xs := xs) (fun j H' => Same H H' ∧ H l = none ∧ H' l = some (.lst (((ds.take j).map fun d => isNum d 0 (n - 1)).map V.bl))) ?_ ?_ ?_ ?_
    · exact ⟨New.same (o := .lst []) ⟨hl, rfl⟩, hl, upd_same⟩
    · rintro j H' hj ⟨g2, _⟩
      exact .of (g2 _ _ (gh _ _ ha))
    · rintro j x H2 hj ⟨g2, fl, hz⟩
      obtain ⟨e, he, hde⟩ := dxs.get hj
      have hj2 := (List.getElem?_eq_some_iff.mp hj).1
      refine ⟨rfl, yesT ⟨_, rfl, _, rfl, x, e, n, rfl, hde.up (gh.trans g2), _, hz, ?_, fun b o h => ?_, fl, ?_⟩⟩
      · rw [List.length_map, List.length_map, List.length_take, sizeLine_eq]
        omega
      · rw [upd_ne (ne_of_none h fl)]
        exact g2 _ _ h
      · rw [upd_same, List.take_add_one, he, List.map_append, List.map_append]
        rfl
    · rintro H2 ⟨g2, fl, hz⟩
      rw [List.take_of_length_le (by omega)] at hz
      refine ⟨l, _, rfl, .of hz, _, rfl, ?_⟩
      have ea : (ds.map fun d => isNum d 0 (n - 1)).all id = ds.all fun d => isNum d 0 (n - 1) := by rw [List.all_map]; rfl
      refine ite2 (fun c2 => ?_) (fun c2 => ?_)
      · rw [ea] at c2
        rw [c2, Bool.true_and] at q
        have ed := ints_isNum c2
        have ex : xs = (intsOf ds).map V.int := vals_int (G := G) (by rw [← ed]; exact dxs)
        refine ⟨_, rfl, a, intsOf ds, rfl, ?_, fun ns' p H3 pm srt n3 => ?_⟩
        · rw [← ex]
          exact .of (g2 _ _ (gh _ _ ha))
        refine ⟨_, rfl, n, rfl, .of_le (by decide) (by omega) (by decide) (by omega), fun r H4 n4 => ?_⟩
        have h4 := n4.at
        rw [rgV_rngI] at h4
        refine ⟨p, r, ns', rngI n, rfl, rfl, .of (n4.else n3.at), .of h4, ?_⟩
        have q4 := q H4 (g2.trans (n3.same.trans n4.same))
        have e : decide (ns' = rngI n) = decide ((intsOf ds).Perm (rngI n)) := by
          refine decide_eq_decide.mpr ⟨fun h => h ▸ pm.symm, fun h => ?_⟩
          exact List.Perm.eq_of_pairwise (le := (· ≤ ·)) (fun a b _ _ h1 h2 => Int.le_antisymm h1 h2) srt (rngI_sorted n) (pm.trans h)
        rw [e]
        exact q4
      · rw [ea] at c2
        rw [Bool.eq_false_iff.mpr c2, Bool.false_and] at q
        exact q H2 g2


theorem ok_move (Z : Zs mg) (D : Ds K mg) (c__law_take : Cal P w K mg base "_law_take" 2 ["store", "many"] spTake) (c__law_drawn : Cal P w K mg base "_law_drawn" 3 ["store", "things", "many"] spDrawn) : Cal P w K mg base "_law_move" 4 ["store", "points"] spMove := by
  refine Def.cal D.d_law_move sc_law_move (fun vs H Q E h => ?_) (fun f cdv A outer s H vs Q E hr h => ?_)
  · obtain ⟨S, G, n, rfl, wd, h0, h1, q⟩ := h
    rfl
  obtain ⟨S, G, n, rfl, wd, h0, h1, q⟩ := h
  refine ⟨_, (pss_cons (ps_set (i := 2) sc_law_move.nd rfl (Or.inl rfl) (pe_cal c__law_take (hr.mono (by first | decide | omega)) (by rfl) (pa_cons (pv 0) (pa_cons pe_int pa_nil))))
      (pss_cons (ps_set (i := 3) sc_law_move.nd rfl (Or.inl rfl) (pe_listRgN rfl (by rfl) Z.z_list (prg_1 (by rfl) Z.z_range (pv 1))))
      (pss_cons (ps_if (PW.pt (pw_or (pt_cmp (pc_eqI (pv 2) pe_int) (nomark _)) (pw_or1 (pt_cmp (pc_lt (pv 1) pe_int) (nomark _))))) (pss_one (ps_ret (pe_callTy call_tupleN (by rfl) Z.z_tuple (by decide +kernel) (pa_cons (pv 3) pa_nil)))) pss_nil)
      (pss_cons (ps_if (pt_cmp (pc_lt (pv 2) pe_int) (nomark _)) (pss_cons (ps_set (i := 4) sc_law_move.nd rfl (Or.inl rfl) pe_int)
      (Evl.pss_cut (ps_if (pt_cmp (pc_gt (pv 2) pe_int) (nomark _)) (pss_one (ps_set (i := 4) sc_law_move.nd rfl (Or.inl rfl) (pe_op op_add pe_int (pe_cal c__law_take (hr.mono (by first | decide | omega)) (by rfl) (pa_cons (pv 0) (pa_cons (pe_op op_sub (pv 1) pe_int) pa_nil)))))) pss_nil)
      (pss_cons (ps_set (i := 5) sc_law_move.nd rfl (Or.inl rfl) (pe_cal c__law_drawn (hr.mono (by first | decide | omega)) (by rfl) (pa_cons (pv 0) (pa_cons (pv 3) (pa_cons (pv 4) pa_nil)))))
      (pss_cons (ps_for PassesOwn.never rfl (pi_range1 (by rfl) Z.z_range (pa_cons (pv 4) pa_nil)) (pg_name (i := 6) sc_law_move.nd rfl (Or.inl rfl)) (pss_one (ps_asg (pe_ix ix_list (pv 5) (pe_op op_mod (pe_callTy call_int1 (by rfl) Z.z_int (by decide +kernel) (pa_cons (pe_op op_add (pv 6) pe_int) pa_nil)) (pv 4)) (fun _ _ => rfl)) (pg_sub (pv 3) (pe_ix ix_list (pv 5) (pv 6) (fun _ _ => rfl)) set_listN))))
      (pss_one (ps_ret (pe_callTy call_tupleN (by rfl) Z.z_tuple (by decide +kernel) (pa_cons (pv 3) pa_nil)))))))) pss_nil)
      (pss_cons (ps_if (pt_cmp (pc_eqI (pv 2) pe_int) (nomark _)) (pss_cons (ps_set (i := 7) sc_law_move.nd rfl (Or.inr rfl) (pe_op op_add pe_int (pe_cal c__law_take (hr.mono (by first | decide | omega)) (by rfl) (pa_cons (pv 0) (pa_cons (pe_op op_sub (pv 1) pe_int) pa_nil)))))
      (pss_one (ps_ret (pe_callTy call_tupleN (by rfl) Z.z_tuple (by decide +kernel) (pa_cons (pe_lc (own := [("k", 6)]) (g := gName 6) (tt := tYes) (by rfl) sc_law_move.nd (pi_range1 (by rfl) Z.z_range (pa_cons (pv 1) pa_nil)) (blkOk_by (N := ["store", "points", "pick", "image", "size", "ring_row", "k", "shift"]) (sc := defScope s_law_move) (by decide +kernel)) (fun _ _ _ _ _ => pg_name (i := 6) sc_law_move.nd rfl (Or.inl rfl)) (fun _ _ _ _ _ => pts_nil) (fun _ _ _ _ _ => (pe_op op_mod (pe_callTy call_int1 (by rfl) Z.z_int (by decide +kernel) (pa_cons (pe_op op_add (pv 6) (pv 7)) pa_nil)) (pv 1)))) pa_nil))))) pss_nil)
      (pss_cons (ps_if (pt_cmp (pc_eqI (pv 2) pe_int) (nomark _)) (pss_one (ps_ret (pe_callTy call_tupleN (by rfl) Z.z_tuple (by decide +kernel) (pa_cons (pe_lc (own := [("k", 6)]) (g := gName 6) (tt := tYes) (by rfl) sc_law_move.nd (pi_range1 (by rfl) Z.z_range (pa_cons (pv 1) pa_nil)) (blkOk_by (N := ["store", "points", "pick", "image", "size", "ring_row", "k", "shift"]) (sc := defScope s_law_move) (by decide +kernel)) (fun _ _ _ _ _ => pg_name (i := 6) sc_law_move.nd rfl (Or.inl rfl)) (fun _ _ _ _ _ => pts_nil) (fun _ _ _ _ _ => (pe_op op_sub (pe_op op_sub (pv 1) pe_int) (pv 6)))) pa_nil)))) pss_nil)
      (pss_one (ps_ret (pe_callTy call_tupleN (by rfl) Z.z_tuple (by decide +kernel) (pa_cons (pe_cal c__law_drawn (hr.mono (by first | decide | omega)) (by rfl) (pa_cons (pv 0) (pa_cons (pv 3) (pa_cons (pv 1) pa_nil)))) pa_nil)))))))))), ?_⟩
  refine ⟨_, rfl, S, G, 8, rfl, wd, by omega, fun d1 H1 p0 p1 s1 => ?_⟩
  refine ⟨_, rfl, n, rfl, .of_le (by decide) (by omega) (by decide) (by omega), fun l H2 n2 => ?_⟩
  obtain ⟨s2, gl, hl, fl⟩ := s1.loc n2
  rw [rgV_rngI] at hl
  have ret : ∀ (H3 : Hp) (L : List Int), Go S G H G H3 → H3 l = some (.lst (L.map V.int)) → IsMv L n → ∃ p ys, [V.ref l] = [.ref p] ∧ SqL K H3 p ys ∧ ∀ p2 H4, New H3 p2 (.tup ys) H4 → Q (.ref p2) H4 := fun H3 L s3 h3 mv =>
    ⟨l, _, rfl, .of h3, fun p2 H4 n4 => by
      obtain ⟨G4, s4, _, k4, _⟩ := s3.know n4
      exact q p2 L G4 H4 s4 k4 mv⟩
  have plain := ret H2 _ s2 hl rngI_mv
  refine ⟨_, rfl, _, _, rfl, rfl, _, rfl, ite2 (fun c => iteT ⟨_, rfl, plain⟩) (fun c => ?_)⟩
  refine ⟨_, rfl, _, _, rfl, rfl, _, rfl, ite2 (fun c => ⟨_, rfl, plain⟩) (fun c => ?_)⟩
  have hn : ¬ n < 2 := dec_not c
  refine ⟨_, rfl, _, _, rfl, rfl, _, rfl, ite2 (fun c => ?_) (fun c => ?_)⟩
  · -- a ring
    refine ⟨fun σ' H' => ∃ m, σ' = [some (.ref S.a), some (.int n), some (.int d1), some (.ref l), some (.int m), none, none, none] ∧ Go S G H G H' ∧ H' l = some (.lst ((rngI n).map V.int)) ∧ 2 ≤ m ∧ m ≤ n, ?_, ?_⟩
    · refine ⟨_, rfl, _, _, rfl, rfl, _, rfl, ite2 (fun c => ?_) (fun c => ⟨2, rfl, s2, hl, by omega, by omega⟩)⟩
      refine ⟨_, rfl, _, rfl, _, _, rfl, rfl, S, G, n - 1, rfl, s2.wd, by omega, fun t H3 t0 t1 s3 => ⟨_, _, rfl, rfl, 2 + t, rfl, s2.trans s3, s3.hh hl (s2.ns fl), by omega, by omega⟩⟩
    · rintro σ' H3 ⟨m, rfl, s3, hl, m0, m1⟩
      refine ⟨_, rfl, _, rfl, _, rfl, S, G, l, _, m, rfl, s3.wd, .inl hl, by rw [List.length_map, rngI_len]; omega, by omega, by omega, fun r ys rest H4 s4 gr fr hr pm0 hy => ?_⟩
      obtain ⟨rs, ms, rfl, rfl, pm⟩ := perm_ints pm0
      rw [List.length_map, List.length_map, rngI_len] at hy
      have hm : rs.length = m.toNat := by omega
      have hl4 := s4.hh hl (s3.ns fl)
      have fr3 := fr
      have s4 := s3.trans s4
      have fr := s3.fresh fr
      have nd : rs.Nodup := (List.nodup_append.mp (pm.nodup_iff.mpr (rngI_nodup n))).1
      have hb : ∀ x ∈ rs, 0 ≤ x ∧ x < n := fun x hx => rngI_mem.mp (pm.mem_iff.mp (List.mem_append_left _ hx))
      have hb2 : ∀ x ∈ rs, 0 ≤ x ∧ x < ((n.toNat : Nat) : Int) := fun x hx => by have := hb x hx; omega
      have nrl : r ≠ l := fun z => by rw [z] at fr3; rw [hl] at fr3; cases fr3
      refine ⟨_, rfl, m, rfl, by omega, by omega, for_range (lo := 0) (n := m.toNat) (fun i σ' H' => ∃ (L : List Int) (y6 : Option V), σ' = [some (.ref S.a), some (.int n), some (.int d1), some (.ref l), some (.int m), some (.ref r), y6, none] ∧ Go S G H G H' ∧ H' l = some (.lst (L.map V.int)) ∧ H' r = some (.lst (rs.map V.int)) ∧ Ring n.toNat rs i L) ⟨rngI n, none, rfl, s4, hl4, hr, Ring.start n rs⟩ ?_ ?_⟩
      · rintro i σ' H5 hi ⟨L, y6, rfl, s5, h5, hr5, R⟩
        obtain ⟨a, e1, e2, _⟩ := atI_ints (ns := rs) (d := (0 + (i : Int) + 1) % m) (Int.emod_nonneg _ (by omega)) (by have := Int.emod_lt_of_pos (0 + (i : Int) + 1) (show 0 < m by omega); omega)
        obtain ⟨b, f1, f2, _⟩ := atI_ints (ns := rs) (d := 0 + (i : Int)) (by omega) (by omega)
        rw [show (0 + (i : Int)).toNat = i by omega] at f1
        have e1 : rs[(i + 1) % rs.length]? = some a := by
          rw [← e1]
          congr 1
          rw [hm, show 0 + (i : Int) + 1 = (((i + 1 : Nat)) : Int) by omega]
          have : ((i + 1 : Nat) : Int) % m = (((i + 1) % m.toNat : Nat) : Int) := by
            rw [Int.natCast_emod, Int.toNat_of_nonneg (by omega)]
          rw [this]
          rfl
        have bb := hb b (List.mem_of_getElem? f1)
        refine ⟨_, rfl, _, rfl, _, _, rfl, rfl, .inl ⟨_, rfl, _, rfl, _, _, rfl, rfl, by omega, r, _, _, _, rfl, rfl, .of hr5, e2, ?_⟩⟩
        refine ⟨_, rfl, _, rfl, _, rfl, r, _, _, _, rfl, rfl, .of hr5, f2, l, _, b.toNat, rfl, by rw [Int.toNat_of_nonneg bb.1], h5, by rw [List.length_map, R.1]; omega, fun H6 e6 => ?_⟩
        refine ⟨L.set b.toNat a, _, rfl, s5.mut gl fl e6, ?_, upd_else e6 hr5 nrl, R.step nd hb2 f1 e1⟩
        rw [upd_at e6, List.map_set]
      · rintro σ' H5 ⟨L, y6, rfl, s5, h5, hr5, R⟩
        exact ⟨_, rfl, ret H5 L s5 h5 (Ring.mv h0 (by rw [hm]; exact R) hb)⟩
  refine ⟨_, rfl, _, _, rfl, rfl, _, rfl, ite2 (fun c => ?_) (fun c => ?_)⟩
  · -- a shift
    refine ⟨_, rfl, _, rfl, _, _, rfl, rfl, S, G, n - 1, rfl, s2.wd, by omega, fun t H3 t0 t1 s3 => ⟨_, _, rfl, rfl, ?_⟩⟩
    have s3 := s2.trans s3
    refine ⟨_, rfl, n, rfl, by omega, by omega, fun e he => ?_⟩
    refine lc_range (lo := 0) (n := n.toNat) (fun i H' => Go S G H G H' ∧ G e = none ∧ H e = none ∧ H' e = some (.lst (((List.range i).map fun (k : Nat) => ((k : Int) + (1 + t)) % n).map V.int))) ?_ ?_ ?_
    · obtain ⟨s4, ge, h4, fe⟩ := s3.loc (p := e) (o := .lst []) ⟨he, rfl⟩
      exact ⟨s4, ge, fe, h4⟩
    · rintro i H4 hi ⟨s4, ge, fe, h4⟩
      refine ⟨rfl, yesT ⟨_, rfl, _, rfl, _, _, rfl, rfl, .inl ⟨_, rfl, _, rfl, _, _, rfl, rfl, by omega, _, h4, ?_, s4.mut ge fe rfl, ge, fe, ?_⟩⟩⟩
      · rw [List.length_map, List.length_map, List.length_range]
        exact lt (by omega)
      · rw [upd_same, List.range_succ, List.map_append, List.map_append, Int.zero_add]
        rfl
    · rintro H4 ⟨s4, ge, fe, h4⟩
      refine ⟨e, _, rfl, .of h4, fun p H5 n5 => ?_⟩
      obtain ⟨G5, s5, _, k5, _⟩ := s4.know n5
      exact q p _ G5 H5 s5 k5 (shift_mv (by omega))
  refine ⟨_, rfl, _, _, rfl, rfl, _, rfl, ite2 (fun c => ?_) (fun c => ?_)⟩
  · -- turned about
    refine ⟨_, rfl, n, rfl, by omega, by omega, fun e he => ?_⟩
    refine lc_range (lo := 0) (n := n.toNat) (fun i H' => Go S G H G H' ∧ G e = none ∧ H e = none ∧ H' e = some (.lst (((List.range i).map fun (k : Nat) => n - 1 - (k : Int)).map V.int))) ?_ ?_ ?_
    · obtain ⟨s4, ge, h4, fe⟩ := s2.loc (p := e) (o := .lst []) ⟨he, rfl⟩
      exact ⟨s4, ge, fe, h4⟩
    · rintro i H4 hi ⟨s4, ge, fe, h4⟩
      refine ⟨rfl, yesT ⟨_, rfl, _, _, rfl, rfl, _, rfl, _, _, rfl, rfl, _, h4, ?_, s4.mut ge fe rfl, ge, fe, ?_⟩⟩
      · rw [List.length_map, List.length_map, List.length_range]
        exact lt (by omega)
      · rw [upd_same, List.range_succ, List.map_append, List.map_append, Int.zero_add]
        rfl
    · rintro H4 ⟨s4, ge, fe, h4⟩
      refine ⟨e, _, rfl, .of h4, fun p H5 n5 => ?_⟩
      obtain ⟨G5, s5, _, k5, _⟩ := s4.know n5
      exact q p _ G5 H5 s5 k5 (turn_mv h0)
  · refine ⟨_, rfl, _, rfl, _, rfl, S, G, l, _, n, rfl, s2.wd, .inl hl, by rw [List.length_map, rngI_len]; omega, by omega, by omega, fun r ys rest H4 s4 gr fr hr pm0 hy => ?_⟩
    obtain ⟨rs, ms, rfl, rfl, pm⟩ := perm_ints pm0
    rw [List.length_map, List.length_map, rngI_len] at hy
    have pl := pm.length_eq
    rw [List.length_append, rngI_len] at pl
    have e : ms = [] := List.eq_nil_of_length_eq_zero (by omega)
    subst e
    rw [List.append_nil] at pm
    refine ⟨r, _, rfl, .of hr, fun p H5 n5 => ?_⟩
    obtain ⟨G5, s5, _, k5, _⟩ := (s2.trans s4).know n5
    exact q p rs G5 H5 s5 k5 pm


theorem ok_store (Z : Zs mg) (D : Ds K mg) : Cal P w K mg base "_law_store" 1 ["script"] (spStore K) := by
  refine Def.cal D.d_law_store sc_law_store (fun vs H Q E h => ?_) (fun f cdv A outer s H vs Q E hr h => ?_)
  · obtain ⟨a, ns, rfl, hS, hn, q⟩ := h
    rfl
  obtain ⟨a, ns, rfl, hS, hn, q⟩ := h
  refine ⟨_, (pss_one (ps_ret (pe_lstN (pa_cons (pe_lc (own := [("cell", 1)]) (g := gName 1) (tt := tYes) (by rfl) sc_law_store.nd (pi_list (pe_slice sl_listN (pv 0) po_none (po_some pe_int))) (blkOk_by (N := ["script", "cell"]) (sc := defScope s_law_store) (by decide +kernel)) (fun _ _ _ _ _ => pg_name (i := 1) sc_law_store.nd rfl (Or.inl rfl)) (fun _ _ _ _ _ => pts_nil) (fun _ _ _ _ _ => (pe_callTy call_int1 (by rfl) Z.z_int (by decide +kernel) (pa_cons (pv 1) pa_nil)))) (pa_cons pe_int (pa_cons pe_int (pa_cons pe_int (pa_cons pe_int (pa_cons pe_int (pa_cons pe_int pa_nil)))))))))), ?_⟩
  refine ⟨_, rfl, _, rfl, a, _, rfl, hS, fun p H1 n1 => ?_⟩
  have h1 := n1.at
  have ec : cutV (ns.map V.int) none (some 63) = ns.map V.int := cut_all (n := 63) (by rw [List.length_map]; exact hn)
  rw [ec] at h1
  refine ⟨p, rfl, ⟨_, .of h1⟩, fun c hc => ?_⟩
  refine lc_list (xs := ns.map V.int) (fun i H' => Same H H' ∧ H c = none ∧ H' p = some (.lst (ns.map V.int)) ∧ c ≠ p ∧ H' c = some (.lst ((ns.take i).map V.int))) ?_ ?_ ?_ ?_
  · have nc : c ≠ p := (ne_of_none h1 hc).symm
    exact ⟨n1.same.trans (New.same (o := .lst []) ⟨hc, rfl⟩), n1.same.free hc, by rw [upd_ne nc.symm]; exact h1, nc, upd_same⟩
  · rintro i H' _ ⟨_, _, hp, _⟩
    exact .of hp
  · rintro i x H2 hx ⟨g, fc, hp, nc, hc2⟩
    have hi := (List.getElem?_eq_some_iff.mp hx).1
    rw [List.length_map] at hi
    have ex : x = V.int ns[i] := by
      rw [List.getElem?_map, List.getElem?_eq_getElem hi] at hx
      exact (Option.some.inj hx).symm
    subst ex
    refine ⟨rfl, yesT ⟨_, rfl, .inl ⟨_, rfl, _, hc2, by rw [List.length_map, List.length_take]; exact lt (by omega), fun b o h => ?_, fc, by rw [upd_ne nc.symm]; exact hp, nc, ?_⟩⟩⟩
    · rw [upd_ne (ne_of_none h fc)]
      exact g _ _ h
    · rw [upd_same, List.take_add_one, List.getElem?_eq_getElem hi, List.map_append]
      rfl
  · rintro H2 ⟨g, fc, hp, nc, hc2⟩
    rw [List.length_map, List.take_length] at hc2
    refine ⟨by show 7 ≤ sizeLine; decide, fun s H3 n3 => ?_⟩
    exact q ⟨s, c, ns⟩ H3 ⟨g.trans n3.same, g.free n3.fr, 0, 0, 0, 0, 0, 0, n3.at, n3.else hc2, Int.le_refl _⟩


def spRenamed : Sp := fun vs H Q _ => ∃ (G : Hp) (a b : Addr) (ns bs : List Int) (n : Int), vs = [.ref a, .ref b] ∧ Same G H ∧ G a = some (.tup (ns.map V.int)) ∧ G b = some (.tup (bs.map V.int)) ∧ IsMv ns n ∧ IsMv bs n ∧ 0 ≤ n ∧ n ≤ 13 ∧
  ∀ (p : Addr) (ms : List Int) (G' H' : Hp), Stq G H G' H' → G' p = some (.tup (ms.map V.int)) → IsMv ms n → Q (.ref p) H'
theorem ok_renamed (Z : Zs mg) (D : Ds K mg) : Cal P w K mg base "_law_renamed" 1 ["move", "by"] spRenamed := by
  refine Def.cal D.d_law_renamed sc_law_renamed (fun vs H Q E h => ?_) (fun f cdv A outer s H vs Q E hr h => ?_)
  · obtain ⟨G, a, b, ns, bs, n, rfl, gh, ha, hb, mn, mb, n0, n13, q⟩ := h
    rfl
  obtain ⟨G, a, b, ns, bs, n, rfl, gh, ha, hb, mn, mb, n0, n13, q⟩ := h
  refine ⟨_, (pss_cons (ps_set (i := 2) sc_law_renamed.nd rfl (Or.inl rfl) (pe_op op_repL (pe_lstN (pa_cons pe_int pa_nil)) (pe_callB call_len_seq (by rfl) Z.z_len (by decide +kernel) (pa_cons (pv 0) pa_nil))))
      (pss_cons (ps_for PassesOwn.never rfl (pi_range1 (by rfl) Z.z_range (pa_cons (pe_callB call_len_seq (by rfl) Z.z_len (by decide +kernel) (pa_cons (pv 0) pa_nil)) pa_nil)) (pg_name (i := 3) sc_law_renamed.nd rfl (Or.inl rfl)) (pss_one (ps_asg (pe_ix ix_tup (pv 1) (pe_ix ix_tup (pv 0) (pv 3) (fun _ _ => rfl)) (fun _ _ => rfl)) (pg_sub (pv 2) (pe_ix ix_tup (pv 1) (pv 3) (fun _ _ => rfl)) set_listN))))
      (pss_one (ps_ret (pe_callTy call_tupleN (by rfl) Z.z_tuple (by decide +kernel) (pa_cons (pv 2) pa_nil)))))), ?_⟩
  have ln := mn.len
  have lb := mb.len
  have S0 := Stq.refl gh
  refine ⟨(by show 1 ≤ sizeLine; decide), fun z H1 n1 => ?_⟩
  obtain ⟨s1, gz, hz, fz⟩ := S0.loc2 n1
  have look : ∀ {cs : List Int} {c : Int} {H' : Hp}, IsMv cs n → inR n c → atI (cs.map V.int) c = some (.int (stp cs c)) := fun {cs c H'} mc ic => by
    obtain ⟨x, e1, e2, -⟩ := atI_ints (ns := cs) ic.1 (by have := mc.len; have := ic.2; omega)
    rw [e2]
    rw [(stp_at mc ic).1] at e1
    rw [Option.some.inj e1]
  refine ⟨_, rfl, a, _, rfl, .inr (.of (s1.gh _ _ ha)), z, _, _, rfl, rfl, hz, by rw [List.length_map]; omega, by rw [List.length_map]; omega, by rw [List.length_map]; show 1 * _ ≤ sizeLine; exact Nat.le_trans (show _ ≤ 13 by omega) (by decide), fun l H2 n2 => ?_⟩
  obtain ⟨s2, gl, hl, fl⟩ := s1.loc2 n2
  have e0 : (List.replicate ((((ns.map V.int).length : Nat) : Int)).toNat [V.int 0]).flatten = (List.replicate ns.length (0 : Int)).map V.int := by
    rw [List.length_map]
    have : ∀ m : Nat, (List.replicate m [V.int 0]).flatten = (List.replicate m (0 : Int)).map V.int := fun m => by
      induction m with
      | zero => rfl
      | succ m ih => rw [List.replicate_succ, List.flatten_cons, ih]; rfl
    exact this _
  rw [e0] at hl
  refine ⟨_, rfl, a, _, rfl, .inr (.of (s2.gh _ _ ha)), _, rfl, by rw [List.length_map]; omega, by rw [List.length_map]; omega, ?_⟩
  rw [List.length_map]
  refine for_range (lo := 0) (n := ((ns.length : Nat) : Int).toNat) (fun i σ' H' => ∃ (L : List Int) (y3 : Option V), σ' = [some (.ref a), some (.ref b), some (.ref l), y3] ∧ Stq G H G H' ∧ H' l = some (.lst (L.map V.int)) ∧ L.length = n.toNat ∧ ∀ k : Nat, k < i → L[(stp bs k).toNat]? = some (stp bs (stp ns k)))
    ⟨_, none, rfl, s2, hl, by rw [List.length_replicate]; omega, fun k hk => absurd hk (Nat.not_lt_zero k)⟩ ?_ ?_
  · rintro i σ' H3 hi ⟨L, y3, rfl, s3, h3, lL, hL⟩
    have ii : inR n (0 + (i : Int)) := ⟨by omega, by omega⟩
    have i1 := (stp_at mn ii).2
    have i2 := (stp_at mb i1).2
    have i3 := (stp_at mb ii).2
    refine ⟨_, rfl, _, rfl, _, rfl, a, _, _, _, rfl, rfl, .of (s3.gh _ _ ha), look (H' := H3) mn ii, b, _, _, _, rfl, rfl, .of (s3.gh _ _ hb), look (H' := H3) mb i1, ?_⟩
    refine ⟨_, rfl, _, rfl, _, rfl, b, _, _, _, rfl, rfl, .of (s3.gh _ _ hb), look (H' := H3) mb ii, l, _, (stp bs (0 + (i : Int))).toNat, rfl, ?_, h3, ?_, fun H4 e4 => ?_⟩
    · have := i3.1
      rw [Int.toNat_of_nonneg this]
    · rw [List.length_map]
      have := i3.1
      have := i3.2
      omega
    refine ⟨L.set (stp bs (0 + (i : Int))).toNat (stp bs (stp ns (0 + (i : Int)))), _, rfl, s3.mut gl fl e4, by rw [upd_at e4, List.map_set], by rw [List.length_set]; exact lL, fun k hk => ?_⟩
    rw [Int.zero_add]
    by_cases e : k = i
    · subst e
      have := i3.1
      have := i3.2
      rw [Int.zero_add] at *
      rw [List.getElem?_set_self (by omega)]
    · have ne : stp bs (i : Int) ≠ stp bs (k : Int) := fun z => e (by have := stp_inj mb (p := (i : Int)) (q := (k : Int)) ⟨by omega, by omega⟩ ⟨by omega, by omega⟩ z; omega)
      have k3 := (stp_at mb (p := (k : Int)) ⟨by omega, by omega⟩).2
      have := k3.1
      have := i3.1
      rw [Int.zero_add] at *
      rw [List.getElem?_set_ne (by omega)]
      exact hL k (by omega)
  · rintro σ' H3 ⟨L, y3, rfl, s3, h3, lL, hL⟩
    refine ⟨_, rfl, l, _, rfl, .of h3, fun p H4 n4 => ?_⟩
    obtain ⟨G4, s4, g4, k4, -⟩ := s3.know2 n4
    exact q p L G4 H4 s4 k4 (renamed_mv n0 mn mb lL fun k hk => hL k (by omega))


def spCarry : Sp := fun vs H Q _ => ∃ (G : Hp) (a b : Addr) (ms rs : List Int) (n : Int), vs = [.ref a, .ref b] ∧ Same G H ∧ G a = some (.tup (ms.map V.int)) ∧ G b = some (.tup (rs.map V.int)) ∧ IsMv ms n ∧ (∀ r ∈ rs, inR n r) ∧ rs.length ≤ 100000 ∧
  ∀ (p : Addr) (G' H' : Hp), Stq G H G' H' → G' p = some (.tup ((aft rs ms).map V.int)) → Q (.ref p) H'
theorem ok_carry (Z : Zs mg) (D : Ds K mg) : Cal P w K mg base "carry" 1 ["move", "row"] spCarry := by
  refine Def.cal D.d_carry sc_carry (fun vs H Q E h => ?_) (fun f cdv A outer s H vs Q E hr h => ?_)
  · obtain ⟨G, a, b, ms, rs, n, rfl, gh, ha, hb, mm, inr, lr, q⟩ := h
    rfl
  obtain ⟨G, a, b, ms, rs, n, rfl, gh, ha, hb, mm, inr, lr, q⟩ := h
  refine ⟨_, (pss_one (ps_ret (pe_callTy call_tupleN (by rfl) Z.z_tuple (by decide +kernel) (pa_cons (pe_lc (own := [("point", 2)]) (g := gName 2) (tt := tYes) (by rfl) sc_carry.nd (pi_tup (pv 1)) (blkOk_by (N := ["move", "row", "point"]) (sc := defScope s_carry) (by decide +kernel)) (fun _ _ _ _ _ => pg_name (i := 2) sc_carry.nd rfl (Or.inl rfl)) (fun _ _ _ _ _ => pts_nil) (fun _ _ _ _ _ => (pe_ix (ix_tupK (K := K) rfl) (pv 0) (pv 2) (fun _ _ => rfl)))) pa_nil)))), ?_⟩
  refine ⟨_, rfl, b, rfl, ⟨_, .of (gh _ _ hb)⟩, fun l hl => ?_⟩
  refine lc_tup (xs := rs.map V.int) (fun i H' => Stq G H G H' ∧ G l = none ∧ H l = none ∧ H' l = some (.lst (((aft rs ms).take i).map V.int))) ?_ ?_ ?_ ?_
  · obtain ⟨s2, gl, h2, fl⟩ := (Stq.refl gh).loc2 (p := l) (o := .lst []) ⟨hl, rfl⟩
    exact ⟨s2, gl, fl, h2⟩
  · rintro i H' - ⟨s2, -⟩
    exact .of (s2.gh _ _ hb)
  · rintro i x H2 hx ⟨s2, gl, fl, h2⟩
    obtain ⟨r, hr, rfl⟩ := map_at hx
    have ir := inr r (List.mem_of_getElem? hr)
    have lt := (List.getElem?_eq_some_iff.mp hr).1
    obtain ⟨z, e1, e2, -⟩ := atI_ints (ns := ms) ir.1 (by have := mm.len; have := ir.2; omega)
    have ez : z = stp ms r := Option.some.inj (e1.symm.trans (stp_at mm ir).1)
    subst ez
    refine ⟨rfl, yesT ⟨_, rfl, _, rfl, a, _, _, _, rfl, rfl, .of (s2.gh _ _ ha), e2, _, h2, ?_, s2.mut gl fl rfl, gl, fl, ?_⟩⟩
    · rw [List.length_map, List.length_take, aft_len]
      exact Nat.lt_of_le_of_lt (Nat.min_le_left _ _) (Nat.lt_of_lt_of_le lt (Nat.le_trans lr (by decide)))
    · rw [upd_same, List.take_add_one]
      have : (aft rs ms)[i]? = some (stp ms r) := by unfold aft; rw [List.getElem?_map, hr]; rfl
      rw [this, List.map_append]
      rfl
  · rintro H2 ⟨s2, gl, fl, h2⟩
    rw [List.length_map, ← aft_len rs ms, List.take_length] at h2
    refine ⟨l, _, rfl, .of h2, fun p H3 n3 => ?_⟩
    obtain ⟨G3, s3, g3, k3, -⟩ := s2.know2 n3
    exact q p G3 H3 s3 k3
def spAfter : Sp := fun vs H Q _ => ∃ (G : Hp) (a b : Addr) (rs ms : List Int) (n : Int), vs = [.ref a, .ref b] ∧ Same G H ∧ G a = some (.tup (rs.map V.int)) ∧ G b = some (.tup (ms.map V.int)) ∧ IsMv ms n ∧ (∀ r ∈ rs, inR n r) ∧ rs.length ≤ 100000 ∧
  ∀ (p : Addr) (G' H' : Hp), Stq G H G' H' → G' p = some (.tup ((aft rs ms).map V.int)) → Q (.ref p) H'
theorem ok_after (Z : Zs mg) (D : Ds K mg) : Cal P w K mg base "_law_after" 1 ["first", "second"] spAfter := by
  refine Def.cal D.d_law_after sc_law_after (fun vs H Q E h => ?_) (fun f cdv A outer s H vs Q E hr h => ?_)
  · obtain ⟨G, b, a, rs, ms, n, rfl, gh, hb, ha, mm, inr, lr, q⟩ := h
    rfl
  obtain ⟨G, b, a, rs, ms, n, rfl, gh, hb, ha, mm, inr, lr, q⟩ := h
  refine ⟨_, (pss_one (ps_ret (pe_callTy call_tupleN (by rfl) Z.z_tuple (by decide +kernel) (pa_cons (pe_lc (own := [("p", 2)]) (g := gName 2) (tt := tYes) (by rfl) sc_law_after.nd (pi_tup (pv 0)) (blkOk_by (N := ["first", "second", "p"]) (sc := defScope s_law_after) (by decide +kernel)) (fun _ _ _ _ _ => pg_name (i := 2) sc_law_after.nd rfl (Or.inl rfl)) (fun _ _ _ _ _ => pts_nil) (fun _ _ _ _ _ => (pe_ix (ix_tupK (K := K) rfl) (pv 1) (pv 2) (fun _ _ => rfl)))) pa_nil)))), ?_⟩
  refine ⟨_, rfl, b, rfl, ⟨_, .of (gh _ _ hb)⟩, fun l hl => ?_⟩
  refine lc_tup (xs := rs.map V.int) (fun i H' => Stq G H G H' ∧ G l = none ∧ H l = none ∧ H' l = some (.lst (((aft rs ms).take i).map V.int))) ?_ ?_ ?_ ?_
  · obtain ⟨s2, gl, h2, fl⟩ := (Stq.refl gh).loc2 (p := l) (o := .lst []) ⟨hl, rfl⟩
    exact ⟨s2, gl, fl, h2⟩
  · rintro i H' - ⟨s2, -⟩
    exact .of (s2.gh _ _ hb)
  · rintro i x H2 hx ⟨s2, gl, fl, h2⟩
    obtain ⟨r, hr, rfl⟩ := map_at hx
    have ir := inr r (List.mem_of_getElem? hr)
    have lt := (List.getElem?_eq_some_iff.mp hr).1
    obtain ⟨z, e1, e2, -⟩ := atI_ints (ns := ms) ir.1 (by have := mm.len; have := ir.2; omega)
    have ez : z = stp ms r := Option.some.inj (e1.symm.trans (stp_at mm ir).1)
    subst ez
    refine ⟨rfl, yesT ⟨_, rfl, _, rfl, a, _, _, _, rfl, rfl, .of (s2.gh _ _ ha), e2, _, h2, ?_, s2.mut gl fl rfl, gl, fl, ?_⟩⟩
    · rw [List.length_map, List.length_take, aft_len]
      exact Nat.lt_of_le_of_lt (Nat.min_le_left _ _) (Nat.lt_of_lt_of_le lt (Nat.le_trans lr (by decide)))
    · rw [upd_same, List.take_add_one]
      have : (aft rs ms)[i]? = some (stp ms r) := by unfold aft; rw [List.getElem?_map, hr]; rfl
      rw [this, List.map_append]
      rfl
  · rintro H2 ⟨s2, gl, fl, h2⟩
    rw [List.length_map, ← aft_len rs ms, List.take_length] at h2
    refine ⟨l, _, rfl, .of h2, fun p H3 n3 => ?_⟩
    obtain ⟨G3, s3, g3, k3, -⟩ := s2.know2 n3
    exact q p G3 H3 s3 k3


def spCheckNum (DB : Addr) : Sp := fun vs H Q E => ∃ (v : V) (d : PyData) (lo hi : Int), vs = [v, .int lo, .int hi] ∧ Da H v d ∧ (isNum d lo hi = true → Q .non H) ∧ (isNum d lo hi = false → Errs E DB [(("high" : Str), .int hi), (("low" : Str), .int lo), (("value" : Str), v)] H)
theorem ok_check_number {DB : Addr} (Z : Zs mg) (D : Ds K mg) (m_BadNumber : Xm P w K mg base "BadNumber" DB ["value", "low", "high"]) (c_is_number : Cal P w K mg base "is_number" 1 ["value", "low", "high"] spIsNum) : CalX P w K mg base "check_number" 3 ["value", "low", "high"] (spCheckNum DB) := by
  refine Def.calX D.d_check_number sc_check_number (fun vs H Q E h => ?_) (fun f cdv A outer s H vs Q E hr h => ?_)
  · obtain ⟨v, d, lo, hi, rfl, hd, q1, q2⟩ := h
    rfl
  obtain ⟨v, d, lo, hi, rfl, hd, q1, q2⟩ := h
  refine ⟨_, (pss_one (ps_if (pt_not (pt_val (pe_cal c_is_number (hr.mono (by first | decide | omega)) (by rfl) (pa_cons (pv 0) (pa_cons (pv 1) (pa_cons (pv 2) pa_nil)))))) (pss_one (L2N.ps_raise rfl (L2N.takes_of rfl rfl rfl rfl) (pmk_x m_BadNumber (hr.mono (by first | decide | omega)) (by rfl) (pa_cons (pv 0) (pa_cons (pv 1) (pa_cons (pv 2) pa_nil)))))) pss_nil)), ?_⟩
  refine ⟨_, rfl, _, rfl, _, rfl, v, d, lo, hi, rfl, hd, ?_⟩
  cases e : isNum d lo hi with
  | true => exact ⟨_, rfl, iteF (q1 e)⟩
  | false => exact ⟨_, rfl, iteT ⟨_, rfl, _, rfl, _, rfl, ini_end rfl (by show 3 ≤ 1000; decide) fun dd hdd => q2 e dd _ (same_put (Same.refl _) hdd) upd_same⟩⟩
def spCheckPts (DB : Addr) : Sp := fun vs H Q E => ∃ (v : V) (d : PyData), vs = [v] ∧ Da H v d ∧ (isNum d 0 12 = true → Q .non H) ∧ (isNum d 0 12 = false → Errs E DB [(("high" : Str), .int 12), (("low" : Str), .int 0), (("value" : Str), v)] H)
theorem ok_check_points {DB : Addr} (Z : Zs mg) (D : Ds K mg) (c_check_number : CalX P w K mg base "check_number" 3 ["value", "low", "high"] (spCheckNum DB)) : CalX P w K mg base "check_points" 4 ["value"] (spCheckPts DB) := by
  refine Def.calX D.d_check_points sc_check_points (fun vs H Q E h => ?_) (fun f cdv A outer s H vs Q E hr h => ?_)
  · obtain ⟨v, d, rfl, hd, q1, q2⟩ := h
    rfl
  obtain ⟨v, d, rfl, hd, q1, q2⟩ := h
  refine ⟨_, (pss_one (ps_expr (pe_calX c_check_number (L2N.takes_of rfl rfl rfl rfl) (hr.mono (by first | decide | omega)) (by rfl) (pa_cons (pv 0) (pa_cons pe_int (pa_cons (pe_globI (by rfl) Z.c_MOST_POINTS) pa_nil)))))), ?_⟩
  exact ⟨_, rfl, v, d, 0, 12, rfl, hd, q1, q2⟩
def badAt (n : Int) (ds : List PyData) (i : Nat) : Prop := (∃ d, ds[i]? = some d ∧ mvOn n d = false) ∧ ∀ (j : Nat) d, j < i → ds[j]? = some d → mvOn n d = true
def spCheckMoves (K : PySem.W.Frag) (DN DT : Addr) : Sp := fun vs H Q E => ∃ (G : Hp) (a : Addr) (xs : List V) (ds : List PyData) (n : Int) (what : Str) (lim : Int), vs = [.int n, .ref a, .str what, .int lim] ∧ Same G H ∧ HasS K H a xs ∧ DaAll G xs ds ∧ szL ds ≤ 900000 ∧
  (lim < (ds.length : Nat) → Errs E DT [(("limit" : Str), .int lim), (("what" : Str), .str what)] H) ∧ (((ds.length : Nat) : Int) ≤ lim → ∀ i : Nat, badAt n ds i → Errs E DN [(("index" : Str), .int i)] H) ∧
  (((ds.length : Nat) : Int) ≤ lim → (∀ d ∈ ds, mvOn n d = true) → ∀ H', Same H H' → Q .non H')
theorem ok_check_moves {DN DT : Addr} (Z : Zs mg) (D : Ds K mg) (m_NotAMove : Xm P w K mg base "NotAMove" DN ["index"]) (m_TooMany : Xm P w K mg base "TooMany" DT ["what", "limit"]) (c_is_move_on : Cal P w K mg base "is_move_on" 3 ["points", "value"] spIsMoveOn) : CalX P w K mg base "check_moves" 4 ["points", "moves", "what", "limit"] (spCheckMoves K DN DT) := by
  refine Def.calX D.d_check_moves sc_check_moves (fun vs H Q E h => ?_) (fun f cdv A outer s H vs Q E hr h => ?_)
  · obtain ⟨G, a, xs, ds, n, what, lim, rfl, gh, hl, dx, sz, q1, q2, q3⟩ := h
    rfl
  obtain ⟨G, a, xs, ds, n, what, lim, rfl, gh, hl, dx, sz, q1, q2, q3⟩ := h
  refine ⟨_, (pss_cons (ps_if (pt_cmp (pc_gt (pe_callB call_len (by rfl) Z.z_len (by decide +kernel) (pa_cons (pv 1) pa_nil)) (pv 3)) (nomark _)) (pss_one (L2N.ps_raise rfl (L2N.takes_of rfl rfl rfl rfl) (pmk_x m_TooMany (hr.mono (by first | decide | omega)) (by rfl) (pa_cons (pv 2) (pa_cons (pv 3) pa_nil))))) pss_nil)
      (pss_one (ps_for (passes_of rfl) rfl (pi_or (pi_enum (by rfl) Z.z_enumerate (pa_cons (pv 1) pa_nil)) (pi_enumT (by rfl) Z.z_enumerate (pa_cons (pv 1) pa_nil))) (pg_tup rfl (pgs_cons (pg_name (i := 4) sc_check_moves.nd rfl (Or.inl rfl)) (pgs_cons (pg_name (i := 5) sc_check_moves.nd rfl (Or.inl rfl)) pgs_nil))) (pss_one (ps_if (pt_not (pt_val (pe_cal c_is_move_on (hr.mono (by first | decide | omega)) (by rfl) (pa_cons (pv 0) (pa_cons (pv 5) pa_nil))))) (pss_one (L2N.ps_raise rfl (L2N.takes_of rfl rfl rfl rfl) (pmk_x m_NotAMove (hr.mono (by first | decide | omega)) (by rfl) (pa_cons (pv 4) pa_nil)))) pss_nil))))), ?_⟩
  have lx := dx.length
  refine ⟨_, rfl, _, xs.length, rfl, HasS.lenV hl, _, rfl, _, _, rfl, rfl, _, rfl, ite2 (fun c => ?_) (fun c => ?_)⟩
  · have c : lim < ((xs.length : Nat) : Int) := dec_of c
    exact ⟨_, rfl, _, rfl, ini_end rfl (by show 2 ≤ 1000; decide) fun dd hdd => q1 (by rw [← lx]; exact c) dd _ (same_put (Same.refl _) hdd) upd_same⟩
  have c : ¬ lim < ((xs.length : Nat) : Int) := dec_not c
  have q2 := q2 (by rw [← lx]; omega)
  have q3 := q3 (by rw [← lx]; omega)
  rcases hl with (hl | hl) | hl
  · refine .inl ⟨_, rfl, a, xs, rfl, .of hl, for_enumL (K := K) (a := a) (xs := xs) (fun i σ' H' => ∃ y4 y5 : Option V, σ' = [some (.int n), some (.ref a), some (.str what), some (.int lim), y4, y5] ∧ Same H H' ∧ ∀ (j : Nat) d, j < i → ds[j]? = some d → mvOn n d = true) ?_ ?_ ?_ ?_⟩
    · exact ⟨_, _, rfl, Same.refl _, fun j d hj => absurd hj (Nat.not_lt_zero j)⟩
    · rintro i σ' H' - ⟨y4, y5, rfl, s1, -⟩
      exact .of (s1 _ _ hl)
    · rintro i x T σ' H1 H2 hx ⟨y4, y5, rfl, s1, ok⟩ nT
      obtain ⟨d, hd, dd⟩ := dx.get hx
      refine ⟨T, _, rfl, .of nT.at, rfl, _, _, rfl, _, _, rfl, rfl, ?_⟩
      have s2 := s1.trans nT.same
      have zd := szL_get hd
      refine ⟨_, rfl, _, rfl, G, x, d, n, rfl, gh.trans s2, dd, by omega, fun H3 s3 => ?_⟩
      cases e : mvOn n d with
      | true =>
        refine ⟨_, rfl, iteF ⟨_, _, rfl, s2.trans s3, fun j d' hj hd' => ?_⟩⟩
        rcases Nat.lt_or_ge j i with z | z
        · exact ok j d' z hd'
        · have : j = i := by omega
          subst this
          rw [hd] at hd'
          cases hd'
          exact e
      | false => exact ⟨_, rfl, iteT ⟨_, rfl, ini_end rfl (by show 1 ≤ 1000; decide) fun p hp => q2 i ⟨⟨d, hd, e⟩, ok⟩ p _ ((s2.trans s3).trans (same_put (Same.refl _) hp)) upd_same⟩⟩
    · rintro σ' H1 ⟨y4, y5, rfl, s1, ok⟩
      refine q3 (fun d hd => ?_) H1 s1
      obtain ⟨j, hj⟩ := List.getElem?_of_mem hd
      exact ok j d (by rw [lx]; exact (List.getElem?_eq_some_iff.mp hj).1) hj
  · refine .inr ⟨_, rfl, a, xs, rfl, .of hl, for_enumT (K := K) (a := a) (xs := xs) (fun i σ' H' => ∃ y4 y5 : Option V, σ' = [some (.int n), some (.ref a), some (.str what), some (.int lim), y4, y5] ∧ Same H H' ∧ ∀ (j : Nat) d, j < i → ds[j]? = some d → mvOn n d = true) ?_ ?_ ?_ ?_⟩
    · exact ⟨_, _, rfl, Same.refl _, fun j d hj => absurd hj (Nat.not_lt_zero j)⟩
    · rintro i σ' H' - ⟨y4, y5, rfl, s1, -⟩
      exact .of (s1 _ _ hl)
    · rintro i x T σ' H1 H2 hx ⟨y4, y5, rfl, s1, ok⟩ nT
      obtain ⟨d, hd, dd⟩ := dx.get hx
      refine ⟨T, _, rfl, .of nT.at, rfl, _, _, rfl, _, _, rfl, rfl, ?_⟩
      have s2 := s1.trans nT.same
      have zd := szL_get hd
      refine ⟨_, rfl, _, rfl, G, x, d, n, rfl, gh.trans s2, dd, by omega, fun H3 s3 => ?_⟩
      cases e : mvOn n d with
      | true =>
        refine ⟨_, rfl, iteF ⟨_, _, rfl, s2.trans s3, fun j d' hj hd' => ?_⟩⟩
        rcases Nat.lt_or_ge j i with z | z
        · exact ok j d' z hd'
        · have : j = i := by omega
          subst this
          rw [hd] at hd'
          cases hd'
          exact e
      | false => exact ⟨_, rfl, iteT ⟨_, rfl, ini_end rfl (by show 1 ≤ 1000; decide) fun p hp => q2 i ⟨⟨d, hd, e⟩, ok⟩ p _ ((s2.trans s3).trans (same_put (Same.refl _) hp)) upd_same⟩⟩
    · rintro σ' H1 ⟨y4, y5, rfl, s1, ok⟩
      refine q3 (fun d hd => ?_) H1 s1
      obtain ⟨j, hj⟩ := List.getElem?_of_mem hd
      exact ok j d (by rw [lx]; exact (List.getElem?_eq_some_iff.mp hj).1) hj
  · refine .inr ⟨_, rfl, a, xs, rfl, .inr hl, for_enumT (K := K) (a := a) (xs := xs) (fun i σ' H' => ∃ y4 y5 : Option V, σ' = [some (.int n), some (.ref a), some (.str what), some (.int lim), y4, y5] ∧ Same H H' ∧ ∀ (j : Nat) d, j < i → ds[j]? = some d → mvOn n d = true) ?_ ?_ ?_ ?_⟩
    · exact ⟨_, _, rfl, Same.refl _, fun j d hj => absurd hj (Nat.not_lt_zero j)⟩
    · rintro i σ' H' - ⟨y4, y5, rfl, s1, -⟩
      exact .inr hl
    · rintro i x T σ' H1 H2 hx ⟨y4, y5, rfl, s1, ok⟩ nT
      obtain ⟨d, hd, dd⟩ := dx.get hx
      refine ⟨T, _, rfl, .of nT.at, rfl, _, _, rfl, _, _, rfl, rfl, ?_⟩
      have s2 := s1.trans nT.same
      have zd := szL_get hd
      refine ⟨_, rfl, _, rfl, G, x, d, n, rfl, gh.trans s2, dd, by omega, fun H3 s3 => ?_⟩
      cases e : mvOn n d with
      | true =>
        refine ⟨_, rfl, iteF ⟨_, _, rfl, s2.trans s3, fun j d' hj hd' => ?_⟩⟩
        rcases Nat.lt_or_ge j i with z | z
        · exact ok j d' z hd'
        · have : j = i := by omega
          subst this
          rw [hd] at hd'
          cases hd'
          exact e
      | false => exact ⟨_, rfl, iteT ⟨_, rfl, ini_end rfl (by show 1 ≤ 1000; decide) fun p hp => q2 i ⟨⟨d, hd, e⟩, ok⟩ p _ ((s2.trans s3).trans (same_put (Same.refl _) hp)) upd_same⟩⟩
    · rintro σ' H1 ⟨y4, y5, rfl, s1, ok⟩
      refine q3 (fun d hd => ?_) H1 s1
      obtain ⟨j, hj⟩ := List.getElem?_of_mem hd
      exact ok j d (by rw [lx]; exact (List.getElem?_eq_some_iff.mp hj).1) hj
def spStill (DB : Addr) : Sp := fun vs H Q _ => ∃ (n : Int), vs = [.int n] ∧ 0 ≤ n ∧ n ≤ 12 ∧ ∀ p H', New H p (.tup ((rngI n).map V.int)) H' → Q (.ref p) H'
theorem ok_still {DB : Addr} (Z : Zs mg) (D : Ds K mg) (c_check_points : CalX P w K mg base "check_points" 4 ["value"] (spCheckPts DB)) : CalX P w K mg base "still_move" 5 ["points"] (spStill DB) := by
  refine Def.calX D.d_still_move sc_still_move (fun vs H Q E h => ?_) (fun f cdv A outer s H vs Q E hr h => ?_)
  · obtain ⟨n, rfl, n0, n12, q⟩ := h
    rfl
  obtain ⟨n, rfl, n0, n12, q⟩ := h
  refine ⟨_, (pss_cons (ps_expr (pe_calX c_check_points (L2N.takes_of rfl rfl rfl rfl) (hr.mono (by first | decide | omega)) (by rfl) (pa_cons (pv 0) pa_nil)))
      (pss_one (ps_ret (pe_tupRgN rfl (by rfl) Z.z_tuple (prg_1 (by rfl) Z.z_range (pv 0)))))), ?_⟩
  refine ⟨_, rfl, .int n, .int n, rfl, .int n, fun _ => ?_, fun e => ?_⟩
  · refine ⟨_, rfl, n, rfl, .of_le (by decide) (by omega) (by decide) (by omega), fun p H1 n1 => ?_⟩
    rw [rgV_rngI] at n1
    exact q p H1 n1
  · have : isNum (.int n) 0 12 = true := by
      show (decide (0 ≤ n) && decide (n ≤ 12)) = true
      rw [decide_eq_true n0, decide_eq_true n12]
      rfl
    rw [this] at e
    cases e


def spNext (K : PySem.W.Frag) : Sp := fun vs H Q _ => ∃ (G : Hp) (l t d : Addr) (xs ts : List V) (R T : List (List Int)) (n : Int) (kvs : List (List L2.Key × V)) (W : WL), vs = [.ref l, .ref t, .ref d] ∧ Same G H ∧ H l = some (.lst xs) ∧ DaAll G xs (R.map rowD) ∧ HasS K H t ts ∧ DaAll G ts (T.map rowD) ∧ AllMv n T ∧ T.length ≤ 8 ∧
  R.length ≤ 400 ∧ (∀ r ∈ R, RowIn n r ∧ r.length ≤ 100 ∧ r ∈ W.map (·.1)) ∧ G d = none ∧ H d = some (.dT kvs) ∧ Wds G kvs W ∧ W.length ≤ 400 ∧ (∀ p ∈ W, p.2.length ≤ 1000) ∧
  ∀ (f : Addr) (G' H' : Hp) (kvs' : List (List L2.Key × V)) (ys : List V), Stp d G H G' H' → H f = none → G' f = none → H' f = some (.lst ys) → H' d = some (.dT kvs') → Wds G' kvs' (nl T R W R.length) → DaAll G' ys ((fnd W (nl T R W R.length)).map rowD) → Q (.ref f) H'
theorem ok_next (Z : Zs mg) (D : Ds K mg) (c_carry : Cal P w K mg base "carry" 1 ["move", "row"] spCarry) : Cal P w K mg base "_next_layer" 2 ["layer", "told", "words"] (spNext K) := by
  refine Def.cal D.d_next_layer sc_next_layer (fun vs H Q E h => ?_) (fun f cdv A outer s H vs Q E hr h => ?_)
  · obtain ⟨G, l, t, d, xs, ts, R, T, n, kvs, W, rfl, gh, hxl, dx, hlt, dt, mvT, lT, lR, rR, gd, hd, wk, lW, lwd, q⟩ := h
    rfl
  obtain ⟨G, l, t, d, xs, ts, R, T, n, kvs, W, rfl, gh, hxl, dx, hlt, dt, mvT, lT, lR, rR, gd, hd, wk, lW, lwd, q⟩ := h
  refine ⟨_, (pss_cons (ps_set (i := 3) sc_next_layer.nd rfl (Or.inl rfl) (pe_lstN pa_nil))
      (pss_cons (ps_for PassesOwn.never rfl (pi_list (pv 0)) (pg_name (i := 4) sc_next_layer.nd rfl (Or.inl rfl)) (pss_one (ps_for PassesOwn.never rfl (pi_or (pi_enum (by rfl) Z.z_enumerate (pa_cons (pv 1) pa_nil)) (pi_enumT (by rfl) Z.z_enumerate (pa_cons (pv 1) pa_nil))) (pg_tup rfl (pgs_cons (pg_name (i := 5) sc_next_layer.nd rfl (Or.inl rfl)) (pgs_cons (pg_name (i := 6) sc_next_layer.nd rfl (Or.inl rfl)) pgs_nil))) (pss_cons (ps_set (i := 7) sc_next_layer.nd rfl (Or.inl rfl) (pe_cal c_carry (hr.mono (by first | decide | omega)) (by rfl) (pa_cons (pv 6) (pa_cons (pv 4) pa_nil))))
      (pss_one (ps_if (pt_cmp (pc_dnotin (hu_of hr) (pv 7) (pv 2))) (pss_cons (ps_dput (hu_of hr) (pv 2) (pv 7) (pe_op op_catA (pe_dget (hu_of hr) (pv 2) (pv 4) (fun _ _ => rfl)) (pe_tupN (pa_cons (pv 5) pa_nil))) rfl)
      (pss_one (ps_expr (pe_bm PySem.F.plainAttrs_list PySem.F.slot_list_append PySem.F.type_list_append mt_appendN (pv 3) (pa_cons (pv 7) pa_nil))))) pss_nil))))))
      (pss_one (ps_ret (pv 3))))), ?_⟩
  have lx := dx.length
  have lt' := dt.length
  rw [List.length_map] at lx lt'
  have nld : l ≠ d := ne_of hxl hd (by intro z; cases z)
  have ntd : HasL H t ts → t ≠ d := fun h => h.elim (fun h => ne_of h hd (by intro z; cases z)) fun h => ne_of h hd (by intro z; cases z)
  have hd0 : H d ≠ none := ne_none hd
  refine ⟨Nat.zero_le _, fun f H1 n1 => ?_⟩
  obtain ⟨s1q, gf, hf, ff⟩ := (Stq.refl gh).loc2 n1
  have s1 : Stp d G H G H1 := s1q.p
  have nfd : f ≠ d := fun e => by rw [e, hd] at ff; cases ff
  refine ⟨_, rfl, l, rfl, ⟨_, .of (s1.hh _ _ nld hxl)⟩, for_list (K := K) (a := l) (xs := xs) (fun i σ' H' => ∃ (G' : Hp) (kvs' : List (List L2.Key × V)) (ys : List V) (y4 y5 y6 y7 : Option V), σ' = [some (.ref l), some (.ref t), some (.ref d), some (.ref f), y4, y5, y6, y7] ∧ Stp d G H G' H' ∧ G' f = none ∧ H' f = some (.lst ys) ∧ H' d = some (.dT kvs') ∧
    Wds G' kvs' (nl T R W i) ∧ DaAll G' ys ((fnd W (nl T R W i)).map rowD)) ?_ ?_ ?_ ?_⟩
  · exact ⟨G, kvs, [], _, _, _, _, rfl, s1, gf, hf, n1.else hd, wk, by show DaAll G [] ((fnd W W).map rowD); rw [fnd_self]; exact .nil⟩
  · rintro i σ' H' - ⟨G', kvs', ys, y4, y5, y6, y7, rfl, s2, -⟩
    exact .of (s2.hh _ _ nld hxl)
  · rintro i x σ' H2 hx ⟨G2, kvs2, ys, y4, y5, y6, y7, rfl, s2, gf2, hf2, hd2, wk2, dy2⟩
    obtain ⟨e, he, hde⟩ := dx.get hx
    rw [List.getElem?_map] at he
    obtain ⟨r, hr, rfl⟩ := Option.map_eq_some_iff.mp he
    obtain ⟨rin, rl, rk⟩ := rR r (List.mem_of_getElem? hr)
    obtain ⟨a, rfl, ha⟩ := rows_ref hde
    have ilt := (List.getElem?_eq_some_iff.mp hr).1
    have step := nl_step (T := T) (W := W) hr
    obtain ⟨Yi, eYi⟩ := nl_ext T R W i
    have rki : r ∈ (nl T R W i).map (·.1) := nl_sub rk i
    have len_i := nl_len T R W i
    have small : i * T.length ≤ 3200 := Nat.le_trans (Nat.mul_le_mul (show i ≤ 400 by omega) lT) (by decide)
    rcases hlt with (hlt | hlt) | hlt
    · refine .inl ⟨_, rfl, t, ts, rfl, .of (s2.hh _ _ (ntd (.inl hlt)) hlt), for_enumL (K := K) (a := t) (xs := ts) (fun j σ' H' => ∃ (G' : Hp) (kvs' : List (List L2.Key × V)) (ys : List V) (y5 y6 y7 : Option V), σ' = [some (.ref l), some (.ref t), some (.ref d), some (.ref f), some (.ref a), y5, y6, y7] ∧ Stp d G H G' H' ∧ G' f = none ∧ H' f = some (.lst ys) ∧ H' d = some (.dT kvs') ∧
        Wds G' kvs' (nl1 T r (nl T R W i) j) ∧ DaAll G' ys ((fnd W (nl1 T r (nl T R W i) j)).map rowD)) ?_ ?_ ?_ ?_⟩
      · exact ⟨G2, kvs2, ys, y5, y6, y7, rfl, s2, gf2, hf2, hd2, wk2, dy2⟩
      · rintro j σ' H' - ⟨G', kvs', ys, y5, y6, y7, rfl, s3, -⟩
        exact .of (s3.hh _ _ (ntd (.inl hlt)) hlt)
      · rintro j x T_ σ' H3 H4 hxj ⟨G3, kvs3, ys3, y5, y6, y7, rfl, s3, gf3, hf3, hd3, wk3, dy3⟩ nT
        obtain ⟨e, he, hdm⟩ := dt.get hxj
        rw [List.getElem?_map] at he
        obtain ⟨m, hm, rfl⟩ := Option.map_eq_some_iff.mp he
        obtain ⟨b, rfl, hb⟩ := rows_ref hdm
        have mvm := mvT m (List.mem_of_getElem? hm)
        have jlt := (List.getElem?_eq_some_iff.mp hm).1
        have stepj := nl1_step (r := r) (W := nl T R W i) hm
        obtain ⟨Yj, eYj⟩ := nl1_ext T r (nl T R W i) j
        have len_j := nl1_len T r (nl T R W i) j
        have extj : ∃ Y, nl1 T r (nl T R W i) j = W ++ Y := ⟨Yi ++ Yj, by rw [eYj, eYi, List.append_assoc]⟩
        have lyj : ys3.length ≤ 4000 := by
          have h1 := dy3.length
          have h2 := fnd_len extj
          rw [List.length_map] at h1
          omega
        have lkj : kvs3.length ≤ 4000 := by
          have := Paired.length wk3
          omega
        have s4 : Stp d G H G3 H4 := s3.q (Stq.refl s3.gh |>.loc2 nT).1
        refine ⟨T_, _, rfl, .of nT.at, rfl, _, _, rfl, _, _, rfl, rfl, ?_⟩
        refine ⟨_, rfl, _, rfl, G3, b, a, m, r, n, rfl, s4.gh, s3.gg _ _ hb, s3.gg _ _ ha, mvm, rin, by omega, fun p G5 H5 s5 hp => ?_⟩
        have S5 := s4.q s5
        have gd5 : G5 d = none := S5.gd gd hd
        have hf5 : H5 f = some (.lst ys3) := s5.hh _ _ (nT.else hf3)
        have hd5 : H5 d = some (.dT kvs3) := s5.hh _ _ (nT.else hd3)
        have gf5 : G5 f = none := s5.nw2 (nT.else hf3) gf3
        have wk5 := wk3.up s5.gg
        have dy5 := dy3.up s5.gg
        have hp5 : H5 p = some (.tup ((keyL (aft r m)).map kV)) := by rw [keyL_kV]; exact s5.gh _ _ hp
        refine ⟨_, rfl, _, rfl, d, _, rfl, DGet.t hd5 hp5, _, rfl, ?_⟩
        by_cases c : aft r m ∈ (nl1 T r (nl T R W i) j).map (·.1)
        · obtain ⟨v, hv, -⟩ := wk5.some c
          rw [hv]
          have e : put1 r (lookW (nl T R W i) r) m j (nl1 T r (nl T R W i) j) = nl1 T r (nl T R W i) j := by unfold put1; rw [if_pos c]
          refine iteF ⟨G5, kvs3, ys3, _, _, _, rfl, S5, gf5, hf5, hd5, ?_, ?_⟩
          · rw [stepj, e]; exact wk5
          · rw [stepj, e]; exact dy5
        · rw [wk5.none c]
          have rkj : r ∈ (nl1 T r (nl T R W i) j).map (·.1) := nl1_sub rki j
          obtain ⟨v, hv, dv⟩ := wk5.some rkj
          have ew : lookW (nl1 T r (nl T R W i) j) r = lookW (nl T R W i) r := by rw [eYj]; exact look_ext rki
          have ew2 : lookW (nl T R W i) r = lookW W r := by rw [eYi]; exact look_ext rk
          rw [ew] at dv
          obtain ⟨w0, rfl, hw0⟩ := rows_ref dv
          have lw := lwd _ (look_mem rk)
          have ha5 : H5 a = some (.tup ((keyL r).map kV)) := by rw [keyL_kV]; exact S5.gh _ _ (S5.gg _ _ ha)
          refine iteT ⟨_, rfl, _, rfl, d, _, rfl, DGet.t hd5 ha5 |> (hv ▸ ·), _, rfl, Nat.succ_le_of_lt (Nat.lt_of_lt_of_le (show 0 < 2 by decide) (by decide)), fun q0 H6 n6 => ?_⟩
          obtain ⟨G6, s6, g6, k6, -⟩ := (Stq.refl s5.gh).know2 n6
          refine cat_row (ws := lookW (nl T R W i) r) (i := ((j : Nat) : Int)) s6.gh (s6.gg _ _ hw0) k6 (by rw [ew2]; exact Nat.le_trans lw (by decide)) fun p7 G7 H7 s7 k7 => ?_
          have S7 := S5.q (s6.trans s7)
          have hd7 : H7 d = some (.dT kvs3) := (s6.trans s7).hh _ _ hd5
          have hf7 : H7 f = some (.lst ys3) := (s6.trans s7).hh _ _ hf5
          have hp7 : H7 p = some (.tup ((keyL (aft r m)).map kV)) := (s6.trans s7).hh _ _ hp5
          have gd7 : G7 d = none := S7.gd gd hd
          have gf7 : G7 f = none := (s6.trans s7).nw2 hf5 gf5
          refine ⟨_, rfl, _, rfl, d, _, rfl, DPut.t hd7 hp7 (Nat.lt_of_le_of_lt lkj (by decide)), ?_⟩
          have S8 := S7.putS gd7 rfl (o := .dT (putK kvs3 (keyL (aft r m)) (.ref p7))) rfl
          have hf8 : upd H7 d (.dT (putK kvs3 (keyL (aft r m)) (.ref p7))) f = some (.lst ys3) := by rw [upd_ne nfd]; exact hf7
          refine ⟨_, rfl, .inl ⟨rfl, _, .of hf8⟩, _, rfl, f, _, _, rfl, rfl, hf8, Nat.lt_of_le_of_lt lyj (by decide), fun H9 e9 => ?_⟩
          have S9 := S8.mut gf7 ff e9
          have wk7 := wk5.up (s6.trans s7).gg
          have dy7 := dy5.up (s6.trans s7).gg
          have en : put1 r (lookW (nl T R W i) r) m j (nl1 T r (nl T R W i) j) = nl1 T r (nl T R W i) j ++ [(aft r m, lookW (nl T R W i) r ++ [((j : Nat) : Int)])] := by unfold put1; rw [if_neg c]
          refine ⟨G7, _, _, _, _, _, rfl, S9, gf7, upd_at e9, upd_else e9 upd_same (Ne.symm nfd), ?_, ?_⟩
          · rw [stepj, en, putK_new _ (wk5.none c)]
            exact wk7.app (.tup k7 (DaAll.ints _))
          · rw [stepj, put1_fnd extj c, List.map_append]
            exact dy7.append (.one (.tup ((s6.trans s7).gg _ _ hp) (DaAll.ints _)))
      · rintro σ' H3 ⟨G3, kvs3, ys3, y5, y6, y7, rfl, s3, gf3, hf3, hd3, wk3, dy3⟩
        rw [lt'] at wk3 dy3
        exact ⟨G3, kvs3, ys3, _, _, _, _, rfl, s3, gf3, hf3, hd3, by rw [step]; exact wk3, by rw [step]; exact dy3⟩
    · refine .inr ⟨_, rfl, t, ts, rfl, .of (s2.hh _ _ (ntd (.inr hlt)) hlt), for_enumT (K := K) (a := t) (xs := ts) (fun j σ' H' => ∃ (G' : Hp) (kvs' : List (List L2.Key × V)) (ys : List V) (y5 y6 y7 : Option V), σ' = [some (.ref l), some (.ref t), some (.ref d), some (.ref f), some (.ref a), y5, y6, y7] ∧ Stp d G H G' H' ∧ G' f = none ∧ H' f = some (.lst ys) ∧ H' d = some (.dT kvs') ∧
        Wds G' kvs' (nl1 T r (nl T R W i) j) ∧ DaAll G' ys ((fnd W (nl1 T r (nl T R W i) j)).map rowD)) ?_ ?_ ?_ ?_⟩
      · exact ⟨G2, kvs2, ys, y5, y6, y7, rfl, s2, gf2, hf2, hd2, wk2, dy2⟩
      · rintro j σ' H' - ⟨G', kvs', ys, y5, y6, y7, rfl, s3, -⟩
        exact .of (s3.hh _ _ (ntd (.inr hlt)) hlt)
      · rintro j x T_ σ' H3 H4 hxj ⟨G3, kvs3, ys3, y5, y6, y7, rfl, s3, gf3, hf3, hd3, wk3, dy3⟩ nT
        obtain ⟨e, he, hdm⟩ := dt.get hxj
        rw [List.getElem?_map] at he
        obtain ⟨m, hm, rfl⟩ := Option.map_eq_some_iff.mp he
        obtain ⟨b, rfl, hb⟩ := rows_ref hdm
        have mvm := mvT m (List.mem_of_getElem? hm)
        have jlt := (List.getElem?_eq_some_iff.mp hm).1
        have stepj := nl1_step (r := r) (W := nl T R W i) hm
        obtain ⟨Yj, eYj⟩ := nl1_ext T r (nl T R W i) j
        have len_j := nl1_len T r (nl T R W i) j
        have extj : ∃ Y, nl1 T r (nl T R W i) j = W ++ Y := ⟨Yi ++ Yj, by rw [eYj, eYi, List.append_assoc]⟩
        have lyj : ys3.length ≤ 4000 := by
          have h1 := dy3.length
          have h2 := fnd_len extj
          rw [List.length_map] at h1
          omega
        have lkj : kvs3.length ≤ 4000 := by
          have := Paired.length wk3
          omega
        have s4 : Stp d G H G3 H4 := s3.q (Stq.refl s3.gh |>.loc2 nT).1
        refine ⟨T_, _, rfl, .of nT.at, rfl, _, _, rfl, _, _, rfl, rfl, ?_⟩
        refine ⟨_, rfl, _, rfl, G3, b, a, m, r, n, rfl, s4.gh, s3.gg _ _ hb, s3.gg _ _ ha, mvm, rin, by omega, fun p G5 H5 s5 hp => ?_⟩
        have S5 := s4.q s5
        have gd5 : G5 d = none := S5.gd gd hd
        have hf5 : H5 f = some (.lst ys3) := s5.hh _ _ (nT.else hf3)
        have hd5 : H5 d = some (.dT kvs3) := s5.hh _ _ (nT.else hd3)
        have gf5 : G5 f = none := s5.nw2 (nT.else hf3) gf3
        have wk5 := wk3.up s5.gg
        have dy5 := dy3.up s5.gg
        have hp5 : H5 p = some (.tup ((keyL (aft r m)).map kV)) := by rw [keyL_kV]; exact s5.gh _ _ hp
        refine ⟨_, rfl, _, rfl, d, _, rfl, DGet.t hd5 hp5, _, rfl, ?_⟩
        by_cases c : aft r m ∈ (nl1 T r (nl T R W i) j).map (·.1)
        · obtain ⟨v, hv, -⟩ := wk5.some c
          rw [hv]
          have e : put1 r (lookW (nl T R W i) r) m j (nl1 T r (nl T R W i) j) = nl1 T r (nl T R W i) j := by unfold put1; rw [if_pos c]
          refine iteF ⟨G5, kvs3, ys3, _, _, _, rfl, S5, gf5, hf5, hd5, ?_, ?_⟩
          · rw [stepj, e]; exact wk5
          · rw [stepj, e]; exact dy5
        · rw [wk5.none c]
          have rkj : r ∈ (nl1 T r (nl T R W i) j).map (·.1) := nl1_sub rki j
          obtain ⟨v, hv, dv⟩ := wk5.some rkj
          have ew : lookW (nl1 T r (nl T R W i) j) r = lookW (nl T R W i) r := by rw [eYj]; exact look_ext rki
          have ew2 : lookW (nl T R W i) r = lookW W r := by rw [eYi]; exact look_ext rk
          rw [ew] at dv
          obtain ⟨w0, rfl, hw0⟩ := rows_ref dv
          have lw := lwd _ (look_mem rk)
          have ha5 : H5 a = some (.tup ((keyL r).map kV)) := by rw [keyL_kV]; exact S5.gh _ _ (S5.gg _ _ ha)
          refine iteT ⟨_, rfl, _, rfl, d, _, rfl, DGet.t hd5 ha5 |> (hv ▸ ·), _, rfl, Nat.succ_le_of_lt (Nat.lt_of_lt_of_le (show 0 < 2 by decide) (by decide)), fun q0 H6 n6 => ?_⟩
          obtain ⟨G6, s6, g6, k6, -⟩ := (Stq.refl s5.gh).know2 n6
          refine cat_row (ws := lookW (nl T R W i) r) (i := ((j : Nat) : Int)) s6.gh (s6.gg _ _ hw0) k6 (by rw [ew2]; exact Nat.le_trans lw (by decide)) fun p7 G7 H7 s7 k7 => ?_
          have S7 := S5.q (s6.trans s7)
          have hd7 : H7 d = some (.dT kvs3) := (s6.trans s7).hh _ _ hd5
          have hf7 : H7 f = some (.lst ys3) := (s6.trans s7).hh _ _ hf5
          have hp7 : H7 p = some (.tup ((keyL (aft r m)).map kV)) := (s6.trans s7).hh _ _ hp5
          have gd7 : G7 d = none := S7.gd gd hd
          have gf7 : G7 f = none := (s6.trans s7).nw2 hf5 gf5
          refine ⟨_, rfl, _, rfl, d, _, rfl, DPut.t hd7 hp7 (Nat.lt_of_le_of_lt lkj (by decide)), ?_⟩
          have S8 := S7.putS gd7 rfl (o := .dT (putK kvs3 (keyL (aft r m)) (.ref p7))) rfl
          have hf8 : upd H7 d (.dT (putK kvs3 (keyL (aft r m)) (.ref p7))) f = some (.lst ys3) := by rw [upd_ne nfd]; exact hf7
          refine ⟨_, rfl, .inl ⟨rfl, _, .of hf8⟩, _, rfl, f, _, _, rfl, rfl, hf8, Nat.lt_of_le_of_lt lyj (by decide), fun H9 e9 => ?_⟩
          have S9 := S8.mut gf7 ff e9
          have wk7 := wk5.up (s6.trans s7).gg
          have dy7 := dy5.up (s6.trans s7).gg
          have en : put1 r (lookW (nl T R W i) r) m j (nl1 T r (nl T R W i) j) = nl1 T r (nl T R W i) j ++ [(aft r m, lookW (nl T R W i) r ++ [((j : Nat) : Int)])] := by unfold put1; rw [if_neg c]
          refine ⟨G7, _, _, _, _, _, rfl, S9, gf7, upd_at e9, upd_else e9 upd_same (Ne.symm nfd), ?_, ?_⟩
          · rw [stepj, en, putK_new _ (wk5.none c)]
            exact wk7.app (.tup k7 (DaAll.ints _))
          · rw [stepj, put1_fnd extj c, List.map_append]
            exact dy7.append (.one (.tup ((s6.trans s7).gg _ _ hp) (DaAll.ints _)))
      · rintro σ' H3 ⟨G3, kvs3, ys3, y5, y6, y7, rfl, s3, gf3, hf3, hd3, wk3, dy3⟩
        rw [lt'] at wk3 dy3
        exact ⟨G3, kvs3, ys3, _, _, _, _, rfl, s3, gf3, hf3, hd3, by rw [step]; exact wk3, by rw [step]; exact dy3⟩
    · refine .inr ⟨_, rfl, t, ts, rfl, .inr hlt, for_enumT (K := K) (a := t) (xs := ts) (fun j σ' H' => ∃ (G' : Hp) (kvs' : List (List L2.Key × V)) (ys : List V) (y5 y6 y7 : Option V), σ' = [some (.ref l), some (.ref t), some (.ref d), some (.ref f), some (.ref a), y5, y6, y7] ∧ Stp d G H G' H' ∧ G' f = none ∧ H' f = some (.lst ys) ∧ H' d = some (.dT kvs') ∧
        Wds G' kvs' (nl1 T r (nl T R W i) j) ∧ DaAll G' ys ((fnd W (nl1 T r (nl T R W i) j)).map rowD)) ?_ ?_ ?_ ?_⟩
      · exact ⟨G2, kvs2, ys, y5, y6, y7, rfl, s2, gf2, hf2, hd2, wk2, dy2⟩
      · rintro j σ' H' - ⟨G', kvs', ys, y5, y6, y7, rfl, s3, -⟩
        exact .inr hlt
      · rintro j x T_ σ' H3 H4 hxj ⟨G3, kvs3, ys3, y5, y6, y7, rfl, s3, gf3, hf3, hd3, wk3, dy3⟩ nT
        obtain ⟨e, he, hdm⟩ := dt.get hxj
        rw [List.getElem?_map] at he
        obtain ⟨m, hm, rfl⟩ := Option.map_eq_some_iff.mp he
        obtain ⟨b, rfl, hb⟩ := rows_ref hdm
        have mvm := mvT m (List.mem_of_getElem? hm)
        have jlt := (List.getElem?_eq_some_iff.mp hm).1
        have stepj := nl1_step (r := r) (W := nl T R W i) hm
        obtain ⟨Yj, eYj⟩ := nl1_ext T r (nl T R W i) j
        have len_j := nl1_len T r (nl T R W i) j
        have extj : ∃ Y, nl1 T r (nl T R W i) j = W ++ Y := ⟨Yi ++ Yj, by rw [eYj, eYi, List.append_assoc]⟩
        have lyj : ys3.length ≤ 4000 := by
          have h1 := dy3.length
          have h2 := fnd_len extj
          rw [List.length_map] at h1
          omega
        have lkj : kvs3.length ≤ 4000 := by
          have := Paired.length wk3
          omega
        have s4 : Stp d G H G3 H4 := s3.q (Stq.refl s3.gh |>.loc2 nT).1
        refine ⟨T_, _, rfl, .of nT.at, rfl, _, _, rfl, _, _, rfl, rfl, ?_⟩
        refine ⟨_, rfl, _, rfl, G3, b, a, m, r, n, rfl, s4.gh, s3.gg _ _ hb, s3.gg _ _ ha, mvm, rin, by omega, fun p G5 H5 s5 hp => ?_⟩
        have S5 := s4.q s5
        have gd5 : G5 d = none := S5.gd gd hd
        have hf5 : H5 f = some (.lst ys3) := s5.hh _ _ (nT.else hf3)
        have hd5 : H5 d = some (.dT kvs3) := s5.hh _ _ (nT.else hd3)
        have gf5 : G5 f = none := s5.nw2 (nT.else hf3) gf3
        have wk5 := wk3.up s5.gg
        have dy5 := dy3.up s5.gg
        have hp5 : H5 p = some (.tup ((keyL (aft r m)).map kV)) := by rw [keyL_kV]; exact s5.gh _ _ hp
        refine ⟨_, rfl, _, rfl, d, _, rfl, DGet.t hd5 hp5, _, rfl, ?_⟩
        by_cases c : aft r m ∈ (nl1 T r (nl T R W i) j).map (·.1)
        · obtain ⟨v, hv, -⟩ := wk5.some c
          rw [hv]
          have e : put1 r (lookW (nl T R W i) r) m j (nl1 T r (nl T R W i) j) = nl1 T r (nl T R W i) j := by unfold put1; rw [if_pos c]
          refine iteF ⟨G5, kvs3, ys3, _, _, _, rfl, S5, gf5, hf5, hd5, ?_, ?_⟩
          · rw [stepj, e]; exact wk5
          · rw [stepj, e]; exact dy5
        · rw [wk5.none c]
          have rkj : r ∈ (nl1 T r (nl T R W i) j).map (·.1) := nl1_sub rki j
          obtain ⟨v, hv, dv⟩ := wk5.some rkj
          have ew : lookW (nl1 T r (nl T R W i) j) r = lookW (nl T R W i) r := by rw [eYj]; exact look_ext rki
          have ew2 : lookW (nl T R W i) r = lookW W r := by rw [eYi]; exact look_ext rk
          rw [ew] at dv
          obtain ⟨w0, rfl, hw0⟩ := rows_ref dv
          have lw := lwd _ (look_mem rk)
          have ha5 : H5 a = some (.tup ((keyL r).map kV)) := by rw [keyL_kV]; exact S5.gh _ _ (S5.gg _ _ ha)
          refine iteT ⟨_, rfl, _, rfl, d, _, rfl, DGet.t hd5 ha5 |> (hv ▸ ·), _, rfl, Nat.succ_le_of_lt (Nat.lt_of_lt_of_le (show 0 < 2 by decide) (by decide)), fun q0 H6 n6 => ?_⟩
          obtain ⟨G6, s6, g6, k6, -⟩ := (Stq.refl s5.gh).know2 n6
          refine cat_row (ws := lookW (nl T R W i) r) (i := ((j : Nat) : Int)) s6.gh (s6.gg _ _ hw0) k6 (by rw [ew2]; exact Nat.le_trans lw (by decide)) fun p7 G7 H7 s7 k7 => ?_
          have S7 := S5.q (s6.trans s7)
          have hd7 : H7 d = some (.dT kvs3) := (s6.trans s7).hh _ _ hd5
          have hf7 : H7 f = some (.lst ys3) := (s6.trans s7).hh _ _ hf5
          have hp7 : H7 p = some (.tup ((keyL (aft r m)).map kV)) := (s6.trans s7).hh _ _ hp5
          have gd7 : G7 d = none := S7.gd gd hd
          have gf7 : G7 f = none := (s6.trans s7).nw2 hf5 gf5
          refine ⟨_, rfl, _, rfl, d, _, rfl, DPut.t hd7 hp7 (Nat.lt_of_le_of_lt lkj (by decide)), ?_⟩
          have S8 := S7.putS gd7 rfl (o := .dT (putK kvs3 (keyL (aft r m)) (.ref p7))) rfl
          have hf8 : upd H7 d (.dT (putK kvs3 (keyL (aft r m)) (.ref p7))) f = some (.lst ys3) := by rw [upd_ne nfd]; exact hf7
          refine ⟨_, rfl, .inl ⟨rfl, _, .of hf8⟩, _, rfl, f, _, _, rfl, rfl, hf8, Nat.lt_of_le_of_lt lyj (by decide), fun H9 e9 => ?_⟩
          have S9 := S8.mut gf7 ff e9
          have wk7 := wk5.up (s6.trans s7).gg
          have dy7 := dy5.up (s6.trans s7).gg
          have en : put1 r (lookW (nl T R W i) r) m j (nl1 T r (nl T R W i) j) = nl1 T r (nl T R W i) j ++ [(aft r m, lookW (nl T R W i) r ++ [((j : Nat) : Int)])] := by unfold put1; rw [if_neg c]
          refine ⟨G7, _, _, _, _, _, rfl, S9, gf7, upd_at e9, upd_else e9 upd_same (Ne.symm nfd), ?_, ?_⟩
          · rw [stepj, en, putK_new _ (wk5.none c)]
            exact wk7.app (.tup k7 (DaAll.ints _))
          · rw [stepj, put1_fnd extj c, List.map_append]
            exact dy7.append (.one (.tup ((s6.trans s7).gg _ _ hp) (DaAll.ints _)))
      · rintro σ' H3 ⟨G3, kvs3, ys3, y5, y6, y7, rfl, s3, gf3, hf3, hd3, wk3, dy3⟩
        rw [lt'] at wk3 dy3
        exact ⟨G3, kvs3, ys3, _, _, _, _, rfl, s3, gf3, hf3, hd3, by rw [step]; exact wk3, by rw [step]; exact dy3⟩
  · rintro σ' H2 ⟨G2, kvs2, ys, y4, y5, y6, y7, rfl, s2, gf2, hf2, hd2, wk2, dy2⟩
    rw [lx] at wk2 dy2
    exact ⟨_, rfl, q f G2 H2 kvs2 ys s2 ff gf2 hf2 hd2 wk2 dy2⟩


def spBest (K : PySem.W.Frag) (DT : Addr) : Sp := fun vs H Q E => ∃ (G : Hp) (a t : Addr) (r : List Int) (ts : List V) (T : List (List Int)) (n : Int), vs = [.ref a, .ref t] ∧ Same G H ∧ G a = some (.tup (r.map V.int)) ∧ HasS K H t ts ∧ DaAll G ts (T.map rowD) ∧ AllMv n T ∧ T.length ≤ 8 ∧ RowIn n r ∧ r.length ≤ 100 ∧
  (∀ (d : Addr) (G' H' : Hp) (kvs : List (List L2.Key × V)) (W : WL) (k : Nat), Stq G H G' H' → H d = none → G' d = none → H' d = some (.dT kvs) → Wds G' kvs W → lay T r k = (W, []) → (∀ j, j < k → (lay T r j).2 ≠ []) → W.length ≤ 400 → Q (.ref d) H') ∧
  ((∀ L : List (List Int), (∀ w, Rch T r w → w ∈ L) → 400 < L.length) → Errs E DT [(("limit" : Str), .int 400), (("what" : Str), .str "made")] H)
theorem ok_best {DT : Addr} (Z : Zs mg) (D : Ds K mg) (m_TooMany : Xm P w K mg base "TooMany" DT ["what", "limit"]) (c__next_layer : Cal P w K mg base "_next_layer" 2 ["layer", "told", "words"] (spNext K)) : CalX P w K mg base "best_words" 3 ["row", "told"] (spBest K DT) := by
  refine Def.calX D.d_best_words sc_best_words (fun vs H Q E h => ?_) (fun f cdv A outer s H vs Q E hr h => ?_)
  · obtain ⟨G, a, t, r, ts, T, n, rfl, gh, ha, hlt, dt, mvT, lT, rin, rl, q1, q2⟩ := h
    rfl
  obtain ⟨G, a, t, r, ts, T, n, rfl, gh, ha, hlt, dt, mvT, lT, rin, rl, q1, q2⟩ := h
  refine ⟨_, (pss_cons (ps_set (i := 2) sc_best_words.nd rfl (Or.inl rfl) (pe_dispT1 (hu_of hr) (pv 0) (pe_tupN pa_nil)))
      (pss_cons (ps_set (i := 3) sc_best_words.nd rfl (Or.inl rfl) (pe_lstN (pa_cons (pv 0) pa_nil)))
      (pss_cons (ps_while (passes_of rfl) (pt_truth (pv 3) (by intro _; rfl)) (pss_cons (ps_set (i := 3) sc_best_words.nd rfl (Or.inl rfl) (pe_cal c__next_layer (hr.mono (by first | decide | omega)) (by rfl) (pa_cons (pv 3) (pa_cons (pv 1) (pa_cons (pv 2) pa_nil)))))
      (pss_one (ps_if (pt_cmp (pc_gt (pe_callB call_len_dT (by rfl) Z.z_len (by decide +kernel) (pa_cons (pv 2) pa_nil)) (pe_globI (by rfl) Z.c_MOST_MADE)) (nomark _)) (pss_one (L2N.ps_raise rfl (L2N.takes_of rfl rfl rfl rfl) (pmk_x m_TooMany (hr.mono (by first | decide | omega)) (by rfl) (pa_cons pe_str (pa_cons (pe_globI (by rfl) Z.c_MOST_MADE) pa_nil))))) pss_nil))))
      (pss_one (ps_ret (pv 2)))))), ?_⟩
  have haH := gh _ _ ha
  refine fun d hd => ⟨_, rfl, Nat.zero_le _, fun e H2 n2 => ?_⟩
  obtain ⟨s1, gd, h1, fd⟩ := (Stq.refl gh).loc2 (p := d) (o := .dT []) ⟨hd, rfl⟩
  obtain ⟨G2, s2, g2, k2, o2⟩ := s1.know2 n2
  have ne_de : d ≠ e := fun z => by have := n2.fr; rw [← z, upd_same] at this; cases this
  have gd2 : G2 d = none := by rw [o2 d ne_de]; exact gd
  have ha2 : H2 a = some (.tup ((keyL r).map kV)) := by rw [keyL_kV]; exact s2.gh _ _ (g2 _ _ ha)
  refine ⟨n2.else h1, a, keyL r, rfl, ha2, ?_⟩
  have s3 := s2.mut gd2 fd (o := .dT [(keyL r, V.ref e)]) rfl
  have hd3 : upd H2 d (.dT [(keyL r, V.ref e)]) d = some (.dT [(keyL r, V.ref e)]) := upd_same
  generalize upd H2 d (.dT [(keyL r, V.ref e)]) = H3 at s3 hd3 ⊢
  refine ⟨_, rfl, Nat.succ_le_of_lt (Nat.lt_of_lt_of_le (show 0 < 2 by decide) (by decide)), fun l H4 n4 => ?_⟩
  obtain ⟨s4, gl, hl, fl⟩ := s3.loc2 n4
  have hd4 := n4.else hd3
  have wk0 : Wds G2 [(keyL r, V.ref e)] (lay T r 0).1 := .cons ⟨rfl, .tup k2 .nil⟩ .nil
  have dl0 : DaAll G2 [V.ref a] ((lay T r 0).2.map rowD) := .cons (.tup (g2 _ _ ha) (DaAll.ints r)) .nil
  refine ⟨fun m σ' H' => ∃ (k : Nat) (G' : Hp) (l : Addr) (kvs : List (List L2.Key × V)) (xs : List V), m = 2 * (401 - (lay T r k).1.length) + (if (lay T r k).2 = [] then 0 else 1) ∧ σ' = [some (.ref a), some (.ref t), some (.ref d), some (.ref l)] ∧ Stq G H G' H' ∧ G' d = none ∧ H' d = some (.dT kvs) ∧ Wds G' kvs (lay T r k).1 ∧
    H' l = some (.lst xs) ∧ DaAll G' xs ((lay T r k).2.map rowD) ∧ (lay T r k).1.length ≤ 400 ∧ ∀ j, j < k → (lay T r j).2 ≠ [], ⟨_, 0, G2, l, _, _, rfl, rfl, s4, gd2, hd4, wk0, hl, dl0, by show 1 ≤ 400; decide, fun j hj => absurd hj (Nat.not_lt_zero j)⟩, ?_⟩
  rintro m σ' H5 ⟨k, G5, l, kvs, xs, rfl, rfl, s5, gd5, hd5, wk5, hl5, dl5, l400, prev⟩
  have I := lay_ok T r k prev
  have lx := dl5.length
  rw [List.length_map] at lx
  refine ⟨_, rfl, !xs.isEmpty, .inl ⟨xs, .of hl5, rfl⟩, ?_⟩
  by_cases c : (lay T r k).2 = []
  · have : xs = [] := List.eq_nil_of_length_eq_zero (by rw [lx, c]; rfl)
    subst this
    refine iteF ⟨_, rfl, ?_⟩
    exact q1 d G5 H5 kvs (lay T r k).1 k s5 hd gd5 hd5 wk5 (Prod.ext rfl c) prev l400
  · have nx : xs.isEmpty = false := by
      cases xs with
      | nil => exact absurd (List.eq_nil_of_length_eq_zero lx.symm) c
      | cons _ _ => rfl
    rw [nx]
    refine iteT ⟨fun σ' H' => ∃ m', m' < 2 * (401 - (lay T r k).1.length) + (if (lay T r k).2 = [] then 0 else 1) ∧ ∃ (k : Nat) (G' : Hp) (l : Addr) (kvs : List (List L2.Key × V)) (xs : List V), m' = 2 * (401 - (lay T r k).1.length) + (if (lay T r k).2 = [] then 0 else 1) ∧ σ' = [some (.ref a), some (.ref t), some (.ref d), some (.ref l)] ∧ Stq G H G' H' ∧ G' d = none ∧ H' d = some (.dT kvs) ∧ Wds G' kvs (lay T r k).1 ∧
      H' l = some (.lst xs) ∧ DaAll G' xs ((lay T r k).2.map rowD) ∧ (lay T r k).1.length ≤ 400 ∧ ∀ j, j < k → (lay T r j).2 ≠ [], fun σ' H' z => z, ?_⟩
    rw [if_neg c]
    have kk := I.kL c
    have hlt5 : HasS K H5 t ts := HasS.up s5.hh hlt
    refine ⟨_, rfl, _, rfl, _, rfl, G5, l, t, d, xs, ts, (lay T r k).2, T, n, kvs, (lay T r k).1, rfl, s5.gh, hl5, dl5, hlt5, dt.up s5.gg, mvT, lT, Nat.le_trans I.lL l400, fun x hx => ?_, gd5, hd5, wk5, l400, fun p hp => Nat.le_trans (I.wl p hp) (by omega), fun f G6 H6 kvs6 ys s6 ff gf hf6 hd6 wk6 dy6 => ?_⟩
    · have := (I.rch x (I.sub x hx)).row mvT rin
      exact ⟨this.1, by omega, I.sub x hx⟩
    have S6 := s5.stp s6 hd
    have gd6 : G6 d = none := s6.gd gd5 hd5
    have next : lay T r (k + 1) = (nl T (lay T r k).2 (lay T r k).1 (lay T r k).2.length, fnd (lay T r k).1 (nl T (lay T r k).2 (lay T r k).1 (lay T r k).2.length)) := rfl
    have ln := fnd_len (nl_ext T (lay T r k).2 (lay T r k).1 (lay T r k).2.length)
    have prev' : ∀ j, j < k + 1 → (lay T r j).2 ≠ [] := fun j hj => by
      rcases Nat.lt_or_ge j k with z | z
      · exact prev j z
      · have : j = k := by omega
        subst this
        exact c
    have wkl := Paired.length wk6
    refine ⟨_, rfl, d, _, rfl, hd6, _, _, rfl, rfl, _, rfl, ite2 (fun c2 => ?_) (fun c2 => ?_)⟩
    · have c2 : 400 < ((kvs6.length : Nat) : Int) := dec_of c2
      refine ini_end rfl (by show 2 ≤ 1000; decide) fun dd hdd => q2 (fun L hL => ?_) dd _ (S6.hh.trans (same_put (Same.refl _) hdd)) upd_same
      have I2 := lay_ok T r (k + 1) prev'
      have := len_sub I2.nd fun w hw => hL w (I2.rch w hw)
      rw [List.length_map, next] at this
      show 400 < L.length
      have e : (nl T (lay T r k).2 (lay T r k).1 (lay T r k).2.length).length ≤ L.length := this
      omega
    · have c2 : ¬ 400 < ((kvs6.length : Nat) : Int) := dec_not c2
      refine ⟨_, ?_, k + 1, G6, f, kvs6, ys, rfl, rfl, S6, gd6, hd6, wk6, hf6, dy6, ?_, prev'⟩
      · rw [next]
        show 2 * (401 - (nl T (lay T r k).2 (lay T r k).1 (lay T r k).2.length).length) + (if fnd (lay T r k).1 (nl T (lay T r k).2 (lay T r k).1 (lay T r k).2.length) = [] then 0 else 1) < _
        by_cases z : fnd (lay T r k).1 (nl T (lay T r k).2 (lay T r k).1 (lay T r k).2.length) = []
        · rw [if_pos z]
          omega
        · rw [if_neg z]
          have := List.length_pos_iff.mpr z
          omega
      · rw [next]
        show (nl T (lay T r k).2 (lay T r k).1 (lay T r k).2.length).length ≤ 400
        omega


def numErr (E : XK) (DB : Addr) (v : V) (H : Hp) : Prop := Errs E DB [(("high" : Str), .int 12), (("low" : Str), .int 0), (("value" : Str), v)] H
/-- what comes of points and told moves that are good -/
def MadeTo (G H : Hp) (n : Int) (T : List (List Int)) (DT : Addr) (Q : Addr → Hp → Prop) (E : XK) : Prop :=
  (∀ (p : Addr) (G' H' : Hp) (ys : List V) (L : List (List Int)), Stq G H G' H' → H p = none → G' p = none → H' p = some (.lst ys) → DaAll G' ys (L.map rowD) → Grp n T L → L.length ≤ 400 → Q p H') ∧
  ((∀ L : List (List Int), (∀ w, Mk' n T w → w ∈ L) → 400 < L.length) → Errs E DT [(("limit" : Str), .int 400), (("what" : Str), .str "made")] H)
/-- points, told moves: refused in this order, or good -/
def Judge (G H : Hp) (v : V) (dv : PyData) (ds : List PyData) (DB DN DT : Addr) (good : Int → List (List Int) → Prop) (E : XK) : Prop :=
  (isNum dv 0 12 = false → numErr E DB v H) ∧
  ∀ n : Int, dv = .int n → v = .int n → 0 ≤ n → n ≤ 12 → (8 < ds.length → Errs E DT [(("limit" : Str), .int 8), (("what" : Str), .str "told")] H) ∧ (ds.length ≤ 8 → ∀ i : Nat, badAt n ds i → Errs E DN [(("index" : Str), .int i)] H) ∧
    (ds.length ≤ 8 → ∀ T : List (List Int), ds = T.map rowD → AllMv n T → good n T)
def spMakeAll (K : PySem.W.Frag) (DB DN DT : Addr) : Sp := fun vs H Q E => ∃ (G : Hp) (v : V) (dv : PyData) (a : Addr) (xs : List V) (ds : List PyData), vs = [v, .ref a] ∧ Same G H ∧ Da G v dv ∧ HasS K H a xs ∧ DaAll G xs ds ∧ szL ds ≤ 900000 ∧
  Judge G H v dv ds DB DN DT (fun n T => MadeTo G H n T DT (fun p H' => Q (.ref p) H') E) E
theorem ok_make_all {DB DN DT : Addr} (Z : Zs mg) (D : Ds K mg) (c_check_points : CalX P w K mg base "check_points" 4 ["value"] (spCheckPts DB)) (c_check_moves : CalX P w K mg base "check_moves" 4 ["points", "moves", "what", "limit"] (spCheckMoves K DN DT)) (c_still_move : CalX P w K mg base "still_move" 5 ["points"] (spStill DB)) (c_best_words : CalX P w K mg base "best_words" 3 ["row", "told"] (spBest K DT)) : CalX P w K mg base "make_all" 6 ["points", "moves"] (spMakeAll K DB DN DT) := by
  refine DefD.calX D.d_make_all sc_make_all (fun vs H Q E h => ?_) (fun f cdv A outer s H vs Q E hr h => ?_)
  · obtain ⟨G, v, dv, a, xs, ds, rfl, gh, dd, hl, dx, sz, j1, j2⟩ := h
    rfl
  obtain ⟨G, v, dv, a, xs, ds, rfl, gh, dd, hl, dx, sz, j1, j2⟩ := h
  refine ⟨_, (pss_cons (ps_expr (pe_calX c_check_points (L2N.takes_of rfl rfl rfl rfl) (hr.mono (by first | decide | omega)) (by rfl) (pa_cons (pv 0) pa_nil)))
      (pss_cons (ps_expr (pe_calX c_check_moves (L2N.takes_of rfl rfl rfl rfl) (hr.mono (by first | decide | omega)) (by rfl) (pa_cons (pv 0) (pa_cons (pv 1) (pa_cons pe_str (pa_cons (pe_globI (by rfl) Z.c_MOST_TOLD) pa_nil))))))
      (pss_one (ps_ret (pe_callB (call_sortDT (by rfl)) (by rfl) Z.z_sorted (by decide +kernel) (pa_cons (pe_calX c_best_words (L2N.takes_of rfl rfl rfl rfl) (hr.mono (by first | decide | omega)) (by rfl) (pa_cons (pe_calX c_still_move (L2N.takes_of rfl rfl rfl rfl) (hr.mono (by first | decide | omega)) (by rfl) (pa_cons (pv 0) pa_nil)) (pa_cons (pv 1) pa_nil))) pa_nil)))))), ?_⟩
  refine ⟨_, rfl, v, dv, rfl, dd.up gh, fun e => ?_, j1⟩
  obtain ⟨n, rfl, n0, n12⟩ := num_int e
  have ev : v = .int n := by cases dd; rfl
  subst ev
  obtain ⟨k1, k2, k3⟩ := j2 n rfl rfl n0 n12
  refine ⟨_, rfl, _, rfl, G, a, xs, ds, n, "told", 8, rfl, gh, hl, dx, sz, fun c => k1 (by omega), fun c i b => k2 (by omega) i b, fun c all_ H1 s1 => ?_⟩
  obtain ⟨T, rfl, mvT⟩ := all_rows all_
  rw [List.length_map] at c
  obtain ⟨m1, m2⟩ := k3 (by rw [List.length_map]; omega) T rfl mvT
  have S1 := (Stq.refl gh).pure s1
  refine ⟨_, rfl, n, rfl, n0, n12, fun p H2 n2 => ?_⟩
  obtain ⟨G2, S2, g2, k2', o2⟩ := S1.know2 n2
  have hl2 : HasS K H2 a xs := HasS.up n2.same (HasS.up s1 hl)
  refine ⟨_, rfl, G2, p, a, rngI n, xs, T, n, rfl, S2.gh, k2', hl2, dx.up g2, mvT, by omega, rng_mv.row, by rw [rngI_len]; omega, fun d G3 H3 kvs W k S3 fd gd3 hd3 wk hlay prev lW => ?_, fun h => (m2 h).up S2.hh⟩
  have I : LayOk T (rngI n) W [] k := by
    have := lay_ok T (rngI n) k prev
    rw [hlay] at this
    exact this
  have keys := lay_end I
  have S3' := S2.trans S3
  refine ⟨d, kvs, W.map (·.1), rfl, hd3, wk.keys, fun h2 l hl e => ?_, fun ys Ms q H4 dy pm so n4 => ?_⟩
  · subst e
    have := ((keys []).mp hl).row mvT rng_mv.row
    have z : (rngI n).length = 0 := this.2.symm
    rw [rngI_len] at z
    have all0 : ∀ w ∈ W.map (·.1), w ∈ [([] : List Int)] := fun w hw => by
      have := ((keys w).mp hw).row mvT rng_mv.row
      rw [rngI_len, z] at this
      rw [List.eq_nil_of_length_eq_zero this.2]
      exact List.mem_singleton.mpr rfl
    have := len_sub I.nd all0
    simp at this h2
    omega
  · obtain ⟨s4, gq, hq, fq⟩ := S3'.loc2 n4
    have dy4 := rows_full s4.gh (dy.up n4.same)
    have gq4 := full_else hq rfl gq
    have lM : Ms.length ≤ 400 := by
      have := pm.length_eq
      rw [List.length_map] at this
      omega
    exact m1 q (fullG G3 H4) H4 ys Ms s4.full fq gq4 hq dy4 (.of_perm I.nd keys pm so) lM
/-! ### worlds -/
def wf (ml : Addr) (n : Int) (tl : Addr) : List (Str × V) := putF "_told" (.ref tl) (putF "_points" (.int n) (putF "_made" (.ref ml) []))
theorem wf_eq (ml : Addr) (n : Int) (tl : Addr) : wf ml n tl = [(("_made" : Str), V.ref ml), (("_points" : Str), V.int n), (("_told" : Str), V.ref tl)] := by
  unfold wf
  show putF "_told" (.ref tl) (if ("_made" : Str) = "_points" then _ else _) = _
  rw [if_neg (by decide)]
  show (if ("_made" : Str) = "_told" then _ else (("_made" : Str), V.ref ml) :: (if ("_points" : Str) = "_told" then _ else _)) = _
  rw [if_neg (by decide), if_neg (by decide)]
  rfl
theorem wf_made (ml : Addr) (n : Int) (tl : Addr) : (wf ml n tl).lookup ("_made" : Str) = some (.ref ml) := by rw [wf_eq]; rfl
theorem wf_points (ml : Addr) (n : Int) (tl : Addr) : (wf ml n tl).lookup ("_points" : Str) = some (.int n) := by rw [wf_eq]; rfl
theorem wf_told (ml : Addr) (n : Int) (tl : Addr) : (wf ml n tl).lookup ("_told" : Str) = some (.ref tl) := by rw [wf_eq]; rfl
/-- a world stands at x -/
def WAt (C : Addr) (G : Hp) (x : Addr) (n : Int) (T L : List (List Int)) : Prop := ∃ (dx ml tl : Addr) (ms ts : List V), G x = some (.ins C dx (wf ml n tl)) ∧ G ml = some (.lst ms) ∧ DaAll G ms (L.map rowD) ∧ G tl = some (.lst ts) ∧ DaAll G ts (T.map rowD)
theorem WAt.up {C : Addr} {G G' : Hp} {x : Addr} {n : Int} {T L : List (List Int)} (h : WAt C G x n T L) (g : Same G G') : WAt C G' x n T L := by
  obtain ⟨dx, ml, tl, ms, ts, h1, h2, h3, h4, h5⟩ := h
  exact ⟨dx, ml, tl, ms, ts, g _ _ h1, g _ _ h2, h3.up g, g _ _ h4, h5.up g⟩
structure WOk (n : Int) (T L : List (List Int)) : Prop where
  n0 : 0 ≤ n
  n12 : n ≤ 12
  mv : AllMv n T
  lT : T.length ≤ 8
  lL : L.length ≤ 400
  grp : Grp n T L
/-- the object's own heap: what stood before it was made; x new -/
def spInit (K : PySem.W.Frag) (C DB DN DT : Addr) : Sp := fun vs H Q E => ∃ (G : Hp) (x dx : Addr) (v : V) (dv : PyData) (a : Addr) (xs : List V) (ds : List PyData), vs = [.ref x, v, .ref a] ∧ Same G H ∧ G x = none ∧ H x = some (.ins C dx []) ∧ Da G v dv ∧ HasS K H a xs ∧ DaAll G xs ds ∧ szL ds ≤ 900000 ∧
  Judge G H v dv ds DB DN DT (fun n T => (∀ (G' H' : Hp), Stp x G H G' H' → ∀ (ml tl : Addr) (ms ts : List V) (L : List (List Int)), G' x = none → H' x = some (.ins C dx (wf ml n tl)) → G' ml = some (.lst ms) → DaAll G' ms (L.map rowD) → G' tl = some (.lst ts) → DaAll G' ts (T.map rowD) → WOk n T L → Q .non H') ∧
    ((∀ L : List (List Int), (∀ w, Mk' n T w → w ∈ L) → 400 < L.length) → Errs E DT [(("limit" : Str), .int 400), (("what" : Str), .str "made")] H)) E
theorem ok_init {CW DB DN DT : Addr} (Z : Zs mg) (D : Ds K mg) (W : Dw K mg CW) (c_make_all : CalX P w K mg base "make_all" 6 ["points", "moves"] (spMakeAll K DB DN DT)) : CalM P w K mg base CW "__init__" 7 ["self", "points", "moves"] (spInit K CW DB DN DT) := by
  refine MDef.calM W.d_World___init__ sc_World___init__ (fun vs H Q E h => ?_) (fun f cdv A outer s H vs Q E hr h => ?_)
  · obtain ⟨G, x, dx, v, dv, a, xs, ds, rfl, gh, gx, hx, dd, hl, dxs, sz, j1, j2⟩ := h
    rfl
  obtain ⟨G, x, dx, v, dv, a, xs, ds, rfl, gh, gx, hx, dd, hl, dxs, sz, j1, j2⟩ := h
  refine ⟨_, (pss_cons (ps_fld (pv 0) (pe_calX c_make_all (L2N.takes_of rfl rfl rfl rfl) (hr.mono (by first | decide | omega)) (by rfl) (pa_cons (pv 1) (pa_cons (pv 2) pa_nil))) rfl)
      (pss_cons (ps_fld (pv 0) (pv 1) rfl)
      (pss_one (ps_fld (pv 0) (pe_callTy call_listN (by rfl) Z.z_list (by decide +kernel) (pa_cons (pv 2) pa_nil)) rfl)))), ?_⟩
  have nax : HasL H a xs → a ≠ x := fun h => h.elim (fun h => ne_of h hx (by intro z; cases z)) fun h => ne_of h hx (by intro z; cases z)
  refine ⟨_, rfl, _, rfl, G, v, dv, a, xs, ds, rfl, gh, dd, hl, dxs, sz, j1, fun n e1 e2 n0 n12 => ?_⟩
  subst e1 e2
  obtain ⟨k1, k2, k3⟩ := j2 n rfl rfl n0 n12
  refine ⟨k1, k2, fun l8 T eT mvT => ?_⟩
  obtain ⟨m1, m2⟩ := k3 l8 T eT mvT
  refine ⟨fun ml G1 H1 ys L s1 fml gml hml dy grp lL => ?_, m2⟩
  subst eT
  rw [List.length_map] at l8
  have hx1 := s1.hh _ _ hx
  have gx1 := s1.nw2 hx gx
  have nmx : ml ≠ x := fun e => by rw [e, hx] at fml; cases fml
  refine ⟨_, rfl, x, CW, dx, _, rfl, hx1, W.wc.cl, W.n_made, by show 0 < 1000; decide, ?_⟩
  have P1 : Stp x G H G1 (upd H1 x (.ins CW dx (putF "_made" (.ref ml) []))) := s1.p.putS gx1 rfl rfl
  refine ⟨_, rfl, _, rfl, x, CW, dx, _, rfl, upd_same, W.wc.cl, W.n_points, by show 1 < 1000; decide, ?_⟩
  have P2 := P1.putS gx1 (o := .ins CW dx (putF "_points" (.int n) (putF "_made" (.ref ml) []))) rfl rfl
  have hl2 : HasS K (upd (upd H1 x (.ins CW dx (putF "_made" (.ref ml) []))) x (.ins CW dx (putF "_points" (.int n) (putF "_made" (.ref ml) [])))) a xs := hl.imp (fun h => h.imp (P2.hh _ _ (nax h)) (P2.hh _ _ (nax h))) id
  have hml2 : (upd (upd H1 x (.ins CW dx (putF "_made" (.ref ml) []))) x (.ins CW dx (putF "_points" (.int n) (putF "_made" (.ref ml) [])))) ml = some (.lst ys) := by rw [upd_ne nmx, upd_ne nmx]; exact hml
  have hx2 : (upd (upd H1 x (.ins CW dx (putF "_made" (.ref ml) []))) x (.ins CW dx (putF "_points" (.int n) (putF "_made" (.ref ml) [])))) x = some (.ins CW dx (putF "_points" (.int n) (putF "_made" (.ref ml) []))) := upd_same
  generalize (upd (upd H1 x (.ins CW dx (putF "_made" (.ref ml) []))) x (.ins CW dx (putF "_points" (.int n) (putF "_made" (.ref ml) [])))) = H2 at P2 hl2 hml2 hx2 ⊢
  refine ⟨_, rfl, a, xs, rfl, hl2.len, fun tl H3 n3 => ?_⟩
  have ntx : tl ≠ x := fun e => by have := n3.fr; rw [e, hx2] at this; cases this
  have P3 : Stp x G H G1 H3 := P2.q (Stq.loc P2.gh n3).1
  have gtl : G1 tl = none := P2.gh.free n3.fr
  have ftl : H tl = none := by
    cases e : H tl with
    | none => rfl
    | some o =>
      have := P2.hh tl o ntx e
      rw [n3.fr] at this
      cases this
  have hml3 := n3.else hml2
  have hx3 := n3.else hx2
  refine ⟨_, rfl, x, CW, dx, _, rfl, hx3, W.wc.cl, W.n_told, by show 2 < 1000; decide, ?_⟩
  have P4 := P3.putS gx1 (o := .ins CW dx (wf ml n tl)) rfl rfl
  have hml4 : upd H3 x (.ins CW dx (wf ml n tl)) ml = some (.lst ys) := by rw [upd_ne nmx]; exact hml3
  have htl4 : upd H3 x (.ins CW dx (wf ml n tl)) tl = some (.lst xs) := by rw [upd_ne ntx]; exact n3.at
  have hx4 : upd H3 x (.ins CW dx (wf ml n tl)) x = some (.ins CW dx (wf ml n tl)) := upd_same
  obtain ⟨G5, P5, g5, km, o5⟩ := P4.frz gml fml hml4
  have ntm : tl ≠ ml := fun e => by have := n3.fr; rw [e, hml2] at this; cases this
  obtain ⟨G6, P6, g6, kt, o6⟩ := P5.frz (by rw [o5 tl ntm]; exact gtl) ftl htl4
  have gx6 : G6 x = none := by rw [o6 x (Ne.symm ntx), o5 x (Ne.symm nmx)]; exact gx1
  exact m1 G6 _ P6 ml tl ys xs L gx6 hx4 (g6 _ _ km) ((dy.up g5).up g6) kt (((dxs.up s1.gg).up g5).up g6) ⟨n0, n12, mvT, l8, lL, grp⟩


theorem judge_good {G H : Hp} {n : Int} {T : List (List Int)} {DB DN DT : Addr} {good : Int → List (List Int) → Prop} {E : XK} (n0 : 0 ≤ n) (n12 : n ≤ 12) (mv : AllMv n T) (lT : T.length ≤ 8) (g : good n T) : Judge G H (.int n) (.int n) (T.map rowD) DB DN DT good E := by
  refine ⟨fun e => ?_, fun n' e1 e2 _ _ => ?_⟩
  · have : isNum (.int n) 0 12 = true := by
      show (decide (0 ≤ n) && decide (n ≤ 12)) = true
      rw [decide_eq_true n0, decide_eq_true n12]
      rfl
    rw [this] at e
    cases e
  · cases e1
    refine ⟨fun c => by rw [List.length_map] at c; omega, fun _ i ⟨⟨d, hd, hb⟩, _⟩ => ?_, fun _ T' eT _ => by rw [← rows_inj eT]; exact g⟩
    rw [List.getElem?_map] at hd
    obtain ⟨m, hm, rfl⟩ := Option.map_eq_some_iff.mp hd
    rw [mvOn_of n0 (mv m (List.mem_of_getElem? hm))] at hb
    cases hb
def spPoints (C : Addr) : Sp := fun vs H Q _ => ∃ (G : Hp) (x : Addr) (n : Int) (T L : List (List Int)), vs = [.ref x] ∧ Same G H ∧ WAt C G x n T L ∧ Q (.int n) H
theorem ok_points {CW : Addr} (Z : Zs mg) (D : Ds K mg) (W : Dw K mg CW) : CalP P w K mg base CW "points" 1 ["self"] (spPoints CW) := by
  refine PDef.calP W.d_World_points sc_World_points (fun vs H Q E h => ?_) (fun f cdv A outer s H vs Q E hr h => ?_)
  · obtain ⟨G, x, n, T, L, rfl, gh, ⟨dx, ml, tl, ms, ts, h1, h2, h3, h4, h5⟩, q⟩ := h
    rfl
  obtain ⟨G, x, n, T, L, rfl, gh, ⟨dx, ml, tl, ms, ts, h1, h2, h3, h4, h5⟩, q⟩ := h
  refine ⟨_, (pss_one (ps_ret (pe_fld (pv 0) rfl))), ?_⟩
  exact ⟨_, rfl, x, CW, dx, _, _, rfl, gh _ _ h1, W.wc.cl, W.n_points, wf_points _ _ _, q⟩
def spTold (C : Addr) : Sp := fun vs H Q _ => ∃ (G : Hp) (x : Addr) (n : Int) (T L : List (List Int)), vs = [.ref x] ∧ Same G H ∧ WAt C G x n T L ∧ ∀ (p : Addr) (ts : List V) (H' : Hp), DaAll G ts (T.map rowD) → New H p (.lst ts) H' → Q (.ref p) H'
theorem ok_wtold {CW : Addr} (Z : Zs mg) (D : Ds K mg) (W : Dw K mg CW) : CalP P w K mg base CW "told" 1 ["self"] (spTold CW) := by
  refine PDef.calP W.d_World_told sc_World_told (fun vs H Q E h => ?_) (fun f cdv A outer s H vs Q E hr h => ?_)
  · obtain ⟨G, x, n, T, L, rfl, gh, ⟨dx, ml, tl, ms, ts, h1, h2, h3, h4, h5⟩, q⟩ := h
    rfl
  obtain ⟨G, x, n, T, L, rfl, gh, ⟨dx, ml, tl, ms, ts, h1, h2, h3, h4, h5⟩, q⟩ := h
  refine ⟨_, (pss_one (ps_ret (pe_callTy call_listN (by rfl) Z.z_list (by decide +kernel) (pa_cons (pe_fld (pv 0) rfl) pa_nil)))), ?_⟩
  exact ⟨_, rfl, x, CW, dx, _, _, rfl, gh _ _ h1, W.wc.cl, W.n_told, wf_told _ _ _, tl, ts, rfl, .inl (.of (gh _ _ h4)), fun p H' n' => q p ts H' h5 n'⟩
def spMade (C : Addr) : Sp := fun vs H Q _ => ∃ (G : Hp) (x : Addr) (n : Int) (T L : List (List Int)), vs = [.ref x] ∧ Same G H ∧ WAt C G x n T L ∧ ∀ (p : Addr) (ms : List V) (H' : Hp), DaAll G ms (L.map rowD) → New H p (.lst ms) H' → Q (.ref p) H'
theorem ok_wmade {CW : Addr} (Z : Zs mg) (D : Ds K mg) (W : Dw K mg CW) : CalP P w K mg base CW "made" 1 ["self"] (spMade CW) := by
  refine PDef.calP W.d_World_made sc_World_made (fun vs H Q E h => ?_) (fun f cdv A outer s H vs Q E hr h => ?_)
  · obtain ⟨G, x, n, T, L, rfl, gh, ⟨dx, ml, tl, ms, ts, h1, h2, h3, h4, h5⟩, q⟩ := h
    rfl
  obtain ⟨G, x, n, T, L, rfl, gh, ⟨dx, ml, tl, ms, ts, h1, h2, h3, h4, h5⟩, q⟩ := h
  refine ⟨_, (pss_one (ps_ret (pe_callTy call_listN (by rfl) Z.z_list (by decide +kernel) (pa_cons (pe_fld (pv 0) rfl) pa_nil)))), ?_⟩
  exact ⟨_, rfl, x, CW, dx, _, _, rfl, gh _ _ h1, W.wc.cl, W.n_made, wf_made _ _ _, ml, ms, rfl, .inl (.of (gh _ _ h2)), fun p H' n' => q p ms H' h3 n'⟩
def spLenW (C : Addr) : Sp := fun vs H Q _ => ∃ (G : Hp) (x : Addr) (n : Int) (T L : List (List Int)), vs = [.ref x] ∧ Same G H ∧ WAt C G x n T L ∧ Q (.int (L.length : Nat)) H
theorem ok_wlen {CW : Addr} (Z : Zs mg) (D : Ds K mg) (W : Dw K mg CW) : CalM P w K mg base CW "__len__" 1 ["self"] (spLenW CW) := by
  refine MDef.calM W.d_World___len__ sc_World___len__ (fun vs H Q E h => ?_) (fun f cdv A outer s H vs Q E hr h => ?_)
  · obtain ⟨G, x, n, T, L, rfl, gh, ⟨dx, ml, tl, ms, ts, h1, h2, h3, h4, h5⟩, q⟩ := h
    rfl
  obtain ⟨G, x, n, T, L, rfl, gh, ⟨dx, ml, tl, ms, ts, h1, h2, h3, h4, h5⟩, q⟩ := h
  refine ⟨_, (pss_one (ps_ret (pe_callB call_len_seq (by rfl) Z.z_len (by decide +kernel) (pa_cons (pe_fld (pv 0) rfl) pa_nil)))), ?_⟩
  refine ⟨_, rfl, x, CW, dx, _, _, rfl, gh _ _ h1, W.wc.cl, W.n_made, wf_made _ _ _, ml, ms, rfl, .inl (.of (gh _ _ h2)), ?_⟩
  have := h3.length
  rw [List.length_map] at this
  rw [this]
  exact q
def spEqW (C : Addr) : Sp := fun vs H Q _ => ∃ (G : Hp) (x y : Addr) (n m : Int) (T L U M : List (List Int)), vs = [.ref x, .ref y] ∧ Same G H ∧ WAt C G x n T L ∧ WAt C G y m U M ∧ ∀ b : Bool, (b = true ↔ n = m ∧ L = M) → Q (.bl b) H
theorem ok_weq {CW : Addr} (Z : Zs mg) (D : Ds K mg) (W : Dw K mg CW) : CalM P w K mg base CW "__eq__" 1 ["self", "other"] (spEqW CW) := by
  refine MDef.calM W.d_World___eq__ sc_World___eq__ (fun vs H Q E h => ?_) (fun f cdv A outer s H vs Q E hr h => ?_)
  · obtain ⟨G, x, y, n, m, T, L, U, M, rfl, gh, ⟨dx, ml, tl, ms, ts, h1, h2, h3, h4, h5⟩, ⟨dx', ml', tl', ms', ts', h1', h2', h3', h4', h5'⟩, q⟩ := h
    rfl
  obtain ⟨G, x, y, n, m, T, L, U, M, rfl, gh, ⟨dx, ml, tl, ms, ts, h1, h2, h3, h4, h5⟩, ⟨dx', ml', tl', ms', ts', h1', h2', h3', h4', h5'⟩, q⟩ := h
  refine ⟨_, (pss_cons (ps_if (pt_not (pt_val (pe_callB call_isi (by rfl) Z.z_isinstance (by decide +kernel) (pa_cons (pv 1) (pa_cons (pe_cls (by rfl) W.wc.gC) pa_nil))))) (pss_one (ps_ret pe_bl)) pss_nil)
      (pss_one (ps_ret (pe_and (pe_cmp (pc_eqI (pe_fld (pv 0) rfl) (pe_fld (pv 1) rfl)) (nomark _)) (pe_one (pe_cmpR (op_eqR hr.units) (pe_fld (pv 0) rfl) (pe_fld (pv 1) rfl) (nomark _))))))), ?_⟩
  refine ⟨_, rfl, _, _, _, _, true, rfl, .own CW, W.wc.ty (gh _ _ h1'), kit_self, _, rfl, iteF ?_⟩
  refine ⟨_, rfl, x, CW, dx, _, _, rfl, gh _ _ h1, W.wc.cl, W.n_points, wf_points _ _ _, _, rfl, y, CW, dx', _, _, rfl, gh _ _ h1', W.wc.cl, W.n_points, wf_points _ _ _, _, _, rfl, rfl, _, rfl, ite2 (fun c => ?_) (fun c => ?_)⟩
  · have c : n = m := dec_of c
    refine ⟨_, rfl, x, CW, dx, _, _, rfl, gh _ _ h1, W.wc.cl, W.n_made, wf_made _ _ _, _, rfl, y, CW, dx', _, _, rfl, gh _ _ h1', W.wc.cl, W.n_made, wf_made _ _ _, ml, ml', ms, ms', L, M, rfl, rfl, .of (gh _ _ h2), .of (gh _ _ h2'), h3.up gh, h3'.up gh, ?_⟩
    refine q _ ⟨fun e => ⟨c, of_decide_eq_true e⟩, fun e => decide_eq_true e.2⟩
  · have c : ¬ n = m := dec_not c
    exact q false ⟨(fun e => by cases e), fun e => absurd e.1 c⟩
def spNeedless (C : Addr) : Sp := fun vs H Q _ => ∃ (G : Hp) (x : Addr) (n : Int) (T L : List (List Int)), vs = [.ref x] ∧ Same G H ∧ WAt C G x n T L ∧ WOk n T L ∧ ∀ (p : Addr) (G' H' : Hp), Stq G H G' H' → G' p = some (.tup ((idleL n T).map V.int)) → Q (.ref p) H'
theorem ok_needless {CW DB DN DT : Addr} (Z : Zs mg) (D : Ds K mg) (W : Dw K mg CW) (c_World_points : CalP P w K mg base CW "points" 1 ["self"] (spPoints CW)) (c_World_told : CalP P w K mg base CW "told" 1 ["self"] (spTold CW)) (c_make_all : CalX P w K mg base "make_all" 6 ["points", "moves"] (spMakeAll K DB DN DT)) : Cal P w K mg base "needless_told" 7 ["world"] (spNeedless CW) := by
  refine Def.cal D.d_needless_told sc_needless_told (fun vs H Q E h => ?_) (fun f cdv A outer s H vs Q E hr h => ?_)
  · obtain ⟨G, x, n, T, L, rfl, gh, wat, ok, q⟩ := h
    rfl
  obtain ⟨G, x, n, T, L, rfl, gh, wat, ok, q⟩ := h
  refine ⟨_, (pss_cons (ps_set (i := 1) sc_needless_told.nd rfl (Or.inr rfl) (pe_propQ W.wc c_World_told (hr.mono (by first | decide | omega)) (pv 0)))
      (pss_one (ps_ret (pe_callTy call_tupleN (by rfl) Z.z_tuple (by decide +kernel) (pa_cons (pe_lc (own := [("index", 2), ("move", 3)]) (g := gTup K 2 (gCons (gName 2) (gCons (gName 3) gNil))) (by rfl) sc_needless_told.nd (pi_enum (by rfl) Z.z_enumerate (pa_cons (pv 1) pa_nil)) (blkOk_by (N := ["world", "told", "index", "move"]) (sc := defScope s_needless_told) (by decide +kernel)) (fun _ _ _ _ _ => pg_tup rfl (pgs_cons (pg_name (i := 2) sc_needless_told.nd rfl (Or.inl rfl)) (pgs_cons (pg_name (i := 3) sc_needless_told.nd rfl (Or.inl rfl)) pgs_nil))) (fun _ _ _ _ _ => pts_one (pt_cmpR (op_inR (K := K) rfl (u65 hr)) (pv 3) (pe_calQ c_make_all (hr.mono (by first | decide | omega)) (by rfl) (pa_cons (pe_propQ W.wc c_World_points (hr.mono (by first | decide | omega)) (pv 0)) (pa_cons (pe_slice (sl_listNK (K := K) rfl) (pv 1) po_none (po_some (pv 2))) pa_nil))) (by with_unfolding_all rfl))) (fun _ _ _ _ _ => (pv 2))) pa_nil))))), ?_⟩
  obtain ⟨dx, ml, tl, ms, ts, h1, h2, h3, h4, h5⟩ := id wat
  refine ⟨_, rfl, x, dx, _, rfl, gh _ _ h1, G, x, n, T, L, rfl, gh, wat, fun p ts' H1 dts n1 => ?_⟩
  obtain ⟨s1, gp, hp, fp⟩ := (Stq.refl gh).loc2 n1
  have lt := dts.length
  rw [List.length_map] at lt
  refine ⟨_, rfl, p, _, rfl, .of hp, fun l hl => ?_⟩
  refine lc_enumL (xs := ts') (fun i H' => ∃ G', Stq G H G' H' ∧ G' p = none ∧ H' p = some (.lst ts') ∧ G' l = none ∧ H l = none ∧ H' l = some (.lst ((pts (idleB n T) i).map V.int))) ?_ ?_ ?_ ?_
  · obtain ⟨s2, gl, h2, fl⟩ := s1.loc2 (p := l) (o := .lst []) ⟨hl, rfl⟩
    exact ⟨G, s2, gp, (New.mk hl rfl : New _ l (.lst []) _).else hp, gl, fl, h2⟩
  · rintro i H' ⟨G', s2, gp2, hp2, -⟩
    exact .of hp2
  · rintro i y Ta H2 H3 hy ⟨G2, s2, gp2, hp2, gl, fl, h2⟩ nT
    obtain ⟨e, he, hde⟩ := dts.get hy
    rw [List.getElem?_map] at he
    obtain ⟨m, hm, rfl⟩ := Option.map_eq_some_iff.mp he
    obtain ⟨b, rfl, hb⟩ := rows_ref hde
    have ilt := (List.getElem?_eq_some_iff.mp hm).1
    have s3 := (s2.loc2 nT).1
    have hp3 := nT.else hp2
    have hl3 := nT.else h2
    refine ⟨Ta, _, rfl, .of nT.at, rfl, _, _, rfl, _, _, rfl, rfl, rfl, ?_⟩
    refine ⟨_, rfl, _, rfl, x, dx, _, rfl, s3.gh _ _ (s3.gg _ _ h1), G, x, n, T, L, rfl, gh.trans s3.hh, wat, ?_⟩
    refine ⟨_, rfl, _, rfl, _, rfl, p, ts', rfl, .of hp3, fun r H4 n4 => ?_⟩
    rw [cut_to (by omega)] at n4
    obtain ⟨s4, gr, hr4, fr⟩ := s3.loc2 n4
    have dt := (dts.rows_take i).up s4.gg
    have mvt : AllMv n (T.take i) := fun a ha => ok.mv a (List.mem_of_mem_take ha)
    have ltk : (T.take i).length ≤ 8 := by rw [List.length_take]; have := ok.lT; omega
    have sub : ∀ w, Mk' n (T.take i) w → w ∈ L := fun w hw => (ok.grp.mem w).mpr (hw.mono fun a ha => List.mem_of_mem_take ha)
    have szt : szL ((T.take i).map rowD) ≤ 900000 := by
      have : ∀ Ls : List (List Int), AllMv n Ls → szL (Ls.map rowD) ≤ 13 * Ls.length := fun Ls => by
        induction Ls with
        | nil => intro _; exact Nat.le_refl _
        | cons a Ls ih =>
          intro h
          have h1 := ih fun b hb => h b (List.mem_cons_of_mem _ hb)
          have h2 := sz_ints a
          have h3 := (h a List.mem_cons_self).len
          have := ok.n12
          show szD (rowD a) + szL (Ls.map rowD) ≤ _
          unfold rowD at *
          rw [List.length_cons]
          omega
      have := this _ mvt
      omega
    refine ⟨G2, .int n, .int n, r, ts'.take i, _, rfl, s4.gh, .int n, .inl (.inl hr4), dt, szt, judge_good ok.n0 ok.n12 mvt ltk ⟨fun a G5 H5 ys M s5 fa ga ha dy gM lM => ?_, fun h => absurd (h L sub) (by have := ok.lL; omega)⟩⟩
    have S5 := s4.trans s5
    have hl5 := (s5.hh _ _ (n4.else hl3))
    have gl5 := s5.nw2 (n4.else hl3) gl
    have gp5 := s5.nw2 (n4.else hp3) gp2
    refine ⟨a, m, ys, M, rfl, (hde.up (gh.trans S5.hh)), .of ha, dy.up S5.gh, _, rfl, ite2 (fun c => ?_) (fun c => ?_)⟩
    · have c : m ∈ M := dec_of c
      have at_ : idleB n T i = true := idle_yes ⟨m, hm, (gM.mem m).mp c⟩
      refine ⟨_, rfl, _, hl5, ?_, G5, S5.mut gl5 fl rfl, gp5, ?_, gl5, fl, ?_⟩
      · rw [List.length_map]
        exact Nat.lt_of_le_of_lt (pts_len _ _) (Nat.lt_of_lt_of_le ilt (Nat.le_trans ok.lT (by decide)))
      · rw [upd_ne fun z => by rw [z, hl] at hp; cases hp]
        exact s5.hh _ _ (n4.else hp3)
      · rw [upd_same, pts_step, at_, List.map_append]
        rfl
    · have c : ¬ m ∈ M := dec_not c
      have at_ : idleB n T i = false := idle_no fun ⟨m', e, h⟩ => c (by rw [hm] at e; cases e; exact (gM.mem m).mpr h)
      refine ⟨G5, S5, gp5, s5.hh _ _ (n4.else hp3), gl5, fl, ?_⟩
      rw [hl5, pts_step, at_]
      simp
  · rintro H2 ⟨G2, s2, gp2, hp2, gl, fl, h2⟩
    rw [lt] at h2
    refine ⟨l, _, rfl, .of h2, fun r H3 n3 => ?_⟩
    obtain ⟨G3, s3, g3, k3, -⟩ := s2.know2 n3
    exact q r G3 H3 s3 k3


def spGroup : Sp := fun vs H Q _ => ∃ (G : Hp) (a : Addr) (ts : List V) (T : List (List Int)) (n most : Int), vs = [.int n, .ref a, .int most] ∧ Same G H ∧ 0 ≤ n ∧ n ≤ 12 ∧ H a = some (.lst ts) ∧ DaAll G ts (T.map rowD) ∧ AllMv n T ∧ T.length ≤ 1000 ∧ 1 ≤ most ∧ most ≤ 1000 ∧
  (∀ (p : Addr) (G' H' : Hp) (ys : List V) (L : List (List Int)), Stq G H G' H' → H p = none → G' p = none → H' p = some (.lst ys) → DaAll G' ys (L.map rowD) → Grp n T L → ((L.length : Nat) : Int) ≤ most → Q (.ref p) H') ∧
  ((∀ L : List (List Int), (∀ w, Mk' n T w → w ∈ L) → most < (L.length : Nat)) → ∀ H', Same H H' → Q .non H')
theorem ok_group (Z : Zs mg) (D : Ds K mg) (c__law_after : Cal P w K mg base "_law_after" 1 ["first", "second"] spAfter) : Cal P w K mg base "_law_group" 2 ["points", "told", "most"] spGroup := by
  refine Def.cal D.d_law_group sc_law_group (fun vs H Q E h => ?_) (fun f cdv A outer s H vs Q E hr h => ?_)
  · obtain ⟨G, a, ts, T, n, most, rfl, gh, n0, n12, ha, dt, mvT, lT, m1, m2, q1, q2⟩ := h
    rfl
  obtain ⟨G, a, ts, T, n, most, rfl, gh, n0, n12, ha, dt, mvT, lT, m1, m2, q1, q2⟩ := h
  refine ⟨_, (pss_cons (ps_set (i := 3) sc_law_group.nd rfl (Or.inl rfl) (pe_tupRgN rfl (by rfl) Z.z_tuple (prg_1 (by rfl) Z.z_range (pv 0))))
      (pss_cons (ps_set (i := 4) sc_law_group.nd rfl (Or.inl rfl) (pe_lstN (pa_cons (pv 3) pa_nil)))
      (pss_cons (ps_set (i := 5) sc_law_group.nd rfl (Or.inl rfl) (pe_dispT1 (hu_of hr) (pv 3) pe_bl))
      (pss_cons (ps_set (i := 6) sc_law_group.nd rfl (Or.inl rfl) pe_int)
      (pss_cons (ps_while PassesOwn.never (pt_cmp (pc_lt (pv 6) (pe_callB call_len_seq (by rfl) Z.z_len (by decide +kernel) (pa_cons (pv 4) pa_nil))) (nomark _)) (pss_cons (ps_for PassesOwn.never rfl (pi_list (pv 1)) (pg_name (i := 7) sc_law_group.nd rfl (Or.inl rfl)) (pss_cons (ps_set (i := 8) sc_law_group.nd rfl (Or.inl rfl) (pe_cal c__law_after (hr.mono (by first | decide | omega)) (by rfl) (pa_cons (pe_ix ix_list (pv 4) (pv 6) (fun _ _ => rfl)) (pa_cons (pv 7) pa_nil))))
      (pss_one (ps_if (pt_cmp (pc_dnotin (hu_of hr) (pv 8) (pv 5))) (pss_cons (ps_if (pt_cmp (pc_ge (pe_callB call_len_seq (by rfl) Z.z_len (by decide +kernel) (pa_cons (pv 4) pa_nil)) (pv 2)) (nomark _)) (pss_one (ps_ret pe_non)) pss_nil)
      (pss_cons (ps_dput (hu_of hr) (pv 5) (pv 8) pe_bl rfl)
      (pss_one (ps_expr (pe_bm PySem.F.plainAttrs_list PySem.F.slot_list_append PySem.F.type_list_append mt_appendN (pv 4) (pa_cons (pv 8) pa_nil)))))) pss_nil))))
      (pss_one (ps_set (i := 6) sc_law_group.nd rfl (Or.inl rfl) (pe_op op_add (pv 6) pe_int)))))
      (pss_one (ps_ret (pe_callB call_sortR (by rfl) Z.z_sorted (by decide +kernel) (pa_cons (pv 4) pa_nil))))))))), ?_⟩
  have lt := dt.length
  rw [List.length_map] at lt
  refine ⟨_, rfl, n, rfl, .of_le (by decide) (by omega) (by decide) (by omega), fun p H1 n1 => ?_⟩
  rw [rgV_rngI] at n1
  obtain ⟨G1, s1, g1, k1, -⟩ := (Stq.refl gh).know2 n1
  refine ⟨_, rfl, Nat.succ_le_of_lt (Nat.lt_of_lt_of_le (show 0 < 2 by decide) (by decide)), fun qa H2 n2 => ?_⟩
  obtain ⟨s2, gq, hq, fq⟩ := s1.loc2 n2
  refine fun d hd => ⟨_, rfl, ?_⟩
  obtain ⟨s3, gd, h3, fd⟩ := s2.loc2 (p := d) (o := .dT []) ⟨hd, rfl⟩
  have hp3 : upd H2 d (.dT []) p = some (.tup ((keyL (rngI n)).map kV)) := by rw [keyL_kV]; exact s3.gh _ _ k1
  have nqd : qa ≠ d := fun e => by rw [← e, hq] at hd; cases hd
  refine ⟨h3, p, keyL (rngI n), rfl, hp3, ?_⟩
  have s4 := s3.mut gd fd (o := .dT [(keyL (rngI n), V.bl true)]) rfl
  have hd4 : upd (upd H2 d (.dT [])) d (.dT [(keyL (rngI n), V.bl true)]) d = some (.dT [(keyL (rngI n), V.bl true)]) := upd_same
  have hq4 : upd (upd H2 d (.dT [])) d (.dT [(keyL (rngI n), V.bl true)]) qa = some (.lst [V.ref p]) := by rw [upd_ne nqd, upd_ne nqd]; exact hq
  generalize upd (upd H2 d (.dT [])) d (.dT [(keyL (rngI n), V.bl true)]) = H4 at s4 hd4 hq4 ⊢
  refine ⟨fun m σ' H' => ∃ (at_ : Nat) (G' : Hp) (Qs : List (List Int)) (kvs : List (List L2.Key × V)) (ys : List V) (y7 y8 : Option V), m = most.toNat - at_ ∧ σ' = [some (.int n), some (.ref a), some (.int most), some (.ref p), some (.ref qa), some (.ref d), some (.int (at_ : Nat)), y7, y8] ∧ Stq G H G' H' ∧ G' qa = none ∧ G' d = none ∧
    H' qa = some (.lst ys) ∧ H' d = some (.dT kvs) ∧ DaAll G' ys (Qs.map rowD) ∧ kvs.map (·.1) = Qs.map keyL ∧ QOk T (rngI n) Qs at_ 0 ∧ ((Qs.length : Nat) : Int) ≤ most, ⟨_, 0, G1, [rngI n], _, _, none, none, rfl, rfl, s4, gq, gd, hq4, hd4, .cons (.tup k1 (DaAll.ints _)) .nil, rfl, .start _ _, by show ((1 : Nat) : Int) ≤ most; omega⟩, ?_⟩
  rintro m σ' H5 ⟨at_, G5, Qs, kvs, ys, y7, y8, rfl, rfl, s5, gq5, gd5, hq5, hd5, dy5, ek, ok, lm⟩
  have ly := dy5.length
  rw [List.length_map] at ly
  refine ⟨_, rfl, _, rfl, qa, _, rfl, .inl (.of hq5), _, _, rfl, rfl, _, rfl, ite2 (fun c => ?_) (fun c => ?_)⟩
  · have c : ((at_ : Nat) : Int) < ((ys.length : Nat) : Int) := dec_of c
    have atl : at_ < Qs.length := by omega
    obtain ⟨x, hx⟩ : ∃ x, Qs[at_]? = some x := ⟨_, List.getElem?_eq_getElem atl⟩
    refine ⟨fun σ' H' => ∃ m', m' < most.toNat - at_ ∧ ∃ (at_ : Nat) (G' : Hp) (Qs : List (List Int)) (kvs : List (List L2.Key × V)) (ys : List V) (y7 y8 : Option V), m' = most.toNat - at_ ∧ σ' = [some (.int n), some (.ref a), some (.int most), some (.ref p), some (.ref qa), some (.ref d), some (.int (at_ : Nat)), y7, y8] ∧ Stq G H G' H' ∧ G' qa = none ∧ G' d = none ∧
      H' qa = some (.lst ys) ∧ H' d = some (.dT kvs) ∧ DaAll G' ys (Qs.map rowD) ∧ kvs.map (·.1) = Qs.map keyL ∧ QOk T (rngI n) Qs at_ 0 ∧ ((Qs.length : Nat) : Int) ≤ most, fun σ' H' z => z, ?_⟩
    refine ⟨_, rfl, a, rfl, ⟨_, .of (s5.hh _ _ ha)⟩, for_list (K := K) (a := a) (xs := ts) (fun j σ' H' => ∃ (G' : Hp) (Qs : List (List Int)) (kvs : List (List L2.Key × V)) (ys : List V) (y7 y8 : Option V), σ' = [some (.int n), some (.ref a), some (.int most), some (.ref p), some (.ref qa), some (.ref d), some (.int (at_ : Nat)), y7, y8] ∧ Stq G H G' H' ∧ G' qa = none ∧ G' d = none ∧
      H' qa = some (.lst ys) ∧ H' d = some (.dT kvs) ∧ DaAll G' ys (Qs.map rowD) ∧ kvs.map (·.1) = Qs.map keyL ∧ QOk T (rngI n) Qs at_ j ∧ ((Qs.length : Nat) : Int) ≤ most ∧ at_ < Qs.length) ?_ ?_ ?_ ?_⟩
    · exact ⟨G5, Qs, kvs, ys, y7, y8, rfl, s5, gq5, gd5, hq5, hd5, dy5, ek, ok, lm, atl⟩
    · rintro j σ' H' - ⟨G', Qs, kvs, ys, y7, y8, rfl, s6, -⟩
      exact .of (s6.hh _ _ ha)
    · rintro j y σ' H6 hy ⟨G6, Qs, kvs, ys, y7, y8, rfl, s6, gq6, gd6, hq6, hd6, dy6, ek, ok, lm, atl⟩
      obtain ⟨e, he, hde⟩ := dt.get hy
      rw [List.getElem?_map] at he
      obtain ⟨m, hm, rfl⟩ := Option.map_eq_some_iff.mp he
      obtain ⟨b, rfl, hb⟩ := rows_ref hde
      obtain ⟨x, hx⟩ : ∃ x, Qs[at_]? = some x := ⟨_, List.getElem?_eq_getElem atl⟩
      have lyj := dy6.length
      rw [List.length_map] at lyj
      obtain ⟨v, hv⟩ : ∃ v, ys[at_]? = some v := ⟨_, List.getElem?_eq_getElem (by omega)⟩
      obtain ⟨e2, he2, hdx⟩ := dy6.get hv
      rw [List.getElem?_map, hx] at he2
      cases he2
      obtain ⟨c2, rfl, hc2⟩ := rows_ref hdx
      have xmv := made_mv n0 mvT (ok.rch x (List.mem_of_getElem? hx))
      have mvm := mvT m (List.mem_of_getElem? hm)
      refine ⟨_, rfl, _, rfl, qa, _, _, _, rfl, rfl, .of hq6, atI_nat hv, _, rfl, G6, c2, b, x, m, n, rfl, s6.gh, hc2, s6.gg _ _ hb, mvm, xmv.row, by have := xmv.len; omega, fun p7 G7 H7 s7 k7 => ?_⟩
      have S7 := s6.trans s7
      have hd7 := s7.hh _ _ hd6
      have hq7 := s7.hh _ _ hq6
      have gd7 := s7.nw2 hd6 gd6
      have gq7 := s7.nw2 hq6 gq6
      have dy7 := dy6.up s7.gg
      have hp7 : H7 p7 = some (.tup ((keyL (aft x m)).map kV)) := by rw [keyL_kV]; exact s7.gh _ _ k7
      refine ⟨_, rfl, _, rfl, d, _, rfl, DGet.t hd7 hp7, _, rfl, ?_⟩
      rw [val_some ek]
      by_cases c : aft x m ∈ Qs
      · rw [decide_eq_true c]
        exact iteF ⟨G7, Qs, kvs, ys, _, _, rfl, S7, gq7, gd7, hq7, hd7, dy7, ek, ok.same hx hm c, lm, atl⟩
      · rw [decide_eq_false c]
        refine iteT ⟨_, rfl, qa, _, rfl, .inl (.of hq7), _, rfl, _, _, rfl, rfl, _, rfl, ite2 (fun c3 => ?_) (fun c3 => ?_)⟩
        · have c3 : most ≤ ((ys.length : Nat) : Int) := dec_of c3
          refine q2 (fun L hL => ?_) H7 S7.hh
          have ok2 := ok.app hx hm c
          have := len_sub ok2.nd fun w hw => hL w (ok2.rch w hw)
          rw [List.length_append] at this
          have e1 : ([aft x m] : List (List Int)).length = 1 := rfl
          omega
        · have c3 : ¬ most ≤ ((ys.length : Nat) : Int) := dec_not c3
          have lkv : kvs.length = Qs.length := by
            have := congrArg List.length ek
            rwa [List.length_map, List.length_map] at this
          refine ⟨_, rfl, _, rfl, d, _, rfl, DPut.t hd7 hp7 (Nat.lt_of_le_of_lt (show kvs.length ≤ 1000 by omega) (by decide)), ?_⟩
          have nqd : qa ≠ d := ne_of hq7 hd7 (by intro z; cases z)
          have S8 := S7.mut gd7 fd (o := .dT (putK kvs (keyL (aft x m)) (.bl true))) rfl
          have hq8 : upd H7 d (.dT (putK kvs (keyL (aft x m)) (.bl true))) qa = some (.lst ys) := by rw [upd_ne nqd]; exact hq7
          refine ⟨_, rfl, .inl ⟨rfl, _, .of hq8⟩, _, rfl, qa, _, _, rfl, rfl, hq8, Nat.lt_of_le_of_lt (show ys.length ≤ 1000 by omega) (by decide), fun H9 e9 => ?_⟩
          refine ⟨G7, Qs ++ [aft x m], _, _, _, _, rfl, S8.mut gq7 fq e9, gq7, gd7, upd_at e9, upd_else e9 upd_same (Ne.symm nqd), ?_, ?_, ok.app hx hm c, ?_, ?_⟩
          · rw [List.map_append]
            exact dy7.append (.one (.tup k7 (DaAll.ints _)))
          · rw [putK_new _ (val_none ek c), List.map_append, List.map_append, ek]
            rfl
          · rw [List.length_append]
            show ((Qs.length + 1 : Nat) : Int) ≤ most
            omega
          · rw [List.length_append]
            omega
    · rintro σ' H6 ⟨G6, Qs, kvs, ys, y7, y8, rfl, s6, gq6, gd6, hq6, hd6, dy6, ek, ok, lm, atl⟩
      rw [lt] at ok
      refine ⟨_, rfl, _, _, rfl, rfl, _, ?_, at_ + 1, G6, Qs, kvs, ys, _, _, rfl, rfl, s6, gq6, gd6, hq6, hd6, dy6, ek, ok.next, lm⟩
      omega
  · have c : ¬ ((at_ : Nat) : Int) < ((ys.length : Nat) : Int) := dec_not c
    have keys := ok.end_ (by omega)
    refine ⟨_, rfl, qa, ys, Qs, rfl, .of hq5, dy5.up s5.gh, fun h2 l hl e => ?_, fun zs Ms r H6 dz pm so n6 => ?_⟩
    · subst e
      have := ((keys []).mp hl).row mvT rng_mv.row
      have z : (rngI n).length = 0 := this.2.symm
      rw [rngI_len] at z
      have all0 : ∀ w ∈ Qs, w ∈ [([] : List Int)] := fun w hw => by
        have := ((keys w).mp hw).row mvT rng_mv.row
        rw [rngI_len, z] at this
        rw [List.eq_nil_of_length_eq_zero this.2]
        exact List.mem_singleton.mpr rfl
      have := len_sub ok.nd all0
      simp at this
      omega
    · obtain ⟨s6, gr, hr6, fr⟩ := s5.loc2 n6
      have lM := pm.length_eq
      exact q1 r (fullG G5 H6) H6 zs Ms s6.full fr (full_else hr6 rfl gr) hr6 (rows_full s6.gh (dz.up n6.same)) (.of_perm ok.nd keys pm so) (by omega)


theorem depth_get : ∀ {ds : List PyData} {i : Nat} {d : PyData}, ds[i]? = some d → PyData.depth d ≤ PyData.depthAll ds
  | x :: ds, 0, d, h => by
    cases h
    simp only [PyData.depthAll]
    omega
  | x :: ds, i + 1, d, h => by
    have := depth_get (ds := ds) (i := i) h
    simp only [PyData.depthAll]
    omega
  | [], _, _, h => by cases h
theorem sq_depth {t : Bool} {es : List PyData} {k : Nat} (h : PyData.depth (sqD t es) < k + 1) : PyData.depthAll es < k := by
  cases t <;> simp only [sqD, PyData.depth, if_true, if_false, Bool.false_eq_true] at h <;> omega
def eqAt (ds es : List PyData) (i : Nat) : Bool := sameD (ds.getD i .none) (es.getD i .none)
theorem sameL_at {ds es : List PyData} (h : ds.length = es.length) : sameL ds es = ((List.range es.length).map (eqAt ds es)).all id := by
  induction ds generalizing es with
  | nil => cases es with
    | nil => rfl
    | cons _ _ => cases h
  | cons d ds ih => cases es with
    | nil => cases h
    | cons e es =>
      show (sameD d e && sameL ds es) = _
      rw [ih (Nat.succ.inj h), List.length_cons, List.range_succ_eq_map, List.map_cons, List.all_cons, List.map_map]
      rfl
def spAlike (k : Nat) : Sp := fun vs H Q _ => ∃ (G : Hp) (v w : V) (d e : PyData), vs = [v, w] ∧ Same G H ∧ Da G v d ∧ Da G w e ∧ PyData.depth e < k ∧ szD e ≤ 900000 ∧ ∀ H', Same H H' → Q (.bl (sameD d e)) H'
theorem or_and4 {A B C D : TT} {σ : L2.St} {H : Hp} {R : Bool → Hp → Prop} (a b c d : Bool) (hA : ∀ R : Bool → Hp → Prop, R a H → A σ H R) (hB : ∀ R : Bool → Hp → Prop, R b H → B σ H R) (hC : ∀ R : Bool → Hp → Prop, R c H → C σ H R) (hD : ∀ R : Bool → Hp → Prop, R d H → D σ H R)
    (h : R ((a && !b) || (c && !d)) H) : tOr (tAnd A (tNot B)) (tAnd C (tNot D)) σ H R := by
  refine hA _ ?_
  have rest : ((a && !b) = false) → tAnd C (tNot D) σ H R := fun e => by
    rw [e, Bool.false_or] at h
    refine hC _ ?_
    cases c with
    | true => exact iteT (hD _ h)
    | false => exact iteF h
  cases a with
  | false => exact iteF (iteF (rest rfl))
  | true =>
    refine iteT (hB _ ?_)
    cases b with
    | true => exact iteF (rest rfl)
    | false => exact iteT h
theorem sq_ne {d : PyData} {t : Bool} {es : List PyData} {G : Hp} {v : V} (hd : Da G v d) (h : (((!t) && !instB d "list") || (t && !instB d "tuple")) = true) : sameD d (sqD t es) = false := by
  cases t with
  | true => cases hd <;> first | rfl | (simp [ib_tuple_tuple] at h)
  | false => cases hd <;> first | rfl | (simp [ib_list_list] at h)
theorem same_sq {d : PyData} {t : Bool} {G : Hp} {v : V} (hd : Da G v d) (h : ¬ (((!t) && !instB d "list") || (t && !instB d "tuple")) = true) : ∃ a xs ds, v = .ref a ∧ G a = some (if t then HO.tup xs else HO.lst xs) ∧ DaAll G xs ds ∧ d = sqD t ds := by
  cases t with
  | true => cases hd with
    | tup h1 h2 => exact ⟨_, _, _, rfl, h1, h2, rfl⟩
    | non => simp [ib_none_tuple] at h
    | bl b => simp [ib_bool_tuple] at h
    | int b => simp [ib_int_tuple] at h
    | str b => simp [ib_str_tuple] at h
    | lst _ _ => simp [ib_list_tuple] at h
  | false => cases hd with
    | lst h1 h2 => exact ⟨_, _, _, rfl, h1, h2, rfl⟩
    | non => simp [ib_none_list] at h
    | bl b => simp [ib_bool_list] at h
    | int b => simp [ib_int_list] at h
    | str b => simp [ib_str_list] at h
    | tup _ _ => simp [ib_tuple_list] at h
theorem no_levelA {x : Str} {st : Stmt} {ps : List Str} {sp : Sp} (D : Def K mg x st ps) (no : ∀ vs H Q E, ¬ sp vs H Q E) : Cal P w K mg base x 0 ps sp := by
  obtain ⟨f, fd, F, g, b⟩ := D
  exact ⟨f, fd, ⟨fun vs H Q E h => absurd h (no vs H Q E), fun A outer s H args us vs Q E _ _ _ _ h => absurd h (no vs H Q E)⟩, g, F.kp, b⟩
theorem ok_alike_step (Z : Zs mg) (D : Ds K mg) (k : Nat) (c__law_alike : Cal P w K mg base "_law_alike" k ["one", "two"] (spAlike k)) : Cal P w K mg base "_law_alike" (k + 1) ["one", "two"] (spAlike (k + 1)) := by
  refine Def.cal D.d_law_alike sc_law_alike (fun vs H Q E h => ?_) (fun f cdv A outer s H vs Q E hr h => ?_)
  · obtain ⟨G, v, w, d, e, rfl, gh, hd, he, dk, sz, q⟩ := h
    rfl
  obtain ⟨G, v, w, d, e, rfl, gh, hd, he, dk, sz, q⟩ := h
  refine ⟨_, (pss_cons (ps_if (pt_val (pe_callB call_isD2 (by rfl) Z.z_isinstance (by decide +kernel) (pa_cons (pv 1) (pa_cons (pe_tupN (pa_cons (pe_bltn (v := .ty "list") (by rfl) Z.z_list (by decide +kernel) rfl) (pa_cons (pe_bltn (v := .ty "tuple") (by rfl) Z.z_tuple (by decide +kernel) rfl) pa_nil))) pa_nil)))) (pss_cons (ps_if (PW.pt (pw_or (PW.pt (pw_and (pt_val (pe_callB call_isD (by rfl) Z.z_isinstance (by decide +kernel) (pa_cons (pv 1) (pa_cons (pe_bltn (v := .ty "list") (by rfl) Z.z_list (by decide +kernel) rfl) pa_nil)))) (pw_and1 (pt_not (pt_val (pe_callB call_isD (by rfl) Z.z_isinstance (by decide +kernel) (pa_cons (pv 0) (pa_cons (pe_bltn (v := .ty "list") (by rfl) Z.z_list (by decide +kernel) rfl) pa_nil)))))))) (pw_or1 (PW.pt (pw_and (pt_val (pe_callB call_isD (by rfl) Z.z_isinstance (by decide +kernel) (pa_cons (pv 1) (pa_cons (pe_bltn (v := .ty "tuple") (by rfl) Z.z_tuple (by decide +kernel) rfl) pa_nil)))) (pw_and1 (pt_not (pt_val (pe_callB call_isD (by rfl) Z.z_isinstance (by decide +kernel) (pa_cons (pv 0) (pa_cons (pe_bltn (v := .ty "tuple") (by rfl) Z.z_tuple (by decide +kernel) rfl) pa_nil))))))))))) (pss_one (ps_ret pe_bl)) pss_nil)
      (pss_one (ps_ret (pe_and (pe_cmp (pc_eqI (pe_callB call_len (by rfl) Z.z_len (by decide +kernel) (pa_cons (pv 0) pa_nil)) (pe_callB call_len (by rfl) Z.z_len (by decide +kernel) (pa_cons (pv 1) pa_nil))) (nomark _)) (pe_one (pe_callB (cr_all rfl) (by rfl) Z.z_all (by decide +kernel) (pa_cons (pe_lc (own := [("k", 2)]) (g := gName 2) (tt := tYes) (by rfl) sc_law_alike.nd (pi_range1 (by rfl) Z.z_range (pa_cons (pe_callB call_len (by rfl) Z.z_len (by decide +kernel) (pa_cons (pv 1) pa_nil)) pa_nil)) (blkOk_by (N := ["one", "two", "k"]) (sc := defScope s_law_alike) (by decide +kernel)) (fun _ _ _ _ _ => pg_name (i := 2) sc_law_alike.nd rfl (Or.inl rfl)) (fun _ _ _ _ _ => pts_nil) (fun _ _ _ _ _ => (pe_cal c__law_alike (hr.mono (by first | decide | omega)) (by rfl) (pa_cons (pe_ix (ix_seqK (K := K) rfl) (pv 0) (pv 2) (fun _ _ => rfl)) (pa_cons (pe_ix (ix_seqK (K := K) rfl) (pv 1) (pv 2) (fun _ _ => rfl)) pa_nil))))) pa_nil))))))) pss_nil)
      (pss_cons (ps_if (PW.pt (pw_or (pt_cmpR op_isN (pv 1) pe_non (nomark _)) (pw_or (pt_cmpR op_isBD (pv 1) pe_bl (nomark _)) (pw_or1 (pt_cmpR op_isBD (pv 1) pe_bl (nomark _)))))) (pss_one (ps_ret (pe_or (pe_and (pe_cmpR op_isN (pv 1) pe_non (nomark _)) (pe_one (pe_cmpR op_isN (pv 0) pe_non (nomark _)))) (pe_or (pe_and (pe_cmpR op_isBD (pv 1) pe_bl (nomark _)) (pe_one (pe_cmpR op_isBD (pv 0) pe_bl (nomark _)))) (pe_one (pe_and (pe_cmpR op_isBD (pv 1) pe_bl (nomark _)) (pe_one (pe_cmpR op_isBD (pv 0) pe_bl (nomark _))))))))) pss_nil)
      (pss_cons (ps_if (pt_val (pe_callB call_isD (by rfl) Z.z_isinstance (by decide +kernel) (pa_cons (pv 1) (pa_cons (pe_bltn (v := .ty "str") (by rfl) Z.z_str (by decide +kernel) rfl) pa_nil)))) (pss_one (ps_ret (pe_and (pe_callB call_isD (by rfl) Z.z_isinstance (by decide +kernel) (pa_cons (pv 0) (pa_cons (pe_bltn (v := .ty "str") (by rfl) Z.z_str (by decide +kernel) rfl) pa_nil))) (pe_one (pe_cmpR op_eq (pv 0) (pv 1) (nomark _)))))) pss_nil)
      (pss_one (ps_ret (pe_and (pe_callB call_isD (by rfl) Z.z_isinstance (by decide +kernel) (pa_cons (pv 0) (pa_cons (pe_bltn (v := .ty "int") (by rfl) Z.z_int (by decide +kernel) rfl) pa_nil))) (pe_and (pe_not (pe_callB call_isD (by rfl) Z.z_isinstance (by decide +kernel) (pa_cons (pv 0) (pa_cons (pe_bltn (v := .ty "bool") (by rfl) Z.z_bool (by decide +kernel) rfl) pa_nil)))) (pe_one (pe_cmpR op_eq (pv 0) (pv 1) (nomark _)))))))))), ?_⟩
  refine ⟨_, rfl, (by show 2 ≤ sizeLine; decide), fun tp H2 n2 => ?_⟩
  have gh := gh.trans n2.same
  have q2 := fun H' (s : Same H2 H') => q H' (n2.same.trans s)
  have hd2 := hd.up gh
  have he2 := he.up gh
  have no : sameD d e = false → Q (.bl false) H2 := fun h => by
    have := q2 H2 (Same.refl _)
    rwa [h] at this
  refine ⟨w, e, tp, rfl, n2.at, he2, _, rfl, ?_⟩
  rcases he.kind with ⟨rfl, rfl⟩ | ⟨b, rfl, rfl⟩ | ⟨j, rfl, rfl⟩ | ⟨j, rfl, rfl⟩ | ⟨b, ys, es, t, rfl, hb, hbt, hbl, dys, rfl⟩
  · refine iteBF (by rw [ib_none_list, ib_none_tuple]; rfl) ⟨_, rfl, rfl, _, rfl, iteDT rfl (iteT ?_)⟩
    refine ⟨_, rfl, rfl, _, rfl, iteDT rfl ⟨_, rfl, rfl, _, rfl, ite2 (fun c => ?_) (fun c => ?_)⟩⟩
    · have e := hd.non_iff.mp (dec_of c)
      subst e
      exact q2 H2 (Same.refl _)
    · have e : ¬ d = .none := fun z => dec_not c (hd.non_iff.mpr z)
      refine ⟨_, rfl, .none, true, .non, rfl, _, rfl, iteDF (by intro z; cases z) ⟨_, rfl, iteF ⟨_, rfl, .none, false, .non, rfl, _, rfl, iteDF (by intro z; cases z) (no ?_)⟩⟩⟩
      cases d <;> first | rfl | exact absurd rfl e
  · refine iteBF (by rw [ib_bool_list, ib_bool_tuple]; rfl) ⟨_, rfl, rfl, _, rfl, iteDF (by intro z; cases z) ?_⟩
    cases b with
    | true =>
      refine ⟨_, rfl, _, true, .bl true, rfl, _, rfl, iteDT rfl (iteT ?_)⟩
      refine ⟨_, rfl, rfl, _, rfl, iteDF (by intro z; cases z) ⟨_, rfl, iteF ⟨_, rfl, _, true, .bl true, rfl, _, rfl, iteDT rfl ⟨_, rfl, d, true, hd2, rfl, _, rfl, ite2 (fun c => ?_) (fun c => ?_)⟩⟩⟩⟩
      · have e := hd.bl_iff.mp (dec_of c)
        subst e
        exact q2 H2 (Same.refl _)
      · have e : ¬ d = .bool true := fun z => dec_not c (hd.bl_iff.mpr z)
        refine ⟨_, rfl, _, false, .bl true, rfl, _, rfl, iteDF (by intro z; cases z) (no ?_)⟩
        cases d with
        | bool b => cases b with
          | true => exact absurd rfl e
          | false => rfl
        | _ => rfl
    | false =>
      refine ⟨_, rfl, _, true, .bl false, rfl, _, rfl, iteDF (by intro z; cases z) ⟨_, rfl, _, false, .bl false, rfl, _, rfl, iteDT rfl ?_⟩⟩
      refine ⟨_, rfl, rfl, _, rfl, iteDF (by intro z; cases z) ⟨_, rfl, iteF ⟨_, rfl, _, true, .bl false, rfl, _, rfl, iteDF (by intro z; cases z) ⟨_, rfl, iteF ⟨_, rfl, _, false, .bl false, rfl, _, rfl, iteDT rfl ⟨_, rfl, d, false, hd2, rfl, ?_⟩⟩⟩⟩⟩⟩
      have := q2 H2 (Same.refl _)
      by_cases c : v = .bl false
      · have e := hd.bl_iff.mp c
        subst e
        rw [decide_eq_true c]
        exact this
      · rw [decide_eq_false c]
        have e : ¬ d = .bool false := fun z => c (hd.bl_iff.mpr z)
        refine no ?_
        cases d with
        | bool b => cases b with
          | true => rfl
          | false => exact absurd rfl e
        | _ => rfl
  · refine iteBF (by rw [ib_int_list, ib_int_tuple]; rfl) ⟨_, rfl, rfl, _, rfl, iteDF (by intro z; cases z) ⟨_, rfl, _, true, .int j, rfl, _, rfl, iteDF (by intro z; cases z) ⟨_, rfl, _, false, .int j, rfl, _, rfl, iteDF (by intro z; cases z) ?_⟩⟩⟩
    refine ⟨_, rfl, _, _, "str", rfl, .int j, ok_str, _, rfl, iteBF (ib_int_str j) ⟨_, rfl, v, d, "int", rfl, hd2, .inl rfl, _, rfl, ?_⟩⟩
    cases hd with
    | int i =>
      refine iteBT (ib_int_int i) ⟨_, rfl, _, _, "bool", rfl, .int i, .inr (.inl rfl), _, rfl, _, rfl, iteBT (by rw [ib_int_bool]; rfl) ⟨_, rfl, _, rfl, rfl, ?_⟩⟩
      have := q2 H2 (Same.refl _)
      by_cases c : i = j
      · subst c
        rw [decide_eq_true rfl]
        rwa [show sameD (.int i) (.int i) = true from decide_eq_true rfl] at this
      · rw [decide_eq_false fun z => c (V.int.inj z)]
        exact no (decide_eq_false c)
    | bl b => exact iteBT (ib_bool_int b) ⟨_, rfl, _, _, "bool", rfl, .bl b, .inr (.inl rfl), _, rfl, _, rfl, iteBF (by rw [ib_bool_bool]; rfl) (no rfl)⟩
    | non => exact iteBF ib_none_int (no rfl)
    | str _ => exact iteBF (ib_str_int _) (no rfl)
    | lst _ _ => exact iteBF (ib_list_int _) (no rfl)
    | tup _ _ => exact iteBF (ib_tuple_int _) (no rfl)
  · refine iteBF (by rw [ib_str_list, ib_str_tuple]; rfl) ⟨_, rfl, rfl, _, rfl, iteDF (by intro z; cases z) ⟨_, rfl, _, true, .str j, rfl, _, rfl, iteDF (by intro z; cases z) ⟨_, rfl, _, false, .str j, rfl, _, rfl, iteDF (by intro z; cases z) ?_⟩⟩⟩
    refine ⟨_, rfl, _, _, "str", rfl, .str j, ok_str, _, rfl, iteBT (ib_str_str j) ⟨_, rfl, v, d, "str", rfl, hd2, ok_str, _, rfl, ?_⟩⟩
    cases hd with
    | str i =>
      refine iteBT (ib_str_str i) ⟨_, rfl, _, rfl, rfl, ?_⟩
      have := q2 H2 (Same.refl _)
      by_cases c : i = j
      · subst c
        rw [decide_eq_true rfl]
        rwa [show sameD (.str i) (.str i) = true from decide_eq_true rfl] at this
      · rw [decide_eq_false fun z => c (V.str.inj z)]
        exact no (decide_eq_false c)
    | bl b => exact iteBF (ib_bool_str b) (no rfl)
    | non => exact iteBF ib_none_str (no rfl)
    | int _ => exact iteBF (ib_int_str _) (no rfl)
    | lst _ _ => exact iteBF (ib_list_str _) (no rfl)
    | tup _ _ => exact iteBF (ib_tuple_str _) (no rfl)
  · have i3 : instB (sqD t es) "tuple" = t := by cases t <;> first | exact ib_list_tuple es | exact ib_tuple_tuple es
    have i4 : instB (sqD t es) "list" = !t := by cases t <;> first | exact ib_list_list es | exact ib_tuple_list es
    refine iteBT (by rw [i3, i4]; cases t <;> rfl) ?_
    refine or_and4 (!t) (instB d "list") t (instB d "tuple") (fun R r => ⟨_, rfl, _, _, "list", rfl, he2, ok_list, _, rfl, by rw [i4]; exact r⟩) (fun R r => ⟨_, rfl, _, _, "list", rfl, hd2, ok_list, _, rfl, r⟩) (fun R r => ⟨_, rfl, _, _, "tuple", rfl, he2, ok_tuple, _, rfl, by rw [i3]; exact r⟩) (fun R r => ⟨_, rfl, _, _, "tuple", rfl, hd2, ok_tuple, _, rfl, r⟩) (ite2 (fun c => ?_) (fun c => ?_))
    · exact no (sq_ne hd c)
    obtain ⟨a, xs, ds, rfl, ha, dxs, rfl⟩ := same_sq hd c
    have hb' : G b = some (if t then HO.tup ys else HO.lst ys) := by
      cases t with
      | true => exact hbt rfl
      | false => exact hbl rfl
    have sq : ∀ {p : Addr} {zs : List V} {H' : Hp}, Same G H' → G p = some (if t then HO.tup zs else HO.lst zs) → SqL K H' p zs ∨ SqT K H' p zs := fun {p zs H'} g h => by
      cases t with
      | true => exact .inr (.of (g _ _ h))
      | false => exact .inl (.of (g _ _ h))
    have lv : ∀ {p : Addr} {zs : List V} {H' : Hp}, Same G H' → G p = some (if t then HO.tup zs else HO.lst zs) → LenV K (.ref p) H' zs.length := fun {p zs H'} g h => (sq g h).imp (fun z => ⟨_, z, rfl⟩) fun z => ⟨_, z, rfl⟩
    have lx := dxs.length
    have ly := dys.length
    have zl := szL_len es
    have ze := sqD_sz t es
    refine ⟨_, rfl, .ref a, xs.length, rfl, lv gh ha, _, rfl, .ref b, ys.length, rfl, lv gh hb', _, _, rfl, rfl, _, rfl, ite2 (fun c => ?_) (fun c => ?_)⟩
    · have c : ((xs.length : Nat) : Int) = ((ys.length : Nat) : Int) := dec_of c
      refine ⟨_, rfl, .ref b, ys.length, rfl, lv gh hb', _, rfl, by omega, by omega, fun l hl => ?_⟩
      refine lc_range (lo := 0) (n := ys.length) (fun i H' => Same H2 H' ∧ H2 l = none ∧ H' l = some (.lst (((List.range i).map (eqAt ds es)).map V.bl))) ⟨New.same (o := .lst []) ⟨hl, rfl⟩, hl, upd_same⟩ ?_ ?_
      · rintro i H3 hi ⟨g3, fl, h3⟩
        have gG := gh.trans g3
        obtain ⟨x, hx⟩ : ∃ x, xs[i]? = some x := ⟨_, List.getElem?_eq_getElem (by omega)⟩
        obtain ⟨y, hy⟩ : ∃ y, ys[i]? = some y := ⟨_, List.getElem?_eq_getElem (by omega)⟩
        obtain ⟨d1, hd1, dd1⟩ := dxs.get hx
        obtain ⟨e1, he1, de1⟩ := dys.get hy
        have z1 := szL_get he1
        have dp := depth_get he1
        have dq := sq_depth dk
        have ei : eqAt ds es i = sameD d1 e1 := by unfold eqAt; rw [List.getD_eq_getElem?_getD, List.getD_eq_getElem?_getD, hd1, he1]; rfl
        refine ⟨rfl, yesT ⟨_, rfl, _, rfl, ?_⟩⟩
        have ix : ∀ {p : Addr} {zs : List V} {z : V} {H' : Hp} {R : VK}, Same G H' → G p = some (if t then HO.tup zs else HO.lst zs) → zs[i]? = some z → R z H' → rIx K (.ref p) (.int (0 + (i : Int))) H' R := fun {p zs z H' R} g h at_ r => by
          rw [Int.zero_add]
          rcases sq g h with h | h
          · exact .inl ⟨p, zs, _, z, rfl, rfl, h, atI_nat at_, r⟩
          · exact .inr (.inl ⟨p, zs, _, z, rfl, rfl, h, atI_nat at_, r⟩)
        refine ix gG ha hx ⟨_, rfl, _, rfl, ix gG hb' hy ⟨G, x, y, d1, e1, rfl, gG, dd1, de1, by omega, by omega, fun H4 s4 => ⟨_, s4 _ _ h3, ?_, ?_, fl, ?_⟩⟩⟩
        · rw [List.length_map, List.length_map, List.length_range]
          exact lt (by omega)
        · intro p o hp
          rw [upd_ne fun z => by rw [z, fl] at hp; cases hp]
          exact s4 _ _ (g3 _ _ hp)
        · rw [upd_same, List.range_succ, List.map_append, List.map_append]
          show _ = some (HO.lst (_ ++ [V.bl (eqAt ds es i)]))
          rw [ei]
      · rintro H3 ⟨g3, fl, h3⟩
        refine ⟨l, _, rfl, .of h3, ?_⟩
        have := q2 H3 g3
        have e : sameD (sqD t ds) (sqD t es) = sameL ds es := by cases t <;> rfl
        rw [e, sameL_at (by omega), ← ly] at this
        exact this
    · have c : ¬ ((xs.length : Nat) : Int) = ((ys.length : Nat) : Int) := dec_not c
      refine no ?_
      have e : sameD (sqD t ds) (sqD t es) = sameL ds es := by cases t <;> rfl
      rw [e]
      exact sameL_len (by omega)
theorem ok_alike (Z : Zs mg) (D : Ds K mg) : ∀ k, Cal P w K mg base "_law_alike" k ["one", "two"] (spAlike k)
  | 0 => no_levelA D.d_law_alike fun vs H Q E h => by
    obtain ⟨G, v, w, d, e, _, _, _, _, h0, _⟩ := h
    omega
  | k + 1 => ok_alike_step Z D k (ok_alike Z D k)


theorem AllMv.nil' {n : Int} : AllMv n [] := fun m hm => by cases hm
theorem AllMv.cons' {n : Int} {m : List Int} {T : List (List Int)} (h : IsMv m n) (t : AllMv n T) : AllMv n (m :: T) := fun x hx => (List.mem_cons.mp hx).elim (fun e => e ▸ h) (t x)
theorem AllMv.app' {n : Int} {T U : List (List Int)} (h : AllMv n T) (t : AllMv n U) : AllMv n (T ++ U) := fun x hx => (List.mem_append.mp hx).elim (h x) (t x)
def Tld (S : Sr) (G H : Hp) (p : Addr) (n : Int) (T : List (List Int)) (H' : Hp) : Prop := ∃ (G' : Hp) (q : Addr) (ts : List V), Go S G H G' H' ∧ G' p = none ∧ G' q = none ∧ H p = none ∧ H q = none ∧ H' p = some (.lst [.int n, .ref q]) ∧ H' q = some (.lst ts) ∧ DaAll G' ts (T.map rowD) ∧ AllMv n T ∧ 0 ≤ n ∧ n ≤ 12 ∧ T.length ≤ 8
theorem Tld.mk {S : Sr} {G H G1 H1 : Hp} {p q : Addr} {n : Int} {T : List (List Int)} {ts : List V} (s : Go S G H G1 H1) (gp : G1 p = none) (gq : G1 q = none) (fp : H p = none) (fq : H q = none) (hp : H1 p = some (.lst [.int n, .ref q])) (hq : H1 q = some (.lst ts)) (dt : DaAll H1 ts (T.map rowD)) (mv : AllMv n T) (n0 : 0 ≤ n) (n12 : n ≤ 12) (l : T.length ≤ 8) : Tld S G H p n T H1 :=
  ⟨fullG G1 H1, q, ts, s.full, full_else hp rfl gp, full_else hq rfl gq, fp, fq, hp, hq, rows_full s.gh dt, mv, n0, n12, l⟩
def spTold0 : Sp := fun vs H Q _ => ∃ (S : Sr) (G : Hp), vs = [.ref S.a] ∧ Wd S G H ∧ ∀ (p : Addr) (n : Int) (T : List (List Int)) (H' : Hp), Tld S G H p n T H' → Q (.ref p) H'
theorem tld_lit {S : Sr} {G H G1 Ha Hc Hd : Hp} {p q : Addr} {n : Int} {T : List (List Int)} {ts : List V} (s : Go S G H G1 Ha) (dt : DaAll Ha ts (T.map rowD)) (n3 : New Ha q (.lst ts) Hc) (n4 : New Hc p (.lst [.int n, .ref q]) Hd) (mv : AllMv n T) (n0 : 0 ≤ n) (n12 : n ≤ 12) (l : T.length ≤ 8) : Tld S G H p n T Hd ∧ Go S G H G1 Hd := by
  obtain ⟨s2, gq, hq, fq⟩ := s.loc n3
  obtain ⟨s3, gp, hp, fp⟩ := s2.loc n4
  exact ⟨.mk s3 gp gq fp fq hp (n4.else hq) (dt.up (n3.same.trans n4.same)) mv n0 n12 l, s3⟩
theorem Tld.later {S : Sr} {G H H1 H2 : Hp} {p : Addr} {n : Int} {T : List (List Int)} (t : Tld S G H p n T H1) (g : Same H1 H2) : Tld S G H p n T H2 := by
  obtain ⟨G1, q, ts, s, gp, gq, fp, fq, hp, hq, r⟩ := t
  exact ⟨G1, q, ts, s.pure g, gp, gq, fp, fq, g _ _ hp, g _ _ hq, r⟩
theorem ok_menu (Z : Zs mg) (D : Ds K mg) (c__law_take : Cal P w K mg base "_law_take" 2 ["store", "many"] spTake) : Cal P w K mg base "_law_arena_menu" 3 ["store"] spTold0 := by
  refine Def.cal D.d_law_arena_menu sc_law_arena_menu (fun vs H Q E h => ?_) (fun f cdv A outer s H vs Q E hr h => ?_)
  · obtain ⟨S, G, rfl, wd, q⟩ := h
    rfl
  obtain ⟨S, G, rfl, wd, q⟩ := h
  refine ⟨_, (pss_cons (ps_set (i := 1) sc_law_arena_menu.nd rfl (Or.inl rfl) (pe_cal c__law_take (hr.mono (by first | decide | omega)) (by rfl) (pa_cons (pv 0) (pa_cons pe_int pa_nil))))
      (pss_cons (ps_if (pt_cmp (pc_lt (pv 1) pe_int) (nomark _)) (pss_one (ps_ret (pe_ix ix_list (pe_lstN (pa_cons (pe_lstN (pa_cons pe_int (pa_cons (pe_lstN (pa_cons (pe_tupN (pa_cons pe_int (pa_cons pe_int (pa_cons pe_int (pa_cons pe_int (pa_cons pe_int (pa_cons pe_int pa_nil))))))) pa_nil)) pa_nil))) (pa_cons (pe_lstN (pa_cons pe_int (pa_cons (pe_lstN (pa_cons (pe_tupN (pa_cons pe_int (pa_cons pe_int (pa_cons pe_int (pa_cons pe_int (pa_cons pe_int (pa_cons pe_int (pa_cons pe_int (pa_cons pe_int pa_nil))))))))) pa_nil)) pa_nil))) (pa_cons (pe_lstN (pa_cons pe_int (pa_cons (pe_lstN (pa_cons (pe_tupN (pa_cons pe_int (pa_cons pe_int (pa_cons pe_int (pa_cons pe_int (pa_cons pe_int (pa_cons pe_int (pa_cons pe_int (pa_cons pe_int pa_nil))))))))) (pa_cons (pe_tupN (pa_cons pe_int (pa_cons pe_int (pa_cons pe_int (pa_cons pe_int (pa_cons pe_int (pa_cons pe_int (pa_cons pe_int (pa_cons pe_int pa_nil))))))))) pa_nil))) pa_nil))) pa_nil)))) (pv 1) (fun _ _ => rfl)))) pss_nil)
      (pss_cons (ps_if (pt_cmp (pc_eqI (pv 1) pe_int) (nomark _)) (pss_one (ps_ret (pe_lstN (pa_cons pe_int (pa_cons (pe_lstN (pa_cons (pe_tupN (pa_cons pe_int (pa_cons pe_int (pa_cons pe_int (pa_cons pe_int (pa_cons pe_int (pa_cons pe_int (pa_cons pe_int (pa_cons pe_int (pa_cons pe_int (pa_cons pe_int (pa_cons pe_int (pa_cons pe_int pa_nil))))))))))))) (pa_cons (pe_tupN (pa_cons pe_int (pa_cons pe_int (pa_cons pe_int (pa_cons pe_int (pa_cons pe_int (pa_cons pe_int (pa_cons pe_int (pa_cons pe_int (pa_cons pe_int (pa_cons pe_int (pa_cons pe_int (pa_cons pe_int pa_nil))))))))))))) pa_nil))) pa_nil))))) pss_nil)
      (pss_cons (ps_if (pt_cmp (pc_eqI (pv 1) pe_int) (nomark _)) (pss_one (ps_ret (pe_lstN (pa_cons pe_int (pa_cons (pe_lstN (pa_cons (pe_tupN (pa_cons pe_int (pa_cons pe_int (pa_cons pe_int (pa_cons pe_int (pa_cons pe_int (pa_cons pe_int (pa_cons pe_int (pa_cons pe_int (pa_cons pe_int (pa_cons pe_int (pa_cons pe_int (pa_cons pe_int pa_nil))))))))))))) pa_nil)) pa_nil))))) pss_nil)
      (pss_cons (ps_if (pt_cmp (pc_eqI (pv 1) pe_int) (nomark _)) (pss_one (ps_ret (pe_lstN (pa_cons pe_int (pa_cons (pe_lstN (pa_cons (pe_tupN (pa_cons pe_int (pa_cons pe_int (pa_cons pe_int (pa_cons pe_int pa_nil))))) (pa_cons (pe_tupN (pa_cons pe_int (pa_cons pe_int (pa_cons pe_int (pa_cons pe_int pa_nil))))) (pa_cons (pe_tupN (pa_cons pe_int (pa_cons pe_int (pa_cons pe_int (pa_cons pe_int pa_nil))))) pa_nil)))) pa_nil))))) pss_nil)
      (pss_cons (ps_if (pt_cmp (pc_eqI (pv 1) pe_int) (nomark _)) (pss_one (ps_ret (pe_lstN (pa_cons pe_int (pa_cons (pe_lstN (pa_cons (pe_tupN (pa_cons pe_int (pa_cons pe_int (pa_cons pe_int (pa_cons pe_int (pa_cons pe_int (pa_cons pe_int pa_nil))))))) (pa_cons (pe_tupN (pa_cons pe_int (pa_cons pe_int (pa_cons pe_int (pa_cons pe_int (pa_cons pe_int (pa_cons pe_int pa_nil))))))) pa_nil))) pa_nil))))) pss_nil)
      (pss_one (ps_ret (pe_lstN (pa_cons pe_int (pa_cons (pe_lstN (pa_cons (pe_tupN (pa_cons pe_int (pa_cons pe_int (pa_cons pe_int (pa_cons pe_int (pa_cons pe_int (pa_cons pe_int (pa_cons pe_int (pa_cons pe_int (pa_cons pe_int (pa_cons pe_int (pa_cons pe_int (pa_cons pe_int pa_nil))))))))))))) pa_nil)) pa_nil))))))))))), ?_⟩
  refine ⟨_, rfl, S, G, 8, rfl, wd, by omega, fun d1 H1 p0 p1 s1 => ?_⟩
  have row : ∀ {p : Addr} {ns : List Int} {Ha Hb : Hp}, New Ha p (.tup (ns.map V.int)) Hb → Da Hb (.ref p) (rowD ns) := fun n => .tup n.at (DaAll.ints _)
  refine ⟨_, rfl, _, _, rfl, rfl, _, rfl, ite2 (fun c => ?_) (fun c => ?_)⟩
  · have c : d1 < 3 := dec_of c
    refine ⟨(by show 6 ≤ sizeLine; decide), fun ax0 Hxa0 nxa0 => ⟨(by show 1 ≤ sizeLine; decide), fun qx Hxq nxq => ⟨(by show 2 ≤ sizeLine; decide), fun px Hxp nxp => ?_⟩⟩⟩
    have sxa0 := (s1.loc nxa0).1
    have tx := tld_lit (n := 6) (T := [[1, 2, 3, 0, 5, 4]]) sxa0 (.cons (row nxa0) .nil) nxq nxp (.cons' (by unfold IsMv; decide +kernel) .nil') (by decide) (by decide) (by decide)
    refine ⟨(by show 8 ≤ sizeLine; decide), fun ay0 Hya0 nya0 => ⟨(by show 1 ≤ sizeLine; decide), fun qy Hyq nyq => ⟨(by show 2 ≤ sizeLine; decide), fun py Hyp nyp => ?_⟩⟩⟩
    have sya0 := (tx.2.loc nya0).1
    have ty := tld_lit (n := 8) (T := [[1, 2, 3, 0, 6, 7, 4, 5]]) sya0 (.cons (row nya0) .nil) nyq nyp (.cons' (by unfold IsMv; decide +kernel) .nil') (by decide) (by decide) (by decide)
    refine ⟨(by show 8 ≤ sizeLine; decide), fun az0 Hza0 nza0 => ⟨(by show 8 ≤ sizeLine; decide), fun az1 Hza1 nza1 => ⟨(by show 2 ≤ sizeLine; decide), fun qz Hzq nzq => ⟨(by show 2 ≤ sizeLine; decide), fun pz Hzp nzp => ?_⟩⟩⟩⟩
    have sza0 := (ty.2.loc nza0).1
    have sza1 := (sza0.loc nza1).1
    have tz := tld_lit (n := 8) (T := [[1, 2, 3, 0, 5, 4, 6, 7], [0, 1, 2, 3, 4, 5, 7, 6]]) sza1 (.cons ((row nza0).up nza1.same) (.cons (row nza1) .nil)) nzq nzp (.cons' (by unfold IsMv; decide +kernel) (.cons' (by unfold IsMv; decide +kernel) .nil')) (by decide) (by decide) (by decide)
    refine ⟨(by show 3 ≤ sizeLine; decide), fun l H2 n2 => ⟨_, rfl, ?_⟩⟩
    have ty3 := ty.1.later ((nza0.same.trans nza1.same).trans ((nzq.same.trans nzp.same).trans n2.same))
    have tx3 := tx.1.later ((nya0.same.trans (nyq.same.trans nyp.same)).trans ((nza0.same.trans nza1.same).trans ((nzq.same.trans nzp.same).trans n2.same)))
    have tz3 := tz.1.later n2.same
    have h2 := n2.at
    have dd : d1 = 0 ∨ d1 = 1 ∨ d1 = 2 := by omega
    rcases dd with rfl | rfl | rfl
    · exact ⟨l, _, _, .ref px, rfl, rfl, .of h2, rfl, q _ _ _ _ tx3⟩
    · exact ⟨l, _, _, .ref py, rfl, rfl, .of h2, rfl, q _ _ _ _ ty3⟩
    · exact ⟨l, _, _, .ref pz, rfl, rfl, .of h2, rfl, q _ _ _ _ tz3⟩
  refine ⟨_, rfl, _, _, rfl, rfl, _, rfl, ite2 (fun c => ?_) (fun c => ?_)⟩
  · refine ⟨(by show 12 ≤ sizeLine; decide), fun au0 Hua0 nua0 => ⟨(by show 12 ≤ sizeLine; decide), fun au1 Hua1 nua1 => ⟨(by show 2 ≤ sizeLine; decide), fun qu Huq nuq => ⟨(by show 2 ≤ sizeLine; decide), fun pu Hup nup => ?_⟩⟩⟩⟩
    have sua0 := (s1.loc nua0).1
    have sua1 := (sua0.loc nua1).1
    have tu := tld_lit (n := 12) (T := [[1, 2, 3, 0, 5, 4, 6, 7, 8, 9, 10, 11], [0, 1, 2, 3, 4, 5, 7, 8, 9, 6, 11, 10]]) sua1 (.cons ((row nua0).up nua1.same) (.cons (row nua1) .nil)) nuq nup (.cons' (by unfold IsMv; decide +kernel) (.cons' (by unfold IsMv; decide +kernel) .nil')) (by decide) (by decide) (by decide)
    exact q _ _ _ _ tu.1
  refine ⟨_, rfl, _, _, rfl, rfl, _, rfl, ite2 (fun c => ?_) (fun c => ?_)⟩
  · refine ⟨(by show 12 ≤ sizeLine; decide), fun av0 Hva0 nva0 => ⟨(by show 1 ≤ sizeLine; decide), fun qv Hvq nvq => ⟨(by show 2 ≤ sizeLine; decide), fun pv Hvp nvp => ?_⟩⟩⟩
    have sva0 := (s1.loc nva0).1
    have tv := tld_lit (n := 12) (T := [[1, 2, 3, 4, 5, 6, 7, 0, 9, 10, 11, 8]]) sva0 (.cons (row nva0) .nil) nvq nvp (.cons' (by unfold IsMv; decide +kernel) .nil') (by decide) (by decide) (by decide)
    exact q _ _ _ _ tv.1
  refine ⟨_, rfl, _, _, rfl, rfl, _, rfl, ite2 (fun c => ?_) (fun c => ?_)⟩
  · refine ⟨(by show 4 ≤ sizeLine; decide), fun aw0 Hwa0 nwa0 => ⟨(by show 4 ≤ sizeLine; decide), fun aw1 Hwa1 nwa1 => ⟨(by show 4 ≤ sizeLine; decide), fun aw2 Hwa2 nwa2 => ⟨(by show 3 ≤ sizeLine; decide), fun qw Hwq nwq => ⟨(by show 2 ≤ sizeLine; decide), fun pw Hwp nwp => ?_⟩⟩⟩⟩⟩
    have swa0 := (s1.loc nwa0).1
    have swa1 := (swa0.loc nwa1).1
    have swa2 := (swa1.loc nwa2).1
    have tw := tld_lit (n := 4) (T := [[1, 0, 2, 3], [0, 2, 1, 3], [0, 1, 3, 2]]) swa2 (.cons (((row nwa0).up nwa1.same).up nwa2.same) (.cons ((row nwa1).up nwa2.same) (.cons (row nwa2) .nil))) nwq nwp (.cons' (by unfold IsMv; decide +kernel) (.cons' (by unfold IsMv; decide +kernel) (.cons' (by unfold IsMv; decide +kernel) .nil'))) (by decide) (by decide) (by decide)
    exact q _ _ _ _ tw.1
  refine ⟨_, rfl, _, _, rfl, rfl, _, rfl, ite2 (fun c => ?_) (fun c => ?_)⟩
  · refine ⟨(by show 6 ≤ sizeLine; decide), fun as0 Hsa0 nsa0 => ⟨(by show 6 ≤ sizeLine; decide), fun as1 Hsa1 nsa1 => ⟨(by show 2 ≤ sizeLine; decide), fun qs Hsq nsq => ⟨(by show 2 ≤ sizeLine; decide), fun ps Hsp nsp => ?_⟩⟩⟩⟩
    have ssa0 := (s1.loc nsa0).1
    have ssa1 := (ssa0.loc nsa1).1
    have ts := tld_lit (n := 6) (T := [[0, 3, 4, 1, 2, 5], [3, 4, 0, 5, 1, 2]]) ssa1 (.cons ((row nsa0).up nsa1.same) (.cons (row nsa1) .nil)) nsq nsp (.cons' (by unfold IsMv; decide +kernel) (.cons' (by unfold IsMv; decide +kernel) .nil')) (by decide) (by decide) (by decide)
    exact q _ _ _ _ ts.1
  refine ⟨(by show 12 ≤ sizeLine; decide), fun at0 Hta0 nta0 => ⟨(by show 1 ≤ sizeLine; decide), fun qt Htq ntq => ⟨(by show 2 ≤ sizeLine; decide), fun pt Htp ntp => ?_⟩⟩⟩
  have sta0 := (s1.loc nta0).1
  have tt := tld_lit (n := 12) (T := [[1, 2, 0, 4, 5, 6, 3, 8, 9, 10, 11, 7]]) sta0 (.cons (row nta0) .nil) ntq ntp (.cons' (by unfold IsMv; decide +kernel) .nil') (by decide) (by decide) (by decide)
  exact q _ _ _ _ tt.1


theorem sum_pos0 : ∀ {Z : List Int}, (∀ z ∈ Z, 0 ≤ z) → 0 ≤ Z.sum
  | [], _ => by simp
  | a :: r, p => by
    have := sum_pos0 fun z hz => p z (List.mem_cons_of_mem a hz)
    have := p a List.mem_cons_self
    rw [List.sum_cons]
    omega
theorem sum_ge0 : ∀ {Z : List Int}, (∀ z ∈ Z, 0 ≤ z) → ∀ z ∈ Z, z ≤ Z.sum
  | [], _, z, h => by cases h
  | a :: r, p, z, h => by
    have pr : ∀ z ∈ r, 0 ≤ z := fun z hz => p z (List.mem_cons_of_mem _ hz)
    have r0 : 0 ≤ r.sum := sum_pos0 pr
    have a1 := p a List.mem_cons_self
    rw [List.sum_cons]
    rcases List.mem_cons.mp h with e | h
    · omega
    · have := sum_ge0 pr z h
      omega
theorem sum_take0 {Z : List Int} (p : ∀ z ∈ Z, 0 ≤ z) (k : Nat) : (Z.take k).sum ≤ Z.sum := by
  have e : Z.sum = (Z.take k).sum + (Z.drop k).sum := by rw [← List.sum_append, List.take_append_drop]
  have := sum_pos0 fun z hz => p z (List.mem_of_mem_drop (i := k) hz)
  omega
theorem sgn_mv0 {n s g : Int} (h0 : 0 ≤ n) (hg : g = 1 ∨ g = -1) : IsMv ((List.range n.toNat).map fun (k : Nat) => (g * (k : Int) + s) % n) n := by
  by_cases c : n = 0
  · subst c
    exact .nil
  · exact sgn_mv (by omega) hg
def spTurned : Sp := fun vs H Q _ => ∃ (S : Sr) (G : Hp) (n : Int), vs = [.ref S.a, .int n] ∧ Wd S G H ∧ 0 ≤ n ∧ n ≤ 12 ∧
  ∀ (l : Addr) (xs : List V) (T : List (List Int)) (G' H' : Hp), Go S G H G' H' → H l = none → G' l = none → H' l = some (.lst xs) → DaAll G' xs (T.map rowD) → AllMv n T → T.length ≤ 8 → Q (.ref l) H'
theorem ok_turned (Z : Zs mg) (D : Ds K mg) (c__law_take : Cal P w K mg base "_law_take" 2 ["store", "many"] spTake) (c__law_pick : Cal P w K mg base "_law_pick" 3 ["store", "things"] spPick) : Cal P w K mg base "_law_turned_blocks" 4 ["store", "points"] spTurned := by
  refine Def.cal D.d_law_turned_blocks sc_law_turned_blocks (fun vs H Q E h => ?_) (fun f cdv A outer s H vs Q E hr h => ?_)
  · obtain ⟨S, G, n, rfl, wd, n0, n12, q⟩ := h
    rfl
  obtain ⟨S, G, n, rfl, wd, n0, n12, q⟩ := h
  refine ⟨_, (pss_cons (ps_set (i := 2) sc_law_turned_blocks.nd rfl (Or.inl rfl) (pe_lstN pa_nil))
      (pss_cons (ps_for PassesOwn.never rfl (pi_range1 (by rfl) Z.z_range (pa_cons (pv 1) pa_nil)) (pg_name (i := 3) sc_law_turned_blocks.nd rfl (Or.inl rfl)) (pss_one (ps_expr (pe_bm PySem.F.plainAttrs_list PySem.F.slot_list_append PySem.F.type_list_append mt_appendN (pv 2) (pa_cons (pe_callB (call_min2 rfl) (by rfl) Z.z_min (by decide +kernel) (pa_cons (pe_op op_add pe_int (pe_cal c__law_take (hr.mono (by first | decide | omega)) (by rfl) (pa_cons (pv 0) (pa_cons pe_int pa_nil)))) (pa_cons (pe_op op_sub (pv 1) (pe_callB (cr_sum rfl) (by rfl) Z.z_sum (by decide +kernel) (pa_cons (pv 2) pa_nil))) pa_nil))) pa_nil)))))
      (pss_cons (ps_set (i := 4) sc_law_turned_blocks.nd rfl (Or.inl rfl) (pe_lstN pa_nil))
      (pss_cons (ps_for PassesOwn.never rfl (pi_range1 (by rfl) Z.z_range (pa_cons (pe_op op_add pe_int (pe_cal c__law_take (hr.mono (by first | decide | omega)) (by rfl) (pa_cons (pv 0) (pa_cons pe_int pa_nil)))) pa_nil)) (pg_name (i := 5) sc_law_turned_blocks.nd rfl (Or.inl rfl)) (pss_cons (ps_set (i := 6) sc_law_turned_blocks.nd rfl (Or.inl rfl) (pe_lstN pa_nil))
      (pss_cons (ps_for PassesOwn.never rfl (pi_list (pv 2)) (pg_name (i := 7) sc_law_turned_blocks.nd rfl (Or.inl rfl)) (pss_cons (ps_set (i := 8) sc_law_turned_blocks.nd rfl (Or.inl rfl) (pe_callB call_len_seq (by rfl) Z.z_len (by decide +kernel) (pa_cons (pv 6) pa_nil)))
      (pss_cons (ps_set (i := 9) sc_law_turned_blocks.nd rfl (Or.inl rfl) (pe_cal c__law_pick (hr.mono (by first | decide | omega)) (by rfl) (pa_cons (pv 0) (pa_cons (pe_lstN (pa_cons pe_int (pa_cons pe_int (pa_cons (pe_cal c__law_take (hr.mono (by first | decide | omega)) (by rfl) (pa_cons (pv 0) (pa_cons pe_int pa_nil))) pa_nil)))) pa_nil))))
      (pss_cons (ps_set (i := 10) sc_law_turned_blocks.nd rfl (Or.inl rfl) (pe_cal c__law_pick (hr.mono (by first | decide | omega)) (by rfl) (pa_cons (pv 0) (pa_cons (pe_lstN (pa_cons pe_int (pa_cons pe_int (pa_cons pe_int (pa_cons (pe_un un_neg pe_int) pa_nil))))) pa_nil))))
      (pss_one (ps_for PassesOwn.never rfl (pi_range1 (by rfl) Z.z_range (pa_cons (pv 7) pa_nil)) (pg_name (i := 3) sc_law_turned_blocks.nd rfl (Or.inl rfl)) (pss_one (ps_expr (pe_bm PySem.F.plainAttrs_list PySem.F.slot_list_append PySem.F.type_list_append mt_appendN (pv 6) (pa_cons (pe_op op_add (pv 8) (pe_op op_mod (pe_callTy call_int1 (by rfl) Z.z_int (by decide +kernel) (pa_cons (pe_op op_add (pe_op op_mul (pv 10) (pv 3)) (pv 9)) pa_nil)) (pv 7))) pa_nil))))))))))
      (pss_one (ps_expr (pe_bm PySem.F.plainAttrs_list PySem.F.slot_list_append PySem.F.type_list_append mt_appendN (pv 4) (pa_cons (pe_callTy call_tupleN (by rfl) Z.z_tuple (by decide +kernel) (pa_cons (pv 6) pa_nil)) pa_nil)))))))
      (pss_one (ps_ret (pv 4))))))), ?_⟩
  refine ⟨by show 0 ≤ sizeLine; decide, fun l1 H1 n1 => ?_⟩
  obtain ⟨s1, g1, h1, f1⟩ := (Go.refl wd).loc n1
  refine ⟨_, rfl, n, rfl, by omega, by omega, for_range (lo := 0) (n := n.toNat) (fun i σ' H' => ∃ (Zl : List Int) (y3 : Option V), σ' = [some (.ref S.a), some (.int n), some (.ref l1), y3, none, none, none, none, none, none, none] ∧ Go S G H G H' ∧ H' l1 = some (.lst (Zl.map V.int)) ∧
    (∀ z ∈ Zl, 0 ≤ z) ∧ Zl.sum ≤ n ∧ (Zl.sum = n ∨ (i : Int) ≤ Zl.sum) ∧ Zl.length = i) ⟨[], none, rfl, s1, h1, fun z hz => (by cases hz), by simp; omega, .inr (by simp), rfl⟩ ?_ ?_⟩
  · rintro i σ' H2 hi ⟨Zl, y3, rfl, s2, h2, pos, sum, low, lz⟩
    refine ⟨_, rfl, .inl ⟨rfl, _, .of h2⟩, _, rfl, S, G, 6, rfl, s2.wd, by omega, fun d H3 d0 d1 s3 => ⟨_, _, rfl, rfl, _, rfl, _, rfl, l1, Zl, rfl, .of (s3.hh h2 (s2.ns f1)), _, _, rfl, rfl, _, _, rfl, ?_⟩⟩
    have h3 := s3.hh h2 (s2.ns f1)
    have s3 := s2.trans s3
    obtain ⟨m, em⟩ : ∃ m, m = (if n - Zl.sum < 1 + d then n - Zl.sum else 1 + d) := ⟨_, rfl⟩
    have bm : 0 ≤ m ∧ m ≤ n - Zl.sum ∧ (m = n - Zl.sum ∨ 1 ≤ m) := by
      by_cases z : n - Zl.sum < 1 + d
      · rw [if_pos z] at em; omega
      · rw [if_neg z] at em; omega
    refine ⟨l1, _, _, rfl, rfl, h3, ?_, fun H4 e4 => ⟨Zl ++ [m], _, rfl, s3.mut g1 f1 e4, ?_, fun z hz => ?_, ?_, ?_, by rw [List.length_append, lz]; rfl⟩⟩
    · rw [List.length_map, lz]
      exact Nat.lt_of_lt_of_le (show i < 100 by omega) (by decide)
    · rw [upd_at e4, List.map_append, em]
      rfl
    · rcases List.mem_append.mp hz with k | k
      · exact pos z k
      · rw [List.mem_singleton.mp k]; exact bm.1
    · rw [List.sum_append, List.sum_cons, List.sum_nil]
      omega
    · rw [List.sum_append, List.sum_cons, List.sum_nil]
      omega
  rintro σ' H2 ⟨Zl, y3, rfl, s2, h2, pos, sum, low, lz⟩
  have sum : Zl.sum = n := by omega
  refine ⟨by show 0 ≤ sizeLine; decide, fun l2 H3 n3 => ?_⟩
  obtain ⟨s3, g2, h3, f2⟩ := s2.loc n3
  have h1' := n3.else h2
  have ne12 : l1 ≠ l2 := fun z => by rw [z] at h2; rw [n3.fr] at h2; cases h2
  refine ⟨_, rfl, S, G, 3, rfl, s3.wd, by omega, fun c H4 c0 c1 s4 => ⟨_, _, rfl, rfl, _, rfl, by omega, by omega, ?_⟩⟩
  have h4a := s4.hh h1' (s3.ns f1)
  have h4b := s4.hh h3 (s3.ns f2)
  have s4 := s3.trans s4
  have zb : ∀ z ∈ Zl, z ≤ 12 := fun z hz => by
    have := sum_ge0 pos z hz
    omega
  refine for_range (lo := 0) (n := (1 + c).toNat) (fun j σ' H' => ∃ (G' : Hp) (xs : List V) (T : List (List Int)) (y3 y5 y6 y7 y8 y9 y10 : Option V), σ' = [some (.ref S.a), some (.int n), some (.ref l1), y3, some (.ref l2), y5, y6, y7, y8, y9, y10] ∧ Go S G H G' H' ∧ G' l1 = none ∧ G' l2 = none ∧
    H' l1 = some (.lst (Zl.map V.int)) ∧ H' l2 = some (.lst xs) ∧ T.length = j ∧ DaAll G' xs (T.map rowD) ∧ AllMv n T) ⟨G, [], [], y3, _, _, _, _, _, _, rfl, s4, g1, g2, h4a, h4b, rfl, .nil, .nil'⟩ ?_ ?_
  · rintro j σ' H5 hj ⟨G5, xs, T, y3, y5, y6, y7, y8, y9, y10, rfl, s5, g51, g52, h5a, h5b, lx, dT, mvT⟩
    have lxs := dT.length
    rw [List.length_map] at lxs
    refine ⟨by show 0 ≤ sizeLine; decide, fun l3 H6 n6 => ?_⟩
    obtain ⟨s6, g63, h6, f3⟩ := s5.loc n6
    have h6a := n6.else h5a
    have h6b := n6.else h5b
    have ne31 : l1 ≠ l3 := fun z => by rw [z] at h5a; rw [n6.fr] at h5a; cases h5a
    have ne32 : l2 ≠ l3 := fun z => by rw [z] at h5b; rw [n6.fr] at h5b; cases h5b
    refine ⟨_, rfl, l1, rfl, ⟨_, .of h6a⟩, for_list (K := K) (a := l1) (xs := Zl.map V.int) (fun t σ' H' => ∃ (L : List Int) (y3 y7 y8 y9 y10 : Option V), σ' = [some (.ref S.a), some (.int n), some (.ref l1), y3, some (.ref l2), some (.int (0 + (j : Int))), some (.ref l3), y7, y8, y9, y10] ∧ Go S G H G5 H' ∧
      H' l1 = some (.lst (Zl.map V.int)) ∧ H' l2 = some (.lst xs) ∧ H' l3 = some (.lst (L.map V.int)) ∧ IsMv L (Zl.take t).sum ∧ 0 ≤ (Zl.take t).sum ∧ (Zl.take t).sum ≤ 12) ?_ ?_ ?_ ?_⟩
    · exact ⟨[], y3, y7, y8, y9, y10, rfl, s6, h6a, h6b, h6, .nil, by simp, by simp⟩
    · rintro t σ' H' - ⟨L, y3, y7, y8, y9, y10, rfl, s7, h7a, -⟩
      exact .of h7a
    · rintro t x σ' H7 hx ⟨L, y3, y7, y8, y9, y10, rfl, s7, h7a, h7b, h7c, mv, t0, t12⟩
      obtain ⟨z, hz, rfl⟩ := map_at hx
      have zm := List.mem_of_getElem? hz
      have z1 := pos z zm
      have z12 := zb z zm
      have ln := mv.len
      have step : (Zl.take (t + 1)).sum = (Zl.take t).sum + z := by rw [List.take_add_one, hz, List.sum_append]; simp
      have upto : (Zl.take (t + 1)).sum ≤ 12 := by
        have := sum_take0 pos (t + 1)
        omega
      refine ⟨_, rfl, l3, _, rfl, .inl (.of h7c), ?_⟩
      refine ⟨_, rfl, _, rfl, S, G5, 6, rfl, s7.wd, by omega, fun d H8 d0 d1 s8 => ⟨by show 3 ≤ sizeLine; decide, fun l4 H9 n9 => ?_⟩⟩
      have h8a := s8.hh h7a (s7.ns f1)
      have h8b := s8.hh h7b (s7.ns f2)
      have h8c := s8.hh h7c (s7.ns f3)
      have s8' := s7.trans s8
      obtain ⟨s9, g94, h94, f4⟩ := s8'.loc n9
      refine ⟨S, G5, .ref l4, _, rfl, s9.wd, .inl ⟨l4, rfl, s9.ns f4, h94⟩, (by show 0 < 3; decide), (by show 3 < 1000000; decide), fun x HA hx sA => ?_⟩
      obtain ⟨sh, rfl⟩ : ∃ sh, x = .int sh := by
        rcases List.mem_cons.mp hx with e | hx
        · exact ⟨_, e⟩
        rcases List.mem_cons.mp hx with e | hx
        · exact ⟨_, e⟩
        exact ⟨_, List.mem_singleton.mp hx⟩
      have hAa := sA.hh (n9.else h8a) (s9.ns f1)
      have hAb := sA.hh (n9.else h8b) (s9.ns f2)
      have hAc := sA.hh (n9.else h8c) (s9.ns f3)
      have sA' := s9.trans sA
      refine ⟨_, rfl, _, rfl, by show 4 ≤ sizeLine; decide, fun l5 HB nB => ?_⟩
      obtain ⟨sB, gB5, hB5, f5⟩ := sA'.loc nB
      refine ⟨S, G5, .ref l5, _, rfl, sB.wd, .inl ⟨l5, rfl, sB.ns f5, hB5⟩, (by show 0 < 4; decide), (by show 4 < 1000000; decide), fun x HC hx sC => ?_⟩
      obtain ⟨sg, rfl, hsg⟩ : ∃ sg : Int, x = .int sg ∧ (sg = 1 ∨ sg = -1) := by
        rcases List.mem_cons.mp hx with e | hx
        · exact ⟨_, e, .inl rfl⟩
        rcases List.mem_cons.mp hx with e | hx
        · exact ⟨_, e, .inl rfl⟩
        rcases List.mem_cons.mp hx with e | hx
        · exact ⟨_, e, .inl rfl⟩
        exact ⟨_, List.mem_singleton.mp hx, .inr rfl⟩
      have hCa := sC.hh (nB.else hAa) (sB.ns f1)
      have hCb := sC.hh (nB.else hAb) (sB.ns f2)
      have hCc := sC.hh (nB.else hAc) (sB.ns f3)
      have sC := sB.trans sC
      refine ⟨_, rfl, z, rfl, by omega, by omega, for_range (lo := 0) (n := z.toNat) (fun u σ' H' => ∃ y3 : Option V, σ' = [some (.ref S.a), some (.int n), some (.ref l1), y3, some (.ref l2), some (.int (0 + (j : Int))), some (.ref l3), some (.int z), some (.int ((L.map V.int).length : Nat)), some (.int sh), some (.int sg)] ∧
        Go S G H G5 H' ∧ H' l1 = some (.lst (Zl.map V.int)) ∧ H' l2 = some (.lst xs) ∧ H' l3 = some (.lst ((L ++ ((List.range u).map fun (k : Nat) => (sg * (k : Int) + sh) % z).map ((Zl.take t).sum + ·)).map V.int))) ⟨y3, rfl, sC, hCa, hCb, by simpa using hCc⟩ ?_ ?_⟩
      · rintro u σ' HA hu ⟨y4, rfl, sA, hAa, hAb, hAc⟩
        refine ⟨_, rfl, .inl ⟨rfl, _, .of hAc⟩, _, rfl, _, rfl, _, rfl, _, _, rfl, rfl, .inl ?_, _, rfl, _, _, rfl, rfl, .inl ⟨_, rfl, _, rfl, _, _, rfl, rfl, by omega, _, _, rfl, rfl, l3, _, _, rfl, rfl, hAc, ?_, fun HB eB => ?_⟩⟩
        · rcases hsg with rfl | rfl <;> decide
        · rw [List.length_map, List.length_append, List.length_map, List.length_map, List.length_range, ln]
          exact Nat.lt_of_lt_of_le (show _ < 100 by omega) (by decide)
        · refine ⟨_, rfl, sA.mut g63 f3 eB, upd_else eB hAa ne31, upd_else eB hAb ne32, ?_⟩
          have back : (((Zl.take t).sum.toNat : Nat) : Int) = (Zl.take t).sum := by omega
          rw [upd_at eB, List.range_succ, List.length_map, ln, Int.zero_add]
          simp [List.map_append, back]
      · rintro σ' HA ⟨y4, rfl, sA, hAa, hAb, hAc⟩
        refine ⟨_, _, _, _, _, _, rfl, sA, hAa, hAb, hAc, ?_, by omega, upto⟩
        rw [step]
        exact app_mv t0 (by omega) mv (sgn_mv0 (by omega) hsg)
    · rintro σ' H7 ⟨L, y3, y7, y8, y9, y10, rfl, s7, h7a, h7b, h7c, mv, t0, t12⟩
      rw [List.length_map, List.take_length, sum] at mv
      refine ⟨_, rfl, .inl ⟨rfl, _, .of h7b⟩, _, rfl, l3, _, rfl, .of h7c, fun p H8 n8 => ?_⟩
      obtain ⟨G8, s8, g8, k8, o8⟩ := s7.know n8
      have h8a := n8.else h7a
      have h8b := n8.else h7b
      have g81 : G8 l1 = none := by
        rw [o8 l1 fun z => by rw [z, n8.fr] at h7a; cases h7a]
        exact g51
      have g82 : G8 l2 = none := by
        rw [o8 l2 fun z => by rw [z, n8.fr] at h7b; cases h7b]
        exact g52
      refine ⟨l2, _, _, rfl, rfl, h8b, Nat.lt_of_lt_of_le (show xs.length < 4 by omega) (by decide), fun H9 e9 => ?_⟩
      refine ⟨G8, xs ++ [.ref p], T ++ [L], _, _, _, _, _, _, _, rfl, s8.mut g82 f2 e9, g81, g82, upd_else e9 h8a ne12, upd_at e9, by rw [List.length_append, lx]; rfl, ?_, mvT.app' (.cons' mv .nil')⟩
      rw [List.map_append]
      exact (dT.up g8).append (.one (.tup k8 (DaAll.ints _)))
  · rintro σ' H5 ⟨G5, xs, T, y3, y5, y6, y7, y8, y9, y10, rfl, s5, g51, g52, h5a, h5b, lx, dT, mvT⟩
    exact ⟨_, rfl, q l2 xs T G5 H5 s5 f2 g52 h5b dT mvT (by omega)⟩


def spTold1 : Sp := fun vs H Q _ => ∃ (S : Sr) (G : Hp) (m : Int), vs = [.ref S.a, .int m] ∧ Wd S G H ∧ 0 ≤ m ∧ m ≤ 12 ∧ ∀ (p : Addr) (n : Int) (T : List (List Int)) (H' : Hp), Tld S G H p n T H' → Q (.ref p) H'
theorem rep_one (m : Nat) (v : V) : (List.replicate m [v]).flatten = List.replicate m v := by
  induction m with
  | zero => rfl
  | succ m ih => rw [List.replicate_succ, List.flatten_cons, ih]; rfl
theorem rep_rows {G : Hp} {p : Addr} {ns : List Int} (h : G p = some (.tup (ns.map V.int))) : ∀ m : Nat, DaAll G (List.replicate m (V.ref p)) ((List.replicate m ns).map rowD)
  | 0 => .nil
  | m + 1 => .cons (.tup h (DaAll.ints _)) (rep_rows h m)
theorem AllMv.rep {n : Int} {ns : List Int} (h : IsMv ns n) (m : Nat) : AllMv n (List.replicate m ns) := fun x hx => by rw [List.eq_of_mem_replicate hx]; exact h
theorem Tld.back {S : Sr} {G H H1 H2 : Hp} {p : Addr} {n : Int} {T : List (List Int)} (t : Tld S G H1 p n T H2) (s1 : Go S G H G H1) : Tld S G H p n T H2 := by
  obtain ⟨G1, q, ts, s, gp, gq, fp, fq, r⟩ := t
  exact ⟨G1, q, ts, s1.trans s, gp, gq, s1.fresh fp, s1.fresh fq, r⟩
theorem ok_arena_told (Z : Zs mg) (D : Ds K mg) (c__law_take : Cal P w K mg base "_law_take" 2 ["store", "many"] spTake) (c__law_move : Cal P w K mg base "_law_move" 4 ["store", "points"] spMove) (c__law_arena_menu : Cal P w K mg base "_law_arena_menu" 3 ["store"] spTold0) (c__law_turned_blocks : Cal P w K mg base "_law_turned_blocks" 4 ["store", "points"] spTurned) : Cal P w K mg base "_law_arena_told" 5 ["store", "points"] spTold1 := by
  refine Def.cal D.d_law_arena_told sc_law_arena_told (fun vs H Q E h => ?_) (fun f cdv A outer s H vs Q E hr h => ?_)
  · obtain ⟨S, G, n, rfl, wd, n0, n12, q⟩ := h
    rfl
  obtain ⟨S, G, n, rfl, wd, n0, n12, q⟩ := h
  refine ⟨_, (pss_cons (ps_set (i := 2) sc_law_arena_told.nd rfl (Or.inl rfl) (pe_cal c__law_take (hr.mono (by first | decide | omega)) (by rfl) (pa_cons (pv 0) (pa_cons pe_int pa_nil))))
      (pss_cons (ps_if (pt_cmp (pc_eqI (pv 2) pe_int) (nomark _)) (pss_one (ps_ret (pe_lstN (pa_cons (pv 1) (pa_cons (pe_op op_repL (pe_lstN (pa_cons (pe_tupRgN rfl (by rfl) Z.z_tuple (prg_1 (by rfl) Z.z_range (pv 1))) pa_nil)) (pe_cal c__law_take (hr.mono (by first | decide | omega)) (by rfl) (pa_cons (pv 0) (pa_cons pe_int pa_nil)))) pa_nil))))) pss_nil)
      (pss_cons (ps_if (pt_cmp (pc_lt (pv 2) pe_int) (nomark _)) (pss_one (ps_ret (pe_cal c__law_arena_menu (hr.mono (by first | decide | omega)) (by rfl) (pa_cons (pv 0) pa_nil)))) pss_nil)
      (pss_cons (ps_if (pt_cmp (pc_lt (pv 2) pe_int) (nomark _)) (pss_one (ps_ret (pe_lstN (pa_cons (pv 1) (pa_cons (pe_cal c__law_turned_blocks (hr.mono (by first | decide | omega)) (by rfl) (pa_cons (pv 0) (pa_cons (pv 1) pa_nil))) pa_nil))))) pss_nil)
      (pss_cons (ps_set (i := 3) sc_law_arena_told.nd rfl (Or.inl rfl) (pe_op op_add pe_int (pe_cal c__law_take (hr.mono (by first | decide | omega)) (by rfl) (pa_cons (pv 0) (pa_cons pe_int pa_nil)))))
      (pss_one (ps_ret (pe_lstN (pa_cons (pv 1) (pa_cons (pe_lc (own := [("k", 4)]) (g := gName 4) (tt := tYes) (by rfl) sc_law_arena_told.nd (pi_range1 (by rfl) Z.z_range (pa_cons (pv 3) pa_nil)) (blkOk_by (N := ["store", "points", "pick", "size", "k"]) (sc := defScope s_law_arena_told) (by decide +kernel)) (fun _ _ _ _ _ => pg_name (i := 4) sc_law_arena_told.nd rfl (Or.inl rfl)) (fun _ _ _ _ _ => pts_nil) (fun _ _ _ _ _ => (pe_cal c__law_move (hr.mono (by first | decide | omega)) (by rfl) (pa_cons (pv 0) (pa_cons (pv 1) pa_nil))))) pa_nil)))))))))), ?_⟩
  refine ⟨_, rfl, S, G, 8, rfl, wd, by omega, fun d1 H1 p0 p1 s1 => ?_⟩
  refine ⟨_, rfl, _, _, rfl, rfl, _, rfl, ite2 (fun c => ?_) (fun c => ?_)⟩
  · refine ⟨_, rfl, _, rfl, n, rfl, .of_le (by decide) (by omega) (by decide) (by omega), fun p H2 n2 => ?_⟩
    rw [rgV_rngI] at n2
    obtain ⟨G2, s2, g2, k2, -⟩ := s1.know n2
    refine ⟨by show 1 ≤ sizeLine; decide, fun l H3 n3 => ?_⟩
    obtain ⟨s3, gl, hl, fl⟩ := s2.loc n3
    refine ⟨_, rfl, S, G2, 3, rfl, s3.wd, by omega, fun d H4 e0 e1 s4 => ?_⟩
    have hl := s4.hh hl (s3.ns fl)
    have s4 := s3.trans s4
    refine ⟨l, _, _, rfl, rfl, hl, by omega, by omega, ?_, fun r H5 n5 => ?_⟩
    · show 1 * d.toNat ≤ sizeLine
      exact Nat.le_trans (show _ ≤ 3 by omega) (by decide)
    rw [rep_one] at n5
    obtain ⟨s5, gr, hr5, fr⟩ := s4.loc n5
    refine ⟨by show 2 ≤ sizeLine; decide, fun t H6 n6 => ?_⟩
    obtain ⟨s6, gt, ht, ft⟩ := s5.loc n6
    exact q t n _ H6 (.mk s6 gt gr ft fr ht (n6.else hr5) (rep_rows (s6.gh _ _ k2) d.toNat) (.rep rngI_mv _) n0 n12 (by rw [List.length_replicate]; omega))
  refine ⟨_, rfl, _, _, rfl, rfl, _, rfl, ite2 (fun c => ?_) (fun c => ?_)⟩
  · exact ⟨_, rfl, S, G, rfl, s1.wd, fun p m T H2 t => q p m T H2 (t.back s1)⟩
  refine ⟨_, rfl, _, _, rfl, rfl, _, rfl, ite2 (fun c => ?_) (fun c => ?_)⟩
  · refine ⟨_, rfl, _, rfl, _, rfl, S, G, n, rfl, s1.wd, n0, n12, fun l xs T G2 H2 s2 fl gl hl dT mvT lT => ⟨by show 2 ≤ sizeLine; decide, fun p H3 n3 => ?_⟩⟩
    have fl := s1.fresh fl
    obtain ⟨s3, gp, hp, fp⟩ := (s1.trans s2).loc n3
    exact q p n T H3 (.mk s3 gp gl fp fl hp (n3.else hl) (dT.up s3.gh) mvT n0 n12 lT)
  refine ⟨_, rfl, S, G, 4, rfl, s1.wd, by omega, fun d H2 e0 e1 s2 => ⟨_, _, rfl, rfl, ?_⟩⟩
  have s2 := s1.trans s2
  refine ⟨_, rfl, _, rfl, 1 + d, rfl, by omega, by omega, fun l hl => ?_⟩
  refine lc_range (lo := 0) (n := (1 + d).toNat) (fun i H' => ∃ (G' : Hp) (zs : List V) (T : List (List Int)), Go S G H G' H' ∧ G' l = none ∧ H l = none ∧ H' l = some (.lst zs) ∧ DaAll G' zs (T.map rowD) ∧ AllMv n T ∧ T.length = i) ?_ ?_ ?_
  · obtain ⟨s3, gl, h3, fl⟩ := s2.loc (p := l) (o := .lst []) ⟨hl, rfl⟩
    exact ⟨G, [], [], s3, gl, fl, h3, .nil, .nil', rfl⟩
  · rintro i H3 hi ⟨G3, zs, T, s3, gl, fl, h3, dT, mvT, lT⟩
    have lz := dT.length
    rw [List.length_map] at lz
    refine ⟨rfl, yesT ⟨_, rfl, _, rfl, S, G3, n, rfl, s3.wd, n0, by omega, fun p ms G4 H4 s4 k4 mv => ?_⟩⟩
    have h4 := s4.hh h3 (s3.ns fl)
    have gl4 := s4.nw h3 gl
    refine ⟨zs, h4, lt (by omega), G4, zs ++ [.ref p], T ++ [ms], (s3.trans s4).mut gl4 fl rfl, gl4, fl, upd_same, ?_, mvT.app' (.cons' mv .nil'), by rw [List.length_append, lT]; rfl⟩
    rw [List.map_append]
    exact (dT.up s4.gg).append (.one (.tup k4 (DaAll.ints _)))
  · rintro H3 ⟨G3, zs, T, s3, gl, fl, h3, dT, mvT, lT⟩
    refine ⟨by show 2 ≤ sizeLine; decide, fun p H4 n4 => ?_⟩
    obtain ⟨s4, gp, hp, fp⟩ := s3.loc n4
    exact q p n T H4 (.mk s4 gp gl fp fl hp (n4.else h3) (dT.up s4.gh) mvT n0 n12 (by omega))


def Arn (S : Sr) (G H : Hp) (p : Addr) (n : Int) (T L : List (List Int)) (H' : Hp) : Prop := ∃ (G' : Hp) (k m : Addr) (ks ms : List V), Go S G H G' H' ∧ G' p = none ∧ G' k = none ∧ G' m = none ∧ H p = none ∧ H k = none ∧ H m = none ∧ k ≠ m ∧ H' p = some (.lst [.int n, .ref k, .ref m]) ∧ H' k = some (.lst ks) ∧ H' m = some (.lst ms) ∧
  DaAll G' ks (T.map rowD) ∧ DaAll G' ms (L.map rowD) ∧ AllMv n T ∧ 0 ≤ n ∧ n ≤ 12 ∧ T.length ≤ 8 ∧ Grp n T L ∧ L.length ≤ 400
def spArena : Sp := fun vs H Q _ => ∃ (S : Sr) (G : Hp), vs = [.ref S.a] ∧ Wd S G H ∧ ∀ (p : Addr) (n : Int) (T L : List (List Int)) (H' : Hp), Arn S G H p n T L H' → Q (.ref p) H'
theorem ok_arena (Z : Zs mg) (D : Ds K mg) (c__law_take : Cal P w K mg base "_law_take" 2 ["store", "many"] spTake) (c__law_place : Cal P w K mg base "_law_place" 3 ["store", "size"] spPlace) (c__law_pick : Cal P w K mg base "_law_pick" 3 ["store", "things"] spPick) (c__law_drawn : Cal P w K mg base "_law_drawn" 3 ["store", "things", "many"] spDrawn) (c__law_renamed : Cal P w K mg base "_law_renamed" 1 ["move", "by"] spRenamed) (c__law_group : Cal P w K mg base "_law_group" 2 ["points", "told", "most"] spGroup) (c__law_arena_told : Cal P w K mg base "_law_arena_told" 5 ["store", "points"] spTold1) : Cal P w K mg base "_law_arena" 6 ["store"] spArena := by
  refine Def.cal D.d_law_arena sc_law_arena (fun vs H Q E h => ?_) (fun f cdv A outer s H vs Q E hr h => ?_)
  · obtain ⟨S, G, rfl, wd, q⟩ := h
    rfl
  obtain ⟨S, G, rfl, wd, q⟩ := h
  refine ⟨_, (pss_cons (ps_set (i := 1) sc_law_arena.nd rfl (Or.inl rfl) (pe_cal c__law_take (hr.mono (by first | decide | omega)) (by rfl) (pa_cons (pv 0) (pa_cons pe_int pa_nil))))
      (pss_cons (ps_set (i := 2) sc_law_arena.nd rfl (Or.inl rfl) (pe_op op_add pe_int (pe_cal c__law_take (hr.mono (by first | decide | omega)) (by rfl) (pa_cons (pv 0) (pa_cons pe_int pa_nil)))))
      (Evl.pss_cut (ps_if (pt_cmp (pc_eqI (pe_cal c__law_take (hr.mono (by first | decide | omega)) (by rfl) (pa_cons (pv 0) (pa_cons pe_int pa_nil))) pe_int) (nomark _)) (pss_one (ps_set (i := 2) sc_law_arena.nd rfl (Or.inl rfl) (pe_cal c__law_place (hr.mono (by first | decide | omega)) (by rfl) (pa_cons (pv 0) (pa_cons pe_int pa_nil))))) pss_nil)
      (pss_cons (ps_set (i := 3) sc_law_arena.nd rfl (Or.inl rfl) (pe_cal c__law_arena_told (hr.mono (by first | decide | omega)) (by rfl) (pa_cons (pv 0) (pa_cons (pv 2) pa_nil))))
      (Evl.pss_cut (ps_if (pt_cmp (pc_eqI (pv 1) pe_int) (nomark _)) (pss_one (ps_set (i := 3) sc_law_arena.nd rfl (Or.inl rfl) (pe_lstN (pa_cons pe_int (pa_cons (pe_lstN (pa_cons (pe_tupN (pa_cons pe_int (pa_cons pe_int (pa_cons pe_int (pa_cons pe_int (pa_cons pe_int (pa_cons pe_int (pa_cons pe_int (pa_cons pe_int (pa_cons pe_int (pa_cons pe_int pa_nil))))))))))) (pa_cons (pe_tupN (pa_cons pe_int (pa_cons pe_int (pa_cons pe_int (pa_cons pe_int (pa_cons pe_int (pa_cons pe_int (pa_cons pe_int (pa_cons pe_int (pa_cons pe_int (pa_cons pe_int pa_nil))))))))))) (pa_cons (pe_tupN (pa_cons pe_int (pa_cons pe_int (pa_cons pe_int (pa_cons pe_int (pa_cons pe_int (pa_cons pe_int (pa_cons pe_int (pa_cons pe_int (pa_cons pe_int (pa_cons pe_int pa_nil))))))))))) (pa_cons (pe_tupN (pa_cons pe_int (pa_cons pe_int (pa_cons pe_int (pa_cons pe_int (pa_cons pe_int (pa_cons pe_int (pa_cons pe_int (pa_cons pe_int (pa_cons pe_int (pa_cons pe_int pa_nil))))))))))) pa_nil))))) pa_nil))))) pss_nil)
      (pss_cons (ps_set (i := 4) sc_law_arena.nd rfl (Or.inl rfl) pe_int)
      (Evl.pss_cut (ps_if (pt_cmp (pc_lt (pv 1) pe_int) (nomark _)) (pss_one (ps_set (i := 4) sc_law_arena.nd rfl (Or.inl rfl) (pe_ix ix_list (pe_lstN (pa_cons pe_int (pa_cons pe_int (pa_cons pe_int (pa_cons pe_int (pa_cons pe_int (pa_cons pe_int (pa_cons pe_int (pa_cons pe_int (pa_cons pe_int pa_nil)))))))))) (pv 1) (fun _ _ => rfl)))) pss_nil)
      (pss_cons (ps_set (i := 2) sc_law_arena.nd rfl (Or.inl rfl) (pe_ix ix_list (pv 3) pe_int (fun _ _ => rfl)))
      (pss_cons (ps_set (i := 5) sc_law_arena.nd rfl (Or.inl rfl) (pe_ix ix_list (pv 3) pe_int (fun _ _ => rfl)))
      (Evl.pss_cut (ps_if (pt_cmp (pc_eqI (pe_cal c__law_take (hr.mono (by first | decide | omega)) (by rfl) (pa_cons (pv 0) (pa_cons pe_int pa_nil))) pe_int) (nomark _)) (pss_cons (ps_set (i := 6) sc_law_arena.nd rfl (Or.inr rfl) (pe_callTy call_tupleN (by rfl) Z.z_tuple (by decide +kernel) (pa_cons (pe_cal c__law_drawn (hr.mono (by first | decide | omega)) (by rfl) (pa_cons (pv 0) (pa_cons (pe_listRgN rfl (by rfl) Z.z_list (prg_1 (by rfl) Z.z_range (pv 2))) (pa_cons (pv 2) pa_nil)))) pa_nil)))
      (pss_one (ps_setLc (i := 5) (own := [("move", 7)]) (g := gName 7) (tt := tYes) (by rfl) sc_law_arena.nd rfl rfl (sw_true rfl rfl rfl (by decide +kernel)) (pi_list (pv 5)) (blkOk_by (N := ["store", "share", "points", "drawn", "most", "told", "by", "move", "kept", "made", "wider", "k"]) (sc := defScope s_law_arena) (by decide +kernel)) (fun _ _ _ _ _ => pg_name (i := 7) sc_law_arena.nd rfl (Or.inl rfl)) (fun _ _ _ _ _ => pts_nil) (fun _ _ _ _ _ => (pe_cal c__law_renamed (hr.mono (by first | decide | omega)) (by rfl) (pa_cons (pv 7) (pa_cons (pv 6) pa_nil))))))) pss_nil)
      (pss_cons (ps_set (i := 8) sc_law_arena.nd rfl (Or.inl rfl) (pe_lstN pa_nil))
      (pss_cons (ps_set (i := 9) sc_law_arena.nd rfl (Or.inl rfl) (pe_lstN (pa_cons (pe_tupRgN rfl (by rfl) Z.z_tuple (prg_1 (by rfl) Z.z_range (pv 2))) pa_nil)))
      (pss_cons (ps_for PassesOwn.never rfl (pi_list (pv 5)) (pg_name (i := 7) sc_law_arena.nd rfl (Or.inl rfl)) (pss_cons (ps_set (i := 10) sc_law_arena.nd rfl (Or.inl rfl) (pe_cal c__law_group (hr.mono (by first | decide | omega)) (by rfl) (pa_cons (pv 2) (pa_cons (pe_op op_catN (pv 8) (pe_lstN (pa_cons (pv 7) pa_nil))) (pa_cons (pv 4) pa_nil)))))
      (pss_one (ps_if (pt_cmpR op_notN (pv 10) pe_non (nomark _)) (pss_cons (ps_expr (pe_bm PySem.F.plainAttrs_list PySem.F.slot_list_append PySem.F.type_list_append mt_appendN (pv 8) (pa_cons (pv 7) pa_nil)))
      (pss_one (ps_set (i := 9) sc_law_arena.nd rfl (Or.inl rfl) (pv 10)))) pss_nil))))
      (Evl.pss_cut (ps_if (pt_cmp (pc_eqI (pe_cal c__law_take (hr.mono (by first | decide | omega)) (by rfl) (pa_cons (pv 0) (pa_cons pe_int pa_nil))) pe_int) (nomark _)) (pss_one (ps_for PassesOwn.never rfl (pi_range1 (by rfl) Z.z_range (pa_cons (pe_cal c__law_take (hr.mono (by first | decide | omega)) (by rfl) (pa_cons (pv 0) (pa_cons (pe_op op_sub pe_int (pe_callB call_len_seq (by rfl) Z.z_len (by decide +kernel) (pa_cons (pv 8) pa_nil))) pa_nil))) pa_nil)) (pg_name (i := 11) sc_law_arena.nd rfl (Or.inl rfl)) (pss_one (ps_expr (pe_bm PySem.F.plainAttrs_list PySem.F.slot_list_insert PySem.F.type_list_insert mt_insertN (pv 8) (pa_cons (pe_cal c__law_take (hr.mono (by first | decide | omega)) (by rfl) (pa_cons (pv 0) (pa_cons (pe_op op_add (pe_callB call_len_seq (by rfl) Z.z_len (by decide +kernel) (pa_cons (pv 8) pa_nil)) pe_int) pa_nil))) (pa_cons (pe_cal c__law_pick (hr.mono (by first | decide | omega)) (by rfl) (pa_cons (pv 0) (pa_cons (pv 9) pa_nil))) pa_nil))))))) pss_nil)
      (pss_one (ps_ret (pe_lstN (pa_cons (pv 2) (pa_cons (pv 8) (pa_cons (pv 9) pa_nil)))))))))))))))))))), ?_⟩
  refine ⟨_, rfl, S, G, 32, rfl, wd, by omega, fun sh H1 a0 a1 s1 => ?_⟩
  refine ⟨_, rfl, S, G, 6, rfl, s1.wd, by omega, fun d2 H2 b0 b1 s2 => ⟨_, _, rfl, rfl, ?_⟩⟩
  have s2 := s1.trans s2
  refine ⟨fun σ' H' => ∃ m : Int, 0 ≤ m ∧ m ≤ 12 ∧ σ' = [some (.ref S.a), some (.int sh), some (.int m), none, none, none, none, none, none, none, none, none] ∧ Go S G H G H', ?_, ?_⟩
  · refine ⟨_, rfl, S, G, 6, rfl, s2.wd, by omega, fun d3 H3 c0 c1 s3 => ⟨_, _, rfl, rfl, _, rfl, ite2 (fun c => ?_) (fun c => ⟨2 + d2, by omega, by omega, rfl, s2.trans s3⟩)⟩⟩
    exact ⟨_, rfl, S, G, 13, rfl, (s2.trans s3).wd, by omega, by omega, fun d H4 e0 e1 s4 => ⟨d, by omega, by omega, rfl, (s2.trans s3).trans s4⟩⟩
  rintro σ' H3 ⟨m, m0, m12, rfl, s3⟩
  refine ⟨_, rfl, _, rfl, S, G, m, rfl, s3.wd, m0, m12, fun p n T H4 t4 => ?_⟩
  have t4 := t4.back s3
  clear s1 s2
  refine ⟨fun σ' H' => ∃ (p : Addr) (n : Int) (T : List (List Int)), σ' = [some (.ref S.a), some (.int sh), some (.int m), some (.ref p), none, none, none, none, none, none, none, none] ∧ Tld S G H p n T H', ?_, ?_⟩
  · refine ⟨_, rfl, _, _, rfl, rfl, _, rfl, ite2 (fun c => ?_) (fun c => ⟨p, n, T, rfl, t4⟩)⟩
    obtain ⟨G4, q4, ts4, s4, -⟩ := t4
    have row : ∀ {p : Addr} {ns : List Int} {Ha Hb : Hp}, New Ha p (.tup (ns.map V.int)) Hb → Da Hb (.ref p) (rowD ns) := fun n => .tup n.at (DaAll.ints _)
    refine ⟨(by show 10 ≤ sizeLine; decide), fun a0 Hxa0 nxa0 => ⟨(by show 10 ≤ sizeLine; decide), fun a1 Hxa1 nxa1 => ⟨(by show 10 ≤ sizeLine; decide), fun a2 Hxa2 nxa2 => ⟨(by show 10 ≤ sizeLine; decide), fun a3 Hxa3 nxa3 => ⟨(by show 4 ≤ sizeLine; decide), fun qx Hxq nxq => ⟨(by show 2 ≤ sizeLine; decide), fun px Hxp nxp => ?_⟩⟩⟩⟩⟩⟩
    have sx := ((((s4.loc nxa0).1.loc nxa1).1.loc nxa2).1.loc nxa3).1
    exact ⟨px, 10, [[0, 2, 4, 1, 3, 5, 6, 7, 8, 9], [1, 2, 3, 4, 0, 5, 6, 7, 8, 9], [0, 1, 2, 3, 4, 5, 7, 9, 6, 8], [0, 1, 2, 3, 4, 6, 7, 8, 9, 5]], rfl,
      (tld_lit (n := 10) (T := [[0, 2, 4, 1, 3, 5, 6, 7, 8, 9], [1, 2, 3, 4, 0, 5, 6, 7, 8, 9], [0, 1, 2, 3, 4, 5, 7, 9, 6, 8], [0, 1, 2, 3, 4, 6, 7, 8, 9, 5]]) sx (.cons ((row nxa0).up (nxa1.same.trans (nxa2.same.trans nxa3.same))) (.cons ((row nxa1).up (nxa2.same.trans nxa3.same)) (.cons ((row nxa2).up nxa3.same) (.cons (row nxa3) .nil)))) nxq nxp
        (.cons' (by unfold IsMv; decide +kernel) (.cons' (by unfold IsMv; decide +kernel) (.cons' (by unfold IsMv; decide +kernel) (.cons' (by unfold IsMv; decide +kernel) .nil')))) (by decide) (by decide) (by decide)).1⟩
  clear t4
  rintro σ' H5 ⟨p, n, T, rfl, t5⟩
  refine ⟨fun σ' H' => ∃ most : Int, 1 ≤ most ∧ most ≤ 400 ∧ σ' = [some (.ref S.a), some (.int sh), some (.int m), some (.ref p), some (.int most), none, none, none, none, none, none, none] ∧ Tld S G H p n T H', ?_, ?_⟩
  · refine ⟨_, rfl, _, _, rfl, rfl, _, rfl, ite2 (fun c => ?_) (fun c => ⟨24, by omega, by omega, rfl, t5⟩)⟩
    have c : sh < 9 := dec_of c
    refine ⟨by show 9 ≤ sizeLine; decide, fun l H6 n6 => ?_⟩
    obtain ⟨a, e1, e2, -⟩ := atI_ints (ns := [400, 400, 400, 400, 60, 60, 60, 60, 60]) (d := sh) a0 (by show sh < 9; exact c)
    have am := List.mem_of_getElem? e1
    have ab : a = 400 ∨ a = 60 := by simpa using am
    exact ⟨_, rfl, l, _, _, _, rfl, rfl, .of n6.at, e2, a, by omega, by omega, rfl, t5.later n6.same⟩
  clear t5
  rintro σ' H6 ⟨most, o1, o2, rfl, t6⟩
  obtain ⟨G6, q6, ts6, s6, gp, gq, fp, fq, hp, hq, dT, mvT, n0, n12, lT⟩ := t6
  refine ⟨_, rfl, p, _, 0, _, rfl, rfl, .of hp, rfl, ?_⟩
  refine ⟨_, rfl, p, _, 1, _, rfl, rfl, .of hp, rfl, ?_⟩
  refine ⟨fun σ' H' => ∃ (G' : Hp) (qt : Addr) (ts : List V) (T : List (List Int)) (y6 : Option V), σ' = [some (.ref S.a), some (.int sh), some (.int n), some (.ref p), some (.int most), some (.ref qt), y6, none, none, none, none, none] ∧ Go S G H G' H' ∧ G' qt = none ∧ H qt = none ∧ H' qt = some (.lst ts) ∧ DaAll G' ts (T.map rowD) ∧ AllMv n T ∧ T.length ≤ 8, ?_, ?_⟩
  · refine ⟨_, rfl, S, G6, 2, rfl, s6.wd, by omega, fun d7 H7 b0 b1 s7 => ⟨_, _, rfl, rfl, _, rfl, ite2 (fun c => ?_) (fun c => ⟨G6, q6, ts6, T, _, rfl, s6.trans s7, gq, fq, s7.hh hq (s6.ns fq), dT, mvT, lT⟩)⟩⟩
    have hq := s7.hh hq (s6.ns fq)
    have s7 := s6.trans s7
    refine ⟨_, rfl, _, rfl, n, rfl, .of_le (by decide) (by omega) (by decide) (by omega), fun l H8 n8 => ?_⟩
    rw [rgV_rngI] at n8
    obtain ⟨s8, gl, hl, fl⟩ := s7.loc n8
    have hq := n8.else hq
    refine ⟨_, rfl, S, G6, l, _, n, rfl, s8.wd, .inl hl, by rw [List.length_map, rngI_len]; omega, by omega, by omega, fun r ys rest H9 s9 gr fr hr pm0 hy => ?_⟩
    obtain ⟨rs, ms, rfl, rfl, pm⟩ := perm_ints pm0
    rw [List.length_map, List.length_map, rngI_len] at hy
    have pl := pm.length_eq
    rw [List.length_append, rngI_len] at pl
    have e : ms = [] := List.eq_nil_of_length_eq_zero (by omega)
    subst e
    rw [List.append_nil] at pm
    have hq := s9.hh hq (s8.ns fq)
    refine ⟨r, _, rfl, .of hr, fun b HA nA => ?_⟩
    obtain ⟨GA, sA, gA, kA, oA⟩ := (s8.trans s9).know nA
    have hq := nA.else hq
    have gqA : GA q6 = none := by
      rw [oA q6 fun z => by rw [z, nA.at] at hq; cases hq]
      exact gq
    refine ⟨_, rfl, q6, rfl, ⟨_, .of hq⟩, fun x hx => ?_⟩
    refine lc_list (xs := ts6) (fun i H' => ∃ (G' : Hp) (zs : List V) (U : List (List Int)), Go S G H G' H' ∧ Same GA G' ∧ G' q6 = none ∧ H' q6 = some (.lst ts6) ∧ G' x = none ∧ H x = none ∧ H' x = some (.lst zs) ∧ DaAll G' zs (U.map rowD) ∧ AllMv n U ∧ U.length = i) ?_ ?_ ?_ ?_
    · obtain ⟨sx, gx, hx2, fx⟩ := sA.loc (p := x) (o := .lst []) ⟨hx, rfl⟩
      exact ⟨GA, [], [], sx, Same.refl _, gqA, (New.mk hx rfl : New _ x (.lst []) _).else hq, gx, fx, hx2, .nil, .nil', rfl⟩
    · rintro i H' - ⟨G', zs, U, sB, gg, gqB, hqB, -⟩
      exact .of hqB
    · rintro i y HB hy ⟨GB, zs, U, sB, gg, gqB, hqB, gx, fx, hxB, dU, mvU, lU⟩
      obtain ⟨e, he, hde⟩ := dT.get hy
      rw [List.getElem?_map] at he
      obtain ⟨v, hv, rfl⟩ := Option.map_eq_some_iff.mp he
      obtain ⟨c, rfl, hc⟩ := rows_ref hde
      have ilt := (List.getElem?_eq_some_iff.mp hv).1
      refine ⟨rfl, yesT ⟨_, rfl, _, rfl, GB, c, b, v, rs, n, rfl, sB.gh, (gg _ _ (gA _ _ hc)), gg _ _ kA, mvT v (List.mem_of_getElem? hv), pm, n0, by omega, fun p7 ms G7 H7 s7 k7 mv7 => ?_⟩⟩
      have S7 := sB.q s7
      have h7 := s7.hh _ _ hxB
      have g7 := s7.nw2 hxB gx
      have lz := dU.length
      rw [List.length_map] at lz
      refine ⟨zs, h7, lt (by omega), G7, zs ++ [.ref p7], U ++ [ms], S7.mut g7 fx rfl, gg.trans s7.gg, s7.nw2 hqB gqB, ?_, g7, fx, upd_same, ?_, mvU.app' (.cons' mv7 .nil'), by rw [List.length_append, lU]; rfl⟩
      · rw [upd_ne fun z => by rw [z, hx] at hq; cases hq]
        exact s7.hh _ _ hqB
      · rw [List.map_append]
        exact (dU.up s7.gg).append (.one (.tup k7 (DaAll.ints _)))
    · rintro HB ⟨GB, zs, U, sB, gg, gqB, hqB, gx, fx, hxB, dU, mvU, lU⟩
      have lt6 := dT.length
      rw [List.length_map] at lt6
      exact ⟨GB, x, zs, U, _, rfl, sB, gx, fx, hxB, dU, mvU, by omega⟩
  clear s6 gp gq fp fq hp hq dT mvT lT
  rintro σ' H7 ⟨G7, qt, ts, T, y6, rfl, s7, gq, fq, hq, dT, mvT, lT⟩
  have lts := dT.length
  rw [List.length_map] at lts
  refine ⟨by show 0 ≤ sizeLine; decide, fun kp H8 n8 => ?_⟩
  obtain ⟨s8, gk, hk, fk⟩ := s7.loc n8
  refine ⟨_, rfl, n, rfl, .of_le (by decide) (by omega) (by decide) (by omega), fun st H9 n9 => ?_⟩
  rw [rgV_rngI] at n9
  obtain ⟨G9, s9, g9, k9, o9⟩ := s8.know n9
  refine ⟨by show 1 ≤ sizeLine; decide, fun mp HA nA => ?_⟩
  obtain ⟨sA, gm, hm, fm⟩ := s9.loc nA
  have hqA := nA.else (n9.else (n8.else hq))
  have hkA := nA.else (n9.else hk)
  have nkm : kp ≠ mp := fun z => by rw [z] at hk; have := n9.else hk; rw [nA.fr] at this; cases this
  have gkA : G9 kp = none := by
    rw [o9 kp fun z => by rw [z, n9.fr] at hk; cases hk]
    exact gk
  have gqA : G9 qt = none := by
    rw [o9 qt fun z => by have := n8.else hq; rw [z, n9.fr] at this; cases this]
    exact gq
  have nqk : qt ≠ kp := fun z => by rw [z, n8.fr] at hq; cases hq
  have dTA := dT.up g9
  refine ⟨_, rfl, qt, rfl, ⟨_, .of hqA⟩, for_list (K := K) (a := qt) (xs := ts) (fun i σ' H' => ∃ (G' : Hp) (mp : Addr) (ks ms : List V) (U L : List (List Int)) (y7 y10 : Option V), σ' = [some (.ref S.a), some (.int sh), some (.int n), some (.ref p), some (.int most), some (.ref qt), y6, y7, some (.ref kp), some (.ref mp), y10, none] ∧ Go S G H G' H' ∧ Same G9 G' ∧ G' qt = none ∧ H' qt = some (.lst ts) ∧
    G' kp = none ∧ H' kp = some (.lst ks) ∧ DaAll G' ks (U.map rowD) ∧ AllMv n U ∧ U.length ≤ i ∧ G' mp = none ∧ H mp = none ∧ kp ≠ mp ∧ H' mp = some (.lst ms) ∧ DaAll G' ms (L.map rowD) ∧ Grp n U L ∧ ((L.length : Nat) : Int) ≤ 400) ?_ ?_ ?_ ?_⟩
  · exact ⟨G9, mp, [], _, [], [rngI n], none, none, rfl, sA, Same.refl _, gqA, hqA, gkA, hkA, .nil, .nil', Nat.le_refl _, gm, fm, nkm, hm, .cons (.tup k9 (DaAll.ints _)) .nil, .none, by show ((1 : Nat) : Int) ≤ 400; omega⟩
  · rintro i σ' H' - ⟨G', mp, ks, ms, U, L, y7, y10, rfl, sB, gg, gqB, hqB, -⟩
    exact .of hqB
  · rintro i y σ' HB hy ⟨GB, mp, ks, ms, U, L, y7, y10, rfl, sB, gg, gqB, hqB, gkB, hkB, dU, mvU, lU, gmB, fmB, nkm, hmB, dL, grp, lL⟩
    obtain ⟨e, he, hde⟩ := dTA.get hy
    rw [List.getElem?_map] at he
    obtain ⟨v, hv, rfl⟩ := Option.map_eq_some_iff.mp he
    obtain ⟨c, rfl, hc⟩ := rows_ref hde
    have ilt := (List.getElem?_eq_some_iff.mp hv).1
    have mvv := mvT v (List.mem_of_getElem? hv)
    have lks := dU.length
    rw [List.length_map] at lks
    refine ⟨_, rfl, _, rfl, _, rfl, by show 1 ≤ sizeLine; decide, fun e1 HC nC => ?_⟩
    have sC := (sB.loc nC).1
    refine ⟨kp, e1, ks, [.ref c], rfl, rfl, nC.else hkB, nC.at, ?_, fun r HD nD => ?_⟩
    · show ks.length + 1 ≤ sizeLine
      exact Nat.le_trans (show _ ≤ 9 by omega) (by decide)
    obtain ⟨sD, grD, hrD, frD⟩ := sC.loc nD
    have hkD := nD.else (nC.else hkB)
    have hqD := nD.else (nC.else hqB)
    have hmD := nD.else (nC.else hmB)
    have mv2 := mvU.app' (.cons' mvv .nil')
    refine ⟨_, rfl, GB, r, ks ++ [.ref c], U ++ [v], n, most, rfl, sD.gh, n0, n12, hrD, ?_, mv2, ?_, o1, by omega, fun p7 G7 H7 ys LL s7 f7 g7 h7 dy gM lM => ?_, fun no H7 s7 => ?_⟩
    · rw [List.map_append]
      exact dU.append (.one (hde.up gg))
    · rw [List.length_append]
      show U.length + 1 ≤ 1000
      omega
    · have gk7 := s7.nw2 hkD gkB
      have gq7 := s7.nw2 hqD gqB
      have hk7 := s7.hh _ _ hkD
      have nkp : kp ≠ p7 := fun z => by rw [z, f7] at hkD; cases hkD
      refine ⟨_, rfl, rfl, _, rfl, iteBT (by simp) ⟨_, rfl, .inl ⟨rfl, _, .of hk7⟩, _, rfl, kp, ks, _, rfl, rfl, hk7, lt (by omega), fun HE eE => ⟨_, rfl, ?_⟩⟩⟩
      refine ⟨G7, p7, ks ++ [.ref c], ys, U ++ [v], LL, _, _, rfl, (sD.q s7).mut gk7 fk eE, gg.trans s7.gg, gq7, upd_else eE (s7.hh _ _ hqD) nqk, gk7, upd_at eE, ?_, mv2, by rw [List.length_append]; show U.length + 1 ≤ i + 1; omega, g7, sD.fresh f7, nkp, upd_else eE h7 (Ne.symm nkp), dy, gM, by omega⟩
      rw [List.map_append]
      exact (dU.append (.one (hde.up gg))).up s7.gg
    · refine ⟨_, rfl, rfl, _, rfl, iteBF (by simp) ?_⟩
      exact ⟨GB, mp, ks, ms, U, L, _, _, rfl, sD.pure s7, gg, gqB, s7 _ _ hqD, gkB, s7 _ _ hkD, dU, mvU, by omega, gmB, fmB, nkm, s7 _ _ hmD, dL, grp, lL⟩
  rintro σ' HB ⟨GB, mp, ks, ms, U, L, y7, y10, rfl, sB, gg, gqB, hqB, gkB, hkB, dU, mvU, lU, gmB, fmB, nkm, hmB, dL, grp, lL⟩
  have lU : U.length ≤ 8 := by omega
  have lms := dL.length
  rw [List.length_map] at lms
  have L1 : 0 < L.length := List.length_pos_of_mem grp.still
  refine ⟨fun σ' H' => ∃ (ks : List V) (U : List (List Int)) (y11 : Option V), σ' = [some (.ref S.a), some (.int sh), some (.int n), some (.ref p), some (.int most), some (.ref qt), y6, y7, some (.ref kp), some (.ref mp), y10, y11] ∧ Go S G H GB H' ∧ H' kp = some (.lst ks) ∧ DaAll GB ks (U.map rowD) ∧ AllMv n U ∧ U.length ≤ 8 ∧ H' mp = some (.lst ms) ∧ Grp n U L, ?_, ?_⟩
  · have lks := dU.length
    rw [List.length_map] at lks
    refine ⟨_, rfl, S, GB, 4, rfl, sB.wd, by omega, fun d HC d0 d1 sC => ⟨_, _, rfl, rfl, _, rfl, ite2 (fun c => ?_) (fun c => ⟨ks, U, _, rfl, sB.trans sC, sC.hh hkB (sB.ns fk), dU, mvU, lU, sC.hh hmB (sB.ns fmB), grp⟩)⟩⟩
    have hk := sC.hh hkB (sB.ns fk)
    have hm := sC.hh hmB (sB.ns fmB)
    have sC := sB.trans sC
    refine ⟨_, rfl, _, rfl, kp, _, rfl, .inl (.of hk), _, _, rfl, rfl, S, GB, _, rfl, sC.wd, by omega, fun e HD e0 e1 sD => ⟨e, rfl, by omega, by omega, ?_⟩⟩
    refine for_range (lo := 0) (n := e.toNat) (fun i σ' H' => ∃ (ks : List V) (U' : List (List Int)) (y11 : Option V), σ' = [some (.ref S.a), some (.int sh), some (.int n), some (.ref p), some (.int most), some (.ref qt), y6, y7, some (.ref kp), some (.ref mp), y10, y11] ∧ Go S G H GB H' ∧ H' kp = some (.lst ks) ∧ DaAll GB ks (U'.map rowD) ∧ AllMv n U' ∧ U'.length = U.length + i ∧ H' mp = some (.lst ms) ∧ Grp n U' L) ⟨ks, U, _, rfl, sC.trans sD, sD.hh hk (sC.ns fk), dU, mvU, rfl, sD.hh hm (sC.ns fmB), grp⟩ ?_ ?_
    · rintro i σ' HE hi ⟨ks2, U2, y11, rfl, sE, hkE, dU2, mvU2, lU2, hmE, grp2⟩
      have lks2 := dU2.length
      rw [List.length_map] at lks2
      refine ⟨_, rfl, .inl ⟨rfl, _, .of hkE⟩, _, rfl, _, rfl, kp, _, rfl, .inl (.of hkE), _, _, rfl, rfl, S, GB, _, rfl, sE.wd, by omega, fun t HF t0 t1 sF => ?_⟩
      have hkF := sF.hh hkE (sE.ns fk)
      have hmF := sF.hh hmE (sE.ns fmB)
      have sF := sE.trans sF
      refine ⟨_, rfl, _, rfl, S, GB, .ref mp, ms, rfl, sF.wd, .inl ⟨mp, rfl, sF.ns fmB, hmF⟩, by omega, by omega, fun x HG hx sG => ?_⟩
      obtain ⟨j, hj⟩ := List.getElem?_of_mem hx
      obtain ⟨d, hd, hdd⟩ := dL.get hj
      rw [List.getElem?_map] at hd
      obtain ⟨w, hw, rfl⟩ := Option.map_eq_some_iff.mp hd
      have wL := List.mem_of_getElem? hw
      have mk := (grp2.mem w).mp wL
      have mvw := made_mv n0 mvU2 mk
      have hkG := sG.hh hkF (sF.ns fk)
      have hmG := sG.hh hmF (sF.ns fmB)
      have sG := sF.trans sG
      refine ⟨kp, ks2, t, x, rfl, rfl, hkG, lt (by omega), t0, by omega, fun HH eH => ?_⟩
      have mv3 : AllMv n (U2.take t.toNat ++ [w] ++ U2.drop t.toNat) := fun z hz => by
        rcases List.mem_append.mp hz with hz | hz
        · rcases List.mem_append.mp hz with hz | hz
          · exact mvU2 z (List.mem_of_mem_take hz)
          · rw [List.mem_singleton.mp hz]; exact mvw
        · exact mvU2 z (List.mem_of_mem_drop hz)
      refine ⟨_, U2.take t.toNat ++ [w] ++ U2.drop t.toNat, _, rfl, sG.mut gkB fk eH, upd_at eH, ?_, mv3, ?_, upd_else eH hmG (Ne.symm nkm), grp2.like n0 mvU2 mv3 (fun z hz => made_told mv3 ?_) fun z hz => ?_⟩
      · rw [List.map_append, List.map_append, List.map_drop]
        exact ((dU2.rows_take t.toNat).append (.one hdd)).append (dU2.drop t.toNat)
      · rw [List.length_append, List.length_append, List.length_take, List.length_drop]
        show min t.toNat U2.length + 1 + (U2.length - t.toNat) = _
        omega
      · rw [← List.take_append_drop t.toNat U2] at hz
        rcases List.mem_append.mp hz with hz | hz
        · exact List.mem_append_left _ (List.mem_append_left _ hz)
        · exact List.mem_append_right _ hz
      · rcases List.mem_append.mp hz with hz | hz
        · rcases List.mem_append.mp hz with hz | hz
          · exact made_told mvU2 (List.mem_of_mem_take hz)
          · rw [List.mem_singleton.mp hz]; exact mk
        · exact made_told mvU2 (List.mem_of_mem_drop hz)
    · rintro σ' HE ⟨ks2, U2, y11, rfl, sE, hkE, dU2, mvU2, lU2, hmE, grp2⟩
      exact ⟨ks2, U2, _, rfl, sE, hkE, dU2, mvU2, by omega, hmE, grp2⟩
  rintro σ' HC ⟨ks2, U2, y11, rfl, sC, hkC, dU2, mvU2, lU2, hmC, grp2⟩
  refine ⟨_, rfl, _, rfl, _, rfl, by show 3 ≤ sizeLine; decide, fun r HD nD => ?_⟩
  obtain ⟨sD, gr, hr, fr⟩ := sC.loc nD
  exact q r n U2 L HD ⟨GB, kp, mp, ks2, ms, sD, gr, gkB, gmB, fr, fk, fmB, nkm, hr, nD.else hkC, nD.else hmC, dU2, dL, mvU2, n0, n12, lU2, grp2, by omega⟩


theorem Grp.take_same {n : Int} {T M : List (List Int)} {k : Nat} {m : List Int} (n0 : 0 ≤ n) (mv : AllMv n T) (h : T[k]? = some m) (g : Grp n (T.take k) M) (c : m ∈ M) : Grp n (T.take (k + 1)) M := by
  have m1 : AllMv n (T.take k) := fun a ha => mv a (List.mem_of_mem_take ha)
  have m2 : AllMv n (T.take (k + 1)) := fun a ha => mv a (List.mem_of_mem_take ha)
  have e : T.take (k + 1) = T.take k ++ [m] := by rw [List.take_add_one, h]; rfl
  refine g.like n0 m1 m2 (fun z hz => made_told m2 (by rw [e]; exact List.mem_append_left _ hz)) fun z hz => ?_
  rw [e] at hz
  rcases List.mem_append.mp hz with hz | hz
  · exact made_told m1 hz
  · rw [List.mem_singleton.mp hz]
    exact (g.mem m).mp c
def spIdle : Sp := fun vs H Q _ => ∃ (G : Hp) (a : Addr) (n : Int) (ts : List V) (T L : List (List Int)), vs = [.int n, .ref a] ∧ Same G H ∧ H a = some (.lst ts) ∧ DaAll G ts (T.map rowD) ∧ AllMv n T ∧ 0 ≤ n ∧ n ≤ 12 ∧ T.length ≤ 8 ∧ Grp n T L ∧ L.length ≤ 400 ∧
  ∀ (p : Addr) (G' H' : Hp), Stq G H G' H' → G' p = some (.tup ((idleL n T).map V.int)) → Q (.ref p) H'
theorem ok_idle (Z : Zs mg) (D : Ds K mg) (c__law_group : Cal P w K mg base "_law_group" 2 ["points", "told", "most"] spGroup) : Cal P w K mg base "_law_idle" 3 ["points", "told"] spIdle := by
  refine Def.cal D.d_law_idle sc_law_idle (fun vs H Q E h => ?_) (fun f cdv A outer s H vs Q E hr h => ?_)
  · obtain ⟨G, a, n, ts, T, L, rfl, gh, ha, dT, mvT, n0, n12, lT, grp, lL, q⟩ := h
    rfl
  obtain ⟨G, a, n, ts, T, L, rfl, gh, ha, dT, mvT, n0, n12, lT, grp, lL, q⟩ := h
  refine ⟨_, (pss_cons (ps_set (i := 2) sc_law_idle.nd rfl (Or.inl rfl) (pe_lstN pa_nil))
      (pss_cons (ps_set (i := 3) sc_law_idle.nd rfl (Or.inl rfl) (pe_lstN (pa_cons (pe_tupRgN rfl (by rfl) Z.z_tuple (prg_1 (by rfl) Z.z_range (pv 0))) pa_nil)))
      (pss_cons (ps_for PassesOwn.never rfl (pi_range1 (by rfl) Z.z_range (pa_cons (pe_callB call_len_seq (by rfl) Z.z_len (by decide +kernel) (pa_cons (pv 1) pa_nil)) pa_nil)) (pg_name (i := 4) sc_law_idle.nd rfl (Or.inl rfl)) (pss_one (ps_if (pt_cmpR (op_inR (K := K) rfl (u65 hr)) (pe_ix ix_list (pv 1) (pv 4) (fun _ _ => rfl)) (pv 3) (by with_unfolding_all rfl)) (pss_one (ps_expr (pe_bm PySem.F.plainAttrs_list PySem.F.slot_list_append PySem.F.type_list_append mt_appendN (pv 2) (pa_cons (pv 4) pa_nil)))) (pss_one (ps_set (i := 3) sc_law_idle.nd rfl (Or.inl rfl) (pe_cal c__law_group (hr.mono (by first | decide | omega)) (by rfl) (pa_cons (pv 0) (pa_cons (pe_slice sl_listN (pv 1) po_none (po_some (pe_op op_add (pv 4) pe_int))) (pa_cons pe_int pa_nil)))))))))
      (pss_one (ps_ret (pe_callTy call_tupleN (by rfl) Z.z_tuple (by decide +kernel) (pa_cons (pv 2) pa_nil))))))), ?_⟩
  have lts := dT.length
  rw [List.length_map] at lts
  refine ⟨by show 0 ≤ sizeLine; decide, fun fp H1 n1 => ?_⟩
  obtain ⟨s1, gf, hf, ff⟩ := (Stq.refl gh).loc2 n1
  refine ⟨_, rfl, n, rfl, .of_le (by decide) (by omega) (by decide) (by omega), fun st H2 n2 => ?_⟩
  rw [rgV_rngI] at n2
  obtain ⟨G2, s2, g2, k2, o2⟩ := s1.know2 n2
  refine ⟨by show 1 ≤ sizeLine; decide, fun mp H3 n3 => ?_⟩
  obtain ⟨s3, gm, hm, fm⟩ := s2.loc2 n3
  have gf2 : G2 fp = none := by
    rw [o2 fp fun z => by rw [z, n2.fr] at hf; cases hf]
    exact gf
  have hf3 := n3.else (n2.else hf)
  have nfm : fp ≠ mp := fun z => by have := n2.else hf; rw [z, n3.fr] at this; cases this
  refine ⟨_, rfl, a, ts, rfl, .inl (.of (s3.hh _ _ ha)), _, rfl, by omega, by omega, ?_⟩
  refine for_range (lo := 0) (n := ((ts.length : Nat) : Int).toNat) (fun i σ' H' => ∃ (G' : Hp) (mp : Addr) (ms : List V) (M : List (List Int)) (y4 : Option V), σ' = [some (.int n), some (.ref a), some (.ref fp), some (.ref mp), y4] ∧ Stq G H G' H' ∧ Same G2 G' ∧ G' fp = none ∧ H' fp = some (.lst ((pts (idleB n T) i).map V.int)) ∧ fp ≠ mp ∧
    H' mp = some (.lst ms) ∧ DaAll G' ms (M.map rowD) ∧ Grp n (T.take i) M) ⟨G2, mp, _, [rngI n], none, rfl, s3, Same.refl _, gf2, hf3, nfm, hm, .cons (.tup k2 (DaAll.ints _)) .nil, .none⟩ ?_ ?_
  · rintro i σ' H4 hi ⟨G4, mp, ms, M, y4, rfl, s4, gg, gf4, hf4, nfm, hm4, dM, gM⟩
    have ilt : i < T.length := by omega
    obtain ⟨y, hy⟩ : ∃ y, ts[i]? = some y := ⟨_, List.getElem?_eq_getElem (by omega)⟩
    obtain ⟨e, he, hde⟩ := dT.get hy
    rw [List.getElem?_map] at he
    obtain ⟨m, hm, rfl⟩ := Option.map_eq_some_iff.mp he
    have at_ : atI ts (0 + (i : Int)) = some y := by rw [Int.zero_add]; exact atI_nat hy
    refine ⟨_, rfl, _, rfl, a, _, _, _, rfl, rfl, .of (s4.hh _ _ ha), at_, _, rfl, mp, m, ms, M, rfl, hde.up (gh.trans s4.hh), .of hm4, dM.up s4.gh, _, rfl, ite2 (fun c => ?_) (fun c => ?_)⟩
    · have c : m ∈ M := dec_of c
      have yes : idleB n T i = true := idle_yes ⟨m, hm, (gM.mem m).mp c⟩
      refine ⟨_, rfl, .inl ⟨rfl, _, .of hf4⟩, _, rfl, fp, _, _, rfl, rfl, hf4, ?_, fun H5 e5 => ?_⟩
      · rw [List.length_map]
        exact Nat.lt_of_le_of_lt (pts_len _ _) (Nat.lt_of_lt_of_le ilt (Nat.le_trans lT (by decide)))
      · refine ⟨G4, mp, ms, M, _, rfl, s4.mut gf4 ff e5, gg, gf4, ?_, nfm, upd_else e5 hm4 (Ne.symm nfm), dM, gM.take_same n0 mvT hm c⟩
        rw [upd_at e5, pts_step, yes, List.map_append, Int.zero_add]
        rfl
    · have c : ¬ m ∈ M := dec_not c
      have no : idleB n T i = false := idle_no fun ⟨m', e, h⟩ => c (by rw [hm] at e; cases e; exact (gM.mem m).mpr h)
      have sub : ∀ w, Mk' n (T.take (i + 1)) w → w ∈ L := fun w hw => (grp.mem w).mpr (hw.mono fun a ha => List.mem_of_mem_take ha)
      refine ⟨_, rfl, _, rfl, _, rfl, _, _, rfl, rfl, i + 1, congrArg V.int (by omega), a, ts, rfl, .of (s4.hh _ _ ha), fun r H5 n5 => ?_⟩
      rw [show ((i : Int) + 1) = ((i + 1 : Nat) : Int) by omega, cut_to (by omega)] at n5
      obtain ⟨s5, gr, hr5, fr⟩ := s4.loc2 n5
      have hf5 := n5.else hf4
      refine ⟨G4, r, ts.take (i + 1), T.take (i + 1), n, 400, rfl, s5.gh, n0, n12, hr5, (dT.rows_take (i + 1)).up s5.gg, fun a ha => mvT a (List.mem_of_mem_take ha), ?_, by omega, by omega, fun p7 G7 H7 ys LL s7 f7 g7 h7 dy gM lM => ?_, fun no7 => ?_⟩
      · rw [List.length_take]
        omega
      · refine ⟨G7, p7, ys, LL, _, rfl, s5.trans s7, gg.trans s7.gg, s7.nw2 hf5 gf4, ?_, (fun z => by rw [z, f7] at hf5; cases hf5), h7, dy, gM⟩
        rw [s7.hh _ _ hf5, pts_step, no]
        simp
      · have := no7 L sub
        omega
  · rintro σ' H4 ⟨G4, mp, ms, M, y4, rfl, s4, gg, gf4, hf4, nfm, hm4, dM, gM⟩
    rw [lts] at hf4
    refine ⟨_, rfl, fp, _, rfl, .of hf4, fun r H5 n5 => ?_⟩
    obtain ⟨G5, s5, g5, k5, -⟩ := s4.know2 n5
    exact q r G5 H5 s5 k5
def spFilled : Sp := fun vs H Q _ => ∃ (S : Sr) (G : Hp) (a m : Addr) (n : Int) (ts ms : List V) (T L : List (List Int)), vs = [.ref S.a, .ref a, .ref m] ∧ Wd S G H ∧ a ≠ S.a ∧ m ≠ S.a ∧ H a = some (.lst ts) ∧ H m = some (.lst ms) ∧ DaAll G ts (T.map rowD) ∧ DaAll G ms (L.map rowD) ∧ AllMv n T ∧ 0 ≤ n ∧ T.length ≤ 8 ∧ Grp n T L ∧ L.length ≤ 400 ∧
  ∀ (l : Addr) (xs : List V) (U : List (List Int)) (H' : Hp), Go S G H G H' → H l = none → G l = none → H' l = some (.lst xs) → DaAll G xs (U.map rowD) → AllMv n U → U.length ≤ 8 → Grp n U L → Q (.ref l) H'
theorem ok_filled (Z : Zs mg) (D : Ds K mg) (c__law_take : Cal P w K mg base "_law_take" 2 ["store", "many"] spTake) (c__law_pick : Cal P w K mg base "_law_pick" 3 ["store", "things"] spPick) : Cal P w K mg base "_law_filled" 4 ["store", "told", "made"] spFilled := by
  refine Def.cal D.d_law_filled sc_law_filled (fun vs H Q E h => ?_) (fun f cdv A outer s H vs Q E hr h => ?_)
  · obtain ⟨S, G, a, m, n, ts, ms, T, L, rfl, wd, na, nm, ha, hm, dT, dL, mvT, n0, lT, grp, lL, q⟩ := h
    rfl
  obtain ⟨S, G, a, m, n, ts, ms, T, L, rfl, wd, na, nm, ha, hm, dT, dL, mvT, n0, lT, grp, lL, q⟩ := h
  refine ⟨_, (pss_cons (ps_set (i := 3) sc_law_filled.nd rfl (Or.inl rfl) (pe_callTy call_listN (by rfl) Z.z_list (by decide +kernel) (pa_cons (pv 1) pa_nil)))
      (Evl.pss_cut (ps_if (pt_cmp (pc_eqI (pe_cal c__law_take (hr.mono (by first | decide | omega)) (by rfl) (pa_cons (pv 0) (pa_cons pe_int pa_nil))) pe_int) (nomark _)) (pss_one (ps_for PassesOwn.never rfl (pi_range1 (by rfl) Z.z_range (pa_cons (pe_op op_sub pe_int (pe_callB call_len_seq (by rfl) Z.z_len (by decide +kernel) (pa_cons (pv 1) pa_nil))) pa_nil)) (pg_name (i := 4) sc_law_filled.nd rfl (Or.inl rfl)) (pss_one (ps_expr (pe_bm PySem.F.plainAttrs_list PySem.F.slot_list_insert PySem.F.type_list_insert mt_insertN (pv 3) (pa_cons (pe_cal c__law_take (hr.mono (by first | decide | omega)) (by rfl) (pa_cons (pv 0) (pa_cons (pe_op op_add (pe_callB call_len_seq (by rfl) Z.z_len (by decide +kernel) (pa_cons (pv 3) pa_nil)) pe_int) pa_nil))) (pa_cons (pe_cal c__law_pick (hr.mono (by first | decide | omega)) (by rfl) (pa_cons (pv 0) (pa_cons (pe_op op_catN (pe_op op_catN (pv 2) (pv 1)) (pe_slice sl_listN (pv 2) po_none (po_some pe_int))) pa_nil))) pa_nil))))))) pss_nil)
      (pss_one (ps_ret (pv 3))))), ?_⟩
  have lts := dT.length
  rw [List.length_map] at lts
  have lms := dL.length
  rw [List.length_map] at lms
  have L1 : 0 < L.length := List.length_pos_of_mem grp.still
  refine ⟨_, rfl, a, ts, rfl, .inl (.of ha), fun l H1 n1 => ?_⟩
  obtain ⟨s1, gl, hl, fl⟩ := (Go.refl wd).loc n1
  refine ⟨fun σ' H' => ∃ (xs : List V) (U : List (List Int)) (y4 : Option V), σ' = [some (.ref S.a), some (.ref a), some (.ref m), some (.ref l), y4] ∧ Go S G H G H' ∧ H' l = some (.lst xs) ∧ DaAll G xs (U.map rowD) ∧ AllMv n U ∧ U.length ≤ 8 ∧ Grp n U L, ?_, ?_⟩
  · refine ⟨_, rfl, S, G, 2, rfl, s1.wd, by omega, fun d H2 d0 d1 s2 => ⟨_, _, rfl, rfl, _, rfl, ite2 (fun c => ?_) (fun c => ⟨ts, T, _, rfl, s1.trans s2, s2.hh hl (s1.ns fl), dT, mvT, lT, grp⟩)⟩⟩
    have hl2 := s2.hh hl (s1.ns fl)
    have s2 := s1.trans s2
    refine ⟨_, rfl, a, _, rfl, .inl (.of (s2.hh ha na)), _, _, rfl, rfl, _, rfl, by omega, by omega, ?_⟩
    refine for_range (lo := 0) (n := (8 - ((ts.length : Nat) : Int)).toNat) (fun i σ' H' => ∃ (xs : List V) (U : List (List Int)) (y4 : Option V), σ' = [some (.ref S.a), some (.ref a), some (.ref m), some (.ref l), y4] ∧ Go S G H G H' ∧ H' l = some (.lst xs) ∧ DaAll G xs (U.map rowD) ∧ AllMv n U ∧ U.length = T.length + i ∧ Grp n U L) ⟨ts, T, _, rfl, s2, hl2, dT, mvT, rfl, grp⟩ ?_ ?_
    · rintro i σ' HE hi ⟨ks2, U2, y4, rfl, sE, hkE, dU2, mvU2, lU2, grp2⟩
      have lks2 := dU2.length
      rw [List.length_map] at lks2
      refine ⟨_, rfl, .inl ⟨rfl, _, .of hkE⟩, _, rfl, _, rfl, l, _, rfl, .inl (.of hkE), _, _, rfl, rfl, S, G, _, rfl, sE.wd, by omega, fun t HF t0 t1 sF => ?_⟩
      have hkF := sF.hh hkE (sE.ns fl)
      have sF := sE.trans sF
      have haF := sF.hh ha na
      have hmF := sF.hh hm nm
      refine ⟨_, rfl, _, rfl, _, rfl, m, a, ms, ts, rfl, rfl, hmF, haF, ?_, fun r1 HG nG => ?_⟩
      · exact Nat.le_trans (show _ ≤ 408 by omega) (by decide)
      obtain ⟨sG, -, hr1, -⟩ := sF.loc nG
      refine ⟨_, rfl, 1, rfl, m, ms, rfl, .of (nG.else hmF), fun r2 HH nH => ?_⟩
      rw [show cutV ms none (some 1) = ms.take 1 from cut_to (n := 1) (by omega)] at nH
      obtain ⟨sH, -, hr2, -⟩ := sG.loc nH
      refine ⟨r1, r2, _, _, rfl, rfl, nH.else hr1, hr2, ?_, fun r3 HI nI => ?_⟩
      · rw [List.length_append, List.length_take]
        exact Nat.le_trans (show _ ≤ 409 by omega) (by decide)
      obtain ⟨sI, -, hr3, f3⟩ := sH.loc nI
      have hkI := nI.else (nH.else (nG.else hkF))
      refine ⟨S, G, .ref r3, _, rfl, sI.wd, .inl ⟨r3, rfl, sI.ns f3, hr3⟩, ?_, ?_, fun x HJ hx sJ => ?_⟩
      · rw [List.length_append, List.length_append]
        omega
      · rw [List.length_append, List.length_append, List.length_take]
        omega
      have found : ∃ w, Mk' n U2 w ∧ Da G x (rowD w) := by
        have inL : x ∈ ms → ∃ w, Mk' n U2 w ∧ Da G x (rowD w) := fun hx => by
          obtain ⟨j, hj⟩ := List.getElem?_of_mem hx
          obtain ⟨d, hd, hdd⟩ := dL.get hj
          rw [List.getElem?_map] at hd
          obtain ⟨w, hw, rfl⟩ := Option.map_eq_some_iff.mp hd
          exact ⟨w, (grp2.mem w).mp (List.mem_of_getElem? hw), hdd⟩
        rcases List.mem_append.mp hx with hx | hx
        · rcases List.mem_append.mp hx with hx | hx
          · exact inL hx
          · obtain ⟨j, hj⟩ := List.getElem?_of_mem hx
            obtain ⟨d, hd, hdd⟩ := dT.get hj
            rw [List.getElem?_map] at hd
            obtain ⟨w, hw, rfl⟩ := Option.map_eq_some_iff.mp hd
            exact ⟨w, (grp2.mem w).mp ((grp.mem w).mpr (made_told mvT (List.mem_of_getElem? hw))), hdd⟩
        · exact inL (List.mem_of_mem_take hx)
      obtain ⟨w, mk, hdd⟩ := found
      have mvw := made_mv n0 mvU2 mk
      have hkJ := sJ.hh hkI (sI.ns fl)
      have sJ := sI.trans sJ
      refine ⟨l, ks2, t, x, rfl, rfl, hkJ, lt (by omega), t0, by omega, fun HK eK => ?_⟩
      have mv3 : AllMv n (U2.take t.toNat ++ [w] ++ U2.drop t.toNat) := fun z hz => by
        rcases List.mem_append.mp hz with hz | hz
        · rcases List.mem_append.mp hz with hz | hz
          · exact mvU2 z (List.mem_of_mem_take hz)
          · rw [List.mem_singleton.mp hz]; exact mvw
        · exact mvU2 z (List.mem_of_mem_drop hz)
      refine ⟨_, U2.take t.toNat ++ [w] ++ U2.drop t.toNat, _, rfl, sJ.mut gl fl eK, upd_at eK, ?_, mv3, ?_, grp2.like n0 mvU2 mv3 (fun z hz => made_told mv3 ?_) fun z hz => ?_⟩
      · rw [List.map_append, List.map_append, List.map_drop]
        exact ((dU2.rows_take t.toNat).append (.one hdd)).append (dU2.drop t.toNat)
      · rw [List.length_append, List.length_append, List.length_take, List.length_drop]
        show min t.toNat U2.length + 1 + (U2.length - t.toNat) = _
        omega
      · rw [← List.take_append_drop t.toNat U2] at hz
        rcases List.mem_append.mp hz with hz | hz
        · exact List.mem_append_left _ (List.mem_append_left _ hz)
        · exact List.mem_append_right _ hz
      · rcases List.mem_append.mp hz with hz | hz
        · rcases List.mem_append.mp hz with hz | hz
          · exact made_told mvU2 (List.mem_of_mem_take hz)
          · rw [List.mem_singleton.mp hz]; exact mk
        · exact made_told mvU2 (List.mem_of_mem_drop hz)
    · rintro σ' HE ⟨ks2, U2, y4, rfl, sE, hkE, dU2, mvU2, lU2, grp2⟩
      exact ⟨ks2, U2, _, rfl, sE, hkE, dU2, mvU2, by omega, grp2⟩
  rintro σ' H2 ⟨xs, U, y4, rfl, s2, h2, dU, mvU, lU, grp2⟩
  exact ⟨_, rfl, q l xs U H2 s2 fl gl h2 dU mvU lU grp2⟩


theorem cut_upto {xs : List V} {n : Nat} : cutV xs none (some (n : Int)) = xs.take n := by
  rcases Nat.lt_or_ge xs.length n with h | h
  · have : cutV xs none (some (n : Int)) = xs.take xs.length := by
      unfold cutV
      rw [show HT.sIx xs.length xs.length (some (n : Int)) = min n xs.length from HT.sIx_nat xs.length xs.length n, HT.sIx_none, List.drop_zero, Nat.sub_zero, Nat.min_eq_right (by omega)]
    rw [this, List.take_length, List.take_of_length_le (by omega)]
  · exact cut_to h
theorem sz_rows {n : Int} (n12 : n ≤ 12) : ∀ {Ls : List (List Int)}, AllMv n Ls → szL (Ls.map rowD) ≤ 14 * Ls.length
  | [], _ => Nat.le_refl _
  | a :: Ls, h => by
    have h1 := sz_rows n12 fun b hb => h b (List.mem_cons_of_mem _ hb)
    have h2 := sz_ints a
    have h3 := (h a List.mem_cons_self).len
    show szD (rowD a) + szL (Ls.map rowD) ≤ _
    unfold rowD at *
    rw [List.length_cons]
    omega
theorem made_world {CW DB DN DT : Addr} {G H : Hp} {R : VK} {n : Int} {a x dx' : Addr} {xs : List V} {T L : List (List Int)} (gh : Same G H) (hl : HasS K H a xs) (dT : DaAll G xs (T.map rowD)) (ok : WOk n T L) (fx : H x = none) (fd : H dx' = none) (ne : dx' ≠ x)
    (q : ∀ (G' H' : Hp), Stq G H G' H' → WAt CW G' x n T L → R .non H') : spInit K CW DB DN DT (.ref x :: ([.int n, .ref a] ++ [])) (upd (upd H dx' (.own x)) x (.ins CW dx' [])) R E0 := by
  have n1 : New H dx' (.own x) (upd H dx' (.own x)) := ⟨fd, rfl⟩
  have fx1 : (upd H dx' (.own x)) x = none := by rw [upd_ne (Ne.symm ne)]; exact fx
  have n2 : New (upd H dx' (.own x)) x (.ins CW dx' []) (upd (upd H dx' (.own x)) x (.ins CW dx' [])) := ⟨fx1, rfl⟩
  obtain ⟨s1, -, -, -⟩ := (Stq.refl gh).loc2 n1
  obtain ⟨s2, gx, hx, -⟩ := s1.loc2 n2
  have sz := sz_rows ok.n12 ok.mv
  have lT := ok.lT
  refine ⟨G, x, dx', .int n, .int n, a, xs, _, rfl, s2.gh, gx, hx, .int n, (hl.imp (fun h => h.imp (s2.hh _ _) (s2.hh _ _)) id), dT, by omega, judge_good ok.n0 ok.n12 ok.mv lT ⟨fun G' H' P ml tl ms ts M gx' hx' hm dM ht dt w => ?_, fun h => absurd (h L fun w hw => (ok.grp.mem w).mpr hw) (by have := ok.lL; omega)⟩⟩
  have S := s2.stp P fx
  obtain ⟨G2, S2, g2, kx, -⟩ := S.frz gx' fx hx'
  have e : M = L := w.grp.uniq ok.grp
  subst e
  exact q G2 H' S2 ⟨dx', ml, tl, ms, ts, kx, g2 _ _ hm, dM.up g2, g2 _ _ ht, dt.up g2⟩
theorem cat_ints {K : PySem.W.Frag} {G H : Hp} {Q : VK} {a b : Addr} {xs ys : List Int} (g : Same G H) (ha : G a = some (.tup (xs.map V.int))) (hb : G b = some (.tup (ys.map V.int))) (hz : xs.length + ys.length ≤ 100000)
    (q : ∀ (p : Addr) (G' H' : Hp), Stq G H G' H' → G' p = some (.tup ((xs ++ ys).map V.int)) → Q (.ref p) H') : rCatA K (.ref a) (.ref b) H Q := by
  refine ⟨a, b, _, _, rfl, rfl, .of (g _ _ ha), .of (g _ _ hb), ?_, fun e => ?_, (fun _ e => ?_), fun h1 _ p hp => ?_⟩
  · rw [List.length_map, List.length_map]
    exact Nat.le_trans hz (by decide)
  · have : xs = [] := by simpa using e
    subst this
    exact q b G H (Stq.refl g) hb
  · have : ys = [] := by simpa using e
    subst this
    exact q a G H (Stq.refl g) (by rw [List.append_nil]; exact ha)
  · obtain ⟨G', s, e, _⟩ := Stq.know g (⟨hp, rfl⟩ : New H p _ _)
    refine q p G' _ s ?_
    rw [e, List.map_append]
theorem pts_congr {f g : Nat → Bool} {k : Nat} (h : ∀ i, i < k → f i = g i) : pts f k = pts g k := by
  induction k with
  | zero => rfl
  | succ k ih => rw [pts_step, pts_step, ih fun i hi => h i (by omega), h k (by omega)]
theorem pts_more {f : Nat → Bool} {a : Nat} : ∀ {k : Nat}, (∀ i, a ≤ i → i < a + k → f i = true) → pts f (a + k) = pts f a ++ (List.range k).map fun (j : Nat) => (a : Int) + (j : Int)
  | 0, _ => by simp
  | k + 1, h => by
    rw [← Nat.add_assoc, pts_step, pts_more fun i h1 h2 => h i h1 (by omega), h (a + k) (by omega) (by omega), List.range_succ, List.map_append, List.append_assoc]
    simp
/-- first moves told again -/
theorem idle_again {n : Int} {T : List (List Int)} (mv : AllMv n T) (r : Nat) : idleL n (T ++ T.take r) = idleL n T ++ (List.range (min r T.length)).map fun (j : Nat) => ((T.length : Nat) : Int) + (j : Int) := by
  unfold idleL
  rw [List.length_append, List.length_take, pts_more fun i h1 h2 => ?_]
  · rw [pts_congr fun i hi => ?_]
    have e1 : (T ++ T.take r)[i]? = T[i]? := List.getElem?_append_left hi
    have e2 : (T ++ T.take r).take i = T.take i := by rw [List.take_append_of_le_length (by omega)]
    by_cases c : idleP n T i
    · rw [idle_yes c]
      refine idle_yes ?_
      unfold idleP
      rw [e1, e2]
      exact c
    · rw [idle_no c]
      refine idle_no fun z => c ?_
      unfold idleP at z
      rwa [e1, e2] at z
  · refine idle_yes ?_
    have e1 : (T ++ T.take r)[i]? = T[i - T.length]? := by
      rw [List.getElem?_append_right (by omega), List.getElem?_take_of_lt (by omega)]
    have lt : i - T.length < T.length := by omega
    refine ⟨T[i - T.length], by rw [e1]; exact List.getElem?_eq_getElem lt, made_told (fun z hz => ?_) ?_⟩
    · rcases List.mem_append.mp (List.mem_of_mem_take hz) with h | h
      · exact mv z h
      · exact mv z (List.mem_of_mem_take h)
    · rw [List.take_append]
      refine List.mem_append_left _ ?_
      rw [List.take_of_length_le (by omega)]
      exact List.getElem_mem lt
theorem WOk.turn {n : Int} {T L : List (List Int)} (w : WOk n T L) : WOk n T.reverse L := by
  have mv : AllMv n T.reverse := fun z hz => w.mv z (List.mem_reverse.mp hz)
  exact ⟨w.n0, w.n12, mv, by rw [List.length_reverse]; exact w.lT, w.lL, w.grp.like w.n0 w.mv mv (fun z hz => made_told mv (List.mem_reverse.mpr hz)) fun z hz => made_told w.mv (List.mem_reverse.mp hz)⟩
theorem WOk.again {n : Int} {T L : List (List Int)} (w : WOk n T L) (r : Nat) (h : T.length + r ≤ 8) : WOk n (T ++ T.take r) L := by
  have mv : AllMv n (T ++ T.take r) := fun z hz => (List.mem_append.mp hz).elim (w.mv z) fun h => w.mv z (List.mem_of_mem_take h)
  exact ⟨w.n0, w.n12, mv, by rw [List.length_append, List.length_take]; omega, w.lL, w.grp.like w.n0 w.mv mv (fun z hz => made_told mv (List.mem_append_left _ hz)) fun z hz => (List.mem_append.mp hz).elim (made_told w.mv) fun h => made_told w.mv (List.mem_of_mem_take h)⟩
theorem DaAll.turn {G : Hp} : ∀ {xs : List V} {T : List (List Int)}, DaAll G xs (T.map rowD) → DaAll G xs.reverse (T.reverse.map rowD)
  | _, [], .nil => .nil
  | _, t :: T, .cons h k => by
    rw [List.reverse_cons, List.reverse_cons, List.map_append]
    exact k.turn.append (.one h)
theorem row_dep (xs : List Int) : (rowD xs).depth < 3 := by
  have := row_depth xs
  omega
theorem row_siz {xs : List Int} (h : xs.length ≤ 1000) : szD (rowD xs) ≤ 900000 := by
  have z2 := sz_ints xs
  show szD (.tuple (xs.map PyData.int)) ≤ 900000
  omega
theorem ints_same : ∀ xs : List Int, sameL (xs.map PyData.int) (xs.map PyData.int) = true
  | [] => rfl
  | x :: xs => by
    show (sameD (.int x) (.int x) && sameL (xs.map PyData.int) (xs.map PyData.int)) = true
    rw [ints_same xs, show sameD (.int x) (.int x) = true from decide_eq_true rfl]
    rfl
theorem row_same (xs : List Int) : sameD (rowD xs) (rowD xs) = true := ints_same xs
theorem idleL_len (n : Int) (T : List (List Int)) : (idleL n T).length ≤ T.length := pts_len _ _
def spTwins (C : Addr) : Sp := fun vs H Q _ => ∃ (S : Sr) (G : Hp) (x t d : Addr) (n : Int) (ts : List V) (T L : List (List Int)), vs = [.ref S.a, .ref x, .int n, .ref t, .ref d] ∧ Wd S G H ∧ WAt C G x n T L ∧ WOk n T L ∧ t ≠ S.a ∧ H t = some (.lst ts) ∧ DaAll G ts (T.map rowD) ∧ G d = some (.tup ((idleL n T).map V.int)) ∧ ∀ H', Q (.bl true) H'
theorem ok_twins {CW DB DN DT : Addr} (Z : Zs mg) (D : Ds K mg) (W : Dw K mg CW) (c__law_either : Cal P w K mg base "_law_either" 3 ["store", "entries"] spEither) (c__law_alike : Cal P w K mg base "_law_alike" 3 ["one", "two"] (spAlike 3)) (c__law_idle : Cal P w K mg base "_law_idle" 3 ["points", "told"] spIdle) (c_needless_told : Cal P w K mg base "needless_told" 7 ["world"] (spNeedless CW)) (c_World___init__ : CalM P w K mg base CW "__init__" 7 ["self", "points", "moves"] (spInit K CW DB DN DT)) : Cal P w K mg base "_law_twins_due" 9 ["store", "world", "points", "told", "due"] (spTwins CW) := by
  refine Def.cal D.d_law_twins_due sc_law_twins_due (fun vs H Q E h => ?_) (fun f cdv A outer s H vs Q E hr h => ?_)
  · obtain ⟨S, G, x, t, d, n, ts, T, L, rfl, wd, wat, ok, nt, ht, dT, hd, q⟩ := h
    rfl
  obtain ⟨S, G, x, t, d, n, ts, T, L, rfl, wd, wat, ok, nt, ht, dT, hd, q⟩ := h
  refine ⟨_, (pss_cons (ps_set (i := 5) sc_law_twins_due.nd rfl (Or.inl rfl) (pe_revN (pv 3)))
      (pss_cons (ps_set (i := 6) sc_law_twins_due.nd rfl (Or.inl rfl) (pe_makeQ W.wc c_World___init__ (hr.mono (by first | decide | omega)) (by rfl) (pa_cons (pv 2) (pa_cons (pe_cal c__law_either (hr.mono (by first | decide | omega)) (by rfl) (pa_cons (pv 0) (pa_cons (pv 5) pa_nil))) pa_nil))))
      (pss_cons (ps_if (PW.pt (pw_or (pt_not (pt_val (pe_cal c__law_alike (hr.mono (by first | decide | omega)) (by rfl) (pa_cons (pe_cal c_needless_told (hr.mono (by first | decide | omega)) (by rfl) (pa_cons (pv 6) pa_nil)) (pa_cons (pe_cal c__law_idle (hr.mono (by first | decide | omega)) (by rfl) (pa_cons (pv 2) (pa_cons (pv 5) pa_nil))) pa_nil))))) (pw_or1 (pt_not (pt_val (pe_cal c__law_alike (hr.mono (by first | decide | omega)) (by rfl) (pa_cons (pe_cal c_needless_told (hr.mono (by first | decide | omega)) (by rfl) (pa_cons (pv 1) pa_nil)) (pa_cons (pv 4) pa_nil)))))))) (pss_one (ps_ret pe_bl)) pss_nil)
      (pss_cons (ps_set (i := 7) sc_law_twins_due.nd rfl (Or.inl rfl) (pe_makeQ W.wc c_World___init__ (hr.mono (by first | decide | omega)) (by rfl) (pa_cons (pv 2) (pa_cons (pe_op op_catN (pv 3) (pe_slice sl_listN (pv 3) po_none (po_some (pe_op op_sub pe_int (pe_callB call_len_seq (by rfl) Z.z_len (by decide +kernel) (pa_cons (pv 3) pa_nil)))))) pa_nil))))
      (pss_cons (ps_set (i := 8) sc_law_twins_due.nd rfl (Or.inl rfl) (pe_tupRgN rfl (by rfl) Z.z_tuple (prg_2 (by rfl) Z.z_range (pe_callB call_len_seq (by rfl) Z.z_len (by decide +kernel) (pa_cons (pv 3) pa_nil)) (pe_callB (call_min2 rfl) (by rfl) Z.z_min (by decide +kernel) (pa_cons pe_int (pa_cons (pe_op op_mul pe_int (pe_callB call_len_seq (by rfl) Z.z_len (by decide +kernel) (pa_cons (pv 3) pa_nil))) pa_nil))))))
      (pss_one (ps_ret (pe_and (pe_cal c__law_alike (hr.mono (by first | decide | omega)) (by rfl) (pa_cons (pe_cal c_needless_told (hr.mono (by first | decide | omega)) (by rfl) (pa_cons (pv 7) pa_nil)) (pa_cons (pe_op op_catA (pv 4) (pv 8)) pa_nil))) (pe_one (pe_cal c__law_alike (hr.mono (by first | decide | omega)) (by rfl) (pa_cons (pe_cal c_needless_told (hr.mono (by first | decide | omega)) (by rfl) (pa_cons (pv 6) pa_nil)) (pa_cons (pe_cal c__law_idle (hr.mono (by first | decide | omega)) (by rfl) (pa_cons (pv 2) (pa_cons (pv 5) pa_nil))) pa_nil)))))))))))), ?_⟩
  have lts := dT.length
  rw [List.length_map] at lts
  have lT := ok.lT
  have l1 := idleL_len n T
  have l2 := idleL_len n T.reverse
  rw [List.length_reverse] at l2
  refine ⟨_, rfl, t, ts, rfl, .of ht, fun r H1 n1 => ?_⟩
  obtain ⟨s1, gr, hr, fr⟩ := (Go.refl wd).loc n1
  have ht1 := n1.else ht
  refine ⟨_, rfl, _, rfl, _, rfl, S, G, r, ts.reverse, rfl, s1.wd, s1.ns fr, hr, fun p b H2 s2 gp fp hp => fun y dy fy fdy ney => made_world (s1.trans s2).gh (.inl (hasL_if hp)) dT.turn ok.turn fy fdy ney fun G3 H3 s3 w3 => ⟨rfl, ?_⟩⟩
  have hr3 := s3.hh _ _ (s2.hh hr (s1.ns fr))
  have ht3 := s3.hh _ _ (s2.hh ht1 nt)
  have S3 := (s1.trans s2).q s3
  refine ⟨_, rfl, G3, y, n, _, _, rfl, S3.gh, w3, ok.turn, fun p4 G4 H4 s4 k4 => ?_⟩
  have S4 := S3.q s4
  refine ⟨_, rfl, _, rfl, G4, r, n, _, _, L, rfl, s4.gh, s4.hh _ _ hr3, dT.turn.up S4.gg, ok.turn.mv, ok.n0, ok.n12, ok.turn.lT, ok.turn.grp, ok.lL, fun p5 G5 H5 s5 k5 => ?_⟩
  have S5 := S4.q s5
  refine ⟨G5, _, _, rowD _, rowD _, rfl, s5.gh, .tup (s5.gg _ _ k4) (DaAll.ints _), .tup k5 (DaAll.ints _), row_dep _, row_siz (by omega), fun H6 s6 => ⟨_, rfl, iteBF (by rw [row_same]; rfl) ?_⟩⟩
  have S6 := S5.pure s6
  refine ⟨_, rfl, G5, x, n, _, _, rfl, S6.gh, wat.up S6.gg, ok, fun p7 G7 H7 s7 k7 => ?_⟩
  have S7 := S6.q s7
  refine ⟨_, rfl, G7, _, _, rowD _, rowD _, rfl, s7.gh, .tup k7 (DaAll.ints _), .tup (S7.gg _ _ hd) (DaAll.ints _), row_dep _, row_siz (by omega), fun H8 s8 => ⟨_, rfl, iteBF (by rw [row_same]; rfl) ?_⟩⟩
  have S8 := S7.pure s8
  have ht8 : H8 t = some (.lst ts) := s8 _ _ (s7.hh _ _ (s6 _ _ (s5.hh _ _ (s4.hh _ _ ht3))))
  have hr8 : H8 r = some (.lst ts.reverse) := s8 _ _ (s7.hh _ _ (s6 _ _ (s5.hh _ _ (s4.hh _ _ hr3))))
  have w8 : WAt CW G7 y n T.reverse L := w3.up (s4.gg.trans (s5.gg.trans s7.gg))
  refine ⟨_, rfl, _, rfl, _, rfl, _, rfl, t, ts, rfl, .inl (.of ht8), _, _, rfl, rfl, _, rfl, t, ts, rfl, .of ht8, fun r2 H9 n9 => ?_⟩
  rw [show (8 - ((ts.length : Nat) : Int)) = ((8 - T.length : Nat) : Int) by omega, cut_upto] at n9
  obtain ⟨S9, -, hr9, -⟩ := S8.loc n9
  have ok3 := ok.again (8 - T.length) (by omega)
  refine ⟨t, r2, ts, _, rfl, rfl, n9.else ht8, hr9, ?_, fun r3 HA nA => ?_⟩
  · rw [List.length_take]
    exact Nat.le_trans (show _ ≤ 16 by omega) (by decide)
  obtain ⟨SA, -, hA3, -⟩ := S9.loc nA
  refine fun y2 dy2 fy2 fdy2 ney2 => made_world SA.gh (.inl (.inl hA3)) ?_ ok3 fy2 fdy2 ney2 fun GB HB sB wB => ⟨rfl, ?_⟩
  · rw [List.map_append]
    exact (dT.append (dT.rows_take _)).up S7.gg
  have SB := SA.q sB
  have htB := sB.hh _ _ (nA.else (n9.else ht8))
  have hrB := sB.hh _ _ (nA.else (n9.else hr8))
  obtain ⟨c, ec⟩ : ∃ c : Int, c = (if 2 * ((ts.length : Nat) : Int) < 8 then 2 * ((ts.length : Nat) : Int) else 8) := ⟨_, rfl⟩
  have bc : c = ((T.length + min (8 - T.length) T.length : Nat) : Int) := by
    by_cases z : 2 * ((ts.length : Nat) : Int) < 8
    · rw [if_pos z] at ec; omega
    · rw [if_neg z] at ec; omega
  refine ⟨_, rfl, t, ts, rfl, .inl (.of htB), _, rfl, t, ts, rfl, .inl (.of htB), _, _, rfl, rfl, .inl ⟨by omega, by omega⟩, _, _, rfl, _, _, rfl, rfl, ?_, fun p8 HC nC => ?_⟩
  · rw [← ec]
    exact .of_le (by omega) (by omega) (by omega) (by omega)
  rw [← ec] at nC
  have er : rgV ((ts.length : Nat) : Int) c = ((List.range (min (8 - T.length) T.length)).map fun (j : Nat) => ((T.length : Nat) : Int) + (j : Int)).map V.int := by
    unfold rgV
    rw [List.map_map, lts, show (c - ((T.length : Nat) : Int)).toNat = min (8 - T.length) T.length by omega]
    rfl
  rw [er] at nC
  obtain ⟨GC, SC, gC, kC, -⟩ := SB.know nC
  have wC := wB.up gC
  refine ⟨_, rfl, GC, y2, n, _, _, rfl, SC.gh, wC, ok3, fun p9 GD HD sD kD => ?_⟩
  have SD := SC.q sD
  have more := idle_again ok.mv (8 - T.length)
  refine ⟨_, rfl, _, rfl, cat_ints SD.gh (SD.gg _ _ hd) (sD.gg _ _ kC) ?_ fun p10 GE HE sE kE => ?_⟩
  · rw [List.length_map, List.length_range]
    omega
  have SE := SD.q sE
  rw [← more] at kE
  have l3 := idleL_len n (T ++ T.take (8 - T.length))
  have l4 := ok3.lT
  refine ⟨GE, _, _, rowD _, rowD _, rfl, sE.gh, .tup (sE.gg _ _ kD) (DaAll.ints _), .tup kE (DaAll.ints _), row_dep _, row_siz (by omega), fun HF sF => ⟨_, rfl, iteBT (row_same _) ?_⟩⟩
  have SF := SE.pure sF
  have hrF : HF r = some (.lst ts.reverse) := sF _ _ (sE.hh _ _ (sD.hh _ _ (nC.else hrB)))
  have wF : WAt CW GE y n T.reverse L := w8.up (sB.gg.trans (gC.trans (sD.gg.trans sE.gg)))
  refine ⟨_, rfl, GE, y, n, _, _, rfl, SF.gh, wF, ok.turn, fun p11 GG HG sG kG => ?_⟩
  have SG := SF.q sG
  refine ⟨_, rfl, _, rfl, GG, r, n, _, _, L, rfl, sG.gh, sG.hh _ _ hrF, dT.turn.up SG.gg, ok.turn.mv, ok.n0, ok.n12, ok.turn.lT, ok.turn.grp, ok.lL, fun p12 GH HH sH kH => ?_⟩
  refine ⟨GH, _, _, rowD _, rowD _, rfl, sH.gh, .tup (sH.gg _ _ kG) (DaAll.ints _), .tup kH (DaAll.ints _), row_dep _, row_siz (by omega), fun HI sI => ?_⟩
  rw [row_same]
  exact q HI


noncomputable def kpL (n : Int) (T : List (List Int)) : Nat → List (List Int)
  | 0 => []
  | k + 1 => if idleB n T k = true then kpL n T k else kpL n T k ++ (T[k]?).toList
theorem idleB_true {n : Int} {T : List (List Int)} {k : Nat} : idleB n T k = true ↔ idleP n T k := by
  by_cases c : idleP n T k
  · exact ⟨fun _ => c, idle_yes⟩
  · rw [idle_no c]
    exact ⟨(fun z => by cases z), fun z => absurd z c⟩
theorem kpL_yes {n : Int} {T : List (List Int)} {k : Nat} (h : idleB n T k = true) : kpL n T (k + 1) = kpL n T k := by
  show (if idleB n T k = true then kpL n T k else _) = _
  rw [if_pos h]
theorem kpL_no {n : Int} {T : List (List Int)} {k : Nat} {m : List Int} (h : idleB n T k = false) (hm : T[k]? = some m) : kpL n T (k + 1) = kpL n T k ++ [m] := by
  show (if idleB n T k = true then kpL n T k else kpL n T k ++ (T[k]?).toList) = _
  rw [if_neg (by rw [h]; intro z; cases z), hm]
  rfl
theorem kpL_sub {n : Int} {T : List (List Int)} : ∀ k : Nat, ∀ m ∈ kpL n T k, m ∈ T.take k
  | 0, m, h => by cases h
  | k + 1, m, h => by
    have up : ∀ z, z ∈ T.take k → z ∈ T.take (k + 1) := fun z hz => by
      rw [List.take_add_one]
      exact List.mem_append_left _ hz
    by_cases c : idleB n T k = true
    · rw [kpL_yes c] at h
      exact up m (kpL_sub k m h)
    · cases e : T[k]? with
      | none =>
        have : kpL n T (k + 1) = kpL n T k := by
          show (if idleB n T k = true then kpL n T k else kpL n T k ++ (T[k]?).toList) = _
          rw [if_neg c, e]
          simp
        rw [this] at h
        exact up m (kpL_sub k m h)
      | some x =>
        rw [kpL_no (by simpa using c) e] at h
        rcases List.mem_append.mp h with h | h
        · exact up m (kpL_sub k m h)
        · rw [List.take_add_one, e, List.mem_singleton.mp h]
          simp
theorem kpL_len {n : Int} {T : List (List Int)} : ∀ k : Nat, (kpL n T k).length ≤ k
  | 0 => Nat.le_refl _
  | k + 1 => by
    have := kpL_len (n := n) (T := T) k
    show (if idleB n T k = true then kpL n T k else kpL n T k ++ (T[k]?).toList).length ≤ _
    by_cases c : idleB n T k = true
    · rw [if_pos c]; omega
    · rw [if_neg c, List.length_append]
      have : (T[k]?).toList.length ≤ 1 := by cases T[k]? <;> simp
      omega
theorem kpL_made {n : Int} {T : List (List Int)} (n0 : 0 ≤ n) (mv : AllMv n T) : ∀ k : Nat, k ≤ T.length → ∀ m ∈ T.take k, Mk' n (kpL n T k) m
  | 0, _, m, h => by simp at h
  | k + 1, hk, m, h => by
    have ih := kpL_made n0 mv k (by omega)
    have e : T[k]? = some T[k] := List.getElem?_eq_getElem (by omega)
    have mk : AllMv n (kpL n T k) := fun z hz => mv z (List.mem_of_mem_take (kpL_sub k z hz))
    have mk1 : AllMv n (kpL n T (k + 1)) := fun z hz => mv z (List.mem_of_mem_take (kpL_sub (k + 1) z hz))
    have up : ∀ z ∈ kpL n T k, z ∈ kpL n T (k + 1) := fun z hz => by
      by_cases c : idleB n T k = true
      · rw [kpL_yes c]; exact hz
      · rw [kpL_no (by simpa using c) e]; exact List.mem_append_left _ hz
    rw [List.take_add_one, e] at h
    rcases List.mem_append.mp h with h | h
    · exact (ih m h).mono up
    · have em : m = T[k] := by simpa using h
      subst em
      by_cases c : idleB n T k = true
      · obtain ⟨m', e', c'⟩ := idleB_true.mp c
        rw [e] at e'
        cases e'
        exact (made_sub n0 mk ih c').mono up
      · refine made_told mk1 ?_
        rw [kpL_no (by simpa using c) e]
        simp
theorem kpL_none {n : Int} {T : List (List Int)} (n0 : 0 ≤ n) (mv : AllMv n T) : ∀ k : Nat, k ≤ T.length → ∀ i, ¬ idleP n (kpL n T k) i
  | 0, _, i, ⟨m, h, _⟩ => by simp [kpL] at h
  | k + 1, hk, i, h => by
    have ih := kpL_none n0 mv k (by omega)
    have e : T[k]? = some T[k] := List.getElem?_eq_getElem (by omega)
    by_cases c : idleB n T k = true
    · rw [kpL_yes c] at h
      exact ih i h
    · rw [kpL_no (by simpa using c) e] at h
      obtain ⟨m, hm, hmk⟩ := h
      by_cases z : i < (kpL n T k).length
      · rw [List.getElem?_append_left z] at hm
        rw [List.take_append_of_le_length (by omega)] at hmk
        exact ih i ⟨m, hm, hmk⟩
      · have lt := (List.getElem?_eq_some_iff.mp hm).1
        rw [List.length_append] at lt
        have ei : i = (kpL n T k).length := by
          have : ([T[k]] : List (List Int)).length = 1 := rfl
          omega
        subst ei
        rw [List.getElem?_append_right (Nat.le_refl _), Nat.sub_self] at hm
        cases hm
        rw [List.take_left'  rfl] at hmk
        exact c (idle_yes ⟨_, e, hmk.mono (kpL_sub k)⟩)
theorem pts_none {f : Nat → Bool} : ∀ {k : Nat}, (∀ i, f i = false) → pts f k = []
  | 0, _ => rfl
  | k + 1, h => by rw [pts_step, pts_none h, h k]; rfl
theorem idle_kept {n : Int} {T : List (List Int)} (n0 : 0 ≤ n) (mv : AllMv n T) : idleL n (kpL n T T.length) = [] := pts_none fun i => idle_no (kpL_none n0 mv _ (Nat.le_refl _) i)
theorem WOk.kept {n : Int} {T L : List (List Int)} (w : WOk n T L) : WOk n (kpL n T T.length) L := by
  have sub : ∀ z ∈ kpL n T T.length, z ∈ T := fun z hz => List.mem_of_mem_take (kpL_sub _ z hz)
  have mv : AllMv n (kpL n T T.length) := fun z hz => w.mv z (sub z hz)
  have l := kpL_len (n := n) (T := T) T.length
  have lT := w.lT
  exact ⟨w.n0, w.n12, mv, by omega, w.lL, w.grp.like w.n0 w.mv mv (fun z hz => kpL_made w.n0 w.mv _ (Nat.le_refl _) z (by rw [List.take_length]; exact hz)) fun z hz => made_told w.mv (sub z hz)⟩
theorem rows_same : ∀ T : List (List Int), sameL (T.map rowD) (T.map rowD) = true
  | [] => rfl
  | x :: xs => by
    show (sameD (rowD x) (rowD x) && sameL (xs.map rowD) (xs.map rowD)) = true
    rw [rows_same xs, row_same]
    rfl
theorem rows_sameD (T : List (List Int)) : sameD (.list (T.map rowD)) (.list (T.map rowD)) = true := rows_same T
theorem rows_dep (T : List (List Int)) : PyData.depth (.list (T.map rowD)) < 3 := by
  have := rows_depth T
  simp only [PyData.depth]
  omega
theorem ok_law {f : Addr} {fd : FuncData} {CW DB DN DT : Addr} (Z : Zs mg) (D : Ds K mg) (F : Fun K "law" "law" s_law f fd) (W : Dw K mg CW) (c__law_store : Cal P w K mg base "_law_store" 1 ["script"] (spStore K)) (c__law_arena : Cal P w K mg base "_law_arena" 6 ["store"] spArena) (c__law_filled : Cal P w K mg base "_law_filled" 4 ["store", "told", "made"] spFilled) (c__law_idle : Cal P w K mg base "_law_idle" 3 ["points", "told"] spIdle) (c__law_either : Cal P w K mg base "_law_either" 3 ["store", "entries"] spEither) (c__law_alike : Cal P w K mg base "_law_alike" 3 ["one", "two"] (spAlike 3))
    (c_needless_told : Cal P w K mg base "needless_told" 7 ["world"] (spNeedless CW)) (c_World___init__ : CalM P w K mg base CW "__init__" 7 ["self", "points", "moves"] (spInit K CW DB DN DT)) (c_World_told : CalP P w K mg base CW "told" 1 ["self"] (spTold CW)) (c_World___len__ : CalM P w K mg base CW "__len__" 1 ["self"] (spLenW CW)) (c_World___eq__ : CalM P w K mg base CW "__eq__" 1 ["self", "other"] (spEqW CW)) (c__law_twins_due : Cal P w K mg base "_law_twins_due" 9 ["store", "world", "points", "told", "due"] (spTwins CW)) : FnOk P w K mg base CX0 11 f fd ["script"] (spLaw K) := by
  refine F.ok sc_law (fun vs H Q E h => ?_) (fun cdv A outer s H vs Q E hr h => ?_)
  · obtain ⟨a, ns, rfl, _⟩ := h
    rfl
  obtain ⟨a, ns, rfl, hS, hn, q⟩ := h
  refine ⟨_, (pss_cons (ps_set (i := 1) sc_law.nd rfl (Or.inl rfl) (pe_cal c__law_store (hr.mono (by first | decide | omega)) (by rfl) (pa_cons (pv 0) pa_nil)))
      (pss_cons (ps_set (i := 2) sc_law.nd rfl (Or.inl rfl) (pe_cal c__law_arena (hr.mono (by first | decide | omega)) (by rfl) (pa_cons (pv 1) pa_nil)))
      (pss_cons (ps_set (i := 3) sc_law.nd rfl (Or.inl rfl) (pe_ix ix_list (pv 2) pe_int (fun _ _ => rfl)))
      (pss_cons (ps_set (i := 4) sc_law.nd rfl (Or.inr rfl) (pe_cal c__law_filled (hr.mono (by first | decide | omega)) (by rfl) (pa_cons (pv 1) (pa_cons (pe_ix ix_list (pv 2) pe_int (fun _ _ => rfl)) (pa_cons (pe_ix ix_list (pv 2) pe_int (fun _ _ => rfl)) pa_nil)))))
      (pss_cons (ps_set (i := 5) sc_law.nd rfl (Or.inr rfl) (pe_cal c__law_idle (hr.mono (by first | decide | omega)) (by rfl) (pa_cons (pv 3) (pa_cons (pv 4) pa_nil))))
      (pss_cons (ps_set (i := 6) sc_law.nd rfl (Or.inl rfl) (pe_cal c__law_either (hr.mono (by first | decide | omega)) (by rfl) (pa_cons (pv 1) (pa_cons (pv 4) pa_nil))))
      (pss_cons (ps_set (i := 7) sc_law.nd rfl (Or.inl rfl) (pe_makeQ W.wc c_World___init__ (hr.mono (by first | decide | omega)) (by rfl) (pa_cons (pv 3) (pa_cons (pv 6) pa_nil))))
      (Evl.pss_cut (ps_if (pt_val (pe_callB call_isD (by rfl) Z.z_isinstance (by decide +kernel) (pa_cons (pv 6) (pa_cons (pe_bltn (v := .ty "list") (by rfl) Z.z_list (by decide +kernel) rfl) pa_nil)))) (pss_one (ps_expr (pe_bm0 PySem.F.plainAttrs_list PySem.F.slot_list_clear PySem.F.type_list_clear mt_clear (pv 6)))) pss_nil)
      (pss_cons (ps_if (pt_not (pt_val (pe_cal c__law_alike (hr.mono (by first | decide | omega)) (by rfl) (pa_cons (pe_cal c_needless_told (hr.mono (by first | decide | omega)) (by rfl) (pa_cons (pv 7) pa_nil)) (pa_cons (pv 5) pa_nil))))) (pss_one (ps_ret pe_bl)) pss_nil)
      (pss_cons (ps_set (i := 8) sc_law.nd rfl (Or.inl rfl) (pe_propQ W.wc c_World_told (hr.mono (by first | decide | omega)) (pv 7)))
      (pss_cons (ps_if (pt_not (pt_val (pe_cal c__law_alike (hr.mono (by first | decide | omega)) (by rfl) (pa_cons (pv 8) (pa_cons (pv 4) pa_nil))))) (pss_one (ps_ret pe_bl)) pss_nil)
      (pss_cons (ps_expr (pe_bm PySem.F.plainAttrs_list PySem.F.slot_list_insert PySem.F.type_list_insert mt_insertN (pv 8) (pa_cons pe_int (pa_cons (pe_tupRgN rfl (by rfl) Z.z_tuple (prg_1 (by rfl) Z.z_range (pv 3))) pa_nil))))
      (pss_cons (ps_if (PW.pt (pw_or (pt_not (pt_val (pe_cal c__law_alike (hr.mono (by first | decide | omega)) (by rfl) (pa_cons (pe_cal c_needless_told (hr.mono (by first | decide | omega)) (by rfl) (pa_cons (pv 7) pa_nil)) (pa_cons (pv 5) pa_nil))))) (pw_or1 (pt_not (pt_val (pe_cal c__law_alike (hr.mono (by first | decide | omega)) (by rfl) (pa_cons (pe_propQ W.wc c_World_told (hr.mono (by first | decide | omega)) (pv 7)) (pa_cons (pv 4) pa_nil)))))))) (pss_one (ps_ret pe_bl)) pss_nil)
      (pss_cons (ps_set (i := 9) sc_law.nd rfl (Or.inl rfl) (pe_makeQ W.wc c_World___init__ (hr.mono (by first | decide | omega)) (by rfl) (pa_cons (pv 3) (pa_cons (pe_lc (own := [("k", 10)]) (g := gName 10) (by rfl) sc_law.nd (pi_range1 (by rfl) Z.z_range (pa_cons (pe_callB call_len_seq (by rfl) Z.z_len (by decide +kernel) (pa_cons (pv 4) pa_nil)) pa_nil)) (blkOk_by (N := ["script", "store", "drawn", "points", "told", "due", "handed", "world", "out", "needed", "k"]) (sc := defScope s_law) (by decide +kernel)) (fun _ _ _ _ _ => pg_name (i := 10) sc_law.nd rfl (Or.inl rfl)) (fun _ _ _ _ _ => pts_one (pt_cmpR (op_notIn_seqK (K := K) rfl) (pv 10) (pv 5) (by with_unfolding_all rfl))) (fun _ _ _ _ _ => (pe_ix (ix_listK (K := K) rfl) (pv 4) (pv 10) (fun _ _ => rfl)))) pa_nil))))
      (pss_cons (ps_if (pt_not (pt_val (pe_cal c__law_alike (hr.mono (by first | decide | omega)) (by rfl) (pa_cons (pe_cal c_needless_told (hr.mono (by first | decide | omega)) (by rfl) (pa_cons (pv 9) pa_nil)) (pa_cons (pe_tupN pa_nil) pa_nil))))) (pss_one (ps_ret pe_bl)) pss_nil)
      (pss_cons (ps_if (PW.pt (pw_or (pt_cmpR op_notBD (pe_cmpR (op_eqW c_World___eq__ (hr.mono (by first | decide | omega))) (pv 9) (pv 7) (nomark _)) pe_bl (nomark _)) (pw_or1 (pt_not (pt_val (pe_cal c__law_alike (hr.mono (by first | decide | omega)) (by rfl) (pa_cons (pe_callB (call_lenW c_World___len__ (hr.mono (by first | decide | omega))) (by rfl) Z.z_len (by decide +kernel) (pa_cons (pv 9) pa_nil)) (pa_cons (pe_callB call_len (by rfl) Z.z_len (by decide +kernel) (pa_cons (pe_ix ix_list (pv 2) pe_int (fun _ _ => rfl)) pa_nil)) pa_nil)))))))) (pss_one (ps_ret pe_bl)) pss_nil)
      (pss_one (ps_ret (pe_or (pe_cmp (pc_gt (pe_callB call_len (by rfl) Z.z_len (by decide +kernel) (pa_cons (pe_ix ix_list (pv 2) pe_int (fun _ _ => rfl)) pa_nil)) pe_int) (nomark _)) (pe_one (pe_cal c__law_twins_due (hr.mono (by first | decide | omega)) (by rfl) (pa_cons (pv 1) (pa_cons (pv 7) (pa_cons (pv 3) (pa_cons (pv 4) (pa_cons (pv 5) pa_nil)))))))))))))))))))))))))), ?_⟩
  refine ⟨_, rfl, a, ns, rfl, hS, hn, fun S H1 w1 => ?_⟩
  have s1 := Go.refl w1
  refine ⟨_, rfl, S, H, rfl, w1, fun p n T0 L H2 ⟨G2, k0, m0, ks, ms, s2, gp, gk, gm, fp, fk, fm, nkm, hp, hk, hm, dk, dm, mv0, n0, n12, lT0, grp0, lL⟩ => ?_⟩
  refine ⟨_, rfl, p, _, 0, _, rfl, rfl, .of hp, rfl, ?_⟩
  refine ⟨_, rfl, _, rfl, p, _, 1, _, rfl, rfl, .of hp, rfl, _, rfl, p, _, 2, _, rfl, rfl, .of hp, rfl, S, G2, k0, m0, n, ks, ms, T0, L, rfl, s2.wd, s2.ns fk, s2.ns fm, hk, hm, dk, dm, mv0, n0, lT0, grp0, lL, fun t ts T H3 s3 ft gt ht dT mv lT grp => ?_⟩
  have hp3 := s3.hh hp (s2.ns fp)
  have hm3 := s3.hh hm (s2.ns fm)
  have ft := s2.fresh ft
  have s3 := s2.trans s3
  have ok : WOk n T L := ⟨n0, n12, mv, lT, lL, grp⟩
  have lts := dT.length
  rw [List.length_map] at lts
  refine ⟨_, rfl, _, rfl, G2, t, n, ts, T, L, rfl, s3.gh, ht, dT, mv, n0, n12, lT, grp, lL, fun d G4 H4 s4 kd => ?_⟩
  have S4 := s3.q s4
  have ht4 := s4.hh _ _ ht
  have hp4 := s4.hh _ _ hp3
  have hm4 := s4.hh _ _ hm3
  have l1 := idleL_len n T
  have zT := sz_rows n12 mv
  have szT : szD (.list (T.map rowD)) ≤ 900000 := by
    show 1 + szL (T.map rowD) ≤ 900000
    omega
  refine ⟨_, rfl, _, rfl, S, G4, t, ts, rfl, S4.wd, S4.ns ft, ht4, fun hd_ b H5 s5 gh5 fh5 hh5 => ?_⟩
  have fh1 := S4.fresh fh5
  refine ⟨_, rfl, _, rfl, fun x dx fx fdx nex => made_world (S4.trans s5).gh (.inl (hasL_if hh5)) (dT.up s4.gg) ok fx fdx nex fun G6 H6 s6 w6 => ⟨rfl, ?_⟩⟩
  have S6 := (S4.trans s5).q s6
  have hh6 := s6.hh _ _ hh5
  have ht6 := s6.hh _ _ (s5.hh ht4 (S4.ns ft))
  have hp6 := s6.hh _ _ (s5.hh hp4 (S4.ns fp))
  have hm6 := s6.hh _ _ (s5.hh hm4 (S4.ns fm))
  have kd6 := s6.gg _ _ kd
  have dT6 := dT.up (s4.gg.trans s6.gg)
  have nth : t ≠ hd_ := fun z => by rw [← z, ht4] at fh5; cases fh5
  have nph : p ≠ hd_ := fun z => by rw [← z, hp4] at fh5; cases fh5
  have nmh : m0 ≠ hd_ := fun z => by rw [← z, hm4] at fh5; cases fh5
  refine ⟨fun σ' H' => σ' = [some (.ref a), some (.ref S.a), some (.ref p), some (.int n), some (.ref t), some (.ref d), some (.ref hd_), some (.ref x), none, none, none] ∧ Go S H H1 G6 H' ∧ H' t = some (.lst ts) ∧ H' p = some (.lst [.int n, .ref k0, .ref m0]) ∧ H' m0 = some (.lst ms), ?_, ?_⟩
  · cases b with
    | true => exact ⟨_, rfl, _, .tuple (T.map rowD), "list", rfl, .tup hh6 (dT6.up S6.gh), ok_list, _, rfl, iteBF (ib_tuple_list _) ⟨rfl, S6, ht6, hp6, hm6⟩⟩
    | false =>
      have gh6 : G6 hd_ = none := s6.nw _ _ hh5 rfl gh5
      exact ⟨_, rfl, _, .list (T.map rowD), "list", rfl, .lst hh6 (dT6.up S6.gh), ok_list, _, rfl, iteBT (ib_list_list _) ⟨_, rfl, .inl ⟨rfl, _, .of hh6⟩, hd_, ts, rfl, rfl, hh6, rfl, S6.mut gh6 fh1 rfl, by rw [upd_ne nth]; exact ht6, by rw [upd_ne nph]; exact hp6, by rw [upd_ne nmh]; exact hm6⟩⟩
  rintro σ' H7 ⟨rfl, S7, ht7, hp7, hm7⟩
  refine ⟨_, rfl, G6, x, n, _, _, rfl, S7.gh, w6, ok, fun p8 G8 H8 s8 k8 => ?_⟩
  have S8 := S7.q s8
  refine ⟨_, rfl, H8, _, _, rowD _, rowD _, rfl, Same.refl _, .tup (s8.gh _ _ k8) (DaAll.ints _), .tup (s8.gh _ _ (s8.gg _ _ kd6)) (DaAll.ints _), row_dep _, row_siz (by omega), fun H9 s9 => ⟨_, rfl, iteBF (by rw [row_same]; rfl) ?_⟩⟩
  have S9 := S8.pure s9
  have ht9 := s9 _ _ (s8.hh _ _ ht7)
  have hp9 := s9 _ _ (s8.hh _ _ hp7)
  have hm9 := s9 _ _ (s8.hh _ _ hm7)
  have w8 := w6.up s8.gg
  have told : ∃ dx fs, G8 x = some (.ins CW dx fs) := by
    obtain ⟨dx, ml, tl, ms, ts, h1, _⟩ := w8
    exact ⟨dx, _, h1⟩
  obtain ⟨dx, fs, hx8⟩ := told
  refine ⟨_, rfl, x, dx, _, rfl, S9.gh _ _ hx8, G8, x, n, T, L, rfl, S9.gh, w8, fun po zs HA dz nA => ?_⟩
  obtain ⟨SA, go, ho, fo⟩ := S9.loc nA
  have htA := nA.else ht9
  have hpA := nA.else hp9
  have hmA := nA.else hm9
  refine ⟨_, rfl, _, rfl, HA, _, _, .list (T.map rowD), .list (T.map rowD), rfl, Same.refl _, .lst ho (dz.up SA.gh), .lst htA ((dT6.up s8.gg).up SA.gh), rows_dep T, szT, fun HB sB => ⟨_, rfl, iteBF (by rw [rows_sameD]; rfl) ?_⟩⟩
  have SB := SA.pure sB
  have hoB := sB _ _ ho
  refine ⟨_, rfl, .inl ⟨rfl, _, .of hoB⟩, _, rfl, n, rfl, .of_le (by decide) (by omega) (by decide) (by omega), fun st HC nC => ?_⟩
  have SC := (SB.loc nC).1
  have lz := dz.length
  rw [List.length_map] at lz
  refine ⟨po, zs, 0, .ref st, rfl, rfl, nC.else hoB, Nat.lt_of_le_of_lt (show zs.length ≤ 8 by omega) (by decide), by omega, by omega, fun HD eD => ?_⟩
  have SD := SC.mut go fo eD
  have ntp : t ≠ po := fun z => by rw [z, nA.fr] at ht9; cases ht9
  have npp : p ≠ po := fun z => by rw [z, nA.fr] at hp9; cases hp9
  have nmp : m0 ≠ po := fun z => by rw [z, nA.fr] at hm9; cases hm9
  have htD := upd_else eD (nC.else (sB _ _ htA)) ntp
  have hpD := upd_else eD (nC.else (sB _ _ hpA)) npp
  have hmD := upd_else eD (nC.else (sB _ _ hmA)) nmp
  refine ⟨_, rfl, G8, x, n, _, _, rfl, SD.gh, w8, ok, fun p9 GE HE sE kE => ?_⟩
  have SE := SD.q sE
  have kd8 := s8.gg _ _ kd6
  refine ⟨_, rfl, HE, _, _, rowD _, rowD _, rfl, Same.refl _, .tup (sE.gh _ _ kE) (DaAll.ints _), .tup (sE.gh _ _ (sE.gg _ _ kd8)) (DaAll.ints _), row_dep _, row_siz (by omega), fun HF sF => ⟨_, rfl, iteBF (by rw [row_same]; rfl) ?_⟩⟩
  have SF := SE.pure sF
  have wE := w8.up sE.gg
  refine ⟨_, rfl, x, dx, _, rfl, SF.gh _ _ (sE.gg _ _ hx8), GE, x, n, T, L, rfl, SF.gh, wE, fun po2 zs2 HG dz2 nG => ?_⟩
  obtain ⟨SG, -, hoG, -⟩ := SF.loc nG
  have htG := nG.else (sF _ _ (sE.hh _ _ htD))
  have hpG := nG.else (sF _ _ (sE.hh _ _ hpD))
  have hmG := nG.else (sF _ _ (sE.hh _ _ hmD))
  have dTE := (dT6.up s8.gg).up sE.gg
  refine ⟨_, rfl, HG, _, _, .list (T.map rowD), .list (T.map rowD), rfl, Same.refl _, .lst hoG (dz2.up SG.gh), .lst htG (dTE.up SG.gh), rows_dep T, szT, fun HH sH => ⟨_, rfl, iteBF (by rw [rows_sameD]; rfl) ?_⟩⟩
  have SH := SG.pure sH
  have htH := sH _ _ htG
  have hpH := sH _ _ hpG
  have hmH := sH _ _ hmG
  have kdE := sE.gg _ _ kd8
  refine ⟨_, rfl, _, rfl, t, ts, rfl, .inl (.of htH), _, rfl, by omega, by omega, fun l hl => ?_⟩
  refine lc_range (lo := 0) (n := ((ts.length : Nat) : Int).toNat) (fun i H' => ∃ (zs : List V), Go S H H1 GE H' ∧ H1 l = none ∧ H' l = some (.lst zs) ∧ DaAll GE zs ((kpL n T i).map rowD) ∧ H' t = some (.lst ts) ∧ H' p = some (.lst [.int n, .ref k0, .ref m0]) ∧ H' m0 = some (.lst ms)) ?_ ?_ ?_
  · have nl : New HH l (.lst []) _ := ⟨hl, rfl⟩
    obtain ⟨SI, gl, hl2, fl⟩ := SH.loc nl
    exact ⟨[], SI, fl, hl2, .nil, nl.else htH, nl.else hpH, nl.else hmH⟩
  · rintro i HI hi ⟨zs3, SI, fl, hl2, dz3, htI, hpI, hmI⟩
    have gl : GE l = none := SH.gh.free hl
    have ilt : i < T.length := by omega
    have em : T[i]? = some T[i] := List.getElem?_eq_getElem ilt
    obtain ⟨y, hy⟩ : ∃ y, ts[i]? = some y := ⟨_, List.getElem?_eq_getElem (by omega)⟩
    obtain ⟨e, he, hde⟩ := dTE.get hy
    rw [List.getElem?_map, em] at he
    cases he
    have lk := kpL_len (n := n) (T := T) i
    have lz3 := dz3.length
    rw [List.length_map] at lz3
    have ntl : t ≠ l := fun z => by rw [z, hl] at htH; cases htH
    have npl : p ≠ l := fun z => by rw [z, hl] at hpH; cases hpH
    have nml : m0 ≠ l := fun z => by rw [z, hl] at hmH; cases hmH
    refine ⟨rfl, _, rfl, _, rfl, d, _, rfl, .inr (.of (SI.gh _ _ kdE)), rfl, flat_ints _, _, rfl, ?_⟩
    have iv : inV (V.int (0 + (i : Int))) ((idleL n T).map V.int) = idleB n T i := by
      rw [inV_ints, Int.zero_add]
      by_cases c : idleB n T i = true
      · rw [c]
        exact decide_eq_true (pts_mem.mpr ⟨by omega, by omega, c⟩)
      · rw [show idleB n T i = false by simpa using c]
        refine decide_eq_false (fun z => c ?_)
        have := (pts_mem.mp z).2.2
        rwa [Int.toNat_natCast] at this
    cases c : idleB n T i with
    | true =>
      refine iteBF (by rw [iv, c]; rfl) ⟨zs3, SI, fl, hl2, ?_, htI, hpI, hmI⟩
      rw [kpL_yes c]
      exact dz3
    | false =>
      have at_ : atI ts (0 + (i : Int)) = some y := by rw [Int.zero_add]; exact atI_nat hy
      refine iteBT (by rw [iv, c]; rfl) ⟨_, rfl, _, rfl, t, _, _, _, rfl, rfl, .of htI, at_, zs3, hl2, lt (by omega), zs3 ++ [y], SI.mut gl fl rfl, fl, upd_same, ?_, by rw [upd_ne ntl]; exact htI, by rw [upd_ne npl]; exact hpI, by rw [upd_ne nml]; exact hmI⟩
      rw [kpL_no c em, List.map_append]
      exact dz3.append (.one hde)
  · rintro HI ⟨zs3, SI, fl, hl2, dz3, htI, hpI, hmI⟩
    rw [show ((ts.length : Nat) : Int).toNat = T.length by omega] at dz3
    have okk := ok.kept
    refine fun y dy fy fdy ney => made_world SI.gh (.inl (.inl hl2)) dz3 okk fy fdy ney fun GJ HJ sJ wJ => ⟨rfl, ?_⟩
    have SJ := SI.q sJ
    have hpJ := sJ.hh _ _ hpI
    have hmJ := sJ.hh _ _ hmI
    have htJ := sJ.hh _ _ htI
    refine ⟨_, rfl, GJ, y, n, _, _, rfl, SJ.gh, wJ, okk, fun pa GK HK sK kK => ⟨by show 0 ≤ sizeLine; decide, fun pb HL nL => ?_⟩⟩
    have SK := SJ.q sK
    obtain ⟨GL, SL, gL, kL, -⟩ := SK.know nL
    rw [idle_kept n0 mv] at kK
    refine ⟨HL, _, _, rowD [], rowD [], rfl, Same.refl _, .tup (SL.gh _ _ (gL _ _ kK)) (DaAll.ints _), .tup nL.at .nil, row_dep _, row_siz (by decide), fun HM sM => ⟨_, rfl, iteBF (by rw [row_same]; rfl) ?_⟩⟩
    have SM := SL.pure sM
    have hpM := sM _ _ (nL.else (sK.hh _ _ hpJ))
    have hmM := sM _ _ (nL.else (sK.hh _ _ hmJ))
    have htM := sM _ _ (nL.else (sK.hh _ _ htJ))
    have wy := wJ.up (sK.gg.trans gL)
    have wx := wE.up (sJ.gg.trans (sK.gg.trans gL))
    have kdM := gL _ _ (sK.gg _ _ (sJ.gg _ _ kdE))
    have dTM := dTE.up (sJ.gg.trans (sK.gg.trans gL))
    obtain ⟨dxy, mly, tly, msy, tsy, hy1, hyr⟩ := id wy
    obtain ⟨dxx, mlx, tlx, msx, tsx, hx1, hxr⟩ := id wx
    refine ⟨_, rfl, _, rfl, y, x, dxy, dxx, _, _, rfl, rfl, SM.gh _ _ hy1, SM.gh _ _ hx1, GL, y, x, n, n, _, _, _, _, rfl, SM.gh, wy, wx, fun b hb => ?_⟩
    have eb : b = true := hb.mpr ⟨rfl, rfl⟩
    subst eb
    refine ⟨⟨_, rfl⟩, .bool true, true, .bl true, rfl, _, rfl, iteBF (by simp) ?_⟩
    have lms := dm.length
    rw [List.length_map] at lms
    refine ⟨_, rfl, y, dxy, _, rfl, SM.gh _ _ hy1, GL, y, n, _, _, rfl, SM.gh, wy, _, rfl, by omega, by omega, ?_⟩
    refine ⟨_, rfl, p, _, 2, _, rfl, rfl, .of hpM, rfl, .ref m0, ms.length, rfl, .inl ⟨_, .of hmM, rfl⟩, ?_⟩
    refine ⟨HM, _, _, .int _, .int _, rfl, Same.refl _, .int _, .int _, by simp [PyData.depth], by show 1 ≤ 900000; decide, fun HN sN => ⟨_, rfl, iteBF (by rw [show sameD (.int ((L.length : Nat) : Int)) (.int ((ms.length : Nat) : Int)) = true from decide_eq_true (by omega)]; rfl) ?_⟩⟩
    have SN := SM.pure sN
    have hpN := sN _ _ hpM
    have hmN := sN _ _ hmM
    have htN := sN _ _ htM
    refine ⟨_, rfl, p, _, 2, _, rfl, rfl, .of hpN, rfl, .ref m0, ms.length, rfl, .inl ⟨_, .of hmN, rfl⟩, _, _, rfl, rfl, _, rfl, ite2 (fun c => q _) (fun c => ?_)⟩
    exact ⟨_, rfl, _, rfl, _, rfl, _, rfl, _, rfl, S, GL, x, t, d, n, ts, T, L, rfl, SN.wd, wx, ok, SN.ns ft, htN, dTM, kdM, q⟩

end
theorem w_Z {P : Program} {w : World} {K : PySem.W.Frag} {h : Heap} {mg : Str → Option Value} (X : K.In h) (G : h.Ns mainGlobals mg) (c : SaysW faL fnL exL K) : Zs mg := ⟨He.free_ok X G (c.fact 1 (f := .free "ValueError") rfl),
    He.free_ok X G (c.fact 2 (f := .free "isinstance") rfl),
    He.free_ok X G (c.fact 3 (f := .free "int") rfl),
    He.free_ok X G (c.fact 4 (f := .free "bool") rfl),
    He.free_ok X G (c.fact 5 (f := .free "str") rfl),
    He.free_ok X G (c.fact 6 (f := .free "tuple") rfl),
    He.free_ok X G (c.fact 7 (f := .free "list") rfl),
    He.free_ok X G (c.fact 8 (f := .free "len") rfl),
    He.free_ok X G (c.fact 9 (f := .free "range") rfl),
    He.free_ok X G (c.fact 10 (f := .free "all") rfl),
    He.free_ok X G (c.fact 11 (f := .free "sorted") rfl),
    He.free_ok X G (c.fact 12 (f := .free "min") rfl),
    He.free_ok X G (c.fact 13 (f := .free "sum") rfl),
    He.free_ok X G (c.fact 14 (f := .free "enumerate") rfl),
    He.free_ok X G (c.fact 15 (f := .free "iter") rfl),
    He.int_ok X G (c.fact 16 (f := .int "MOST_POINTS" 12) rfl),
    He.int_ok X G (c.fact 17 (f := .int "MOST_TOLD" 8) rfl),
    He.int_ok X G (c.fact 18 (f := .int "MOST_MADE" 400) rfl)⟩
theorem w_D {P : Program} {w : World} {K : PySem.W.Frag} {h : Heap} {mg : Str → Option Value} (X : K.In h) (G : h.Ns mainGlobals mg) (c : SaysW faL fnL exL K) : Ds K mg := ⟨def_w X G (c.def_ 1 (d := dFn "is_number" s_is_number) rfl) (c.fact 19 (f := .glo "is_number") rfl) (fun _ _ _ _ _ _ us hl => match us, hl with | [_, _, _], _ => rfl),
    def_w X G (c.def_ 2 (d := dFn "is_point" s_is_point) rfl) (c.fact 20 (f := .glo "is_point") rfl) (fun _ _ _ _ _ _ us hl => match us, hl with | [_, _], _ => rfl),
    def_w X G (c.def_ 3 (d := dFn "is_move_on" s_is_move_on) rfl) (c.fact 21 (f := .glo "is_move_on") rfl) (fun _ _ _ _ _ _ us hl => match us, hl with | [_, _], _ => rfl),
    def_w X G (c.def_ 4 (d := dFn "check_number" s_check_number) rfl) (c.fact 22 (f := .glo "check_number") rfl) (fun _ _ _ _ _ _ us hl => match us, hl with | [_, _, _], _ => rfl),
    def_w X G (c.def_ 5 (d := dFn "check_points" s_check_points) rfl) (c.fact 23 (f := .glo "check_points") rfl) (fun _ _ _ _ _ _ us hl => match us, hl with | [_], _ => rfl),
    def_w X G (c.def_ 6 (d := dFn "check_moves" s_check_moves) rfl) (c.fact 24 (f := .glo "check_moves") rfl) (fun _ _ _ _ _ _ us hl => match us, hl with | [_, _, _, _], _ => rfl),
    def_w X G (c.def_ 7 (d := dFn "carry" s_carry) rfl) (c.fact 25 (f := .glo "carry") rfl) (fun _ _ _ _ _ _ us hl => match us, hl with | [_, _], _ => rfl),
    def_w X G (c.def_ 8 (d := dFn "still_move" s_still_move) rfl) (c.fact 26 (f := .glo "still_move") rfl) (fun _ _ _ _ _ _ us hl => match us, hl with | [_], _ => rfl),
    def_w X G (c.def_ 9 (d := dFn "best_words" s_best_words) rfl) (c.fact 27 (f := .glo "best_words") rfl) (fun _ _ _ _ _ _ us hl => match us, hl with | [_, _], _ => rfl),
    defD_w X G (c.def_ 10 (d := dFnD "make_all" s_make_all) rfl) (c.fact 28 (f := .glo "make_all") rfl) (fun _ _ _ _ _ _ _ us its hl h1 => match us, hl, its, h1 with | [_, _], _, [_], _ => ⟨_, rfl, rfl⟩),
    def_w X G (c.def_ 11 (d := dFn "needless_told" s_needless_told) rfl) (c.fact 29 (f := .glo "needless_told") rfl) (fun _ _ _ _ _ _ us hl => match us, hl with | [_], _ => rfl),
    def_w X G (c.def_ 12 (d := dFn "_next_layer" s_next_layer) rfl) (c.fact 30 (f := .glo "_next_layer") rfl) (fun _ _ _ _ _ _ us hl => match us, hl with | [_, _, _], _ => rfl),
    def_w X G (c.def_ 13 (d := dFn "_law_store" s_law_store) rfl) (c.fact 31 (f := .glo "_law_store") rfl) (fun _ _ _ _ _ _ us hl => match us, hl with | [_], _ => rfl),
    def_w X G (c.def_ 14 (d := dFn "_law_mixed" s_law_mixed) rfl) (c.fact 32 (f := .glo "_law_mixed") rfl) (fun _ _ _ _ _ _ us hl => match us, hl with | [_, _], _ => rfl),
    def_w X G (c.def_ 15 (d := dFn "_law_take" s_law_take) rfl) (c.fact 33 (f := .glo "_law_take") rfl) (fun _ _ _ _ _ _ us hl => match us, hl with | [_, _], _ => rfl),
    def_w X G (c.def_ 16 (d := dFn "_law_pick" s_law_pick) rfl) (c.fact 34 (f := .glo "_law_pick") rfl) (fun _ _ _ _ _ _ us hl => match us, hl with | [_, _], _ => rfl),
    def_w X G (c.def_ 17 (d := dFn "_law_place" s_law_place) rfl) (c.fact 35 (f := .glo "_law_place") rfl) (fun _ _ _ _ _ _ us hl => match us, hl with | [_, _], _ => rfl),
    def_w X G (c.def_ 18 (d := dFn "_law_drawn" s_law_drawn) rfl) (c.fact 36 (f := .glo "_law_drawn") rfl) (fun _ _ _ _ _ _ us hl => match us, hl with | [_, _, _], _ => rfl),
    def_w X G (c.def_ 19 (d := dFn "_law_either" s_law_either) rfl) (c.fact 37 (f := .glo "_law_either") rfl) (fun _ _ _ _ _ _ us hl => match us, hl with | [_, _], _ => rfl),
    def_w X G (c.def_ 20 (d := dFn "_law_after" s_law_after) rfl) (c.fact 38 (f := .glo "_law_after") rfl) (fun _ _ _ _ _ _ us hl => match us, hl with | [_, _], _ => rfl),
    def_w X G (c.def_ 21 (d := dFn "_law_renamed" s_law_renamed) rfl) (c.fact 39 (f := .glo "_law_renamed") rfl) (fun _ _ _ _ _ _ us hl => match us, hl with | [_, _], _ => rfl),
    def_w X G (c.def_ 22 (d := dFn "_law_move" s_law_move) rfl) (c.fact 40 (f := .glo "_law_move") rfl) (fun _ _ _ _ _ _ us hl => match us, hl with | [_, _], _ => rfl),
    def_w X G (c.def_ 23 (d := dFn "_law_group" s_law_group) rfl) (c.fact 41 (f := .glo "_law_group") rfl) (fun _ _ _ _ _ _ us hl => match us, hl with | [_, _, _], _ => rfl),
    def_w X G (c.def_ 24 (d := dFn "_law_alike" s_law_alike) rfl) (c.fact 42 (f := .glo "_law_alike") rfl) (fun _ _ _ _ _ _ us hl => match us, hl with | [_, _], _ => rfl),
    def_w X G (c.def_ 25 (d := dFn "_law_arena_menu" s_law_arena_menu) rfl) (c.fact 43 (f := .glo "_law_arena_menu") rfl) (fun _ _ _ _ _ _ us hl => match us, hl with | [_], _ => rfl),
    def_w X G (c.def_ 26 (d := dFn "_law_turned_blocks" s_law_turned_blocks) rfl) (c.fact 44 (f := .glo "_law_turned_blocks") rfl) (fun _ _ _ _ _ _ us hl => match us, hl with | [_, _], _ => rfl),
    def_w X G (c.def_ 27 (d := dFn "_law_arena_told" s_law_arena_told) rfl) (c.fact 45 (f := .glo "_law_arena_told") rfl) (fun _ _ _ _ _ _ us hl => match us, hl with | [_, _], _ => rfl),
    def_w X G (c.def_ 28 (d := dFn "_law_arena" s_law_arena) rfl) (c.fact 46 (f := .glo "_law_arena") rfl) (fun _ _ _ _ _ _ us hl => match us, hl with | [_], _ => rfl),
    def_w X G (c.def_ 29 (d := dFn "_law_idle" s_law_idle) rfl) (c.fact 47 (f := .glo "_law_idle") rfl) (fun _ _ _ _ _ _ us hl => match us, hl with | [_, _], _ => rfl),
    def_w X G (c.def_ 30 (d := dFn "_law_filled" s_law_filled) rfl) (c.fact 48 (f := .glo "_law_filled") rfl) (fun _ _ _ _ _ _ us hl => match us, hl with | [_, _, _], _ => rfl),
    def_w X G (c.def_ 31 (d := dFn "_law_twins_due" s_law_twins_due) rfl) (c.fact 49 (f := .glo "_law_twins_due") rfl) (fun _ _ _ _ _ _ us hl => match us, hl with | [_, _, _, _, _], _ => rfl)⟩
theorem w_W {P : Program} {w : World} {K : PySem.W.Frag} {h : Heap} {mg : Str → Option Value} (X : K.In h) (G : h.Ns mainGlobals mg) (c : SaysW faL fnL exL K) : Dw K mg (He.ga K "World") := ⟨wc_w X G (c.fact 50 (f := .glo "World") rfl) (c.more 0 (f := wcB "World") rfl),
    He.noat_ok (c.fact 51 (f := .noat "World" "_made") rfl),
    He.noat_ok (c.fact 52 (f := .noat "World" "_points") rfl),
    He.noat_ok (c.fact 53 (f := .noat "World" "_told") rfl),
    mdefD_w (c.def_ 32 (d := dMeD "World" "__init__" "World.__init__" s_World___init__) rfl) (c.fact 54 (f := .meth "World" "__init__") rfl) (fun _ _ _ _ _ _ _ us its hl h1 => match us, hl, its, h1 with | [_, _, _], _, [_], _ => ⟨_, rfl, rfl⟩),
    pdef_w (c.def_ 33 (d := dPr "World" "points" "World.points" s_World_points) rfl) (c.more 1 (f := prB "World" "points") rfl) (fun _ _ _ _ _ _ us hl => match us, hl with | [_], _ => rfl),
    pdef_w (c.def_ 34 (d := dPr "World" "told" "World.told" s_World_told) rfl) (c.more 2 (f := prB "World" "told") rfl) (fun _ _ _ _ _ _ us hl => match us, hl with | [_], _ => rfl),
    pdef_w (c.def_ 35 (d := dPr "World" "made" "World.made" s_World_made) rfl) (c.more 3 (f := prB "World" "made") rfl) (fun _ _ _ _ _ _ us hl => match us, hl with | [_], _ => rfl),
    mdef_w (c.def_ 36 (d := dMe "World" "__len__" "World.__len__" s_World___len__) rfl) (c.fact 55 (f := .meth "World" "__len__") rfl) (fun _ _ _ _ _ _ us hl => match us, hl with | [_], _ => rfl),
    mdef_w (c.def_ 37 (d := dMe "World" "__iter__" "World.__iter__" s_World___iter__) rfl) (c.fact 56 (f := .meth "World" "__iter__") rfl) (fun _ _ _ _ _ _ us hl => match us, hl with | [_], _ => rfl),
    mdef_w (c.def_ 38 (d := dMe "World" "__contains__" "World.__contains__" s_World___contains__) rfl) (c.fact 57 (f := .meth "World" "__contains__") rfl) (fun _ _ _ _ _ _ us hl => match us, hl with | [_, _], _ => rfl),
    mdef_w (c.def_ 39 (d := dMe "World" "__eq__" "World.__eq__" s_World___eq__) rfl) (c.fact 58 (f := .meth "World" "__eq__") rfl) (fun _ _ _ _ _ _ us hl => match us, hl with | [_, _], _ => rfl)⟩
theorem w_ec_BadNumber {P : Program} {w : World} {K : PySem.W.Frag} {h : Heap} {mg : Str → Option Value} (X : K.In h) (G : h.Ns mainGlobals mg) (c : SaysW faL fnL exL K) : Ec K mg "BadNumber" (He.ga K "BadNumber") := ec_w X G (c.fact 59 (f := .glo "BadNumber") rfl) (c.more 4 (f := ecB "BadNumber") rfl)
theorem w_ec_NotAMove {P : Program} {w : World} {K : PySem.W.Frag} {h : Heap} {mg : Str → Option Value} (X : K.In h) (G : h.Ns mainGlobals mg) (c : SaysW faL fnL exL K) : Ec K mg "NotAMove" (He.ga K "NotAMove") := ec_w X G (c.fact 60 (f := .glo "NotAMove") rfl) (c.more 6 (f := ecB "NotAMove") rfl)
theorem w_ec_TooMany {P : Program} {w : World} {K : PySem.W.Frag} {h : Heap} {mg : Str → Option Value} (X : K.In h) (G : h.Ns mainGlobals mg) (c : SaysW faL fnL exL K) : Ec K mg "TooMany" (He.ga K "TooMany") := ec_w X G (c.fact 61 (f := .glo "TooMany") rfl) (c.more 8 (f := ecB "TooMany") rfl)
theorem all_w {P : Program} {w : World} {K : PySem.W.Frag} {h : Heap} {mg : Str → Option Value} {f : Addr} (X : K.In h) (G : h.Ns mainGlobals mg) (hfa : mg ("law" : Str) = some (.ref f)) (c : SaysW faL fnL exL K) :
    ∃ fd : FuncData, (∀ (s : Shared) (v : Value), BindsTo s fd ⟨[v], []⟩ [("script", v)]) ∧ ∀ base : Heap, K.In base → base.Ns mainGlobals mg → FnOk P w K mg base CX0 11 f fd ["script"] (spLaw K) := by
  obtain ⟨fd, F⟩ := (c.def_ 0 (d := dFn "law" s_law) rfl)
  have e := hfa.symm.trans (He.glo_ok X G (c.fact 0 (f := .glo "law") rfl))
  cases e
  have b := FunD.bindsA (ps := ["script"]) F fun _ _ _ _ _ _ us hl => match us, hl with | [_], _ => rfl
  refine ⟨fd, fun s v => b s [v] rfl, fun base _ _ => ?_⟩
  have Z : Zs mg := w_Z (P := P) (w := w) X G c
  have D : Ds K mg := w_D (P := P) (w := w) X G c
  have W : Dw K mg (He.ga K "World") := w_W (P := P) (w := w) X G c
  have ec_BadNumber : Ec K mg "BadNumber" (He.ga K "BadNumber") := w_ec_BadNumber (P := P) (w := w) X G c
  have nf_BadNumber_value := xi_no (c.more 5 (f := xiB "BadNumber" ["value", "low", "high"]) rfl) (f := "value") (by simp)
  have nf_BadNumber_low := xi_no (c.more 5 (f := xiB "BadNumber" ["value", "low", "high"]) rfl) (f := "low") (by simp)
  have nf_BadNumber_high := xi_no (c.more 5 (f := xiB "BadNumber" ["value", "low", "high"]) rfl) (f := "high") (by simp)
  obtain ⟨fd_BadNumber, F_BadNumber⟩ := (c.def_ 40 (d := dMe "BadNumber" "__init__" "BadNumber.__init__" s_ini_BadNumber) rfl)
  have F_BadNumber : FunD K "__init__" "BadNumber.__init__" (defArgs s_ini_BadNumber) (defBody s_ini_BadNumber) (defScope s_ini_BadNumber) [] [] (He.ma K (He.ga K "BadNumber") "__init__") fd_BadNumber := F_BadNumber
  have bi_BadNumber := bindsM (ps := ["self", "value", "low", "high"]) (fun _ _ _ _ _ _ us hl => match us, hl with | [_, _, _, _], _ => rfl) F_BadNumber
  have m_BadNumber : Xm P w K mg base "BadNumber" (He.ga K "BadNumber") ["value", "low", "high"] := xm_w ec_BadNumber (c.more 5 (f := xiB "BadNumber" ["value", "low", "high"]) rfl) (ini3 sc_ini_BadNumber ⟨_, _, _, _, _, _, _, _, _, _, _, _, rfl⟩ ec_BadNumber.ox rfl rfl (by decide) (by decide) nf_BadNumber_value rfl (by decide) (by decide) nf_BadNumber_low rfl (by decide) (by decide) nf_BadNumber_high (He5.fun_of F_BadNumber)) bi_BadNumber
  have ec_NotAMove : Ec K mg "NotAMove" (He.ga K "NotAMove") := w_ec_NotAMove (P := P) (w := w) X G c
  have nf_NotAMove_index := xi_no (c.more 7 (f := xiB "NotAMove" ["index"]) rfl) (f := "index") (by simp)
  obtain ⟨fd_NotAMove, F_NotAMove⟩ := (c.def_ 41 (d := dMe "NotAMove" "__init__" "NotAMove.__init__" s_ini_NotAMove) rfl)
  have F_NotAMove : FunD K "__init__" "NotAMove.__init__" (defArgs s_ini_NotAMove) (defBody s_ini_NotAMove) (defScope s_ini_NotAMove) [] [] (He.ma K (He.ga K "NotAMove") "__init__") fd_NotAMove := F_NotAMove
  have bi_NotAMove := bindsM (ps := ["self", "index"]) (fun _ _ _ _ _ _ us hl => match us, hl with | [_, _], _ => rfl) F_NotAMove
  have m_NotAMove : Xm P w K mg base "NotAMove" (He.ga K "NotAMove") ["index"] := xm_w ec_NotAMove (c.more 7 (f := xiB "NotAMove" ["index"]) rfl) (ini1 sc_ini_NotAMove ⟨_, _, _, _, rfl⟩ ec_NotAMove.ox rfl rfl (by decide) (by decide) nf_NotAMove_index (He5.fun_of F_NotAMove)) bi_NotAMove
  have ec_TooMany : Ec K mg "TooMany" (He.ga K "TooMany") := w_ec_TooMany (P := P) (w := w) X G c
  have nf_TooMany_what := xi_no (c.more 9 (f := xiB "TooMany" ["what", "limit"]) rfl) (f := "what") (by simp)
  have nf_TooMany_limit := xi_no (c.more 9 (f := xiB "TooMany" ["what", "limit"]) rfl) (f := "limit") (by simp)
  obtain ⟨fd_TooMany, F_TooMany⟩ := (c.def_ 42 (d := dMe "TooMany" "__init__" "TooMany.__init__" s_ini_TooMany) rfl)
  have F_TooMany : FunD K "__init__" "TooMany.__init__" (defArgs s_ini_TooMany) (defBody s_ini_TooMany) (defScope s_ini_TooMany) [] [] (He.ma K (He.ga K "TooMany") "__init__") fd_TooMany := F_TooMany
  have bi_TooMany := bindsM (ps := ["self", "what", "limit"]) (fun _ _ _ _ _ _ us hl => match us, hl with | [_, _, _], _ => rfl) F_TooMany
  have m_TooMany : Xm P w K mg base "TooMany" (He.ga K "TooMany") ["what", "limit"] := xm_w ec_TooMany (c.more 9 (f := xiB "TooMany" ["what", "limit"]) rfl) (ini2 sc_ini_TooMany ⟨_, _, _, _, _, _, _, _, rfl⟩ ec_TooMany.ox rfl rfl (by decide) (by decide) nf_TooMany_what rfl (by decide) (by decide) nf_TooMany_limit (He5.fun_of F_TooMany)) bi_TooMany
  have c__law_mixed := ok_mixed (P := P) (w := w) (K := K) (mg := mg) (base := base) Z D
  have c__law_take := ok_take (P := P) (w := w) (K := K) (mg := mg) (base := base) Z D c__law_mixed
  have c__law_pick := ok_pick (P := P) (w := w) (K := K) (mg := mg) (base := base) Z D c__law_take
  have c__law_place := ok_place (P := P) (w := w) (K := K) (mg := mg) (base := base) Z D c__law_take
  have c__law_drawn := ok_drawn (P := P) (w := w) (K := K) (mg := mg) (base := base) Z D c__law_take
  have c__law_either := ok_either (P := P) (w := w) (K := K) (mg := mg) (base := base) Z D c__law_take
  have c_is_number := ok_is_number (P := P) (w := w) (K := K) (mg := mg) (base := base) Z D
  have c_is_point := ok_is_point (P := P) (w := w) (K := K) (mg := mg) (base := base) Z D c_is_number
  have c_is_move_on := ok_is_move_on (P := P) (w := w) (K := K) (mg := mg) (base := base) Z D c_is_point
  have c__law_move := ok_move (P := P) (w := w) (K := K) (mg := mg) (base := base) Z D c__law_take c__law_drawn
  have c__law_store := ok_store (P := P) (w := w) (K := K) (mg := mg) (base := base) Z D
  have c__law_renamed := ok_renamed (P := P) (w := w) (K := K) (mg := mg) (base := base) Z D
  have c_carry := ok_carry (P := P) (w := w) (K := K) (mg := mg) (base := base) Z D
  have c__law_after := ok_after (P := P) (w := w) (K := K) (mg := mg) (base := base) Z D
  have c_check_number := ok_check_number (P := P) (w := w) (K := K) (mg := mg) (base := base) Z D m_BadNumber c_is_number
  have c_check_points := ok_check_points (P := P) (w := w) (K := K) (mg := mg) (base := base) Z D c_check_number
  have c_check_moves := ok_check_moves (P := P) (w := w) (K := K) (mg := mg) (base := base) Z D m_NotAMove m_TooMany c_is_move_on
  have c_still_move := ok_still (P := P) (w := w) (K := K) (mg := mg) (base := base) Z D c_check_points
  have c__next_layer := ok_next (P := P) (w := w) (K := K) (mg := mg) (base := base) Z D c_carry
  have c_best_words := ok_best (P := P) (w := w) (K := K) (mg := mg) (base := base) Z D m_TooMany c__next_layer
  have c_make_all := ok_make_all (P := P) (w := w) (K := K) (mg := mg) (base := base) Z D c_check_points c_check_moves c_still_move c_best_words
  have c_World___init__ := ok_init (P := P) (w := w) (K := K) (mg := mg) (base := base) Z D W c_make_all
  have c_World_points := ok_points (P := P) (w := w) (K := K) (mg := mg) (base := base) Z D W
  have c_World_told := ok_wtold (P := P) (w := w) (K := K) (mg := mg) (base := base) Z D W
  have c_World_made := ok_wmade (P := P) (w := w) (K := K) (mg := mg) (base := base) Z D W
  have c_World___len__ := ok_wlen (P := P) (w := w) (K := K) (mg := mg) (base := base) Z D W
  have c_World___eq__ := ok_weq (P := P) (w := w) (K := K) (mg := mg) (base := base) Z D W
  have c_needless_told := ok_needless (P := P) (w := w) (K := K) (mg := mg) (base := base) Z D W c_World_points c_World_told c_make_all
  have c__law_group := ok_group (P := P) (w := w) (K := K) (mg := mg) (base := base) Z D c__law_after
  have c__law_arena_menu := ok_menu (P := P) (w := w) (K := K) (mg := mg) (base := base) Z D c__law_take
  have c__law_turned_blocks := ok_turned (P := P) (w := w) (K := K) (mg := mg) (base := base) Z D c__law_take c__law_pick
  have c__law_arena_told := ok_arena_told (P := P) (w := w) (K := K) (mg := mg) (base := base) Z D c__law_take c__law_move c__law_arena_menu c__law_turned_blocks
  have c__law_arena := ok_arena (P := P) (w := w) (K := K) (mg := mg) (base := base) Z D c__law_take c__law_place c__law_pick c__law_drawn c__law_renamed c__law_group c__law_arena_told
  have c__law_idle := ok_idle (P := P) (w := w) (K := K) (mg := mg) (base := base) Z D c__law_group
  have c__law_filled := ok_filled (P := P) (w := w) (K := K) (mg := mg) (base := base) Z D c__law_take c__law_pick
  have c__law_alike := ok_alike (P := P) (w := w) (K := K) (mg := mg) (base := base) Z D 3
  have c__law_twins_due := ok_twins (P := P) (w := w) (K := K) (mg := mg) (base := base) Z D W c__law_either c__law_alike c__law_idle c_needless_told c_World___init__
  exact ok_law Z D (He5.fun_of F) W c__law_store c__law_arena c__law_filled c__law_idle c__law_either c__law_alike c_needless_told c_World___init__ c_World_told c_World___len__ c_World___eq__ c__law_twins_due
end Hd
open PySem PySem.W PySem.Calls PyProof.Rows
set_option maxHeartbeats 0 in
theorem PySem.Challenge.cw_heldorder_k15_needless_told_holds : PySem.Challenge.rw_heldorder_k15_needless_told.Holds := by
  w_on; o_law
  refine HandSHeadRun.head_any (r := OpenLaw.row PySem.Challenge.rw_heldorder_k15_needless_told) (q := view (OpenLaw.row PySem.Challenge.rw_heldorder_k15_needless_told).prog [44]) (H := Hd.hkL) (ob := Hd.obL) (M := 12000) (loose := Hd.looseL) (d := HandSHeadRun.topDef (OpenLaw.row PySem.Challenge.rw_heldorder_k15_needless_told).prog 44) (kwd := []) Hd.obL_eq
    (by kernel_rfl) (fun s => by kernel_rfl) Hd.runL (by kernel_rfl) (by kernel_rfl) (by kernel_rfl) (by rfl) (by first | assumption | decide +kernel) (by decide +kernel) ⟨rfl, rfl, rfl, rfl, rfl, by decide +kernel⟩ ?hw ?hc
  case hw => w_witness2
  case hc =>
    refine L2.walk_ofE (l := PySem.Challenge.rw_heldorder_k15_needless_told) (n := 63) (k := 11) (x := "script") (CX := L2.CX0) rfl (by decide) (by kernel_rfl) ⟨rfl, by decide, by decide⟩ ?F (fun _ _ _ _ z => z)
    intro w mg fa h Y G hmg0
    obtain ⟨K, KX, c⟩ := Y
    have hmg : mg ("law" : PySem.Str) = some (.ref fa) := by
      have e : (HandSHeadRun.topDef (OpenLaw.row PySem.Challenge.rw_heldorder_k15_needless_told).prog 44).name = ("law" : PySem.Str) := by kernel_rfl
      rw [← e]
      exact hmg0
    obtain ⟨fd, hb, hF⟩ := Hd.all_w (P := (PySem.Challenge.rw_heldorder_k15_needless_told).prog) (w := w) KX G hmg c
    exact ⟨K, fd, Hd.spLaw K, KX, hb, fun H a ns hl _ hS => Hd.spLaw_of hl hS, hF⟩
