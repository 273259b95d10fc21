import PyProof.Rows.All
import Wide.All
import OpenK.AllK
import Wide.FinOn
import HandS.ForMost
import HandS.IsInst
import HandS.Conv
import HandS.SortInts
import HandS.Style
import HandS.TupAny
import HandS.Deep
import HandS.TupMul
import HandS.More
import HandS.Evl
import KE.KEqSeq
import HandS.HotCalls
import HandS.ExcCtx
import HandS.ExcInit
import HandS.ExcInitHot
import HandS.ExcField
import HandS.ExcIs
import HandS.RaiseFrom
import KE.KExcIs
import KE.GoesMore
import HandS.SetFor
import HandS.ExcValue
import HandS.Strs
import HandS.TupLen
import HandS.NamedTupSort
import KE.KDictSum
import HandS.Property
import HandS.Defaults
import HandS.OwnEq
import HandS.HeadNt
import HandS.Head0
import HandS.Head1
import HandS.Head2
import HandS.HeadEnd
import HandS.IterVal
import HandS.IterNext
import HandS.TupLe
import PySem.Challenge.RW_heldorder_k03_held_and_cycles
set_option Elab.async false
set_option linter.all false
set_option maxRecDepth 100000
set_option maxHeartbeats 4000000
namespace Hd
open PySem PySem.Spec PyProof.Rows L2

/-! ### defs of the text, promises of callees -/
def Def (K : PySem.W.Frag) (mg : Str → Option Value) (x : Str) (st : Stmt) (ps : List Str) : Prop :=
  ∃ f fd, Fun K x x st f fd ∧ mg x = some (.ref f) ∧ Binds K fd ps []
def Cal (P : Program) (w : World) (K : PySem.W.Frag) (mg : Str → Option Value) (base : Heap) (x : Str) (k : Nat) (ps : List Str) (sp : Sp) : Prop :=
  ∃ f fd, FnOk P w K mg base CX0 k f fd ps sp ∧ mg x = some (.ref f) ∧ PySem.W.keepIn K (.ref f) = true ∧ Binds K fd ps []
section
variable {P : Program} {w : World} {K : PySem.W.Frag} {mg : Str → Option Value} {base : Heap} {x : Str} {st : Stmt} {ps N : List Str} {k : Nat} {sp : Sp}
theorem Def.cal (D : Def K mg x st ps) (S : FnScope N ps (defScope st)) (len : ∀ vs H Q E, sp vs H Q E → vs.length = ps.length)
    (hbody : ∀ (f : Addr) (cdv : Value) (A : Around) (outer : List Env) (s : Shared) (H : Hp) (vs : List V) (Q : VK) (E : XK), Room k (A.deeper (envOfC x (defScope st) s.heap.objs.size f cdv)) → sp vs H Q E →
      ∃ t, PSs (cxOf CX0 P w K mg base N x (defScope st) f cdv A outer s H E).nox (defBody st) t ∧ t { nx := fun _ H' => Q .non H', rt := Q } (start N vs) H) : Cal P w K mg base x (k + 1) ps sp := by
  obtain ⟨f, fd, F, g, b⟩ := D
  exact ⟨f, fd, F.ok S len (fun cdv A outer s H vs Q E hr h => hbody f cdv A outer s H vs Q E hr h), g, F.kp, b⟩
end
section
variable {X : Cx} {x : Str} {p pos : Pos} {e : Expr} {es : List Expr} {k : Nat} {ps : List Str} {sp : Sp} {t : TA}
theorem pe_cal (C : Cal X.prog X.w X.K X.mg X.base x k ps sp) (hr : Room k X.A) (hg : Gl X x) (ha : PA X (e :: es) t) (hdb : (x == ("__debug__" : Str)) = false := by decide)
    (he : starEach (e :: es) X.env = (false, eval e X.env) :: starEach es X.env := by rfl) (hpl : (backTo pos (starEach es X.env)).any (·.1) = false := by rfl) :
    PE X (.Call (.Name x p) (e :: es) [] pos) (tCall sp [] E0 t) := by
  obtain ⟨f, fd, F, g, kp, b⟩ := C
  exact pe_call F hr hg g kp b .nil pass0 ha hdb he hpl
end
section
variable {X : Cx}
theorem pe_globI {x : Str} {n : Int} {pos : Pos} (hg : Gl X x) (hm : ∃ t, X.mg x = some (.int n t)) (hd : (x == ("__debug__" : Str)) = false := by decide) : PE X (.Name x pos) (tC (.int n)) := by
  obtain ⟨t, h⟩ := hm
  exact pe_glob hg h ⟨t, rfl⟩ hd
end
/-! ### nested data that stands in a part of the heap -/
mutual
inductive Da (H : Hp) : V → PyData → Prop
  | non : Da H .non .none
  | bl (b : Bool) : Da H (.bl b) (.bool b)
  | int (i : Int) : Da H (.int i) (.int i)
  | str (x : Str) : Da H (.str x) (.str x)
  | lst {a : Addr} {xs : List V} {ds : List PyData} : H a = some (.lst xs) → DaAll H xs ds → Da H (.ref a) (.list ds)
  | tup {a : Addr} {xs : List V} {ds : List PyData} : H a = some (.tup xs) → DaAll H xs ds → Da H (.ref a) (.tuple ds)
inductive DaAll (H : Hp) : List V → List PyData → Prop
  | nil : DaAll H [] []
  | cons {v : V} {vs : List V} {d : PyData} {ds : List PyData} : Da H v d → DaAll H vs ds → DaAll H (v :: vs) (d :: ds)
end
mutual
theorem Da.mono {H H' : Hp} (g : Same H H') : ∀ (d : PyData) (v : V), Da H v d → Da H' v d
  | .none, _, h => by cases h; exact .non
  | .bool b, _, h => by cases h; exact .bl b
  | .int b, _, h => by cases h; exact .int b
  | .str b, _, h => by cases h; exact .str b
  | .list ds, _, h => by
    cases h with
    | lst a b => exact .lst (g _ _ a) (DaAll.mono g ds _ b)
  | .tuple ds, _, h => by
    cases h with
    | tup a b => exact .tup (g _ _ a) (DaAll.mono g ds _ b)
  | .dict _, _, h => by cases h
theorem DaAll.mono {H H' : Hp} (g : Same H H') : ∀ (ds : List PyData) (vs : List V), DaAll H vs ds → DaAll H' vs ds
  | [], _, h => by cases h; exact .nil
  | d :: ds, _, h => by
    cases h with
    | cons a b => exact .cons (Da.mono g d _ a) (DaAll.mono g ds _ b)
end
theorem Da.up {H H' : Hp} (g : Same H H') {v : V} {d : PyData} (h : Da H v d) : Da H' v d := Da.mono g d v h
theorem DaAll.up {H H' : Hp} (g : Same H H') {v : List V} {d : List PyData} (h : DaAll H v d) : DaAll H' v d := DaAll.mono g d v h
mutual
theorem Da.dp {K : PySem.W.Frag} {H : Hp} : ∀ (d : PyData) (v : V), Da H v d → Dp K H v d
  | .none, _, h => by cases h; exact .non
  | .bool b, _, h => by cases h; exact .bl b
  | .int b, _, h => by cases h; exact .int b
  | .str b, _, h => by cases h; exact .str b
  | .list ds, _, h => by
    cases h with
    | lst a b => exact .lst (.inl (.inl a)) (DaAll.dp ds _ b)
  | .tuple ds, _, h => by
    cases h with
    | tup a b => exact .tup (.inl (.inl a)) (DaAll.dp ds _ b)
  | .dict _, _, h => by cases h
theorem DaAll.dp {K : PySem.W.Frag} {H : Hp} : ∀ (ds : List PyData) (vs : List V), DaAll H vs ds → DpAll K H vs ds
  | [], _, h => by cases h; exact .nil
  | d :: ds, _, h => by
    cases h with
    | cons a b => exact .cons (Da.dp d _ a) (DaAll.dp ds _ b)
end
theorem DaAll.length {H : Hp} : ∀ {ds : List PyData} {vs : List V}, DaAll H vs ds → vs.length = ds.length
  | [], _, h => by cases h; rfl
  | d :: ds, _, h => by
    cases h with
    | cons a b => rw [List.length_cons, List.length_cons, DaAll.length b]
theorem DaAll.get {H : Hp} : ∀ {ds : List PyData} {vs : List V} {i : Nat} {v : V}, DaAll H vs ds → vs[i]? = some v → ∃ d, ds[i]? = some d ∧ Da H v d
  | [], _, i, v, h, e => by cases h; simp at e
  | d :: ds, _, 0, v, h, e => by
    cases h with
    | cons a b =>
      have e' := Option.some.inj e
      subst e'
      exact ⟨d, rfl, a⟩
  | d :: ds, _, i + 1, v, h, e => by
    cases h with
    | cons a b => exact DaAll.get (i := i) b e
/-- isinstance of nested data -/
def tyD : PyData → String
  | .none => "NoneType"
  | .bool _ => "bool"
  | .int _ => "int"
  | .str _ => "str"
  | .list _ => "list"
  | .tuple _ => "tuple"
  | .dict _ => "dict"
theorem Da.ty {K : PySem.W.Frag} {G H : Hp} (g : Same G H) {v : V} {d : PyData} (h : Da G v d) : TyX K H v (.type (tyD d)) := by
  cases h with
  | non => exact .base .non
  | bl b => exact .base (.bl b)
  | int b => exact .base (.int b)
  | str b => exact .base (.str b)
  | lst a b => exact .base (.lst (g _ _ a))
  | tup a b => exact .base (.tup (g _ _ a))
def isI : PyData → Bool
  | .int _ => true
  | _ => false
/-- isinstance(x, T) for T of int, bool, tuple, list, str: the answer -/
def instB (d : PyData) (T : String) : Bool := tyD d == T || (T == "int" && tyD d == "bool")
theorem kit_da {K : PySem.W.Frag} {H : Hp} {v : V} {d : PyData} (h : Da H v d) {T : String} (hT : T = "int" ∨ T = "bool" ∨ T = "tuple" ∨ T = "list" ∨ T = "str") : PySem.W.kitOne K (.type (tyD d)) (.type T) = some (instB d T) := by
  refine kit_ty ?_
  have e : tyD d = "NoneType" ∨ tyD d = "bool" ∨ tyD d = "int" ∨ tyD d = "str" ∨ tyD d = "list" ∨ tyD d = "tuple" := by
    cases h with
    | non => exact .inl rfl
    | bl b => exact .inr (.inl rfl)
    | int b => exact .inr (.inr (.inl rfl))
    | str b => exact .inr (.inr (.inr (.inl rfl)))
    | lst a b => exact .inr (.inr (.inr (.inr (.inl rfl))))
    | tup a b => exact .inr (.inr (.inr (.inr (.inr rfl))))
  unfold instB
  rcases hT with rfl | rfl | rfl | rfl | rfl <;> rcases e with e | e | e | e | e | e <;> rw [e] <;> decide +kernel
theorem rIsi_da {K : PySem.W.Frag} {G H : Hp} {Q : VK} (g : Same G H) {v : V} {d : PyData} (h : Da G v d) {T : String} (hT : T = "int" ∨ T = "bool" ∨ T = "tuple" ∨ T = "list" ∨ T = "str") (q : Q (.bl (instB d T)) H) : rIsi K [v, .ty T] H Q :=
  ⟨v, .ty T, _, _, instB d T, rfl, ClsV.ty T, h.ty g, kit_da h hT, q⟩
end Hd

namespace Hd
open PySem PySem.Spec PyProof.Rows L2
/-! ### heaps: what changed -/
/-- a new object o at p -/
structure New (H : Hp) (p : Addr) (o : HO) (H' : Hp) : Prop where
  fr : H p = none
  eq : H' = upd H p o
theorem New.at {H H' : Hp} {p : Addr} {o : HO} (n : New H p o H') : H' p = some o := by rw [n.eq]; exact upd_same
theorem New.same {H H' : Hp} {p : Addr} {o : HO} (n : New H p o H') : Same H H' := fun b u e => by
  rw [n.eq, upd_ne (ne_of_none e n.fr)]
  exact e
theorem New.ne {H H' : Hp} {p a : Addr} {o : HO} (n : New H p o H') (h : H a ≠ none) : a ≠ p := fun e => h (by rw [e]; exact n.fr)
/-- a tuple: it never changes, so it may be known at any time -/
def isT : HO → Bool
  | .tup _ => true
  | _ => false
/-- G is the part of the heap H that no longer changes; from (G, H) to (G', H'): all of G kept, only new objects known, all objects of H but that at S kept -/
structure Stp (S : Addr) (G H G' H' : Hp) : Prop where
  gg : Same G G'
  gh : Same G' H'
  nw : ∀ b o, H b = some o → isT o = false → G b = none → G' b = none
  hh : ∀ b o, b ≠ S → H b = some o → H' b = some o
  al : ∀ b o, H b = some o → ∃ o', H' b = some o' ∧ (isT o = false → isT o' = false)
structure Stq (G H G' H' : Hp) : Prop where
  gg : Same G G'
  gh : Same G' H'
  nw : ∀ b o, H b = some o → isT o = false → G b = none → G' b = none
  hh : Same H H'
theorem ne_none {H : Hp} {b : Addr} {o : HO} (h : H b = some o) : H b ≠ none := by rw [h]; intro z; cases z
theorem Stq.al {G H G' H' : Hp} (s : Stq G H G' H') : ∀ b o, H b = some o → ∃ o', H' b = some o' ∧ (isT o = false → isT o' = false) := fun b o h => ⟨o, s.hh _ _ h, id⟩
theorem Stp.refl {S : Addr} {G H : Hp} (g : Same G H) : Stp S G H G H := ⟨Same.refl _, g, fun _ _ _ _ h => h, fun _ _ _ h => h, fun _ o h => ⟨o, h, id⟩⟩
theorem Stq.refl {G H : Hp} (g : Same G H) : Stq G H G H := ⟨Same.refl _, g, fun _ _ _ _ h => h, Same.refl _⟩
theorem Stp.trans {S : Addr} {G H G1 H1 G2 H2 : Hp} (a : Stp S G H G1 H1) (b : Stp S G1 H1 G2 H2) : Stp S G H G2 H2 :=
  ⟨a.gg.trans b.gg, b.gh, fun c o h t g => by
    obtain ⟨o1, h1, k⟩ := a.al c o h
    exact b.nw c o1 h1 (k t) (a.nw c o h t g), fun c o n h => b.hh c o n (a.hh c o n h), fun c o h => by
    obtain ⟨o1, h1, k⟩ := a.al c o h
    obtain ⟨o2, h2, k2⟩ := b.al c o1 h1
    exact ⟨o2, h2, fun t => k2 (k t)⟩⟩
theorem Stq.trans {G H G1 H1 G2 H2 : Hp} (a : Stq G H G1 H1) (b : Stq G1 H1 G2 H2) : Stq G H G2 H2 :=
  ⟨a.gg.trans b.gg, b.gh, fun c o h t g => b.nw c o (a.hh c o h) t (a.nw c o h t g), a.hh.trans b.hh⟩
theorem Stq.p {S : Addr} {G H G' H' : Hp} (s : Stq G H G' H') : Stp S G H G' H' := ⟨s.gg, s.gh, s.nw, fun b o _ h => s.hh b o h, s.al⟩
theorem Stp.q {S : Addr} {G H G1 H1 G2 H2 : Hp} (a : Stp S G H G1 H1) (b : Stq G1 H1 G2 H2) : Stp S G H G2 H2 := a.trans b.p
/-- a new object, known -/
theorem same_upd {G H : Hp} (g : Same G H) {p : Addr} {o : HO} (h : H p = none) : Same (upd G p o) (L2.upd H p o) := fun b u e => by
  by_cases hb : b = p
  · subst hb
    rw [upd_same] at e
    rw [upd_same]
    exact e
  · rw [upd_ne hb] at e
    rw [upd_ne hb]
    exact g _ _ e
theorem Stq.know {G H H' : Hp} {p : Addr} {o : HO} (g : Same G H) (n : New H p o H') : ∃ G', Stq G H G' H' ∧ G' p = some o ∧ ∀ b, b ≠ p → G' b = G b := by
  refine ⟨upd G p o, ⟨fun b u e => ?_, ?_, fun b o' h _ e => ?_, n.same⟩, upd_same, fun b h => upd_ne h⟩
  · rw [upd_ne (ne_of_none (g _ _ e) n.fr)]
    exact e
  · rw [n.eq]
    exact same_upd g n.fr
  · rw [upd_ne (n.ne (ne_none h))]
    exact e
/-- a new object, not (yet) known: it may change -/
theorem Stq.loc {G H H' : Hp} {p : Addr} {o : HO} (g : Same G H) (n : New H p o H') : Stq G H G H' ∧ G p = none ∧ H' p = some o :=
  ⟨⟨Same.refl _, g.trans n.same, fun _ _ _ _ h => h, n.same⟩, g.free n.fr, n.at⟩
/-- it has changed -/
theorem Stp.mut {S : Addr} {G0 H0 G H H' : Hp} (s : Stp S G0 H0 G H) {l : Addr} {o : HO} (g : G l = none) (f : H0 l = none) (e : H' = upd H l o) : Stp S G0 H0 G H' := by
  subst e
  refine ⟨s.gg, fun b u h => ?_, s.nw, fun b u n h => ?_, fun b u h => ?_⟩
  · rw [upd_ne (ne_of_none h g)]
    exact s.gh _ _ h
  · rw [upd_ne (ne_of_none h f)]
    exact s.hh b u n h
  · rw [upd_ne (ne_of_none h f)]
    exact s.al b u h
theorem Stq.mut {G0 H0 G H H' : Hp} (s : Stq G0 H0 G H) {l : Addr} {o : HO} (g : G l = none) (f : H0 l = none) (e : H' = upd H l o) : Stq G0 H0 G H' := by
  subst e
  refine ⟨s.gg, fun b u h => ?_, s.nw, fun b u h => ?_⟩
  · rw [upd_ne (ne_of_none h g)]
    exact s.gh _ _ h
  · rw [upd_ne (ne_of_none h f)]
    exact s.hh b u h
/-- it is known from now on -/
theorem Stp.frz {S : Addr} {G0 H0 G H : Hp} (s : Stp S G0 H0 G H) {l : Addr} {o : HO} (g : G l = none) (f : H0 l = none) (h : H l = some o) : ∃ G', Stp S G0 H0 G' H ∧ Same G G' ∧ G' l = some o ∧ ∀ b, b ≠ l → G' b = G b := by
  have gn : Same G (upd G l o) := fun b u e => by
    rw [upd_ne (ne_of_none e g)]
    exact e
  refine ⟨upd G l o, ⟨s.gg.trans gn, fun b u e => ?_, fun b u hb t e => ?_, s.hh, s.al⟩, gn, upd_same, fun b h => upd_ne h⟩
  · by_cases q : b = l
    · subst q
      rw [upd_same] at e
      rw [h]
      exact e
    · rw [upd_ne q] at e
      exact s.gh _ _ e
  · rw [upd_ne (ne_of_none hb f)]
    exact s.nw b u hb t e
theorem Stq.frz {G0 H0 G H : Hp} (s : Stq G0 H0 G H) {l : Addr} {o : HO} (g : G l = none) (f : H0 l = none) (h : H l = some o) : ∃ G', Stq G0 H0 G' H ∧ Same G G' ∧ G' l = some o ∧ ∀ b, b ≠ l → G' b = G b := by
  have gn : Same G (upd G l o) := fun b u e => by
    rw [upd_ne (ne_of_none e g)]
    exact e
  refine ⟨upd G l o, ⟨s.gg.trans gn, fun b u e => ?_, fun b u hb t e => ?_, s.hh⟩, gn, upd_same, fun b h => upd_ne h⟩
  · by_cases q : b = l
    · subst q
      rw [upd_same] at e
      rw [h]
      exact e
    · rw [upd_ne q] at e
      exact s.gh _ _ e
  · rw [upd_ne (ne_of_none hb f)]
    exact s.nw b u hb t e
/-! ### readings in a form of our own -/
section
variable {X : Cx} {e : Expr} {t t' : TE}
theorem PE.mono (h : PE X e t) (m : ∀ σ H Q, t' σ H Q → t σ H Q) : PE X e t' := ⟨fun pins s σ H Q I q => h.run pins s σ H Q I (m σ H Q q)⟩
theorem PT.mono {t t' : TT} (h : PT X e t) (m : ∀ σ H Q, t' σ H Q → t σ H Q) : PT X e t' := ⟨fun pins s σ H Q I q => h.run pins s σ H Q I (m σ H Q q)⟩
theorem callR_mono {f : Value} {r r' : List V → Hp → VK → Prop} (h : CallR X f r) (m : ∀ xs H Q, r' xs H Q → r xs H Q) : CallR X f r' := fun pins s σ H xs us Q I rv q => h pins s σ H xs us Q I rv (m _ _ _ q)
theorem opR_mono {f : Value → Value → Sem Value} {r r' : R2} (h : OpR X f r) (m : ∀ x y H Q, r' x y H Q → r x y H Q) : OpR X f r' := fun pins s σ H x y v u Q I rx ry q => h pins s σ H x y v u Q I rx ry (m _ _ _ _ q)
theorem mtR_mono {id : String} {r r' : V → List V → Hp → VK → Prop} (h : MtR X id r) (m : ∀ x xs H Q, r' x xs H Q → r x xs H Q) : MtR X id r' := fun pins s σ H x xs v us Q I rx rxs q => h pins s σ H x xs v us Q I rx rxs (m _ _ _ _ q)
theorem slR_mono {r r' : V → Option Int → Option Int → Hp → VK → Prop} (h : SlR X r) (m : ∀ x a b H Q, r' x a b H Q → r x a b H Q) : SlR X r' := fun pins s σ H x v vl vu lo hi sl Q I rx hs pl pu q => h pins s σ H x v vl vu lo hi sl Q I rx hs pl pu (m _ _ _ _ _ q)
end
section
variable {X : Cx}
def rLstN (t : TA) : TE := fun σ H Q => t σ H fun xs H1 => xs.length ≤ sizeLine ∧ ∀ p H2, New H1 p (.lst xs) H2 → Q (.ref p) H2
def rTupN (t : TA) : TE := fun σ H Q => t σ H fun xs H1 => xs.length ≤ sizeLine ∧ ∀ p H2, New H1 p (.tup xs) H2 → Q (.ref p) H2
theorem newAll {H : Hp} {o : HO} {K : Addr → Hp → Prop} : (∀ p H2, New H p o H2 → K p H2) ↔ ∀ p, H p = none → K p (upd H p o) :=
  ⟨fun h p e => h p _ ⟨e, rfl⟩, fun h p H2 n => by rw [n.eq]; exact h p n.fr⟩
theorem rLstN_eq (t : TA) : rLstN t = tLst t := funext fun σ => funext fun H => funext fun Q =>
  congrArg (t σ H) (funext fun xs => funext fun H1 => propext (and_congr_right fun _ => newAll (K := fun p H2 => Q (.ref p) H2)))
theorem rTupN_eq (t : TA) : rTupN t = tTup t := funext fun σ => funext fun H => funext fun Q =>
  congrArg (t σ H) (funext fun xs => funext fun H1 => propext (and_congr_right fun _ => newAll (K := fun p H2 => Q (.ref p) H2)))
theorem pe_lstN {es : List Expr} {t : TA} {pos : Pos} (h : PA X es t) : PE X (.List es pos) (rLstN t) := by
  rw [rLstN_eq]
  exact pe_lst h
theorem pe_tupN {es : List Expr} {t : TA} {x1 : Nat} {pos : Pos} (h : PA X es t) : PE X (.Tuple es x1 pos) (rTupN t) := by
  rw [rTupN_eq]
  exact pe_tup h
/-- list(xs), of a list or tuple -/
def rListN (K : PySem.W.Frag) : List V → Hp → VK → Prop := fun xs H Q => ∃ p ys, xs = [.ref p] ∧ (SqL K H p ys ∨ SqT K H p ys) ∧ ∀ l H2, New H l (.lst ys) H2 → Q (.ref l) H2
theorem call_listN : CallR X (.type "list") (rListN X.K) := callR_mono call_list_of fun xs H Q h => by
  obtain ⟨p, ys, e, h, q⟩ := h
  exact ⟨p, ys, e, h, fun l hl => q l _ ⟨hl, rfl⟩⟩
/-- tuple(xs), of a list -/
def rTupleN (K : PySem.W.Frag) : List V → Hp → VK → Prop := fun xs H Q => ∃ p ys, xs = [.ref p] ∧ SqL K H p ys ∧ ∀ l H2, New H l (.tup ys) H2 → Q (.ref l) H2
theorem call_tupleN : CallR X (.type "tuple") (rTupleN X.K) := callR_mono call_tuple_of fun xs H Q h => by
  obtain ⟨p, ys, e, h, q⟩ := h
  exact ⟨p, ys, e, .inl ⟨h, fun l hl => q l _ ⟨hl, rfl⟩⟩⟩
/-- list(range(..)) -/
def tLstRgN (te : L2.St → Hp → (Int → Int → Hp → Prop) → Prop) : TE := fun σ H Q => te σ H fun a b H1 => RgOk a b ∧ ∀ q H2, New H1 q (.lst (rgV a b)) H2 → Q (.ref q) H2
/-- xs[a:b] of a list -/
def rSlLN (K : PySem.W.Frag) : V → Option Int → Option Int → Hp → VK → Prop := fun x lo hi H Q => ∃ a xs, x = .ref a ∧ SqL K H a xs ∧ ∀ p H2, New H p (.lst (cutV xs lo hi)) H2 → Q (.ref p) H2
theorem sl_listN : SlR X (rSlLN X.K) := slR_mono sl_list fun x lo hi H Q h => by
  obtain ⟨a, xs, e, h, q⟩ := h
  exact ⟨a, xs, e, h, fun p hp => q p _ ⟨hp, rfl⟩⟩
/-- methods that change a list -/
def rAppendN : V → List V → Hp → VK → Prop := fun x vs H Q => ∃ l xs y, x = .ref l ∧ vs = [y] ∧ H l = some (.lst xs) ∧ xs.length < sizeLine ∧ ∀ H2, H2 = upd H l (.lst (xs ++ [y])) → Q .non H2
theorem mt_appendN : MtR X "list.append" rAppendN := mtR_mono mt_append fun x xs H Q h => by
  obtain ⟨l, zs, y, e1, e2, h, z, q⟩ := h
  exact ⟨l, zs, y, e1, e2, h, z, q _ rfl⟩
def rPopN : V → List V → Hp → VK → Prop := fun x vs H Q => ∃ l xs y, x = .ref l ∧ vs = [] ∧ H l = some (.lst xs) ∧ xs[xs.length - 1]? = some y ∧ ∀ H2, H2 = upd H l (.lst xs.dropLast) → Q y H2
theorem mt_popN : MtR X "list.pop" rPopN := mtR_mono mt_pop fun x xs H Q h => by
  obtain ⟨l, zs, y, e1, e2, h, z, q⟩ := h
  exact ⟨l, zs, y, e1, e2, h, z, q _ rfl⟩
/-- xs.pop(i), 0 ≤ i < len(xs) -/
def rPopAtN : V → List V → Hp → VK → Prop := fun x vs H Q => ∃ l xs i k y, x = .ref l ∧ vs = [.int i] ∧ H l = some (.lst xs) ∧ i = ((k : Nat) : Int) ∧ k < 2 ^ 63 ∧ xs[k]? = some y ∧ ∀ H2, H2 = upd H l (.lst (xs.eraseIdx k)) → Q y H2
theorem seqIndex_nat {n k : Nat} (h : k < n) : seqIndex? (k : Int) n = some k := by
  have := ixN_seq (n := n) (i := (k : Int)) (j := k) (by
    unfold ixN
    rw [if_pos (by omega), if_pos (by omega)]
    rfl)
  exact this.1
theorem mt_popAtN : MtR X "list.pop" rPopAtN := mtR_mono mt_popAt fun x xs H Q h => by
  obtain ⟨l, zs, i, k, y, e1, e2, h, rfl, b, z, q⟩ := h
  exact ⟨l, zs, _, k, y, e1, e2, h, by omega, by omega, seqIndex_nat (List.getElem?_eq_some_iff.mp z).1, z, q _ rfl⟩
def rSetN : V → V → V → Hp → (Hp → Prop) → Prop := fun o i v H Q => ∃ p xs k, o = .ref p ∧ i = .int ((k : Nat) : Int) ∧ H p = some (.lst xs) ∧ k < xs.length ∧ ∀ H2, H2 = upd H p (.lst (xs.set k v)) → Q H2
theorem ixN_of {n k : Nat} (h : k < n) : ixN n (k : Int) = some k := by
  unfold ixN
  rw [if_pos (by omega), if_pos (by omega)]
  rfl
theorem set_listN : PSet X rSetN := fun pins s σ H o i v uo ui uv Q I ro ri rv h => by
  obtain ⟨p, xs, k, e1, e2, h, z, q⟩ := h
  exact set_list pins s σ H o i v uo ui uv Q I ro ri rv ⟨p, xs, _, k, e1, e2, h, ixN_of z, q _ rfl⟩
/-- xs + ys of two lists -/
def rCatN : R2 := fun x y H Q => ∃ l b xs zs, x = .ref l ∧ y = .ref b ∧ H l = some (.lst xs) ∧ H b = some (.lst zs) ∧ xs.length + zs.length ≤ sizeLine ∧ ∀ p H2, New H p (.lst (xs ++ zs)) H2 → Q (.ref p) H2
theorem op_catN : OpR X (binaryOp .Add) rCatN := opR_mono op_cat fun x y H Q h => by
  obtain ⟨l, b, xs, zs, e1, e2, h1, h2, z, q⟩ := h
  exact ⟨l, b, xs, zs, e1, e2, h1, h2, z, fun p hp => q p _ ⟨hp, rfl⟩⟩
/-- isinstance(x, T) of nested data -/
def okT (T : String) : Prop := T = "int" ∨ T = "bool" ∨ T = "tuple" ∨ T = "list" ∨ T = "str"
theorem ok_int : okT "int" := .inl rfl
theorem ok_bool : okT "bool" := .inr (.inl rfl)
theorem ok_tuple : okT "tuple" := .inr (.inr (.inl rfl))
theorem ok_list : okT "list" := .inr (.inr (.inr (.inl rfl)))
theorem ok_str : okT "str" := .inr (.inr (.inr (.inr rfl)))
def rIsD : List V → Hp → VK → Prop := fun xs H Q => ∃ v d T, xs = [v, .ty T] ∧ Da H v d ∧ okT T ∧ Q (.bl (instB d T)) H
theorem call_isD : CallR X (.builtin "isinstance") rIsD := callR_mono call_isi fun xs H Q h => by
  obtain ⟨v, d, T, rfl, hd, hT, q⟩ := h
  exact rIsi_da (Same.refl H) hd hT q
section
variable {e : Expr} {te : L2.St → Hp → (Int → Int → Hp → Prop) → Prop}
theorem lstRg_eq (te : L2.St → Hp → (Int → Int → Hp → Prop) → Prop) : tLstRgN te = tLstRg te := funext fun σ => funext fun H => funext fun Q =>
  congrArg (te σ H) (funext fun a => funext fun b => funext fun H1 => propext (and_congr_right fun _ => newAll (K := fun p H2 => Q (.ref p) H2)))
theorem pe_listRgN {p pos : Pos} (hc : X.calm = true) (hg : Gl X "list") (hm : X.mg "list" = none) (he : PRg X e te) (na : starEach [e] X.env = (false, eval e X.env) :: starEach [] X.env := by rfl) :
    PE X (.Call (.Name "list" p) [e] [] pos) (tLstRgN te) := by
  rw [lstRg_eq]
  exact pe_listRg hc hg hm he na
end
/-- is, is not: nested data against True, False -/
def rIsBD : R2 := fun x y H Q => ∃ d b, Da H x d ∧ y = .bl b ∧ Q (.bl (decide (x = .bl b))) H
theorem plain_bl {H : Hp} {x : V} {d : PyData} {v : Value} {b : Bool} (h : Da H x d) (r : RelV x v) : plainIs v (.bool b) = true := by
  cases h with
  | non => cases r; rfl
  | bl c => cases r; rfl
  | int i => obtain ⟨t, rfl⟩ := r; rfl
  | str i => obtain ⟨t, rfl⟩ := r; rfl
  | lst a c => cases r; rfl
  | tup a c => cases r; rfl
theorem rel_bl {H : Hp} {x : V} {d : PyData} {v : Value} {b : Bool} (h : Da H x d) (r : RelV x v) : v = .bool b ↔ x = .bl b := by
  cases h with
  | non => cases r; exact ⟨(fun z => nomatch z), (fun z => nomatch z)⟩
  | bl c => cases r; exact ⟨fun z => by cases z; rfl, fun z => by cases z; rfl⟩
  | int i => obtain ⟨t, rfl⟩ := r; exact ⟨(fun z => nomatch z), (fun z => nomatch z)⟩
  | str i => obtain ⟨t, rfl⟩ := r; exact ⟨(fun z => nomatch z), (fun z => nomatch z)⟩
  | lst a c => cases r; exact ⟨(fun z => nomatch z), (fun z => nomatch z)⟩
  | tup a c => cases r; exact ⟨(fun z => nomatch z), (fun z => nomatch z)⟩
theorem op_isBD : OpR X (compareOp .Is) rIsBD := by
  intro pins s σ H x y v u Q I rx ry h
  obtain ⟨d, b, hd, rfl, q⟩ := h
  cases (show u = Value.bool b from ry)
  have q' : Q (.bl (decide (x = .bl b))) H := q
  by_cases e : x = .bl b
  · have ev := (rel_bl hd rx).mpr e
    subst ev
    rw [decide_eq_true e] at q'
    exact wpAny_is_self (by rfl) ⟨.bl true, H, I, rfl, q'⟩
  · rw [decide_eq_false e] at q'
    exact wpAny_is_other (plain_bl hd rx) (fun z => e ((rel_bl hd rx).mp z)) ⟨.bl false, H, I, rfl, q'⟩
/-! ### sorted of a tuple of ints -/
section
variable {prog : Program} {w : World} {A : Around} {E : Value → Shared → Prop} {s : Shared}
/-- what is collected of a tuple: a new list, its items -/
theorem collect_tup {t : Addr} {us : List Value} {R : List Value → Shared → Prop} (ht : IsTup s.heap t us.toArray) (small : us.length ≤ sizeLine)
    (done : R us { s with heap := (s.heap.push (seqObj "list" #[] 0)).update s.heap.objs.size (Obj.mapSeq (· ++ us.toArray)) }) : wpAny (model prog w) A (collect (.ref t)) R E s := by
  obtain ⟨ob, at0, cls0, ep, dat⟩ := id ht
  have at1 : (s.heap.push (seqObj "list" #[] 0)).get? t = some ob := Heap.get?_push_of_some _ at0
  have mine : (s.heap.push (seqObj "list" #[] 0)).get? s.heap.objs.size = some (seqObj "list" #[] 0) := Heap.get?_push_size _ rfl
  unfold collect
  refine wpAny_bind (wpAny_runValue (codeAny_builtin entry_proto_collect' ?a))
  show wpAny _ _ (do again (.builtin "list.__iadd__" ⟨[← newList [], .ref t], []⟩)) _ _ s
  refine wpAny_bind (wpAny_newList (wpAny_pure ⟨Code.quiet_builtin _ (by decide +kernel), codeAny_builtin entry_list_iadd' ?b⟩))
  show wpAny _ _ (Builtin.List.listExtendWith (.ref s.heap.objs.size) (.ref t) (.ref s.heap.objs.size)) _ _ { s with heap := _ }
  unfold Builtin.List.listExtendWith
  refine wpAny_bind (wpAny_typeOf (T := "tuple") ⟨ob, at1, cls0⟩ ?c)
  rw [if_pos (by rw [(rfl : (Value.type "tuple" == Value.type "tuple") = true)]; simp)]
  refine wpAny_bind (listItems_at at1 dat (wpAny_bind (listItems_at (xs := #[]) (n := 0) mine rfl ?d)))
  rw [if_neg (by simp)]
  have room : ((#[] : Array Value) ++ us.toArray).size ≤ sizeLine + 1 := by
    rw [Array.size_append, List.size_toArray]
    exact Nat.le_succ_of_le (by simpa using small)
  refine wpAny_bind (listUpdate_at (xs := #[]) (n := 0) mine rfl (wpAny_pure ?e) (Nat.zero_le _) room)
  show wpAny (model prog w) A (do match (← load s.heap.objs.size).data with | .seq xs _ => pure xs.toList | _ => unsupported "internal:collect") R E { s with heap := _ }
  refine wpAny_bind (wpAny_load (get?_update_seq mine _) ?f)
  have same : ((#[] : Array Value) ++ us.toArray).toList = us := by simp
  show wpAny _ _ (pure ((#[] : Array Value) ++ us.toArray).toList) R E _
  rw [same]
  exact wpAny_pure done
open SrtO in
/-- sorted of a tuple: its items in a new list, in order -/
theorem sorted_tup {t : Addr} {us : List Value} {lt : Value → Value → Bool} {R : Value → Shared → Prop} (O : Swo lt) (ht : IsTup s.heap t us.toArray) (small : us.length ≤ sizeLine)
    (cmp : 2 ≤ us.length → ∀ (g : Heap) (b : Addr), g.get? b = some (seqObj "list" us.toArray 0) → (∀ c o, s.heap.get? c = some o → c ≠ b ∧ g.get? c = some o) → SortableO prog w A.in1.in1 { s with heap := g } b us lt)
    (done : ∀ os : List Value, Srtd lt os → Stb lt os us → R (.ref (s.heap.objs.size + 1)) { s with heap := sortedAll s.heap us os.toArray }) : wpAny (model prog w) A (call (.builtin "sorted") [.ref t]) R E s := by
  refine Calls.call_function_entry kind_sorted plain_sorted entry_sorted (args_sorted1 _) ?_
  unfold Builtin.«sorted»
  refine wpAny_bind (m := checkCount "sorted" 1 1 _) (wpAny_pure (wpAny_bind (collect_tup ht small (wpAny_bind (wpAny_newList ?_ small)))))
  have len1 : ((s.heap.push (seqObj "list" #[] 0)).update s.heap.objs.size (Obj.mapSeq (· ++ us.toArray))).objs.size = s.heap.objs.size + 1 := by rw [Heap.size_update, size_push']
  have here : (((s.heap.push (seqObj "list" #[] 0)).update s.heap.objs.size (Obj.mapSeq (· ++ us.toArray))).push (seqObj "list" us.toArray 0)).get? (s.heap.objs.size + 1) = some (seqObj "list" us.toArray 0) := len1 ▸ Heap.get?_push_size _ rfl
  have old : ∀ c o, s.heap.get? c = some o → c ≠ s.heap.objs.size + 1 ∧ (((s.heap.push (seqObj "list" #[] 0)).update s.heap.objs.size (Obj.mapSeq (· ++ us.toArray))).push (seqObj "list" us.toArray 0)).get? c = some o := by
    intro c o hc
    have below := Heap.lt_size hc
    have k : ((s.heap.push (seqObj "list" #[] 0)).update s.heap.objs.size (Obj.mapSeq (· ++ us.toArray))).get? c = some o :=
      (Heap.get?_update_ne _ _ _ _ (Nat.ne_of_lt below)).trans (Heap.get?_push_of_some _ hc)
    exact ⟨Nat.ne_of_lt (Nat.lt_succ_of_lt below), Heap.get?_push_of_some _ k⟩
  show wpAny _ _ _ _ _ { s with heap := ((s.heap.push (seqObj "list" #[] 0)).update s.heap.objs.size (Obj.mapSeq (· ++ us.toArray))).push (seqObj "list" us.toArray 0) }
  rw [len1]
  refine wpAny_bind (wpAny_holding (wpAny_call_entry slot_list_sort ⟨_, here, rfl⟩ entry_list_sort ?_ (args_list_sort _)))
  exact list_sort_ord O here small (fun two => cmp two _ _ here old) fun os h1 h2 => ⟨_, rfl, wpAny_pure ⟨_, rfl, done os h1 h2⟩⟩
end
/-- sorted(t), t a tuple of ints -/
def rSortT (K : PySem.W.Frag) : List V → Hp → VK → Prop := fun vs H Q => ∃ (a : Addr) (ns : List Int), vs = [V.ref a] ∧ SqT K H a (ns.map V.int) ∧
  ∀ (ns' : List Int) (p : Addr) (H2 : Hp), ns'.Perm ns → ns'.Pairwise (· ≤ ·) → New H p (.lst (ns'.map V.int)) H2 → Q (.ref p) H2
theorem call_sortT : CallR X (.builtin "sorted") (rSortT X.K) := by
  intro pins s σ H vs us Q I r h
  obtain ⟨a, ns, rfl, hs, q⟩ := h
  obtain ⟨its, rv, hl, hz⟩ := I.tuple hs
  rw [Vals.ref1 r]
  have hi := rv.ints
  refine sorted_tup SrtO.swo_int hl (by rw [← rv.length]; exact hz) (fun h2 h₁ a' _ _ => SrtO.ints_sortable hi h2) fun out h1 h2 => ?_
  obtain ⟨k1, k2, k3⟩ := SrtO.ints_out hi h1 h2
  obtain ⟨ep, he'⟩ := PyProof.Rows.sortedAll_at s.heap its out.toArray
  have hlen : ((out.map SrtO.iv).map V.int).length ≤ sizeLine := by
    rw [List.length_map, k2.length_eq]
    rw [List.length_map] at hz
    exact hz
  exact ⟨.ref _, upd H (s.heap.objs.size + 1) (.lst ((out.map SrtO.iv).map V.int)), I.laid (t' := s.toks) (fun _ _ => PyProof.Rows.sortedAll_old) (Nat.le_succ _) ⟨hlen, out, ep, vals_of_ints k1, he'⟩, rfl, q _ _ _ k2 k3 ⟨I.hok.fresh (Nat.le_succ _), rfl⟩⟩
end
end Hd

namespace Hd
open PySem PySem.Spec PyProof.Rows L2
/-! ### the store of draws -/
structure Sr where
  a : Addr
  c : Addr
  ns : List Int
def StOk (S : Sr) (H : Hp) : Prop := ∃ i1 i2 i3 i4 i5 i6 : Int, H S.a = some (.lst [.ref S.c, .int i1, .int i2, .int i3, .int i4, .int i5, .int i6]) ∧ H S.c = some (.lst (S.ns.map V.int)) ∧ 0 ≤ i1
theorem StOk.ca {S : Sr} {H : Hp} (h : StOk S H) : S.c ≠ S.a := by
  obtain ⟨i1, i2, i3, i4, i5, i6, h1, h2, _⟩ := h
  intro e
  rw [e, h1] at h2
  have := HO.lst.inj (Option.some.inj h2)
  cases hn : S.ns with
  | nil => rw [hn] at this; cases this
  | cons x r => rw [hn] at this; cases this
structure Wd (S : Sr) (G H : Hp) : Prop where
  gh : Same G H
  gs : G S.a = none
  st : StOk S H
structure Go (S : Sr) (G H G' H' : Hp) : Prop where
  s : Stp S.a G H G' H'
  w0 : Wd S G H
  st : StOk S H'
section
variable {S : Sr} {G H G1 H1 G2 H2 : Hp}
theorem StOk.na (h : StOk S H) : H S.a ≠ none := by
  obtain ⟨i1, i2, i3, i4, i5, i6, h1, h2, _⟩ := h
  exact ne_none h1
theorem StOk.nc (h : StOk S H) : H S.c ≠ none := by
  obtain ⟨i1, i2, i3, i4, i5, i6, h1, h2, _⟩ := h
  exact ne_none h2
theorem StOk.up (h : StOk S H) (g : Same H H1) : StOk S H1 := by
  obtain ⟨i1, i2, i3, i4, i5, i6, h1, h2, z⟩ := h
  exact ⟨i1, i2, i3, i4, i5, i6, g _ _ h1, g _ _ h2, z⟩
theorem Go.wd (s : Go S G H G1 H1) : Wd S G1 H1 := ⟨s.s.gh, by
  obtain ⟨i1, i2, i3, i4, i5, i6, h1, h2, _⟩ := s.w0.st
  exact s.s.nw _ _ h1 rfl s.w0.gs, s.st⟩
theorem Go.refl (w : Wd S G H) : Go S G H G H := ⟨.refl w.gh, w, w.st⟩
theorem Go.trans (a : Go S G H G1 H1) (b : Go S G1 H1 G2 H2) : Go S G H G2 H2 := ⟨a.s.trans b.s, a.w0, b.st⟩
theorem Go.q (a : Go S G H G1 H1) (b : Stq G1 H1 G2 H2) : Go S G H G2 H2 := ⟨a.s.q b, a.w0, a.st.up b.hh⟩
theorem Go.gg (a : Go S G H G1 H1) : Same G G1 := a.s.gg
theorem Go.gh (a : Go S G H G1 H1) : Same G1 H1 := a.s.gh
theorem Go.hh (a : Go S G H G1 H1) {b : Addr} {o : HO} (h : H b = some o) (n : b ≠ S.a) : H1 b = some o := a.s.hh b o n h
theorem Go.nw (a : Go S G H G1 H1) {b : Addr} {o : HO} (h : H b = some o) (g : G b = none) (t : isT o = false := by rfl) : G1 b = none := a.s.nw b o h t g
theorem Go.know {p : Addr} {o : HO} (a : Go S G H G1 H1) (n : New H1 p o H2) : ∃ G2, Go S G H G2 H2 ∧ Same G1 G2 ∧ G2 p = some o ∧ ∀ b, b ≠ p → G2 b = G1 b := by
  obtain ⟨G2, s, e, k⟩ := Stq.know a.gh n
  exact ⟨G2, a.q s, s.gg, e, k⟩
theorem Go.fresh {p : Addr} (a : Go S G H G1 H1) (n : H1 p = none) : H p = none := by
  cases e : H p with
  | none => rfl
  | some o =>
    obtain ⟨o', h, _⟩ := a.s.al p o e
    rw [n] at h
    cases h
theorem Go.loc {p : Addr} {o : HO} (a : Go S G H G1 H1) (n : New H1 p o H2) : Go S G H G1 H2 ∧ G1 p = none ∧ H2 p = some o ∧ H p = none := by
  obtain ⟨s, g, e⟩ := Stq.loc a.gh n
  exact ⟨a.q s, g, e, a.fresh n.fr⟩
theorem Go.mut {l : Addr} {o : HO} (a : Go S G H G1 H1) (g : G1 l = none) (f : H l = none) (e : H2 = upd H1 l o) : Go S G H G1 H2 := by
  refine ⟨a.s.mut g f e, a.w0, ?_⟩
  have n1 : S.a ≠ l := fun q => a.w0.st.na (by rw [q]; exact f)
  have n2 : S.c ≠ l := fun q => a.w0.st.nc (by rw [q]; exact f)
  subst e
  obtain ⟨i1, i2, i3, i4, i5, i6, h1, h2, z⟩ := a.st
  exact ⟨i1, i2, i3, i4, i5, i6, by rw [upd_ne n1]; exact h1, by rw [upd_ne n2]; exact h2, z⟩
theorem Go.put {i1 i2 i3 i4 i5 i6 : Int} (a : Go S G H G1 H1) (e : H2 = upd H1 S.a (.lst [.ref S.c, .int i1, .int i2, .int i3, .int i4, .int i5, .int i6])) (z : 0 ≤ i1) : Go S G H G1 H2 := by
  have gs := a.wd.gs
  subst e
  refine ⟨⟨a.s.gg, fun b u h => ?_, a.s.nw, fun b u n h => ?_, fun b u h => ?_⟩, a.w0, ?_⟩
  · rw [upd_ne (ne_of_none h gs)]
    exact a.s.gh _ _ h
  · rw [upd_ne n]
    exact a.s.hh b u n h
  · by_cases q : b = S.a
    · rw [q, upd_same]
      exact ⟨_, rfl, fun _ => rfl⟩
    · rw [upd_ne q]
      exact a.s.al b u h
  · obtain ⟨j1, j2, j3, j4, j5, j6, h1, h2, _⟩ := a.st
    exact ⟨i1, i2, i3, i4, i5, i6, upd_same, by rw [upd_ne a.st.ca]; exact h2, z⟩
theorem Go.frz {l : Addr} {o : HO} (a : Go S G H G1 H1) (g : G1 l = none) (f : H l = none) (h : H1 l = some o) : ∃ G2, Go S G H G2 H1 ∧ Same G1 G2 ∧ G2 l = some o ∧ ∀ b, b ≠ l → G2 b = G1 b := by
  obtain ⟨G2, s, e, k, u⟩ := a.s.frz (l := l) g f h
  exact ⟨G2, ⟨s, a.w0, a.st⟩, e, k, u⟩
theorem Go.ns (a : Go S G H G1 H1) {l : Addr} (f : H l = none) : l ≠ S.a := fun q => a.w0.st.na (by rw [← q]; exact f)
theorem Wd.ne (w : Wd S G H) {b : Addr} {o : HO} (h : G b = some o) : b ≠ S.a := fun q => by
  rw [q, w.gs] at h
  cases h
end
theorem upd_at {H H2 : Hp} {l : Addr} {o : HO} (e : H2 = upd H l o) : H2 l = some o := by rw [e]; exact upd_same
theorem upd_else {H H2 : Hp} {l b : Addr} {o u : HO} (e : H2 = upd H l o) (h : H b = some u) (n : b ≠ l) : H2 b = some u := by rw [e, upd_ne n]; exact h
theorem New.else {H H2 : Hp} {p b : Addr} {o u : HO} (n : New H p o H2) (h : H b = some u) : H2 b = some u := n.same _ _ h
theorem dec_of {p : Prop} [Decidable p] (h : decide p = true) : p := of_decide_eq_true h
theorem dec_not {p : Prop} [Decidable p] (h : ¬ decide p = true) : ¬ p := fun q => h (decide_eq_true q)
/-! ### promises of the draws -/
def spMixed : Sp := fun vs H Q _ => ∃ a b : Int, vs = [.int a, .int b] ∧ ∀ r : Int, Q (.int r) H
def spTake : Sp := fun vs H Q _ => ∃ (S : Sr) (G : Hp) (n : Int), vs = [.ref S.a, .int n] ∧ Wd S G H ∧ n < 1073741824 ∧ ∀ (d : Int) (H' : Hp), 0 ≤ d → (d < n ∨ (n < 1 ∧ d = 0)) → Go S G H G H' → Q (.int d) H'
/-- a sequence of known items -/
def SeqV (H : Hp) (S : Sr) (v : V) (xs : List V) : Prop :=
  (∃ a, v = .ref a ∧ a ≠ S.a ∧ H a = some (.lst xs)) ∨ (∃ a, v = .ref a ∧ a ≠ S.a ∧ H a = some (.tup xs)) ∨ ∃ z : Str, v = .str z ∧ z.length ≤ 1000000 ∧ xs = z.cps.toList.map fun c => V.str ⟨#[c]⟩
def spPick : Sp := fun vs H Q _ => ∃ (S : Sr) (G : Hp) (v : V) (xs : List V), vs = [.ref S.a, v] ∧ Wd S G H ∧ SeqV H S v xs ∧ 0 < xs.length ∧ xs.length < 1000000 ∧ ∀ (x : V) (H' : Hp), x ∈ xs → Go S G H G H' → Q x H'
def spPlace : Sp := fun vs H Q _ => ∃ (S : Sr) (G : Hp) (n : Int), vs = [.ref S.a, .int n] ∧ Wd S G H ∧ 1 ≤ n ∧ n < 1073741824 ∧ ∀ (d : Int) (H' : Hp), 0 ≤ d → d < n → Go S G H G H' → Q (.int d) H'
end Hd

namespace Hd
open PySem PySem.Spec PyProof.Rows L2
theorem at_int {xs : List V} {d : Int} (h0 : 0 ≤ d) (h1 : d < (xs.length : Nat)) : ∃ x, xs[d.toNat]? = some x ∧ atI xs d = some x ∧ x ∈ xs := by
  have k : d.toNat < xs.length := by omega
  have e : xs[d.toNat]? = some xs[d.toNat] := List.getElem?_eq_getElem k
  refine ⟨xs[d.toNat], e, ?_, List.getElem_mem k⟩
  have q := atI_nat e
  rwa [show ((d.toNat : Nat) : Int) = d by omega] at q
theorem at_str {z : Str} {d : Int} (h0 : 0 ≤ d) (h1 : d < (z.length : Nat)) : ∃ c, atI z.cps.toList d = some c ∧ z.cps.toList[d.toNat]? = some c := by
  have hl : z.cps.toList.length = z.length := Array.length_toList
  have k : d.toNat < z.cps.toList.length := by omega
  have e : z.cps.toList[d.toNat]? = some z.cps.toList[d.toNat] := List.getElem?_eq_getElem k
  refine ⟨_, ?_, e⟩
  have q := atI_nat e
  rwa [show ((d.toNat : Nat) : Int) = d by omega] at q
theorem ln {n : Nat} (h : n ≤ 1000000) : n ≤ sizeLine := Nat.le_trans h (by decide)
theorem lt {n : Nat} (h : n < 1000000) : n < sizeLine := Nat.lt_of_lt_of_le h (by decide)
theorem perm_erase {α : Type} : ∀ {xs : List α} {i : Nat} {x : α}, xs[i]? = some x → xs.Perm (x :: xs.eraseIdx i)
  | [], i, x, h => by simp at h
  | a :: xs, 0, x, h => by
    have e := Option.some.inj h
    subst e
    exact .refl _
  | a :: xs, i + 1, x, h => ((perm_erase (xs := xs) (i := i) h).cons a).trans (.swap _ _ _)
/-! ### sizes of nested data -/
mutual
def szD : PyData → Nat
  | .list ds => 1 + szL ds
  | .tuple ds => 1 + szL ds
  | .str x => 1 + x.length
  | _ => 1
def szL : List PyData → Nat
  | [] => 0
  | d :: ds => szD d + szL ds
end
theorem szD_pos : ∀ d, 1 ≤ szD d
  | .none => Nat.le_refl _
  | .bool _ => Nat.le_refl _
  | .int _ => Nat.le_refl _
  | .str _ => by unfold szD; omega
  | .list ds => by unfold szD; omega
  | .tuple ds => by unfold szD; omega
  | .dict _ => Nat.le_refl _
theorem szL_append : ∀ (a b : List PyData), szL (a ++ b) = szL a + szL b
  | [], b => by unfold szL; simp
  | d :: a, b => by
    show szD d + szL (a ++ b) = szD d + szL a + szL b
    rw [szL_append a b]
    omega
theorem szL_len : ∀ (a : List PyData), a.length ≤ szL a
  | [] => Nat.zero_le _
  | d :: a => by
    have := szL_len a
    have := szD_pos d
    show a.length + 1 ≤ szD d + szL a
    omega
theorem szL_get : ∀ {a : List PyData} {i : Nat} {d : PyData}, a[i]? = some d → szD d ≤ szL a
  | [], i, d, h => by simp at h
  | x :: a, 0, d, h => by
    have e := Option.some.inj h
    subst e
    show szD _ ≤ szD _ + szL a
    omega
  | x :: a, i + 1, d, h => by
    have := szL_get (a := a) (i := i) h
    show szD d ≤ szD x + szL a
    omega
theorem szL_take (a : List PyData) (n : Nat) : szL (a.take n) + szL (a.drop n) = szL a := by
  rw [← szL_append, List.take_append_drop]
/-! ### lists of nested data -/
section
variable {G : Hp}
theorem DaAll.append : ∀ {vs ws : List V} {ds es : List PyData}, DaAll G vs ds → DaAll G ws es → DaAll G (vs ++ ws) (ds ++ es)
  | [], ws, _, es, h, k => by cases h; exact k
  | v :: vs, ws, _, es, h, k => by
    cases h with
    | cons a b => exact .cons a (DaAll.append b k)
theorem DaAll.take : ∀ (n : Nat) {vs : List V} {ds : List PyData}, DaAll G vs ds → DaAll G (vs.take n) (ds.take n)
  | 0, _, _, h => by
    rw [List.take_zero, List.take_zero]
    exact .nil
  | n + 1, [], _, h => by cases h; exact .nil
  | n + 1, v :: vs, _, h => by
    cases h with
    | cons a b => exact .cons a (DaAll.take n b)
theorem DaAll.drop : ∀ (n : Nat) {vs : List V} {ds : List PyData}, DaAll G vs ds → DaAll G (vs.drop n) (ds.drop n)
  | 0, _, _, h => h
  | n + 1, [], _, h => by cases h; exact .nil
  | n + 1, v :: vs, _, h => by
    cases h with
    | cons a b => exact DaAll.drop n b
theorem DaAll.set {v : V} {d : PyData} (k : Da G v d) : ∀ (n : Nat) {vs : List V} {ds : List PyData}, DaAll G vs ds → DaAll G (vs.set n v) (ds.set n d)
  | _, [], _, h => by cases h; exact .nil
  | 0, _ :: _, _, h => by
    cases h with
    | cons a b => exact .cons k b
  | n + 1, _ :: _, _, h => by
    cases h with
    | cons a b => exact .cons a (DaAll.set k n b)
theorem DaAll.one {v : V} {d : PyData} (k : Da G v d) : DaAll G [v] [d] := .cons k .nil
theorem DaAll.ints : ∀ (ns : List Int), DaAll G (ns.map V.int) (ns.map PyData.int)
  | [] => .nil
  | n :: ns => .cons (.int n) (DaAll.ints ns)
theorem DaAll.reverse {vs : List V} {ds : List PyData} (h : DaAll G vs ds) : DaAll G vs.reverse ds.reverse := by
  induction vs generalizing ds with
  | nil => cases h; exact .nil
  | cons v vs ih =>
    cases h with
    | cons a b =>
      rw [List.reverse_cons, List.reverse_cons]
      exact (ih b).append (.one a)
end
theorem szL_ints : ∀ (ns : List Int), szL (ns.map PyData.int) = ns.length
  | [] => rfl
  | n :: ns => by
    show 1 + szL (ns.map PyData.int) = ns.length + 1
    rw [szL_ints ns]
    omega
theorem szL_set : ∀ (n : Nat) (ds : List PyData) (d : PyData), szL (ds.set n d) ≤ szL ds + szD d
  | _, [], d => Nat.zero_le _
  | 0, x :: r, d => by
    show szD d + szL r ≤ szD x + szL r + szD d
    omega
  | n + 1, x :: r, d => by
    have := szL_set n r d
    show szD x + szL (r.set n d) ≤ szD x + szL r + szD d
    omega
/-! ### leaves -/
inductive Leaf : V → PyData → Prop
  | non : Leaf .non .none
  | bl (b : Bool) : Leaf (.bl b) (.bool b)
  | int (i : Int) : Leaf (.int i) (.int i)
  | str (x : Str) : x.length ≤ 100 → Leaf (.str x) (.str x)
theorem Leaf.da {G : Hp} {v : V} {d : PyData} (h : Leaf v d) : Da G v d := by
  cases h with
  | non => exact .non
  | bl b => exact .bl b
  | int i => exact .int i
  | str x _ => exact .str x
theorem Leaf.sz {v : V} {d : PyData} (h : Leaf v d) : szD d ≤ 101 := by
  cases h with
  | str x hx => unfold szD; omega
  | _ => show 1 ≤ 101; decide
/-! ### texts -/
theorem len_app (a b : Str) : (a ++ b).length = a.length + b.length := Array.size_append
theorem join_len : ∀ ys : List Str, (Txt.join Str.empty ys).length = (ys.map (·.length)).sum := fun ys => by
  rw [TL.join_eq]
  induction ys with
  | nil => rfl
  | cons x r ih =>
    cases r with
    | nil =>
      show x.length = x.length + 0
      omega
    | cons y r =>
      rw [List.map_cons, List.sum_cons, ← ih]
      show (x ++ Str.empty ++ Str.join Str.empty (y :: r)).length = x.length + _
      rw [len_app, len_app]
      rfl
theorem sum_ones : ∀ ys : List Str, (∀ y ∈ ys, y.length = 1) → (ys.map (·.length)).sum = ys.length
  | [], _ => rfl
  | y :: r, h => by
    rw [List.map_cons, List.sum_cons, h y List.mem_cons_self, sum_ones r fun z hz => h z (List.mem_cons_of_mem _ hz), List.length_cons]
    omega
theorem log_small {i : Int} (h0 : 0 ≤ i) (h1 : i < 10 ^ 100) : i.natAbs.log2 < 1920 := by
  by_cases e : i.natAbs = 0
  · rw [e]; decide
  · rw [Nat.log2_lt e]
    have h2 : i.natAbs < 10 ^ 100 := by omega
    exact Nat.lt_trans h2 (by decide +kernel)
def isIntV : V → Bool
  | .int _ => true
  | _ => false
theorem all_int {xs : List V} (h : xs.all isIntV = true) {x : V} (m : x ∈ xs) : ∃ d, x = .int d := by
  have q := List.all_eq_true.mp h x m
  cases x with
  | int d => exact ⟨d, rfl⟩
  | _ => cases q
theorem yesT {σ : L2.St} {H : Hp} {A B : Hp → Prop} (h : A H) : tYes σ H (fun b H3 => if b = true then A H3 else B H3) := iteT (B := B H) h
theorem Da.of_if {G : Hp} {p : Addr} {b : Bool} {xs : List V} {ds : List PyData} (h : G p = some (if b then HO.tup xs else HO.lst xs)) (k : DaAll G xs ds) : Da G (.ref p) (if b then .tuple ds else .list ds) := by
  cases b with
  | true => exact .tup h k
  | false => exact .lst h k
theorem sz_if (b : Bool) (ds : List PyData) : szD (if b then PyData.tuple ds else .list ds) = 1 + szL ds := by cases b <;> rfl
theorem szL_one (d : PyData) : szL [d] = szD d := Nat.add_zero _
/-! ### promises -/
abbrev HasL (H : Hp) (a : Addr) (xs : List V) : Prop := H a = some (.lst xs) ∨ H a = some (.tup xs)
theorem HasL.len {K : PySem.W.Frag} {H : Hp} {a : Addr} {xs : List V} (h : HasL H a xs) : SqL K H a xs ∨ SqT K H a xs := h.elim (fun h => .inl (.of h)) (fun h => .inr (.of h))
def spDrawn : Sp := fun vs H Q _ => ∃ (S : Sr) (G : Hp) (a : Addr) (xs : List V) (n : Int), vs = [.ref S.a, .ref a, .int n] ∧ Wd S G H ∧ HasL H a xs ∧ xs.length ≤ 100000 ∧ 0 ≤ n ∧ n ≤ 100000 ∧
  ∀ (l : Addr) (ys rest : List V) (H' : Hp), Go S G H G H' → G l = none → H l = none → H' l = some (.lst ys) → (ys ++ rest).Perm xs → ys.length = min n.toNat xs.length → Q (.ref l) H'
def spEither : Sp := fun vs H Q _ => ∃ (S : Sr) (G : Hp) (a : Addr) (xs : List V), vs = [.ref S.a, .ref a] ∧ Wd S G H ∧ a ≠ S.a ∧ H a = some (.lst xs) ∧
  ∀ (p : Addr) (b : Bool) (H' : Hp), Go S G H G H' → G p = none → H p = none → H' p = some (if b then .tup xs else .lst xs) → Q (.ref p) H'
def spWhole : Sp := fun vs H Q _ => ∃ (S : Sr) (G : Hp), vs = [.ref S.a] ∧ Wd S G H ∧ ∀ (d : Int) (H' : Hp), Go S G H G H' → Q (.int d) H'
def spSign : Sp := fun vs H Q _ => ∃ (S : Sr) (G : Hp), vs = [.ref S.a] ∧ Wd S G H ∧ ∀ (c : Nat) (H' : Hp), Go S G H G H' → Q (.str ⟨#[c]⟩) H'
def spText : Sp := fun vs H Q _ => ∃ (S : Sr) (G : Hp) (n : Int), vs = [.ref S.a, .int n] ∧ Wd S G H ∧ 0 ≤ n ∧ n ≤ 10000 ∧ ∀ (z : Str) (H' : Hp), z.length ≤ n.toNat → Go S G H G H' → Q (.str z) H'
def spLeaf : Sp := fun vs H Q _ => ∃ (S : Sr) (G : Hp), vs = [.ref S.a] ∧ Wd S G H ∧ ∀ (v : V) (d : PyData) (H' : Hp), Leaf v d → Go S G H G H' → Q v H'
def spValue : Sp := fun vs H Q _ => ∃ (S : Sr) (G : Hp) (n : Int), vs = [.ref S.a, .int n] ∧ Wd S G H ∧ n ≤ 1000 ∧ ∀ (v : V) (d : PyData) (G' H' : Hp), Da G' v d → szD d ≤ 5000 → Go S G H G' H' → Q v H'
/-- a tuple of whole numbers, a move on n points -/
def IsMv (ns : List Int) (n : Int) : Prop := ns.Perm ((List.range n.toNat).map fun (i : Nat) => (i : Int))
def spMove : Sp := fun vs H Q _ => ∃ (S : Sr) (G : Hp) (n : Int), vs = [.ref S.a, .int n] ∧ Wd S G H ∧ 0 ≤ n ∧ n ≤ 10000 ∧
  ∀ (p : Addr) (ns : List Int) (G' H' : Hp), Go S G H G' H' → G' p = some (.tup (ns.map V.int)) → IsMv ns n → Q (.ref p) H'
end Hd

namespace Hd
open PySem PySem.Spec PyProof.Rows L2
/-! ### equal data -/
mutual
def sameD : PyData → PyData → Bool
  | .none, .none => true
  | .bool a, .bool b => decide (a = b)
  | .int a, .int b => decide (a = b)
  | .str a, .str b => decide (a = b)
  | .list a, .list b => sameL a b
  | .tuple a, .tuple b => sameL a b
  | _, _ => false
def sameL : List PyData → List PyData → Bool
  | [], [] => true
  | x :: a, y :: b => sameD x y && sameL a b
  | _, _ => false
end
def noDict : PyData → Bool
  | .dict _ => false
  | _ => true
mutual
theorem sameD_self {G : Hp} : ∀ (d : PyData) (v : V), Da G v d → sameD d d = true
  | .none, _, _ => rfl
  | .bool a, _, _ => decide_eq_true rfl
  | .int a, _, _ => decide_eq_true rfl
  | .str a, _, _ => decide_eq_true rfl
  | .list a, _, h => by
    cases h with
    | lst h1 h2 => exact sameL_self a _ h2
  | .tuple a, _, h => by
    cases h with
    | tup h1 h2 => exact sameL_self a _ h2
  | .dict _, _, h => by cases h
theorem sameL_self {G : Hp} : ∀ (ds : List PyData) (vs : List V), DaAll G vs ds → sameL ds ds = true
  | [], _, _ => rfl
  | d :: ds, _, h => by
    cases h with
    | cons a b =>
      show (sameD d d && sameL ds ds) = true
      rw [sameD_self d _ a, sameL_self ds _ b]
      rfl
end
theorem sameL_len : ∀ {a b : List PyData}, a.length ≠ b.length → sameL a b = false
  | [], [], h => absurd rfl h
  | [], _ :: _, _ => rfl
  | _ :: _, [], _ => rfl
  | x :: a, y :: b, h => by
    show (sameD x y && sameL a b) = false
    rw [sameL_len (a := a) (b := b) (fun e => h (by rw [List.length_cons, List.length_cons, e])), Bool.and_false]
theorem sameL_all : ∀ {a b : List PyData}, a.length = b.length → sameL a b = (a.zip b).all fun p => sameD p.1 p.2
  | [], [], _ => rfl
  | [], _ :: _, h => by cases h
  | _ :: _, [], h => by cases h
  | x :: a, y :: b, h => by
    show (sameD x y && sameL a b) = _
    rw [sameL_all (a := a) (b := b) (Nat.succ.inj h)]
    rfl
section
variable {G : Hp} {v w : V} {d e : PyData}
theorem Da.non_iff (h : Da G v d) : v = .non ↔ d = .none := by cases h <;> simp
theorem Da.bl_iff (h : Da G v d) {b : Bool} : v = .bl b ↔ d = .bool b := by cases h <;> simp
end
theorem ib_none_int  : instB PyData.none "int" = false := by simp [instB, tyD]
theorem ib_none_tuple  : instB PyData.none "tuple" = false := by simp [instB, tyD]
theorem ib_none_list  : instB PyData.none "list" = false := by simp [instB, tyD]
theorem ib_none_str  : instB PyData.none "str" = false := by simp [instB, tyD]
theorem ib_bool_int (x : Bool) : instB (.bool x) "int" = true := by simp [instB, tyD]
theorem ib_bool_bool (x : Bool) : instB (.bool x) "bool" = true := by simp [instB, tyD]
theorem ib_bool_tuple (x : Bool) : instB (.bool x) "tuple" = false := by simp [instB, tyD]
theorem ib_bool_list (x : Bool) : instB (.bool x) "list" = false := by simp [instB, tyD]
theorem ib_bool_str (x : Bool) : instB (.bool x) "str" = false := by simp [instB, tyD]
theorem ib_int_int (x : Int) : instB (.int x) "int" = true := by simp [instB, tyD]
theorem ib_int_bool (x : Int) : instB (.int x) "bool" = false := by simp [instB, tyD]
theorem ib_int_tuple (x : Int) : instB (.int x) "tuple" = false := by simp [instB, tyD]
theorem ib_int_list (x : Int) : instB (.int x) "list" = false := by simp [instB, tyD]
theorem ib_int_str (x : Int) : instB (.int x) "str" = false := by simp [instB, tyD]
theorem ib_str_int (x : Str) : instB (.str x) "int" = false := by simp [instB, tyD]
theorem ib_str_tuple (x : Str) : instB (.str x) "tuple" = false := by simp [instB, tyD]
theorem ib_str_list (x : Str) : instB (.str x) "list" = false := by simp [instB, tyD]
theorem ib_str_str (x : Str) : instB (.str x) "str" = true := by simp [instB, tyD]
theorem ib_list_int (x : List PyData) : instB (.list x) "int" = false := by simp [instB, tyD]
theorem ib_list_tuple (x : List PyData) : instB (.list x) "tuple" = false := by simp [instB, tyD]
theorem ib_list_list (x : List PyData) : instB (.list x) "list" = true := by simp [instB, tyD]
theorem ib_list_str (x : List PyData) : instB (.list x) "str" = false := by simp [instB, tyD]
theorem ib_tuple_int (x : List PyData) : instB (.tuple x) "int" = false := by simp [instB, tyD]
theorem ib_tuple_tuple (x : List PyData) : instB (.tuple x) "tuple" = true := by simp [instB, tyD]
theorem ib_tuple_list (x : List PyData) : instB (.tuple x) "list" = false := by simp [instB, tyD]
theorem ib_tuple_str (x : List PyData) : instB (.tuple x) "str" = false := by simp [instB, tyD]
theorem iteDT {c A B : Prop} [Decidable c] (h : c) (k : A) : if decide c = true then A else B := by rw [decide_eq_true h]; exact iteT k
theorem iteDF {c A B : Prop} [Decidable c] (h : ¬ c) (k : B) : if decide c = true then A else B := by rw [decide_eq_false h]; exact iteF k
theorem iteBT {b : Bool} {A B : Prop} (h : b = true) (k : A) : if b = true then A else B := by rw [h]; exact iteT k
theorem iteBF {b : Bool} {A B : Prop} (h : b = false) (k : B) : if b = true then A else B := by rw [h]; exact iteF k
theorem nd_of {p : Prop} [Decidable p] (h : (!decide p) = true) : ¬ p := fun q => by rw [decide_eq_true q] at h; cases h
theorem nd_not {p : Prop} [Decidable p] (h : ¬ (!decide p) = true) : p := by
  by_cases q : p
  · exact q
  · rw [decide_eq_false q] at h
    exact absurd rfl h
theorem rIx_of {K : PySem.W.Frag} {H : Hp} {Q : VK} {a : Addr} {xs : List V} {i : Int} {x : V} (h : HasL H a xs) (e : atI xs i = some x) (q : Q x H) : rIx K (.ref a) (.int i) H Q :=
  h.elim (fun h => .inl ⟨a, xs, i, x, rfl, rfl, .of h, e, q⟩) (fun h => .inr (.inl ⟨a, xs, i, x, rfl, rfl, .of h, e, q⟩))
theorem HasL.lenV {K : PySem.W.Frag} {H : Hp} {a : Addr} {xs : List V} (h : HasL H a xs) : LenV K (.ref a) H xs.length := h.elim (fun h => .inl ⟨xs, .of h, rfl⟩) (fun h => .inr ⟨xs, .of h, rfl⟩)
theorem HasL.up {H H' : Hp} {a : Addr} {xs : List V} (h : HasL H a xs) (g : Same H H') : HasL H' a xs := h.elim (fun h => .inl (g _ _ h)) (fun h => .inr (g _ _ h))
theorem at_nat {xs : List V} {i : Nat} (h : i < xs.length) : ∃ x, xs[i]? = some x ∧ atI xs (0 + (i : Int)) = some x := by
  have e : xs[i]? = some xs[i] := List.getElem?_eq_getElem h
  refine ⟨xs[i], e, ?_⟩
  rw [Int.zero_add]
  exact atI_nat e
theorem zip_take : ∀ {a b : List PyData} {i : Nat} {x y : PyData}, a[i]? = some x → b[i]? = some y → (a.take (i + 1)).zip (b.take (i + 1)) = (a.take i).zip (b.take i) ++ [(x, y)]
  | [], _, i, _, _, h, _ => by simp at h
  | _ :: _, [], i, _, _, _, h => by simp at h
  | a :: as, b :: bs, 0, x, y, h, k => by
    have e := Option.some.inj h
    have f := Option.some.inj k
    subst e f
    rfl
  | a :: as, b :: bs, i + 1, x, y, h, k => by
    have ih := zip_take (a := as) (b := bs) (i := i) h k
    show (a, b) :: (as.take (i + 1)).zip (bs.take (i + 1)) = (a, b) :: ((as.take i).zip (bs.take i)) ++ [(x, y)]
    rw [ih]
    rfl

def sqD (t : Bool) (ds : List PyData) : PyData := if t then .tuple ds else .list ds
theorem sqD_sz (t : Bool) (ds : List PyData) : szD (sqD t ds) = 1 + szL ds := by cases t <;> rfl
theorem Da.kind {G : Hp} {v : V} {d : PyData} (h : Da G v d) : (v = .non ∧ d = .none) ∨ (∃ b, v = .bl b ∧ d = .bool b) ∨ (∃ i, v = .int i ∧ d = .int i) ∨ (∃ x, v = .str x ∧ d = .str x) ∨
    ∃ a xs ds t, v = .ref a ∧ HasL G a xs ∧ (t = true → G a = some (.tup xs)) ∧ (t = false → G a = some (.lst xs)) ∧ DaAll G xs ds ∧ d = sqD t ds := by
  cases h with
  | non => exact .inl ⟨rfl, rfl⟩
  | bl b => exact .inr (.inl ⟨b, rfl, rfl⟩)
  | int i => exact .inr (.inr (.inl ⟨i, rfl, rfl⟩))
  | str x => exact .inr (.inr (.inr (.inl ⟨x, rfl, rfl⟩)))
  | lst a b => exact .inr (.inr (.inr (.inr ⟨_, _, _, false, rfl, .inl a, (fun z => nomatch z), fun _ => a, b, rfl⟩)))
  | tup a b => exact .inr (.inr (.inr (.inr ⟨_, _, _, true, rfl, .inr a, fun _ => a, (fun z => nomatch z), b, rfl⟩)))
/-- pairs that are still to be compared -/
structure Pr where
  a : Addr
  v : V
  w : V
  d : PyData
  e : PyData
def PairAt (G H : Hp) (x : Pr) : Prop := H x.a = some (.tup [x.v, x.w]) ∧ Da G x.v x.d ∧ Da G x.w x.e
def szP (ps : List Pr) : Nat := (ps.map fun x => szD x.d + szD x.e).sum
theorem szP_app (a b : List Pr) : szP (a ++ b) = szP a + szP b := by unfold szP; rw [List.map_append, List.sum_append]
theorem szP_one (x : Pr) : szP [x] = szD x.d + szD x.e := Nat.add_zero _
theorem szP_len : ∀ ps : List Pr, ps.length ≤ szP ps
  | [] => Nat.zero_le _
  | x :: r => by
    have := szP_len r
    have := szD_pos x.d
    show r.length + 1 ≤ (szD x.d + szD x.e) + szP r
    omega
def allP (ps : List Pr) : Bool := ps.all fun x => sameD x.d x.e
theorem allP_app (a b : List Pr) : allP (a ++ b) = (allP a && allP b) := List.all_append
theorem allP_one (x : Pr) : allP [x] = sameD x.d x.e := Bool.and_true _
theorem PairAt.new {G H H' : Hp} {x : Pr} {p : Addr} {o : HO} (h : PairAt G H x) (n : New H p o H') : PairAt G H' x := ⟨n.else h.1, h.2⟩
theorem PairAt.put {G H H' : Hp} {x : Pr} {l : Addr} {xs ys : List V} (h : PairAt G H x) (hl : H l = some (.lst xs)) (e : H' = upd H l (.lst ys)) : PairAt G H' x := ⟨upd_else e h.1 (ne_of h.1 hl (by intro z; cases z)), h.2⟩
theorem szL_takes (a : List PyData) (i : Nat) {d : PyData} (h : a[i]? = some d) : szL (a.take (i + 1)) = szL (a.take i) + szD d := by
  rw [List.take_add_one, h, szL_append]
  show _ + (szD d + 0) = _
  omega
/-- what `_law_same` promises -/
def spSame : Sp := fun vs H Q _ => ∃ (G : Hp) (v w : V) (d e : PyData), vs = [v, w] ∧ Same G H ∧ Da G v d ∧ Da G w e ∧ szD d ≤ 1900000 ∧ szD e ≤ 1900000 ∧ ∀ H', Same H H' → Q (.bl (sameD d e)) H'
def spIsWhole : Sp := fun vs H Q _ => ∃ (v : V) (d : PyData), vs = [v] ∧ Da H v d ∧ Q (.bl (isI d)) H
theorem isI_inst (d : PyData) (h : noDict d = true) : (instB d "int" && !instB d "bool") = isI d := by
  cases d <;> first | rfl | cases h | decide +kernel
theorem Da.nd {G : Hp} {v : V} {d : PyData} (h : Da G v d) : noDict d = true := by cases h <;> rfl
end Hd

namespace Hd
open PySem PySem.Spec PyProof.Rows L2
/-! ### == of lists of ints -/
theorem DpAll.ints {K : PySem.W.Frag} {H : Hp} : ∀ (ns : List Int), DpAll K H (ns.map V.int) (ns.map PyData.int)
  | [] => .nil
  | n :: ns => .cons (.int n) (DpAll.ints ns)
theorem eqv_ints : ∀ (ns ms : List Int), PyData.eqvAll (ns.map PyData.int) (ms.map PyData.int) = decide (ns = ms)
  | [], [] => rfl
  | [], _ :: _ => rfl
  | _ :: _, [] => rfl
  | a :: ns, b :: ms => by
    show (PyData.eqv (.int a) (.int b) && PyData.eqvAll (ns.map PyData.int) (ms.map PyData.int)) = _
    rw [eqv_ints ns ms]
    show ((a == b) && decide (ns = ms)) = decide (a :: ns = b :: ms)
    by_cases h : a = b
    · subst h
      by_cases k : ns = ms
      · subst k; simp
      · simp [k]
    · simp [h]
def rEqLI (K : PySem.W.Frag) : R2 := fun x y H Q => ∃ (a b : Addr) (ns ms : List Int), x = .ref a ∧ y = .ref b ∧ SqL K H a (ns.map V.int) ∧ SqL K H b (ms.map V.int) ∧ Q (.bl (decide (ns = ms))) H
theorem op_eqLI {X : Cx} (hu : X.A.units + 64 < cLine) : OpR X (compareOp .Eq) (rEqLI X.K) := opR_mono (op_eqD hu) fun x y H Q h => by
  obtain ⟨a, b, ns, ms, rfl, rfl, ha, hb, q⟩ := h
  refine ⟨.list (ns.map .int), .list (ms.map .int), .lst ha (DpAll.ints ns), .lst hb (DpAll.ints ms), PySem.W.ke_shaped_ints ns, PySem.W.ke_shaped_ints ms, ?_⟩
  rw [PyData.eqv, eqv_ints]
  exact q
/-! ### steps without a store -/
section
variable {G H G1 H1 H2 : Hp} {p l : Addr} {o : HO}
theorem Stq.loc2 (s : Stq G H G1 H1) (n : New H1 p o H2) : Stq G H G1 H2 ∧ G1 p = none ∧ H2 p = some o ∧ H p = none :=
  ⟨s.trans (Stq.loc s.gh n).1, (Stq.loc s.gh n).2.1, n.at, s.hh.free n.fr⟩
theorem Stq.know2 (s : Stq G H G1 H1) (n : New H1 p o H2) : ∃ G2, Stq G H G2 H2 ∧ Same G1 G2 ∧ G2 p = some o ∧ ∀ b, b ≠ p → G2 b = G1 b := by
  obtain ⟨G2, t, e, k⟩ := Stq.know s.gh n
  exact ⟨G2, s.trans t, t.gg, e, k⟩
theorem Stq.nw2 (s : Stq G H G1 H1) {b : Addr} {u : HO} (h : H b = some u) (g : G b = none) (t : isT u = false := by rfl) : G1 b = none := s.nw b u h t g
end
/-! ### what frozen says -/
def frz : Nat → PyData → PyData
  | k + 1, .list ds => .tuple [.str "list", .tuple (ds.map (frz k))]
  | k + 1, .tuple ds => .tuple [.str "tuple", .tuple (ds.map (frz k))]
  | _, d => d
theorem szL_map (f : PyData → PyData) (h : ∀ d, szD (f d) ≤ 8 * szD d) : ∀ ds, szL (ds.map f) ≤ 8 * szL ds
  | [] => Nat.le_refl _
  | d :: ds => by
    have h1 := h d
    have h2 := szL_map f h ds
    show szD (f d) + szL (ds.map f) ≤ 8 * (szD d + szL ds)
    omega
theorem frz_sz : ∀ (k : Nat) (d : PyData), szD (frz k d) ≤ 8 * szD d
  | 0, d => by
    have : frz 0 d = d := by cases d <;> rfl
    rw [this]
    omega
  | k + 1, d => by
    have ih := szL_map (frz k) (frz_sz k)
    cases d with
    | list ds =>
      have h1 := ih ds
      have e : szD (.str "list") ≤ 6 := by decide +kernel
      show 1 + (szD (.str "list") + (1 + szL (ds.map (frz k)) + 0)) ≤ 8 * (1 + szL ds)
      omega
    | tuple ds =>
      have h1 := ih ds
      have e : szD (.str "tuple") ≤ 6 := by decide +kernel
      show 1 + (szD (.str "tuple") + (1 + szL (ds.map (frz k)) + 0)) ≤ 8 * (1 + szL ds)
      omega
    | str x => show szD (.str x) ≤ 8 * szD (.str x); omega
    | _ => show 1 ≤ 8 * 1; omega
def spFrozen (k : Nat) : Sp := fun vs H Q _ => ∃ (G : Hp) (v : V) (d : PyData) (n : Int), vs = [v, .int n] ∧ Same G H ∧ Da G v d ∧ szD d ≤ 300000 ∧ 0 ≤ n ∧ n < k ∧ ∀ (v' : V) (G' H' : Hp), Stq G H G' H' → Da G' v' (frz n.toNat d) → Q v' H'
/-! ### what counted says -/
/-! ### what is_move says -/
def isNum (d : PyData) (lo hi : Int) : Bool := match d with
  | .int i => decide (lo ≤ i) && decide (i ≤ hi)
  | _ => false
def intsOf : List PyData → List Int
  | [] => []
  | .int i :: r => i :: intsOf r
  | _ :: r => intsOf r
def mvOn (n : Int) : PyData → Bool
  | .tuple ds => decide (((ds.length : Nat) : Int) = n) && (ds.all (fun d => isNum d 0 (n - 1)) && decide ((intsOf ds).Perm ((List.range n.toNat).map fun (i : Nat) => (i : Int))))
  | _ => false
def mvD : PyData → Bool
  | .tuple ds => decide (ds.length ≤ 12) && mvOn ds.length (.tuple ds)
  | _ => false
def spIsNum : Sp := fun vs H Q _ => ∃ v d lo hi, vs = [v, .int lo, .int hi] ∧ Da H v d ∧ Q (.bl (isNum d lo hi)) H
def spIsPoint : Sp := fun vs H Q _ => ∃ v d n, vs = [.int n, v] ∧ Da H v d ∧ Q (.bl (isNum d 0 (n - 1))) H
def spIsMoveOn : Sp := fun vs H Q _ => ∃ (G : Hp) (v : V) (d : PyData) (n : Int), vs = [.int n, v] ∧ Same G H ∧ Da G v d ∧ szD d ≤ 1000000 ∧ ∀ H', Same H H' → Q (.bl (mvOn n d)) H'
def spIsMove : Sp := fun vs H Q _ => ∃ (G : Hp) (v : V) (d : PyData), vs = [v] ∧ Same G H ∧ Da G v d ∧ szD d ≤ 1000000 ∧ ∀ H', Same H H' → Q (.bl (mvD d)) H'
end Hd

namespace Hd
open PySem PySem.Spec PyProof.Rows L2
def rngI (n : Int) : List Int := (List.range n.toNat).map fun (i : Nat) => (i : Int)
theorem rngI_len (n : Int) : (rngI n).length = n.toNat := by unfold rngI; rw [List.length_map, List.length_range]
theorem rngI_mem {n k : Int} : k ∈ rngI n ↔ 0 ≤ k ∧ k < n := by
  unfold rngI
  rw [List.mem_map]
  constructor
  · rintro ⟨i, hi, rfl⟩
    have := List.mem_range.mp hi
    omega
  · intro h
    exact ⟨k.toNat, List.mem_range.mpr (by omega), by omega⟩
theorem rngI_nodup (n : Int) : (rngI n).Nodup := by
  unfold rngI
  exact List.Pairwise.map (R := (· ≠ ·)) _ (fun a b h e => h (by omega)) List.nodup_range
theorem rngI_sorted (n : Int) : (rngI n).Pairwise (· ≤ ·) := by
  unfold rngI
  exact List.Pairwise.map (R := (· < ·)) _ (fun a b h => by omega) List.pairwise_lt_range
theorem rgV_rngI (n : Int) : rgV 0 n = (rngI n).map V.int := by
  unfold rgV rngI
  rw [List.map_map, Int.sub_zero]
  refine List.map_congr_left fun i _ => ?_
  show V.int (0 + (i : Int)) = V.int (i : Int)
  rw [Int.zero_add]
theorem perm_of_subset : ∀ {S L : List Int}, S.Nodup → (∀ x ∈ S, x ∈ L) → L.length ≤ S.length → L.Perm S
  | [], L, _, _, h => by
    rw [List.eq_nil_of_length_eq_zero (Nat.le_zero.mp h)]
  | a :: S, L, nd, hs, hl => by
    have ha := hs a List.mem_cons_self
    have nd2 := List.nodup_cons.mp nd
    have p := List.perm_cons_erase ha
    have hl2 := p.length_eq
    rw [List.length_cons] at hl2 hl
    refine p.trans (List.Perm.cons a (perm_of_subset nd2.2 (fun x hx => ?_) (by omega)))
    refine (List.mem_erase_of_ne (show x ≠ a from fun e => nd2.1 (e ▸ hx))).mpr (hs x (List.mem_cons_of_mem _ hx))
theorem ints_isNum {ds : List PyData} {lo hi : Int} (h : ds.all (fun d => isNum d lo hi) = true) : ds = (intsOf ds).map PyData.int := by
  induction ds with
  | nil => rfl
  | cons d r ih =>
    rw [List.all_cons, Bool.and_eq_true] at h
    cases d with
    | int i =>
      show PyData.int i :: r = PyData.int i :: (intsOf r).map PyData.int
      rw [← ih h.2]
    | _ => cases h.1
theorem vals_int {G : Hp} : ∀ {xs : List V} {ns : List Int}, DaAll G xs (ns.map PyData.int) → xs = ns.map V.int
  | [], [], _ => rfl
  | [], _ :: _, h => by cases h
  | _ :: _, [], h => by cases h
  | x :: xs, n :: ns, h => by
    cases h with
    | cons a b =>
      cases a
      rw [vals_int (ns := ns) b]
      rfl
end Hd

namespace L2
open PySem PySem.Spec PyProof.Rows
end L2
namespace Hd
open PySem PySem.Spec PyProof.Rows L2
/-! ### xs[::-1] -/
section
variable {X : Cx}
end
end Hd

namespace Hd
open PySem PySem.Spec PyProof.Rows L2
/-! ### moves -/
theorem isMv_of {ns : List Int} {n : Int} (h0 : 0 ≤ n) (hl : ns.length = n.toNat) (h : ∀ x, 0 ≤ x → x < n → x ∈ ns) : IsMv ns n :=
  perm_of_subset (rngI_nodup n) (fun x hx => h x (rngI_mem.mp hx).1 (rngI_mem.mp hx).2) (by rw [hl]; exact Nat.le_of_eq (rngI_len n).symm)
theorem IsMv.len {ns : List Int} {n : Int} (h : IsMv ns n) : ns.length = n.toNat := by
  have := List.Perm.length_eq h
  rwa [show ((List.range n.toNat).map fun (i : Nat) => (i : Int)) = rngI n from rfl, rngI_len] at this
theorem IsMv.mem {ns : List Int} {n : Int} (h : IsMv ns n) {x : Int} : x ∈ ns ↔ 0 ≤ x ∧ x < n := (List.Perm.mem_iff h).trans rngI_mem
theorem IsMv.nodup {ns : List Int} {n : Int} (h : IsMv ns n) : ns.Nodup := (List.Perm.nodup_iff h).mpr (rngI_nodup n)
def intV : V → Int
  | .int i => i
  | _ => 0
theorem map_intV (ns : List Int) : (ns.map V.int).map intV = ns := by
  rw [List.map_map]
  exact List.map_id'' (fun _ => rfl) _
/-- a part of a list of ints is a list of ints -/
theorem perm_ints {ys rest : List V} {ns : List Int} (h : (ys ++ rest).Perm (ns.map V.int)) : ∃ (rs ms : List Int), ys = rs.map V.int ∧ rest = ms.map V.int ∧ (rs ++ ms).Perm ns := by
  have all : ∀ v ∈ ys ++ rest, ∃ i, v = V.int i := fun v hv => by
    obtain ⟨i, _, e⟩ := List.mem_map.mp (h.mem_iff.mp hv)
    exact ⟨i, e.symm⟩
  have one : ∀ zs : List V, (∀ v ∈ zs, ∃ i, v = V.int i) → zs = (zs.map intV).map V.int := fun zs hz => by
    induction zs with
    | nil => rfl
    | cons v r ih =>
      obtain ⟨i, rfl⟩ := hz v List.mem_cons_self
      rw [List.map_cons, List.map_cons, ← ih fun w hw => hz w (List.mem_cons_of_mem _ hw)]
      rfl
  refine ⟨ys.map intV, rest.map intV, one _ fun v hv => all v (List.mem_append_left _ hv), one _ fun v hv => all v (List.mem_append_right _ hv), ?_⟩
  have := h.map intV
  rwa [map_intV, List.map_append] at this
theorem atI_ints {ns : List Int} {d : Int} (h0 : 0 ≤ d) (h1 : d < (ns.length : Nat)) : ∃ n, ns[d.toNat]? = some n ∧ atI (ns.map V.int) d = some (.int n) ∧ n ∈ ns := by
  obtain ⟨x, e, f, _⟩ := at_int (xs := ns.map V.int) h0 (by rw [List.length_map]; exact h1)
  rw [List.getElem?_map] at e
  cases g : ns[d.toNat]? with
  | none => rw [g] at e; cases e
  | some n =>
    rw [g] at e
    cases e
    exact ⟨n, rfl, f, List.mem_of_getElem? g⟩
/-- the ring of the points rs on n points, the first i of them set -/
def Ring (n : Nat) (rs : List Int) (i : Nat) (L : List Int) : Prop :=
  L.length = n ∧ (∀ j r, j < i → rs[j]? = some r → ∃ t, rs[(j + 1) % rs.length]? = some t ∧ L[r.toNat]? = some t) ∧
    ∀ x : Nat, x < n → (∀ j, j < i → rs[j]? ≠ some (x : Int)) → L[x]? = some (x : Int)
theorem Ring.start (n : Int) (rs : List Int) : Ring n.toNat rs 0 (rngI n) := by
  refine ⟨rngI_len n, fun j r h => absurd h (Nat.not_lt_zero _), fun x hx _ => ?_⟩
  unfold rngI
  rw [List.getElem?_map, List.getElem?_range hx]
  rfl
theorem Ring.step {n : Nat} {rs : List Int} {i : Nat} {L : List Int} {r t : Int} (h : Ring n rs i L) (nd : rs.Nodup) (hb : ∀ x ∈ rs, 0 ≤ x ∧ x < (n : Int)) (hr : rs[i]? = some r) (ht : rs[(i + 1) % rs.length]? = some t) : Ring n rs (i + 1) (L.set r.toNat t) := by
  obtain ⟨h1, h2, h3⟩ := h
  have br := hb r (List.mem_of_getElem? hr)
  refine ⟨by rw [List.length_set]; exact h1, fun j q hj hq => ?_, fun x hx hno => ?_⟩
  · by_cases e : j = i
    · subst e
      rw [hr] at hq
      cases hq
      exact ⟨t, ht, List.getElem?_set_self (by omega)⟩
    · obtain ⟨u, f1, f2⟩ := h2 j q (by omega) hq
      refine ⟨u, f1, ?_⟩
      have bq := hb q (List.mem_of_getElem? hq)
      have ne : r ≠ q := fun z => by
        subst z
        obtain ⟨a1, a2⟩ := List.getElem?_eq_some_iff.mp hr
        obtain ⟨b1, b2⟩ := List.getElem?_eq_some_iff.mp hq
        exact e ((List.getElem_inj nd).mp (b2.trans a2.symm))
      rw [List.getElem?_set_ne (by omega)]
      exact f2
  · have ne : (x : Int) ≠ r := fun z => hno i (by omega) (by rw [z]; exact hr)
    rw [List.getElem?_set_ne (by omega)]
    exact h3 x hx fun j hj => hno j (by omega)
theorem Ring.mv {n : Int} {rs L : List Int} (h0 : 0 ≤ n) (h : Ring n.toNat rs rs.length L) (hb : ∀ x ∈ rs, 0 ≤ x ∧ x < n) : IsMv L n := by
  obtain ⟨h1, h2, h3⟩ := h
  refine isMv_of h0 h1 fun x x0 x1 => ?_
  by_cases hx : x ∈ rs
  · obtain ⟨k, hk⟩ := List.getElem?_of_mem hx
    have kl := (List.getElem?_eq_some_iff.mp hk).1
    -- the one in front of it
    have : ∃ j, j < rs.length ∧ (j + 1) % rs.length = k := by
      by_cases k0 : k = 0
      · exact ⟨rs.length - 1, by omega, by rw [k0, Nat.sub_add_cancel (by omega), Nat.mod_self]⟩
      · exact ⟨k - 1, by omega, by rw [Nat.sub_add_cancel (by omega)]; exact Nat.mod_eq_of_lt kl⟩
    obtain ⟨j, jl, je⟩ := this
    obtain ⟨t, f1, f2⟩ := h2 j rs[j] jl (List.getElem?_eq_getElem jl)
    rw [je, hk] at f1
    cases f1
    exact List.mem_of_getElem? f2
  · have := h3 x.toNat (by omega) fun j hj e => by
      rw [show ((x.toNat : Nat) : Int) = x by omega] at e
      exact hx (List.mem_of_getElem? e)
    rw [show ((x.toNat : Nat) : Int) = x by omega] at this
    exact List.mem_of_getElem? this
theorem shift_mv {n s : Int} (h0 : 0 < n) : IsMv ((List.range n.toNat).map fun (k : Nat) => ((k : Int) + s) % n) n := by
  refine isMv_of (by omega) (by rw [List.length_map, List.length_range]) fun x x0 x1 => ?_
  refine List.mem_map.mpr ⟨((x - s) % n).toNat, List.mem_range.mpr ?_, ?_⟩
  · have a := Int.emod_nonneg (x - s) (show n ≠ 0 by omega)
    have b := Int.emod_lt_of_pos (x - s) h0
    omega
  · have a := Int.emod_nonneg (x - s) (show n ≠ 0 by omega)
    rw [Int.toNat_of_nonneg a, Int.emod_add_emod, Int.sub_add_cancel]
    exact Int.emod_eq_of_lt x0 x1
theorem turn_mv {n : Int} (h0 : 0 ≤ n) : IsMv ((List.range n.toNat).map fun (k : Nat) => n - 1 - (k : Int)) n := by
  refine isMv_of h0 (by rw [List.length_map, List.length_range]) fun x x0 x1 => ?_
  exact List.mem_map.mpr ⟨(n - 1 - x).toNat, List.mem_range.mpr (by omega), by omega⟩
theorem flat_ints (ns : List Int) : (ns.map V.int).all flatV = true := List.all_eq_true.mpr fun v hv => by
  obtain ⟨i, _, rfl⟩ := List.mem_map.mp hv
  rfl
theorem index_ints {ns : List Int} {k : Int} (nd : ns.Nodup) (m : k ∈ ns) : ∃ (j : Nat) (z : V), (ns.map V.int)[j]? = some z ∧ eqV z (.int k) = true ∧ (∀ (i : Nat) (z' : V), i < j → (ns.map V.int)[i]? = some z' → eqV z' (.int k) = false) ∧ j < ns.length := by
  obtain ⟨j, hj⟩ := List.getElem?_of_mem m
  have jl := (List.getElem?_eq_some_iff.mp hj).1
  refine ⟨j, .int k, by rw [List.getElem?_map, hj]; rfl, by simp [eqV], fun i z hi hz => ?_, jl⟩
  rw [List.getElem?_map] at hz
  cases e : ns[i]? with
  | none => rw [e] at hz; cases hz
  | some t =>
    rw [e] at hz
    cases hz
    have ne : t ≠ k := fun z => by
      subst z
      obtain ⟨a1, a2⟩ := List.getElem?_eq_some_iff.mp e
      obtain ⟨b1, b2⟩ := List.getElem?_eq_some_iff.mp hj
      have := (List.getElem_inj nd).mp (a2.trans b2.symm)
      omega
    show (t == k) = false
    exact beq_eq_false_iff_ne.mpr ne
def spBadMove : Sp := fun vs H Q _ => ∃ (S : Sr) (G : Hp) (a : Addr) (ns : List Int) (n : Int), vs = [.ref S.a, .ref a] ∧ Wd S G H ∧ G a = some (.tup (ns.map V.int)) ∧ IsMv ns n ∧ 0 ≤ n ∧ n ≤ 1000 ∧
  ∀ (v : V) (d : PyData) (G' H' : Hp), Go S G H G' H' → Da G' v d → szD d ≤ 1300 → Q v H'
theorem DaAll.erase {G : Hp} {vs : List V} {ds : List PyData} (n : Nat) (h : DaAll G vs ds) : DaAll G (vs.eraseIdx n) (ds.eraseIdx n) := by
  rw [List.eraseIdx_eq_take_drop_succ, List.eraseIdx_eq_take_drop_succ]
  exact (h.take n).append (h.drop (n + 1))
theorem szL_erase (n : Nat) (ds : List PyData) : szL (ds.eraseIdx n) ≤ szL ds := by
  rw [List.eraseIdx_eq_take_drop_succ, szL_append]
  have h1 := szL_take ds n
  have h2 := szL_take (ds.drop n) 1
  rw [List.drop_drop] at h2
  omega
theorem rngI_mv {n : Int} : IsMv (rngI n) n := List.Perm.refl _
end Hd

namespace Hd
open PySem PySem.Spec PyProof.Rows L2
/-- a value without parts -/
def Flat (v : V) (d : PyData) : Prop := (v = .non ∧ d = .none) ∨ (∃ b, v = .bl b ∧ d = .bool b) ∨ (∃ i, v = .int i ∧ d = .int i) ∨ ∃ x, v = .str x ∧ d = .str x
theorem Flat.da {G : Hp} {v : V} {d : PyData} (h : Flat v d) : Da G v d := by
  rcases h with ⟨rfl, rfl⟩ | ⟨b, rfl, rfl⟩ | ⟨i, rfl, rfl⟩ | ⟨x, rfl, rfl⟩
  · exact .non
  · exact .bl b
  · exact .int i
  · exact .str x
/-- a container on the way down: its object, its items, their data, its kind, the place that is gone to; and the tuple that keeps it -/
structure Pth where
  tp : Addr
  a : Addr
  xs : List V
  ds : List PyData
  t : Bool
  i : Nat
def PthAt (G : Hp) (p : Pth) : Prop := G p.tp = some (.tup [.ref p.a, .int (p.i : Int)]) ∧ G p.a = some (if p.t then .tup p.xs else .lst p.xs) ∧ DaAll G p.xs p.ds ∧ p.i < p.xs.length
theorem PthAt.up {G G' : Hp} {p : Pth} (h : PthAt G p) (g : Same G G') : PthAt G' p := ⟨g _ _ h.1, g _ _ h.2.1, h.2.2.1.up g, h.2.2.2⟩
theorem Da.ints {G : Hp} {p : Addr} {ns : List Int} (h : G p = some (.tup (ns.map V.int))) : Da G (.ref p) (.tuple (ns.map PyData.int)) := .tup h (DaAll.ints ns)
theorem sz_ints (ns : List Int) : szD (.tuple (ns.map PyData.int)) = 1 + ns.length := by
  show 1 + szL _ = _
  rw [szL_ints]
theorem Go.pure {S : Sr} {G H G1 H1 H2 : Hp} (a : Go S G H G1 H1) (g : Same H1 H2) : Go S G H G1 H2 := a.q ⟨Same.refl _, a.gh.trans g, fun _ _ _ _ h => h, g⟩
theorem intsOf_map : ∀ ns : List Int, intsOf (ns.map PyData.int) = ns
  | [] => rfl
  | n :: r => by
    show n :: intsOf (r.map PyData.int) = n :: r
    rw [intsOf_map r]
theorem mvD_mv {ns : List Int} {n : Int} (h0 : 0 ≤ n) (h : IsMv ns n) (hn : n ≤ 12) : mvD (.tuple (ns.map PyData.int)) = true := by
  have ln := h.len
  have e : ((ns.length : Nat) : Int) = n := by omega
  show (decide ((ns.map PyData.int).length ≤ 12) && (decide ((((ns.map PyData.int).length : Nat) : Int) = (((ns.map PyData.int).length : Nat) : Int)) && ((ns.map PyData.int).all (fun d => isNum d 0 ((((ns.map PyData.int).length : Nat) : Int) - 1)) && decide ((intsOf (ns.map PyData.int)).Perm (rngI (((ns.map PyData.int).length : Nat) : Int)))))) = true
  rw [List.length_map, intsOf_map, e, decide_eq_true (by omega), decide_eq_true rfl, decide_eq_true (show ns.Perm (rngI n) from h), List.all_eq_true.mpr]
  · rfl
  · intro d hd
    obtain ⟨i, hi, rfl⟩ := List.mem_map.mp hd
    have := h.mem.mp hi
    show (decide (0 ≤ i) && decide (i ≤ n - 1)) = true
    rw [decide_eq_true (by omega), decide_eq_true (by omega)]
    rfl
theorem mvD_long {ds : List PyData} (h : 12 < ds.length) : mvD (.tuple ds) = false := by
  show (decide (ds.length ≤ 12) && _) = false
  rw [decide_eq_false (by omega), Bool.false_and]
def spStore (K : PySem.W.Frag) : Sp := fun vs H Q _ => ∃ (a : Addr) (ns : List Int), vs = [.ref a] ∧ SqL K H a (ns.map V.int) ∧ ns.length ≤ 63 ∧ ∀ (S : Sr) (H' : Hp), Wd S H H' → Q (.ref S.a) H'
def spLaw (K : PySem.W.Frag) : Sp := fun vs H Q _ => ∃ (a : Addr) (ns : List Int), vs = [.ref a] ∧ SqL K H a (ns.map V.int) ∧ ns.length ≤ 63 ∧ ∀ H', Q (.bl true) H'
theorem spLaw_of {K : PySem.W.Frag} {H : Hp} {a : Addr} {ns : List Int} (hl : ns.length ≤ 63) (hS : SqL K H a (ns.map V.int)) : spLaw K [.ref a] H (fun v _ => v = .bl true) fun _ _ _ => False := ⟨a, ns, rfl, hS, hl, fun _ => rfl⟩
theorem cut_all {xs : List V} {n : Nat} (h : xs.length ≤ n) : cutV xs none (some (n : Int)) = xs := by
  unfold cutV
  rw [show HT.sIx xs.length xs.length (some (n : Int)) = min n xs.length from HT.sIx_nat xs.length xs.length n, HT.sIx_none, List.drop_zero, Nat.sub_zero, Nat.min_eq_right h]
  exact List.take_length
end Hd

namespace Hd
open PySem PySem.Spec PyProof.Rows L2

/-! ### the end of a walk while an exception is handled -/
section
variable {prog : Program} {w : World} {A : Around} {s : Shared}
theorem stop_raised {α : Type} {x1 : Addr} {Q : α → Shared → Prop} {E : Value → Shared → Prop} (hot : HotX.HotAt A x1 s.heap)
    (out : ∀ (a : Addr) (o : Obj) (g : Heap), g.get? a = some o → o.cls = .type "StopIteration" → (∀ b u, s.heap.get? b = some u → g.get? b = some u) → E (.ref a) { s with heap := g }) :
    wpAny (model prog w) A (newExc (.type "StopIteration") [] >>= fun e => (raiseNew e : Sem α)) Q E s := by
  obtain ⟨hd, o1, v1, g1, k1, c1⟩ := hot
  have up : ∀ {b : Addr} {u : Obj} {t r : Obj}, s.heap.get? b = some u → ((s.heap.push t).push r).get? b = some u := fun z => Heap.get?_push_of_some _ (Heap.get?_push_of_some _ z)
  apply wpAny_bind
  simp only [newExc, newTuple]
  apply wpAny_bind
  apply wpAny_newObj_type
  · apply wpAny_bind (m := firstArgMember _ _)
    refine wpAny_of_eq (a := Value.none) (by first | rfl | (simp only [firstArgMember]; rfl)) ?_
    apply wpAny_newObj_type
    · refine HotX.raiseNew_hot ⟨hd, o1, v1, up g1, k1, c1⟩ (Nat.ne_of_lt (Heap.lt_size (Heap.get?_push_of_some _ g1))) (Heap.get?_push_size _ rfl) rfl (by first | (simp; done) | (simp; omega)) ?_
      refine out _ _ _ (Heap.get?_update_self _ (Heap.get?_push_size _ rfl) rfl) rfl fun b u z => ?_
      rw [Heap.get?_update_other _ _ (Nat.ne_of_gt (Heap.lt_size (Heap.get?_push_of_some _ z)))]
      exact up z
    · size_fits
  · size_fits
theorem upd_hot {x1 it : Addr} {g : Obj → Obj} (n : x1 ≠ it) (c : HotX.HotAt A x1 s.heap) : HotX.HotAt A x1 (s.heap.update it g) := by
  obtain ⟨hd, o1, v1, g1, r⟩ := c
  exact ⟨hd, o1, v1, (Heap.get?_update_other _ _ (Ne.symm n)).trans g1, r⟩
theorem listEnd_hot {it l x1 : Addr} {i : Nat} {items : Array Value} {Q : Option Value → Shared → Prop} {E : Value → Shared → Prop} (hot : HotX.HotAt A x1 s.heap) (n : x1 ≠ it) (hit : s.heap.IsListIter it l i)
    (hl : s.heap.IsList l items) (hx : items[i]? = none) (hQ : ∀ g, Heap.ExtBut it s.heap g → Q none { s with heap := g }) : wpAny (model prog w) A (pyNext (.ref it)) Q E s := by
  have T := Heap.IsListIter.typeIs hit
  obtain ⟨oi, gi, ci, di⟩ := hit
  obtain ⟨ol, gl, cl, nl, dl⟩ := hl
  unfold pyNext
  apply wpAny_bind
  apply wpAny_attempt
  refine wpAny_callSpecial?_slot (name := Str.ofString "__next__") T slot_listiter_next ?_
  refine wpAny_call_entry slot_listiter_next T entry_listiter_next ?_ (args_listiter_next _)
  change wpAny _ _ (field (Value.ref it) 0 >>= _) _ _ _
  refine wpAny_bind (wpAny_field gi di (x := Value.ref l) rfl ?_)
  change wpAny _ _ (ite ((Value.ref l == Value.none) = true) _ _) _ _ _
  rw [if_neg (show ¬((Value.ref l == Value.none) = true) from fun z => Bool.noConfusion z)]
  change wpAny _ _ (field (Value.ref it) 1 >>= _) _ _ _
  refine wpAny_bind (wpAny_field gi di (x := Value.int i 0) rfl ?_)
  change wpAny _ _ (seqItems? (Value.ref l) >>= _) _ _ _
  refine wpAny_bind (wpAny_seqItems gl dl ?_)
  simp only [hx, Int.toNat_natCast]
  refine wpAny_bind (wpAny_rule (wpAny_bind (wpAny_setField gi di (by simp) ?_)))
  refine stop_raised (upd_hot (g := _) n hot : HotX.HotAt A x1 _) fun a o g go co k => ?_
  refine wpAny_bind (wpAny_isInstance (b := true) (T := "StopIteration") ⟨o, go, co⟩ isSubtype_stop (wpAny_pure (hQ g fun b u hb z => ?_)))
  exact k b u ((Heap.get?_update_other _ _ (Ne.symm hb)).trans z)
end
/-! ### walks over lists and tuples there -/
section
variable {P : Program} {w : World} {K : PySem.W.Frag} {tg : Expr}
theorem HotC.out {X : Cx} {pins : List (Addr × Obj)} {σ : L2.St} {H : Hp} {s : Shared} {b : Addr} (c : L2H.HotC X) (I : Inv X pins σ H s) (f : FpOk X pins H b) : ∃ x1, HotX.HotAt X.A x1 s.heap ∧ x1 ≠ b := by
  obtain ⟨p, ⟨hd, v1, k1, c1⟩, m⟩ := c
  obtain ⟨-, -, -, -, -, f5⟩ := f
  exact ⟨p.1, ⟨hd, p.2, v1, (I.pin p (List.mem_append_left _ m)).1, k1, c1⟩, f5 p (List.mem_append_left _ m)⟩
theorem walk_list (a it : Addr) : L2H.TurnH P w K tg (Itl K a) [it] it (fun i h => h.IsListIter it a i) := by
  constructor
  case mem => exact List.mem_singleton.mpr rfl
  case obj =>
    intro i h st b hb
    obtain rfl := List.mem_singleton.mp hb
    obtain ⟨o, e, -, d⟩ := st
    exact ⟨o, e, fun v z => Data.noConfusion (d.symm.trans z)⟩
  case keep => exact fun i h h' st k => st.at fun o e => k it (List.mem_singleton.mpr rfl) o e
  case self => exact fun A i s Q E st q => wpAny_pyIter_listiter st q
  case item =>
    rintro X rfl rfl rfl hc i pins s σ H E I fp st ⟨xs, x, sq, at_⟩
    obtain ⟨vs, rv, pl, -⟩ := I.list sq
    obtain ⟨u, hu, ru⟩ := rv.get at_
    obtain ⟨f0, f1, f2, f3, f4, f5⟩ := fp it (List.mem_singleton.mpr rfl)
    refine wpAny_pyNext_list_item st pl.isList (x := u) (by simpa using hu) fun g sg keep => ⟨u, rfl, ?_⟩
    have J : Inv X pins σ H { s with heap := g } := I.turned (t' := s.toks) (fun b o n z => (keep.2 b n).trans z) f0 f1 f3 f4 f5
    obtain ⟨o, e, c, d⟩ := id sg
    refine go_of (s := { s with heap := g }) e c d (by decide) ⟨x, H, J, ru, ⟨rfl, fun ys hy => ?_⟩, sg, fun b hb => (fp b hb).1⟩
    rw [I.list_inj hy sq]
    exact at_
  case done =>
    rintro X rfl rfl rfl hc i pins s σ H E I fp st ⟨xs, sq, le⟩
    obtain ⟨vs, rv, pl, -⟩ := I.list sq
    obtain ⟨x1, hot, ne⟩ := HotC.out hc I (fp it (List.mem_singleton.mpr rfl))
    obtain ⟨f0, f1, f2, f3, f4, f5⟩ := fp it (List.mem_singleton.mpr rfl)
    have hl := rv.length
    exact listEnd_hot hot ne st pl.isList (by simp; omega) fun g eb => ⟨rfl, I.turned (t' := s.toks) (fun b o n z => eb b o n z) f0 f1 f3 f4 f5⟩
end
section
variable {X : Cx} {tg l : Expr} {tl : TE}
theorem new_fp {pins : List (Addr × Obj)} {σ : L2.St} {H : Hp} {s : Shared} (I : Inv X pins σ H s) : ∀ b ∈ [s.heap.objs.size], FpOk X pins H b := fun b hb => by
  obtain rfl := List.mem_singleton.mp hb
  exact I.fpOk (Nat.le_refl _) (I.hok.fresh (Nat.le_refl _))
theorem ih_list (hl : PE X l tl) : L2H.PIH X tg l (iList X.K tl) := by
  constructor
  intro pins s σ H R I h
  apply thn (hl.run pins s σ H _ I h)
  rintro v s1 ⟨x, H1, I1, r1, a, rfl, ⟨xs, sq⟩, q⟩
  cases r1
  obtain ⟨vs, rv, pl, -⟩ := I1.list sq
  exact wpAny_pyIter_list pl.isList ⟨_, _, _, _, H1, rfl, I1.kept (t' := s1.toks) fun b o z => Heap.get?_push_of_some _ z, walk_list a _, ⟨_, Heap.get?_push_size _ rfl, rfl, rfl⟩, new_fp I1, q⟩
end
/-! ### comprehensions there -/
/-- a block's context that keeps what is pinned -/
abbrev blkH (X : Cx) (s : Shared) (H : Hp) (scope : Scope) (cenv : Env) (fp : List Addr) : Cx := (X.blk s H scope cenv fp).tr X.pn fun _ _ => False
section
variable {X : Cx} {pins : List (Addr × Obj)} {σ : L2.St} {H : Hp} {s : Shared}
theorem start_blkH {scope : Scope} {own : List (Str × Nat)} {fp : List Addr} {h' : Heap} (I : Inv X pins σ H s) (ce : Env) (cL : ce.locals = s.heap.objs.size) (k : ∀ b o, s.heap.get? b = some o → h'.get? b = some o)
    (J : Inv (X.blk s H scope ce fp) [] (wipe σ (own.map (·.2))) H { s with heap := h' }) : Inv (blkH X s H scope ce fp) [] (wipe σ (own.map (·.2))) H { s with heap := h' } := by
  refine Inv.toTry (X := X.blk s H scope ce fp) (pins := X.pn) (J.pins_of fun p hp => ?_) _
  obtain ⟨e, n, ne, nf, d⟩ := I.pin p (List.mem_append_left _ hp)
  refine ⟨k _ _ e, n, fun z => ?_, fun m => ?_, d⟩
  · have z' : p.1 = s.heap.objs.size := z.trans cL
    exact absurd (Heap.lt_size e) (by rw [z']; exact Nat.lt_irrefl _)
  · exact (List.mem_cons.mp (I.stkSub p.1 m)).elim ne nf
theorem pe_lcH {elt tg iter : Expr} {ifs : List Expr} {scope : Scope} {own : List (Str × Nat)} {pos : Pos} {wi : TI} {g : TG} {tt : TT} {te : TE} (hc : L2H.HotC X) (hN : X.N.Nodup) (hi : L2H.PIH X tg iter wi) (ok : BlkOk X.N X.env.scope scope own)
    (hg : ∀ (s : Shared) (H : Hp) (C : Addr) (cl : List (Str × Addr)) (fp : List Addr), PG (blkH X s H scope (compEnvC scope cl C X.env) fp) tg g)
    (ht : ∀ (s : Shared) (H : Hp) (C : Addr) (cl : List (Str × Addr)) (fp : List Addr), PTs (blkH X s H scope (compEnvC scope cl C X.env) fp) ifs tt)
    (he : ∀ (s : Shared) (H : Hp) (C : Addr) (cl : List (Str × Addr)) (fp : List Addr), PE (blkH X s H scope (compEnvC scope cl C X.env) fp) elt te) (hs : ∀ x, foldedSetIterable iter X.env x = pure x := by intro _; rfl) :
    PE X (.ListComp elt [⟨tg, iter, ifs, 0⟩] scope pos) (tLc wi g tt te (own.map (·.2))) := by
  constructor
  intro pins s σ H Q I h
  rw [eval_ListComp]
  have cells : ∀ y ∈ scope.names, y.2 = .free → ∃ c, X.env.cells.lookup y.1 = some c := fun y hy e => I.ok.has _ (ok.free y hy e)
  refine wpAny_comprehension_free (use := none) rfl hs (closure_ok cells) ok.kind (fun y hy e => (ok.uniq y hy).trans (congrArg some e)) (thn (hi.run pins s σ H _ I h) fun xv s1 hx => thn hx fun itv s2 h2 => ?_)
  obtain ⟨it, fp, tn, J, H2, rfl, I2, T, st2, f2, q⟩ := h2
  refine wpAny_newObj_type (newEnv_comp ?_) (by show 0 ≤ sizeLine; decide)
  obtain ⟨W, ⟨m0, w0⟩, turn⟩ := q s2.heap.objs.size (I2.hok.fresh (Nat.le_refl _))
  have up3 : ∀ b o, s2.heap.get? b = some o → (s2.heap.push { cls := .type "list", data := .seq ([] : List Value).toArray }).get? b = some o := fun b o e => Heap.get?_push_of_some _ e
  have I3 : Inv X pins σ (upd H2 s2.heap.objs.size (.lst [])) { s2 with heap := s2.heap.push { cls := .type "list", data := .seq ([] : List Value).toArray } } :=
    I2.laid (t' := s2.toks) up3 (Nat.le_refl _) ⟨Nat.zero_le _, [], 0, .nil, Heap.get?_push_size _ rfl⟩
  have f3 : ∀ b ∈ fp, FpOk X pins (upd H2 s2.heap.objs.size (.lst [])) b ∧ b < (s2.heap.push { cls := .type "list", data := .seq ([] : List Value).toArray }).objs.size := fun b hb => by
    obtain ⟨o, e, -⟩ := T.obj _ _ st2 b hb
    have lt := Heap.lt_size e
    refine ⟨⟨(upd_ne (Nat.ne_of_lt lt)).trans (f2 b hb).1, (f2 b hb).2⟩, ?_⟩
    rw [Heap.size_push]
    exact Nat.lt_succ_of_lt lt
  have nf3 : ∀ b ∈ fp, (upd H2 s2.heap.objs.size (.lst [])) b = none := fun b hb => (f3 b hb).1.1
  have st3 := T.keep _ _ _ st2 fun b _ o e => up3 b o e
  generalize hD : s2.heap.objs.size = D at *
  generalize hs3 : ({ s2 with heap := s2.heap.push { cls := .type "list", data := .seq ([] : List Value).toArray } } : Shared) = s3 at *
  have hh3 : s2.heap.push { cls := .type "list", data := .seq ([] : List Value).toArray } = s3.heap := by rw [← hs3]
  rw [hh3] at f3 st3
  have k4 : ∀ b o, s3.heap.get? b = some o → (pushCells (s3.heap.push { cls := .type "dict", data := .dict #[] }) scope.names).get? b = some o := fun b o e => pushCells_keeps _ _ _ _ (Heap.get?_push_of_some _ e)
  have J4 := block_start I3 ok hN f3
  generalize hcl : cellsFrom (s3.heap.objs.size + 1) scope.names (cloFrom X.env.cells scope.names []) = cl at J4
  have G := hg s3 (upd H2 D (.lst [])) s3.heap.objs.size cl fp
  have TT := ht s3 (upd H2 D (.lst [])) s3.heap.objs.size cl fp
  have EE := he s3 (upd H2 D (.lst [])) s3.heap.objs.size cl fp
  have I4 := start_blkH I3 (compEnvC scope cl s3.heap.objs.size X.env) rfl k4 J4
  have st4 := T.keep _ _ _ st3 fun b _ o e => k4 b o e
  have hotB : L2H.HotC (blkH X s3 (upd H2 D (.lst [])) scope (compEnvC scope cl s3.heap.objs.size X.env) fp) := hc
  change codeAny _ X.A (Code.compStart (.ListComp elt [⟨tg, iter, ifs, 0⟩] scope pos) 0 (Value.ref it) (Value.ref D) (compEnvC scope cl s3.heap.objs.size X.env))
    (compPost (model X.prog X.w) X.A X.xe none (EP X pins σ Q) (Value.ref D) s3.heap.objs.size) _
  generalize hce : compEnvC scope cl s3.heap.objs.size X.env = ce at *
  have eL : ce.locals = s3.heap.objs.size := by rw [← hce]; rfl
  generalize hs4 : ({ s3 with heap := pushCells (s3.heap.push { cls := .type "dict", data := .dict #[] }) scope.names } : Shared) = s4 at *
  have e4 : pushCells (s3.heap.push { cls := .type "dict", data := .dict #[] }) scope.names = s4.heap := by rw [← hs4]
  rw [e4] at st4
  generalize hH3 : upd H2 D (.lst []) = H3 at *
  have vs := own.map (·.2)
  have still : ∀ {τ : L2.St} {g : Hp} {z : Shared}, Inv (blkH X s3 H3 scope ce fp) [] τ g z → (∀ b ∈ fp, g b = none) → ∀ b ∈ fp, FpOk (blkH X s3 H3 scope ce fp) [] g b := fun {τ g z} J hn b hb =>
    ⟨hn b hb, (J.ok.exf b hb).1, J.ok.exfs b hb, .inl hb, fun x c e => (J.ok.exf b hb).2 x c e, fun p hp => (f3 b hb).1.2.2.2.2.2 p (List.mem_append_left _ (by rw [List.append_nil] at hp; exact hp))⟩
  have body : codeAny (model X.prog X.w) X.A (Code.compLoop (.ListComp elt [⟨tg, iter, ifs, 0⟩] scope pos) 0 (Value.ref it) (Value.ref D) ce) (compPost (model X.prog X.w) X.A X.xe none (EP X pins σ Q) (Value.ref D) s3.heap.objs.size) s4 := by
    refine compLoop_any (fun n z => ∃ i g, Inv (blkH X s3 H3 scope ce fp) [] (wipe σ (own.map (·.2))) g z ∧ tn i z.heap ∧ (∀ b ∈ fp, g b = none) ∧ W i n g) ?_ m0 ⟨0, H3, I4, st4, nf3, w0⟩
    rintro n s5 ⟨i, H5, I5, st5, n5, w5⟩
    obtain ⟨stop, qq⟩ | ⟨go, Nx, hNx, step⟩ := turn i n H5 w5
    · refine thnF (T.done (blkH X s3 H3 scope ce fp) rfl rfl rfl hotB i [] s5 _ H5 (fun _ _ => False) I5 (still I5 n5) st5 stop) ?_
      rintro _ s6 ⟨rfl, I6⟩
      have I7 : Inv X pins σ H5 s6 := I3.call' (ch := fp) I6.os I6.base I6.hok I6.bare fun b hb => ⟨(f3 b hb).1.2.2.2.1, (f3 b hb).1.2.1, (f3 b hb).1.2.2.2.2⟩
      have n6 : H5 s3.heap.objs.size = none := by
        rw [← eL]
        exact I6.free
      obtain ⟨m, hn, -⟩ := I6.loc
      obtain ⟨f0, f1, f2', f4, f5, f6⟩ := I3.fpOk (Nat.le_refl _) n6
      refine ⟨m, by rw [← eL]; exact hn, fun g sb => ⟨.ref D, H5, ?_, rfl, qq⟩⟩
      exact I7.turned (t' := s6.toks) (fun b o nb e => (sb.2 b nb).trans e) f0 f1 f4 f5 f6
    · refine thnF (T.item (blkH X s3 H3 scope ce fp) rfl rfl rfl hotB i [] s5 _ H5 (fun _ _ => False) I5 (still I5 n5) st5 go) ?_
      rintro _ s6 ⟨u, rfl, h6⟩
      refine thnF h6 ?_
      rintro - s7 ⟨x, H7, I7, r7, y7, st7, n7⟩
      have K7 := I7.pinned (still I7 n7) (T.obj _ _ st7)
      refine thnF (G.run _ s7 _ H7 x u _ K7 r7 (step x H7 y7)) ?_
      rintro - s8 ⟨σ8, H8, I8, w8, q8⟩
      have pinned : ∀ {z : Shared} {g : Hp}, Inv (blkH X s3 H3 scope ce fp) ([] ++ pinsAt fp s7.heap) σ8 g z → ∀ b ∈ fp, ∀ o, s7.heap.get? b = some o → z.heap.get? b = some o ∧ g b = none := fun {z g} J b hb o e => by
        have at_ := J.pin (b, o) (List.mem_append_right _ (List.mem_append_right _ (mem_pinsAt hb e)))
        exact ⟨at_.1, at_.2.1⟩
      have again : ∀ {z : Shared} {g : Hp}, Inv (blkH X s3 H3 scope ce fp) ([] ++ pinsAt fp s7.heap) σ8 g z → Nx g → ∃ m, m < n ∧ ∃ i g, Inv (blkH X s3 H3 scope ce fp) [] (wipe σ (own.map (·.2))) g z ∧ tn i z.heap ∧ (∀ b ∈ fp, g b = none) ∧ W i m g := by
        intro z g J nx
        obtain ⟨m', lt, w'⟩ := hNx g nx
        have len : (wipe σ (own.map (·.2))).length = σ8.length := by rw [← w8, wipe_length]
        refine ⟨m', lt, i + 1, g, J.unpinned.weak len (fun j v e => ?_), T.keep _ _ _ st7 fun b hb o e => (pinned J b hb o e).1, fun b hb => ?_, w'⟩
        · exact (wipe_some (w8 ▸ e)).1
        · obtain ⟨o, e, -⟩ := T.obj _ _ st7 b hb
          exact (pinned J b hb o e).2
      refine thnF (TT.run _ s8 σ8 H8 _ I8 q8) ?_
      rintro b s9 ⟨H9, I9, q9⟩
      cases b
      · exact again I9 q9
      · refine thnF (EE.run _ s9 σ8 H9 _ I9 q9) ?_
        rintro z s10 ⟨y, H10, I10, r10, acc, at_, lt, nx⟩
        exact app_ok (X := blkH X s3 H3 scope ce fp) I10 at_ lt r10 fun s11 I11 => again I11 nx
  exact codeAny_compStart_list body (T.self X.A 0 _ _ _ st4 body)
end
end Hd

namespace Hd
open PySem PySem.Spec PyProof.Rows L2

/-! ### own exception classes -/
/-- what the written part tells of such a class: x its name, D its place -/
structure Ec (K : PySem.W.Frag) (mg : Str → Option Value) (x : Str) (D : Addr) : Prop where
  gC : mg x = some (.ref D)
  ox : OexC K D
  xf : XfC K D
  ca : PySem.W.findIn K (.ref D) "__class__" = some (some (.builtin "object.__class__"))
  sg : PySem.W.specialIn K (.builtin "object.__class__") "__get__" = some (some (.builtin "getset_descriptor.__get__"))
  tk : PySem.W.takesIn K (.builtin "object.__class__") = some true
  mo : PySem.W.mroIn K D (.type "object") = some true
  ic : PySem.W.isClsIn K D = true
/-- the class named x answers b to isinstance of an instance of the class at D -/
def Isx (K : PySem.W.Frag) (mg : Str → Option Value) (D : Addr) (x : Str) (b : Bool) : Prop := ∃ C : Addr, mg x = some (.ref C) ∧ PySem.W.kitOne K (.ref D) (.ref C) = some b
/-- an exception at p of the class at D, its attributes fs standing at d -/
structure ErrAt (D d : Addr) (fs : List (Str × V)) (H : Hp) (p : Addr × Obj) : Prop where
  cls : p.2.cls = .ref D
  dict : p.2.dict = some d
  data : ∃ vs, p.2.data = .fields vs
  at_ : H d = some (.xd fs)
theorem ErrAt.up {D d : Addr} {fs : List (Str × V)} {H H' : Hp} {p : Addr × Obj} (e : ErrAt D d fs H p) (h : H' d = H d) : ErrAt D d fs H' p := ⟨e.cls, e.dict, e.data, h.trans e.at_⟩
section
variable {X : Cx} {p : Addr × Obj} {D d : Addr} {fs : List (Str × V)}
theorem ErrAt.inst {pins : List (Addr × Obj)} {σ : L2.St} {H : Hp} {s : Shared} (e : ErrAt D d fs H p) (hp : p ∈ X.pn) (I : Inv X pins σ H s) : ∃ od mA, PySem.W.InstAt s.heap p.1 p.2 D (some od) ∧ s.heap.Ns1 d mA ∧ (∀ f, RelO (fs.lookup f) (mA f)) ∧ ∀ n, PySem.W.lookIn n od = some (mA n) := by
  have at_ : ObjOk X.prog X.w H s.heap d (.xd fs) := I.hok d _ e.at_
  obtain ⟨mA, hns, hr⟩ := at_
  obtain ⟨od, ho, hl⟩ := lookIn_ns hns
  obtain ⟨vs, dv⟩ := e.data
  refine ⟨od, mA, ⟨(I.pin p (List.mem_append_left _ hp)).1, e.cls, ?_, ?_⟩, hns, hr, hl⟩
  · unfold PySem.W.notCls
    rw [dv] <;> rfl
  · rw [e.dict]
    exact ho
/-- isinstance of it -/
def rIsErr (K : PySem.W.Frag) (p : Addr × Obj) (D d : Addr) : List V → Hp → VK → Prop := fun xs H Q => ∃ (c : V) (cv : Value) (b : Bool) (fs : List (Str × V)), xs = [.ref p.1, c] ∧ (∀ u, RelV c u → u = cv) ∧ PySem.W.kitOne K (.ref D) cv = some b ∧ ErrAt D d fs H p ∧ Q (.bl b) H
theorem call_isErr {x : Str} (T : Ec X.K X.mg x D) (hp : p ∈ X.pn) : CallR X (.builtin "isinstance") (rIsErr X.K p D d) := by
  rintro pins s σ H xs us Q I r ⟨c, cv, b, fs, rfl, hcv, e, at_, q⟩
  cases r with
  | cons r1 rr =>
    cases rr with
    | cons r2 rr =>
      cases rr
      cases r1
      obtain rfl := hcv _ r2
      obtain ⟨od, mA, J, -⟩ := at_.inst hp I
      have kit := PySem.W.kitx_exc (x := p.1) (ox := p.2) (od := some od) T.ic T.xf.ga T.xf.gg T.xf.exC T.ca T.sg T.tk T.mo
      exact PySem.W.kia_one kit I.kIn J e (fun z => nomatch z) fun tk => ⟨.bl b, H, I.kept (t' := tk) fun _ _ z => z, rfl, q⟩
/-- err.n -/
def tErrF (p : Addr × Obj) (D d : Addr) (n : Str) (te : TE) : TE := fun σ H Q => te σ H fun x H1 => x = .ref p.1 ∧ ∃ (fs : List (Str × V)) (v : V), ErrAt D d fs H1 p ∧ fs.lookup n = some v ∧ Q v H1
theorem pe_errF {x : Str} {e : Expr} {te : TE} {pos : Pos} {n : Str} (T : Ec X.K X.mg x D) (hno : PySem.W.findIn X.K (.ref D) n = some none) (hp : p ∈ X.pn) (he : PE X e te) (hb : attributeBase e n X.env (eval e X.env) = eval e X.env := by rfl) :
    PE X (.Attribute e n pos) (tErrF p D d n te) := by
  constructor
  intro pins s σ H Q I h
  refine attr_of hb (thn (he.run pins s σ H _ I h) ?_)
  rintro u s1 ⟨y, H1, I1, ry, rfl, fs, v, at_, l, q⟩
  obtain rfl : u = Value.ref p.1 := ry
  obtain ⟨od, mA, J, hns, hr, hl⟩ := at_.inst hp I1
  obtain ⟨u, hu, ru⟩ := RelO.some_of (v := v) (o := mA n) (by rw [← l]; exact hr n)
  exact HandSPX.exc_get I1.kIn J T.xf.ga T.xf.gg T.xf.exC (PySem.W.findObj_own T.xf.hdC hno rfl (by rw [hl, hu])) (handed_of ru) ⟨v, H1, I1.tok _, ru, q⟩
end
/-! ### defs called while an exception is handled; their promise may speak of that exception -/
abbrev SpH := Addr × Obj → Sp
structure FnE (P : Program) (w : World) (K : PySem.W.Frag) (mg : Str → Option Value) (base : Heap) (k : Nat) (f : Addr) (fd : FuncData) (ps : List Str) (sp : SpH) : Prop where
  len : ∀ p vs H Q E, sp p vs H Q E → vs.length = ps.length
  go : ∀ (A : Around) (outer : List Env) (s : Shared) (H : Hp) (args : Args) (us : List Value) (vs : List V) (Q : VK) (E : XK) (p : Addr × Obj), L2H.RoomH k A → L2H.Hot1 A p → L2H.PinOk outer H s p → Env0 P w K mg base A outer s H → BindsTo s fd args (ps.zip us) →
    Vals vs us → sp p vs H Q E → codeAny (model P w) A (.call (.ref f) args) (CR CX0 outer P w H s Q E) s
def CalE (P : Program) (w : World) (K : PySem.W.Frag) (mg : Str → Option Value) (base : Heap) (x : Str) (k : Nat) (ps : List Str) (sp : SpH) : Prop :=
  ∃ f fd, FnE P w K mg base k f fd ps sp ∧ mg x = some (.ref f) ∧ PySem.W.keepIn K (.ref f) = true ∧ Binds K fd ps []
section
variable {P : Program} {w : World} {K : PySem.W.Frag} {mg : Str → Option Value} {base : Heap} {x : Str} {st : Stmt} {ps N : List Str} {k : Nat} {sp : SpH}
theorem Def.calE (D : Def K mg x st ps) (S : FnScope N ps (defScope st)) (len : ∀ p vs H Q E, sp p vs H Q E → vs.length = ps.length)
    (hbody : ∀ (f : Addr) (cdv : Value) (A : Around) (outer : List Env) (s : Shared) (H : Hp) (vs : List V) (Q : VK) (E : XK) (p : Addr × Obj), L2H.Hot1 A p → L2H.RoomH k (A.deeper (envOfC x (defScope st) s.heap.objs.size f cdv)) → sp p vs H Q E →
      ∃ t, PSs (L2H.cxH CX0 P w K mg base N x (defScope st) f cdv A outer s H E p).nox (defBody st) t ∧ t { nx := fun _ H' => Q .non H', rt := Q } (start N vs) H) : CalE P w K mg base x (k + 1) ps sp := by
  obtain ⟨f, fd, F, g, b⟩ := D
  refine ⟨f, fd, ⟨len, ?_⟩, g, F.kp, b⟩
  obtain ⟨oc, od, kV, doc, pm, an, cdv, ct, osl, rfl, lk, hcd⟩ := F.ex
  intro A outer s H args us vs Q E p hr hot pin e0 hb r hsp
  have KX : K.In s.heap := e0.mod.kin.keeps fun b o e => (e0.bs b o e).1
  have free : s.heap.NoLimit := e0.mod.nolimit.keeps fun b o e => (e0.bs b o e).1
  have kinds : ∀ y ∈ ps.zip us, (defScope st).names.lookup y.1 = some .local ∨ ((defScope st).names.lookup y.1 = some .cell ∧ ((cellsFrom (s.heap.objs.size + 1) (defScope st).names []).lookup y.1).isSome = true) := fun ⟨n, v⟩ hy =>
    (S.par n (List.of_mem_zip hy).1).imp id fun q => ⟨q, PySem.W.cellsFrom_some _ _ _ (.inl q)⟩
  apply codeAny_call_function hr.depth (KX _ _ lk) rfl S.co S.gen rfl (PySem.W.codeRec_of KX hcd) (hb _ _ _ _ _)
  refine wpAny_newFunctionEnv_cells S.kind kinds ?_
  rintro env rfl s1 x
  refine ⟨free.keeps x.toInCall.keep, codeAny_func ?_⟩
  obtain ⟨t, ht, hq⟩ := hbody f cdv A outer s H vs Q E p hot (hr.deeper _) hsp
  have I := L2H.inv_startH (CX := CX0) (E := E) S pin e0 (len _ _ _ _ _ hsp) r x
  refine wpAny_mono (ht.nox.run [] s1 (start N vs) H _ I hq) ?_ fun e s' hs => hs
  intro fl s' hs
  cases fl
  · obtain ⟨σ', H', J, q⟩ := hs
    exact ⟨V.non, H', J.os, J.bare, J.base, J.hok, rfl, q⟩
  · obtain ⟨_, _, _, q⟩ := hs
    exact q.elim
  · obtain ⟨_, _, _, q⟩ := hs
    exact q.elim
  · obtain ⟨v, σ', H', J, rv, q⟩ := hs
    exact ⟨v, H', J.os, J.bare, J.base, J.hok, rv, q⟩
end
section
variable {X : Cx} {x : Str} {q pos : Pos} {e : Expr} {es : List Expr} {k : Nat} {ps : List Str} {sp : SpH} {t : TA} {p : Addr × Obj}
theorem pe_calE (C : CalE X.prog X.w X.K X.mg X.base x k ps sp) (hr : L2H.RoomH k X.A) (hot : L2H.Hot1 X.A p) (hp : p ∈ X.pn) (hg : Gl X x) (ha : PA X (e :: es) t) (hdb : (x == ("__debug__" : Str)) = false := by decide)
    (he : starEach (e :: es) X.env = (false, eval e X.env) :: starEach es X.env := by rfl) (hpl : (backTo pos (starEach es X.env)).any (·.1) = false := by rfl) :
    PE X (.Call (.Name x q) (e :: es) [] pos) (tCall (sp p) [] E0 t) := by
  obtain ⟨f, fd, F, g, kp, b⟩ := C
  constructor
  intro pins s σ H Q I h
  apply wpAny_Call_Name_kw (ld_glob I hg g _ hdb)
  refine PySem.W.callWith_K (h₀ := X.base) I.ok.mod.kin kp (thn (ha.run pos pins s σ H _ I h) ?_) he hpl
  rintro us s1 ⟨vs, H1, I1, r, sq⟩
  rw [List.append_nil] at sq
  refine ⟨I1.kIn, wpAny_call ?_⟩
  have ln : us.length = ps.length := r.length.symm.trans (F.len _ _ _ _ _ sq)
  have bd := b s1 us I1.kIn ((congrArg List.length (List.append_nil us)).trans ln)
  rw [List.append_nil] at bd
  obtain ⟨p1, p2, p3, p4, p5⟩ := I1.pin p (List.mem_append_left _ hp)
  have pin : L2H.PinOk X.stack H1 s1 p := ⟨p1, p2, fun m => (List.mem_cons.mp (I1.stkSub p.1 m)).elim p3 p4, p5⟩
  refine codeAny_mono (F.go X.A X.stack s1 H1 ⟨us, []⟩ us vs Q E0 p hr hot pin I1.env0 bd r sq) ?_
  intro res s' hq
  cases res with
  | error _ => exact hq.elim
  | ok fl =>
    cases fl
    · exact hq.elim
    · exact hq.elim
    · exact hq.elim
    · exact I1.after hq
end
end Hd

namespace Hd
open PySem PySem.Spec PyProof.Rows L2

/-! ### defs that may raise -/
theorem nothing_out {X : Cx} : Passes (L2N.CX X.prog X.w) X E0 := by
  rintro pins σ H s e s' I ⟨_, _, _, _, _, _, _, _, _, _, _, _, z⟩
  exact z.elim
theorem nothing_taken {X : Cx} : L2N.Takes X (fun _ _ _ _ => False) := by
  rintro u s' ⟨_, _, _, _, _, _, _, _, _, _, _, _, _, _, _, _, z⟩
  exact z.elim
def CalX (P : Program) (w : World) (K : PySem.W.Frag) (mg : Str → Option Value) (base : Heap) (x : Str) (k : Nat) (ps : List Str) (sp : Sp) : Prop :=
  ∃ f fd, FnOk P w K mg base (L2N.CX P w) k f fd ps sp ∧ mg x = some (.ref f) ∧ PySem.W.keepIn K (.ref f) = true ∧ Binds K fd ps []
section
variable {P : Program} {w : World} {K : PySem.W.Frag} {mg : Str → Option Value} {base : Heap} {x : Str} {st : Stmt} {ps N : List Str} {k : Nat} {sp : Sp}
theorem Def.calX (D : Def K mg x st ps) (S : FnScope N ps (defScope st)) (len : ∀ vs H Q E, sp vs H Q E → vs.length = ps.length)
    (hbody : ∀ (f : Addr) (cdv : Value) (A : Around) (outer : List Env) (s : Shared) (H : Hp) (vs : List V) (Q : VK) (E : XK), Room k (A.deeper (envOfC x (defScope st) s.heap.objs.size f cdv)) → sp vs H Q E →
      ∃ t, PSs (cxOf (L2N.CX P w) P w K mg base N x (defScope st) f cdv A outer s H E) (defBody st) t ∧ t { nx := fun _ H' => Q .non H', rt := Q } (start N vs) H) : CalX P w K mg base x (k + 1) ps sp := by
  obtain ⟨f, fd, F, g, b⟩ := D
  have kp := F.kp
  obtain ⟨oc, od, kV, doc, pm, an, cdv, ct, osl, rfl, lk, hcd⟩ := F.ex
  exact ⟨f, _, fn_of lk hcd S len fun A outer s H vs Q E hr h => hbody f cdv A outer s H vs Q E hr h, g, kp, b⟩
end
section
variable {X : Cx} {x : Str} {p pos : Pos} {e : Expr} {es : List Expr} {k : Nat} {ps : List Str} {sp : Sp} {t : TA}
/-- within a try, or in a def that lets it out -/
theorem pe_calX {W : WX} (C : CalX X.prog X.w X.K X.mg X.base x k ps sp) (tk : L2N.Takes X W) (hr : Room k X.A) (hg : Gl X x) (ha : PA X (e :: es) t) (hdb : (x == ("__debug__" : Str)) = false := by decide)
    (he : starEach (e :: es) X.env = (false, eval e X.env) :: starEach es X.env := by rfl) (hpl : (backTo pos (starEach es X.env)).any (·.1) = false := by rfl) :
    PE X (.Call (.Name x p) (e :: es) [] pos) (tCallS sp (WE W) t) := by
  obtain ⟨f, fd, F, g, kp, b⟩ := C
  exact pe_callS F hr hg g kp b (fun σ => L2N.passAt tk σ) ha hdb he hpl
/-- where it is known that nothing is raised -/
theorem pe_calQ (C : CalX X.prog X.w X.K X.mg X.base x k ps sp) (hr : Room k X.A) (hg : Gl X x) (ha : PA X (e :: es) t) (hdb : (x == ("__debug__" : Str)) = false := by decide)
    (he : starEach (e :: es) X.env = (false, eval e X.env) :: starEach es X.env := by rfl) (hpl : (backTo pos (starEach es X.env)).any (·.1) = false := by rfl) :
    PE X (.Call (.Name x p) (e :: es) [] pos) (tCall sp [] E0 t) := by
  obtain ⟨f, fd, F, g, kp, b⟩ := C
  exact pe_call F hr hg g kp b .nil nothing_out ha hdb he hpl
end
/-! ### own exceptions made where nothing is handled -/
section
variable {X : Cx} {C fI : Addr} {k : Nat} {fd : FuncData} {ps : List Str} {sp : Sp} {e : Expr} {es : List Expr} {ta : TA} {p pos : Pos} {x : Str}
theorem mk_calm (T : OexC X.K C) (iC : PySem.W.findIn X.K (.ref C) "__init__" = some (some (.ref fI))) (tI : PySem.W.typeIn X.K (.ref fI) = some (.type "function")) (F1 : FnOk X.prog X.w X.K X.mg X.base CX0 k fI fd ps sp) (hr : Room (k + 1) X.A)
    (hb : Binds X.K fd ps []) (hg : Gl X x) (hm : X.mg x = some (.ref C)) (ha : PA X (e :: es) ta) (hdb : (x == ("__debug__" : Str)) = false := by decide)
    (he : starEach (e :: es) X.env = (false, eval e X.env) :: starEach es X.env := by rfl) (hpl : (backTo pos (starEach es X.env)).any (·.1) = false := by rfl) : L2N.PMk X (.Call (.Name x p) (e :: es) [] pos) (tMkO C sp [] ta) := by
  rintro pins s σ H Q I h
  obtain ⟨nm, q, N, bs, bm, sn, sub, ab, col, dd, k0, k1, k2, k3, k5, hC, hbm⟩ := T.cls
  apply wpAny_Call_Name_kw (ld_glob I hg hm _ hdb)
  refine PySem.W.callWith_K (h₀ := X.base) I.ok.mod.kin T.kC (thn (ha.run pos pins s σ H _ I h) ?_) he hpl
  rintro us ⟨hp, g, dr, tk, os⟩ ⟨vs, H1, I1, r1, hz, q1⟩
  refine ⟨I1.kIn, ?_⟩
  change wpAny _ _ (call (.ref C) us) _ _ _
  generalize hn : hp.objs.size + 1 = a
  have big : hp.objs.size ≤ a := by omega
  have new : H1 a = none := I1.hok.fresh big
  have sq := q1 a new
  rw [List.append_nil] at sq
  have up : ∀ b o, hp.get? b = some o → ((hp.push (PySem.W.kdv_tup us)).push (PySem.HandSPX.excO C hp.objs.size)).get? b = some o := fun b o z => Heap.get?_push_of_some _ (Heap.get?_push_of_some _ z)
  have at_ : ((hp.push (PySem.W.kdv_tup us)).push (PySem.HandSPX.excO C hp.objs.size)).get? a = some (PySem.HandSPX.excO C hp.objs.size) := by subst hn; heap_get
  have I2 : Inv X pins σ (upd H1 a (exo a C none)) ⟨(hp.push (PySem.W.kdv_tup us)).push (PySem.HandSPX.excO C hp.objs.size), g, dr, tk, os⟩ := I1.laid (t' := tk) up big (exo_ok at_)
  have r2 : Vals (V.ref a :: vs) (Value.ref a :: us) := .cons rfl r1
  have ln : (Value.ref a :: us).length = ps.length := r2.length.symm.trans (F1.len _ _ _ _ sq)
  have bd := hb ⟨(hp.push (PySem.W.kdv_tup us)).push (PySem.HandSPX.excO C hp.objs.size), g, dr, tk, os⟩ (Value.ref a :: us) I2.kIn ((congrArg List.length (List.append_nil _)).trans ln)
  rw [List.append_nil] at bd
  have few : us.length ≤ sizeLine := by
    have := r1.length
    rw [sizeLine_eq]
    omega
  subst hn
  refine wpAny_call (PySem.HandSPX.call_own F.excBase_ValueError (fun Y => PySem.HandSPX.refsVE_contains Y bm hbm) (I1.kIn _ _ hC) (PySem.W.looks_findIn I1.kIn iC) (fun self => PySem.W.bind_fn I1.kIn self tI) few ?_)
  refine codeAny_mono (F1.run _ X.stack _ _ ⟨_, []⟩ _ _ _ (fun _ _ _ => False) (hr.make C us []) (I2.env0.make C us []) bd r2 sq) ?_
  intro res s' hq
  cases res with
  | error _ => exact hq.elim
  | ok fl =>
    cases fl
    · exact hq.elim
    · exact hq.elim
    · exact hq.elim
    · obtain ⟨v, H2, os2, bare2, un2, hok2, rv, rfl, d, fs, ea, ed, hd1, q2⟩ := hq
      obtain ⟨h2, g2, d2, t2, os'⟩ := s'
      obtain ⟨t0, G, J, kG, ge, hoe, na⟩ := mk_end0 (d2 := d2) (t2 := t2) I1 big up un2 hok2 os2 bare2 ea ed hd1
      refine ⟨rv, _, _, _, ⟨G, g2, d2, t2, os'⟩, _, .ref C, some d, rfl, J, kG, ge, hoe, ⟨rfl, rfl, ?_⟩, rfl, rfl, na, rfl, bare2, raises_own T.exC T.tyC, q2⟩
      intro vs hv
      cases hv
      rfl
end
/-! ### __init__ that keeps its arguments, one after the other -/
def clsB (s : Stmt) : List Stmt := match s with
  | .ClassDef _ _ _ b _ _ _ _ _ _ _ => b
  | _ => []
/-- the class named x at D, and its __init__ -/
structure Xc (K : PySem.W.Frag) (mg : Str → Option Value) (x q : Str) (st : Stmt) (ps : List Str) (D : Addr) : Prop where
  ec : Ec K mg x D
  ini : ∃ fI fd, PySem.W.findIn K (.ref D) "__init__" = some (some (.ref fI)) ∧ PySem.W.typeIn K (.ref fI) = some (.type "function") ∧ Fun K "__init__" q st fI fd ∧ Binds K fd ps []
  no : ∀ f ∈ ps.tail, PySem.W.findIn K (.ref D) f = some none
section
variable {X : Cx} {K : PySem.W.Frag} {mg : Str → Option Value} {x q f g : Str} {st : Stmt} {D : Addr} {P : Program} {w : World} {base : Heap} {e : Expr} {es : List Expr} {ta : TA} {p pos : Pos}
def spIni (D : Addr) (gs : List Str) : Sp := fun vs H Q _ => ∃ (a : Addr) (us : List V), vs = .ref a :: us ∧ us.length = gs.length ∧ H a = some (exo a D none) ∧ ∀ dx, H dx = none → dx ≠ a → Q .non (upd (upd H dx (exd dx ((gs.zip us).reverse))) a (exo a D (some dx)))
theorem ini_end {gs : List Str} {us : List V} {H1 : Hp} {Q : XK} {E : XK} (h1 : us.length = gs.length) (hl : us.length ≤ 1000) (q : ∀ d, H1 d = none → Q (.ref D) (some d) (upd H1 d (.xd ((gs.zip us).reverse)))) :
    us.length ≤ 1000 ∧ ∀ a, H1 a = none → spIni D gs (.ref a :: (us ++ [])) (upd H1 a (exo a D none)) (fun v H2 => v = .non ∧ ∃ (d : Addr) (fs : List (Str × V)), H2 a = some (exo a D (some d)) ∧ H2 d = some (exd d fs) ∧ H1 d = none ∧ Q (.ref D) (some d) (upd (del H2 a) d (.xd fs))) E := by
  refine ⟨hl, fun a ha => ⟨a, us, by rw [List.append_nil], h1, upd_same, fun dx hdx ne => ⟨rfl, dx, _, upd_same, (upd_ne ne).trans upd_same, ?_, ?_⟩⟩⟩
  · rw [upd_ne ne] at hdx
    exact hdx
  · rw [upd_ne ne] at hdx
    have e : upd (del (upd (upd (upd H1 a (exo a D none)) dx (exd dx ((gs.zip us).reverse))) a (exo a D (some dx))) a) dx (.xd ((gs.zip us).reverse)) = upd H1 dx (.xd ((gs.zip us).reverse)) := by
      funext b
      by_cases h : b = dx
      · rw [h, upd_same, upd_same]
      · rw [upd_ne h, upd_ne h]
        by_cases k : b = a
        · rw [k, del_same, ha]
        · rw [del_ne k, upd_ne k, upd_ne h, upd_ne k]
    rw [e]
    exact q dx hdx
theorem ini1 {f : Str} (S : FnScope ["self", f] ["self", f] (defScope st)) (hb : ∃ p00 p01 p02 p03, defBody st = [.Assign [.Attribute (.Name "self" p00) f p01] (.Name f p02) p03])
    (T : OexC K D) (vs0 : (defScope st).names.lookup ("self" : Str) = some NameKind.local) (vf : (defScope st).names.lookup f = some NameKind.local) (df : (f == ("__debug__" : Str)) = false) (cf : (f == ("__classdict__" : Str)) = false) (nof : PySem.W.findIn K (.ref D) f = some none)
    {fI : Addr} {fd : FuncData} (F : Fun K "__init__" q st fI fd) : FnOk P w K mg base CX0 1 fI fd ["self", f] (spIni D [f]) := by
  obtain ⟨p00, p01, p02, p03, hb⟩ := hb
  refine F.ok S ?_ ?_
  · rintro vs H Q E ⟨a, us, rfl, l, -⟩
    rw [List.length_cons, l] <;> rfl
  · rintro cdv A outer s H vs Q E hr ⟨a, us, rfl, l, ea, q⟩
    obtain ⟨u, rfl⟩ : ∃ u, us = [u] := by
      match us, l with
      | [u], _ => exact ⟨u, rfl⟩
    rw [hb]
    refine ⟨_, (pss_one (ps_ost (pv 0 rfl (.inl vs0)) (pv 1 rfl (.inl vf) df cf))), ?_⟩
    exact ⟨_, rfl, _, rfl, a, D, rfl, T, nof, .inl ⟨ea, fun dx n ne => q dx n ne⟩⟩
end
end Hd

namespace Hd
open PySem PySem.Spec PyProof.Rows L2

/-- the class named x at D, made from the arguments gs -/
def Xm (P : Program) (w : World) (K : PySem.W.Frag) (mg : Str → Option Value) (base : Heap) (x : Str) (D : Addr) (gs : List Str) : Prop :=
  Ec K mg x D ∧ (∀ f ∈ gs, PySem.W.findIn K (.ref D) f = some none) ∧ ∃ fI fd, PySem.W.findIn K (.ref D) "__init__" = some (some (.ref fI)) ∧ PySem.W.typeIn K (.ref fI) = some (.type "function") ∧ FnOk P w K mg base CX0 1 fI fd ("self" :: gs) (spIni D gs) ∧ Binds K fd ("self" :: gs) []
section
variable {X : Cx} {x : Str} {D : Addr} {gs : List Str} {e : Expr} {es : List Expr} {ta : TA} {p pos : Pos}
theorem pmk_x (M : Xm X.prog X.w X.K X.mg X.base x D gs) (hr : Room 2 X.A) (hg : Gl X x) (ha : PA X (e :: es) ta) (hdb : (x == ("__debug__" : Str)) = false := by decide)
    (he : starEach (e :: es) X.env = (false, eval e X.env) :: starEach es X.env := by rfl) (hpl : (backTo pos (starEach es X.env)).any (·.1) = false := by rfl) : L2N.PMk X (.Call (.Name x p) (e :: es) [] pos) (tMkO D (spIni D gs) [] ta) := by
  obtain ⟨T, no, fI, fd, iC, tI, F1, bd⟩ := M
  exact mk_calm T.ox iC tI F1 hr bd hg T.gC ha hdb he hpl
end
/-- an except clause's name: the base class, and that it takes the class at D -/
def Hnd (K : PySem.W.Frag) (mg : Str → Option Value) (x : Str) (D : Addr) (b : Bool) : Prop := ∃ C : Addr, mg x = some (.ref C) ∧ PySem.W.exmOne K (.ref D) (.ref C) = some b
/-- an except suite, whatever the exception's object is -/
def tSuite (t : Addr → Obj → Value → Option Addr → TS) (a : Addr) (cls : Value) (d : Option Addr) : TS := fun D σ H => ∀ oe, L2N.Zn cls d oe → (∃ vs, oe.data = .fields vs) → t a oe cls d D σ H
theorem suite_of {X : Cx} {a : Addr} {oe : Obj} {cls : Value} {d : Option Addr} {pn : List (Addr × Obj)} {b : List Stmt} {t : Addr → Obj → Value → Option Addr → TS} (hz : L2N.Zn cls d oe) (hf : ∃ vs, oe.data = .fields vs)
    (h : PSs (X.suite a ((a, oe) :: pn)) b (t a oe cls d)) : PSs (X.suite a ((a, oe) :: pn)) b (tSuite t a cls d) := ⟨fun pins s σ H D I q => h.run pins s σ H D I (q oe hz hf)⟩
theorem ps_try_E {X : Cx} {x n : Str} {c : Value} {i : Nat} {body suite : List Stmt} {b₀ : Stmt} {np pos pos' : Pos} {tb : WX → TS} {t : Addr → Obj → Value → Option Addr → TS} {Wout : WX} (hs : X.stack = X.env :: X.outer) (hf : X.env.frame = some X.env.locals) (hN : X.N.Nodup)
    (hi : X.N[i]? = some n) (hln : X.env.kindOf n = some .local) (hc : Names X x c) (tk : L2N.Takes X Wout)
    (hb : ∀ (W : WX) (pn : List (Addr × Obj)) (xe : Value → Shared → Prop), L2N.Takes (X.tr pn xe) W → PassesOwn (model X.prog X.w) X.A X.env xe → PSs (X.tr pn xe) body (tb W))
    (hsu : ∀ (a : Addr) (oe : Obj) (cls : Value) (d : Option Addr) (pn : List (Addr × Obj)), L2N.Zn cls d oe → (∃ vs, oe.data = .fields vs) → PSs (X.suite a ((a, oe) :: pn)) (b₀ :: suite) (t a oe cls d)) :
    PS X (.Try body [.ExceptHandler (some (.Name x np)) (some n) (b₀ :: suite) pos'] [] [] pos) (fun D σ H => tb (wAs X.K c i (tSuite t) Wout D) D σ H) :=
  L2N.ps_try_as hs hf hN hi hln hc tk hb fun a oe cls d pn hz h => suite_of hz h (hsu a oe cls d pn hz h)
theorem suite_hot {X : Cx} {a : Addr} {oe : Obj} {cls : Value} {d : Option Addr} {pn : List (Addr × Obj)} (hz : L2N.Zn cls d oe) (hf : ∃ vs, oe.data = .fields vs) : L2H.Hot1 (X.suite a ((a, oe) :: pn)).A (a, oe) := by
  obtain ⟨vs, hd⟩ := hf
  exact ⟨rfl, vs, hd, hz.2.2 vs hd⟩
theorem suite_err {a D d : Addr} {oe : Obj} {fs : List (Str × V)} {H : Hp} (hz : L2N.Zn (.ref D) (some d) oe) (hf : ∃ vs, oe.data = .fields vs) (h : H d = some (.xd fs)) : ErrAt D d fs H (a, oe) := ⟨hz.1, hz.2.1, hf, h⟩
theorem room_suite {k : Nat} {A : Around} (r : Room k A) (h : Option Value) : L2H.RoomH k (A.mark h) := L2H.roomH_mark r h
theorem hot_in {X : Cx} {p : Addr × Obj} (h : L2H.Hot1 X.A p) (m : p ∈ X.pn) : L2H.HotC X := ⟨p, h, m⟩
theorem pe_cls {X : Cx} {x : Str} {C : Addr} {pos : Pos} (hg : Gl X x) (h : X.mg x = some (.ref C)) (hd : (x == ("__debug__" : Str)) = false := by decide) : PE X (.Name x pos) (tC (.ref C)) := pe_glob hg h rfl hd
end Hd

namespace Hd
open PySem PySem.Spec PyProof.Rows L2

/-! ### enumerate(tuple) -/
def Ete (K : PySem.W.Frag) (a : Addr) : It where
  go := fun i H => ∃ (xs : List V) (x : V), SqT K H a xs ∧ xs[i]? = some x
  yld := fun i H v H' => ∃ T x, v = .ref T ∧ New H T (.tup [.int (i : Nat), x]) H' ∧ ∀ xs, SqT K H a xs → xs[i]? = some x
  stop := fun i H => ∃ xs : List V, SqT K H a xs ∧ xs.length ≤ i
def iEnumT (K : PySem.W.Frag) (ta : TA) : TI := fun σ H R => ta σ H fun vs H1 => ∃ a xs, vs = [.ref a] ∧ SqT K H1 a xs ∧ R (Ete K a) H1
set_option maxHeartbeats 8000000 in
theorem enum_new {v : Value} {o : Obj} {C : Heap → Prop} (B : Begins v o C) :
    Meets (Builtin.«enumerate.__new__» ⟨[.type "enumerate", v], []⟩) (fun _ R s => C s.heap ∧ R (.ok (.ret (.ref (s.heap.push o).objs.size)))
      { s with heap := (s.heap.push o).push { cls := .type "enumerate", data := .fields #[.none, .bool false, .ref s.heap.objs.size, rawInt 0, .none, .none] } }) :=
  .of_wp fun prog w A R s q => by
    obtain ⟨heap, gens, dr, toks, os⟩ := s
    obtain ⟨st, q⟩ := q
    have isE := sub_enumerate
    have begin_ : ∀ {A' : Around} {E' : Value → Shared → Prop} {Q' : Value → Shared → Prop}, Q' (.ref heap.objs.size) ⟨heap.push o, gens, dr, toks, os⟩ → wpAny (model prog w) A' (pyIter v) Q' E' ⟨heap, gens, dr, toks, os⟩ := fun z =>
      B.iter prog w _ _ ⟨heap, gens, dr, toks, os⟩ _ st z
    wp_walk using begin_
    refine wpAny_stack_any fun frames => wpAny_pure ?_
    split
    next c _ _ _ _ _ =>
      by_cases hc : (c == Value.type "enumerate") = true
      · simp only [hc]
        wp_walk using begin_
        exact ⟨_, rfl, q⟩
      · simp only [hc]
        wp_walk using begin_
        exact ⟨_, rfl, q⟩
    next =>
      wp_walk using begin_
      exact ⟨_, rfl, q⟩
theorem enum_call {prog : Program} {w : World} {A : Around} {E : Value → Shared → Prop} {s : Shared} {v : Value} {o : Obj} {C : Heap → Prop} {Q : Value → Shared → Prop} (B : Begins v o C) (st : C s.heap)
    (q : ∀ g, IsEnum g (s.heap.objs.size + 1) s.heap.objs.size 0 .none → g.get? s.heap.objs.size = some o → (∀ b u, s.heap.get? b = some u → g.get? b = some u) → Q (.ref (s.heap.objs.size + 1)) { s with heap := g }) :
    wpAny (model prog w) A (call (.type "enumerate") [v]) Q E s := by
  have sz : (s.heap.push o).objs.size = s.heap.objs.size + 1 := Heap.size_push ..
  have at1 : IsEnum ((s.heap.push o).push { cls := .type "enumerate", data := .fields #[.none, .bool false, .ref s.heap.objs.size, rawInt 0, .none, .none] }) (s.heap.objs.size + 1) s.heap.objs.size 0 .none := sz ▸ Heap.get?_push_size (s.heap.push o) rfl
  apply callType_new F.called_enumerate (by decide) (F.typeCall_enumerate_1 _) (F.newCall_enumerate_1 _) (fun obj => F.args_object_init_2 obj _) F.entry_enumerate_new (enum_new B)
  refine ⟨st, ?_⟩
  rw [sz]
  exact ⟨⟨_, at1, rfl⟩, q _ at1 (Heap.get?_push_of_some _ (Heap.get?_push_size _ B.free)) fun b u z => Heap.get?_push_of_some _ (Heap.get?_push_of_some _ z)⟩
section
variable {P : Program} {w : World} {K : PySem.W.Frag} {elts : List Expr} {kk : Nat} {tpos : Pos}
theorem two_of {b e it : Addr} (h : b ∈ [e, it]) : b = e ∨ b = it := by simpa using h
theorem walk_enumT (a e it : Addr) : Turn P w K (.Tuple elts kk tpos) (Ete K a) [e, it] e (fun i h => (∃ old, IsEnum h e it ((i : Nat) : Int) old) ∧ h.IsTupleIter it a i ∧ e ≠ it) := by
  constructor
  case mem => exact List.mem_cons_self
  case obj =>
    rintro i h ⟨⟨old, he⟩, ⟨o, ho, hc, hd⟩, -⟩ b hb
    obtain rfl | rfl := two_of hb
    · exact ⟨_, he, fun v q => nomatch q⟩
    · exact ⟨o, ho, fun v q => Data.noConfusion (hd.symm.trans q)⟩
  case keep =>
    rintro i h h' ⟨⟨old, he⟩, hi, ne⟩ k
    exact ⟨⟨old, k e List.mem_cons_self _ he⟩, hi.at fun o q => k it (List.mem_cons_of_mem _ List.mem_cons_self) o q, ne⟩
  case self => exact fun A i s Q E st q => st.1.elim fun _ he => wpAny_pyIter_enum he q
  case item =>
    rintro X rfl rfl rfl hc i pins s σ H E I fp ⟨⟨old, he⟩, hit, ne⟩ ⟨xs, x, sq, at_⟩
    obtain ⟨vs, rv, pl, -⟩ := I.tuple sq
    have isT : s.heap.IsTuple a vs.toArray := pl
    obtain ⟨u, hu, ru⟩ := rv.get at_
    have lt1 : e < s.heap.objs.size := Heap.lt_size he
    have lt2 : it < s.heap.objs.size := by
      obtain ⟨_, q, -⟩ := hit
      exact Heap.lt_size q
    have nai : a ≠ it := fun z => by
      subst z
      obtain ⟨o1, q1, c1, -⟩ := hit
      obtain ⟨o2, q2, c2, -⟩ := isT
      rw [q1] at q2
      cases q2
      rw [c1] at c2
      exact absurd (Value.type.inj c2) (by decide)
    have nae : e ≠ a := fun z => by
      subst z
      obtain ⟨o2, q2, c2, -⟩ := isT
      have q1 : s.heap.get? e = some _ := he
      rw [q1] at q2
      cases q2
      exact absurd (Value.type.inj c2) (by decide)
    have hi : i < vs.toArray.size := by
      have := (List.getElem?_eq_some_iff.mp hu).1
      simpa using this
    refine wpAny_pyNext_enum_itemD (Draws.tuple (A := X.A.in1) (I.ok.hd hc) it a nai vs.toArray) he ⟨hit, isT⟩ hi ne (fun z => ?_) ?_
    · rcases two_of z with z | z
      · exact ne z
      · exact nae z
    rintro y g tk py out ⟨hit', -⟩ gT hz keep
    have ey : y = u := by
      have := py.symm.trans ((by simpa using hu) : vs.toArray[i]? = some u)
      exact Option.some.inj this
    subst ey
    refine ⟨_, rfl, wpAny_letOwnedTupleGo_enum (s := { s with heap := g, toks := tk + 1 }) out fun g2 he2 sb => ?_⟩
    have gT2 : g2.get? s.heap.objs.size = some { cls := .type "tuple", data := .seq #[.int i tk, y] } := (sb.2 _ (Nat.ne_of_gt lt1)).trans gT
    have okT : ObjOk X.prog X.w (upd H s.heap.objs.size (.tup [.int (i : Nat), x])) g2 s.heap.objs.size (.tup [.int (i : Nat), x]) := ⟨by show 2 ≤ sizeLine; decide, [.int i tk, y], .cons ⟨_, rfl⟩ (.cons ru .nil), ⟨_, gT2, rfl, _, rfl⟩⟩
    have J : Inv X pins σ (upd H s.heap.objs.size (.tup [.int (i : Nat), x])) { s with heap := g2, toks := tk + 1 } :=
      I.turnedNew (ch := [e, it]) (fun b o hb q => (sb.2 b fun z => hb (by simp [z])).trans (keep b o (fun z => hb (by simp [z])) (fun z => hb (by simp [z])) q)) fp (Nat.le_refl _) okT
    refine ⟨.ref s.heap.objs.size, _, J, rfl, ⟨_, x, rfl, ⟨I.hok.fresh (Nat.le_refl _), rfl⟩, fun ys hy => ?_⟩, ⟨⟨y, ?_⟩, hit'.at fun o q => (sb.2 it (Ne.symm ne)).trans q, ne⟩, fun b hb => ?_⟩
    · rw [I.tuple_inj hy sq]
      exact at_
    · have e1 : ((i + 1 : Nat) : Int) = (i : Int) + 1 := rfl
      rw [e1]
      exact he2
    · have lt : b < s.heap.objs.size := by
        obtain rfl | rfl := two_of hb
        · exact lt1
        · exact lt2
      exact (upd_ne (Nat.ne_of_lt lt)).trans (fp b hb).1
  case done =>
    rintro X rfl rfl rfl hc i pins s σ H E I fp ⟨⟨old, he⟩, hit, ne⟩ ⟨xs, sq, hle⟩
    obtain ⟨vs, rv, pl, -⟩ := I.tuple sq
    have isT : s.heap.IsTuple a vs.toArray := pl
    have hl := rv.length
    have past : vs.toArray[i]? = none := by simp; omega
    obtain ⟨f0, f1, f2, f3, f4, f5⟩ := fp it (List.mem_cons_of_mem _ List.mem_cons_self)
    have D0 : Draws X.prog X.w X.A.in1 it [it, a] 0 (fun _ _ => True) (fun j h => h.IsTupleIter it a (i + j) ∧ h.IsTuple a vs.toArray) := {
      live := fun _ _ st => st.1.elim fun o q => ⟨o, q.1⟩
      frame := fun _ _ _ st hk => ⟨st.1.at fun o e => hk it (by simp) o e, st.2.at fun o e => hk a (by simp) o e⟩
      item := fun j _ _ _ z => absurd z (Nat.not_lt_zero j)
      done := fun s Q E st hE => wpAny_nextOf_tuple_end (show X.A.in1.handled = none from I.ok.hd hc) st.1 st.2 past hE }
    exact wpAny_pyNext_enum_endD D0 he ⟨hit, isT⟩ fun g eb => ⟨rfl, I.turned (t' := s.toks) (fun b o hb q => eb b o hb q) f0 f1 f3 f4 f5⟩
end
theorem pi_enumT {X : Cx} {e : Expr} {ta : TA} {p pos tpos : Pos} {elts : List Expr} {kk : Nat} (hg : Gl X "enumerate") (hm : X.mg "enumerate" = none) (ha : PA X [e] ta) (hs : starEach [e] X.env = [(false, eval e X.env)] := by rfl) :
    PI X (.Tuple elts kk tpos) (.Call (.Name "enumerate" p) [e] [] pos) (iEnumT X.K ta) := by
  constructor
  intro pins s σ H R I h
  apply Call_ (ld_blt I hg hm boot_enumerate _)
  refine PyProof.Rows.callWith_type1 (thn (ha.run pos pins s σ H _ I h) ?_) hs rfl
  rintro us s1 ⟨vs, H1, I1, r1, a, xs, rfl, sq, q⟩
  cases r1 with
  | cons r rr =>
    cases rr
    cases r
    obtain ⟨its, rv, pl, -⟩ := I1.tuple sq
    refine enum_call (begins_tuple a its.toArray) (show s1.heap.IsTuple a its.toArray from pl) fun g he hit hk => wpAny_pyIter_enum he ?_
    have I2 : Inv X pins σ H1 { s1 with heap := g } := I1.kept (t' := s1.toks) hk
    refine ⟨_, _, _, _, H1, rfl, I2, walk_enumT a (s1.heap.objs.size + 1) s1.heap.objs.size, ⟨⟨.none, he⟩, ⟨_, hit, rfl, rfl⟩, Nat.succ_ne_self _⟩, fun b hb => ?_, q⟩
    have big : s1.heap.objs.size ≤ b := by
      obtain rfl | rfl := two_of hb
      · exact Nat.le_add_right _ _
      · exact Nat.le_refl _
    exact I1.fpOk big (I1.hok.fresh big)
/-! ### min(tuple of ints) -/
def rMinT (K : PySem.W.Frag) : List V → Hp → VK → Prop := fun vs H Q => ∃ (a : Addr) (ns : List Int), vs = [V.ref a] ∧ SqT K H a (ns.map V.int) ∧ 0 < ns.length ∧ ∀ m, m ∈ ns → (∀ y, y ∈ ns → m ≤ y) → Q (.int m) H
theorem cr_minT {X : Cx} (hc : X.calm = true) : CallR X (.builtin "min") (rMinT X.K) := by
  rintro pins s σ H vs us Q I r ⟨a, ns, rfl, sq, ne, q⟩
  obtain ⟨its, rv, pl, -⟩ := I.tuple sq
  have hi := rv.ints
  obtain ⟨xs, e⟩ := hi.allInts.items
  have hn : numsOf (intItems xs).toList = ns := by rw [← e]; exact hi.numsOf
  rw [nums_intItems] at hn
  subst hn
  have isT : s.heap.IsTuple a (intItems xs) := e ▸ pl
  have some_ : 0 < xs.size := by simpa using ne
  have lt : a < s.heap.objs.size := by
    obtain ⟨_, q, -⟩ := isT
    exact Heap.lt_size q
  rw [Vals.ref1 r]
  refine call_min_walk (wpAny_pyIter_tuple isT ⟨_, _, _, _, _, _, _, rfl, Walks.tuple (A := X.A.in1) (I.ok.hd hc) _ a (Nat.ne_of_lt lt) (intItems xs), ⟨⟨_, Heap.get?_push_size _ rfl, rfl, rfl⟩, isT.push _⟩, fun b hb => ?_, by simpa [intItems] using some_, CmpOf.ints_lt (numAt xs) (fun _ _ => intItems_at), ?_⟩)
  · show b < (s.heap.push _).objs.size
    rw [Heap.size_push]
    obtain rfl | rfl := two_of hb
    · exact Nat.lt_succ_self _
    · exact Nat.lt_succ_of_lt lt
  intro v g tk py keep
  obtain ⟨t, rfl⟩ := intItems_at py
  have sz : (intItems xs).size - 1 = xs.size - 1 := by simp [intItems]
  rw [sz]
  obtain ⟨h1, h2⟩ := argBest_lt (numAt xs) (xs.size - 1)
  have J : Inv X pins σ H { s with heap := g, toks := tk } := I.kept fun b o z => keep b o (fun m => absurd (List.mem_singleton.mp m ▸ Heap.lt_size z) (Nat.lt_irrefl _)) (Heap.get?_push_of_some _ z)
  refine ⟨.int _, H, J, ⟨t, rfl⟩, q _ ?_ fun y hy => ?_⟩
  · rw [numAt_eq]
    exact PySem.getD_mem (by rw [List.length_map, Array.length_toList]; omega)
  · obtain ⟨j, hj, rfl⟩ := mem_getD hy
    rw [List.length_map, Array.length_toList] at hj
    rw [← numAt_eq]
    exact h2 j (by omega)
/-- a comprehension over enumerate(tuple); the block leaves the tuple as it is -/
theorem lc_enumT {K : PySem.W.Frag} {a : Addr} {xs : List V} {g : TG} {tt : TT} {te : TE} {vs : List Nat} {σ : L2.St} {H1 : Hp} {D : Addr} {Qd : Hp → Prop} (Pv : Nat → Hp → Prop) (h0 : Pv 0 (upd H1 D (.lst []))) (hl : ∀ i H, Pv i H → SqT K H a xs)
    (hs : ∀ i x T H H', xs[i]? = some x → Pv i H → New H T (.tup [.int (i : Nat), x]) H' → g (.ref T) (wipe σ vs) H' fun σ2 H2 => wipe σ2 vs = wipe σ vs ∧ tt σ2 H2 fun b H3 =>
      if b = true then te σ2 H3 fun y H4 => ∃ acc, H4 D = some (.lst acc) ∧ acc.length < sizeLine ∧ Pv (i + 1) (upd H4 D (.lst (acc ++ [y]))) else Pv (i + 1) H3) (hd : ∀ H, Pv xs.length H → Qd H) :
    ∃ W : Nat → Nat → Hp → Prop, (∃ m, W 0 m (upd H1 D (.lst []))) ∧ ∀ i m H, W i m H → ((Ete K a).stop i H ∧ Qd H) ∨ ((Ete K a).go i H ∧ ∃ Nx : Hp → Prop, (∀ H', Nx H' → ∃ m', m' < m ∧ W (i + 1) m' H') ∧
      ∀ x H', (Ete K a).yld i H x H' → g x (wipe σ vs) H' fun σ2 H2 => wipe σ2 vs = wipe σ vs ∧ tt σ2 H2 fun b H3 => if b = true then te σ2 H3 fun y H4 => ∃ acc, H4 D = some (.lst acc) ∧ acc.length < sizeLine ∧ Nx (upd H4 D (.lst (acc ++ [y]))) else Nx H3) := by
  refine ⟨fun i m H => i + m = xs.length ∧ Pv i H, ⟨xs.length, Nat.zero_add _, h0⟩, ?_⟩
  rintro i m H ⟨e, p⟩
  have sq := hl i H p
  rcases Nat.eq_zero_or_pos m with rfl | pos
  · refine .inl ⟨⟨xs, sq, by omega⟩, hd H ?_⟩
    rw [← e]
    exact p
  · have lt : i < xs.length := by omega
    refine .inr ⟨⟨xs, xs[i], sq, List.getElem?_eq_getElem lt⟩, Pv (i + 1), fun H' p' => ⟨m - 1, by omega, by omega, p'⟩, ?_⟩
    rintro v H' ⟨T, x, rfl, n, at_⟩
    exact hs i x T H H' (at_ xs sq) p n
theorem cr_minTK {X : Cx} {K : PySem.W.Frag} (hc : X.calm = true) (hk : X.K = K) : CallR X (.builtin "min") (rMinT K) := hk ▸ cr_minT hc
/-! ### rules whose reading names the written part, for the block of a comprehension -/
section
variable {X : Cx} {K : PySem.W.Frag} (hk : X.K = K)
include hk
theorem ix_tupK : IxR X (rIxT K) := hk ▸ ix_tup
end
end Hd

namespace Hd
open PySem PySem.Spec PyProof.Rows L2

/-! ### the cycles of a move -/
def stp (ns : List Int) (p : Int) : Int := (ns[p.toNat]?).getD 0
def itn (ns : List Int) : Nat → Int → Int
  | 0, s => s
  | k + 1, s => stp ns (itn ns k s)
def inR (n p : Int) : Prop := 0 ≤ p ∧ p < n
theorem itn_add (ns : List Int) (a b : Nat) (s : Int) : itn ns (a + b) s = itn ns a (itn ns b s) := by
  induction a with
  | zero => rw [Nat.zero_add]; rfl
  | succ a ih => rw [Nat.add_right_comm]; show stp ns _ = stp ns _; rw [ih]
theorem itn_stp (ns : List Int) (k : Nat) (s : Int) : itn ns k (stp ns s) = stp ns (itn ns k s) := by
  have := itn_add ns k 1 s
  exact this.symm
section
variable {ns : List Int} {n : Int} (h : IsMv ns n)
include h
theorem stp_at {p : Int} (hp : inR n p) : ns[p.toNat]? = some (stp ns p) ∧ inR n (stp ns p) := by
  have l := h.len
  have lt : p.toNat < ns.length := by have := hp.1; have := hp.2; omega
  have e : ns[p.toNat]? = some ns[p.toNat] := List.getElem?_eq_getElem lt
  have es : stp ns p = ns[p.toNat] := by unfold stp; rw [e]; rfl
  refine ⟨by rw [es]; exact e, ?_⟩
  rw [es]
  exact h.mem.mp (List.getElem_mem lt)
theorem stp_inj {p q : Int} (hp : inR n p) (hq : inR n q) (e : stp ns p = stp ns q) : p = q := by
  have l := h.len
  have lp : p.toNat < ns.length := by have := hp.1; have := hp.2; omega
  have lq : q.toNat < ns.length := by have := hq.1; have := hq.2; omega
  have ep : ns[p.toNat] = ns[q.toNat] := by
    have a := (stp_at h hp).1
    have b := (stp_at h hq).1
    rw [List.getElem?_eq_getElem lp] at a
    rw [List.getElem?_eq_getElem lq] at b
    exact (Option.some.inj a).trans (e.trans (Option.some.inj b).symm)
  have nd := List.pairwise_iff_getElem.mp h.nodup
  have := hp.1; have := hq.1
  rcases Nat.lt_trichotomy p.toNat q.toNat with z | z | z
  · exact absurd ep (nd _ _ lp lq z)
  · omega
  · exact absurd ep.symm (nd _ _ lq lp z)
theorem itn_in {s : Int} (hs : inR n s) : ∀ k, inR n (itn ns k s)
  | 0 => hs
  | k + 1 => (stp_at h (itn_in hs k)).2
theorem itn_inj {p q : Int} (hp : inR n p) (hq : inR n q) : ∀ k, itn ns k p = itn ns k q → p = q
  | 0, e => e
  | k + 1, e => itn_inj hp hq k (stp_inj h (itn_in h hp k) (itn_in h hq k) e)
theorem itn_back {s : Int} (hs : inR n s) {a b : Nat} (hab : a < b) (e : itn ns a s = itn ns b s) : itn ns (b - a) s = s := by
  have : itn ns b s = itn ns a (itn ns (b - a) s) := by rw [← itn_add]; congr 1; omega
  rw [this] at e
  exact (itn_inj h hs (itn_in h hs _) a e).symm
theorem per_some {s : Int} (hs : inR n s) : ∃ m, 1 ≤ m ∧ m ≤ n.toNat ∧ itn ns m s = s := by
  refine Classical.byContradiction fun no => ?_
  have nd : ((List.range (n.toNat + 1)).map fun k => itn ns k s).Nodup := by
    rw [List.Nodup, List.pairwise_map]
    refine List.Pairwise.imp_of_mem (R := (· < ·)) (fun {a b} ha hb hab e => ?_) List.pairwise_lt_range
    have hb := List.mem_range.mp hb
    exact no ⟨b - a, by omega, by omega, itn_back h hs hab e⟩
  have sub : ∀ x ∈ (List.range (n.toNat + 1)).map (fun k => itn ns k s), x ∈ rngI n := fun x hx => by
    obtain ⟨k, _, rfl⟩ := List.mem_map.mp hx
    exact rngI_mem.mpr (itn_in h hs k)
  have p := perm_of_subset nd sub (by rw [rngI_len, List.length_map, List.length_range]; omega)
  have := p.length_eq
  rw [rngI_len, List.length_map, List.length_range] at this
  omega
end
def IsPer (ns : List Int) (s : Int) (m : Nat) : Prop := 1 ≤ m ∧ itn ns m s = s ∧ ∀ k, 1 ≤ k → k < m → itn ns k s ≠ s
theorem isPer_of {ns : List Int} {s : Int} : ∀ {m : Nat}, 1 ≤ m → itn ns m s = s → ∃ m', m' ≤ m ∧ IsPer ns s m' := by
  intro m
  induction m using Nat.strongRecOn with
  | _ m ih =>
    intro h1 e
    by_cases c : ∃ k, 1 ≤ k ∧ k < m ∧ itn ns k s = s
    · obtain ⟨k, k1, km, ke⟩ := c
      obtain ⟨m', le, p⟩ := ih k km k1 ke
      exact ⟨m', by omega, p⟩
    · exact ⟨m, Nat.le_refl _, h1, e, fun k k1 km ke => c ⟨k, k1, km, ke⟩⟩
theorem IsPer.uniq {ns : List Int} {s : Int} {a b : Nat} (x : IsPer ns s a) (y : IsPer ns s b) : a = b := by
  rcases Nat.lt_trichotomy a b with l | l | l
  · exact absurd x.2.1 (y.2.2 a x.1 l)
  · exact l
  · exact absurd y.2.1 (x.2.2 b y.1 l)
open Classical in
noncomputable def per (ns : List Int) (s : Int) : Nat := if h : ∃ m, IsPer ns s m then h.choose else 1
noncomputable def cyc (ns : List Int) (s : Int) : List Int := (List.range (per ns s)).map fun k => itn ns k s
section
variable {ns : List Int} {n : Int} (h : IsMv ns n)
include h
theorem per_is {s : Int} (hs : inR n s) : IsPer ns s (per ns s) := by
  obtain ⟨m, m1, -, e⟩ := per_some h hs
  obtain ⟨m', -, p⟩ := isPer_of m1 e
  have ex : ∃ m, IsPer ns s m := ⟨m', p⟩
  unfold per
  rw [dif_pos ex]
  exact ex.choose_spec
theorem per_le {s : Int} (hs : inR n s) : per ns s ≤ n.toNat := by
  obtain ⟨m, m1, mn, e⟩ := per_some h hs
  obtain ⟨m', le, p⟩ := isPer_of m1 e
  rw [(per_is h hs).uniq p]
  omega
theorem cyc_len (s : Int) : (cyc ns s).length = per ns s := by unfold cyc; rw [List.length_map, List.length_range]
theorem cyc_get {s : Int} {k : Nat} (hk : k < per ns s) : (cyc ns s)[k]? = some (itn ns k s) := by
  unfold cyc
  rw [List.getElem?_map, List.getElem?_range hk]
  rfl
theorem cyc_all {s : Int} (hs : inR n s) : ∀ j, itn ns j s ∈ cyc ns s
  | 0 => List.mem_map.mpr ⟨0, List.mem_range.mpr (per_is h hs).1, rfl⟩
  | j + 1 => by
    obtain ⟨k, hk, e⟩ := List.mem_map.mp (cyc_all hs j)
    have hk := List.mem_range.mp hk
    have e2 : itn ns (j + 1) s = itn ns (k + 1) s := by show stp ns _ = stp ns _; rw [e]
    rw [e2]
    by_cases l : k + 1 < per ns s
    · exact List.mem_map.mpr ⟨k + 1, List.mem_range.mpr l, rfl⟩
    · have : k + 1 = per ns s := by omega
      rw [this, (per_is h hs).2.1]
      exact List.mem_map.mpr ⟨0, List.mem_range.mpr (per_is h hs).1, rfl⟩
theorem cyc_mem {s x : Int} (hs : inR n s) : x ∈ cyc ns s ↔ ∃ j, x = itn ns j s := by
  constructor
  · intro hx
    obtain ⟨k, -, e⟩ := List.mem_map.mp hx
    exact ⟨k, e.symm⟩
  · rintro ⟨j, rfl⟩
    exact cyc_all h hs j
theorem cyc_in {s x : Int} (hs : inR n s) (hx : x ∈ cyc ns s) : inR n x := by
  obtain ⟨j, rfl⟩ := (cyc_mem h hs).mp hx
  exact itn_in h hs j
theorem cyc_back {s x : Int} (hs : inR n s) (hx : x ∈ cyc ns s) : s ∈ cyc ns x := by
  obtain ⟨k, hk, e⟩ := List.mem_map.mp hx
  have hk := List.mem_range.mp hk
  refine (cyc_mem h (cyc_in h hs hx)).mpr ⟨per ns s - k, ?_⟩
  rw [← e, ← itn_add]
  rw [show per ns s - k + k = per ns s by omega]
  exact (per_is h hs).2.1.symm
theorem cyc_trans {s x y : Int} (hs : inR n s) (hx : x ∈ cyc ns s) (hy : y ∈ cyc ns x) : y ∈ cyc ns s := by
  obtain ⟨j, rfl⟩ := (cyc_mem h hs).mp hx
  obtain ⟨i, rfl⟩ := (cyc_mem h (itn_in h hs j)).mp hy
  rw [← itn_add]
  exact cyc_all h hs _
theorem cyc_nodup {s : Int} (hs : inR n s) : (cyc ns s).Nodup := by
  unfold cyc
  rw [List.Nodup, List.pairwise_map]
  refine List.Pairwise.imp_of_mem (R := (· < ·)) (fun {a b} ha hb hab e => ?_) List.pairwise_lt_range
  have hb := List.mem_range.mp hb
  exact (per_is h hs).2.2 (b - a) (by omega) (by omega) (itn_back h hs hab e)
theorem cyc_next {s : Int} (hs : inR n s) {k : Nat} (hk : k < per ns s) : (cyc ns s)[(k + 1) % per ns s]? = some (stp ns (itn ns k s)) := by
  by_cases l : k + 1 < per ns s
  · rw [Nat.mod_eq_of_lt l, cyc_get h l]
    rfl
  · have e : k + 1 = per ns s := by omega
    rw [e, Nat.mod_self, cyc_get h (per_is h hs).1]
    have : itn ns (k + 1) s = s := by rw [e]; exact (per_is h hs).2.1
    rw [show stp ns (itn ns k s) = itn ns (k + 1) s from rfl, this]
    rfl
theorem cyc_moved {s x : Int} (hs : inR n s) (m : stp ns s ≠ s) (hx : x ∈ cyc ns s) : stp ns x ≠ x := fun e => by
  obtain ⟨j, rfl⟩ := (cyc_mem h hs).mp hx
  rw [← itn_stp] at e
  exact m (itn_inj h (stp_at h hs).2 hs j e)
theorem per_two {s : Int} (hs : inR n s) (m : stp ns s ≠ s) : 2 ≤ per ns s := by
  have p := per_is h hs
  rcases Nat.lt_or_ge (per ns s) 2 with l | l
  · have : per ns s = 1 := by have := p.1; omega
    have e := p.2.1
    rw [this] at e
    exact absurd e m
  · exact l
end
end Hd

namespace Hd
open PySem PySem.Spec PyProof.Rows L2

def heldAt (ns : List Int) (j : Nat) : Bool := decide (ns[j]? = some (j : Int))
def pts (f : Nat → Bool) (n : Nat) : List Int := ((List.range n).filter f).map fun (j : Nat) => (j : Int)
def heldL (ns : List Int) : List Int := pts (heldAt ns) ns.length
def movedL (ns : List Int) : List Int := pts (fun j => !heldAt ns j) ns.length
theorem pts_step (f : Nat → Bool) (i : Nat) : pts f (i + 1) = pts f i ++ if f i then [(i : Int)] else [] := by
  unfold pts
  rw [List.range_succ, List.filter_append, List.map_append]
  congr 1
  cases e : f i <;> simp [e]
theorem pts_len (f : Nat → Bool) (n : Nat) : (pts f n).length ≤ n := by
  unfold pts
  rw [List.length_map]
  exact Nat.le_trans (List.length_filter_le ..) (by rw [List.length_range]; exact Nat.le_refl _)
theorem pts_mem {f : Nat → Bool} {n : Nat} {x : Int} : x ∈ pts f n ↔ 0 ≤ x ∧ x.toNat < n ∧ f x.toNat = true := by
  unfold pts
  rw [List.mem_map]
  constructor
  · rintro ⟨j, hj, rfl⟩
    obtain ⟨h1, h2⟩ := List.mem_filter.mp hj
    exact ⟨by omega, List.mem_range.mp h1, h2⟩
  · rintro ⟨h0, h1, h2⟩
    exact ⟨x.toNat, List.mem_filter.mpr ⟨List.mem_range.mpr h1, h2⟩, by omega⟩
theorem pts_sorted (f : Nat → Bool) (n : Nat) : (pts f n).Pairwise (· < ·) := by
  unfold pts
  rw [List.pairwise_map]
  refine List.Pairwise.imp (R := (· < ·)) (fun {a b} hab => ?_) (List.Pairwise.filter _ List.pairwise_lt_range)
  omega
noncomputable def keptL (ns : List Int) : List Int := (movedL ns).filter fun s => (cyc ns s).all fun x => decide (s ≤ x)
noncomputable def rowsOf (ns : List Int) : List (List Int) := (keptL ns).map (cyc ns)
section
variable {ns : List Int} {n : Int} (h : IsMv ns n)
include h
theorem held_iff {x : Int} (hx : inR n x) : heldAt ns x.toNat = decide (stp ns x = x) := by
  unfold heldAt
  rw [(stp_at h hx).1]
  have : (x.toNat : Int) = x := by have := hx.1; omega
  rw [this]
  by_cases c : stp ns x = x
  · rw [c]; simp
  · simp [c]
theorem moved_mem {x : Int} : x ∈ movedL ns ↔ inR n x ∧ stp ns x ≠ x := by
  have l := h.len
  unfold movedL
  rw [pts_mem]
  constructor
  · rintro ⟨h0, h1, h2⟩
    have hx : inR n x := ⟨h0, by omega⟩
    rw [held_iff h hx] at h2
    exact ⟨hx, by simpa using h2⟩
  · rintro ⟨hx, hm⟩
    refine ⟨hx.1, by have := hx.1; have := hx.2; omega, ?_⟩
    rw [held_iff h hx]
    simpa using hm
theorem kept_in {s : Int} (hs : s ∈ keptL ns) : inR n s ∧ stp ns s ≠ s ∧ ∀ x ∈ cyc ns s, s ≤ x := by
  obtain ⟨h1, h2⟩ := List.mem_filter.mp hs
  obtain ⟨h3, h4⟩ := (moved_mem h).mp h1
  exact ⟨h3, h4, fun x hx => of_decide_eq_true (List.all_eq_true.mp h2 x hx)⟩
theorem kept_same {s t x : Int} (hs : s ∈ keptL ns) (ht : t ∈ keptL ns) (xs : x ∈ cyc ns s) (xt : x ∈ cyc ns t) : s = t := by
  obtain ⟨is, -, ms⟩ := kept_in h hs
  obtain ⟨it, -, mt⟩ := kept_in h ht
  have a : t ∈ cyc ns s := cyc_trans h is xs (cyc_back h it xt)
  have b : s ∈ cyc ns t := cyc_trans h it xt (cyc_back h is xs)
  have := ms t a
  have := mt s b
  omega
theorem least_of : ∀ (l : List Int), l ≠ [] → ∃ m ∈ l, ∀ x ∈ l, m ≤ x
  | [], e => absurd rfl e
  | [a], _ => ⟨a, List.mem_singleton.mpr rfl, fun x hx => by rw [List.mem_singleton.mp hx]; exact Int.le_refl _⟩
  | a :: b :: l, _ => by
    obtain ⟨m, hm, le⟩ := least_of (b :: l) (by simp)
    by_cases c : a ≤ m
    · exact ⟨a, List.mem_cons_self, fun x hx => (List.mem_cons.mp hx).elim (fun e => by rw [e]; exact Int.le_refl _) fun z => Int.le_trans c (le x z)⟩
    · exact ⟨m, List.mem_cons_of_mem _ hm, fun x hx => (List.mem_cons.mp hx).elim (fun e => by rw [e]; omega) fun z => le x z⟩
theorem kept_all {p : Int} (hp : p ∈ movedL ns) : ∃ s ∈ keptL ns, p ∈ cyc ns s := by
  obtain ⟨ip, mp⟩ := (moved_mem h).mp hp
  have self : p ∈ cyc ns p := cyc_all h ip 0
  obtain ⟨m, hm, le⟩ := least_of h (cyc ns p) (fun z => by rw [z] at self; cases self)
  have im := cyc_in h ip hm
  refine ⟨m, List.mem_filter.mpr ⟨(moved_mem h).mpr ⟨im, cyc_moved h ip mp hm⟩, List.all_eq_true.mpr fun x hx => decide_eq_true (le x (cyc_trans h ip hm hx))⟩, cyc_back h ip hm⟩
theorem kept_sorted : (keptL ns).Pairwise (· < ·) := List.Pairwise.filter _ (pts_sorted _ _)
theorem kept_len : (keptL ns).length ≤ ns.length := Nat.le_trans (List.length_filter_le ..) (pts_len _ _)
end
/-- what is left of the moved points when those of done are taken out -/
def leftL (ns done : List Int) : List Int := (movedL ns).filter fun x => decide (x ∉ done)
theorem left_erase (ns done : List Int) (p : Int) : (leftL ns done).erase p = leftL ns (done ++ [p]) := by
  have nd : (leftL ns done).Nodup := by
    refine List.Pairwise.filter _ ?_
    exact List.Pairwise.imp (R := (· < ·)) (fun {a b} hab => by omega) (pts_sorted _ _)
  rw [List.Nodup.erase_eq_filter nd]
  unfold leftL
  rw [List.filter_filter]
  refine List.filter_congr fun x _ => ?_
  simp only [List.mem_append, List.mem_singleton, not_or, Bool.decide_and]
  rw [Bool.and_comm]
  congr 1
  by_cases c : x = p <;> simp [c]
theorem mvD_ints {d : PyData} (e : mvD d = true) : ∃ ns, d = .tuple (ns.map PyData.int) ∧ IsMv ns (ns.length : Nat) ∧ ns.length ≤ 12 := by
  cases d with
  | tuple ds =>
    have e' : (decide (ds.length ≤ 12) && (decide (((ds.length : Nat) : Int) = ((ds.length : Nat) : Int)) && (ds.all (fun d => isNum d 0 (((ds.length : Nat) : Int) - 1)) && decide ((intsOf ds).Perm (rngI ((ds.length : Nat) : Int)))))) = true := e
    rw [Bool.and_eq_true, Bool.and_eq_true, Bool.and_eq_true] at e'
    obtain ⟨h1, -, h3, h4⟩ := e'
    have eq := ints_isNum h3
    have pm : (intsOf ds).Perm (rngI ((ds.length : Nat) : Int)) := of_decide_eq_true h4
    have ln : (intsOf ds).length = ds.length := by rw [pm.length_eq, rngI_len]; omega
    refine ⟨intsOf ds, by rw [← eq], ?_, by rw [ln]; exact of_decide_eq_true h1⟩
    rw [ln]
    exact pm
  | _ => cases e
theorem ErrAt.new {D d p' : Addr} {fs : List (Str × V)} {H H' : Hp} {p : Addr × Obj} {o : HO} (e : ErrAt D d fs H p) (n : New H p' o H') : ErrAt D d fs H' p := ⟨e.cls, e.dict, e.data, n.else e.at_⟩
theorem ErrAt.same {D d : Addr} {fs : List (Str × V)} {H H' : Hp} {p : Addr × Obj} (e : ErrAt D d fs H p) (s : Same H H') : ErrAt D d fs H' p := ⟨e.cls, e.dict, e.data, s _ _ e.at_⟩
theorem same_put {H H' : Hp} {l : Addr} {o : HO} (s : Same H H') (h : H l = none) : Same H (upd H' l o) := fun b u e => by
  rw [upd_ne fun z => by rw [z, h] at e; cases e]
  exact s _ _ e
theorem lt_of_len {a i n : Nat} (h : a ≤ i) (l : i < n) (z : n ≤ 12) : a < sizeLine := Nat.lt_of_lt_of_le (by omega : a < 13) (by decide)
theorem map_at {ns : List Int} {i : Nat} {x : V} (h : (ns.map V.int)[i]? = some x) : ∃ m, ns[i]? = some m ∧ x = .int m := by
  rw [List.getElem?_map] at h
  obtain ⟨m, hm, e⟩ := Option.map_eq_some_iff.mp h
  exact ⟨m, hm, e.symm⟩
/-- an error of the class at D with these attributes leaves -/
def Errs (E : XK) (D : Addr) (fs : List (Str × V)) (H : Hp) : Prop := ∀ (d : Addr) (H' : Hp), Same H H' → H' d = some (.xd fs) → E (.ref D) (some d) H'
theorem Errs.up {E : XK} {D : Addr} {fs : List (Str × V)} {H H' : Hp} (e : Errs E D fs H) (s : Same H H') : Errs E D fs H' := fun d H2 s2 h => e d H2 (s.trans s2) h
end Hd
namespace Hd
open PySem PySem.Spec PyProof.Rows L2
theorem erase_first {k : Int} : ∀ {ns : List Int} {j : Nat}, ns[j]? = some k → (∀ m : Nat, m < j → ns[m]? ≠ some k) → ns.eraseIdx j = ns.erase k
  | [], j, e, _ => by simp at e
  | a :: r, 0, e, _ => by
    have e : a = k := Option.some.inj e
    rw [e]
    simp
  | a :: r, j + 1, e, no => by
    have ne : a ≠ k := fun z => no 0 (Nat.succ_pos j) (by rw [z]; rfl)
    have ih := erase_first (ns := r) (j := j) e fun m hm => no (m + 1) (Nat.succ_lt_succ hm)
    rw [List.eraseIdx_cons_succ, ih, List.erase_cons_tail (by simpa using ne)]
theorem first_at {k : Int} : ∀ {ns : List Int}, k ∈ ns → ∃ j, ns[j]? = some k ∧ ∀ m : Nat, m < j → ns[m]? ≠ some k
  | [], h => by cases h
  | a :: r, h => by
    by_cases e : a = k
    · exact ⟨0, by rw [e]; rfl, fun m hm => absurd hm (Nat.not_lt_zero m)⟩
    · obtain ⟨j, e1, no⟩ := first_at (ns := r) ((List.mem_cons.mp h).resolve_left (Ne.symm e))
      refine ⟨j + 1, e1, fun m hm => ?_⟩
      cases m with
      | zero => exact fun z => e (Option.some.inj z)
      | succ m => exact no m (Nat.lt_of_succ_lt_succ hm)
theorem inV_ints (p : Int) (ns : List Int) : inV (.int p) (ns.map V.int) = decide (p ∈ ns) := by
  induction ns with
  | nil => rfl
  | cons a r ih =>
    have e : eqV (.int a) (.int p) = decide (a = p) := by
      show (a == p) = _
      by_cases c : a = p <;> simp [c]
    show (eqV (.int a) (.int p) || inV (.int p) (r.map V.int)) = _
    rw [ih, e]
    by_cases c : a = p
    · simp [c]
    · have c2 : p ≠ a := fun z => c z.symm
      simp [c, c2]
noncomputable def dn (ns : List Int) (i : Nat) : List Int := (((keptL ns).take i).map (cyc ns)).flatten
section
variable {ns : List Int} {n : Int} (h : IsMv ns n)
include h
theorem not_done {i : Nat} {s p : Int} (hs : (keptL ns)[i]? = some s) (hp : p ∈ cyc ns s) : p ∉ dn ns i := fun m => by
  obtain ⟨l, hl, pl⟩ := List.mem_flatten.mp m
  obtain ⟨t, ht, rfl⟩ := List.mem_map.mp hl
  obtain ⟨j, hj, ej⟩ := List.mem_iff_getElem.mp ht
  rw [List.getElem_take] at ej
  rw [List.length_take] at hj
  have li := (List.getElem?_eq_some_iff.mp hs)
  have lt := List.pairwise_iff_getElem.mp (kept_sorted h) j i (by omega) li.1 (by omega)
  have e := kept_same h (List.mem_of_getElem? hs) (List.mem_of_mem_take ht) hp pl
  rw [ej, li.2] at lt
  omega
theorem dn_step {i : Nat} {s : Int} (hs : (keptL ns)[i]? = some s) : dn ns (i + 1) = dn ns i ++ cyc ns s := by
  unfold dn
  rw [List.take_add_one, hs, List.map_append, List.flatten_append]
  simp
theorem done_all : leftL ns (dn ns (keptL ns).length) = [] := by
  unfold leftL dn
  rw [List.take_length, List.filter_eq_nil_iff]
  intro x hx
  obtain ⟨s, hs, xs⟩ := kept_all h hx
  have : x ∈ ((keptL ns).map (cyc ns)).flatten := List.mem_flatten.mpr ⟨_, List.mem_map.mpr ⟨s, hs, rfl⟩, xs⟩
  simp [this]
theorem kept_next {i : Nat} {s t : Int} (hs : (keptL ns)[i]? = some s) (ht : (keptL ns)[i + 1]? = some t) : s < t := by
  have a := List.getElem?_eq_some_iff.mp hs
  have b := List.getElem?_eq_some_iff.mp ht
  have lt := List.pairwise_iff_getElem.mp (kept_sorted h) i (i + 1) a.1 b.1 (Nat.lt_succ_self i)
  rwa [a.2, b.2] at lt
theorem in_left {i j : Nat} {s p : Int} (hs : (keptL ns)[i]? = some s) (hp : (cyc ns s)[j]? = some p) : p ∈ leftL ns (dn ns i ++ (cyc ns s).take j) := by
  obtain ⟨is, ms, -⟩ := kept_in h (List.mem_of_getElem? hs)
  have pc := List.mem_of_getElem? hp
  refine List.mem_filter.mpr ⟨(moved_mem h).mpr ⟨cyc_in h is pc, cyc_moved h is ms pc⟩, decide_eq_true fun m => ?_⟩
  rcases List.mem_append.mp m with m | m
  · exact not_done h hs pc m
  · obtain ⟨k, hk, ek⟩ := List.mem_iff_getElem.mp m
    rw [List.getElem_take] at ek
    rw [List.length_take] at hk
    have lp := List.getElem?_eq_some_iff.mp hp
    exact List.pairwise_iff_getElem.mp (cyc_nodup h is) k j (by omega) lp.1 (by omega) (ek.trans lp.2.symm)
theorem left_step {i j : Nat} {s p : Int} (hp : (cyc ns s)[j]? = some p) : (leftL ns (dn ns i ++ (cyc ns s).take j)).erase p = leftL ns (dn ns i ++ (cyc ns s).take (j + 1)) := by
  rw [left_erase, List.take_add_one, hp, List.append_assoc]
  rfl
end
theorem Stq.pure {G H G1 H1 H2 : Hp} (s : Stq G H G1 H1) (g : Same H1 H2) : Stq G H G1 H2 := ⟨s.gg, s.gh.trans g, s.nw, s.hh.trans g⟩
def rRepL : R2 := fun x y H Q => ∃ l k xs, x = .ref l ∧ y = .int k ∧ H l = some (.lst xs) ∧ -(2 ^ 63) ≤ k ∧ k < 2 ^ 63 ∧ xs.length * k.toNat ≤ sizeLine ∧ ∀ p H2, New H p (.lst (List.replicate k.toNat xs).flatten) H2 → Q (.ref p) H2
theorem op_repL {X : Cx} : OpR X (binaryOp .Mult) rRepL := opR_mono op_rep fun x y H Q h => by
  obtain ⟨l, k, xs, e1, e2, h1, z1, z2, z3, q⟩ := h
  exact ⟨l, k, xs, e1, e2, h1, z1, z2, z3, fun p hp => q p _ ⟨hp, rfl⟩⟩
theorem stp_nat {ns : List Int} {n : Int} (h : IsMv ns n) {k : Nat} (hk : (k : Int) < n) : ns[k]? = some (stp ns k) ∧ inR n (stp ns k) := stp_at h (p := (k : Int)) ⟨by omega, hk⟩
theorem renamed_mv {ns bs L : List Int} {n : Int} (n0 : 0 ≤ n) (hn : IsMv ns n) (hb : IsMv bs n) (hl : L.length = n.toNat) (h : ∀ k : Nat, (k : Int) < n → L[(stp bs k).toNat]? = some (stp bs (stp ns k))) : IsMv L n := by
  refine isMv_of n0 hl fun x x0 x1 => ?_
  obtain ⟨y, hy⟩ := List.getElem?_of_mem (hb.mem.mpr ⟨x0, x1⟩)
  have ly := hb.len
  have yl := (List.getElem?_eq_some_iff.mp hy).1
  obtain ⟨k, hk⟩ := List.getElem?_of_mem ((hn.mem (x := (y : Int))).mpr ⟨by omega, by omega⟩)
  have lk := hn.len
  have kl := (List.getElem?_eq_some_iff.mp hk).1
  have ek : stp ns k = y := Option.some.inj ((stp_nat hn (by omega)).1.symm.trans hk)
  have ey : stp bs (y : Int) = x := Option.some.inj ((stp_nat hb (by omega)).1.symm.trans hy)
  have := h k (by omega)
  rw [ek, ey] at this
  exact List.mem_of_getElem? this
theorem sgn_mv {n s g : Int} (h0 : 0 < n) (hg : g = 1 ∨ g = -1) : IsMv ((List.range n.toNat).map fun (k : Nat) => (g * (k : Int) + s) % n) n := by
  refine isMv_of (by omega) (by rw [List.length_map, List.length_range]) fun x x0 x1 => ?_
  have back : ∀ y : Int, ∃ k : Nat, (k : Int) < n ∧ ∃ q : Int, (k : Int) = y + n * q := fun y => by
    have a := Int.emod_nonneg y (show n ≠ 0 by omega)
    have b := Int.emod_lt_of_pos y h0
    refine ⟨(y % n).toNat, by omega, -(y / n), ?_⟩
    have := Int.emod_add_mul_ediv y n
    rw [Int.toNat_of_nonneg a, Int.mul_neg]
    omega
  rcases hg with rfl | rfl
  · obtain ⟨k, kn, q, e⟩ := back (x - s)
    refine List.mem_map.mpr ⟨k, List.mem_range.mpr (by omega), ?_⟩
    rw [Int.one_mul, e, show x - s + n * q + s = x + n * q by omega, Int.add_mul_emod_self_left]
    exact Int.emod_eq_of_lt x0 x1
  · obtain ⟨k, kn, q, e⟩ := back (s - x)
    refine List.mem_map.mpr ⟨k, List.mem_range.mpr (by omega), ?_⟩
    have : (-1) * (k : Int) + s = x + n * (-q) := by rw [e, Int.mul_neg]; omega
    rw [this, Int.add_mul_emod_self_left]
    exact Int.emod_eq_of_lt x0 x1
theorem app_mv {L B : List Int} {t m : Int} (t0 : 0 ≤ t) (m0 : 0 ≤ m) (hl : IsMv L t) (hb : IsMv B m) : IsMv (L ++ B.map (t + ·)) (t + m) := by
  refine isMv_of (by omega) (by rw [List.length_append, List.length_map, hl.len, hb.len]; omega) fun x x0 x1 => ?_
  by_cases c : x < t
  · exact List.mem_append_left _ (hl.mem.mpr ⟨x0, c⟩)
  · exact List.mem_append_right _ (List.mem_map.mpr ⟨x - t, hb.mem.mpr ⟨by omega, by omega⟩, by omega⟩)
end Hd

namespace Hd
open PySem PySem.Spec PyProof.Rows L2
/-! ### the facts of the head, put together -/
section
variable {K : PySem.W.Frag} {h : Heap} {mg : Str → Option Value} {x : Str} {D C CH : Addr}
end
end Hd

namespace Hd
open PySem PySem.Spec PyProof.Rows L2
/-! ### exceptions held as values -/
/-- at a: a new exception of the class at D, its attributes fs at d -/
structure MkX (H H' : Hp) (a d D : Addr) (fs : List (Str × V)) : Prop where
  na : H a = none
  nd : H d = none
  ne : d ≠ a
  at_ : H' a = some (exo a D (some d))
  dc : H' d = some (exd d fs)
  old : ∀ b, b ≠ a → b ≠ d → H' b = H b
theorem MkX.same {H H' : Hp} {a d D : Addr} {fs : List (Str × V)} (m : MkX H H' a d D fs) : Same H H' := fun b u e => by
  rw [m.old b (fun z => by rw [z, m.na] at e; cases e) fun z => by rw [z, m.nd] at e; cases e]
  exact e
section
variable {X : Cx} {x : Str} {D : Addr} {gs : List Str} {e : Expr} {es : List Expr} {ta : TA} {p pos : Pos}
end
/-- what isinstance wants of a class of exceptions -/
structure EcI (K : PySem.W.Frag) (D : Addr) : Prop where
  ga : PySem.W.findIn K (.ref D) "__getattribute__" = some (some (.builtin "BaseException.__getattribute__"))
  gg : PySem.W.findIn K (.ref D) "__getattr__" = some none
  ex : PySem.W.subIn K (.ref D) (.type "BaseException") = some true
  ca : PySem.W.findIn K (.ref D) "__class__" = some (some (.builtin "object.__class__"))
  sg : PySem.W.specialIn K (.builtin "object.__class__") "__get__" = some (some (.builtin "getset_descriptor.__get__"))
  tk : PySem.W.takesIn K (.builtin "object.__class__") = some true
  mo : PySem.W.mroIn K D (.type "object") = some true
  ic : PySem.W.isClsIn K D = true
theorem Ec.i {K : PySem.W.Frag} {mg : Str → Option Value} {x : Str} {D : Addr} (e : Ec K mg x D) : EcI K D := ⟨e.xf.ga, e.xf.gg, e.xf.exC, e.ca, e.sg, e.tk, e.mo, e.ic⟩
/-- an exception of the class at D stands at a -/
def ErV (H : Hp) (a D : Addr) : Prop := (∃ d fs, H a = some (exo a D (some d)) ∧ H d = some (exd d fs)) ∨ H a = some (ExO (.ref D) a)
theorem ErV.up {H H' : Hp} {a D : Addr} (e : ErV H a D) (s : Same H H') : ErV H' a D := e.imp (fun ⟨d, fs, h1, h2⟩ => ⟨d, fs, s _ _ h1, s _ _ h2⟩) (fun h => s _ _ h)
section
variable {X : Cx} {D a d : Addr}
theorem ErV.inst {pins : List (Addr × Obj)} {σ : L2.St} {H : Hp} {s : Shared} (e : ErV H a D) (I : Inv X pins σ H s) : ∃ oe od, PySem.W.InstAt s.heap a oe D od := by
  rcases e with ⟨d, fs, h1, h2⟩ | h1
  · obtain ⟨t1, ho⟩ := exo_at I.hok h1
    obtain ⟨mA, ⟨o, es, ep, hd, hr⟩, -⟩ := exd_at I.hok h2
    exact ⟨_, some o, ho, rfl, rfl, hd⟩
  · have z : ObjOk X.prog X.w H s.heap a (.ext fun h => ∃ (oe : Obj) (vs : Array Value), h.get? a = some oe ∧ Zc (.ref D) none oe ∧ oe.data = .fields vs ∧ vs[1]? = some .none ∧ vs[2]? = some .none ∧ 4 < vs.size) := I.hok a _ h1
    obtain ⟨⟨oe, vs, ho, hz, hd, -⟩, -, -⟩ := z
    refine ⟨oe, none, ho, hz.1, ?_, ?_⟩
    · unfold PySem.W.notCls
      rw [hd] <;> rfl
    · rw [hz.2]
      trivial
end
end Hd

namespace Hd
open PySem PySem.Spec PyProof.Rows L2
/-! ### moves done one after the other -/
def aft (ns ms : List Int) : List Int := ns.map (stp ms)
theorem aft_len (ns ms : List Int) : (aft ns ms).length = ns.length := List.length_map ..
section
variable {ns ms : List Int} {n : Int} (hn : IsMv ns n) (hm : IsMv ms n)
include hn
include hm
end
/-- ms undoes ns -/
def Undo (n : Int) (ns ms : List Int) : Prop := ∀ p, inR n p → stp ns (stp ms p) = p
section
variable {ns ms : List Int} {n : Int} (hn : IsMv ns n) (hm : IsMv ms n) (u : Undo n ns ms)
include hn hm u
end
/-! ### tuple.index of ints -/
end Hd

namespace Hd
open PySem PySem.Spec PyProof.Rows L2
/-! ### sorted of tuples of ints, any number of them -/
def rowD (r : List Int) : PyData := .tuple (r.map PyData.int)
section
variable {prog : Program} {w : World} {A : Around} {E : Value → Shared → Prop} {s : Shared}
end
section
variable {X : Cx}
/-- sorted of a dict with such keys -/
def keyL (r : List Int) : List L2.Key := r.map Sum.inl
theorem keyL_kV (r : List Int) : (keyL r).map kV = r.map V.int := by
  unfold keyL
  rw [List.map_map]
  rfl
theorem keyL_inj {a b : List Int} (e : keyL a = keyL b) : a = b := by
  have := congrArg (List.map kV) e
  rw [keyL_kV, keyL_kV] at this
  have z := congrArg (List.map intV) this
  rwa [map_intV, map_intV] at z
end
end Hd

namespace Hd
open PySem PySem.Spec PyProof.Rows L2
/-! ### rows reached by doing moves in turn -/
inductive Rch (T : List (List Int)) (r : List Int) : List Int → Prop
  | base : Rch T r r
  | step {w m : List Int} : Rch T r w → m ∈ T → Rch T r (aft w m)
def AllMv (n : Int) (T : List (List Int)) : Prop := ∀ m ∈ T, IsMv m n
def RowIn (n : Int) (w : List Int) : Prop := ∀ p ∈ w, inR n p
theorem RowIn.aft {n : Int} {w m : List Int} (h : RowIn n w) (hm : IsMv m n) : RowIn n (aft w m) := fun p hp => by
  obtain ⟨q, hq, rfl⟩ := List.mem_map.mp hp
  exact (stp_at hm (h q hq)).2
theorem IsMv.row {n : Int} {m : List Int} (h : IsMv m n) : RowIn n m := fun p hp => h.mem.mp hp
section
variable {n : Int} {T : List (List Int)} {r : List Int}
theorem Rch.row (hT : AllMv n T) (h : RowIn n r) {w : List Int} (c : Rch T r w) : RowIn n w ∧ w.length = r.length := by
  induction c with
  | base => exact ⟨h, rfl⟩
  | step _ hm ih => exact ⟨ih.1.aft (hT _ hm), by rw [aft_len]; exact ih.2⟩
theorem Rch.mono {T' : List (List Int)} (h : ∀ m ∈ T, m ∈ T') {w : List Int} (c : Rch T r w) : Rch T' r w := by
  induction c with
  | base => exact .base
  | step _ hm ih => exact .step ih (h _ hm)
end
abbrev Mk' (n : Int) (T : List (List Int)) (w : List Int) : Prop := Rch T (rngI n) w
section
variable {n : Int} {T : List (List Int)}
end
/-! ### lists in order -/
theorem lex_irr (xs : List Int) : HT.lexLt xs xs = false := by
  cases e : HT.lexLt xs xs with
  | false => rfl
  | true => rw [NtL.lex_asym xs xs e] at e; cases e
/-- ascending, no two alike -/
def Asc (L : List (List Int)) : Prop := L.Pairwise fun x y => HT.lexLt x y = true
theorem Asc.nodup {L : List (List Int)} (h : Asc L) : L.Nodup := List.Pairwise.imp (fun {a b} (e : HT.lexLt a b = true) z => by rw [z, lex_irr] at e; cases e) h
theorem asc_eq : ∀ {L M : List (List Int)}, Asc L → Asc M → (∀ x, x ∈ L ↔ x ∈ M) → L = M
  | [], [], _, _, _ => rfl
  | [], y :: M, _, _, h => absurd ((h y).mpr List.mem_cons_self) (by simp)
  | x :: L, [], _, _, h => absurd ((h x).mp List.mem_cons_self) (by simp)
  | x :: L, y :: M, hl, hm, h => by
    obtain ⟨l1, l2⟩ := List.pairwise_cons.mp hl
    obtain ⟨m1, m2⟩ := List.pairwise_cons.mp hm
    have e : x = y := by
      rcases List.mem_cons.mp ((h x).mp List.mem_cons_self) with e | hx
      · exact e
      · rcases List.mem_cons.mp ((h y).mpr List.mem_cons_self) with e | hy
        · exact e.symm
        · have a := m1 x hx
          have b := l1 y hy
          rw [NtL.lex_asym _ _ a] at b
          cases b
    subst e
    have nx : x ∉ L := fun z => by have := l1 x z; rw [lex_irr] at this; cases this
    have ny : x ∉ M := fun z => by have := m1 x z; rw [lex_irr] at this; cases this
    rw [asc_eq l2 m2 fun z => ?_]
    constructor
    · intro hz
      rcases List.mem_cons.mp ((h z).mp (List.mem_cons_of_mem _ hz)) with e | k
      · rw [e] at hz; exact absurd hz nx
      · exact k
    · intro hz
      rcases List.mem_cons.mp ((h z).mpr (List.mem_cons_of_mem _ hz)) with e | k
      · rw [e] at hz; exact absurd hz ny
      · exact k
/-- L: all that is made, in order -/
structure Grp (n : Int) (T L : List (List Int)) : Prop where
  asc : Asc L
  mem : ∀ w, w ∈ L ↔ Mk' n T w
theorem Grp.uniq {n : Int} {T L M : List (List Int)} (a : Grp n T L) (b : Grp n T M) : L = M := asc_eq a.asc b.asc fun x => (a.mem x).trans (b.mem x).symm
theorem Grp.still {n : Int} {T L : List (List Int)} (g : Grp n T L) : rngI n ∈ L := (g.mem _).mpr .base
theorem Grp.none {n : Int} : Grp n [] [rngI n] := ⟨List.pairwise_singleton _ _, fun w => ⟨fun h => by rw [List.mem_singleton.mp h]; exact .base, fun h => by
  cases h with
  | base => exact List.mem_singleton.mpr rfl
  | step _ hm => cases hm⟩⟩
end Hd

namespace Hd
open PySem PySem.Spec PyProof.Rows L2
/-! ### a walk that is one of two -/
/-! ### defs with defaults, all arguments given -/
def DefD (K : PySem.W.Frag) (mg : Str → Option Value) (x : Str) (st : Stmt) (ps : List Str) : Prop :=
  ∃ f fd dvs, FunD K x x (defArgs st) (defBody st) (defScope st) dvs [] f fd ∧ mg x = some (.ref f) ∧ Binds K fd ps []
section
variable {P : Program} {w : World} {K : PySem.W.Frag} {mg : Str → Option Value} {base : Heap} {x : Str} {st : Stmt} {ps N : List Str} {k : Nat} {sp : Sp}
theorem DefD.calX (D : DefD K mg x st ps) (S : FnScope N ps (defScope st)) (len : ∀ vs H Q E, sp vs H Q E → vs.length = ps.length)
    (hbody : ∀ (f : Addr) (cdv : Value) (A : Around) (outer : List Env) (s : Shared) (H : Hp) (vs : List V) (Q : VK) (E : XK), Room k (A.deeper (envOfC x (defScope st) s.heap.objs.size f cdv)) → sp vs H Q E →
      ∃ t, PSs (cxOf (L2N.CX P w) P w K mg base N x (defScope st) f cdv A outer s H E) (defBody st) t ∧ t { nx := fun _ H' => Q .non H', rt := Q } (start N vs) H) : CalX P w K mg base x (k + 1) ps sp := by
  obtain ⟨f, fd, dvs, F, g, b⟩ := D
  exact ⟨f, fd, F.ok S len fun cdv A outer s H vs Q E hr h => hbody f cdv A outer s H vs Q E hr h, g, F.kp, b⟩
end
/-! ### methods that may raise -/
theorem Fun.D {K : PySem.W.Frag} {x qual : Str} {st : Stmt} {f : Addr} {fd : FuncData} (F : Fun K x qual st f fd) : FunD K x qual (defArgs st) (defBody st) (defScope st) [] [] f fd := by
  obtain ⟨oc, od, kV, doc, pm, an, cdv, ct, osl, rfl, lk, hcd⟩ := F.ex
  exact ⟨⟨oc, od, .none, kV, doc, pm, an, cdv, ct, osl, rfl, lk, hcd, .inl ⟨rfl, rfl⟩, .inl rfl⟩, F.kp⟩
section
variable {P : Program} {w : World} {K : PySem.W.Frag} {mg : Str → Option Value} {base : Heap} {C : Addr} {m qual : Str} {st : Stmt} {ps N : List Str} {k : Nat} {sp : Sp}
end
structure WCls (K : PySem.W.Frag) (mg : Str → Option Value) (x : Str) (C : Addr) : Prop where
  cl : Cls K C
  gC : mg x = some (.ref C)
  mks : PySem.W.makesIn K C = true
  kp : PySem.W.keepIn K (.ref C) = true
  ca : PySem.W.findIn K (.ref C) "__class__" = some (some (.builtin "object.__class__"))
  sg : PySem.W.specialIn K (.builtin "object.__class__") "__get__" = some (some (.builtin "getset_descriptor.__get__"))
  tk : PySem.W.takesIn K (.builtin "object.__class__") = some true
  mo : PySem.W.mroIn K C (.type "object") = some true
section
variable {X : Cx} {C : Addr} {m x : Str} {k : Nat} {ps : List Str} {sp : Sp} {e : Expr} {es : List Expr} {te : TE} {t : TA} {p pos : Pos}
theorem WCls.ty (c : WCls X.K X.mg x C) {H : Hp} {a dx : Addr} {fs : List (Str × V)} (h : H a = some (.ins C dx fs)) : TyX X.K H (.ref a) (.ref C) := .base (.ins h c.cl c.ca c.sg c.tk c.mo)
end
/-! ### {k: v}, k a tuple -/
end Hd

namespace Hd
open PySem PySem.Spec PyProof.Rows L2
/-! ### rows reached, layer by layer, each with its word -/
abbrev WL := List (List Int × List Int)
def lookW (W : WL) (r : List Int) : List Int := ((W.find? fun p => decide (p.1 = r)).map (·.2)).getD []
def put1 (r wd m : List Int) (i : Int) (W : WL) : WL := if aft r m ∈ W.map (·.1) then W else W ++ [(aft r m, wd ++ [i])]
def nl1 (T : List (List Int)) (r : List Int) (W : WL) : Nat → WL
  | 0 => W
  | k + 1 => match T[k]? with
    | some m => put1 r (lookW W r) m (k : Int) (nl1 T r W k)
    | none => nl1 T r W k
def nl (T R : List (List Int)) (W : WL) : Nat → WL
  | 0 => W
  | i + 1 => match R[i]? with
    | some r => nl1 T r (nl T R W i) T.length
    | none => nl T R W i
/-! ### all layers -/
structure LayOk (T : List (List Int)) (r : List Int) (W : WL) (L : List (List Int)) (k : Nat) : Prop where
  nd : (W.map (·.1)).Nodup
  rch : ∀ x ∈ W.map (·.1), Rch T r x
  base : r ∈ W.map (·.1)
  sub : ∀ x ∈ L, x ∈ W.map (·.1)
  clo : ∀ x ∈ W.map (·.1), x ∉ L → ∀ m ∈ T, aft x m ∈ W.map (·.1)
  wl : ∀ p ∈ W, p.2.length ≤ k
  kl : k ≤ W.length
  kL : L ≠ [] → k + 1 ≤ W.length
  lL : L.length ≤ W.length
/-! ### the dict that holds them -/
abbrev Wds (G : Hp) : List (List L2.Key × V) → WL → Prop := Paired fun p q => p.1 = keyL q.1 ∧ Da G p.2 (rowD q.2)
theorem Wds.up {G G' : Hp} (g : Same G G') {kvs : List (List L2.Key × V)} {W : WL} (h : Wds G kvs W) : Wds G' kvs W := by
  induction h with
  | nil => exact .nil
  | cons a t ih => exact .cons ⟨a.1, a.2.up g⟩ ih
theorem Wds.keys {G : Hp} {kvs : List (List L2.Key × V)} {W : WL} (h : Wds G kvs W) : kvs.map (·.1) = (W.map (·.1)).map keyL := by
  induction h with
  | nil => rfl
  | cons a t ih => rw [List.map_cons, List.map_cons, List.map_cons, a.1, ih]
theorem Wds.none {G : Hp} {kvs : List (List L2.Key × V)} {W : WL} (h : Wds G kvs W) {r : List Int} (n : r ∉ W.map (·.1)) : valV kvs (keyL r) = Option.none := by
  induction h with
  | nil => rfl
  | @cons p q ps qs a t ih =>
    rw [List.map_cons, List.mem_cons, not_or] at n
    rw [valV_neg (fun e => n.1 (keyL_inj (e.symm.trans a.1))), ih n.2]
theorem Wds.some {G : Hp} {kvs : List (List L2.Key × V)} {W : WL} (h : Wds G kvs W) {r : List Int} (n : r ∈ W.map (·.1)) : ∃ v, valV kvs (keyL r) = Option.some v ∧ Da G v (rowD (lookW W r)) := by
  induction h with
  | nil => cases n
  | @cons p q ps qs a t ih =>
    by_cases e : q.1 = r
    · refine ⟨p.2, valV_pos (by rw [a.1, e]), ?_⟩
      have : lookW (q :: qs) r = q.2 := by
        unfold lookW
        rw [List.find?_cons_of_pos (by exact decide_eq_true e)]
        rfl
      rw [this]
      exact a.2
    · rw [List.map_cons, List.mem_cons] at n
      obtain ⟨v, h1, h2⟩ := ih (n.resolve_left fun z => e z.symm)
      refine ⟨v, by rw [valV_neg (fun z => e (keyL_inj (a.1.symm.trans z))), h1], ?_⟩
      have : lookW (q :: qs) r = lookW qs r := by
        unfold lookW
        rw [List.find?_cons_of_neg (by exact fun z => e (of_decide_eq_true z))]
      rw [this]
      exact h2
theorem Wds.app {G : Hp} {kvs : List (List L2.Key × V)} {W : WL} (h : Wds G kvs W) {r wd : List Int} {v : V} (hv : Da G v (rowD wd)) : Wds G (kvs ++ [(keyL r, v)]) (W ++ [(r, wd)]) := by
  induction h with
  | nil => exact .cons ⟨rfl, hv⟩ .nil
  | cons a t ih => exact .cons a ih
theorem Stq.stp {S : Addr} {G H G1 H1 G2 H2 : Hp} (a : Stq G H G1 H1) (b : Stp S G1 H1 G2 H2) (f : H S = none) : Stq G H G2 H2 :=
  ⟨fun c u z => b.gg _ _ (a.gg _ _ z), b.gh, fun c o h t z => b.nw c o (a.hh c o h) t (a.nw c o h t z), fun c u z => b.hh c u (fun e => by rw [e, f] at z; cases z) (a.hh c u z)⟩
/-! ### all tuples that stand may be known -/
/-! ### what is a move on n points -/
/-! ### lists of rows compared -/
/-! ### needless moves -/
/-! ### rows reached, one queue -/
structure QOk (T : List (List Int)) (r : List Int) (Qs : List (List Int)) (at_ j : Nat) : Prop where
  nd : Qs.Nodup
  rch : ∀ x ∈ Qs, Rch T r x
  base : r ∈ Qs
  done : ∀ (i : Nat) (x m : List Int), i < at_ → Qs[i]? = some x → m ∈ T → aft x m ∈ Qs
  cur : ∀ (x : List Int) (k : Nat) (m : List Int), Qs[at_]? = some x → k < j → T[k]? = some m → aft x m ∈ Qs
theorem QOk.same {T : List (List Int)} {r : List Int} {Qs : List (List Int)} {at_ j : Nat} {x m : List Int} (h : QOk T r Qs at_ j) (hx : Qs[at_]? = some x) (hm : T[j]? = some m) (c : aft x m ∈ Qs) : QOk T r Qs at_ (j + 1) :=
  ⟨h.nd, h.rch, h.base, h.done, fun y k m' hy hk hm' => by
    rcases Nat.lt_or_ge k j with z | z
    · exact h.cur y k m' hy z hm'
    · have : k = j := by omega
      subst this
      rw [hx] at hy
      rw [hm] at hm'
      cases hy
      cases hm'
      exact c⟩
theorem QOk.app {T : List (List Int)} {r : List Int} {Qs : List (List Int)} {at_ j : Nat} {x m : List Int} (h : QOk T r Qs at_ j) (hx : Qs[at_]? = some x) (hm : T[j]? = some m) (c : aft x m ∉ Qs) : QOk T r (Qs ++ [aft x m]) at_ (j + 1) := by
  have lt := (List.getElem?_eq_some_iff.mp hx).1
  have old : ∀ {i : Nat} {y : List Int}, i ≤ at_ → (Qs ++ [aft x m])[i]? = some y → Qs[i]? = some y := fun {i y} hi e => by
    rwa [List.getElem?_append_left (by omega)] at e
  refine ⟨List.nodup_append.mpr ⟨h.nd, List.pairwise_singleton _ _, fun a ha b hb e => ?_⟩, fun y hy => ?_, List.mem_append_left _ h.base, fun i y m' hi hy hm' => List.mem_append_left _ (h.done i y m' hi (old (by omega) hy) hm'), fun y k m' hy hk hm' => ?_⟩
  · rw [List.mem_singleton.mp hb] at e
    rw [e] at ha
    exact c ha
  · rcases List.mem_append.mp hy with z | z
    · exact h.rch y z
    · rw [List.mem_singleton.mp z]
      exact .step (h.rch x (List.mem_of_getElem? hx)) (List.mem_of_getElem? hm)
  · have hy := old (Nat.le_refl _) hy
    rcases Nat.lt_or_ge k j with z | z
    · exact List.mem_append_left _ (h.cur y k m' hy z hm')
    · have : k = j := by omega
      subst this
      rw [hx] at hy
      rw [hm] at hm'
      cases hy
      cases hm'
      exact List.mem_append_right _ (List.mem_singleton.mpr rfl)
theorem QOk.next {T : List (List Int)} {r : List Int} {Qs : List (List Int)} {at_ : Nat} (h : QOk T r Qs at_ T.length) : QOk T r Qs (at_ + 1) 0 :=
  ⟨h.nd, h.rch, h.base, fun i x m hi hx hm => by
    rcases Nat.lt_or_ge i at_ with z | z
    · exact h.done i x m z hx hm
    · have : i = at_ := by omega
      subst this
      obtain ⟨k, hk⟩ := List.getElem?_of_mem hm
      exact h.cur x k m hx (List.getElem?_eq_some_iff.mp hk).1 hk, fun x k m _ hk => absurd hk (Nat.not_lt_zero k)⟩
theorem QOk.start (T : List (List Int)) (r : List Int) : QOk T r [r] 0 0 := ⟨List.pairwise_singleton _ _, fun x hx => by rw [List.mem_singleton.mp hx]; exact .base, List.mem_singleton.mpr rfl, fun i _ _ hi => absurd hi (Nat.not_lt_zero i), fun _ k _ _ hk => absurd hk (Nat.not_lt_zero k)⟩
end Hd

namespace Hd
open PySem PySem.Spec PyProof.Rows L2
/-! ### what the top leaves, by facts -/
def obsW (fa : List He.Fa) (fn : List He5.DefA) (ex : List (PySem.W.Frag → Bool)) (K : PySem.W.Frag) : He.AlD := (((fa.all fun f => f.ok K) && fn.all fun d => d.ok K) && ex.all fun e => e K, fn.map fun d => He5.fnA K (d.at_ K))
def SaysW (fa : List He.Fa) (fn : List He5.DefA) (ex : List (PySem.W.Frag → Bool)) (K : PySem.W.Frag) : Prop := obsW fa fn ex K = He5.valA fn
def kidsW (g : Addr → Option Obj) (a : Addr) : List Addr := match g a with
  | some o => He.refsO o
  | none => []
/-- what is told of: the module's names; their code and defaults; what their classes hold -/
def asW (g : Addr → Option Obj) : List Addr := mainGlobals :: (kidsW g mainGlobals).flatMap fun a => match g a with
  | some ⟨_, _, .cls cd, _⟩ => a :: cd.ns :: (kidsW g cd.ns).flatMap fun b => b :: (kidsW g b).flatMap fun c => c :: (kidsW g c).flatMap fun d => d :: kidsW g d
  | some ⟨_, _, .func _, _⟩ => a :: (kidsW g a).flatMap fun c => c :: kidsW g c
  | _ => [a]
def obsWG (fa : List He.Fa) (fn : List He5.DefA) (ex : List (PySem.W.Frag → Bool)) (g : Addr → Option Obj) : He.AlD := obsW fa fn ex (He.frG g (asW g))
def hookW (fa : List He.Fa) (fn : List He5.DefA) (ex : List (PySem.W.Frag → Bool)) : PySem.W.Hook where
  α := He.AlD
  obs := fun s => obsWG fa fn ex s.heap.get?
  val := fun _ => He5.valA fn
  says := fun _ h => ∃ K : PySem.W.Frag, K.In h ∧ SaysW fa fn ex K
  of := fun _ _ e => ⟨_, He.frG_in, e⟩
  keeps := fun _ _ _ ⟨K, hK, c⟩ k => ⟨K, PySem.W.Frag.In.keeps hK k, c⟩
theorem obsWG_eq {fa : List He.Fa} {fn : List He5.DefA} {ex : List (PySem.W.Frag → Bool)} {g : Addr → Option Obj} {s : Shared} (h : ∀ a, g a = s.heap.get? a) : obsWG fa fn ex g = (hookW fa fn ex).obs s := by
  have e : g = s.heap.get? := funext h
  rw [e] <;> rfl
section
variable {fa : List He.Fa} {fn : List He5.DefA} {ex : List (PySem.W.Frag → Bool)} {K : PySem.W.Frag}
theorem SaysW.bools (c : SaysW fa fn ex K) : ((fa.all fun f => f.ok K) = true ∧ (fn.all fun d => d.ok K) = true) ∧ (ex.all fun e => e K) = true := by
  have := congrArg (fun z : He.AlD => z.1) c
  have h : (((fa.all fun f => f.ok K) && fn.all fun d => d.ok K) && ex.all fun e => e K) = true := this
  rw [Bool.and_eq_true, Bool.and_eq_true] at h
  exact h
theorem SaysW.fact (c : SaysW fa fn ex K) (i : Nat) {f : He.Fa} (h : fa[i]? = some f := by rfl) : f.ok K = true := List.all_eq_true.mp c.bools.1.1 f (List.mem_of_getElem? h)
theorem SaysW.more (c : SaysW fa fn ex K) (i : Nat) {f : PySem.W.Frag → Bool} (h : ex[i]? = some f := by rfl) : f K = true := List.all_eq_true.mp c.bools.2 f (List.mem_of_getElem? h)
theorem SaysW.def_ (c : SaysW fa fn ex K) (i : Nat) {d : He5.DefA} (h : fn[i]? = some d := by rfl) : ∃ fd, FunD K d.name d.qual d.params d.body d.scope (d.dvs K) (d.kws K) (d.at_ K) fd := by
  have e : fn.map (fun d => He5.fnA K (d.at_ K)) = fn.map He5.DefA.val := congrArg (fun z : He.AlD => z.2) c
  have e2 : (fn.map fun d => He5.fnA K (d.at_ K))[i]? = (fn.map He5.DefA.val)[i]? := by rw [e]
  rw [List.getElem?_map, List.getElem?_map, h] at e2
  exact He5.DefA.funD (Option.some.inj e2) (List.all_eq_true.mp c.bools.1.2 d (List.mem_of_getElem? h))
end
/-- defs -/
abbrev dFn (x : Str) (st : Stmt) : He5.DefA := ⟨fun K => He.ga K x, x, x, defArgs st, defBody st, defScope st, [], []⟩
abbrev dMe (x m q : Str) (st : Stmt) : He5.DefA := ⟨fun K => He.ma K (He.ga K x) m, m, q, defArgs st, defBody st, defScope st, [], []⟩
section
variable {K : PySem.W.Frag} {h : Heap} {mg : Str → Option Value} {x m q : Str} {st : Stmt} {ps : List Str}
theorem def_w (X : K.In h) (G : h.Ns mainGlobals mg) (F : ∃ fd, FunD K x x (defArgs st) (defBody st) (defScope st) [] [] (He.ga K x) fd) (g : (He.Fa.glo x).ok K = true)
    (hb : ∀ (kV doc pm : Value) (an : Option Addr) (cdv ct : Value) (us : List Value), us.length = ps.length → bindArgs (PySem.W.fnOf x x (defArgs st) (defBody st) (defScope st) .none kV doc pm an cdv ct) ⟨us, []⟩ = pure (ps.zip us)) : Def K mg x st ps := by
  obtain ⟨fd, F⟩ := F
  exact ⟨_, fd, He5.fun_of F, He.glo_ok X G g, FunD.bindsN F hb⟩
theorem bindsM (hb : ∀ (kV doc pm : Value) (an : Option Addr) (cdv ct : Value) (us : List Value), us.length = ps.length → bindArgs (PySem.W.fnOf m q (defArgs st) (defBody st) (defScope st) .none kV doc pm an cdv ct) ⟨us, []⟩ = pure (ps.zip us)) {f : Addr} {fd : FuncData}
    (F : FunD K m q (defArgs st) (defBody st) (defScope st) [] [] f fd) : Binds K fd ps [] := FunD.bindsN F hb
/-- an own exception class -/
def exShape (C : Addr) (K : PySem.W.Frag) : Bool := match K.lookup C with
  | some ⟨.type "type", _, .cls cd, sl⟩ => (match cd.mro, sl.toList with
    | .ref C' :: bm, [_, _, _, _, some (.builtin n), _] => C' == C && n == "ValueError.__new__" && !cd.hasDel && cd.hasDict && PySem.HandSPX.refsVE bm
    | _, _ => false)
  | _ => false
theorem exShape_ok {C : Addr} (g : exShape C K = true) : ∃ nm q N bs bm sn sub ab col dd k0 k1 k2 k3 k5, K.lookup C = some (excClassObj nm q C N bs bm true sn sub ab col dd k0 k1 k2 k3 k5 "ValueError.__new__") ∧ PySem.HandSPX.refsVE bm = true := by
  unfold exShape at g
  split at g
  · rename_i dd cd sl ho
    split at g
    · rename_i C' bm k0 k1 k2 k3 n k5 hm hs
      simp only [Bool.and_eq_true, beq_iff_eq, Bool.not_eq_true'] at g
      obtain ⟨⟨⟨⟨rfl, rfl⟩, hdel⟩, hdc⟩, ht⟩ := g
      obtain ⟨nm, bs, mro, ns, qn, hd, sn, sub, ab, col, del⟩ := cd
      dsimp only at hm hdel hdc
      subst hm hdel hdc
      have hsl : sl = #[k0, k1, k2, k3, some (.builtin "ValueError.__new__"), k5] := by
        obtain ⟨l⟩ := sl
        simp only at hs
        rw [hs]
      subst hsl
      exact ⟨nm, qn, ns, bs, bm, sn, sub, ab, col, dd, k0, k1, k2, k3, k5, ho, ht⟩
    · cases g
  · cases g
def ecB (x : Str) (K : PySem.W.Frag) : Bool := exShape (He.ga K x) K && (He.eqO (PySem.W.findIn K (.ref (He.ga K x)) "__setattr__") (some (some (.builtin "object.__setattr__"))) && (decide (PySem.W.subIn K (.ref (He.ga K x)) (.type "BaseException") = some true) &&
  (decide (PySem.W.typeIn K (.ref (He.ga K x)) = some (.type "type")) && (PySem.W.keepIn K (.ref (He.ga K x)) && (xfB K (He.ga K x) && (He.eqO (PySem.W.findIn K (.ref (He.ga K x)) "__class__") (some (some (.builtin "object.__class__"))) &&
  (He.eqO (PySem.W.specialIn K (.builtin "object.__class__") "__get__") (some (some (.builtin "getset_descriptor.__get__"))) && (decide (PySem.W.takesIn K (.builtin "object.__class__") = some true) && (decide (PySem.W.mroIn K (He.ga K x) (.type "object") = some true) && PySem.W.isClsIn K (He.ga K x))))))))))
theorem ec_w (X : K.In h) (G : h.Ns mainGlobals mg) (g : (He.Fa.glo x).ok K = true) (b : ecB x K = true) : Ec K mg x (He.ga K x) := by
  obtain ⟨b1, b⟩ := He.ba b
  obtain ⟨b2, b⟩ := He.ba b
  obtain ⟨b3, b⟩ := He.ba b
  obtain ⟨b4, b⟩ := He.ba b
  obtain ⟨b5, b⟩ := He.ba b
  obtain ⟨b6, b⟩ := He.ba b
  obtain ⟨b7, b⟩ := He.ba b
  obtain ⟨b8, b⟩ := He.ba b
  obtain ⟨b9, b⟩ := He.ba b
  obtain ⟨b10, b11⟩ := He.ba b
  exact { gC := He.glo_ok X G g, ox := ⟨exShape_ok b1, He.eqO_ok b2, of_decide_eq_true b3, of_decide_eq_true b4, b5⟩, xf := xfB_ok b6, ca := He.eqO_ok b7, sg := He.eqO_ok b8, tk := of_decide_eq_true b9, mo := of_decide_eq_true b10, ic := b11 }
/-- its __init__ is found, its arguments are no names of the class -/
def xiB (x : Str) (gs : List Str) (K : PySem.W.Frag) : Bool := He.eqO (PySem.W.findIn K (.ref (He.ga K x)) "__init__") (some (some (.ref (He.ma K (He.ga K x) "__init__")))) && (decide (PySem.W.typeIn K (.ref (He.ma K (He.ga K x) "__init__")) = some (.type "function")) &&
  gs.all fun f => He.eqO (PySem.W.findIn K (.ref (He.ga K x)) f) (some none))
theorem xm_w {P : Program} {w : World} {base : Heap} {gs : List Str} (ec : Ec K mg x (He.ga K x)) (b : xiB x gs K = true) {fd : FuncData} (F : FnOk P w K mg base CX0 1 (He.ma K (He.ga K x) "__init__") fd ("self" :: gs) (spIni (He.ga K x) gs))
    (bi : Binds K fd ("self" :: gs) []) : Xm P w K mg base x (He.ga K x) gs := by
  obtain ⟨b1, b⟩ := He.ba b
  obtain ⟨b2, b3⟩ := He.ba b
  exact ⟨ec, fun f hf => He.eqO_ok (List.all_eq_true.mp b3 f hf), _, fd, He.eqO_ok b1, of_decide_eq_true b2, F, bi⟩
theorem xi_no {gs : List Str} (b : xiB x gs K = true) {f : Str} (hf : f ∈ gs) : PySem.W.findIn K (.ref (He.ga K x)) f = some none := by
  obtain ⟨b1, b⟩ := He.ba b
  obtain ⟨b2, b3⟩ := He.ba b
  exact He.eqO_ok (List.all_eq_true.mp b3 f hf)
/-- isinstance of an instance of x: the class c -/
def isB (x c : Str) (b : Bool) (K : PySem.W.Frag) : Bool := decide (PySem.W.kitOne K (.ref (He.ga K x)) (.ref (He.ga K c)) = some b)
theorem is_w {c : Str} {b : Bool} (X : K.In h) (G : h.Ns mainGlobals mg) (g : (He.Fa.glo c).ok K = true) (e : isB x c b K = true) : Isx K mg (He.ga K x) c b := ⟨_, He.glo_ok X G g, of_decide_eq_true e⟩
/-- an except clause's class takes it -/
def hnB (x c : Str) (b : Bool) (K : PySem.W.Frag) : Bool := decide (PySem.W.exmOne K (.ref (He.ga K x)) (.ref (He.ga K c)) = some b)
theorem hn_w {c : Str} {b : Bool} (X : K.In h) (G : h.Ns mainGlobals mg) (g : (He.Fa.glo c).ok K = true) (e : hnB x c b K = true) : Hnd K mg c (He.ga K x) b := ⟨_, He.glo_ok X G g, of_decide_eq_true e⟩
def ivB (x : Str) (K : PySem.W.Frag) : Bool := decide (PySem.W.kitOne K (.ref (He.ga K x)) (.type "ValueError") = some true)
end
end Hd

namespace Hd
open PySem PySem.Spec PyProof.Rows L2
/-! ### a def whose promise may speak of the size of the heap at its call -/
section
variable {P : Program} {w : World} {K : PySem.W.Frag} {mg : Str → Option Value} {base : Heap}
structure FnS (P : Program) (w : World) (K : PySem.W.Frag) (mg : Str → Option Value) (base : Heap) (k : Nat) (f : Addr) (fd : FuncData) (ps : List Str) (sp : Nat → Sp) : Prop where
  leS : ∀ n vs H Q E, sp n vs H Q E → vs.length = ps.length
  go : ∀ (A : Around) (st : List Env) (s : Shared) (H : Hp) (args : Args) (us : List Value) (vs : List V) (Q : VK) (E : XK), Room k A → Env0 P w K mg base A st s H → BindsTo s fd args (ps.zip us) → Vals vs us → sp s.heap.objs.size vs H Q E → codeAny (model P w) A (.call (.ref f) args) (CR CX0 st P w H s Q E) s
end
/-! ### for x in o, its own __iter__ gives a list's iterator -/
section
variable {X : Cx} {C : Addr} {k : Nat} {ps : List Str}
end
end Hd

namespace Hd
open PySem PySem.Spec PyProof.Rows L2
/-! ### t >= u -/
end Hd

namespace Hd
open PySem PySem.Spec PyProof.Rows L2
/-! ### a list, a tuple, or a tuple that is a constant of the module -/
abbrev KTup (K : PySem.W.Frag) (a : Addr) (xs : List V) : Prop := ∃ (o : Obj) (its : Array Value) (n : Nat), K.lookup a = some o ∧ o.cls = .type "tuple" ∧ o.data = .seq its n ∧ its.size ≤ sizeLine ∧ Vals xs its.toList
abbrev HasS (K : PySem.W.Frag) (H : Hp) (a : Addr) (xs : List V) : Prop := HasL H a xs ∨ KTup K a xs
theorem HasS.len {K : PySem.W.Frag} {H : Hp} {a : Addr} {xs : List V} (h : HasS K H a xs) : SqL K H a xs ∨ SqT K H a xs := h.elim (fun h => h.len) fun h => .inr (.inr h)
theorem HasS.lenV {K : PySem.W.Frag} {H : Hp} {a : Addr} {xs : List V} (h : HasS K H a xs) : LenV K (.ref a) H xs.length := h.len.imp (fun z => ⟨_, z, rfl⟩) fun z => ⟨_, z, rfl⟩
theorem HasS.up {K : PySem.W.Frag} {H H' : Hp} (g : Same H H') {a : Addr} {xs : List V} (h : HasS K H a xs) : HasS K H' a xs := h.imp (fun h => h.imp (g _ _) (g _ _)) id
end Hd

namespace Hd
open PySem PySem.Spec PyProof.Rows L2
/-! ### defs whose last parameter has an empty tuple as its default, called with and without it, and by its name -/
structure Bd (K : PySem.W.Frag) (fd : FuncData) (ps : List Str) (E : Addr) (kn : Str) : Prop where
  all : Binds K fd ps []
  dfl : Binds K fd ps [.ref E]
  kw : KBn K fd ps (ps.length - 1) [kn] (fun us ws => us ++ ws) (fun vs zs => vs ++ zs)
  emp : KTup K E []
def CalB (P : Program) (w : World) (K : PySem.W.Frag) (mg : Str → Option Value) (base : Heap) (x : Str) (k : Nat) (ps : List Str) (sp : Sp) (E : Addr) (kn : Str) : Prop :=
  ∃ f fd, FnOk P w K mg base (L2N.CX P w) k f fd ps sp ∧ mg x = some (.ref f) ∧ PySem.W.keepIn K (.ref f) = true ∧ Bd K fd ps E kn
def CalMB (P : Program) (w : World) (K : PySem.W.Frag) (mg : Str → Option Value) (base : Heap) (C : Addr) (m : Str) (k : Nat) (ps : List Str) (sp : Sp) (E : Addr) : Prop :=
  ∃ f fd, FnOk P w K mg base (L2N.CX P w) k f fd ps sp ∧ PySem.W.findIn K (.ref C) m = some (some (.ref f)) ∧ PySem.W.isFn K (.ref f) = true ∧ PySem.W.keepIn K (.ref f) = true ∧ Binds K fd ps [] ∧ Binds K fd ps [.ref E] ∧ KTup K E []
section
variable {P : Program} {w : World} {K : PySem.W.Frag} {mg : Str → Option Value} {base : Heap} {x m qual kn : Str} {st : Stmt} {ps N : List Str} {k : Nat} {sp : Sp} {C E : Addr}
theorem CalB.emp (c : CalB P w K mg base x k ps sp E kn) : KTup K E [] := by
  obtain ⟨f, fd, F, g, kp, b⟩ := c
  exact b.emp
theorem CalMB.emp (c : CalMB P w K mg base C m k ps sp E) : KTup K E [] := by
  obtain ⟨f, fd, F, g, i, kp, b, b2, e⟩ := c
  exact e
end
section
variable {X : Cx} {x kn : Str} {k : Nat} {ps : List Str} {sp : Sp} {C E : Addr} {e : Expr} {es : List Expr} {kws : List Keyword} {t tk : TA} {p pos : Pos}
end
/-! ### where they come from -/
section
variable {K : PySem.W.Frag} {h : Heap} {mg : Str → Option Value} {x m q kn : Str} {st : Stmt} {ps : List Str} {E f : Addr} {fd : FuncData}
end
section
variable {K : PySem.W.Frag} {h : Heap} {mg : Str → Option Value} {x m q kn : Str} {st : Stmt} {ps : List Str} {E : Addr}
end
end Hd

namespace Hd
open PySem PySem.Spec PyProof.Rows L2
def topS (i : Nat) : Stmt := PySem.Challenge.pw_heldorder_k03_held_and_cycles.main.body.getD i (.Pass ⟨0, 0, 0, 0⟩)
abbrev s_is_number : Stmt := topS 36
theorem sc_is_number : FnScope ["value", "low", "high"] ["value", "low", "high"] (defScope s_is_number) := ⟨rfl, rfl, rfl, by decide +kernel, rfl, by decide +kernel, by decide +kernel⟩
abbrev s_is_point : Stmt := topS 37
theorem sc_is_point : FnScope ["points", "value"] ["points", "value"] (defScope s_is_point) := ⟨rfl, rfl, rfl, by decide +kernel, rfl, by decide +kernel, by decide +kernel⟩
abbrev s_is_move_on : Stmt := topS 38
theorem sc_is_move_on : FnScope ["points", "value", "image"] ["points", "value"] (defScope s_is_move_on) := ⟨rfl, rfl, rfl, by decide +kernel, rfl, by decide +kernel, by decide +kernel⟩
abbrev s_is_move : Stmt := topS 40
theorem sc_is_move : FnScope ["value"] ["value"] (defScope s_is_move) := ⟨rfl, rfl, rfl, by decide +kernel, rfl, by decide +kernel, by decide +kernel⟩
abbrev s_check_move : Stmt := topS 41
theorem sc_check_move : FnScope ["value", "place"] ["value", "place"] (defScope s_check_move) := ⟨rfl, rfl, rfl, by decide +kernel, rfl, by decide +kernel, by decide +kernel⟩
abbrev s_held_points : Stmt := topS 42
theorem sc_held_points : FnScope ["move", "point", "image"] ["move"] (defScope s_held_points) := ⟨rfl, rfl, rfl, by decide +kernel, rfl, by decide +kernel, by decide +kernel⟩
abbrev s_moved_points : Stmt := topS 43
theorem sc_moved_points : FnScope ["move", "point", "image"] ["move"] (defScope s_moved_points) := ⟨rfl, rfl, rfl, by decide +kernel, rfl, by decide +kernel, by decide +kernel⟩
abbrev s_cycles : Stmt := topS 44
theorem sc_cycles : FnScope ["move", "rows", "start", "row"] ["move"] (defScope s_cycles) := ⟨rfl, rfl, rfl, by decide +kernel, rfl, by decide +kernel, by decide +kernel⟩
abbrev s_cycle_from : Stmt := topS 45
theorem sc_cycle_from : FnScope ["move", "start", "row"] ["move", "start"] (defScope s_cycle_from) := ⟨rfl, rfl, rfl, by decide +kernel, rfl, by decide +kernel, by decide +kernel⟩
abbrev s_law_store : Stmt := topS 47
theorem sc_law_store : FnScope ["script", "cell"] ["script"] (defScope s_law_store) := ⟨rfl, rfl, rfl, by decide +kernel, rfl, by decide +kernel, by decide +kernel⟩
abbrev s_law_mixed : Stmt := topS 48
theorem sc_law_mixed : FnScope ["seed", "turn", "first", "second"] ["seed", "turn"] (defScope s_law_mixed) := ⟨rfl, rfl, rfl, by decide +kernel, rfl, by decide +kernel, by decide +kernel⟩
abbrev s_law_take : Stmt := topS 49
theorem sc_law_take : FnScope ["store", "many", "cell", "digit"] ["store", "many"] (defScope s_law_take) := ⟨rfl, rfl, rfl, by decide +kernel, rfl, by decide +kernel, by decide +kernel⟩
abbrev s_law_pick : Stmt := topS 50
theorem sc_law_pick : FnScope ["store", "things"] ["store", "things"] (defScope s_law_pick) := ⟨rfl, rfl, rfl, by decide +kernel, rfl, by decide +kernel, by decide +kernel⟩
abbrev s_law_place : Stmt := topS 51
theorem sc_law_place : FnScope ["store", "size", "pick"] ["store", "size"] (defScope s_law_place) := ⟨rfl, rfl, rfl, by decide +kernel, rfl, by decide +kernel, by decide +kernel⟩
abbrev s_law_drawn : Stmt := topS 52
theorem sc_law_drawn : FnScope ["store", "things", "many", "pool", "found", "k", "at"] ["store", "things", "many"] (defScope s_law_drawn) := ⟨rfl, rfl, rfl, by decide +kernel, rfl, by decide +kernel, by decide +kernel⟩
abbrev s_law_either : Stmt := topS 53
theorem sc_law_either : FnScope ["store", "entries"] ["store", "entries"] (defScope s_law_either) := ⟨rfl, rfl, rfl, by decide +kernel, rfl, by decide +kernel, by decide +kernel⟩
abbrev s_law_whole : Stmt := topS 54
theorem sc_law_whole : FnScope ["store", "pick", "edges", "number", "k"] ["store"] (defScope s_law_whole) := ⟨rfl, rfl, rfl, by decide +kernel, rfl, by decide +kernel, by decide +kernel⟩
abbrev s_law_sign : Stmt := topS 55
theorem sc_law_sign : FnScope ["store", "signs"] ["store"] (defScope s_law_sign) := ⟨rfl, rfl, rfl, by decide +kernel, rfl, by decide +kernel, by decide +kernel⟩
abbrev s_law_text : Stmt := topS 56
theorem sc_law_text : FnScope ["store", "most", "size", "k"] ["store", "most"] (defScope s_law_text) := ⟨rfl, rfl, rfl, by decide +kernel, rfl, by decide +kernel, by decide +kernel⟩
abbrev s_law_leaf : Stmt := topS 57
theorem sc_law_leaf : FnScope ["store", "pick"] ["store"] (defScope s_law_leaf) := ⟨rfl, rfl, rfl, by decide +kernel, rfl, by decide +kernel, by decide +kernel⟩
abbrev s_law_value : Stmt := topS 58
theorem sc_law_value : FnScope ["store", "deep", "pick", "entries", "k", "size", "value", "j"] ["store", "deep"] (defScope s_law_value) := ⟨rfl, rfl, rfl, by decide +kernel, rfl, by decide +kernel, by decide +kernel⟩
abbrev s_law_is_whole : Stmt := topS 59
theorem sc_law_is_whole : FnScope ["value"] ["value"] (defScope s_law_is_whole) := ⟨rfl, rfl, rfl, by decide +kernel, rfl, by decide +kernel, by decide +kernel⟩
abbrev s_law_same : Stmt := topS 60
theorem sc_law_same : FnScope ["actual", "due", "left", "pair", "one", "two", "k"] ["actual", "due"] (defScope s_law_same) := ⟨rfl, rfl, rfl, by decide +kernel, rfl, by decide +kernel, by decide +kernel⟩
abbrev s_law_frozen : Stmt := topS 61
theorem sc_law_frozen : FnScope ["value", "deep", "part"] ["value", "deep"] (defScope s_law_frozen) := ⟨rfl, rfl, rfl, by decide +kernel, rfl, by decide +kernel, by decide +kernel⟩
abbrev s_law_renamed : Stmt := topS 62
theorem sc_law_renamed : FnScope ["move", "by", "image", "k"] ["move", "by"] (defScope s_law_renamed) := ⟨rfl, rfl, rfl, by decide +kernel, rfl, by decide +kernel, by decide +kernel⟩
abbrev s_law_move : Stmt := topS 63
theorem sc_law_move : FnScope ["store", "points", "pick", "image", "size", "ring_row", "k", "shift"] ["store", "points"] (defScope s_law_move) := ⟨rfl, rfl, rfl, by decide +kernel, rfl, by decide +kernel, by decide +kernel⟩
abbrev s_law_move_fits : Stmt := topS 64
theorem sc_law_move_fits : FnScope ["value", "points", "seen", "entry"] ["value", "points"] (defScope s_law_move_fits) := ⟨rfl, rfl, rfl, by decide +kernel, rfl, by decide +kernel, by decide +kernel⟩
abbrev s_law_bad_move : Stmt := topS 65
theorem sc_law_bad_move : FnScope ["store", "move", "pick", "size", "image", "at"] ["store", "move"] (defScope s_law_bad_move) := ⟨rfl, rfl, rfl, by decide +kernel, rfl, by decide +kernel, by decide +kernel⟩
abbrev s_law_block_moves : Stmt := topS 66
theorem sc_law_block_moves : FnScope ["store", "points", "sizes", "left", "k", "told", "j", "image", "size", "base", "shift", "sign"] ["store", "points"] (defScope s_law_block_moves) := ⟨rfl, rfl, rfl, by decide +kernel, rfl, by decide +kernel, by decide +kernel⟩
abbrev s_law_alone : Stmt := topS 67
theorem sc_law_alone : FnScope ["error", "of", "one", "entry"] ["error"] (defScope s_law_alone) := ⟨rfl, rfl, rfl, by decide +kernel, rfl, by decide +kernel, by decide +kernel⟩
abbrev s_law_refusal : Stmt := topS 68
theorem sc_law_refusal : FnScope ["error", "due", "told"] ["error", "due"] (defScope s_law_refusal) := ⟨rfl, rfl, rfl, by decide +kernel, rfl, by decide +kernel, by decide +kernel⟩
abbrev s_law_rings : Stmt := topS 69
theorem sc_law_rings : FnScope ["move", "rows", "p", "left", "last", "row", "k"] ["move", "rows"] (defScope s_law_rings) := ⟨rfl, rfl, rfl, by decide +kernel, rfl, by decide +kernel, by decide +kernel⟩
abbrev s_law_answers : Stmt := topS 70
theorem sc_law_answers : FnScope ["move", "held", "moved", "rows", "p"] ["move"] (defScope s_law_answers) := ⟨rfl, rfl, rfl, by decide +kernel, rfl, by decide +kernel, by decide +kernel⟩
abbrev s_law_told : Stmt := topS 71
theorem sc_law_told : FnScope ["value", "told", "e", "f", "g"] ["value"] (defScope s_law_told) := ⟨rfl, rfl, rfl, by decide +kernel, rfl, by decide +kernel, by decide +kernel⟩
abbrev s_law_fair : Stmt := topS 72
theorem sc_law_fair : FnScope ["value", "before", "fair"] ["value"] (defScope s_law_fair) := ⟨rfl, rfl, rfl, by decide +kernel, rfl, by decide +kernel, by decide +kernel⟩
abbrev s_law : Stmt := topS 73
theorem sc_law : FnScope ["script", "store", "points", "move", "by", "other", "near", "value", "entry"] ["script"] (defScope s_law) := ⟨rfl, rfl, rfl, by decide +kernel, rfl, by decide +kernel, by decide +kernel⟩
structure Zs (mg : Str → Option Value) : Prop where
  z_ValueError : mg "ValueError" = none
  z_isinstance : mg "isinstance" = none
  z_int : mg "int" = none
  z_bool : mg "bool" = none
  z_str : mg "str" = none
  z_tuple : mg "tuple" = none
  z_list : mg "list" = none
  z_len : mg "len" = none
  z_range : mg "range" = none
  z_all : mg "all" = none
  z_sorted : mg "sorted" = none
  z_min : mg "min" = none
  z_enumerate : mg "enumerate" = none
  c_MOST_POINTS : ∃ t, mg "MOST_POINTS" = some (.int 12 t)
structure Ds (K : PySem.W.Frag) (mg : Str → Option Value) : Prop where
  d_is_number : Def K mg "is_number" s_is_number ["value", "low", "high"]
  d_is_point : Def K mg "is_point" s_is_point ["points", "value"]
  d_is_move_on : Def K mg "is_move_on" s_is_move_on ["points", "value"]
  d_is_move : Def K mg "is_move" s_is_move ["value"]
  d_check_move : Def K mg "check_move" s_check_move ["value", "place"]
  d_held_points : Def K mg "held_points" s_held_points ["move"]
  d_moved_points : Def K mg "moved_points" s_moved_points ["move"]
  d_cycles : Def K mg "cycles" s_cycles ["move"]
  d_cycle_from : Def K mg "_cycle_from" s_cycle_from ["move", "start"]
  d_law_store : Def K mg "_law_store" s_law_store ["script"]
  d_law_mixed : Def K mg "_law_mixed" s_law_mixed ["seed", "turn"]
  d_law_take : Def K mg "_law_take" s_law_take ["store", "many"]
  d_law_pick : Def K mg "_law_pick" s_law_pick ["store", "things"]
  d_law_place : Def K mg "_law_place" s_law_place ["store", "size"]
  d_law_drawn : Def K mg "_law_drawn" s_law_drawn ["store", "things", "many"]
  d_law_either : Def K mg "_law_either" s_law_either ["store", "entries"]
  d_law_whole : Def K mg "_law_whole" s_law_whole ["store"]
  d_law_sign : Def K mg "_law_sign" s_law_sign ["store"]
  d_law_text : Def K mg "_law_text" s_law_text ["store", "most"]
  d_law_leaf : Def K mg "_law_leaf" s_law_leaf ["store"]
  d_law_value : Def K mg "_law_value" s_law_value ["store", "deep"]
  d_law_is_whole : Def K mg "_law_is_whole" s_law_is_whole ["value"]
  d_law_same : Def K mg "_law_same" s_law_same ["actual", "due"]
  d_law_frozen : Def K mg "_law_frozen" s_law_frozen ["value", "deep"]
  d_law_renamed : Def K mg "_law_renamed" s_law_renamed ["move", "by"]
  d_law_move : Def K mg "_law_move" s_law_move ["store", "points"]
  d_law_move_fits : Def K mg "_law_move_fits" s_law_move_fits ["value", "points"]
  d_law_bad_move : Def K mg "_law_bad_move" s_law_bad_move ["store", "move"]
  d_law_block_moves : Def K mg "_law_block_moves" s_law_block_moves ["store", "points"]
  d_law_alone : Def K mg "_law_alone" s_law_alone ["error"]
  d_law_refusal : Def K mg "_law_refusal" s_law_refusal ["error", "due"]
  d_law_rings : Def K mg "_law_rings" s_law_rings ["move", "rows"]
  d_law_answers : Def K mg "_law_answers" s_law_answers ["move"]
  d_law_told : Def K mg "_law_told" s_law_told ["value"]
  d_law_fair : Def K mg "_law_fair" s_law_fair ["value"]
/-- the class named nm at D, the k-th of those that are told apart -/
structure Es (K : PySem.W.Frag) (mg : Str → Option Value) (k : Nat) (nm : Str) (D : Addr) : Prop where
  ec : Ec K mg nm D
  lt : k < 32
  i_BadNumber : Isx K mg D "BadNumber" (k == 0)
  i_NotAPoint : Isx K mg D "NotAPoint" (k == 1)
  i_NotAMove : Isx K mg D "NotAMove" (k == 2)
  i_TooMany : Isx K mg D "TooMany" (k == 3)
  i_UnlikeSizes : Isx K mg D "UnlikeSizes" (k == 4)
  i_RepeatedPoint : Isx K mg D "RepeatedPoint" (k == 5)
  i_BadText : Isx K mg D "BadText" (k == 6)
  i_NotMade : Isx K mg D "NotMade" (k == 7)
  i_NotTight : Isx K mg D "NotTight" (k == 8)
  i_NotFull : Isx K mg D "NotFull" (k == 9)
  i_NotAFailing : Isx K mg D "NotAFailing" (k == 10)
  i_NotNeighbours : Isx K mg D "NotNeighbours" (k == 11)
  i_NotShorter : Isx K mg D "NotShorter" (k == 12)
  i_SameLength : Isx K mg D "SameLength" (k == 13)
  i_NoSuchLength : Isx K mg D "NoSuchLength" (k == 14)
  i_NotAnOrder : Isx K mg D "NotAnOrder" (k == 15)
  i_NotAChain : Isx K mg D "NotAChain" (k == 16)
  i_NotABase : Isx K mg D "NotABase" (k == 17)
  i_NotInside : Isx K mg D "NotInside" (k == 18)
  i_OrderMatters : Isx K mg D "OrderMatters" (k == 19)
  i_FullLot : Isx K mg D "FullLot" (k == 20)
  i_NotAWord : Isx K mg D "NotAWord" (k == 21)
  i_NotAColumn : Isx K mg D "NotAColumn" (k == 22)
  i_NotACount : Isx K mg D "NotACount" (k == 23)
  i_GameOver : Isx K mg D "GameOver" (k == 24)
  i_NotAllowed : Isx K mg D "NotAllowed" (k == 25)
  i_NothingToUndo : Isx K mg D "NothingToUndo" (k == 26)
  i_NothingToRedo : Isx K mg D "NothingToRedo" (k == 27)
  i_NothingKept : Isx K mg D "NothingKept" (k == 28)
  i_BadEdit : Isx K mg D "BadEdit" (k == 29)
  i_UnknownName : Isx K mg D "UnknownName" (k == 30)
  i_NotAPaper : Isx K mg D "NotAPaper" (k == 31)
  iH : Isx K mg D "HeldorderError" true
  hH : Hnd K mg "HeldorderError" D true
  iV : PySem.W.kitOne K (.ref D) (.type "ValueError") = some true
theorem one_of : ∀ k, k < 32 → (([k == 0, k == 1, k == 2, k == 3, k == 4, k == 5, k == 6, k == 7, k == 8, k == 9, k == 10, k == 11, k == 12, k == 13, k == 14, k == 15, k == 16, k == 17, k == 18, k == 19, k == 20, k == 21, k == 22, k == 23, k == 24, k == 25, k == 26, k == 27, k == 28, k == 29, k == 30, k == 31] : List Bool).filter id).length = 1 := by decide
abbrev s_ini_NotAMove : Stmt := (clsB (topS 5)).getD 0 (.Pass ⟨0, 0, 0, 0⟩)
theorem sc_ini_NotAMove : FnScope ["self", "index"] ["self", "index"] (defScope s_ini_NotAMove) := ⟨rfl, rfl, rfl, by decide +kernel, rfl, by decide +kernel, by decide +kernel⟩
def faL : List He.Fa := ([.glo "law", .free "ValueError", .free "isinstance", .free "int", .free "bool", .free "str", .free "tuple", .free "list", .free "len", .free "range", .free "all", .free "sorted", .free "min", .free "enumerate", .int "MOST_POINTS" 12, .glo "is_number", .glo "is_point", .glo "is_move_on", .glo "is_move", .glo "check_move", .glo "held_points", .glo "moved_points", .glo "cycles", .glo "_cycle_from", .glo "_law_store", .glo "_law_mixed", .glo "_law_take", .glo "_law_pick", .glo "_law_place", .glo "_law_drawn", .glo "_law_either", .glo "_law_whole", .glo "_law_sign", .glo "_law_text", .glo "_law_leaf", .glo "_law_value", .glo "_law_is_whole", .glo "_law_same", .glo "_law_frozen", .glo "_law_renamed"] : List (He.Fa)) ++ ([.glo "_law_move", .glo "_law_move_fits", .glo "_law_bad_move", .glo "_law_block_moves", .glo "_law_alone", .glo "_law_refusal", .glo "_law_rings", .glo "_law_answers", .glo "_law_told", .glo "_law_fair", .glo "NotAMove", .glo "BadNumber", .glo "NotAPoint", .glo "TooMany", .glo "UnlikeSizes", .glo "RepeatedPoint", .glo "BadText", .glo "NotMade", .glo "NotTight", .glo "NotFull", .glo "NotAFailing", .glo "NotNeighbours", .glo "NotShorter", .glo "SameLength", .glo "NoSuchLength", .glo "NotAnOrder", .glo "NotAChain", .glo "NotABase", .glo "NotInside", .glo "OrderMatters", .glo "FullLot", .glo "NotAWord", .glo "NotAColumn", .glo "NotACount", .glo "GameOver", .glo "NotAllowed", .glo "NothingToUndo", .glo "NothingToRedo", .glo "NothingKept", .glo "BadEdit"] : List (He.Fa)) ++ ([.glo "UnknownName", .glo "NotAPaper", .glo "HeldorderError"] : List (He.Fa))
def fnL0 : List He5.DefA := [dFn "law" s_law, dFn "is_number" s_is_number, dFn "is_point" s_is_point, dFn "is_move_on" s_is_move_on, dFn "is_move" s_is_move, dFn "check_move" s_check_move, dFn "held_points" s_held_points, dFn "moved_points" s_moved_points, dFn "cycles" s_cycles, dFn "_cycle_from" s_cycle_from, dFn "_law_store" s_law_store, dFn "_law_mixed" s_law_mixed, dFn "_law_take" s_law_take, dFn "_law_pick" s_law_pick, dFn "_law_place" s_law_place, dFn "_law_drawn" s_law_drawn, dFn "_law_either" s_law_either, dFn "_law_whole" s_law_whole, dFn "_law_sign" s_law_sign, dFn "_law_text" s_law_text, dFn "_law_leaf" s_law_leaf, dFn "_law_value" s_law_value, dFn "_law_is_whole" s_law_is_whole, dFn "_law_same" s_law_same, dFn "_law_frozen" s_law_frozen, dFn "_law_renamed" s_law_renamed, dFn "_law_move" s_law_move, dFn "_law_move_fits" s_law_move_fits, dFn "_law_bad_move" s_law_bad_move, dFn "_law_block_moves" s_law_block_moves, dFn "_law_alone" s_law_alone, dFn "_law_refusal" s_law_refusal, dFn "_law_rings" s_law_rings, dFn "_law_answers" s_law_answers, dFn "_law_told" s_law_told, dFn "_law_fair" s_law_fair]
def fnL1 : List He5.DefA := [dMe "NotAMove" "__init__" "NotAMove.__init__" s_ini_NotAMove]
def fnL : List He5.DefA := fnL0 ++ (fnL1)
def exL : List (PySem.W.Frag → Bool) := ([ecB "NotAMove", isB "NotAMove" "BadNumber" false, isB "NotAMove" "NotAPoint" false, isB "NotAMove" "NotAMove" true, isB "NotAMove" "TooMany" false, isB "NotAMove" "UnlikeSizes" false, isB "NotAMove" "RepeatedPoint" false, isB "NotAMove" "BadText" false, isB "NotAMove" "NotMade" false, isB "NotAMove" "NotTight" false, isB "NotAMove" "NotFull" false, isB "NotAMove" "NotAFailing" false, isB "NotAMove" "NotNeighbours" false, isB "NotAMove" "NotShorter" false, isB "NotAMove" "SameLength" false, isB "NotAMove" "NoSuchLength" false, isB "NotAMove" "NotAnOrder" false, isB "NotAMove" "NotAChain" false, isB "NotAMove" "NotABase" false, isB "NotAMove" "NotInside" false, isB "NotAMove" "OrderMatters" false, isB "NotAMove" "FullLot" false, isB "NotAMove" "NotAWord" false, isB "NotAMove" "NotAColumn" false, isB "NotAMove" "NotACount" false, isB "NotAMove" "GameOver" false, isB "NotAMove" "NotAllowed" false, isB "NotAMove" "NothingToUndo" false, isB "NotAMove" "NothingToRedo" false, isB "NotAMove" "NothingKept" false, isB "NotAMove" "BadEdit" false, isB "NotAMove" "UnknownName" false, isB "NotAMove" "NotAPaper" false, isB "NotAMove" "HeldorderError" true, hnB "NotAMove" "HeldorderError" true, ivB "NotAMove", xiB "NotAMove" ["index"]] : List (PySem.W.Frag → Bool))
abbrev rowL : PySem.W.OpenRow := PySem.W.OpenLaw.row PySem.Challenge.rw_heldorder_k03_held_and_cycles
abbrev hkL : PySem.W.Hook := hookW faL fnL exL
def obL (s : PySem.W.SharedT) : He.AlD := obsWG faL fnL exL (HandSHeadRun.getT s)
theorem obL_eq (s : PySem.W.SharedT) : obL s = hkL.obs s.abs := obsWG_eq (HandSHeadRun.getT_eq s)
def looseL : List Str := ([("is_number" : Str), ("is_point" : Str), ("is_move_on" : Str), ("is_move" : Str), ("check_move" : Str), ("held_points" : Str), ("moved_points" : Str), ("cycles" : Str), ("_cycle_from" : Str), ("_law_store" : Str)] : List (Str)) ++ ([("_law_mixed" : Str), ("_law_take" : Str), ("_law_pick" : Str), ("_law_place" : Str), ("_law_drawn" : Str), ("_law_either" : Str), ("_law_whole" : Str), ("_law_sign" : Str), ("_law_text" : Str), ("_law_leaf" : Str)] : List (Str)) ++ ([("_law_value" : Str), ("_law_is_whole" : Str), ("_law_same" : Str), ("_law_frozen" : Str), ("_law_renamed" : Str), ("_law_move" : Str), ("_law_move_fits" : Str), ("_law_bad_move" : Str), ("_law_block_moves" : Str), ("_law_alone" : Str)] : List (Str)) ++ ([("_law_refusal" : Str), ("_law_rings" : Str), ("_law_answers" : Str), ("_law_told" : Str), ("_law_fair" : Str), ("HeldorderError" : Str), ("BadNumber" : Str), ("NotAPoint" : Str), ("NotAMove" : Str), ("TooMany" : Str)] : List (Str)) ++ ([("UnlikeSizes" : Str), ("RepeatedPoint" : Str), ("BadText" : Str), ("NotMade" : Str), ("NotTight" : Str), ("NotFull" : Str), ("NotAFailing" : Str), ("NotNeighbours" : Str), ("NotShorter" : Str), ("SameLength" : Str)] : List (Str)) ++ ([("NoSuchLength" : Str), ("NotAnOrder" : Str), ("NotAChain" : Str), ("NotABase" : Str), ("NotInside" : Str), ("OrderMatters" : Str), ("FullLot" : Str), ("NotAWord" : Str), ("NotAColumn" : Str), ("NotACount" : Str)] : List (Str)) ++ ([("GameOver" : Str), ("NotAllowed" : Str), ("NothingToUndo" : Str), ("NothingToRedo" : Str), ("NothingKept" : Str), ("BadEdit" : Str), ("UnknownName" : Str), ("NotAPaper" : Str), ("MOST_POINTS" : Str)] : List (Str))
noncomputable def endL (w : World) (os : OsState) : Option PySem.W.SharedT := HandSHeadRun.endF (HandSHeadRun.stepQ (HandSHeadRun.denQ HandSHeadRun.tabQ) rowL.prog w) 12000 rowL.prog w os
def frL (s : PySem.W.SharedT) : PySem.W.Frag := He.frG (HandSHeadRun.getT s) (asW (HandSHeadRun.getT s))
theorem tp_seen (w : World) (os : OsState) : (endL w os).map (fun s => (HandSHeadRun.looksF rowL.prog (PySem.W.boot_heap w.params) s.abs, HandSHeadRun.seenQ (PySem.W.view rowL.prog [73]) looseL (importedModules rowL.prog.main.body) (fun s => PySem.W.xlAt (PySem.W.view rowL.prog [73]) [] s && PySem.W.recOk rowL.toRowW.records s) s.abs)) = some (true, PySem.W.openGood (PySem.W.view rowL.prog [73]) looseL) := by
  kernel_rfl
theorem tp_fa (w : World) (os : OsState) : (endL w os).map (fun s => (faL.all fun f => f.ok (frL s)) && exL.all fun e => e (frL s)) = some true := by
  kernel_rfl
theorem tp_fn0 (w : World) (os : OsState) : (endL w os).map (fun s => fnL0.all fun d => d.ok (frL s)) = some true := by
  kernel_rfl
theorem tp_fn1 (w : World) (os : OsState) : (endL w os).map (fun s => fnL1.all fun d => d.ok (frL s)) = some true := by
  kernel_rfl
theorem tp_at (w : World) (os : OsState) : (endL w os).map (fun s => fnL.map fun d => He5.fnA (frL s) (d.at_ (frL s))) = some (fnL.map He5.DefA.val) := by
  kernel_rfl
theorem tp_fn (w : World) (os : OsState) : (endL w os).map (fun s => fnL.all fun d => d.ok (frL s)) = some true := by
  have a0 := tp_fn0 w os
  have a1 := tp_fn1 w os
  cases e : endL w os with
  | none =>
    rw [e] at a0
    cases a0
  | some s =>
    rw [e, Option.map_some] at a0 a1
    rw [Option.map_some]
    have b0 := Option.some.inj a0
    have b1 := Option.some.inj a1
    rw [show fnL = fnL0 ++ (fnL1) from rfl]
    simp only [List.all_append]
    rw [b0, b1]
    first | rfl | done
theorem obL_parts (s : PySem.W.SharedT) : obL s = ((((faL.all fun f => f.ok (frL s)) && (fnL.all fun d => d.ok (frL s))) && exL.all fun e => e (frL s)), fnL.map fun d => He5.fnA (frL s) (d.at_ (frL s))) := rfl
theorem runL (w : World) : HandSHeadRun.RunEq rowL (PySem.W.view rowL.prog [73]) hkL obL 12000 looseL w := fun os => by
  have h1 := tp_seen w os
  have h2 := tp_fa w os
  have h3 := tp_fn w os
  have h4 := tp_at w os
  show (endL w os).map _ = _
  cases e : endL w os with
  | none =>
    rw [e] at h1
    cases h1
  | some s =>
    rw [e, Option.map_some] at h1 h2 h3 h4
    have k1 := Option.some.inj h1
    have k2 := Option.some.inj h2
    have k3 := Option.some.inj h3
    have k4 := Option.some.inj h4
    rw [Bool.and_eq_true] at k2
    rw [Option.map_some, obL_parts, k2.1, k2.2, k3, k4]
    rw [Prod.mk.injEq] at k1
    rw [k1.1, k1.2]
    rfl

section
variable {P : Program} {w : World} {K : PySem.W.Frag} {mg : Str → Option Value} {base : Heap}

theorem ok_mixed (Z : Zs mg) (D : Ds K mg) : Cal P w K mg base "_law_mixed" 1 ["seed", "turn"] spMixed := by
  refine Def.cal D.d_law_mixed sc_law_mixed (fun vs H Q E h => ?_) (fun f cdv A outer s H vs Q E hr h => ?_)
  · obtain ⟨a, b, rfl, q⟩ := h
    rfl
  obtain ⟨a, b, rfl, q⟩ := h
  refine ⟨_, (pss_cons (ps_set (i := 2) sc_law_mixed.nd rfl (Or.inl rfl) (pe_op op_mod (pe_callTy call_int1 (by rfl) Z.z_int (by decide +kernel) (pa_cons (pe_op op_add (pe_op op_add (pe_op op_mul (pv 0) pe_int) (pe_op op_mul (pv 1) pe_int)) pe_int) pa_nil)) pe_int))
      (pss_cons (ps_set (i := 3) sc_law_mixed.nd rfl (Or.inl rfl) (pe_op op_mod (pe_callTy call_int1 (by rfl) Z.z_int (by decide +kernel) (pa_cons (pe_op op_add (pe_op op_add (pe_op op_mul (pv 2) (pv 2)) (pe_op op_mul (pv 0) pe_int)) (pv 1)) pa_nil)) pe_int))
      (pss_one (ps_ret (pe_op op_mod (pe_callTy call_int1 (by rfl) Z.z_int (by decide +kernel) (pa_cons (pe_op op_add (pe_op op_mul (pv 3) (pv 3)) (pv 2)) pa_nil)) pe_int))))), ?_⟩
  have c1 : CMul a 48271 := .inr ⟨by omega, by omega⟩
  have c2 : CMul b 69621 := .inr ⟨by omega, by omega⟩
  refine ⟨_, rfl, _, _, rfl, rfl, c1, _, rfl, _, _, rfl, rfl, c2, _, _, rfl, rfl, _, _, rfl, rfl, .inl ⟨_, rfl, _, _, rfl, rfl, (by omega), ?_⟩⟩
  obtain ⟨f1, e1⟩ : ∃ f1, f1 = (a * 48271 + b * 69621 + 1013904223) % 2147483647 := ⟨_, rfl⟩
  have b1 : 0 ≤ f1 ∧ f1 < 2147483647 := by omega
  have c3 : CMul f1 f1 := .inl ⟨by omega, by omega⟩
  have c4 : CMul a 7 := .inr ⟨by omega, by omega⟩
  rw [show (fun i j => V.int (i % j)) (a * 48271 + b * 69621 + 1013904223) 2147483647 = V.int f1 from congrArg V.int e1.symm]
  refine ⟨_, rfl, _, rfl, _, _, rfl, rfl, c3, _, rfl, _, _, rfl, rfl, c4, _, _, rfl, rfl, _, rfl, _, _, rfl, rfl, .inl ⟨_, rfl, _, _, rfl, rfl, (by omega), ?_⟩⟩
  obtain ⟨f2, e2⟩ : ∃ f2, f2 = (f1 * f1 + a * 7 + b) % 2147483563 := ⟨_, rfl⟩
  have b2 : 0 ≤ f2 ∧ f2 < 2147483563 := by omega
  have c5 : CMul f2 f2 := .inl ⟨by omega, by omega⟩
  rw [show (fun i j => V.int (i % j)) (f1 * f1 + a * 7 + b) 2147483563 = V.int f2 from congrArg V.int e2.symm]
  refine ⟨_, rfl, _, rfl, _, _, rfl, rfl, c5, _, rfl, _, _, rfl, rfl, .inl ⟨_, rfl, _, _, rfl, rfl, (by omega), ?_⟩⟩
  exact q _
theorem ok_take (Z : Zs mg) (D : Ds K mg) (c__law_mixed : Cal P w K mg base "_law_mixed" 1 ["seed", "turn"] spMixed) : Cal P w K mg base "_law_take" 2 ["store", "many"] spTake := by
  refine Def.cal D.d_law_take sc_law_take (fun vs H Q E h => ?_) (fun f cdv A outer s H vs Q E hr h => ?_)
  · obtain ⟨S, G, n, rfl, wd, hn, q⟩ := h
    rfl
  obtain ⟨S, G, n, rfl, wd, hn, q⟩ := h
  refine ⟨_, (pss_cons (ps_if (pt_cmp (pc_lt (pv 1) pe_int) (nomark _)) (pss_one (ps_ret pe_int)) pss_nil)
      (Evl.pss_cut (ps_if (PW.pt (pw_and (pt_cmp (pc_lt (pe_ix ix_list (pv 0) pe_int (fun _ _ => rfl)) pe_int) (nomark _)) (pw_and (pt_cmp (pc_eqI (pe_ix ix_list (pv 0) pe_int (fun _ _ => rfl)) pe_int) (nomark _)) (pw_and1 (pt_cmp (pc_lt (pe_ix ix_list (pv 0) pe_int (fun _ _ => rfl)) (pe_callB call_len_seq (by rfl) Z.z_len (by decide +kernel) (pa_cons (pe_ix ix_list (pv 0) pe_int (fun _ _ => rfl)) pa_nil))) (nomark _)))))) (pss_cons (ps_set (i := 2) sc_law_take.nd rfl (Or.inl rfl) (pe_ix ix_list (pe_ix ix_list (pv 0) pe_int (fun _ _ => rfl)) (pe_ix ix_list (pv 0) pe_int (fun _ _ => rfl)) (fun _ _ => rfl)))
      (pss_cons (ps_asg (pe_op op_add (pe_ix ix_list (pv 0) pe_int (fun _ _ => rfl)) pe_int) (pg_sub (pv 0) pe_int set_listN))
      (pss_cons (ps_asg (pe_op op_mod (pe_callTy call_int1 (by rfl) Z.z_int (by decide +kernel) (pa_cons (pe_op op_add (pe_op op_add (pe_op op_mul (pe_ix ix_list (pv 0) pe_int (fun _ _ => rfl)) pe_int) (pe_op op_mod (pe_callTy call_int1 (by rfl) Z.z_int (by decide +kernel) (pa_cons (pv 2) pa_nil)) pe_int)) pe_int) pa_nil)) pe_int) (pg_sub (pv 0) pe_int set_listN))
      (pss_one (ps_if (pt_cmp (pc_ge (pv 2) (pe_op op_pow pe_int pe_int)) (nomark _)) (pss_one (ps_asg (pv 2) (pg_sub (pv 0) pe_int set_listN))) (pss_cons (ps_asg pe_int (pg_sub (pv 0) pe_int set_listN))
      (pss_one (ps_asg (pe_op op_mod (pe_callTy call_int1 (by rfl) Z.z_int (by decide +kernel) (pa_cons (pv 2) pa_nil)) pe_int) (pg_sub (pv 0) pe_int set_listN))))))))) pss_nil)
      (pss_cons (ps_if (pt_cmp (pc_ge (pe_ix ix_list (pv 0) pe_int (fun _ _ => rfl)) pe_int) (nomark _)) (pss_cons (ps_set (i := 3) sc_law_take.nd rfl (Or.inl rfl) (pe_op op_mod (pe_callTy call_int1 (by rfl) Z.z_int (by decide +kernel) (pa_cons (pe_ix ix_list (pv 0) pe_int (fun _ _ => rfl)) pa_nil)) (pv 1)))
      (pss_cons (ps_asg (pe_op op_fdiv (pe_ix ix_list (pv 0) pe_int (fun _ _ => rfl)) (pv 1)) (pg_sub (pv 0) pe_int set_listN))
      (pss_one (ps_ret (pv 3))))) pss_nil)
      (pss_cons (ps_asg (pe_op op_add (pe_ix ix_list (pv 0) pe_int (fun _ _ => rfl)) pe_int) (pg_sub (pv 0) pe_int set_listN))
      (pss_cons (ps_if (pt_cmp (pc_gt (pe_ix ix_list (pv 0) pe_int (fun _ _ => rfl)) pe_int) (nomark _)) (pss_cons (ps_asg (pe_op op_sub (pe_ix ix_list (pv 0) pe_int (fun _ _ => rfl)) pe_int) (pg_sub (pv 0) pe_int set_listN))
      (pss_one (ps_ret (pe_op op_mod (pe_callTy call_int1 (by rfl) Z.z_int (by decide +kernel) (pa_cons (pe_cal c__law_mixed (hr.mono (by first | decide | omega)) (by rfl) (pa_cons (pe_ix ix_list (pv 0) pe_int (fun _ _ => rfl)) (pa_cons (pe_ix ix_list (pv 0) pe_int (fun _ _ => rfl)) pa_nil))) pa_nil)) (pv 1))))) pss_nil)
      (pss_one (ps_ret (pe_op op_mod (pe_callTy call_int1 (by rfl) Z.z_int (by decide +kernel) (pa_cons (pe_cal c__law_mixed (hr.mono (by first | decide | omega)) (by rfl) (pa_cons (pe_ix ix_list (pv 0) pe_int (fun _ _ => rfl)) (pa_cons (pe_ix ix_list (pv 0) pe_int (fun _ _ => rfl)) pa_nil))) pa_nil)) (pv 1))))))))), ?_⟩
  refine ⟨_, rfl, _, _, rfl, rfl, _, rfl, ite2 (fun c => ?_) (fun c => ?_)⟩
  · have c := dec_of c
    exact q 0 H (by omega) (by omega) (.refl wd)
  have c := dec_not c
  refine ⟨fun σ' H' => ∃ y2, σ' = [some (.ref S.a), some (.int n), y2, none] ∧ Go S G H G H', ?_, ?_⟩
  · obtain ⟨i1, i2, i3, i4, i5, i6, h1, h2, z⟩ := wd.st
    refine ⟨_, rfl, S.a, _, 2, .int i2, rfl, rfl, .of h1, rfl, _, _, rfl, rfl, _, rfl, ite2 (fun c2 => ?_) (fun c2 => iteF ⟨none, rfl, .refl wd⟩)⟩
    refine ⟨_, rfl, S.a, _, 3, .int i3, rfl, rfl, .of h1, rfl, _, _, rfl, rfl, _, rfl, ite2 (fun c3 => ?_) (fun c3 => iteF ⟨none, rfl, .refl wd⟩)⟩
    refine ⟨_, rfl, S.a, _, 1, .int i1, rfl, rfl, .of h1, rfl, _, rfl, S.a, _, 0, .ref S.c, rfl, rfl, .of h1, rfl, _, _, rfl, .inl (.of h2), _, _, rfl, rfl, _, rfl, ite2 (fun c1 => ?_) (fun c1 => ⟨none, rfl, .refl wd⟩)⟩
    have c1 : i1 < ((S.ns.map V.int).length : Nat) := dec_of c1
    rw [List.length_map] at c1
    have k1 : i1.toNat < S.ns.length := by omega
    have a1 : atI (S.ns.map V.int) i1 = some (.int S.ns[i1.toNat]) := by
      have q := atI_nat (xs := S.ns.map V.int) (j := i1.toNat) (v := .int S.ns[i1.toNat]) (by rw [List.getElem?_map, List.getElem?_eq_getElem k1]; rfl)
      rwa [show ((i1.toNat : Nat) : Int) = i1 by omega] at q
    generalize S.ns[i1.toNat] = x at a1
    -- cell = store[0][store[1]]; store[1] = store[1] + 1
    refine ⟨_, rfl, S.a, _, 0, .ref S.c, rfl, rfl, .of h1, rfl, _, rfl, S.a, _, 1, .int i1, rfl, rfl, .of h1, rfl, S.c, _, i1, .int x, rfl, rfl, .of h2, a1, ?_⟩
    refine ⟨_, rfl, S.a, _, 1, .int i1, rfl, rfl, .of h1, rfl, _, _, rfl, rfl, _, rfl, S.a, _, 1, rfl, rfl, h1, (by show 1 < 7; decide), fun H1 e1 => ?_⟩
    have s1 : Go S G H G H1 := (Go.refl wd).put e1 (by omega)
    have h1 : H1 S.a = _ := upd_at e1
    have m5 : CMul i5 31 := .inr ⟨by omega, by omega⟩
    refine ⟨_, rfl, S.a, _, 5, .int i5, rfl, rfl, .of h1, rfl, _, _, rfl, rfl, m5, _, rfl, .inl ⟨_, rfl, _, _, rfl, rfl, (by omega), _, _, rfl, rfl, _, _, rfl, rfl, .inl ⟨_, rfl, _, _, rfl, rfl, (by omega), ?_⟩⟩⟩
    refine ⟨_, rfl, S.a, _, 5, rfl, rfl, h1, (by show 5 < 7; decide), fun H2 e2 => ?_⟩
    have s1 : Go S G H G H2 := s1.put e2 (by omega)
    have h1 : H2 S.a = _ := upd_at e2
    refine ⟨_, rfl, _, _, rfl, rfl, ⟨by omega, by omega, by decide⟩, _, _, rfl, rfl, _, rfl, ite2 (fun c => ?_) (fun c => ?_)⟩
    · refine ⟨_, rfl, _, rfl, S.a, _, 2, rfl, rfl, h1, (by show 2 < 7; decide), fun H3 e3 => ?_⟩
      exact ⟨_, rfl, s1.put e3 (by omega)⟩
    · refine ⟨_, rfl, S.a, _, 3, rfl, rfl, h1, (by show 3 < 7; decide), fun H3 e3 => ?_⟩
      have s1 : Go S G H G H3 := s1.put e3 (by omega)
      have h1 : H3 S.a = _ := upd_at e3
      refine ⟨_, rfl, .inl ⟨_, rfl, _, _, rfl, rfl, (by omega), _, rfl, S.a, _, 6, rfl, rfl, h1, (by show 6 < 7; decide), fun H4 e4 => ?_⟩⟩
      exact ⟨_, rfl, s1.put e4 (by omega)⟩
  · rintro σ' H1 ⟨y2, rfl, s1⟩
    obtain ⟨i1, i2, i3, i4, i5, i6, h1, h2, z⟩ := s1.st
    refine ⟨_, rfl, S.a, _, 2, .int i2, rfl, rfl, .of h1, rfl, _, _, rfl, rfl, _, rfl, ite2 (fun c2 => ?_) (fun c2 => ?_)⟩
    · refine ⟨_, rfl, S.a, _, 2, .int i2, rfl, rfl, .of h1, rfl, .inl ⟨_, rfl, _, rfl, _, _, rfl, rfl, (by omega), ?_⟩⟩
      refine ⟨_, rfl, S.a, _, 2, .int i2, rfl, rfl, .of h1, rfl, _, rfl, _, _, rfl, rfl, ⟨by omega, by omega⟩, _, rfl, S.a, _, 2, rfl, rfl, h1, (by show 2 < 7; decide), fun H2 e2 => ?_⟩
      have s1 : Go S G H G H2 := s1.put e2 (by omega)
      refine ⟨_, rfl, ?_⟩
      exact q _ _ (Int.emod_nonneg _ (by omega)) (.inl (Int.emod_lt_of_pos _ (by omega))) s1
    refine ⟨_, rfl, S.a, _, 4, .int i4, rfl, rfl, .of h1, rfl, _, _, rfl, rfl, _, rfl, S.a, _, 4, rfl, rfl, h1, (by show 4 < 7; decide), fun H2 e2 => ?_⟩
    have s1 : Go S G H G H2 := s1.put e2 (by omega)
    have h1 : H2 S.a = _ := upd_at e2
    refine ⟨_, rfl, S.a, _, 3, .int i3, rfl, rfl, .of h1, rfl, _, _, rfl, rfl, _, rfl, ite2 (fun c3 => ?_) (fun c3 => ?_)⟩
    · refine ⟨_, rfl, S.a, _, 3, .int i3, rfl, rfl, .of h1, rfl, _, _, rfl, rfl, _, rfl, S.a, _, 3, rfl, rfl, h1, (by show 3 < 7; decide), fun H3 e3 => ?_⟩
      have s1 : Go S G H G H3 := s1.put e3 (by omega)
      have h1 : H3 S.a = _ := upd_at e3
      refine ⟨_, rfl, S.a, _, 6, .int i6, rfl, rfl, .of h1, rfl, _, rfl, S.a, _, 4, _, rfl, rfl, .of h1, rfl, _, _, rfl, fun r => ?_⟩
      refine .inl ⟨_, rfl, _, rfl, _, _, rfl, rfl, (by omega), ?_⟩
      exact q _ _ (Int.emod_nonneg _ (by omega)) (.inl (Int.emod_lt_of_pos _ (by omega))) s1
    · refine ⟨_, rfl, S.a, _, 5, .int i5, rfl, rfl, .of h1, rfl, _, rfl, S.a, _, 4, _, rfl, rfl, .of h1, rfl, _, _, rfl, fun r => ?_⟩
      refine .inl ⟨_, rfl, _, rfl, _, _, rfl, rfl, (by omega), ?_⟩
      exact q _ _ (Int.emod_nonneg _ (by omega)) (.inl (Int.emod_lt_of_pos _ (by omega))) s1


theorem ok_pick (Z : Zs mg) (D : Ds K mg) (c__law_take : Cal P w K mg base "_law_take" 2 ["store", "many"] spTake) : Cal P w K mg base "_law_pick" 3 ["store", "things"] spPick := by
  refine Def.cal D.d_law_pick sc_law_pick (fun vs H Q E h => ?_) (fun f cdv A outer s H vs Q E hr h => ?_)
  · obtain ⟨S, G, v, xs, rfl, wd, hv, h0, h1, q⟩ := h
    rfl
  obtain ⟨S, G, v, xs, rfl, wd, hv, h0, h1, q⟩ := h
  refine ⟨_, (pss_one (ps_ret (pe_ix ix_seq (pv 1) (pe_cal c__law_take (hr.mono (by first | decide | omega)) (by rfl) (pa_cons (pv 0) (pa_cons (pe_callB call_len (by rfl) Z.z_len (by decide +kernel) (pa_cons (pv 1) pa_nil)) pa_nil))) (fun _ _ => rfl)))), ?_⟩
  rcases hv with ⟨a, rfl, na, ha⟩ | ⟨a, rfl, na, ha⟩ | ⟨z, rfl, hz, rfl⟩
  · refine ⟨_, rfl, _, rfl, _, rfl, .ref a, xs.length, rfl, .inl ⟨xs, .of ha, rfl⟩, S, G, _, rfl, wd, by omega, fun d H1 p0 p1 s1 => ?_⟩
    obtain ⟨x, _, e, m⟩ := at_int (xs := xs) p0 (by omega)
    exact .inl ⟨a, xs, d, x, rfl, rfl, .of (s1.hh ha na), e, q _ _ m s1⟩
  · refine ⟨_, rfl, _, rfl, _, rfl, .ref a, xs.length, rfl, .inr ⟨xs, .of ha, rfl⟩, S, G, _, rfl, wd, by omega, fun d H1 p0 p1 s1 => ?_⟩
    obtain ⟨x, _, e, m⟩ := at_int (xs := xs) p0 (by omega)
    exact .inr (.inl ⟨a, xs, d, x, rfl, rfl, .of (s1.hh ha na), e, q _ _ m s1⟩)
  · have hl : z.cps.toList.length = z.length := Array.length_toList
    rw [List.length_map, hl] at h0 h1
    refine ⟨_, rfl, _, rfl, _, rfl, .str z, z.length, rfl, ⟨ln (by omega), rfl⟩, S, G, _, rfl, wd, by omega, fun d H1 p0 p1 s1 => ?_⟩
    obtain ⟨c, e, g⟩ := at_str (z := z) p0 (by omega)
    exact .inr (.inr ⟨z, d, c, rfl, rfl, ln (by omega), e, q _ _ (List.mem_map.mpr ⟨c, List.mem_of_getElem? g, rfl⟩) s1⟩)
theorem ok_place (Z : Zs mg) (D : Ds K mg) (c__law_take : Cal P w K mg base "_law_take" 2 ["store", "many"] spTake) : Cal P w K mg base "_law_place" 3 ["store", "size"] spPlace := by
  refine Def.cal D.d_law_place sc_law_place (fun vs H Q E h => ?_) (fun f cdv A outer s H vs Q E hr h => ?_)
  · obtain ⟨S, G, n, rfl, wd, h1, hn, q⟩ := h
    rfl
  obtain ⟨S, G, n, rfl, wd, h1, hn, q⟩ := h
  refine ⟨_, (pss_cons (ps_set (i := 2) sc_law_place.nd rfl (Or.inl rfl) (pe_cal c__law_take (hr.mono (by first | decide | omega)) (by rfl) (pa_cons (pv 0) (pa_cons pe_int pa_nil))))
      (pss_cons (ps_if (pt_cmp (pc_eqI (pv 2) pe_int) (nomark _)) (pss_one (ps_ret pe_int)) pss_nil)
      (pss_cons (ps_if (pt_cmp (pc_eqI (pv 2) pe_int) (nomark _)) (pss_one (ps_ret (pe_op op_sub (pv 1) pe_int))) pss_nil)
      (pss_one (ps_ret (pe_cal c__law_take (hr.mono (by first | decide | omega)) (by rfl) (pa_cons (pv 0) (pa_cons (pv 1) pa_nil)))))))), ?_⟩
  refine ⟨_, rfl, S, G, 6, rfl, wd, by omega, fun d1 H1 p0 p1 s1 => ?_⟩
  refine ⟨_, rfl, _, _, rfl, rfl, _, rfl, ite2 (fun c => q _ _ (by omega) (by omega) s1) (fun c => ?_)⟩
  refine ⟨_, rfl, _, _, rfl, rfl, _, rfl, ite2 (fun c => ⟨_, rfl, _, _, rfl, rfl, q _ _ (by omega) (by omega) s1⟩) (fun c => ?_)⟩
  exact ⟨_, rfl, _, rfl, S, G, n, rfl, s1.wd, hn, fun d2 H2 r0 r1 s2 => q _ _ (by omega) (by omega) (s1.trans s2)⟩
theorem ok_drawn (Z : Zs mg) (D : Ds K mg) (c__law_take : Cal P w K mg base "_law_take" 2 ["store", "many"] spTake) : Cal P w K mg base "_law_drawn" 3 ["store", "things", "many"] spDrawn := by
  refine Def.cal D.d_law_drawn sc_law_drawn (fun vs H Q E h => ?_) (fun f cdv A outer s H vs Q E hr h => ?_)
  · obtain ⟨S, G, a, xs, n, rfl, wd, ha, hx, h0, h1, q⟩ := h
    rfl
  obtain ⟨S, G, a, xs, n, rfl, wd, ha, hx, h0, h1, q⟩ := h
  refine ⟨_, (pss_cons (ps_set (i := 3) sc_law_drawn.nd rfl (Or.inl rfl) (pe_callTy call_listN (by rfl) Z.z_list (by decide +kernel) (pa_cons (pv 1) pa_nil)))
      (pss_cons (ps_set (i := 4) sc_law_drawn.nd rfl (Or.inl rfl) (pe_lstN pa_nil))
      (pss_cons (ps_for PassesOwn.never rfl (pi_range1 (by rfl) Z.z_range (pa_cons (pe_callB (call_min2 rfl) (by rfl) Z.z_min (by decide +kernel) (pa_cons (pv 2) (pa_cons (pe_callB call_len_seq (by rfl) Z.z_len (by decide +kernel) (pa_cons (pv 3) pa_nil)) pa_nil))) pa_nil)) (pg_name (i := 5) sc_law_drawn.nd rfl (Or.inl rfl)) (pss_cons (ps_set (i := 6) sc_law_drawn.nd rfl (Or.inl rfl) (pe_cal c__law_take (hr.mono (by first | decide | omega)) (by rfl) (pa_cons (pv 0) (pa_cons (pe_callB call_len_seq (by rfl) Z.z_len (by decide +kernel) (pa_cons (pv 3) pa_nil)) pa_nil))))
      (pss_one (ps_expr (pe_bm PySem.F.plainAttrs_list PySem.F.slot_list_append PySem.F.type_list_append mt_appendN (pv 4) (pa_cons (pe_bm PySem.F.plainAttrs_list PySem.F.slot_list_pop PySem.F.type_list_pop mt_popAtN (pv 3) (pa_cons (pv 6) pa_nil)) pa_nil))))))
      (pss_one (ps_ret (pv 4)))))), ?_⟩
  refine ⟨_, rfl, a, xs, rfl, ha.len, fun p H1 n1 => ?_⟩
  obtain ⟨s1, gp, hp, fp⟩ := (Go.refl wd).loc n1
  refine ⟨Nat.zero_le _, fun l H2 n2 => ?_⟩
  obtain ⟨s2, gl, hl, fl⟩ := s1.loc n2
  have hp := n2.else hp
  have npl : p ≠ l := n2.ne (ne_none (n1.at))
  refine ⟨_, rfl, _, rfl, p, xs, rfl, .inl (.of hp), _, _, rfl, _, rfl, ?_⟩
  have em : (if ((xs.length : Nat) : Int) < n then ((xs.length : Nat) : Int) else n) = ((min n.toNat xs.length : Nat) : Int) := by split <;> omega
  rw [em]
  refine ⟨by omega, by omega, for_range (lo := 0) (n := ((min n.toNat xs.length : Nat) : Int).toNat) (fun i σ' H' => ∃ ys ps y5 y6, σ' = [some (.ref S.a), some (.ref a), some (.int n), some (.ref p), some (.ref l), y5, y6] ∧
    Go S G H G H' ∧ H' p = some (.lst ps) ∧ H' l = some (.lst ys) ∧ (ys ++ ps).Perm xs ∧ ys.length = i) ⟨[], xs, none, none, rfl, s2, hp, hl, .refl _, rfl⟩ ?_ ?_⟩
  · rintro i σ' H3 hi ⟨ys, ps, y5, y6, rfl, s3, hp, hl, pm, rfl⟩
    have lp : ys.length + ps.length = xs.length := by
      have := pm.length_eq
      rwa [List.length_append] at this
    refine ⟨_, rfl, _, rfl, p, ps, rfl, .inl (.of hp), S, G, _, rfl, s3.wd, by omega, fun d H4 p0 p1 s4 => ?_⟩
    have hp := s4.hh hp (s3.ns fp)
    have hl := s4.hh hl (s3.ns fl)
    have s4 := s3.trans s4
    obtain ⟨x, e, _, _⟩ := at_int (xs := ps) p0 (by omega)
    refine ⟨_, rfl, .inl ⟨rfl, _, .of hl⟩, _, rfl, .inl ⟨rfl, _, .of hp⟩, _, rfl, p, ps, d, d.toNat, x, rfl, rfl, hp, by omega, by omega, e, fun H5 e5 => ?_⟩
    have s5 := s4.mut gp fp e5
    have hl := upd_else e5 hl npl.symm
    have hp := upd_at e5
    refine ⟨l, ys, x, rfl, rfl, hl, lt (by omega), fun H6 e6 => ?_⟩
    have s6 := s5.mut gl fl e6
    have hp := upd_else e6 hp npl
    refine ⟨ys ++ [x], ps.eraseIdx d.toNat, _, _, rfl, s6, hp, upd_at e6, ?_, by rw [List.length_append]; rfl⟩
    refine List.Perm.trans ?_ pm
    rw [List.append_assoc]
    refine List.Perm.append_left ys ?_
    exact (perm_erase e).symm
  · rintro σ' H3 ⟨ys, ps, y5, y6, rfl, s3, hp, hl, pm, hy⟩
    exact ⟨_, rfl, q l ys ps H3 s3 gl fl hl pm (by omega)⟩
theorem ok_either (Z : Zs mg) (D : Ds K mg) (c__law_take : Cal P w K mg base "_law_take" 2 ["store", "many"] spTake) : Cal P w K mg base "_law_either" 3 ["store", "entries"] spEither := by
  refine Def.cal D.d_law_either sc_law_either (fun vs H Q E h => ?_) (fun f cdv A outer s H vs Q E hr h => ?_)
  · obtain ⟨S, G, a, xs, rfl, wd, na, ha, q⟩ := h
    rfl
  obtain ⟨S, G, a, xs, rfl, wd, na, ha, q⟩ := h
  refine ⟨_, (pss_cons (ps_if (pt_cmp (pc_eqI (pe_cal c__law_take (hr.mono (by first | decide | omega)) (by rfl) (pa_cons (pv 0) (pa_cons pe_int pa_nil))) pe_int) (nomark _)) (pss_one (ps_ret (pe_callTy call_tupleN (by rfl) Z.z_tuple (by decide +kernel) (pa_cons (pv 1) pa_nil)))) pss_nil)
      (pss_one (ps_ret (pe_callTy call_listN (by rfl) Z.z_list (by decide +kernel) (pa_cons (pv 1) pa_nil))))), ?_⟩
  refine ⟨_, rfl, S, G, 2, rfl, wd, by omega, fun d1 H1 p0 p1 s1 => ?_⟩
  have ha := s1.hh ha na
  refine ⟨_, _, rfl, rfl, _, rfl, ite2 (fun c => ?_) (fun c => ?_)⟩
  · refine ⟨_, rfl, a, xs, rfl, .of ha, fun p H2 n2 => ?_⟩
    obtain ⟨s2, gp, hp, fp⟩ := s1.loc n2
    exact q p true H2 s2 gp fp hp
  · refine ⟨_, rfl, a, xs, rfl, .inl (.of ha), fun p H2 n2 => ?_⟩
    obtain ⟨s2, gp, hp, fp⟩ := s1.loc n2
    exact q p false H2 s2 gp fp hp


theorem ok_whole (Z : Zs mg) (D : Ds K mg) (c__law_take : Cal P w K mg base "_law_take" 2 ["store", "many"] spTake) (c__law_pick : Cal P w K mg base "_law_pick" 3 ["store", "things"] spPick) : Cal P w K mg base "_law_whole" 4 ["store"] spWhole := by
  refine Def.cal D.d_law_whole sc_law_whole (fun vs H Q E h => ?_) (fun f cdv A outer s H vs Q E hr h => ?_)
  · obtain ⟨S, G, rfl, wd, q⟩ := h
    rfl
  obtain ⟨S, G, rfl, wd, q⟩ := h
  refine ⟨_, (pss_cons (ps_set (i := 1) sc_law_whole.nd rfl (Or.inl rfl) (pe_cal c__law_take (hr.mono (by first | decide | omega)) (by rfl) (pa_cons (pv 0) (pa_cons pe_int pa_nil))))
      (pss_cons (ps_if (pt_cmp (pc_lt (pv 1) pe_int) (nomark _)) (pss_one (ps_ret (pe_op op_sub (pe_cal c__law_take (hr.mono (by first | decide | omega)) (by rfl) (pa_cons (pv 0) (pa_cons pe_int pa_nil))) pe_int))) pss_nil)
      (pss_cons (ps_if (pt_cmp (pc_eqI (pv 1) pe_int) (nomark _)) (pss_cons (ps_set (i := 2) sc_law_whole.nd rfl (Or.inl rfl) (pe_lstN (pa_cons (pe_un un_neg pe_int) (pa_cons pe_int (pa_cons pe_int (pa_cons pe_int (pa_cons pe_int (pa_cons pe_int (pa_cons pe_int (pa_cons pe_int (pa_cons pe_int (pa_cons pe_int (pa_cons pe_int (pa_cons pe_int (pa_cons pe_int (pa_cons pe_int (pa_cons pe_int (pa_cons pe_int (pa_cons pe_int (pa_cons pe_int (pa_cons pe_int (pa_cons pe_int pa_nil))))))))))))))))))))))
      (pss_cons (ps_set (i := 2) sc_law_whole.nd rfl (Or.inl rfl) (pe_op op_catN (pv 2) (pe_lstN (pa_cons (pe_un un_neg pe_int) (pa_cons (pe_un un_neg pe_int) (pa_cons pe_int (pa_cons pe_int (pa_cons pe_int (pa_cons pe_int pa_nil)))))))))
      (pss_one (ps_ret (pe_cal c__law_pick (hr.mono (by first | decide | omega)) (by rfl) (pa_cons (pv 0) (pa_cons (pv 2) pa_nil))))))) pss_nil)
      (pss_cons (ps_if (pt_cmp (pc_eqI (pv 1) pe_int) (nomark _)) (pss_one (ps_ret (pe_op op_sub (pe_cal c__law_take (hr.mono (by first | decide | omega)) (by rfl) (pa_cons (pv 0) (pa_cons pe_int pa_nil))) pe_int))) pss_nil)
      (pss_cons (ps_set (i := 3) sc_law_whole.nd rfl (Or.inl rfl) pe_int)
      (pss_cons (ps_for PassesOwn.never rfl (pi_range1 (by rfl) Z.z_range (pa_cons pe_int pa_nil)) (pg_name (i := 4) sc_law_whole.nd rfl (Or.inl rfl)) (pss_one (ps_set (i := 3) sc_law_whole.nd rfl (Or.inl rfl) (pe_op op_add (pe_op op_mul (pv 3) pe_int) (pe_cal c__law_take (hr.mono (by first | decide | omega)) (by rfl) (pa_cons (pv 0) (pa_cons pe_int pa_nil)))))))
      (pss_cons (ps_if (pt_cmp (pc_eqI (pv 1) pe_int) (nomark _)) (pss_one (ps_ret (pe_un un_neg (pv 3)))) pss_nil)
      (pss_one (ps_ret (pv 3)))))))))), ?_⟩
  refine ⟨_, rfl, S, G, 6, rfl, wd, by omega, fun d1 H1 p0 p1 s1 => ?_⟩
  refine ⟨_, rfl, _, _, rfl, rfl, _, rfl, ite2 (fun c => ?_) (fun c => ?_)⟩
  · exact ⟨_, rfl, S, G, 16, rfl, s1.wd, by omega, fun d2 H2 r0 r1 s2 => ⟨_, _, rfl, rfl, q _ _ (s1.trans s2)⟩⟩
  refine ⟨_, rfl, _, _, rfl, rfl, _, rfl, ite2 (fun c => ?_) (fun c => ?_)⟩
  · refine ⟨_, rfl, by decide, fun p H2 n2 => ?_⟩
    obtain ⟨s2, gp, hp, fp⟩ := s1.loc n2
    refine ⟨_, rfl, _, rfl, _, rfl, by decide, fun p2 H3 n3 => ?_⟩
    obtain ⟨s3, gp2, hp2, fp2⟩ := s2.loc n3
    refine ⟨p, p2, _, _, rfl, rfl, n3.else hp, hp2, by decide, fun p4 H4 n4 => ?_⟩
    obtain ⟨s4, gp4, hp4, fp4⟩ := s3.loc n4
    refine ⟨_, rfl, _, rfl, S, G, _, _, rfl, s4.wd, .inl ⟨p4, rfl, s4.ns fp4, hp4⟩, by decide, by decide, fun x H5 m s5 => ?_⟩
    obtain ⟨d, rfl⟩ := all_int (by rfl) m
    exact q _ _ (s4.trans s5)
  refine ⟨_, rfl, _, _, rfl, rfl, _, rfl, ite2 (fun c => ?_) (fun c => ?_)⟩
  · exact ⟨_, rfl, S, G, 5000, rfl, s1.wd, by omega, fun d2 H2 r0 r1 s2 => ⟨_, _, rfl, rfl, q _ _ (s1.trans s2)⟩⟩
  refine ⟨5, rfl, by omega, by omega, for_range (lo := 0) (n := 5) (fun i σ' H' => ∃ m y4, σ' = [some (.ref S.a), some (.int d1), none, some (.int m), y4] ∧ Go S G H G H') ⟨0, none, rfl, s1⟩ ?_ ?_⟩
  · rintro i σ' H3 hi ⟨m, y4, rfl, s3⟩
    refine ⟨_, rfl, _, _, rfl, rfl, .inr ⟨by omega, by omega⟩, _, rfl, S, G, 1000000, rfl, s3.wd, by omega, fun d2 H2 r0 r1 s2 => ⟨_, _, rfl, rfl, _, _, rfl, s3.trans s2⟩⟩
  · rintro σ' H3 ⟨m, y4, rfl, s3⟩
    refine ⟨_, rfl, _, _, rfl, rfl, _, rfl, ite2 (fun c => ?_) (fun c => ?_)⟩
    · exact ⟨_, rfl, _, rfl, q _ _ s3⟩
    · exact ⟨_, rfl, q _ _ s3⟩
theorem ok_sign (Z : Zs mg) (D : Ds K mg) (c__law_take : Cal P w K mg base "_law_take" 2 ["store", "many"] spTake) : Cal P w K mg base "_law_sign" 3 ["store"] spSign := by
  refine Def.cal D.d_law_sign sc_law_sign (fun vs H Q E h => ?_) (fun f cdv A outer s H vs Q E hr h => ?_)
  · obtain ⟨S, G, rfl, wd, q⟩ := h
    rfl
  obtain ⟨S, G, rfl, wd, q⟩ := h
  refine ⟨_, (pss_cons (ps_set (i := 1) sc_law_sign.nd rfl (Or.inl rfl) pe_str)
      (pss_cons (ps_set (i := 1) sc_law_sign.nd rfl (Or.inl rfl) (pe_op op_add_str (pv 1) pe_str))
      (pss_one (ps_ret (pe_ix ix_str (pv 1) (pe_cal c__law_take (hr.mono (by first | decide | omega)) (by rfl) (pa_cons (pv 0) (pa_cons (pe_callB call_len_str (by rfl) Z.z_len (by decide +kernel) (pa_cons (pv 1) pa_nil)) pa_nil))) (fun _ _ => rfl)))))), ?_⟩
  refine ⟨_, rfl, _, _, rfl, rfl, by decide +kernel, _, rfl, _, rfl, _, rfl, _, rfl, ?_, S, G, _, rfl, wd, ?_, fun d H1 p0 p1 s1 => ?_⟩
  · decide +kernel
  · decide +kernel
  · have p2 := p1.resolve_right (fun z => absurd z.1 (by decide +kernel))
    obtain ⟨c, e, _⟩ := at_str p0 p2
    exact ⟨_, d, c, rfl, rfl, by decide +kernel, e, q _ _ s1⟩
theorem ok_text (Z : Zs mg) (D : Ds K mg) (c__law_place : Cal P w K mg base "_law_place" 3 ["store", "size"] spPlace) (c__law_sign : Cal P w K mg base "_law_sign" 3 ["store"] spSign) : Cal P w K mg base "_law_text" 4 ["store", "most"] spText := by
  refine Def.cal D.d_law_text sc_law_text (fun vs H Q E h => ?_) (fun f cdv A outer s H vs Q E hr h => ?_)
  · obtain ⟨S, G, n, rfl, wd, h0, h1, q⟩ := h
    rfl
  obtain ⟨S, G, n, rfl, wd, h0, h1, q⟩ := h
  refine ⟨_, (pss_cons (ps_set (i := 2) sc_law_text.nd rfl (Or.inl rfl) (pe_cal c__law_place (hr.mono (by first | decide | omega)) (by rfl) (pa_cons (pv 0) (pa_cons (pe_op op_add (pv 1) pe_int) pa_nil))))
      (pss_one (ps_ret (pe_bm PySem.F.plainAttrs_str PySem.F.slot_str_join PySem.F.type_str_join mt_join pe_str (pa_cons (pe_lc (own := [("k", 3)]) (g := gName 3) (tt := tYes) (by rfl) sc_law_text.nd (pi_range1 (by rfl) Z.z_range (pa_cons (pv 2) pa_nil)) (blkOk_by (N := ["store", "most", "size", "k"]) (sc := defScope s_law_text) (by decide +kernel)) (fun _ _ _ _ _ => pg_name (i := 3) sc_law_text.nd rfl (Or.inl rfl)) (fun _ _ _ _ _ => pts_nil) (fun _ _ _ _ _ => (pe_cal c__law_sign (hr.mono (by first | decide | omega)) (by rfl) (pa_cons (pv 0) pa_nil)))) pa_nil))))), ?_⟩
  refine ⟨_, rfl, _, rfl, _, _, rfl, rfl, S, G, n + 1, rfl, wd, by omega, by omega, fun m H1 p0 p1 s1 => ?_⟩
  refine ⟨rfl, _, rfl, m, rfl, by omega, by omega, fun l hl => ?_⟩
  refine lc_range (lo := 0) (n := m.toNat) (fun i H' => ∃ zs : List Str, Go S G H G H' ∧ G l = none ∧ H l = none ∧ H' l = some (.lst (zs.map V.str)) ∧ zs.length = i ∧ ∀ z ∈ zs, z.length = 1) ?_ ?_ ?_
  · obtain ⟨s2, gl, hl2, fl⟩ := s1.loc (o := .lst []) (p := l) ⟨hl, rfl⟩
    exact ⟨[], s2, gl, fl, hl2, rfl, fun _ z => nomatch z⟩
  · rintro i H3 hi ⟨zs, s3, gl, fl, hl3, rfl, hz⟩
    refine ⟨rfl, yesT ⟨_, rfl, S, G, rfl, s3.wd, fun c H4 s4 => ?_⟩⟩
    have hl4 := s4.hh hl3 (s3.ns fl)
    have s5 := (s3.trans s4).mut (l := l) (o := .lst (zs.map V.str ++ [.str ⟨#[c]⟩])) gl fl rfl
    refine ⟨_, hl4, lt (by rw [List.length_map]; omega), zs ++ [⟨#[c]⟩], s5, gl, fl, ?_, by rw [List.length_append]; rfl, fun z m => ?_⟩
    · rw [List.map_append]
      exact upd_same
    · rcases List.mem_append.mp m with m | m
      · exact hz z m
      · rw [List.mem_singleton.mp m]
        rfl
  · rintro H3 ⟨zs, s3, gl, fl, hl3, hn, hz⟩
    have e := sum_ones zs hz
    refine ⟨_, l, zs, rfl, rfl, .inl (.of hl3), ?_, ?_⟩
    · rw [e]
      show zs.length + zs.length * 0 ≤ _
      omega
    · exact q _ _ (by rw [show (Str.ofString "") = Str.empty from rfl, join_len, e]; omega) s3
theorem ok_leaf (Z : Zs mg) (D : Ds K mg) (c__law_take : Cal P w K mg base "_law_take" 2 ["store", "many"] spTake) (c__law_text : Cal P w K mg base "_law_text" 4 ["store", "most"] spText) (c__law_whole : Cal P w K mg base "_law_whole" 4 ["store"] spWhole) : Cal P w K mg base "_law_leaf" 5 ["store"] spLeaf := by
  refine Def.cal D.d_law_leaf sc_law_leaf (fun vs H Q E h => ?_) (fun f cdv A outer s H vs Q E hr h => ?_)
  · obtain ⟨S, G, rfl, wd, q⟩ := h
    rfl
  obtain ⟨S, G, rfl, wd, q⟩ := h
  refine ⟨_, (pss_cons (ps_set (i := 1) sc_law_leaf.nd rfl (Or.inl rfl) (pe_cal c__law_take (hr.mono (by first | decide | omega)) (by rfl) (pa_cons (pv 0) (pa_cons pe_int pa_nil))))
      (pss_cons (ps_if (pt_cmp (pc_eqI (pv 1) pe_int) (nomark _)) (pss_one (ps_ret pe_non)) pss_nil)
      (pss_cons (ps_if (pt_cmp (pc_eqI (pv 1) pe_int) (nomark _)) (pss_one (ps_ret pe_bl)) pss_nil)
      (pss_cons (ps_if (pt_cmp (pc_eqI (pv 1) pe_int) (nomark _)) (pss_one (ps_ret pe_bl)) pss_nil)
      (pss_cons (ps_if (pt_cmp (pc_eqI (pv 1) pe_int) (nomark _)) (pss_one (ps_ret (pe_cal c__law_text (hr.mono (by first | decide | omega)) (by rfl) (pa_cons (pv 0) (pa_cons pe_int pa_nil))))) pss_nil)
      (pss_cons (ps_if (pt_cmp (pc_eqI (pv 1) pe_int) (nomark _)) (pss_one (ps_ret (pe_callTy call_str_int (by rfl) Z.z_str (by decide +kernel) (pa_cons (pe_cal c__law_take (hr.mono (by first | decide | omega)) (by rfl) (pa_cons (pv 0) (pa_cons pe_int pa_nil))) pa_nil)))) pss_nil)
      (pss_one (ps_ret (pe_cal c__law_whole (hr.mono (by first | decide | omega)) (by rfl) (pa_cons (pv 0) pa_nil)))))))))), ?_⟩
  refine ⟨_, rfl, S, G, 8, rfl, wd, by omega, fun d1 H1 p0 p1 s1 => ?_⟩
  refine ⟨_, rfl, _, _, rfl, rfl, _, rfl, ite2 (fun c => q _ _ _ .non s1) (fun c => ?_)⟩
  refine ⟨_, rfl, _, _, rfl, rfl, _, rfl, ite2 (fun c => q _ _ _ (.bl true) s1) (fun c => ?_)⟩
  refine ⟨_, rfl, _, _, rfl, rfl, _, rfl, ite2 (fun c => q _ _ _ (.bl false) s1) (fun c => ?_)⟩
  refine ⟨_, rfl, _, _, rfl, rfl, _, rfl, ite2 (fun c => ?_) (fun c => ?_)⟩
  · exact ⟨_, rfl, S, G, 6, rfl, s1.wd, by omega, by omega, fun z H2 hz s2 => q _ _ _ (.str z (by omega)) (s1.trans s2)⟩
  refine ⟨_, rfl, _, _, rfl, rfl, _, rfl, ite2 (fun c => ?_) (fun c => ?_)⟩
  · refine ⟨_, rfl, S, G, 13, rfl, s1.wd, by omega, fun d2 H2 r0 r1 s2 => ⟨d2, rfl, log_small r0 (by omega), q _ _ _ (.str _ ?_) (s1.trans s2)⟩⟩
    exact Nat.le_trans (PyProof.Rows.toString_length_le (k := 100) r0 (by decide) (by omega)) (by decide)
  · exact ⟨_, rfl, S, G, rfl, s1.wd, fun d H2 s2 => q _ _ _ (.int d) (s1.trans s2)⟩


theorem ok_value (Z : Zs mg) (D : Ds K mg) (c__law_take : Cal P w K mg base "_law_take" 2 ["store", "many"] spTake) (c__law_leaf : Cal P w K mg base "_law_leaf" 5 ["store"] spLeaf) (c__law_either : Cal P w K mg base "_law_either" 3 ["store", "entries"] spEither) : Cal P w K mg base "_law_value" 6 ["store", "deep"] spValue := by
  refine Def.cal D.d_law_value sc_law_value (fun vs H Q E h => ?_) (fun f cdv A outer s H vs Q E hr h => ?_)
  · obtain ⟨S, G, n, rfl, wd, hn, q⟩ := h
    rfl
  obtain ⟨S, G, n, rfl, wd, hn, q⟩ := h
  refine ⟨_, (pss_cons (ps_set (i := 2) sc_law_value.nd rfl (Or.inl rfl) (pe_cal c__law_take (hr.mono (by first | decide | omega)) (by rfl) (pa_cons (pv 0) (pa_cons pe_int pa_nil))))
      (pss_cons (ps_if (PW.pt (pw_or (pt_cmp (pc_lt (pv 1) pe_int) (nomark _)) (pw_or1 (pt_cmp (pc_eqI (pv 2) pe_int) (nomark _))))) (pss_one (ps_ret (pe_cal c__law_leaf (hr.mono (by first | decide | omega)) (by rfl) (pa_cons (pv 0) pa_nil)))) pss_nil)
      (pss_cons (ps_set (i := 3) sc_law_value.nd rfl (Or.inl rfl) (pe_lstN pa_nil))
      (pss_cons (ps_for PassesOwn.never rfl (pi_range1 (by rfl) Z.z_range (pa_cons (pe_cal c__law_take (hr.mono (by first | decide | omega)) (by rfl) (pa_cons (pv 0) (pa_cons pe_int pa_nil))) pa_nil)) (pg_name (i := 4) sc_law_value.nd rfl (Or.inl rfl)) (pss_one (ps_if (PW.pt (pw_and (pt_cmp (pc_gt (pv 1) pe_int) (nomark _)) (pw_and1 (pt_cmp (pc_eqI (pe_cal c__law_take (hr.mono (by first | decide | omega)) (by rfl) (pa_cons (pv 0) (pa_cons pe_int pa_nil))) pe_int) (nomark _))))) (pss_cons (ps_set (i := 5) sc_law_value.nd rfl (Or.inl rfl) (pe_cal c__law_take (hr.mono (by first | decide | omega)) (by rfl) (pa_cons (pv 0) (pa_cons pe_int pa_nil))))
      (pss_one (ps_expr (pe_bm PySem.F.plainAttrs_list PySem.F.slot_list_append PySem.F.type_list_append mt_appendN (pv 3) (pa_cons (pe_cal c__law_either (hr.mono (by first | decide | omega)) (by rfl) (pa_cons (pv 0) (pa_cons (pe_lc (own := [("j", 7)]) (g := gName 7) (tt := tYes) (by rfl) sc_law_value.nd (pi_range1 (by rfl) Z.z_range (pa_cons (pv 5) pa_nil)) (blkOk_by (N := ["store", "deep", "pick", "entries", "k", "size", "value", "j"]) (sc := defScope s_law_value) (by decide +kernel)) (fun _ _ _ _ _ => pg_name (i := 7) sc_law_value.nd rfl (Or.inl rfl)) (fun _ _ _ _ _ => pts_nil) (fun _ _ _ _ _ => (pe_cal c__law_leaf (hr.mono (by first | decide | omega)) (by rfl) (pa_cons (pv 0) pa_nil)))) pa_nil))) pa_nil))))) (pss_one (ps_expr (pe_bm PySem.F.plainAttrs_list PySem.F.slot_list_append PySem.F.type_list_append mt_appendN (pv 3) (pa_cons (pe_cal c__law_leaf (hr.mono (by first | decide | omega)) (by rfl) (pa_cons (pv 0) pa_nil)) pa_nil)))))))
      (pss_cons (ps_set (i := 6) sc_law_value.nd rfl (Or.inl rfl) (pe_cal c__law_either (hr.mono (by first | decide | omega)) (by rfl) (pa_cons (pv 0) (pa_cons (pv 3) pa_nil))))
      (pss_cons (ps_if (pt_cmp (pc_eqI (pv 2) pe_int) (nomark _)) (pss_one (ps_for PassesOwn.never rfl (pi_range1 (by rfl) Z.z_range (pa_cons (pe_cal c__law_take (hr.mono (by first | decide | omega)) (by rfl) (pa_cons (pv 0) (pa_cons (pe_op op_sub (pv 1) pe_int) pa_nil))) pa_nil)) (pg_name (i := 4) sc_law_value.nd rfl (Or.inl rfl)) (pss_one (ps_set (i := 6) sc_law_value.nd rfl (Or.inl rfl) (pe_cal c__law_either (hr.mono (by first | decide | omega)) (by rfl) (pa_cons (pv 0) (pa_cons (pe_lstN (pa_cons (pv 6) pa_nil)) pa_nil))))))) pss_nil)
      (pss_one (ps_ret (pv 6))))))))), ?_⟩
  refine ⟨_, rfl, S, G, 4, rfl, wd, by omega, fun d1 H1 p0 p1 s1 => ?_⟩
  refine ⟨_, rfl, _, _, rfl, rfl, _, rfl, ite2 (fun c => iteT ⟨_, rfl, ⟨S, G, rfl, s1.wd, fun v d H2 l s2 => q v d G H2 l.da (by have := l.sz; omega) (s1.trans s2)⟩⟩) (fun c => ?_)⟩
  refine ⟨_, rfl, _, _, rfl, rfl, _, rfl, ite2 (fun c => ⟨_, rfl, ⟨S, G, rfl, s1.wd, fun v d H2 l s2 => q v d G H2 l.da (by have := l.sz; omega) (s1.trans s2)⟩⟩) (fun c => ?_)⟩
  -- entries = []
  refine ⟨Nat.zero_le _, fun l H2 n2 => ?_⟩
  obtain ⟨s2, gl, hl, fl⟩ := s1.loc n2
  refine ⟨_, rfl, S, G, 5, rfl, s2.wd, by omega, fun t H3 t0 t1 s3 => ?_⟩
  have hl := s3.hh hl (s2.ns fl)
  have s3 := s2.trans s3
  refine ⟨t, rfl, by omega, by omega, for_range (lo := 0) (n := t.toNat) (fun i σ' H' => ∃ (G' : Hp) (xs : List V) (ds : List PyData) (y4 y5 y7 : Option V), σ' = [some (.ref S.a), some (.int n), some (.int d1), some (.ref l), y4, y5, none, y7] ∧
    Go S G H G' H' ∧ G' l = none ∧ H' l = some (.lst xs) ∧ xs.length = i ∧ DaAll G' xs ds ∧ szL ds ≤ 500 * i) ⟨G, [], [], none, none, none, rfl, s3, gl, hl, rfl, .nil, Nat.le_refl _⟩ ?_ ?_⟩
  · rintro i σ' H4 hi ⟨G4, xs, ds, y4, y5, y7, rfl, s4, gl, hl, rfl, da, sz⟩
    have app : ∀ (D : Ends) (y4 y5 y7 : Option V) (H5 : Hp), (∀ (v : V) (d : PyData) (H7 : Hp), Leaf v d → Go S G H G4 H7 → H7 l = some (.lst (xs ++ [v])) → D.nx [some (.ref S.a), some (.int n), some (.int d1), some (.ref l), y4, y5, none, y7] H7) → Go S G H G4 H5 → H5 l = some (.lst xs) →
      (tDrop (tBM K "list" rAppendN (tVar 3) (tCons (tCall spLeaf [] E0 (tCons (tVar 0) tNil)) tNil))) D [some (.ref S.a), some (.int n), some (.int d1), some (.ref l), y4, y5, none, y7] H5 := by
      intro D y4 y5 y7 H5 hD s5 hl5
      refine ⟨_, rfl, .inl ⟨rfl, _, .of hl5⟩, _, rfl, S, G4, rfl, s5.wd, fun v d H6 lf s6 => ?_⟩
      have hl6 := s6.hh hl5 (s5.ns fl)
      refine ⟨l, xs, v, rfl, rfl, hl6, lt (by omega), fun H7 e7 => ?_⟩
      exact hD v d H7 lf ((s5.trans s6).mut gl fl e7) (upd_at e7)
    have fin : ∀ (y4 y5 y7 : Option V) (v : V) (d : PyData) (H7 : Hp), Leaf v d → Go S G H G4 H7 → H7 l = some (.lst (xs ++ [v])) → ∃ (G' : Hp) (xs' : List V) (ds : List PyData) (z4 z5 z7 : Option V), [some (.ref S.a), some (.int n), some (.int d1), some (.ref l), y4, y5, none, y7] = [some (.ref S.a), some (.int n), some (.int d1), some (.ref l), z4, z5, none, z7] ∧
        Go S G H G' H7 ∧ G' l = none ∧ H7 l = some (.lst xs') ∧ xs'.length = xs.length + 1 ∧ DaAll G' xs' ds ∧ szL ds ≤ 500 * (xs.length + 1) := by
      intro y4 y5 y7 v d H7 lf s7 h7
      refine ⟨G4, xs ++ [v], ds ++ [d], _, _, _, rfl, s7, gl, h7, by rw [List.length_append]; rfl, da.append (.one lf.da), ?_⟩
      have := lf.sz
      rw [szL_append, szL_one]
      omega
    refine ⟨_, rfl, _, _, rfl, rfl, _, rfl, ite2 (fun c => ?_) (fun c => iteF (app _ _ _ _ H4 (fin _ _ _) s4 hl))⟩
    refine ⟨_, rfl, S, G4, 4, rfl, s4.wd, by omega, fun u H5 u0 u1 s5 => ?_⟩
    have hl5 := s5.hh hl (s4.ns fl)
    have s5 := s4.trans s5
    refine ⟨_, _, rfl, rfl, _, rfl, ite2 (fun c => ?_) (fun c => app _ _ _ _ H5 (fin _ _ _) s5 hl5)⟩
    refine ⟨_, rfl, S, G4, 4, rfl, s5.wd, by omega, fun m H6 m0 m1 s6 => ?_⟩
    have hl6 := s6.hh hl5 (s5.ns fl)
    have s6 := s5.trans s6
    refine ⟨_, rfl, .inl ⟨rfl, _, .of hl6⟩, _, rfl, _, rfl, m, rfl, by omega, by omega, fun e he => ?_⟩
    refine lc_range (lo := 0) (n := m.toNat) (fun j H' => ∃ (zs : List V) (es : List PyData), Go S G H G4 H' ∧ G4 e = none ∧ H e = none ∧ e ≠ l ∧ H' e = some (.lst zs) ∧ H' l = some (.lst xs) ∧ zs.length = j ∧ DaAll G4 zs es ∧ szL es ≤ 101 * j) ?_ ?_ ?_
    · obtain ⟨s7, ge, h7, fe⟩ := s6.loc (o := .lst []) (p := e) ⟨he, rfl⟩
      have nel : l ≠ e := ne_of_none hl6 he
      exact ⟨[], [], s7, ge, fe, nel.symm, h7, by rw [upd_ne nel]; exact hl6, rfl, .nil, Nat.zero_le _⟩
    · rintro j H7 hj ⟨zs, es, s7, ge, fe, nel, he7, hl7, rfl, dz, sz2⟩
      refine ⟨rfl, yesT ⟨_, rfl, S, G4, rfl, s7.wd, fun v d H8 lf s8 => ?_⟩⟩
      have he8 := s8.hh he7 (s7.ns fe)
      have hl8 := s8.hh hl7 (s7.ns fl)
      refine ⟨_, he8, lt (by omega), zs ++ [v], es ++ [d], (s7.trans s8).mut ge fe rfl, ge, fe, nel, upd_same, by rw [upd_ne nel.symm]; exact hl8, by rw [List.length_append]; rfl, dz.append (.one lf.da), ?_⟩
      have := lf.sz
      rw [szL_append, szL_one]
      omega
    · rintro H7 ⟨zs, es, s7, ge, fe, nel, he7, hl7, hz, dz, sz2⟩
      refine ⟨S, G4, e, zs, rfl, s7.wd, s7.ns fe, he7, fun p b H8 s8 gp fp hp => ?_⟩
      have hl8 := s8.hh hl7 (s7.ns fl)
      have s8 := s7.trans s8
      have nlp : l ≠ p := ne_of_none hl7 fp
      have fp := s7.fresh fp
      obtain ⟨G9, s9, g9, kp, ko⟩ := s8.frz gp fp hp
      refine ⟨l, xs, .ref p, rfl, rfl, hl8, lt (by omega), fun H9 e9 => ?_⟩
      have gl9 : G9 l = none := by rw [ko _ nlp]; exact gl
      refine ⟨G9, xs ++ [.ref p], ds ++ [_], _, _, _, rfl, s9.mut gl9 fl e9, gl9, upd_at e9, by rw [List.length_append]; rfl, (da.up g9).append (.one (.of_if kp (dz.up g9))), ?_⟩
      rw [szL_append, szL_one, sz_if]
      omega
  · rintro σ' H4 ⟨G4, xs, ds, y4, y5, y7, rfl, s4, gl, hl, hx, da, sz⟩
    refine ⟨_, rfl, _, rfl, S, G4, l, xs, rfl, s4.wd, s4.ns fl, hl, fun p b H5 s5 gp fp hp => ?_⟩
    have s5 := s4.trans s5
    have fp := s4.fresh fp
    obtain ⟨G6, s6, g6, kp, ko⟩ := s5.frz gp fp hp
    have dv := Da.of_if kp (da.up g6)
    have zv := sz_if b ds
    generalize (if b = true then PyData.tuple ds else PyData.list ds) = dd at dv zv
    refine ⟨_, rfl, _, _, rfl, rfl, _, rfl, ite2 (fun c => ?_) (fun c => ⟨_, rfl, q _ dd G6 H5 dv (by omega) s6⟩)⟩
    refine ⟨_, rfl, _, rfl, _, _, rfl, rfl, S, G6, n - 1, rfl, s6.wd, by omega, fun r H7 r0 r1 s7 => ?_⟩
    have s7 := s6.trans s7
    refine ⟨r, rfl, by omega, by omega, for_range (lo := 0) (n := r.toNat) (fun i σ' H' => ∃ (G' : Hp) (v : V) (d : PyData) (y4 y5 y7 : Option V), σ' = [some (.ref S.a), some (.int n), some (.int d1), some (.ref l), y4, y5, some v, y7] ∧
      Go S G H G' H' ∧ Da G' v d ∧ szD d ≤ 3000 + i) ⟨G6, _, dd, _, _, _, rfl, s7, dv, by omega⟩ ?_ ?_⟩
    · rintro i σ' H8 hi ⟨G8, v, d, y4, y5, y7, rfl, s8, dv, sz⟩
      refine ⟨_, rfl, _, rfl, by show 1 ≤ sizeLine; decide, fun m H9 n9 => ?_⟩
      obtain ⟨s9, gm, hm, fm⟩ := s8.loc n9
      refine ⟨S, G8, m, [v], rfl, s9.wd, s9.ns fm, hm, fun p b H5 s5 gp fp hp => ?_⟩
      have s5 := s9.trans s5
      have fp := s9.fresh fp
      obtain ⟨G6, s6, g6, kp, ko⟩ := s5.frz gp fp hp
      refine ⟨G6, _, _, _, _, _, rfl, s6, .of_if kp (.one (dv.up g6)), ?_⟩
      rw [sz_if, szL_one]
      omega
    · rintro σ' H8 ⟨G8, v, d, y4, y5, y7, rfl, s8, dv, sz⟩
      exact ⟨_, rfl, q v d G8 H8 dv (by omega) s8⟩


theorem ok_is_whole (Z : Zs mg) (D : Ds K mg) : Cal P w K mg base "_law_is_whole" 1 ["value"] spIsWhole := by
  refine Def.cal D.d_law_is_whole sc_law_is_whole (fun vs H Q E h => ?_) (fun f cdv A outer s H vs Q E hr h => ?_)
  · obtain ⟨v, d, rfl, hd, q⟩ := h
    rfl
  obtain ⟨v, d, rfl, hd, q⟩ := h
  refine ⟨_, (pss_one (ps_ret (pe_and (pe_callB call_isD (by rfl) Z.z_isinstance (by decide +kernel) (pa_cons (pv 0) (pa_cons (pe_bltn (v := .ty "int") (by rfl) Z.z_int (by decide +kernel) rfl) pa_nil))) (pe_one (pe_not (pe_callB call_isD (by rfl) Z.z_isinstance (by decide +kernel) (pa_cons (pv 0) (pa_cons (pe_bltn (v := .ty "bool") (by rfl) Z.z_bool (by decide +kernel) rfl) pa_nil)))))))), ?_⟩
  rw [← isI_inst d hd.nd] at q
  refine ⟨_, rfl, v, d, "int", rfl, hd, .inl rfl, _, rfl, ?_⟩
  cases e : instB d "int" with
  | true =>
    rw [e] at q
    exact iteT ⟨_, rfl, v, d, "bool", rfl, hd, .inr (.inl rfl), _, rfl, q⟩
  | false =>
    rw [e] at q
    exact iteF q
theorem ok_same (Z : Zs mg) (D : Ds K mg) (c__law_is_whole : Cal P w K mg base "_law_is_whole" 1 ["value"] spIsWhole) : Cal P w K mg base "_law_same" 2 ["actual", "due"] spSame := by
  refine Def.cal D.d_law_same sc_law_same (fun vs H Q E h => ?_) (fun f cdv A outer s H vs Q E hr h => ?_)
  · obtain ⟨G, v, w, d, e, rfl, gh, hd, he, zd, ze, q⟩ := h
    rfl
  obtain ⟨G, v, w, d, e, rfl, gh, hd, he, zd, ze, q⟩ := h
  refine ⟨_, (pss_cons (ps_set (i := 2) sc_law_same.nd rfl (Or.inl rfl) (pe_lstN (pa_cons (pe_tupN (pa_cons (pv 0) (pa_cons (pv 1) pa_nil))) pa_nil)))
      (pss_cons (ps_while PassesOwn.never (pt_cmp (pc_gt (pe_callB call_len_seq (by rfl) Z.z_len (by decide +kernel) (pa_cons (pv 2) pa_nil)) pe_int) (nomark _)) (pss_cons (ps_set (i := 3) sc_law_same.nd rfl (Or.inl rfl) (pe_bm0 PySem.F.plainAttrs_list PySem.F.slot_list_pop PySem.F.type_list_pop mt_popN (pv 2)))
      (pss_cons (ps_set (i := 4) sc_law_same.nd rfl (Or.inl rfl) (pe_ix ix_tup (pv 3) pe_int (fun _ _ => rfl)))
      (pss_cons (ps_set (i := 5) sc_law_same.nd rfl (Or.inl rfl) (pe_ix ix_tup (pv 3) pe_int (fun _ _ => rfl)))
      (pss_one (ps_if (PW.pt (pw_or (pt_cmpR op_isN (pv 5) pe_non (nomark _)) (pw_or (pt_cmpR op_isBD (pv 5) pe_bl (nomark _)) (pw_or1 (pt_cmpR op_isBD (pv 5) pe_bl (nomark _)))))) (pss_one (ps_if (pt_not (PW.pt (pw_or (PW.pt (pw_and (pt_cmpR op_isN (pv 5) pe_non (nomark _)) (pw_and1 (pt_cmpR op_isN (pv 4) pe_non (nomark _))))) (pw_or (PW.pt (pw_and (pt_cmpR op_isBD (pv 5) pe_bl (nomark _)) (pw_and1 (pt_cmpR op_isBD (pv 4) pe_bl (nomark _))))) (pw_or1 (PW.pt (pw_and (pt_cmpR op_isBD (pv 5) pe_bl (nomark _)) (pw_and1 (pt_cmpR op_isBD (pv 4) pe_bl (nomark _)))))))))) (pss_one (ps_ret pe_bl)) pss_nil)) (pss_one (ps_if (pt_val (pe_callB call_isD (by rfl) Z.z_isinstance (by decide +kernel) (pa_cons (pv 5) (pa_cons (pe_bltn (v := .ty "int") (by rfl) Z.z_int (by decide +kernel) rfl) pa_nil)))) (pss_one (ps_if (PW.pt (pw_or (pt_not (pt_val (pe_cal c__law_is_whole (hr.mono (by first | decide | omega)) (by rfl) (pa_cons (pv 4) pa_nil)))) (pw_or1 (pt_cmpR op_ne (pv 4) (pv 5) (nomark _))))) (pss_one (ps_ret pe_bl)) pss_nil)) (pss_one (ps_if (pt_val (pe_callB call_isD (by rfl) Z.z_isinstance (by decide +kernel) (pa_cons (pv 5) (pa_cons (pe_bltn (v := .ty "str") (by rfl) Z.z_str (by decide +kernel) rfl) pa_nil)))) (pss_one (ps_if (PW.pt (pw_or (pt_not (pt_val (pe_callB call_isD (by rfl) Z.z_isinstance (by decide +kernel) (pa_cons (pv 4) (pa_cons (pe_bltn (v := .ty "str") (by rfl) Z.z_str (by decide +kernel) rfl) pa_nil))))) (pw_or1 (pt_cmpR op_ne (pv 4) (pv 5) (nomark _))))) (pss_one (ps_ret pe_bl)) pss_nil)) (Evl.pss_cut (ps_if (PW.pt (pw_and (pt_val (pe_callB call_isD (by rfl) Z.z_isinstance (by decide +kernel) (pa_cons (pv 5) (pa_cons (pe_bltn (v := .ty "tuple") (by rfl) Z.z_tuple (by decide +kernel) rfl) pa_nil)))) (pw_and1 (pt_not (pt_val (pe_callB call_isD (by rfl) Z.z_isinstance (by decide +kernel) (pa_cons (pv 4) (pa_cons (pe_bltn (v := .ty "tuple") (by rfl) Z.z_tuple (by decide +kernel) rfl) pa_nil)))))))) (pss_one (ps_ret pe_bl)) pss_nil)
      (Evl.pss_cut (ps_if (PW.pt (pw_and (pt_val (pe_callB call_isD (by rfl) Z.z_isinstance (by decide +kernel) (pa_cons (pv 5) (pa_cons (pe_bltn (v := .ty "list") (by rfl) Z.z_list (by decide +kernel) rfl) pa_nil)))) (pw_and1 (pt_not (pt_val (pe_callB call_isD (by rfl) Z.z_isinstance (by decide +kernel) (pa_cons (pv 4) (pa_cons (pe_bltn (v := .ty "list") (by rfl) Z.z_list (by decide +kernel) rfl) pa_nil)))))))) (pss_one (ps_ret pe_bl)) pss_nil)
      (pss_cons (ps_if (pt_cmp (pc_neI (pe_callB call_len (by rfl) Z.z_len (by decide +kernel) (pa_cons (pv 4) pa_nil)) (pe_callB call_len (by rfl) Z.z_len (by decide +kernel) (pa_cons (pv 5) pa_nil))) (nomark _)) (pss_one (ps_ret pe_bl)) pss_nil)
      (pss_one (ps_for PassesOwn.never rfl (pi_range1 (by rfl) Z.z_range (pa_cons (pe_callB call_len (by rfl) Z.z_len (by decide +kernel) (pa_cons (pv 5) pa_nil)) pa_nil)) (pg_name (i := 6) sc_law_same.nd rfl (Or.inl rfl)) (pss_one (ps_expr (pe_bm PySem.F.plainAttrs_list PySem.F.slot_list_append PySem.F.type_list_append mt_appendN (pv 2) (pa_cons (pe_tupN (pa_cons (pe_ix ix_seq (pv 4) (pv 6) (fun _ _ => rfl)) (pa_cons (pe_ix ix_seq (pv 5) (pv 6) (fun _ _ => rfl)) pa_nil))) pa_nil)))))))))))))))))))
      (pss_one (ps_ret pe_bl)))), ?_⟩
  refine ⟨_, rfl, _, rfl, by show 2 ≤ sizeLine; decide, fun p H1 n1 => ⟨by show 1 ≤ sizeLine; decide, fun l H2 n2 => ?_⟩⟩
  have s1 : Stq G H G H1 := (Stq.loc gh n1).1
  have fp := n1.fr
  have s2 := (Stq.refl gh).trans (s1.trans (Stq.loc s1.gh n2).1)
  have gl : G l = none := s1.gh.free n2.fr
  have fl : H l = none := s1.hh.free n2.fr
  have hl := n2.at
  have hp := n2.else n1.at
  refine ⟨fun m σ' H' => ∃ (ps : List Pr) (y3 y4 y5 y6 : Option V), σ' = [some v, some w, some (.ref l), y3, y4, y5, y6] ∧ Stq G H G H' ∧ H' l = some (.lst (ps.map fun x => V.ref x.a)) ∧ (∀ x ∈ ps, PairAt G H' x) ∧ sameD d e = allP ps ∧ szP ps = m ∧ m ≤ 4000000,
    ⟨_, [⟨p, v, w, d, e⟩], none, none, none, none, rfl, s2, hl, ?_, ?_, rfl, ?_⟩, ?_⟩
  · intro x hx
    rw [List.mem_singleton.mp hx]
    exact ⟨hp, hd, he⟩
  · rw [allP_one]
  · rw [szP_one]
    show szD d + szD e ≤ 4000000
    omega
  rintro m σ' H3 ⟨ps, y3, y4, y5, y6, rfl, s3, hl, hps, hall, hsz, hm⟩
  have hlen := szP_len ps
  refine ⟨_, rfl, l, _, rfl, .inl (.of hl), _, _, rfl, rfl, _, rfl, ite2 (fun c => ?_) (fun c => ?_)⟩
  · have c : (0 : Int) < ((ps.map fun x => V.ref x.a).length : Nat) := dec_of c
    rw [List.length_map] at c
    rcases List.eq_nil_or_concat ps with rfl | ⟨qs, x, rfl⟩
    · exact absurd c (by decide)
    rw [List.concat_eq_append] at *
    refine ⟨fun σ' H' => ∃ m', m' < m ∧ ∃ (ps : List Pr) (y3 y4 y5 y6 : Option V), σ' = [some v, some w, some (.ref l), y3, y4, y5, y6] ∧ Stq G H G H' ∧ H' l = some (.lst (ps.map fun x => V.ref x.a)) ∧ (∀ x ∈ ps, PairAt G H' x) ∧ sameD d e = allP ps ∧ szP ps = m' ∧ m' ≤ 4000000, fun σ' H' h => h, ?_⟩
    rw [szP_app, szP_one] at hsz
    rw [allP_app, allP_one] at hall
    have hx := hps x (List.mem_append_right _ (List.mem_singleton.mpr rfl))
    have hqs : ∀ y ∈ qs, PairAt G H3 y := fun y hy => hps y (List.mem_append_left _ hy)
    rw [List.map_append] at hl
    refine ⟨_, rfl, .inl ⟨rfl, _, .of hl⟩, l, _, .ref x.a, rfl, rfl, hl, ?_, fun H4 e4 => ?_⟩
    · rw [List.length_append, List.getElem?_append_right (by simp)]
      simp
    have s4 := s3.mut gl fl e4
    have hl4 : H4 l = some (.lst (qs.map fun x => V.ref x.a)) := by
      have := upd_at e4
      simpa using this
    have hq4 : ∀ y ∈ qs, PairAt G H4 y := fun y hy => (hqs y hy).put hl e4
    obtain ⟨hxa, hxd, hxe⟩ := hx.put hl e4
    refine ⟨_, rfl, x.a, _, 0, x.v, rfl, rfl, .of hxa, rfl, _, rfl, x.a, _, 1, x.w, rfl, rfl, .of hxa, rfl, ?_⟩
    have done : sameD x.d x.e = true → ∀ y3 y4 y5 y6, ∃ m', m' < m ∧ ∃ (ps : List Pr) (z3 z4 z5 z6 : Option V), [some v, some w, some (.ref l), y3, y4, y5, y6] = [some v, some w, some (.ref l), z3, z4, z5, z6] ∧ Stq G H G H4 ∧ H4 l = some (.lst (ps.map fun x => V.ref x.a)) ∧ (∀ x ∈ ps, PairAt G H4 x) ∧ sameD d e = allP ps ∧ szP ps = m' ∧ m' ≤ 4000000 := by
      intro ex y3 y4 y5 y6
      have := szD_pos x.d
      exact ⟨szP qs, by omega, qs, _, _, _, _, rfl, s4, hl4, hq4, by rw [hall, ex, Bool.and_true], rfl, by omega⟩
    have bad : sameD x.d x.e = false → Q (.bl false) H4 := by
      intro ex
      have q4 := q H4 s4.hh
      rwa [hall, ex, Bool.and_false] at q4
    obtain ⟨xa, xv, xw, xd, xe⟩ := x
    simp only at *
    have hxd4 : Da H4 xv xd := hxd.up s4.gh
    rcases hxe.kind with ⟨rfl, rfl⟩ | ⟨b, rfl, rfl⟩ | ⟨j, rfl, rfl⟩ | ⟨j, rfl, rfl⟩ | ⟨b, ys, es, t, rfl, hb, hbt, hbl, dys, rfl⟩
    ·
      refine ⟨_, rfl, rfl, _, rfl, iteDT rfl (iteT ?_)⟩
      refine ⟨_, rfl, rfl, _, rfl, iteDT rfl ⟨_, rfl, rfl, _, rfl, ite2 (fun c => ?_) (fun c => ?_)⟩⟩
      · have e := hxd.non_iff.mp (dec_of c)
        subst e
        exact iteF (done rfl _ _ _ _)
      · have e : ¬ xd = .none := fun z => dec_not c (hxd.non_iff.mpr z)
        refine ⟨_, rfl, .none, true, .non, rfl, _, rfl, iteDF (by intro z; cases z) ⟨_, rfl, .none, false, .non, rfl, _, rfl, iteDF (by intro z; cases z) (iteT (bad ?_))⟩⟩
        cases xd <;> first | rfl | exact absurd rfl e
    ·
      refine ⟨_, rfl, rfl, _, rfl, iteDF (by intro z; cases z) ?_⟩
      cases b with
      | true =>
        refine ⟨_, rfl, _, true, .bl true, rfl, _, rfl, iteDT rfl (iteT ?_)⟩
        refine ⟨_, rfl, rfl, _, rfl, iteDF (by intro z; cases z) (iteF ⟨_, rfl, _, true, .bl true, rfl, _, rfl, iteDT rfl ⟨_, rfl, xd, true, hxd4, rfl, _, rfl, ite2 (fun c => ?_) (fun c => ?_)⟩⟩)⟩
        · have e := hxd.bl_iff.mp (dec_of c)
          subst e
          exact iteF (done rfl _ _ _ _)
        · have e : ¬ xd = .bool true := fun z => dec_not c (hxd.bl_iff.mpr z)
          refine ⟨_, rfl, _, false, .bl true, rfl, _, rfl, iteDF (by intro z; cases z) (iteT (bad ?_))⟩
          cases xd with
          | bool b => cases b with
            | true => exact absurd rfl e
            | false => rfl
          | _ => rfl
      | false =>
        refine ⟨_, rfl, _, true, .bl false, rfl, _, rfl, iteDF (by intro z; cases z) ⟨_, rfl, _, false, .bl false, rfl, _, rfl, iteDT rfl ?_⟩⟩
        refine ⟨_, rfl, rfl, _, rfl, iteDF (by intro z; cases z) (iteF ⟨_, rfl, _, true, .bl false, rfl, _, rfl, iteDF (by intro z; cases z) (iteF ⟨_, rfl, _, false, .bl false, rfl, _, rfl, iteDT rfl ⟨_, rfl, xd, false, hxd4, rfl, _, rfl, ite2 (fun c => ?_) (fun c => ?_)⟩⟩)⟩)⟩
        · have e : ¬ xd = .bool false := fun z => nd_of c (hxd.bl_iff.mpr z)
          refine bad ?_
          cases xd with
          | bool b => cases b with
            | false => exact absurd rfl e
            | true => rfl
          | _ => rfl
        · have e := hxd.bl_iff.mp (nd_not c)
          subst e
          exact done rfl _ _ _ _
    · refine ⟨_, rfl, rfl, _, rfl, iteDF (by intro z; cases z) ⟨_, rfl, _, true, .int j, rfl, _, rfl, iteDF (by intro z; cases z) ⟨_, rfl, _, false, .int j, rfl, _, rfl, iteDF (by intro z; cases z) ?_⟩⟩⟩
      refine ⟨_, rfl, _, _, "int", rfl, .int j, .inl rfl, _, rfl, iteBT (ib_int_int j) ⟨_, rfl, xv, xd, rfl, hxd4, _, rfl, ?_⟩⟩
      cases hxd with
      | int i =>
        refine iteF ⟨_, rfl, _, rfl, rfl, _, rfl, ite2 (fun c => bad (decide_eq_false fun z => nd_of c (by rw [z]))) (fun c => done (decide_eq_true (V.int.inj (nd_not c))) _ _ _ _)⟩
      | _ => exact iteT (iteT (bad rfl))
    · refine ⟨_, rfl, rfl, _, rfl, iteDF (by intro z; cases z) ⟨_, rfl, _, true, .str j, rfl, _, rfl, iteDF (by intro z; cases z) ⟨_, rfl, _, false, .str j, rfl, _, rfl, iteDF (by intro z; cases z) ?_⟩⟩⟩
      refine ⟨_, rfl, _, _, "int", rfl, .str j, .inl rfl, _, rfl, iteBF (ib_str_int j) ⟨_, rfl, _, _, "str", rfl, .str j, ok_str, _, rfl, iteBT (ib_str_str j) ⟨_, rfl, xv, xd, "str", rfl, hxd4, ok_str, _, rfl, ?_⟩⟩⟩
      cases hxd with
      | str i =>
        refine iteBF (by rw [ib_str_str]; rfl) ⟨_, rfl, _, rfl, rfl, _, rfl, ite2 (fun c => bad (decide_eq_false fun z => nd_of c (by rw [z]))) (fun c => done (decide_eq_true (V.str.inj (nd_not c))) _ _ _ _)⟩
      | non => exact iteBT (by rw [ib_none_str]; rfl) (iteT (bad rfl))
      | bl b => exact iteBT (by rw [ib_bool_str]; rfl) (iteT (bad rfl))
      | int b => exact iteBT (by rw [ib_int_str]; rfl) (iteT (bad rfl))
      | lst _ _ => exact iteBT (by rw [ib_list_str]; rfl) (iteT (bad rfl))
      | tup _ _ => exact iteBT (by rw [ib_tuple_str]; rfl) (iteT (bad rfl))
    · have hw : Da H4 (.ref b) (sqD t es) := by
        have dys4 := dys.up s4.gh
        cases t with
        | true => exact .tup (s4.gh _ _ (hbt rfl)) dys4
        | false => exact .lst (s4.gh _ _ (hbl rfl)) dys4
      have i1 : instB (sqD t es) "int" = false := by cases t <;> first | exact ib_list_int es | exact ib_tuple_int es
      have i2 : instB (sqD t es) "str" = false := by cases t <;> first | exact ib_list_str es | exact ib_tuple_str es
      have i3 : instB (sqD t es) "tuple" = t := by cases t <;> first | exact ib_list_tuple es | exact ib_tuple_tuple es
      have i4 : instB (sqD t es) "list" = !t := by cases t <;> first | exact ib_list_list es | exact ib_tuple_list es
      have sd := sqD_sz t es
      refine ⟨_, rfl, rfl, _, rfl, iteDF (by intro z; cases z) ⟨_, rfl, _, true, hw, rfl, _, rfl, iteDF (by intro z; cases z) ⟨_, rfl, _, false, hw, rfl, _, rfl, iteDF (by intro z; cases z) ?_⟩⟩⟩
      refine ⟨_, rfl, _, _, "int", rfl, hw, .inl rfl, _, rfl, iteBF i1 ⟨_, rfl, _, _, "str", rfl, hw, ok_str, _, rfl, iteBF i2 ?_⟩⟩
      refine ⟨fun σ' H' => σ' = [some v, some w, some (.ref l), some (.ref xa), some xv, some (.ref b), y6] ∧ H4 = H' ∧ (t = true → ∃ a xs ds, xv = .ref a ∧ xd = .tuple ds ∧ G a = some (.tup xs) ∧ DaAll G xs ds), ?_, ?_⟩
      · refine ⟨_, rfl, _, _, "tuple", rfl, hw, ok_tuple, _, rfl, ?_⟩
        cases t with
        | false => exact iteBF i3 (iteF ⟨rfl, rfl, fun z => nomatch z⟩)
        | true =>
          refine iteBT i3 ⟨_, rfl, xv, xd, "tuple", rfl, hxd4, ok_tuple, _, rfl, ?_⟩
          cases hxd with
          | tup h1 h2 => exact iteBF (by rw [ib_tuple_tuple]; rfl) ⟨rfl, rfl, fun _ => ⟨_, _, _, rfl, rfl, h1, h2⟩⟩
          | non => exact iteBT (by rw [ib_none_tuple]; rfl) (bad rfl)
          | bl b => exact iteBT (by rw [ib_bool_tuple]; rfl) (bad rfl)
          | int b => exact iteBT (by rw [ib_int_tuple]; rfl) (bad rfl)
          | str b => exact iteBT (by rw [ib_str_tuple]; rfl) (bad rfl)
          | lst _ _ => exact iteBT (by rw [ib_list_tuple]; rfl) (bad rfl)
      rintro σ' H' ⟨rfl, rfl, ht⟩
      refine ⟨fun σ' H' => ∃ a xs ds, σ' = [some v, some w, some (.ref l), some (.ref xa), some (.ref a), some (.ref b), y6] ∧ H4 = H' ∧ HasL G a xs ∧ DaAll G xs ds ∧ xd = sqD t ds, ?_, ?_⟩
      · refine ⟨_, rfl, _, _, "list", rfl, hw, ok_list, _, rfl, ?_⟩
        cases t with
        | true =>
          obtain ⟨a, xs, ds, rfl, rfl, h1, h2⟩ := ht rfl
          exact iteBF i4 (iteF ⟨a, xs, ds, rfl, rfl, .inr h1, h2, rfl⟩)
        | false =>
          refine iteBT i4 ⟨_, rfl, xv, xd, "list", rfl, hxd4, ok_list, _, rfl, ?_⟩
          cases hxd with
          | lst h1 h2 => exact iteBF (by rw [ib_list_list]; rfl) ⟨_, _, _, rfl, rfl, .inl h1, h2, rfl⟩
          | non => exact iteBT (by rw [ib_none_list]; rfl) (bad rfl)
          | bl b => exact iteBT (by rw [ib_bool_list]; rfl) (bad rfl)
          | int b => exact iteBT (by rw [ib_int_list]; rfl) (bad rfl)
          | str b => exact iteBT (by rw [ib_str_list]; rfl) (bad rfl)
          | tup _ _ => exact iteBT (by rw [ib_tuple_list]; rfl) (bad rfl)
      rintro σ' H' ⟨a, xs, ds, rfl, rfl, ha, dxs, rfl⟩
      have ss : sameD (sqD t ds) (sqD t es) = sameL ds es := by cases t <;> rfl
      have lx := dxs.length
      have ly := dys.length
      have sd2 := sqD_sz t ds
      have la := szL_len ds
      have lb := szL_len es
      refine ⟨_, rfl, _, _, rfl, (ha.up s4.gh).lenV, _, rfl, _, _, rfl, (hb.up s4.gh).lenV, _, _, rfl, rfl, _, rfl, ite2 (fun c => ?_) (fun c => ?_)⟩
      · have c : ¬ ((xs.length : Nat) : Int) = ((ys.length : Nat) : Int) := nd_of c
        exact bad (by rw [ss]; exact sameL_len (by omega))
      · have c : ((xs.length : Nat) : Int) = ((ys.length : Nat) : Int) := nd_not c
        have lxy : ds.length = es.length := by omega
        refine ⟨_, rfl, _, _, rfl, (hb.up s4.gh).lenV, _, rfl, by omega, by omega, for_range (lo := 0) (n := ((ys.length : Nat) : Int).toNat) (fun i σ' H' => ∃ (ns : List Pr) (y6 : Option V), σ' = [some v, some w, some (.ref l), some (.ref xa), some (.ref a), some (.ref b), y6] ∧ Stq G H G H' ∧
          H' l = some (.lst ((qs ++ ns).map fun x => V.ref x.a)) ∧ (∀ x ∈ qs ++ ns, PairAt G H' x) ∧ ns.length = i ∧ allP ns = ((ds.take i).zip (es.take i)).all (fun p => sameD p.1 p.2) ∧ szP ns = szL (ds.take i) + szL (es.take i)) ?_ ?_ ?_⟩
        · refine ⟨[], y6, rfl, s4, by rw [List.append_nil]; exact hl4, by rw [List.append_nil]; exact hq4, rfl, rfl, rfl⟩
        · rintro i σ' H5 hi ⟨ns, y6, rfl, s5, hl5, hq5, rfl, hal, hsz5⟩
          obtain ⟨x1, e1, a1⟩ := at_nat (xs := xs) (i := ns.length) (by omega)
          obtain ⟨x2, e2, a2⟩ := at_nat (xs := ys) (i := ns.length) (by omega)
          obtain ⟨d1, f1, k1⟩ := dxs.get e1
          obtain ⟨d2, f2, k2⟩ := dys.get e2
          refine ⟨_, rfl, .inl ⟨rfl, _, .of hl5⟩, _, rfl, _, rfl, rIx_of (ha.up s5.gh) a1 ⟨_, rfl, _, rfl, rIx_of (hb.up s5.gh) a2 ⟨by show 2 ≤ sizeLine; decide, fun p H6 n6 => ?_⟩⟩⟩
          have s6 := s5.trans (Stq.loc s5.gh n6).1
          have hl6 := n6.else hl5
          have hq6 : ∀ x ∈ qs ++ ns, PairAt G H6 x := fun x hx => (hq5 x hx).new n6
          have hlen6 := szP_len qs
          refine ⟨l, _, .ref p, rfl, rfl, hl6, ?_, fun H7 e7 => ?_⟩
          · rw [List.length_map, List.length_append, sizeLine_eq]
            omega
          have hp6 : PairAt G H6 ⟨p, x1, x2, d1, d2⟩ := ⟨n6.at, k1, k2⟩
          refine ⟨ns ++ [⟨p, x1, x2, d1, d2⟩], _, rfl, s6.mut gl fl e7, ?_, ?_, ?_, ?_, ?_⟩
          · have := upd_at e7
            rw [this, ← List.append_assoc, List.map_append (l₁ := qs ++ ns)]
            rfl
          · intro x hx
            rw [← List.append_assoc] at hx
            rcases List.mem_append.mp hx with hx | hx
            · exact (hq6 x hx).put hl6 e7
            · rw [List.mem_singleton.mp hx]
              exact hp6.put hl6 e7
          · rw [List.length_append]
            rfl
          · rw [allP_app, allP_one, hal, zip_take f1 f2, List.all_append]
            show _ = (_ && (sameD d1 d2 && true))
            rw [Bool.and_true]
          · rw [szP_app, szP_one, hsz5, szL_takes ds _ f1, szL_takes es _ f2]
            show _ + (szD d1 + szD d2) = _
            omega
        · rintro σ' H5 ⟨ns, y6, rfl, s5, hl5, hq5, hn, hal, hsz5⟩
          have t1 : ds.take ((ys.length : Nat) : Int).toNat = ds := List.take_of_length_le (by omega)
          have t2 : es.take ((ys.length : Nat) : Int).toNat = es := List.take_of_length_le (by omega)
          rw [t1, t2] at hal hsz5
          refine ⟨szP qs + szP ns, by omega, qs ++ ns, _, _, _, _, rfl, s5, hl5, hq5, ?_, szP_app _ _, by omega⟩
          rw [hall, ss, sameL_all lxy, allP_app, hal]
  · have c : ¬ (0 : Int) < ((ps.map fun x => V.ref x.a).length : Nat) := dec_not c
    rw [List.length_map] at c
    have e : ps = [] := List.eq_nil_of_length_eq_zero (by omega)
    subst e
    have q3 := q H3 s3.hh
    rw [hall] at q3
    exact q3


theorem ok_is_whole_h (Z : Zs mg) (D : Ds K mg) : CalE P w K mg base "_law_is_whole" 1 ["value"] (fun _ => spIsWhole) := by
  refine Def.calE D.d_law_is_whole sc_law_is_whole (fun p vs H Q E h => ?_) (fun f cdv A outer s H vs Q E p hot hr h => ?_)
  · obtain ⟨v, d, rfl, hd, q⟩ := h
    rfl
  obtain ⟨v, d, rfl, hd, q⟩ := h
  refine ⟨_, (pss_one (ps_ret (pe_and (pe_callB call_isD (by rfl) Z.z_isinstance (by decide +kernel) (pa_cons (pv 0) (pa_cons (pe_bltn (v := .ty "int") (by rfl) Z.z_int (by decide +kernel) rfl) pa_nil))) (pe_one (pe_not (pe_callB call_isD (by rfl) Z.z_isinstance (by decide +kernel) (pa_cons (pv 0) (pa_cons (pe_bltn (v := .ty "bool") (by rfl) Z.z_bool (by decide +kernel) rfl) pa_nil)))))))), ?_⟩
  rw [← isI_inst d hd.nd] at q
  refine ⟨_, rfl, v, d, "int", rfl, hd, .inl rfl, _, rfl, ?_⟩
  cases e : instB d "int" with
  | true =>
    rw [e] at q
    exact iteT ⟨_, rfl, v, d, "bool", rfl, hd, .inr (.inl rfl), _, rfl, q⟩
  | false =>
    rw [e] at q
    exact iteF q
theorem ok_same_h (Z : Zs mg) (D : Ds K mg) (c__law_is_whole_h : CalE P w K mg base "_law_is_whole" 1 ["value"] (fun _ => spIsWhole)) : CalE P w K mg base "_law_same" 2 ["actual", "due"] (fun _ => spSame) := by
  refine Def.calE D.d_law_same sc_law_same (fun p vs H Q E h => ?_) (fun f cdv A outer s H vs Q E p hot hr h => ?_)
  · obtain ⟨G, v, w, d, e, rfl, gh, hd, he, zd, ze, q⟩ := h
    rfl
  obtain ⟨G, v, w, d, e, rfl, gh, hd, he, zd, ze, q⟩ := h
  refine ⟨_, (pss_cons (ps_set (i := 2) sc_law_same.nd rfl (Or.inl rfl) (pe_lstN (pa_cons (pe_tupN (pa_cons (pv 0) (pa_cons (pv 1) pa_nil))) pa_nil)))
      (pss_cons (ps_while PassesOwn.never (pt_cmp (pc_gt (pe_callB call_len_seq (by rfl) Z.z_len (by decide +kernel) (pa_cons (pv 2) pa_nil)) pe_int) (nomark _)) (pss_cons (ps_set (i := 3) sc_law_same.nd rfl (Or.inl rfl) (pe_bm0 PySem.F.plainAttrs_list PySem.F.slot_list_pop PySem.F.type_list_pop mt_popN (pv 2)))
      (pss_cons (ps_set (i := 4) sc_law_same.nd rfl (Or.inl rfl) (pe_ix ix_tup (pv 3) pe_int (fun _ _ => rfl)))
      (pss_cons (ps_set (i := 5) sc_law_same.nd rfl (Or.inl rfl) (pe_ix ix_tup (pv 3) pe_int (fun _ _ => rfl)))
      (pss_one (ps_if (PW.pt (pw_or (pt_cmpR op_isN (pv 5) pe_non (nomark _)) (pw_or (pt_cmpR op_isBD (pv 5) pe_bl (nomark _)) (pw_or1 (pt_cmpR op_isBD (pv 5) pe_bl (nomark _)))))) (pss_one (ps_if (pt_not (PW.pt (pw_or (PW.pt (pw_and (pt_cmpR op_isN (pv 5) pe_non (nomark _)) (pw_and1 (pt_cmpR op_isN (pv 4) pe_non (nomark _))))) (pw_or (PW.pt (pw_and (pt_cmpR op_isBD (pv 5) pe_bl (nomark _)) (pw_and1 (pt_cmpR op_isBD (pv 4) pe_bl (nomark _))))) (pw_or1 (PW.pt (pw_and (pt_cmpR op_isBD (pv 5) pe_bl (nomark _)) (pw_and1 (pt_cmpR op_isBD (pv 4) pe_bl (nomark _)))))))))) (pss_one (ps_ret pe_bl)) pss_nil)) (pss_one (ps_if (pt_val (pe_callB call_isD (by rfl) Z.z_isinstance (by decide +kernel) (pa_cons (pv 5) (pa_cons (pe_bltn (v := .ty "int") (by rfl) Z.z_int (by decide +kernel) rfl) pa_nil)))) (pss_one (ps_if (PW.pt (pw_or (pt_not (pt_val (pe_calE c__law_is_whole_h (hr.mono (by first | decide | omega)) hot List.mem_cons_self (by rfl) (pa_cons (pv 4) pa_nil)))) (pw_or1 (pt_cmpR op_ne (pv 4) (pv 5) (nomark _))))) (pss_one (ps_ret pe_bl)) pss_nil)) (pss_one (ps_if (pt_val (pe_callB call_isD (by rfl) Z.z_isinstance (by decide +kernel) (pa_cons (pv 5) (pa_cons (pe_bltn (v := .ty "str") (by rfl) Z.z_str (by decide +kernel) rfl) pa_nil)))) (pss_one (ps_if (PW.pt (pw_or (pt_not (pt_val (pe_callB call_isD (by rfl) Z.z_isinstance (by decide +kernel) (pa_cons (pv 4) (pa_cons (pe_bltn (v := .ty "str") (by rfl) Z.z_str (by decide +kernel) rfl) pa_nil))))) (pw_or1 (pt_cmpR op_ne (pv 4) (pv 5) (nomark _))))) (pss_one (ps_ret pe_bl)) pss_nil)) (Evl.pss_cut (ps_if (PW.pt (pw_and (pt_val (pe_callB call_isD (by rfl) Z.z_isinstance (by decide +kernel) (pa_cons (pv 5) (pa_cons (pe_bltn (v := .ty "tuple") (by rfl) Z.z_tuple (by decide +kernel) rfl) pa_nil)))) (pw_and1 (pt_not (pt_val (pe_callB call_isD (by rfl) Z.z_isinstance (by decide +kernel) (pa_cons (pv 4) (pa_cons (pe_bltn (v := .ty "tuple") (by rfl) Z.z_tuple (by decide +kernel) rfl) pa_nil)))))))) (pss_one (ps_ret pe_bl)) pss_nil)
      (Evl.pss_cut (ps_if (PW.pt (pw_and (pt_val (pe_callB call_isD (by rfl) Z.z_isinstance (by decide +kernel) (pa_cons (pv 5) (pa_cons (pe_bltn (v := .ty "list") (by rfl) Z.z_list (by decide +kernel) rfl) pa_nil)))) (pw_and1 (pt_not (pt_val (pe_callB call_isD (by rfl) Z.z_isinstance (by decide +kernel) (pa_cons (pv 4) (pa_cons (pe_bltn (v := .ty "list") (by rfl) Z.z_list (by decide +kernel) rfl) pa_nil)))))))) (pss_one (ps_ret pe_bl)) pss_nil)
      (pss_cons (ps_if (pt_cmp (pc_neI (pe_callB call_len (by rfl) Z.z_len (by decide +kernel) (pa_cons (pv 4) pa_nil)) (pe_callB call_len (by rfl) Z.z_len (by decide +kernel) (pa_cons (pv 5) pa_nil))) (nomark _)) (pss_one (ps_ret pe_bl)) pss_nil)
      (pss_one (L2H.ps_forH PassesOwn.never (hot_in hot List.mem_cons_self) (L2H.pi_range1H (by rfl) Z.z_range (pa_cons (pe_callB call_len (by rfl) Z.z_len (by decide +kernel) (pa_cons (pv 5) pa_nil)) pa_nil)) (pg_name (i := 6) sc_law_same.nd rfl (Or.inl rfl)) (pss_one (ps_expr (pe_bm PySem.F.plainAttrs_list PySem.F.slot_list_append PySem.F.type_list_append mt_appendN (pv 2) (pa_cons (pe_tupN (pa_cons (pe_ix ix_seq (pv 4) (pv 6) (fun _ _ => rfl)) (pa_cons (pe_ix ix_seq (pv 5) (pv 6) (fun _ _ => rfl)) pa_nil))) pa_nil)))))))))))))))))))
      (pss_one (ps_ret pe_bl)))), ?_⟩
  refine ⟨_, rfl, _, rfl, by show 2 ≤ sizeLine; decide, fun p H1 n1 => ⟨by show 1 ≤ sizeLine; decide, fun l H2 n2 => ?_⟩⟩
  have s1 : Stq G H G H1 := (Stq.loc gh n1).1
  have fp := n1.fr
  have s2 := (Stq.refl gh).trans (s1.trans (Stq.loc s1.gh n2).1)
  have gl : G l = none := s1.gh.free n2.fr
  have fl : H l = none := s1.hh.free n2.fr
  have hl := n2.at
  have hp := n2.else n1.at
  refine ⟨fun m σ' H' => ∃ (ps : List Pr) (y3 y4 y5 y6 : Option V), σ' = [some v, some w, some (.ref l), y3, y4, y5, y6] ∧ Stq G H G H' ∧ H' l = some (.lst (ps.map fun x => V.ref x.a)) ∧ (∀ x ∈ ps, PairAt G H' x) ∧ sameD d e = allP ps ∧ szP ps = m ∧ m ≤ 4000000,
    ⟨_, [⟨p, v, w, d, e⟩], none, none, none, none, rfl, s2, hl, ?_, ?_, rfl, ?_⟩, ?_⟩
  · intro x hx
    rw [List.mem_singleton.mp hx]
    exact ⟨hp, hd, he⟩
  · rw [allP_one]
  · rw [szP_one]
    show szD d + szD e ≤ 4000000
    omega
  rintro m σ' H3 ⟨ps, y3, y4, y5, y6, rfl, s3, hl, hps, hall, hsz, hm⟩
  have hlen := szP_len ps
  refine ⟨_, rfl, l, _, rfl, .inl (.of hl), _, _, rfl, rfl, _, rfl, ite2 (fun c => ?_) (fun c => ?_)⟩
  · have c : (0 : Int) < ((ps.map fun x => V.ref x.a).length : Nat) := dec_of c
    rw [List.length_map] at c
    rcases List.eq_nil_or_concat ps with rfl | ⟨qs, x, rfl⟩
    · exact absurd c (by decide)
    rw [List.concat_eq_append] at *
    refine ⟨fun σ' H' => ∃ m', m' < m ∧ ∃ (ps : List Pr) (y3 y4 y5 y6 : Option V), σ' = [some v, some w, some (.ref l), y3, y4, y5, y6] ∧ Stq G H G H' ∧ H' l = some (.lst (ps.map fun x => V.ref x.a)) ∧ (∀ x ∈ ps, PairAt G H' x) ∧ sameD d e = allP ps ∧ szP ps = m' ∧ m' ≤ 4000000, fun σ' H' h => h, ?_⟩
    rw [szP_app, szP_one] at hsz
    rw [allP_app, allP_one] at hall
    have hx := hps x (List.mem_append_right _ (List.mem_singleton.mpr rfl))
    have hqs : ∀ y ∈ qs, PairAt G H3 y := fun y hy => hps y (List.mem_append_left _ hy)
    rw [List.map_append] at hl
    refine ⟨_, rfl, .inl ⟨rfl, _, .of hl⟩, l, _, .ref x.a, rfl, rfl, hl, ?_, fun H4 e4 => ?_⟩
    · rw [List.length_append, List.getElem?_append_right (by simp)]
      simp
    have s4 := s3.mut gl fl e4
    have hl4 : H4 l = some (.lst (qs.map fun x => V.ref x.a)) := by
      have := upd_at e4
      simpa using this
    have hq4 : ∀ y ∈ qs, PairAt G H4 y := fun y hy => (hqs y hy).put hl e4
    obtain ⟨hxa, hxd, hxe⟩ := hx.put hl e4
    refine ⟨_, rfl, x.a, _, 0, x.v, rfl, rfl, .of hxa, rfl, _, rfl, x.a, _, 1, x.w, rfl, rfl, .of hxa, rfl, ?_⟩
    have done : sameD x.d x.e = true → ∀ y3 y4 y5 y6, ∃ m', m' < m ∧ ∃ (ps : List Pr) (z3 z4 z5 z6 : Option V), [some v, some w, some (.ref l), y3, y4, y5, y6] = [some v, some w, some (.ref l), z3, z4, z5, z6] ∧ Stq G H G H4 ∧ H4 l = some (.lst (ps.map fun x => V.ref x.a)) ∧ (∀ x ∈ ps, PairAt G H4 x) ∧ sameD d e = allP ps ∧ szP ps = m' ∧ m' ≤ 4000000 := by
      intro ex y3 y4 y5 y6
      have := szD_pos x.d
      exact ⟨szP qs, by omega, qs, _, _, _, _, rfl, s4, hl4, hq4, by rw [hall, ex, Bool.and_true], rfl, by omega⟩
    have bad : sameD x.d x.e = false → Q (.bl false) H4 := by
      intro ex
      have q4 := q H4 s4.hh
      rwa [hall, ex, Bool.and_false] at q4
    obtain ⟨xa, xv, xw, xd, xe⟩ := x
    simp only at *
    have hxd4 : Da H4 xv xd := hxd.up s4.gh
    rcases hxe.kind with ⟨rfl, rfl⟩ | ⟨b, rfl, rfl⟩ | ⟨j, rfl, rfl⟩ | ⟨j, rfl, rfl⟩ | ⟨b, ys, es, t, rfl, hb, hbt, hbl, dys, rfl⟩
    ·
      refine ⟨_, rfl, rfl, _, rfl, iteDT rfl (iteT ?_)⟩
      refine ⟨_, rfl, rfl, _, rfl, iteDT rfl ⟨_, rfl, rfl, _, rfl, ite2 (fun c => ?_) (fun c => ?_)⟩⟩
      · have e := hxd.non_iff.mp (dec_of c)
        subst e
        exact iteF (done rfl _ _ _ _)
      · have e : ¬ xd = .none := fun z => dec_not c (hxd.non_iff.mpr z)
        refine ⟨_, rfl, .none, true, .non, rfl, _, rfl, iteDF (by intro z; cases z) ⟨_, rfl, .none, false, .non, rfl, _, rfl, iteDF (by intro z; cases z) (iteT (bad ?_))⟩⟩
        cases xd <;> first | rfl | exact absurd rfl e
    ·
      refine ⟨_, rfl, rfl, _, rfl, iteDF (by intro z; cases z) ?_⟩
      cases b with
      | true =>
        refine ⟨_, rfl, _, true, .bl true, rfl, _, rfl, iteDT rfl (iteT ?_)⟩
        refine ⟨_, rfl, rfl, _, rfl, iteDF (by intro z; cases z) (iteF ⟨_, rfl, _, true, .bl true, rfl, _, rfl, iteDT rfl ⟨_, rfl, xd, true, hxd4, rfl, _, rfl, ite2 (fun c => ?_) (fun c => ?_)⟩⟩)⟩
        · have e := hxd.bl_iff.mp (dec_of c)
          subst e
          exact iteF (done rfl _ _ _ _)
        · have e : ¬ xd = .bool true := fun z => dec_not c (hxd.bl_iff.mpr z)
          refine ⟨_, rfl, _, false, .bl true, rfl, _, rfl, iteDF (by intro z; cases z) (iteT (bad ?_))⟩
          cases xd with
          | bool b => cases b with
            | true => exact absurd rfl e
            | false => rfl
          | _ => rfl
      | false =>
        refine ⟨_, rfl, _, true, .bl false, rfl, _, rfl, iteDF (by intro z; cases z) ⟨_, rfl, _, false, .bl false, rfl, _, rfl, iteDT rfl ?_⟩⟩
        refine ⟨_, rfl, rfl, _, rfl, iteDF (by intro z; cases z) (iteF ⟨_, rfl, _, true, .bl false, rfl, _, rfl, iteDF (by intro z; cases z) (iteF ⟨_, rfl, _, false, .bl false, rfl, _, rfl, iteDT rfl ⟨_, rfl, xd, false, hxd4, rfl, _, rfl, ite2 (fun c => ?_) (fun c => ?_)⟩⟩)⟩)⟩
        · have e : ¬ xd = .bool false := fun z => nd_of c (hxd.bl_iff.mpr z)
          refine bad ?_
          cases xd with
          | bool b => cases b with
            | false => exact absurd rfl e
            | true => rfl
          | _ => rfl
        · have e := hxd.bl_iff.mp (nd_not c)
          subst e
          exact done rfl _ _ _ _
    · refine ⟨_, rfl, rfl, _, rfl, iteDF (by intro z; cases z) ⟨_, rfl, _, true, .int j, rfl, _, rfl, iteDF (by intro z; cases z) ⟨_, rfl, _, false, .int j, rfl, _, rfl, iteDF (by intro z; cases z) ?_⟩⟩⟩
      refine ⟨_, rfl, _, _, "int", rfl, .int j, .inl rfl, _, rfl, iteBT (ib_int_int j) ⟨_, rfl, xv, xd, rfl, hxd4, _, rfl, ?_⟩⟩
      cases hxd with
      | int i =>
        refine iteF ⟨_, rfl, _, rfl, rfl, _, rfl, ite2 (fun c => bad (decide_eq_false fun z => nd_of c (by rw [z]))) (fun c => done (decide_eq_true (V.int.inj (nd_not c))) _ _ _ _)⟩
      | _ => exact iteT (iteT (bad rfl))
    · refine ⟨_, rfl, rfl, _, rfl, iteDF (by intro z; cases z) ⟨_, rfl, _, true, .str j, rfl, _, rfl, iteDF (by intro z; cases z) ⟨_, rfl, _, false, .str j, rfl, _, rfl, iteDF (by intro z; cases z) ?_⟩⟩⟩
      refine ⟨_, rfl, _, _, "int", rfl, .str j, .inl rfl, _, rfl, iteBF (ib_str_int j) ⟨_, rfl, _, _, "str", rfl, .str j, ok_str, _, rfl, iteBT (ib_str_str j) ⟨_, rfl, xv, xd, "str", rfl, hxd4, ok_str, _, rfl, ?_⟩⟩⟩
      cases hxd with
      | str i =>
        refine iteBF (by rw [ib_str_str]; rfl) ⟨_, rfl, _, rfl, rfl, _, rfl, ite2 (fun c => bad (decide_eq_false fun z => nd_of c (by rw [z]))) (fun c => done (decide_eq_true (V.str.inj (nd_not c))) _ _ _ _)⟩
      | non => exact iteBT (by rw [ib_none_str]; rfl) (iteT (bad rfl))
      | bl b => exact iteBT (by rw [ib_bool_str]; rfl) (iteT (bad rfl))
      | int b => exact iteBT (by rw [ib_int_str]; rfl) (iteT (bad rfl))
      | lst _ _ => exact iteBT (by rw [ib_list_str]; rfl) (iteT (bad rfl))
      | tup _ _ => exact iteBT (by rw [ib_tuple_str]; rfl) (iteT (bad rfl))
    · have hw : Da H4 (.ref b) (sqD t es) := by
        have dys4 := dys.up s4.gh
        cases t with
        | true => exact .tup (s4.gh _ _ (hbt rfl)) dys4
        | false => exact .lst (s4.gh _ _ (hbl rfl)) dys4
      have i1 : instB (sqD t es) "int" = false := by cases t <;> first | exact ib_list_int es | exact ib_tuple_int es
      have i2 : instB (sqD t es) "str" = false := by cases t <;> first | exact ib_list_str es | exact ib_tuple_str es
      have i3 : instB (sqD t es) "tuple" = t := by cases t <;> first | exact ib_list_tuple es | exact ib_tuple_tuple es
      have i4 : instB (sqD t es) "list" = !t := by cases t <;> first | exact ib_list_list es | exact ib_tuple_list es
      have sd := sqD_sz t es
      refine ⟨_, rfl, rfl, _, rfl, iteDF (by intro z; cases z) ⟨_, rfl, _, true, hw, rfl, _, rfl, iteDF (by intro z; cases z) ⟨_, rfl, _, false, hw, rfl, _, rfl, iteDF (by intro z; cases z) ?_⟩⟩⟩
      refine ⟨_, rfl, _, _, "int", rfl, hw, .inl rfl, _, rfl, iteBF i1 ⟨_, rfl, _, _, "str", rfl, hw, ok_str, _, rfl, iteBF i2 ?_⟩⟩
      refine ⟨fun σ' H' => σ' = [some v, some w, some (.ref l), some (.ref xa), some xv, some (.ref b), y6] ∧ H4 = H' ∧ (t = true → ∃ a xs ds, xv = .ref a ∧ xd = .tuple ds ∧ G a = some (.tup xs) ∧ DaAll G xs ds), ?_, ?_⟩
      · refine ⟨_, rfl, _, _, "tuple", rfl, hw, ok_tuple, _, rfl, ?_⟩
        cases t with
        | false => exact iteBF i3 (iteF ⟨rfl, rfl, fun z => nomatch z⟩)
        | true =>
          refine iteBT i3 ⟨_, rfl, xv, xd, "tuple", rfl, hxd4, ok_tuple, _, rfl, ?_⟩
          cases hxd with
          | tup h1 h2 => exact iteBF (by rw [ib_tuple_tuple]; rfl) ⟨rfl, rfl, fun _ => ⟨_, _, _, rfl, rfl, h1, h2⟩⟩
          | non => exact iteBT (by rw [ib_none_tuple]; rfl) (bad rfl)
          | bl b => exact iteBT (by rw [ib_bool_tuple]; rfl) (bad rfl)
          | int b => exact iteBT (by rw [ib_int_tuple]; rfl) (bad rfl)
          | str b => exact iteBT (by rw [ib_str_tuple]; rfl) (bad rfl)
          | lst _ _ => exact iteBT (by rw [ib_list_tuple]; rfl) (bad rfl)
      rintro σ' H' ⟨rfl, rfl, ht⟩
      refine ⟨fun σ' H' => ∃ a xs ds, σ' = [some v, some w, some (.ref l), some (.ref xa), some (.ref a), some (.ref b), y6] ∧ H4 = H' ∧ HasL G a xs ∧ DaAll G xs ds ∧ xd = sqD t ds, ?_, ?_⟩
      · refine ⟨_, rfl, _, _, "list", rfl, hw, ok_list, _, rfl, ?_⟩
        cases t with
        | true =>
          obtain ⟨a, xs, ds, rfl, rfl, h1, h2⟩ := ht rfl
          exact iteBF i4 (iteF ⟨a, xs, ds, rfl, rfl, .inr h1, h2, rfl⟩)
        | false =>
          refine iteBT i4 ⟨_, rfl, xv, xd, "list", rfl, hxd4, ok_list, _, rfl, ?_⟩
          cases hxd with
          | lst h1 h2 => exact iteBF (by rw [ib_list_list]; rfl) ⟨_, _, _, rfl, rfl, .inl h1, h2, rfl⟩
          | non => exact iteBT (by rw [ib_none_list]; rfl) (bad rfl)
          | bl b => exact iteBT (by rw [ib_bool_list]; rfl) (bad rfl)
          | int b => exact iteBT (by rw [ib_int_list]; rfl) (bad rfl)
          | str b => exact iteBT (by rw [ib_str_list]; rfl) (bad rfl)
          | tup _ _ => exact iteBT (by rw [ib_tuple_list]; rfl) (bad rfl)
      rintro σ' H' ⟨a, xs, ds, rfl, rfl, ha, dxs, rfl⟩
      have ss : sameD (sqD t ds) (sqD t es) = sameL ds es := by cases t <;> rfl
      have lx := dxs.length
      have ly := dys.length
      have sd2 := sqD_sz t ds
      have la := szL_len ds
      have lb := szL_len es
      refine ⟨_, rfl, _, _, rfl, (ha.up s4.gh).lenV, _, rfl, _, _, rfl, (hb.up s4.gh).lenV, _, _, rfl, rfl, _, rfl, ite2 (fun c => ?_) (fun c => ?_)⟩
      · have c : ¬ ((xs.length : Nat) : Int) = ((ys.length : Nat) : Int) := nd_of c
        exact bad (by rw [ss]; exact sameL_len (by omega))
      · have c : ((xs.length : Nat) : Int) = ((ys.length : Nat) : Int) := nd_not c
        have lxy : ds.length = es.length := by omega
        refine ⟨_, rfl, _, _, rfl, (hb.up s4.gh).lenV, _, rfl, by omega, by omega, for_range (lo := 0) (n := ((ys.length : Nat) : Int).toNat) (fun i σ' H' => ∃ (ns : List Pr) (y6 : Option V), σ' = [some v, some w, some (.ref l), some (.ref xa), some (.ref a), some (.ref b), y6] ∧ Stq G H G H' ∧
          H' l = some (.lst ((qs ++ ns).map fun x => V.ref x.a)) ∧ (∀ x ∈ qs ++ ns, PairAt G H' x) ∧ ns.length = i ∧ allP ns = ((ds.take i).zip (es.take i)).all (fun p => sameD p.1 p.2) ∧ szP ns = szL (ds.take i) + szL (es.take i)) ?_ ?_ ?_⟩
        · refine ⟨[], y6, rfl, s4, by rw [List.append_nil]; exact hl4, by rw [List.append_nil]; exact hq4, rfl, rfl, rfl⟩
        · rintro i σ' H5 hi ⟨ns, y6, rfl, s5, hl5, hq5, rfl, hal, hsz5⟩
          obtain ⟨x1, e1, a1⟩ := at_nat (xs := xs) (i := ns.length) (by omega)
          obtain ⟨x2, e2, a2⟩ := at_nat (xs := ys) (i := ns.length) (by omega)
          obtain ⟨d1, f1, k1⟩ := dxs.get e1
          obtain ⟨d2, f2, k2⟩ := dys.get e2
          refine ⟨_, rfl, .inl ⟨rfl, _, .of hl5⟩, _, rfl, _, rfl, rIx_of (ha.up s5.gh) a1 ⟨_, rfl, _, rfl, rIx_of (hb.up s5.gh) a2 ⟨by show 2 ≤ sizeLine; decide, fun p H6 n6 => ?_⟩⟩⟩
          have s6 := s5.trans (Stq.loc s5.gh n6).1
          have hl6 := n6.else hl5
          have hq6 : ∀ x ∈ qs ++ ns, PairAt G H6 x := fun x hx => (hq5 x hx).new n6
          have hlen6 := szP_len qs
          refine ⟨l, _, .ref p, rfl, rfl, hl6, ?_, fun H7 e7 => ?_⟩
          · rw [List.length_map, List.length_append, sizeLine_eq]
            omega
          have hp6 : PairAt G H6 ⟨p, x1, x2, d1, d2⟩ := ⟨n6.at, k1, k2⟩
          refine ⟨ns ++ [⟨p, x1, x2, d1, d2⟩], _, rfl, s6.mut gl fl e7, ?_, ?_, ?_, ?_, ?_⟩
          · have := upd_at e7
            rw [this, ← List.append_assoc, List.map_append (l₁ := qs ++ ns)]
            rfl
          · intro x hx
            rw [← List.append_assoc] at hx
            rcases List.mem_append.mp hx with hx | hx
            · exact (hq6 x hx).put hl6 e7
            · rw [List.mem_singleton.mp hx]
              exact hp6.put hl6 e7
          · rw [List.length_append]
            rfl
          · rw [allP_app, allP_one, hal, zip_take f1 f2, List.all_append]
            show _ = (_ && (sameD d1 d2 && true))
            rw [Bool.and_true]
          · rw [szP_app, szP_one, hsz5, szL_takes ds _ f1, szL_takes es _ f2]
            show _ + (szD d1 + szD d2) = _
            omega
        · rintro σ' H5 ⟨ns, y6, rfl, s5, hl5, hq5, hn, hal, hsz5⟩
          have t1 : ds.take ((ys.length : Nat) : Int).toNat = ds := List.take_of_length_le (by omega)
          have t2 : es.take ((ys.length : Nat) : Int).toNat = es := List.take_of_length_le (by omega)
          rw [t1, t2] at hal hsz5
          refine ⟨szP qs + szP ns, by omega, qs ++ ns, _, _, _, _, rfl, s5, hl5, hq5, ?_, szP_app _ _, by omega⟩
          rw [hall, ss, sameL_all lxy, allP_app, hal]
  · have c : ¬ (0 : Int) < ((ps.map fun x => V.ref x.a).length : Nat) := dec_not c
    rw [List.length_map] at c
    have e : ps = [] := List.eq_nil_of_length_eq_zero (by omega)
    subst e
    have q3 := q H3 s3.hh
    rw [hall] at q3
    exact q3


theorem no_level {x : Str} {st : Stmt} {ps : List Str} {sp : Sp} (D : Def K mg x st ps) (no : ∀ vs H Q E, ¬ sp vs H Q E) : Cal P w K mg base x 0 ps sp := by
  obtain ⟨f, fd, F, g, b⟩ := D
  exact ⟨f, fd, ⟨fun vs H Q E h => absurd h (no vs H Q E), fun A outer s H args us vs Q E _ _ _ _ h => absurd h (no vs H Q E)⟩, g, F.kp, b⟩
theorem ok_frozen_step (Z : Zs mg) (D : Ds K mg) (k : Nat) (c__law_frozen : Cal P w K mg base "_law_frozen" k ["value", "deep"] (spFrozen k)) : Cal P w K mg base "_law_frozen" (k + 1) ["value", "deep"] (spFrozen (k + 1)) := by
  refine Def.cal D.d_law_frozen sc_law_frozen (fun vs H Q E h => ?_) (fun f cdv A outer s H vs Q E hr h => ?_)
  · obtain ⟨G, v, d, n, rfl, gh, hd, sz, hn0, hn, q⟩ := h
    rfl
  obtain ⟨G, v, d, n, rfl, gh, hd, sz, hn0, hn, q⟩ := h
  refine ⟨_, (pss_cons (ps_if (PW.pt (pw_and (pt_cmp (pc_gt (pv 1) pe_int) (nomark _)) (pw_and1 (pt_val (pe_callB call_isD (by rfl) Z.z_isinstance (by decide +kernel) (pa_cons (pv 0) (pa_cons (pe_bltn (v := .ty "list") (by rfl) Z.z_list (by decide +kernel) rfl) pa_nil))))))) (pss_one (ps_ret (pe_tupN (pa_cons pe_str (pa_cons (pe_callTy call_tupleN (by rfl) Z.z_tuple (by decide +kernel) (pa_cons (pe_lc (own := [("part", 2)]) (g := gName 2) (tt := tYes) (by rfl) sc_law_frozen.nd (pi_list (pv 0)) (blkOk_by (N := ["value", "deep", "part"]) (sc := defScope s_law_frozen) (by decide +kernel)) (fun _ _ _ _ _ => pg_name (i := 2) sc_law_frozen.nd rfl (Or.inl rfl)) (fun _ _ _ _ _ => pts_nil) (fun _ _ _ _ _ => (pe_cal c__law_frozen (hr.mono (by first | decide | omega)) (by rfl) (pa_cons (pv 2) (pa_cons (pe_op op_sub (pv 1) pe_int) pa_nil))))) pa_nil)) pa_nil))))) pss_nil)
      (pss_cons (ps_if (PW.pt (pw_and (pt_cmp (pc_gt (pv 1) pe_int) (nomark _)) (pw_and1 (pt_val (pe_callB call_isD (by rfl) Z.z_isinstance (by decide +kernel) (pa_cons (pv 0) (pa_cons (pe_bltn (v := .ty "tuple") (by rfl) Z.z_tuple (by decide +kernel) rfl) pa_nil))))))) (pss_one (ps_ret (pe_tupN (pa_cons pe_str (pa_cons (pe_callTy call_tupleN (by rfl) Z.z_tuple (by decide +kernel) (pa_cons (pe_lc (own := [("part", 2)]) (g := gName 2) (tt := tYes) (by rfl) sc_law_frozen.nd (pi_tup (pv 0)) (blkOk_by (N := ["value", "deep", "part"]) (sc := defScope s_law_frozen) (by decide +kernel)) (fun _ _ _ _ _ => pg_name (i := 2) sc_law_frozen.nd rfl (Or.inl rfl)) (fun _ _ _ _ _ => pts_nil) (fun _ _ _ _ _ => (pe_cal c__law_frozen (hr.mono (by first | decide | omega)) (by rfl) (pa_cons (pv 2) (pa_cons (pe_op op_sub (pv 1) pe_int) pa_nil))))) pa_nil)) pa_nil))))) pss_nil)
      (pss_one (ps_ret (pv 0))))), ?_⟩
  have hdH := hd.up gh
  have out : n ≤ 0 → Q v H := fun hn => by
    refine q v G H (.refl gh) ?_
    rw [show n.toNat = 0 by omega]
    have : frz 0 d = d := by cases d <;> rfl
    rw [this]
    exact hd
  refine ⟨_, rfl, _, _, rfl, rfl, _, rfl, ite2 (fun c => ?_) (fun c => iteF ?_)⟩
  · have c : 0 < n := dec_of c
    obtain ⟨m, hm⟩ : ∃ m, n.toNat = m + 1 := ⟨n.toNat - 1, by omega⟩
    refine ⟨_, rfl, v, d, "list", rfl, hdH, ok_list, _, rfl, ?_⟩
    have rest : instB d "list" = false → (frz n.toNat d = d ∨ ∃ ds, d = .tuple ds) := by
      intro h
      cases d with
      | list ds => rw [ib_list_list] at h; cases h
      | tuple ds => exact .inr ⟨ds, rfl⟩
      | _ => left; rw [hm]; rfl
    rcases hd.kind with ⟨rfl, rfl⟩ | ⟨b, rfl, rfl⟩ | ⟨j, rfl, rfl⟩ | ⟨j, rfl, rfl⟩ | ⟨a, xs, ds, t, rfl, ha, hat, hal, dxs, rfl⟩
    · exact iteBF ib_none_list (⟨_, rfl, _, _, rfl, rfl, _, rfl, iteDT c ⟨_, rfl, _, _, "tuple", rfl, hdH, ok_tuple, _, rfl, iteBF ib_none_tuple ⟨_, rfl, q _ G H (.refl gh) (by rw [hm]; exact hd)⟩⟩⟩)
    · exact iteBF (ib_bool_list b) (⟨_, rfl, _, _, rfl, rfl, _, rfl, iteDT c ⟨_, rfl, _, _, "tuple", rfl, hdH, ok_tuple, _, rfl, iteBF (ib_bool_tuple b) ⟨_, rfl, q _ G H (.refl gh) (by rw [hm]; exact hd)⟩⟩⟩)
    · exact iteBF (ib_int_list j) (⟨_, rfl, _, _, rfl, rfl, _, rfl, iteDT c ⟨_, rfl, _, _, "tuple", rfl, hdH, ok_tuple, _, rfl, iteBF (ib_int_tuple j) ⟨_, rfl, q _ G H (.refl gh) (by rw [hm]; exact hd)⟩⟩⟩)
    · exact iteBF (ib_str_list j) (⟨_, rfl, _, _, rfl, rfl, _, rfl, iteDT c ⟨_, rfl, _, _, "tuple", rfl, hdH, ok_tuple, _, rfl, iteBF (ib_str_tuple j) ⟨_, rfl, q _ G H (.refl gh) (by rw [hm]; exact hd)⟩⟩⟩)
    · have lx := dxs.length
      have zz := sqD_sz t ds
      have zl := szL_len ds
      cases t with
      | false =>
        have ha := hal rfl
        refine iteBT (ib_list_list ds) ?_
        refine ⟨_, rfl, a, rfl, ⟨_, .of (gh _ _ ha)⟩, fun l hl => ?_⟩
        refine lc_list (xs := xs) (fun i H' => ∃ (G' : Hp) (zs : List V), Stq G H G' H' ∧ G' l = none ∧ H l = none ∧ H' l = some (.lst zs) ∧ zs.length = i ∧ DaAll G' zs ((ds.take i).map (frz m))) ?_ ?_ ?_ ?_
        · obtain ⟨s1, gl, h1, fl⟩ := (Stq.refl gh).loc2 (p := l) (o := .lst []) ⟨hl, rfl⟩
          exact ⟨G, [], s1, gl, fl, h1, rfl, .nil⟩
        · rintro i H' hi ⟨G', zs, s1, _⟩
          exact .of (s1.hh _ _ (gh _ _ ha))
        · rintro i x H1 hi ⟨G1, zs, s1, gl, fl, h1, rfl, dz⟩
          obtain ⟨e, he, hde⟩ := dxs.get hi
          have ze := szL_get he
          have hi2 := (List.getElem?_eq_some_iff.mp hi).1
          refine ⟨rfl, yesT ⟨_, rfl, _, rfl, _, _, rfl, rfl, G1, x, e, n - 1, rfl, s1.gh, hde.up s1.gg, by omega, by omega, by omega, fun v' G2 H2 s2 dv => ?_⟩⟩
          have h2 := s2.hh _ _ h1
          have gl2 := s2.nw2 h1 gl
          have dz2 := dz.up s2.gg
          have s2 := s1.trans s2
          rw [show (n - 1).toNat = m by omega] at dv
          refine ⟨_, h2, lt (by omega), G2, zs ++ [v'], s2.mut gl2 fl rfl, gl2, fl, upd_same, by rw [List.length_append]; rfl, ?_⟩
          rw [List.take_add_one, he, List.map_append]
          exact dz2.append (.one dv)
        · rintro H1 ⟨G1, zs, s1, gl, fl, h1, hz, dz⟩
          rw [List.take_of_length_le (by omega)] at dz
          refine ⟨l, zs, rfl, .of h1, fun p H2 n2 => ⟨by show 2 ≤ sizeLine; decide, fun p2 H3 n3 => ?_⟩⟩
          obtain ⟨G2, s2, g2, k2, _⟩ := s1.know2 n2
          obtain ⟨G3, s3, g3, k3, _⟩ := s2.know2 n3
          refine q _ G3 H3 s3 ?_
          rw [hm]
          exact .tup k3 (.cons (.str _) (.one (.tup (g3 _ _ k2) (dz.up (g2.trans g3)))))
      | true =>
        have ha := hat rfl
        refine iteBF (ib_tuple_list ds) (⟨_, rfl, _, _, rfl, rfl, _, rfl, iteDT c ⟨_, rfl, _, _, "tuple", rfl, hdH, ok_tuple, _, rfl, iteBT (ib_tuple_tuple ds) ?_⟩⟩)
        refine ⟨_, rfl, a, rfl, ⟨_, .of (gh _ _ ha)⟩, fun l hl => ?_⟩
        refine lc_tup (xs := xs) (fun i H' => ∃ (G' : Hp) (zs : List V), Stq G H G' H' ∧ G' l = none ∧ H l = none ∧ H' l = some (.lst zs) ∧ zs.length = i ∧ DaAll G' zs ((ds.take i).map (frz m))) ?_ ?_ ?_ ?_
        · obtain ⟨s1, gl, h1, fl⟩ := (Stq.refl gh).loc2 (p := l) (o := .lst []) ⟨hl, rfl⟩
          exact ⟨G, [], s1, gl, fl, h1, rfl, .nil⟩
        · rintro i H' hi ⟨G', zs, s1, _⟩
          exact .of (s1.hh _ _ (gh _ _ ha))
        · rintro i x H1 hi ⟨G1, zs, s1, gl, fl, h1, rfl, dz⟩
          obtain ⟨e, he, hde⟩ := dxs.get hi
          have ze := szL_get he
          have hi2 := (List.getElem?_eq_some_iff.mp hi).1
          refine ⟨rfl, yesT ⟨_, rfl, _, rfl, _, _, rfl, rfl, G1, x, e, n - 1, rfl, s1.gh, hde.up s1.gg, by omega, by omega, by omega, fun v' G2 H2 s2 dv => ?_⟩⟩
          have h2 := s2.hh _ _ h1
          have gl2 := s2.nw2 h1 gl
          have dz2 := dz.up s2.gg
          have s2 := s1.trans s2
          rw [show (n - 1).toNat = m by omega] at dv
          refine ⟨_, h2, lt (by omega), G2, zs ++ [v'], s2.mut gl2 fl rfl, gl2, fl, upd_same, by rw [List.length_append]; rfl, ?_⟩
          rw [List.take_add_one, he, List.map_append]
          exact dz2.append (.one dv)
        · rintro H1 ⟨G1, zs, s1, gl, fl, h1, hz, dz⟩
          rw [List.take_of_length_le (by omega)] at dz
          refine ⟨l, zs, rfl, .of h1, fun p H2 n2 => ⟨by show 2 ≤ sizeLine; decide, fun p2 H3 n3 => ?_⟩⟩
          obtain ⟨G2, s2, g2, k2, _⟩ := s1.know2 n2
          obtain ⟨G3, s3, g3, k3, _⟩ := s2.know2 n3
          refine q _ G3 H3 s3 ?_
          rw [hm]
          exact .tup k3 (.cons (.str _) (.one (.tup (g3 _ _ k2) (dz.up (g2.trans g3)))))
  · have c : ¬ 0 < n := dec_not c
    exact ⟨_, rfl, _, _, rfl, rfl, _, rfl, iteDF c (iteF ⟨_, rfl, out (by omega)⟩)⟩
theorem ok_frozen (Z : Zs mg) (D : Ds K mg) : ∀ k, Cal P w K mg base "_law_frozen" k ["value", "deep"] (spFrozen k)
  | 0 => no_level D.d_law_frozen fun vs H Q E h => by
    obtain ⟨G, v, d, n, _, _, _, _, h0, h1, _⟩ := h
    omega
  | k + 1 => ok_frozen_step Z D k (ok_frozen Z D k)


theorem ok_is_number (Z : Zs mg) (D : Ds K mg) : Cal P w K mg base "is_number" 1 ["value", "low", "high"] spIsNum := by
  refine Def.cal D.d_is_number sc_is_number (fun vs H Q E h => ?_) (fun f cdv A outer s H vs Q E hr h => ?_)
  · obtain ⟨v, d, lo, hi, rfl, hd, q⟩ := h
    rfl
  obtain ⟨v, d, lo, hi, rfl, hd, q⟩ := h
  refine ⟨_, (pss_one (ps_ret (pe_and (pe_callB call_isD (by rfl) Z.z_isinstance (by decide +kernel) (pa_cons (pv 0) (pa_cons (pe_bltn (v := .ty "int") (by rfl) Z.z_int (by decide +kernel) rfl) pa_nil))) (pe_and (pe_not (pe_callB call_isD (by rfl) Z.z_isinstance (by decide +kernel) (pa_cons (pv 0) (pa_cons (pe_bltn (v := .ty "bool") (by rfl) Z.z_bool (by decide +kernel) rfl) pa_nil)))) (pe_one (pe_chain op_le op_le (pv 1) (pv 0) (pv 2))))))), ?_⟩
  refine ⟨_, rfl, v, d, "int", rfl, hd, ok_int, _, rfl, ?_⟩
  rcases hd.kind with ⟨rfl, rfl⟩ | ⟨b, rfl, rfl⟩ | ⟨i, rfl, rfl⟩ | ⟨j, rfl, rfl⟩ | ⟨a, xs, ds, t, rfl, ha, hat, hal, dxs, rfl⟩
  · exact iteBF ib_none_int q
  · exact iteBT (ib_bool_int b) ⟨_, rfl, _, _, "bool", rfl, hd, ok_bool, _, rfl, _, rfl, iteBF (by rw [ib_bool_bool]; rfl) q⟩
  · refine iteBT (ib_int_int i) ⟨_, rfl, _, _, "bool", rfl, hd, ok_bool, _, rfl, _, rfl, iteBT (by rw [ib_int_bool]; rfl) ⟨_, rfl, _, rfl, _, _, rfl, rfl, _, rfl, ?_⟩⟩
    have q : Q (.bl (decide (lo ≤ i) && decide (i ≤ hi))) H := q
    refine ite2 (fun c => ⟨_, rfl, _, _, rfl, rfl, ?_⟩) (fun c => ?_)
    · rw [c, Bool.true_and] at q
      exact q
    · rw [Bool.eq_false_iff.mpr c, Bool.false_and] at q
      exact q
  · exact iteBF (ib_str_int j) q
  · cases t with
    | true => exact iteBF (ib_tuple_int ds) q
    | false => exact iteBF (ib_list_int ds) q
theorem ok_is_point (Z : Zs mg) (D : Ds K mg) (c_is_number : Cal P w K mg base "is_number" 1 ["value", "low", "high"] spIsNum) : Cal P w K mg base "is_point" 2 ["points", "value"] spIsPoint := by
  refine Def.cal D.d_is_point sc_is_point (fun vs H Q E h => ?_) (fun f cdv A outer s H vs Q E hr h => ?_)
  · obtain ⟨v, d, n, rfl, hd, q⟩ := h
    rfl
  obtain ⟨v, d, n, rfl, hd, q⟩ := h
  refine ⟨_, (pss_one (ps_ret (pe_cal c_is_number (hr.mono (by first | decide | omega)) (by rfl) (pa_cons (pv 1) (pa_cons pe_int (pa_cons (pe_op op_sub (pv 0) pe_int) pa_nil)))))), ?_⟩
  exact ⟨_, rfl, _, rfl, _, _, rfl, rfl, v, d, 0, n - 1, rfl, hd, q⟩
theorem ok_is_move_on (Z : Zs mg) (D : Ds K mg) (c_is_point : Cal P w K mg base "is_point" 2 ["points", "value"] spIsPoint) : Cal P w K mg base "is_move_on" 3 ["points", "value"] spIsMoveOn := by
  refine Def.cal D.d_is_move_on sc_is_move_on (fun vs H Q E h => ?_) (fun f cdv A outer s H vs Q E hr h => ?_)
  · obtain ⟨G, v, d, n, rfl, gh, hd, sz, q⟩ := h
    rfl
  obtain ⟨G, v, d, n, rfl, gh, hd, sz, q⟩ := h
  refine ⟨_, (pss_cons (ps_if (PW.pt (pw_or (pt_not (pt_val (pe_callB call_isD (by rfl) Z.z_isinstance (by decide +kernel) (pa_cons (pv 1) (pa_cons (pe_bltn (v := .ty "tuple") (by rfl) Z.z_tuple (by decide +kernel) rfl) pa_nil))))) (pw_or1 (pt_cmp (pc_neI (pe_callB call_len (by rfl) Z.z_len (by decide +kernel) (pa_cons (pv 1) pa_nil)) (pv 0)) (nomark _))))) (pss_one (ps_ret pe_bl)) pss_nil)
      (pss_one (ps_ret (pe_and (pe_callB (cr_all rfl) (by rfl) Z.z_all (by decide +kernel) (pa_cons (pe_lc (own := [("image", 2)]) (g := gName 2) (tt := tYes) (by rfl) sc_is_move_on.nd (pi_tup (pv 1)) (blkOk_by (N := ["points", "value", "image"]) (sc := defScope s_is_move_on) (by decide +kernel)) (fun _ _ _ _ _ => pg_name (i := 2) sc_is_move_on.nd rfl (Or.inl rfl)) (fun _ _ _ _ _ => pts_nil) (fun _ _ _ _ _ => (pe_cal c_is_point (hr.mono (by first | decide | omega)) (by rfl) (pa_cons (pv 0) (pa_cons (pv 2) pa_nil))))) pa_nil)) (pe_one (pe_cmpR (op_eqLI hr.units) (pe_callB call_sortT (by rfl) Z.z_sorted (by decide +kernel) (pa_cons (pv 1) pa_nil)) (pe_listRgN rfl (by rfl) Z.z_list (prg_1 (by rfl) Z.z_range (pv 0))) (nomark _))))))), ?_⟩
  have hdH := hd.up gh
  refine ⟨_, rfl, v, d, "tuple", rfl, hdH, ok_tuple, _, rfl, ?_⟩
  rcases hd.kind with ⟨rfl, rfl⟩ | ⟨b, rfl, rfl⟩ | ⟨j, rfl, rfl⟩ | ⟨j, rfl, rfl⟩ | ⟨a, xs, ds, t, rfl, ha, hat, hal, dxs, rfl⟩
  · exact iteBT (by rw [ib_none_tuple]; rfl) (iteT (q H (.refl _)))
  · exact iteBT (by rw [ib_bool_tuple]; rfl) (iteT (q H (.refl _)))
  · exact iteBT (by rw [ib_int_tuple]; rfl) (iteT (q H (.refl _)))
  · exact iteBT (by rw [ib_str_tuple]; rfl) (iteT (q H (.refl _)))
  cases t with
  | false => exact iteBT (by rw [show instB (sqD false ds) "tuple" = false from ib_list_tuple ds]; rfl) (iteT (q H (.refl _)))
  | true =>
    have ha := hat rfl
    have lx := dxs.length
    have cn : mvOn n (sqD true ds) = (decide (((ds.length : Nat) : Int) = n) && (ds.all (fun d => isNum d 0 (n - 1)) && decide ((intsOf ds).Perm (rngI n)))) := rfl
    refine iteBF (by rw [show instB (sqD true ds) "tuple" = true from ib_tuple_tuple ds]; rfl) ⟨_, rfl, _, _, rfl, .inr ⟨xs, .of (gh _ _ ha), rfl⟩, _, rfl, _, _, rfl, rfl, _, rfl, ite2 (fun c => ?_) (fun c => ?_)⟩
    · have c : ¬ ((xs.length : Nat) : Int) = n := nd_of c
      have q1 := q H (.refl _)
      rw [cn, decide_eq_false (by omega), Bool.false_and] at q1
      exact q1
    have c : ((xs.length : Nat) : Int) = n := nd_not c
    have szl : ds.length ≤ 1000000 := by
      have := szL_len ds
      have := sqD_sz true ds
      omega
    rw [cn, decide_eq_true (by omega), Bool.true_and] at q
    refine ⟨_, rfl, a, rfl, ⟨_, .of (gh _ _ ha)⟩, fun l hl => ?_⟩
    refine lc_tup (xs := xs) (fun j H' => Same H H' ∧ H l = none ∧ H' l = some (.lst (((ds.take j).map fun d => isNum d 0 (n - 1)).map V.bl))) ?_ ?_ ?_ ?_
    · exact ⟨New.same (o := .lst []) ⟨hl, rfl⟩, hl, upd_same⟩
    · rintro j H' hj ⟨g2, _⟩
      exact .of (g2 _ _ (gh _ _ ha))
    · rintro j x H2 hj ⟨g2, fl, hz⟩
      obtain ⟨e, he, hde⟩ := dxs.get hj
      have hj2 := (List.getElem?_eq_some_iff.mp hj).1
      refine ⟨rfl, yesT ⟨_, rfl, _, rfl, x, e, n, rfl, hde.up (gh.trans g2), _, hz, ?_, fun b o h => ?_, fl, ?_⟩⟩
      · rw [List.length_map, List.length_map, List.length_take, sizeLine_eq]
        omega
      · rw [upd_ne (ne_of_none h fl)]
        exact g2 _ _ h
      · rw [upd_same, List.take_add_one, he, List.map_append, List.map_append]
        rfl
    · rintro H2 ⟨g2, fl, hz⟩
      rw [List.take_of_length_le (by omega)] at hz
      refine ⟨l, _, rfl, .of hz, _, rfl, ?_⟩
      have ea : (ds.map fun d => isNum d 0 (n - 1)).all id = ds.all fun d => isNum d 0 (n - 1) := by rw [List.all_map]; rfl
      refine ite2 (fun c2 => ?_) (fun c2 => ?_)
      · rw [ea] at c2
        rw [c2, Bool.true_and] at q
        have ed := ints_isNum c2
        have ex : xs = (intsOf ds).map V.int := vals_int (G := G) (by rw [← ed]; exact dxs)
        refine ⟨_, rfl, a, intsOf ds, rfl, ?_, fun ns' p H3 pm srt n3 => ?_⟩
        · rw [← ex]
          exact .of (g2 _ _ (gh _ _ ha))
        refine ⟨_, rfl, n, rfl, .of_le (by decide) (by omega) (by decide) (by omega), fun r H4 n4 => ?_⟩
        have h4 := n4.at
        rw [rgV_rngI] at h4
        refine ⟨p, r, ns', rngI n, rfl, rfl, .of (n4.else n3.at), .of h4, ?_⟩
        have q4 := q H4 (g2.trans (n3.same.trans n4.same))
        have e : decide (ns' = rngI n) = decide ((intsOf ds).Perm (rngI n)) := by
          refine decide_eq_decide.mpr ⟨fun h => h ▸ pm.symm, fun h => ?_⟩
          exact List.Perm.eq_of_pairwise (le := (· ≤ ·)) (fun a b _ _ h1 h2 => Int.le_antisymm h1 h2) srt (rngI_sorted n) (pm.trans h)
        rw [e]
        exact q4
      · rw [ea] at c2
        rw [Bool.eq_false_iff.mpr c2, Bool.false_and] at q
        exact q H2 g2
theorem ok_is_move (Z : Zs mg) (D : Ds K mg) (c_is_move_on : Cal P w K mg base "is_move_on" 3 ["points", "value"] spIsMoveOn) : Cal P w K mg base "is_move" 4 ["value"] spIsMove := by
  refine Def.cal D.d_is_move sc_is_move (fun vs H Q E h => ?_) (fun f cdv A outer s H vs Q E hr h => ?_)
  · obtain ⟨G, v, d, rfl, gh, hd, sz, q⟩ := h
    rfl
  obtain ⟨G, v, d, rfl, gh, hd, sz, q⟩ := h
  refine ⟨_, (pss_one (ps_ret (pe_and (pe_callB call_isD (by rfl) Z.z_isinstance (by decide +kernel) (pa_cons (pv 0) (pa_cons (pe_bltn (v := .ty "tuple") (by rfl) Z.z_tuple (by decide +kernel) rfl) pa_nil))) (pe_and (pe_cmp (pc_le (pe_callB call_len (by rfl) Z.z_len (by decide +kernel) (pa_cons (pv 0) pa_nil)) (pe_globI (by rfl) Z.c_MOST_POINTS)) (nomark _)) (pe_one (pe_cal c_is_move_on (hr.mono (by first | decide | omega)) (by rfl) (pa_cons (pe_callB call_len (by rfl) Z.z_len (by decide +kernel) (pa_cons (pv 0) pa_nil)) (pa_cons (pv 0) pa_nil)))))))), ?_⟩
  have hdH := hd.up gh
  refine ⟨_, rfl, v, d, "tuple", rfl, hdH, ok_tuple, _, rfl, ?_⟩
  rcases hd.kind with ⟨rfl, rfl⟩ | ⟨b, rfl, rfl⟩ | ⟨j, rfl, rfl⟩ | ⟨j, rfl, rfl⟩ | ⟨a, xs, ds, t, rfl, ha, hat, hal, dxs, rfl⟩
  · exact iteBF ib_none_tuple (q H (.refl _))
  · exact iteBF (ib_bool_tuple b) (q H (.refl _))
  · exact iteBF (ib_int_tuple j) (q H (.refl _))
  · exact iteBF (ib_str_tuple j) (q H (.refl _))
  cases t with
  | false => exact iteBF (show instB (sqD false ds) "tuple" = false from ib_list_tuple ds) (q H (.refl _))
  | true =>
    have ha := hat rfl
    have lx := dxs.length
    have cn : mvD (sqD true ds) = (decide (ds.length ≤ 12) && mvOn ds.length (sqD true ds)) := rfl
    rw [cn] at q
    refine iteBT (show instB (sqD true ds) "tuple" = true from ib_tuple_tuple ds) ⟨_, rfl, _, _, rfl, .inr ⟨xs, .of (gh _ _ ha), rfl⟩, _, _, rfl, rfl, _, rfl, ite2 (fun c => ?_) (fun c => ?_)⟩
    · have c : ((xs.length : Nat) : Int) ≤ 12 := dec_of c
      rw [decide_eq_true (by omega), Bool.true_and] at q
      refine ⟨_, rfl, _, _, rfl, .inr ⟨xs, .of (gh _ _ ha), rfl⟩, _, rfl, G, _, _, _, rfl, gh, hd, sz, fun H' g => ?_⟩
      rw [lx]
      exact q H' g
    · have c : ¬ ((xs.length : Nat) : Int) ≤ 12 := dec_not c
      rw [decide_eq_false (by omega), Bool.false_and] at q
      exact q H (.refl _)


theorem ok_move (Z : Zs mg) (D : Ds K mg) (c__law_take : Cal P w K mg base "_law_take" 2 ["store", "many"] spTake) (c__law_drawn : Cal P w K mg base "_law_drawn" 3 ["store", "things", "many"] spDrawn) : Cal P w K mg base "_law_move" 4 ["store", "points"] spMove := by
  refine Def.cal D.d_law_move sc_law_move (fun vs H Q E h => ?_) (fun f cdv A outer s H vs Q E hr h => ?_)
  · obtain ⟨S, G, n, rfl, wd, h0, h1, q⟩ := h
    rfl
  obtain ⟨S, G, n, rfl, wd, h0, h1, q⟩ := h
  refine ⟨_, (pss_cons (ps_set (i := 2) sc_law_move.nd rfl (Or.inl rfl) (pe_cal c__law_take (hr.mono (by first | decide | omega)) (by rfl) (pa_cons (pv 0) (pa_cons pe_int pa_nil))))
      (pss_cons (ps_set (i := 3) sc_law_move.nd rfl (Or.inl rfl) (pe_listRgN rfl (by rfl) Z.z_list (prg_1 (by rfl) Z.z_range (pv 1))))
      (pss_cons (ps_if (PW.pt (pw_or (pt_cmp (pc_eqI (pv 2) pe_int) (nomark _)) (pw_or1 (pt_cmp (pc_lt (pv 1) pe_int) (nomark _))))) (pss_one (ps_ret (pe_callTy call_tupleN (by rfl) Z.z_tuple (by decide +kernel) (pa_cons (pv 3) pa_nil)))) pss_nil)
      (pss_cons (ps_if (pt_cmp (pc_lt (pv 2) pe_int) (nomark _)) (pss_cons (ps_set (i := 4) sc_law_move.nd rfl (Or.inl rfl) pe_int)
      (Evl.pss_cut (ps_if (pt_cmp (pc_gt (pv 2) pe_int) (nomark _)) (pss_one (ps_set (i := 4) sc_law_move.nd rfl (Or.inl rfl) (pe_op op_add pe_int (pe_cal c__law_take (hr.mono (by first | decide | omega)) (by rfl) (pa_cons (pv 0) (pa_cons (pe_op op_sub (pv 1) pe_int) pa_nil)))))) pss_nil)
      (pss_cons (ps_set (i := 5) sc_law_move.nd rfl (Or.inl rfl) (pe_cal c__law_drawn (hr.mono (by first | decide | omega)) (by rfl) (pa_cons (pv 0) (pa_cons (pv 3) (pa_cons (pv 4) pa_nil)))))
      (pss_cons (ps_for PassesOwn.never rfl (pi_range1 (by rfl) Z.z_range (pa_cons (pv 4) pa_nil)) (pg_name (i := 6) sc_law_move.nd rfl (Or.inl rfl)) (pss_one (ps_asg (pe_ix ix_list (pv 5) (pe_op op_mod (pe_callTy call_int1 (by rfl) Z.z_int (by decide +kernel) (pa_cons (pe_op op_add (pv 6) pe_int) pa_nil)) (pv 4)) (fun _ _ => rfl)) (pg_sub (pv 3) (pe_ix ix_list (pv 5) (pv 6) (fun _ _ => rfl)) set_listN))))
      (pss_one (ps_ret (pe_callTy call_tupleN (by rfl) Z.z_tuple (by decide +kernel) (pa_cons (pv 3) pa_nil)))))))) pss_nil)
      (pss_cons (ps_if (pt_cmp (pc_eqI (pv 2) pe_int) (nomark _)) (pss_cons (ps_set (i := 7) sc_law_move.nd rfl (Or.inr rfl) (pe_op op_add pe_int (pe_cal c__law_take (hr.mono (by first | decide | omega)) (by rfl) (pa_cons (pv 0) (pa_cons (pe_op op_sub (pv 1) pe_int) pa_nil)))))
      (pss_one (ps_ret (pe_callTy call_tupleN (by rfl) Z.z_tuple (by decide +kernel) (pa_cons (pe_lc (own := [("k", 6)]) (g := gName 6) (tt := tYes) (by rfl) sc_law_move.nd (pi_range1 (by rfl) Z.z_range (pa_cons (pv 1) pa_nil)) (blkOk_by (N := ["store", "points", "pick", "image", "size", "ring_row", "k", "shift"]) (sc := defScope s_law_move) (by decide +kernel)) (fun _ _ _ _ _ => pg_name (i := 6) sc_law_move.nd rfl (Or.inl rfl)) (fun _ _ _ _ _ => pts_nil) (fun _ _ _ _ _ => (pe_op op_mod (pe_callTy call_int1 (by rfl) Z.z_int (by decide +kernel) (pa_cons (pe_op op_add (pv 6) (pv 7)) pa_nil)) (pv 1)))) pa_nil))))) pss_nil)
      (pss_cons (ps_if (pt_cmp (pc_eqI (pv 2) pe_int) (nomark _)) (pss_one (ps_ret (pe_callTy call_tupleN (by rfl) Z.z_tuple (by decide +kernel) (pa_cons (pe_lc (own := [("k", 6)]) (g := gName 6) (tt := tYes) (by rfl) sc_law_move.nd (pi_range1 (by rfl) Z.z_range (pa_cons (pv 1) pa_nil)) (blkOk_by (N := ["store", "points", "pick", "image", "size", "ring_row", "k", "shift"]) (sc := defScope s_law_move) (by decide +kernel)) (fun _ _ _ _ _ => pg_name (i := 6) sc_law_move.nd rfl (Or.inl rfl)) (fun _ _ _ _ _ => pts_nil) (fun _ _ _ _ _ => (pe_op op_sub (pe_op op_sub (pv 1) pe_int) (pv 6)))) pa_nil)))) pss_nil)
      (pss_one (ps_ret (pe_callTy call_tupleN (by rfl) Z.z_tuple (by decide +kernel) (pa_cons (pe_cal c__law_drawn (hr.mono (by first | decide | omega)) (by rfl) (pa_cons (pv 0) (pa_cons (pv 3) (pa_cons (pv 1) pa_nil)))) pa_nil)))))))))), ?_⟩
  refine ⟨_, rfl, S, G, 8, rfl, wd, by omega, fun d1 H1 p0 p1 s1 => ?_⟩
  refine ⟨_, rfl, n, rfl, .of_le (by decide) (by omega) (by decide) (by omega), fun l H2 n2 => ?_⟩
  obtain ⟨s2, gl, hl, fl⟩ := s1.loc n2
  rw [rgV_rngI] at hl
  have ret : ∀ (H3 : Hp) (L : List Int), Go S G H G H3 → H3 l = some (.lst (L.map V.int)) → IsMv L n → ∃ p ys, [V.ref l] = [.ref p] ∧ SqL K H3 p ys ∧ ∀ p2 H4, New H3 p2 (.tup ys) H4 → Q (.ref p2) H4 := fun H3 L s3 h3 mv =>
    ⟨l, _, rfl, .of h3, fun p2 H4 n4 => by
      obtain ⟨G4, s4, _, k4, _⟩ := s3.know n4
      exact q p2 L G4 H4 s4 k4 mv⟩
  have plain := ret H2 _ s2 hl rngI_mv
  refine ⟨_, rfl, _, _, rfl, rfl, _, rfl, ite2 (fun c => iteT ⟨_, rfl, plain⟩) (fun c => ?_)⟩
  refine ⟨_, rfl, _, _, rfl, rfl, _, rfl, ite2 (fun c => ⟨_, rfl, plain⟩) (fun c => ?_)⟩
  have hn : ¬ n < 2 := dec_not c
  refine ⟨_, rfl, _, _, rfl, rfl, _, rfl, ite2 (fun c => ?_) (fun c => ?_)⟩
  · -- a ring
    refine ⟨fun σ' H' => ∃ m, σ' = [some (.ref S.a), some (.int n), some (.int d1), some (.ref l), some (.int m), none, none, none] ∧ Go S G H G H' ∧ H' l = some (.lst ((rngI n).map V.int)) ∧ 2 ≤ m ∧ m ≤ n, ?_, ?_⟩
    · refine ⟨_, rfl, _, _, rfl, rfl, _, rfl, ite2 (fun c => ?_) (fun c => ⟨2, rfl, s2, hl, by omega, by omega⟩)⟩
      refine ⟨_, rfl, _, rfl, _, _, rfl, rfl, S, G, n - 1, rfl, s2.wd, by omega, fun t H3 t0 t1 s3 => ⟨_, _, rfl, rfl, 2 + t, rfl, s2.trans s3, s3.hh hl (s2.ns fl), by omega, by omega⟩⟩
    · rintro σ' H3 ⟨m, rfl, s3, hl, m0, m1⟩
      refine ⟨_, rfl, _, rfl, _, rfl, S, G, l, _, m, rfl, s3.wd, .inl hl, by rw [List.length_map, rngI_len]; omega, by omega, by omega, fun r ys rest H4 s4 gr fr hr pm0 hy => ?_⟩
      obtain ⟨rs, ms, rfl, rfl, pm⟩ := perm_ints pm0
      rw [List.length_map, List.length_map, rngI_len] at hy
      have hm : rs.length = m.toNat := by omega
      have hl4 := s4.hh hl (s3.ns fl)
      have fr3 := fr
      have s4 := s3.trans s4
      have fr := s3.fresh fr
      have nd : rs.Nodup := (List.nodup_append.mp (pm.nodup_iff.mpr (rngI_nodup n))).1
      have hb : ∀ x ∈ rs, 0 ≤ x ∧ x < n := fun x hx => rngI_mem.mp (pm.mem_iff.mp (List.mem_append_left _ hx))
      have hb2 : ∀ x ∈ rs, 0 ≤ x ∧ x < ((n.toNat : Nat) : Int) := fun x hx => by have := hb x hx; omega
      have nrl : r ≠ l := fun z => by rw [z] at fr3; rw [hl] at fr3; cases fr3
      refine ⟨_, rfl, m, rfl, by omega, by omega, for_range (lo := 0) (n := m.toNat) (fun i σ' H' => ∃ (L : List Int) (y6 : Option V), σ' = [some (.ref S.a), some (.int n), some (.int d1), some (.ref l), some (.int m), some (.ref r), y6, none] ∧ Go S G H G H' ∧ H' l = some (.lst (L.map V.int)) ∧ H' r = some (.lst (rs.map V.int)) ∧ Ring n.toNat rs i L) ⟨rngI n, none, rfl, s4, hl4, hr, Ring.start n rs⟩ ?_ ?_⟩
      · rintro i σ' H5 hi ⟨L, y6, rfl, s5, h5, hr5, R⟩
        obtain ⟨a, e1, e2, _⟩ := atI_ints (ns := rs) (d := (0 + (i : Int) + 1) % m) (Int.emod_nonneg _ (by omega)) (by have := Int.emod_lt_of_pos (0 + (i : Int) + 1) (show 0 < m by omega); omega)
        obtain ⟨b, f1, f2, _⟩ := atI_ints (ns := rs) (d := 0 + (i : Int)) (by omega) (by omega)
        rw [show (0 + (i : Int)).toNat = i by omega] at f1
        have e1 : rs[(i + 1) % rs.length]? = some a := by
          rw [← e1]
          congr 1
          rw [hm, show 0 + (i : Int) + 1 = (((i + 1 : Nat)) : Int) by omega]
          have : ((i + 1 : Nat) : Int) % m = (((i + 1) % m.toNat : Nat) : Int) := by
            rw [Int.natCast_emod, Int.toNat_of_nonneg (by omega)]
          rw [this]
          rfl
        have bb := hb b (List.mem_of_getElem? f1)
        refine ⟨_, rfl, _, rfl, _, _, rfl, rfl, .inl ⟨_, rfl, _, rfl, _, _, rfl, rfl, by omega, r, _, _, _, rfl, rfl, .of hr5, e2, ?_⟩⟩
        refine ⟨_, rfl, _, rfl, _, rfl, r, _, _, _, rfl, rfl, .of hr5, f2, l, _, b.toNat, rfl, by rw [Int.toNat_of_nonneg bb.1], h5, by rw [List.length_map, R.1]; omega, fun H6 e6 => ?_⟩
        refine ⟨L.set b.toNat a, _, rfl, s5.mut gl fl e6, ?_, upd_else e6 hr5 nrl, R.step nd hb2 f1 e1⟩
        rw [upd_at e6, List.map_set]
      · rintro σ' H5 ⟨L, y6, rfl, s5, h5, hr5, R⟩
        exact ⟨_, rfl, ret H5 L s5 h5 (Ring.mv h0 (by rw [hm]; exact R) hb)⟩
  refine ⟨_, rfl, _, _, rfl, rfl, _, rfl, ite2 (fun c => ?_) (fun c => ?_)⟩
  · -- a shift
    refine ⟨_, rfl, _, rfl, _, _, rfl, rfl, S, G, n - 1, rfl, s2.wd, by omega, fun t H3 t0 t1 s3 => ⟨_, _, rfl, rfl, ?_⟩⟩
    have s3 := s2.trans s3
    refine ⟨_, rfl, n, rfl, by omega, by omega, fun e he => ?_⟩
    refine lc_range (lo := 0) (n := n.toNat) (fun i H' => Go S G H G H' ∧ G e = none ∧ H e = none ∧ H' e = some (.lst (((List.range i).map fun (k : Nat) => ((k : Int) + (1 + t)) % n).map V.int))) ?_ ?_ ?_
    · obtain ⟨s4, ge, h4, fe⟩ := s3.loc (p := e) (o := .lst []) ⟨he, rfl⟩
      exact ⟨s4, ge, fe, h4⟩
    · rintro i H4 hi ⟨s4, ge, fe, h4⟩
      refine ⟨rfl, yesT ⟨_, rfl, _, rfl, _, _, rfl, rfl, .inl ⟨_, rfl, _, rfl, _, _, rfl, rfl, by omega, _, h4, ?_, s4.mut ge fe rfl, ge, fe, ?_⟩⟩⟩
      · rw [List.length_map, List.length_map, List.length_range]
        exact lt (by omega)
      · rw [upd_same, List.range_succ, List.map_append, List.map_append, Int.zero_add]
        rfl
    · rintro H4 ⟨s4, ge, fe, h4⟩
      refine ⟨e, _, rfl, .of h4, fun p H5 n5 => ?_⟩
      obtain ⟨G5, s5, _, k5, _⟩ := s4.know n5
      exact q p _ G5 H5 s5 k5 (shift_mv (by omega))
  refine ⟨_, rfl, _, _, rfl, rfl, _, rfl, ite2 (fun c => ?_) (fun c => ?_)⟩
  · -- turned about
    refine ⟨_, rfl, n, rfl, by omega, by omega, fun e he => ?_⟩
    refine lc_range (lo := 0) (n := n.toNat) (fun i H' => Go S G H G H' ∧ G e = none ∧ H e = none ∧ H' e = some (.lst (((List.range i).map fun (k : Nat) => n - 1 - (k : Int)).map V.int))) ?_ ?_ ?_
    · obtain ⟨s4, ge, h4, fe⟩ := s2.loc (p := e) (o := .lst []) ⟨he, rfl⟩
      exact ⟨s4, ge, fe, h4⟩
    · rintro i H4 hi ⟨s4, ge, fe, h4⟩
      refine ⟨rfl, yesT ⟨_, rfl, _, _, rfl, rfl, _, rfl, _, _, rfl, rfl, _, h4, ?_, s4.mut ge fe rfl, ge, fe, ?_⟩⟩
      · rw [List.length_map, List.length_map, List.length_range]
        exact lt (by omega)
      · rw [upd_same, List.range_succ, List.map_append, List.map_append, Int.zero_add]
        rfl
    · rintro H4 ⟨s4, ge, fe, h4⟩
      refine ⟨e, _, rfl, .of h4, fun p H5 n5 => ?_⟩
      obtain ⟨G5, s5, _, k5, _⟩ := s4.know n5
      exact q p _ G5 H5 s5 k5 (turn_mv h0)
  · refine ⟨_, rfl, _, rfl, _, rfl, S, G, l, _, n, rfl, s2.wd, .inl hl, by rw [List.length_map, rngI_len]; omega, by omega, by omega, fun r ys rest H4 s4 gr fr hr pm0 hy => ?_⟩
    obtain ⟨rs, ms, rfl, rfl, pm⟩ := perm_ints pm0
    rw [List.length_map, List.length_map, rngI_len] at hy
    have pl := pm.length_eq
    rw [List.length_append, rngI_len] at pl
    have e : ms = [] := List.eq_nil_of_length_eq_zero (by omega)
    subst e
    rw [List.append_nil] at pm
    refine ⟨r, _, rfl, .of hr, fun p H5 n5 => ?_⟩
    obtain ⟨G5, s5, _, k5, _⟩ := (s2.trans s4).know n5
    exact q p rs G5 H5 s5 k5 pm


theorem ok_bad_move (Z : Zs mg) (D : Ds K mg) (c__law_take : Cal P w K mg base "_law_take" 2 ["store", "many"] spTake) (c__law_place : Cal P w K mg base "_law_place" 3 ["store", "size"] spPlace) (c__law_leaf : Cal P w K mg base "_law_leaf" 5 ["store"] spLeaf) : Cal P w K mg base "_law_bad_move" 6 ["store", "move"] spBadMove := by
  refine Def.cal D.d_law_bad_move sc_law_bad_move (fun vs H Q E h => ?_) (fun f cdv A outer s H vs Q E hr h => ?_)
  · obtain ⟨S, G, a, ns, n, rfl, wd, ha, mv, h0, hn, q⟩ := h
    rfl
  obtain ⟨S, G, a, ns, n, rfl, wd, ha, mv, h0, hn, q⟩ := h
  refine ⟨_, (pss_cons (ps_set (i := 2) sc_law_bad_move.nd rfl (Or.inl rfl) (pe_cal c__law_take (hr.mono (by first | decide | omega)) (by rfl) (pa_cons (pv 0) (pa_cons pe_int pa_nil))))
      (pss_cons (ps_set (i := 3) sc_law_bad_move.nd rfl (Or.inl rfl) (pe_callB call_len_seq (by rfl) Z.z_len (by decide +kernel) (pa_cons (pv 1) pa_nil)))
      (pss_cons (ps_set (i := 4) sc_law_bad_move.nd rfl (Or.inl rfl) (pe_callTy call_listN (by rfl) Z.z_list (by decide +kernel) (pa_cons (pv 1) pa_nil)))
      (pss_cons (ps_if (pt_cmp (pc_eqI (pv 2) pe_int) (nomark _)) (pss_one (ps_ret (pv 4))) pss_nil)
      (pss_cons (ps_if (pt_cmp (pc_eqI (pv 2) pe_int) (nomark _)) (pss_one (ps_ret (pe_callTy call_tupleN (by rfl) Z.z_tuple (by decide +kernel) (pa_cons (pe_op op_catN (pv 4) (pe_lstN (pa_cons (pv 3) pa_nil))) pa_nil)))) pss_nil)
      (pss_cons (ps_if (pt_cmp (pc_eqI (pv 2) pe_int) (nomark _)) (pss_one (ps_ret (pe_cal c__law_leaf (hr.mono (by first | decide | omega)) (by rfl) (pa_cons (pv 0) pa_nil)))) pss_nil)
      (pss_cons (ps_if (pt_cmp (pc_eqI (pv 3) pe_int) (nomark _)) (pss_one (ps_ret (pe_tupN (pa_cons (pe_cal c__law_leaf (hr.mono (by first | decide | omega)) (by rfl) (pa_cons (pv 0) pa_nil)) pa_nil)))) pss_nil)
      (pss_cons (ps_set (i := 5) sc_law_bad_move.nd rfl (Or.inl rfl) (pe_cal c__law_place (hr.mono (by first | decide | omega)) (by rfl) (pa_cons (pv 0) (pa_cons (pv 3) pa_nil))))
      (Evl.pss_cut (ps_if (pt_cmp (pc_eqI (pv 2) pe_int) (nomark _)) (pss_one (ps_expr (pe_bm PySem.F.plainAttrs_list PySem.F.slot_list_pop PySem.F.type_list_pop mt_popAtN (pv 4) (pa_cons (pv 5) pa_nil)))) (pss_one (ps_if (pt_cmp (pc_eqI (pv 2) pe_int) (nomark _)) (pss_one (ps_asg (pv 3) (pg_sub (pv 4) (pv 5) set_listN))) (pss_one (ps_if (pt_cmp (pc_eqI (pv 2) pe_int) (nomark _)) (pss_one (ps_asg (pe_op op_add (pe_ix ix_list (pv 4) (pe_op op_mod (pe_callTy call_int1 (by rfl) Z.z_int (by decide +kernel) (pa_cons (pe_op op_add (pv 5) pe_int) pa_nil)) (pv 3)) (fun _ _ => rfl)) (pe_callTy call_int1 (by rfl) Z.z_int (by decide +kernel) (pa_cons (pe_cmp (pc_eqI (pv 3) pe_int) (nomark _)) pa_nil))) (pg_sub (pv 4) (pv 5) set_listN))) (pss_one (ps_if (pt_cmp (pc_eqI (pv 2) pe_int) (nomark _)) (pss_one (ps_asg (pe_op op_sub (pe_ix ix_list (pv 4) (pv 5) (fun _ _ => rfl)) (pv 3)) (pg_sub (pv 4) (pv 5) set_listN))) (pss_one (ps_if (PW.pt (pw_and (pt_cmp (pc_eqI (pv 2) pe_int) (nomark _)) (pw_and1 (pt_cmp (pc_gt (pv 3) pe_int) (nomark _))))) (pss_one (ps_asg pe_bl (pg_sub (pv 4) (pe_bm PySem.F.plainAttrs_list PySem.F.slot_list_index PySem.F.type_list_index mt_index (pv 4) (pa_cons pe_int pa_nil)) set_listN))) (pss_one (ps_asg pe_bl (pg_sub (pv 4) (pe_bm PySem.F.plainAttrs_list PySem.F.slot_list_index PySem.F.type_list_index mt_index (pv 4) (pa_cons pe_int pa_nil)) set_listN))))))))))))
      (pss_one (ps_ret (pe_callTy call_tupleN (by rfl) Z.z_tuple (by decide +kernel) (pa_cons (pv 4) pa_nil))))))))))))), ?_⟩
  have ln := mv.len
  refine ⟨_, rfl, S, G, 9, rfl, wd, by omega, fun d1 H1 p0 p1 s1 => ?_⟩
  refine ⟨_, rfl, a, _, rfl, .inr (.of (s1.gh _ _ ha)), ?_⟩
  refine ⟨_, rfl, a, _, rfl, .inr (.of (s1.gh _ _ ha)), fun l H2 n2 => ?_⟩
  obtain ⟨s2, gl, hl, fl⟩ := s1.loc n2
  have dn : DaAll G (ns.map V.int) (ns.map PyData.int) := DaAll.ints ns
  have zn := szL_ints ns
  rw [List.length_map]
  refine ⟨_, rfl, _, _, rfl, rfl, _, rfl, ite2 (fun c => ?_) (fun c => ?_)⟩
  · obtain ⟨G3, s3, g3, k3, _⟩ := s2.frz gl fl hl
    refine ⟨_, rfl, q _ _ G3 H2 s3 (.lst k3 (dn.up g3)) ?_⟩
    show 1 + szL _ ≤ 1300
    omega
  refine ⟨_, rfl, _, _, rfl, rfl, _, rfl, ite2 (fun c => ?_) (fun c => ?_)⟩
  · refine ⟨_, rfl, _, rfl, by show 1 ≤ sizeLine; decide, fun p H3 n3 => ?_⟩
    obtain ⟨s3, gp, hp, fp⟩ := s2.loc n3
    refine ⟨l, p, _, _, rfl, rfl, n3.else hl, hp, Hd.ln (by rw [List.length_map]; show ns.length + 1 ≤ 1000000; omega), fun p4 H4 n4 => ?_⟩
    obtain ⟨s4, gp4, hp4, fp4⟩ := s3.loc n4
    refine ⟨p4, _, rfl, .of hp4, fun p5 H5 n5 => ?_⟩
    obtain ⟨G5, s5, g5, k5, _⟩ := s4.know n5
    refine q _ _ G5 H5 s5 (.tup k5 ((dn.append (.one (.int _))).up g5)) ?_
    show 1 + szL _ ≤ 1300
    rw [szL_append, szL_one, zn]
    show 1 + (ns.length + 1) ≤ 1300
    omega
  refine ⟨_, rfl, _, _, rfl, rfl, _, rfl, ite2 (fun c => ?_) (fun c => ?_)⟩
  · exact ⟨_, rfl, S, G, rfl, s2.wd, fun v d H3 lf s3 => q v d G H3 (s2.trans s3) lf.da (by have := lf.sz; omega)⟩
  refine ⟨_, rfl, _, _, rfl, rfl, _, rfl, ite2 (fun c => ?_) (fun c => ?_)⟩
  · refine ⟨_, rfl, S, G, rfl, s2.wd, fun v d H3 lf s3 => ⟨by show 1 ≤ sizeLine; decide, fun p H4 n4 => ?_⟩⟩
    obtain ⟨G4, s4, g4, k4, _⟩ := (s2.trans s3).know n4
    refine q _ _ G4 H4 s4 (.tup k4 (.one lf.da)) ?_
    have := lf.sz
    show 1 + szL _ ≤ 1300
    rw [szL_one]
    omega
  have c : ¬ ((ns.length : Nat) : Int) = 0 := dec_not c
  refine ⟨_, rfl, _, rfl, S, G, _, rfl, s2.wd, by omega, by omega, fun t H3 t0 t1 s3 => ?_⟩
  have hl3 := s3.hh hl (s2.ns fl)
  have s3 := s2.trans s3
  refine ⟨fun σ' H' => ∃ (xs : List V) (ds : List PyData), σ' = [some (.ref S.a), some (.ref a), some (.int d1), some (.int ns.length), some (.ref l), some (.int t)] ∧ Go S G H G H' ∧ H' l = some (.lst xs) ∧ DaAll G xs ds ∧ szL ds ≤ 1200, ?_, ?_⟩
  · have seti : ∀ (H4 : Hp) (i : Int), H4 = upd H3 l (.lst ((ns.map V.int).set t.toNat (.int i))) → ∃ (xs : List V) (ds : List PyData), [some (V.ref S.a), some (.ref a), some (.int d1), some (.int ns.length), some (.ref l), some (.int t)] = [some (.ref S.a), some (.ref a), some (.int d1), some (.int ns.length), some (.ref l), some (.int t)] ∧ Go S G H G H4 ∧ H4 l = some (.lst xs) ∧ DaAll G xs ds ∧ szL ds ≤ 1200 := fun H4 i e4 => by
      refine ⟨_, _, rfl, s3.mut gl fl e4, upd_at e4, DaAll.set (.int i) _ dn, ?_⟩
      have := szL_set t.toNat (ns.map PyData.int) (.int i)
      have e : szD (.int i) = 1 := rfl
      omega
    refine ⟨_, rfl, _, _, rfl, rfl, _, rfl, ite2 (fun c => ?_) (fun c => ?_)⟩
    · obtain ⟨x, e, _⟩ := at_int (xs := ns.map V.int) t0 (by rw [List.length_map]; omega)
      refine ⟨_, rfl, .inl ⟨rfl, _, .of hl3⟩, _, rfl, l, _, t, t.toNat, x, rfl, rfl, hl3, by omega, by omega, e, fun H4 e4 => ?_⟩
      refine ⟨_, _, rfl, s3.mut gl fl e4, upd_at e4, dn.erase _, ?_⟩
      have := szL_erase t.toNat (ns.map PyData.int)
      omega
    refine ⟨_, rfl, _, _, rfl, rfl, _, rfl, ite2 (fun c => ?_) (fun c => ?_)⟩
    · exact ⟨_, rfl, _, rfl, _, rfl, l, _, t.toNat, rfl, by rw [Int.toNat_of_nonneg t0], hl3, by rw [List.length_map]; omega, fun H4 e4 => seti H4 _ e4⟩
    refine ⟨_, rfl, _, _, rfl, rfl, _, rfl, ite2 (fun c => ?_) (fun c => ?_)⟩
    · obtain ⟨x, e1, e2, _⟩ := atI_ints (ns := ns) (d := (t + 1) % ((ns.length : Nat) : Int)) (Int.emod_nonneg _ (by omega)) (Int.emod_lt_of_pos _ (by omega))
      refine ⟨_, rfl, _, rfl, _, _, rfl, rfl, .inl ⟨_, rfl, _, rfl, _, _, rfl, rfl, by omega, l, _, _, _, rfl, rfl, .of hl3, e2, ?_⟩⟩
      refine ⟨_, rfl, _, _, rfl, rfl, .inr ⟨_, rfl, _, _, rfl, rfl, ?_⟩⟩
      exact ⟨_, rfl, _, rfl, l, _, t.toNat, rfl, by rw [Int.toNat_of_nonneg t0], hl3, by rw [List.length_map]; omega, fun H4 e4 => seti H4 _ e4⟩
    refine ⟨_, rfl, _, _, rfl, rfl, _, rfl, ite2 (fun c => ?_) (fun c => ?_)⟩
    · obtain ⟨x, e1, e2, _⟩ := atI_ints (ns := ns) (d := t) t0 (by omega)
      refine ⟨_, rfl, _, rfl, l, _, _, _, rfl, rfl, .of hl3, e2, _, rfl, _, _, rfl, rfl, ?_⟩
      exact ⟨_, rfl, _, rfl, l, _, t.toNat, rfl, by rw [Int.toNat_of_nonneg t0], hl3, by rw [List.length_map]; omega, fun H4 e4 => seti H4 _ e4⟩
    have setb : ∀ (H4 : Hp) (j : Nat) (b : Bool), H4 = upd H3 l (.lst ((ns.map V.int).set j (.bl b))) → ∃ (xs : List V) (ds : List PyData), [some (V.ref S.a), some (.ref a), some (.int d1), some (.int ns.length), some (.ref l), some (.int t)] = [some (.ref S.a), some (.ref a), some (.int d1), some (.int ns.length), some (.ref l), some (.int t)] ∧ Go S G H G H4 ∧ H4 l = some (.lst xs) ∧ DaAll G xs ds ∧ szL ds ≤ 1200 := fun H4 j b e4 => by
      refine ⟨_, _, rfl, s3.mut gl fl e4, upd_at e4, DaAll.set (.bl b) _ dn, ?_⟩
      have := szL_set j (ns.map PyData.int) (.bool b)
      have e : szD (.bool b) = 1 := rfl
      omega
    obtain ⟨j0, z0, i1, i2, i3, i4⟩ := index_ints (k := 0) mv.nodup (mv.mem.mpr ⟨by omega, by omega⟩)
    have els : (tAsg (tC (V.bl false)) (gSub (tVar 4) (tBM K "list" (rIndex K) (tVar 4) (tCons (tC (V.int 0)) tNil)) rSetN)) { nx := fun σ' H' => ∃ (xs : List V) (ds : List PyData), σ' = [some (.ref S.a), some (.ref a), some (.int d1), some (.int ns.length), some (.ref l), some (.int t)] ∧ Go S G H G H' ∧ H' l = some (.lst xs) ∧ DaAll G xs ds ∧ szL ds ≤ 1200, rt := Q } [some (.ref S.a), some (.ref a), some (.int d1), some (.int ns.length), some (.ref l), some (.int t)] H3 :=
      ⟨_, rfl, _, rfl, .inl ⟨rfl, _, .of hl3⟩, l, _, .int 0, j0, z0, rfl, rfl, .of hl3, rfl, flat_ints ns, i1, i2, i3, l, _, j0, rfl, rfl, hl3, by rw [List.length_map]; exact i4, fun H4 e4 => setb H4 j0 false e4⟩
    refine ⟨_, rfl, _, _, rfl, rfl, _, rfl, ite2 (fun c => ?_) (fun c => iteF els)⟩
    refine ⟨_, rfl, _, _, rfl, rfl, _, rfl, ite2 (fun c => ?_) (fun c => els)⟩
    have c : (1 : Int) < ((ns.length : Nat) : Int) := dec_of c
    obtain ⟨j1, z1, i1, i2, i3, i4⟩ := index_ints (k := 1) mv.nodup (mv.mem.mpr ⟨by omega, by omega⟩)
    exact ⟨_, rfl, _, rfl, .inl ⟨rfl, _, .of hl3⟩, l, _, .int 1, j1, z1, rfl, rfl, .of hl3, rfl, flat_ints ns, i1, i2, i3, l, _, j1, rfl, rfl, hl3, by rw [List.length_map]; exact i4, fun H4 e4 => setb H4 j1 true e4⟩
  · rintro σ' H4 ⟨xs, ds, rfl, s4, h4, dx, zx⟩
    refine ⟨_, rfl, l, _, rfl, .of h4, fun p H5 n5 => ?_⟩
    obtain ⟨G5, s5, g5, k5, _⟩ := s4.know n5
    refine q _ _ G5 H5 s5 (.tup k5 (dx.up g5)) ?_
    show 1 + szL _ ≤ 1300
    omega


theorem ok_store (Z : Zs mg) (D : Ds K mg) : Cal P w K mg base "_law_store" 1 ["script"] (spStore K) := by
  refine Def.cal D.d_law_store sc_law_store (fun vs H Q E h => ?_) (fun f cdv A outer s H vs Q E hr h => ?_)
  · obtain ⟨a, ns, rfl, hS, hn, q⟩ := h
    rfl
  obtain ⟨a, ns, rfl, hS, hn, q⟩ := h
  refine ⟨_, (pss_one (ps_ret (pe_lstN (pa_cons (pe_lc (own := [("cell", 1)]) (g := gName 1) (tt := tYes) (by rfl) sc_law_store.nd (pi_list (pe_slice sl_listN (pv 0) po_none (po_some pe_int))) (blkOk_by (N := ["script", "cell"]) (sc := defScope s_law_store) (by decide +kernel)) (fun _ _ _ _ _ => pg_name (i := 1) sc_law_store.nd rfl (Or.inl rfl)) (fun _ _ _ _ _ => pts_nil) (fun _ _ _ _ _ => (pe_callTy call_int1 (by rfl) Z.z_int (by decide +kernel) (pa_cons (pv 1) pa_nil)))) (pa_cons pe_int (pa_cons pe_int (pa_cons pe_int (pa_cons pe_int (pa_cons pe_int (pa_cons pe_int pa_nil)))))))))), ?_⟩
  refine ⟨_, rfl, _, rfl, a, _, rfl, hS, fun p H1 n1 => ?_⟩
  have h1 := n1.at
  have ec : cutV (ns.map V.int) none (some 63) = ns.map V.int := cut_all (n := 63) (by rw [List.length_map]; exact hn)
  rw [ec] at h1
  refine ⟨p, rfl, ⟨_, .of h1⟩, fun c hc => ?_⟩
  refine lc_list (xs := ns.map V.int) (fun i H' => Same H H' ∧ H c = none ∧ H' p = some (.lst (ns.map V.int)) ∧ c ≠ p ∧ H' c = some (.lst ((ns.take i).map V.int))) ?_ ?_ ?_ ?_
  · have nc : c ≠ p := (ne_of_none h1 hc).symm
    exact ⟨n1.same.trans (New.same (o := .lst []) ⟨hc, rfl⟩), n1.same.free hc, by rw [upd_ne nc.symm]; exact h1, nc, upd_same⟩
  · rintro i H' _ ⟨_, _, hp, _⟩
    exact .of hp
  · rintro i x H2 hx ⟨g, fc, hp, nc, hc2⟩
    have hi := (List.getElem?_eq_some_iff.mp hx).1
    rw [List.length_map] at hi
    have ex : x = V.int ns[i] := by
      rw [List.getElem?_map, List.getElem?_eq_getElem hi] at hx
      exact (Option.some.inj hx).symm
    subst ex
    refine ⟨rfl, yesT ⟨_, rfl, .inl ⟨_, rfl, _, hc2, by rw [List.length_map, List.length_take]; exact lt (by omega), fun b o h => ?_, fc, by rw [upd_ne nc.symm]; exact hp, nc, ?_⟩⟩⟩
    · rw [upd_ne (ne_of_none h fc)]
      exact g _ _ h
    · rw [upd_same, List.take_add_one, List.getElem?_eq_getElem hi, List.map_append]
      rfl
  · rintro H2 ⟨g, fc, hp, nc, hc2⟩
    rw [List.length_map, List.take_length] at hc2
    refine ⟨by show 7 ≤ sizeLine; decide, fun s H3 n3 => ?_⟩
    exact q ⟨s, c, ns⟩ H3 ⟨g.trans n3.same, g.free n3.fr, 0, 0, 0, 0, 0, 0, n3.at, n3.else hc2, Int.le_refl _⟩


def spCheckMove (D : Addr) : Sp := fun vs H Q E => ∃ (G : Hp) (v : V) (d : PyData) (n : Int), vs = [v, .int n] ∧ Same G H ∧ Da G v d ∧ szD d ≤ 1000000 ∧ (mvD d = true → ∀ H', Same H H' → Q .non H') ∧ (mvD d = false → Errs E D [(("index" : Str), .int n)] H)
theorem ok_check_move {DN : Addr} (Z : Zs mg) (D : Ds K mg) (m_NotAMove : Xm P w K mg base "NotAMove" DN ["index"]) (c_is_move : Cal P w K mg base "is_move" 4 ["value"] spIsMove) : CalX P w K mg base "check_move" 5 ["value", "place"] (spCheckMove DN) := by
  refine Def.calX D.d_check_move sc_check_move (fun vs H Q E h => ?_) (fun f cdv A outer s H vs Q E hr h => ?_)
  · obtain ⟨G, v, d, n, rfl, gh, hd, sz, q1, q2⟩ := h
    rfl
  obtain ⟨G, v, d, n, rfl, gh, hd, sz, q1, q2⟩ := h
  refine ⟨_, (pss_one (ps_if (pt_not (pt_val (pe_cal c_is_move (hr.mono (by first | decide | omega)) (by rfl) (pa_cons (pv 0) pa_nil)))) (pss_one (L2N.ps_raise rfl (L2N.takes_of rfl rfl rfl rfl) (pmk_x m_NotAMove (hr.mono (by first | decide | omega)) (by rfl) (pa_cons (pv 1) pa_nil)))) pss_nil)), ?_⟩
  refine ⟨_, rfl, G, v, d, rfl, gh, hd, sz, fun H1 s1 => ?_⟩
  cases e : mvD d with
  | true => exact ⟨_, rfl, iteF (q1 e H1 s1)⟩
  | false => exact ⟨_, rfl, iteT ⟨_, rfl, ini_end rfl (by show 1 ≤ 1000; decide) fun dd hdd => q2 e dd _ (s1.trans (same_put (Same.refl _) hdd)) upd_same⟩⟩


def spAlone (K : PySem.W.Frag) (mg : Str → Option Value) : SpH := fun p vs H Q _ => ∃ (k : Nat) (nm : Str) (D d : Addr) (fs : List (Str × V)), vs = [.ref p.1] ∧ Es K mg k nm D ∧ ErrAt D d fs H p ∧ ∀ H', Same H H' → Q (.bl true) H'
theorem ok_alone_h (Z : Zs mg) (D : Ds K mg) : CalE P w K mg base "_law_alone" 1 ["error"] (spAlone K mg) := by
  refine Def.calE D.d_law_alone sc_law_alone (fun p vs H Q E h => ?_) (fun f cdv A outer s H vs Q E p hot hr h => ?_)
  · obtain ⟨k, nm, C, d, fs, rfl, es, er, q⟩ := h
    rfl
  obtain ⟨k, nm, C, d, fs, rfl, es, er, q⟩ := h
  have ec := es.ec
  obtain ⟨C_BadNumber, g_BadNumber, t_BadNumber⟩ := es.i_BadNumber
  obtain ⟨C_NotAPoint, g_NotAPoint, t_NotAPoint⟩ := es.i_NotAPoint
  obtain ⟨C_NotAMove, g_NotAMove, t_NotAMove⟩ := es.i_NotAMove
  obtain ⟨C_TooMany, g_TooMany, t_TooMany⟩ := es.i_TooMany
  obtain ⟨C_UnlikeSizes, g_UnlikeSizes, t_UnlikeSizes⟩ := es.i_UnlikeSizes
  obtain ⟨C_RepeatedPoint, g_RepeatedPoint, t_RepeatedPoint⟩ := es.i_RepeatedPoint
  obtain ⟨C_BadText, g_BadText, t_BadText⟩ := es.i_BadText
  obtain ⟨C_NotMade, g_NotMade, t_NotMade⟩ := es.i_NotMade
  obtain ⟨C_NotTight, g_NotTight, t_NotTight⟩ := es.i_NotTight
  obtain ⟨C_NotFull, g_NotFull, t_NotFull⟩ := es.i_NotFull
  obtain ⟨C_NotAFailing, g_NotAFailing, t_NotAFailing⟩ := es.i_NotAFailing
  obtain ⟨C_NotNeighbours, g_NotNeighbours, t_NotNeighbours⟩ := es.i_NotNeighbours
  obtain ⟨C_NotShorter, g_NotShorter, t_NotShorter⟩ := es.i_NotShorter
  obtain ⟨C_SameLength, g_SameLength, t_SameLength⟩ := es.i_SameLength
  obtain ⟨C_NoSuchLength, g_NoSuchLength, t_NoSuchLength⟩ := es.i_NoSuchLength
  obtain ⟨C_NotAnOrder, g_NotAnOrder, t_NotAnOrder⟩ := es.i_NotAnOrder
  obtain ⟨C_NotAChain, g_NotAChain, t_NotAChain⟩ := es.i_NotAChain
  obtain ⟨C_NotABase, g_NotABase, t_NotABase⟩ := es.i_NotABase
  obtain ⟨C_NotInside, g_NotInside, t_NotInside⟩ := es.i_NotInside
  obtain ⟨C_OrderMatters, g_OrderMatters, t_OrderMatters⟩ := es.i_OrderMatters
  obtain ⟨C_FullLot, g_FullLot, t_FullLot⟩ := es.i_FullLot
  obtain ⟨C_NotAWord, g_NotAWord, t_NotAWord⟩ := es.i_NotAWord
  obtain ⟨C_NotAColumn, g_NotAColumn, t_NotAColumn⟩ := es.i_NotAColumn
  obtain ⟨C_NotACount, g_NotACount, t_NotACount⟩ := es.i_NotACount
  obtain ⟨C_GameOver, g_GameOver, t_GameOver⟩ := es.i_GameOver
  obtain ⟨C_NotAllowed, g_NotAllowed, t_NotAllowed⟩ := es.i_NotAllowed
  obtain ⟨C_NothingToUndo, g_NothingToUndo, t_NothingToUndo⟩ := es.i_NothingToUndo
  obtain ⟨C_NothingToRedo, g_NothingToRedo, t_NothingToRedo⟩ := es.i_NothingToRedo
  obtain ⟨C_NothingKept, g_NothingKept, t_NothingKept⟩ := es.i_NothingKept
  obtain ⟨C_BadEdit, g_BadEdit, t_BadEdit⟩ := es.i_BadEdit
  obtain ⟨C_UnknownName, g_UnknownName, t_UnknownName⟩ := es.i_UnknownName
  obtain ⟨C_NotAPaper, g_NotAPaper, t_NotAPaper⟩ := es.i_NotAPaper
  obtain ⟨C_HeldorderError, g_HeldorderError, t_HeldorderError⟩ := es.iH
  refine ⟨_, (pss_cons (ps_set (i := 1) sc_law_alone.nd rfl (Or.inl rfl) (pe_lstN (pa_cons (pe_callB (call_isErr (d := d) ec List.mem_cons_self) (by rfl) Z.z_isinstance (by decide +kernel) (pa_cons (pv 0) (pa_cons (pe_cls (by rfl) g_BadNumber) pa_nil))) (pa_cons (pe_callB (call_isErr (d := d) ec List.mem_cons_self) (by rfl) Z.z_isinstance (by decide +kernel) (pa_cons (pv 0) (pa_cons (pe_cls (by rfl) g_NotAPoint) pa_nil))) (pa_cons (pe_callB (call_isErr (d := d) ec List.mem_cons_self) (by rfl) Z.z_isinstance (by decide +kernel) (pa_cons (pv 0) (pa_cons (pe_cls (by rfl) g_NotAMove) pa_nil))) pa_nil)))))
      (pss_cons (ps_set (i := 1) sc_law_alone.nd rfl (Or.inl rfl) (pe_op op_catN (pv 1) (pe_lstN (pa_cons (pe_callB (call_isErr (d := d) ec List.mem_cons_self) (by rfl) Z.z_isinstance (by decide +kernel) (pa_cons (pv 0) (pa_cons (pe_cls (by rfl) g_TooMany) pa_nil))) (pa_cons (pe_callB (call_isErr (d := d) ec List.mem_cons_self) (by rfl) Z.z_isinstance (by decide +kernel) (pa_cons (pv 0) (pa_cons (pe_cls (by rfl) g_UnlikeSizes) pa_nil))) (pa_cons (pe_callB (call_isErr (d := d) ec List.mem_cons_self) (by rfl) Z.z_isinstance (by decide +kernel) (pa_cons (pv 0) (pa_cons (pe_cls (by rfl) g_RepeatedPoint) pa_nil))) pa_nil))))))
      (pss_cons (ps_set (i := 1) sc_law_alone.nd rfl (Or.inl rfl) (pe_op op_catN (pv 1) (pe_lstN (pa_cons (pe_callB (call_isErr (d := d) ec List.mem_cons_self) (by rfl) Z.z_isinstance (by decide +kernel) (pa_cons (pv 0) (pa_cons (pe_cls (by rfl) g_BadText) pa_nil))) (pa_cons (pe_callB (call_isErr (d := d) ec List.mem_cons_self) (by rfl) Z.z_isinstance (by decide +kernel) (pa_cons (pv 0) (pa_cons (pe_cls (by rfl) g_NotMade) pa_nil))) (pa_cons (pe_callB (call_isErr (d := d) ec List.mem_cons_self) (by rfl) Z.z_isinstance (by decide +kernel) (pa_cons (pv 0) (pa_cons (pe_cls (by rfl) g_NotTight) pa_nil))) pa_nil))))))
      (pss_cons (ps_set (i := 1) sc_law_alone.nd rfl (Or.inl rfl) (pe_op op_catN (pv 1) (pe_lstN (pa_cons (pe_callB (call_isErr (d := d) ec List.mem_cons_self) (by rfl) Z.z_isinstance (by decide +kernel) (pa_cons (pv 0) (pa_cons (pe_cls (by rfl) g_NotFull) pa_nil))) (pa_cons (pe_callB (call_isErr (d := d) ec List.mem_cons_self) (by rfl) Z.z_isinstance (by decide +kernel) (pa_cons (pv 0) (pa_cons (pe_cls (by rfl) g_NotAFailing) pa_nil))) (pa_cons (pe_callB (call_isErr (d := d) ec List.mem_cons_self) (by rfl) Z.z_isinstance (by decide +kernel) (pa_cons (pv 0) (pa_cons (pe_cls (by rfl) g_NotNeighbours) pa_nil))) pa_nil))))))
      (pss_cons (ps_set (i := 1) sc_law_alone.nd rfl (Or.inl rfl) (pe_op op_catN (pv 1) (pe_lstN (pa_cons (pe_callB (call_isErr (d := d) ec List.mem_cons_self) (by rfl) Z.z_isinstance (by decide +kernel) (pa_cons (pv 0) (pa_cons (pe_cls (by rfl) g_NotShorter) pa_nil))) (pa_cons (pe_callB (call_isErr (d := d) ec List.mem_cons_self) (by rfl) Z.z_isinstance (by decide +kernel) (pa_cons (pv 0) (pa_cons (pe_cls (by rfl) g_SameLength) pa_nil))) (pa_cons (pe_callB (call_isErr (d := d) ec List.mem_cons_self) (by rfl) Z.z_isinstance (by decide +kernel) (pa_cons (pv 0) (pa_cons (pe_cls (by rfl) g_NoSuchLength) pa_nil))) pa_nil))))))
      (pss_cons (ps_set (i := 1) sc_law_alone.nd rfl (Or.inl rfl) (pe_op op_catN (pv 1) (pe_lstN (pa_cons (pe_callB (call_isErr (d := d) ec List.mem_cons_self) (by rfl) Z.z_isinstance (by decide +kernel) (pa_cons (pv 0) (pa_cons (pe_cls (by rfl) g_NotAnOrder) pa_nil))) (pa_cons (pe_callB (call_isErr (d := d) ec List.mem_cons_self) (by rfl) Z.z_isinstance (by decide +kernel) (pa_cons (pv 0) (pa_cons (pe_cls (by rfl) g_NotAChain) pa_nil))) (pa_cons (pe_callB (call_isErr (d := d) ec List.mem_cons_self) (by rfl) Z.z_isinstance (by decide +kernel) (pa_cons (pv 0) (pa_cons (pe_cls (by rfl) g_NotABase) pa_nil))) pa_nil))))))
      (pss_cons (ps_set (i := 1) sc_law_alone.nd rfl (Or.inl rfl) (pe_op op_catN (pv 1) (pe_lstN (pa_cons (pe_callB (call_isErr (d := d) ec List.mem_cons_self) (by rfl) Z.z_isinstance (by decide +kernel) (pa_cons (pv 0) (pa_cons (pe_cls (by rfl) g_NotInside) pa_nil))) (pa_cons (pe_callB (call_isErr (d := d) ec List.mem_cons_self) (by rfl) Z.z_isinstance (by decide +kernel) (pa_cons (pv 0) (pa_cons (pe_cls (by rfl) g_OrderMatters) pa_nil))) (pa_cons (pe_callB (call_isErr (d := d) ec List.mem_cons_self) (by rfl) Z.z_isinstance (by decide +kernel) (pa_cons (pv 0) (pa_cons (pe_cls (by rfl) g_FullLot) pa_nil))) pa_nil))))))
      (pss_cons (ps_set (i := 1) sc_law_alone.nd rfl (Or.inl rfl) (pe_op op_catN (pv 1) (pe_lstN (pa_cons (pe_callB (call_isErr (d := d) ec List.mem_cons_self) (by rfl) Z.z_isinstance (by decide +kernel) (pa_cons (pv 0) (pa_cons (pe_cls (by rfl) g_NotAWord) pa_nil))) (pa_cons (pe_callB (call_isErr (d := d) ec List.mem_cons_self) (by rfl) Z.z_isinstance (by decide +kernel) (pa_cons (pv 0) (pa_cons (pe_cls (by rfl) g_NotAColumn) pa_nil))) (pa_cons (pe_callB (call_isErr (d := d) ec List.mem_cons_self) (by rfl) Z.z_isinstance (by decide +kernel) (pa_cons (pv 0) (pa_cons (pe_cls (by rfl) g_NotACount) pa_nil))) pa_nil))))))
      (pss_cons (ps_set (i := 1) sc_law_alone.nd rfl (Or.inl rfl) (pe_op op_catN (pv 1) (pe_lstN (pa_cons (pe_callB (call_isErr (d := d) ec List.mem_cons_self) (by rfl) Z.z_isinstance (by decide +kernel) (pa_cons (pv 0) (pa_cons (pe_cls (by rfl) g_GameOver) pa_nil))) (pa_cons (pe_callB (call_isErr (d := d) ec List.mem_cons_self) (by rfl) Z.z_isinstance (by decide +kernel) (pa_cons (pv 0) (pa_cons (pe_cls (by rfl) g_NotAllowed) pa_nil))) (pa_cons (pe_callB (call_isErr (d := d) ec List.mem_cons_self) (by rfl) Z.z_isinstance (by decide +kernel) (pa_cons (pv 0) (pa_cons (pe_cls (by rfl) g_NothingToUndo) pa_nil))) pa_nil))))))
      (pss_cons (ps_set (i := 1) sc_law_alone.nd rfl (Or.inl rfl) (pe_op op_catN (pv 1) (pe_lstN (pa_cons (pe_callB (call_isErr (d := d) ec List.mem_cons_self) (by rfl) Z.z_isinstance (by decide +kernel) (pa_cons (pv 0) (pa_cons (pe_cls (by rfl) g_NothingToRedo) pa_nil))) (pa_cons (pe_callB (call_isErr (d := d) ec List.mem_cons_self) (by rfl) Z.z_isinstance (by decide +kernel) (pa_cons (pv 0) (pa_cons (pe_cls (by rfl) g_NothingKept) pa_nil))) (pa_cons (pe_callB (call_isErr (d := d) ec List.mem_cons_self) (by rfl) Z.z_isinstance (by decide +kernel) (pa_cons (pv 0) (pa_cons (pe_cls (by rfl) g_BadEdit) pa_nil))) pa_nil))))))
      (pss_cons (ps_set (i := 1) sc_law_alone.nd rfl (Or.inl rfl) (pe_op op_catN (pv 1) (pe_lstN (pa_cons (pe_callB (call_isErr (d := d) ec List.mem_cons_self) (by rfl) Z.z_isinstance (by decide +kernel) (pa_cons (pv 0) (pa_cons (pe_cls (by rfl) g_UnknownName) pa_nil))) (pa_cons (pe_callB (call_isErr (d := d) ec List.mem_cons_self) (by rfl) Z.z_isinstance (by decide +kernel) (pa_cons (pv 0) (pa_cons (pe_cls (by rfl) g_NotAPaper) pa_nil))) pa_nil)))))
      (pss_cons (ps_set (i := 2) sc_law_alone.nd rfl (Or.inl rfl) (pe_cmp (pc_eqI (pe_callB call_len_seq (by rfl) Z.z_len (by decide +kernel) (pa_cons (pe_lcH (own := [("entry", 3)]) (g := gName 3) (hot_in hot List.mem_cons_self) sc_law_alone.nd (ih_list (pv 1)) (blkOk_by (N := ["error", "of", "one", "entry"]) (sc := defScope s_law_alone) (by decide +kernel)) (fun _ _ _ _ _ => pg_name (i := 3) sc_law_alone.nd rfl (Or.inl rfl)) (fun _ _ _ _ _ => pts_one (pt_val (pv 3))) (fun _ _ _ _ _ => (pv 3))) pa_nil)) pe_int) (nomark _)))
      (pss_one (ps_ret (pe_and (pv 2) (pe_and (pe_callB (call_isErr (d := d) ec List.mem_cons_self) (by rfl) Z.z_isinstance (by decide +kernel) (pa_cons (pv 0) (pa_cons (pe_cls (by rfl) g_HeldorderError) pa_nil))) (pe_one (pe_callB (call_isErr (d := d) ec List.mem_cons_self) (by rfl) Z.z_isinstance (by decide +kernel) (pa_cons (pv 0) (pa_cons (pe_bltn (v := .ty "ValueError") (by rfl) Z.z_ValueError (by decide +kernel) rfl) pa_nil)))))))))))))))))))), ?_⟩
  refine ⟨_, rfl, .ref C_BadNumber, .ref C_BadNumber, _, fs, rfl, fun u r => r, t_BadNumber, er, _, rfl, .ref C_NotAPoint, .ref C_NotAPoint, _, fs, rfl, fun u r => r, t_NotAPoint, er, _, rfl, .ref C_NotAMove, .ref C_NotAMove, _, fs, rfl, fun u r => r, t_NotAMove, er, (by show 3 ≤ sizeLine; decide), fun a0 H0 n0 => ?_⟩
  have e0 := er.new n0
  have s0 : Same H H0 := n0.same
  have h0 := n0.at
  refine ⟨_, rfl, _, rfl, .ref C_TooMany, .ref C_TooMany, _, fs, rfl, fun u r => r, t_TooMany, e0, _, rfl, .ref C_UnlikeSizes, .ref C_UnlikeSizes, _, fs, rfl, fun u r => r, t_UnlikeSizes, e0, _, rfl, .ref C_RepeatedPoint, .ref C_RepeatedPoint, _, fs, rfl, fun u r => r, t_RepeatedPoint, e0, (by show 3 ≤ sizeLine; decide), fun b1 G1 m1 => ⟨a0, b1, _, _, rfl, rfl, m1.else h0, m1.at, (by show 6 ≤ sizeLine; decide), fun a1 H1 n1 => ?_⟩⟩
  have e1 := (e0.new m1).new n1
  have s1 := (s0.trans m1.same).trans n1.same
  have h1 := n1.at
  clear e0 s0 h0 m1 n0
  refine ⟨_, rfl, _, rfl, .ref C_BadText, .ref C_BadText, _, fs, rfl, fun u r => r, t_BadText, e1, _, rfl, .ref C_NotMade, .ref C_NotMade, _, fs, rfl, fun u r => r, t_NotMade, e1, _, rfl, .ref C_NotTight, .ref C_NotTight, _, fs, rfl, fun u r => r, t_NotTight, e1, (by show 3 ≤ sizeLine; decide), fun b2 G2 m2 => ⟨a1, b2, _, _, rfl, rfl, m2.else h1, m2.at, (by show 9 ≤ sizeLine; decide), fun a2 H2 n2 => ?_⟩⟩
  have e2 := (e1.new m2).new n2
  have s2 := (s1.trans m2.same).trans n2.same
  have h2 := n2.at
  clear e1 s1 h1 m2 n1
  refine ⟨_, rfl, _, rfl, .ref C_NotFull, .ref C_NotFull, _, fs, rfl, fun u r => r, t_NotFull, e2, _, rfl, .ref C_NotAFailing, .ref C_NotAFailing, _, fs, rfl, fun u r => r, t_NotAFailing, e2, _, rfl, .ref C_NotNeighbours, .ref C_NotNeighbours, _, fs, rfl, fun u r => r, t_NotNeighbours, e2, (by show 3 ≤ sizeLine; decide), fun b3 G3 m3 => ⟨a2, b3, _, _, rfl, rfl, m3.else h2, m3.at, (by show 12 ≤ sizeLine; decide), fun a3 H3 n3 => ?_⟩⟩
  have e3 := (e2.new m3).new n3
  have s3 := (s2.trans m3.same).trans n3.same
  have h3 := n3.at
  clear e2 s2 h2 m3 n2
  refine ⟨_, rfl, _, rfl, .ref C_NotShorter, .ref C_NotShorter, _, fs, rfl, fun u r => r, t_NotShorter, e3, _, rfl, .ref C_SameLength, .ref C_SameLength, _, fs, rfl, fun u r => r, t_SameLength, e3, _, rfl, .ref C_NoSuchLength, .ref C_NoSuchLength, _, fs, rfl, fun u r => r, t_NoSuchLength, e3, (by show 3 ≤ sizeLine; decide), fun b4 G4 m4 => ⟨a3, b4, _, _, rfl, rfl, m4.else h3, m4.at, (by show 15 ≤ sizeLine; decide), fun a4 H4 n4 => ?_⟩⟩
  have e4 := (e3.new m4).new n4
  have s4 := (s3.trans m4.same).trans n4.same
  have h4 := n4.at
  clear e3 s3 h3 m4 n3
  refine ⟨_, rfl, _, rfl, .ref C_NotAnOrder, .ref C_NotAnOrder, _, fs, rfl, fun u r => r, t_NotAnOrder, e4, _, rfl, .ref C_NotAChain, .ref C_NotAChain, _, fs, rfl, fun u r => r, t_NotAChain, e4, _, rfl, .ref C_NotABase, .ref C_NotABase, _, fs, rfl, fun u r => r, t_NotABase, e4, (by show 3 ≤ sizeLine; decide), fun b5 G5 m5 => ⟨a4, b5, _, _, rfl, rfl, m5.else h4, m5.at, (by show 18 ≤ sizeLine; decide), fun a5 H5 n5 => ?_⟩⟩
  have e5 := (e4.new m5).new n5
  have s5 := (s4.trans m5.same).trans n5.same
  have h5 := n5.at
  clear e4 s4 h4 m5 n4
  refine ⟨_, rfl, _, rfl, .ref C_NotInside, .ref C_NotInside, _, fs, rfl, fun u r => r, t_NotInside, e5, _, rfl, .ref C_OrderMatters, .ref C_OrderMatters, _, fs, rfl, fun u r => r, t_OrderMatters, e5, _, rfl, .ref C_FullLot, .ref C_FullLot, _, fs, rfl, fun u r => r, t_FullLot, e5, (by show 3 ≤ sizeLine; decide), fun b6 G6 m6 => ⟨a5, b6, _, _, rfl, rfl, m6.else h5, m6.at, (by show 21 ≤ sizeLine; decide), fun a6 H6 n6 => ?_⟩⟩
  have e6 := (e5.new m6).new n6
  have s6 := (s5.trans m6.same).trans n6.same
  have h6 := n6.at
  clear e5 s5 h5 m6 n5
  refine ⟨_, rfl, _, rfl, .ref C_NotAWord, .ref C_NotAWord, _, fs, rfl, fun u r => r, t_NotAWord, e6, _, rfl, .ref C_NotAColumn, .ref C_NotAColumn, _, fs, rfl, fun u r => r, t_NotAColumn, e6, _, rfl, .ref C_NotACount, .ref C_NotACount, _, fs, rfl, fun u r => r, t_NotACount, e6, (by show 3 ≤ sizeLine; decide), fun b7 G7 m7 => ⟨a6, b7, _, _, rfl, rfl, m7.else h6, m7.at, (by show 24 ≤ sizeLine; decide), fun a7 H7 n7 => ?_⟩⟩
  have e7 := (e6.new m7).new n7
  have s7 := (s6.trans m7.same).trans n7.same
  have h7 := n7.at
  clear e6 s6 h6 m7 n6
  refine ⟨_, rfl, _, rfl, .ref C_GameOver, .ref C_GameOver, _, fs, rfl, fun u r => r, t_GameOver, e7, _, rfl, .ref C_NotAllowed, .ref C_NotAllowed, _, fs, rfl, fun u r => r, t_NotAllowed, e7, _, rfl, .ref C_NothingToUndo, .ref C_NothingToUndo, _, fs, rfl, fun u r => r, t_NothingToUndo, e7, (by show 3 ≤ sizeLine; decide), fun b8 G8 m8 => ⟨a7, b8, _, _, rfl, rfl, m8.else h7, m8.at, (by show 27 ≤ sizeLine; decide), fun a8 H8 n8 => ?_⟩⟩
  have e8 := (e7.new m8).new n8
  have s8 := (s7.trans m8.same).trans n8.same
  have h8 := n8.at
  clear e7 s7 h7 m8 n7
  refine ⟨_, rfl, _, rfl, .ref C_NothingToRedo, .ref C_NothingToRedo, _, fs, rfl, fun u r => r, t_NothingToRedo, e8, _, rfl, .ref C_NothingKept, .ref C_NothingKept, _, fs, rfl, fun u r => r, t_NothingKept, e8, _, rfl, .ref C_BadEdit, .ref C_BadEdit, _, fs, rfl, fun u r => r, t_BadEdit, e8, (by show 3 ≤ sizeLine; decide), fun b9 G9 m9 => ⟨a8, b9, _, _, rfl, rfl, m9.else h8, m9.at, (by show 30 ≤ sizeLine; decide), fun a9 H9 n9 => ?_⟩⟩
  have e9 := (e8.new m9).new n9
  have s9 := (s8.trans m9.same).trans n9.same
  have h9 := n9.at
  clear e8 s8 h8 m9 n8
  refine ⟨_, rfl, _, rfl, .ref C_UnknownName, .ref C_UnknownName, _, fs, rfl, fun u r => r, t_UnknownName, e9, _, rfl, .ref C_NotAPaper, .ref C_NotAPaper, _, fs, rfl, fun u r => r, t_NotAPaper, e9, (by show 2 ≤ sizeLine; decide), fun b10 G10 m10 => ⟨a9, b10, _, _, rfl, rfl, m10.else h9, m10.at, (by show 32 ≤ sizeLine; decide), fun a10 H10 n10 => ?_⟩⟩
  have e10 := (e9.new m10).new n10
  have s10 := (s9.trans m10.same).trans n10.same
  have h10 := n10.at
  clear e9 s9 h9 m10 n9
  have one := one_of k es.lt
  generalize hbs : ([k == 0, k == 1, k == 2, k == 3, k == 4, k == 5, k == 6, k == 7, k == 8, k == 9, k == 10, k == 11, k == 12, k == 13, k == 14, k == 15, k == 16, k == 17, k == 18, k == 19, k == 20, k == 21, k == 22, k == 23, k == 24, k == 25, k == 26, k == 27, k == 28, k == 29, k == 30, k == 31] : List Bool) = bs at one
  have hx : H10 a10 = some (.lst (bs.map V.bl)) := by
    rw [← hbs]
    exact h10
  refine ⟨_, rfl, a10, rfl, ⟨_, .of hx⟩, fun l hl => lc_list (xs := bs.map V.bl) (fun i H' => ∃ zs, H' l = some (.lst zs) ∧ zs.length = ((bs.take i).filter id).length ∧ zs.length ≤ i ∧ Same H10 H') ?_ ?_ ?_ ?_⟩
  · exact ⟨[], upd_same, rfl, Nat.le_refl _, same_put (Same.refl _) hl⟩
  · rintro i H' - ⟨zs, -, -, -, s⟩
    exact .of (s _ _ hx)
  · rintro i x H' hi ⟨zs, hz, lz, iz, s⟩
    have hb : bs[i]?.map V.bl = some x := by rw [← List.getElem?_map]; exact hi
    obtain ⟨b, eb, rfl⟩ := Option.map_eq_some_iff.mp hb
    have tk : bs.take (i + 1) = bs.take i ++ [b] := by rw [List.take_add_one, eb]; rfl
    have lb : bs.length = 32 := by rw [← hbs]; rfl
    have lt : i < 32 := lb ▸ (List.getElem?_eq_some_iff.mp eb).1
    refine ⟨rfl, _, rfl, b, rfl, ?_⟩
    cases b with
    | true =>
      refine iteT ⟨_, rfl, zs, hz, ?_, zs ++ [.bl true], upd_same, ?_, ?_, same_put s hl⟩
      · exact Nat.lt_of_le_of_lt iz (Nat.lt_of_lt_of_le lt (by decide))
      · rw [tk, List.filter_append, List.length_append, List.length_append, lz]; rfl
      · rw [List.length_append]; exact Nat.succ_le_succ iz
    | false =>
      refine iteF ⟨zs, hz, ?_, Nat.le_succ_of_le iz, s⟩
      rw [tk, List.filter_append, List.length_append, lz]; rfl
  · rintro H' ⟨zs, hz, lz, -, s⟩
    rw [List.length_map, List.take_length, one] at lz
    have er' := e10.same s
    refine ⟨l, _, rfl, .inl (.of hz), _, _, rfl, rfl, ?_⟩
    rw [lz]
    refine ⟨_, rfl, true, rfl, iteT ⟨_, rfl, .ref C_HeldorderError, .ref C_HeldorderError, _, fs, rfl, fun u r => r, t_HeldorderError, er', true, rfl, iteT ⟨_, rfl, .ty "ValueError", _, _, fs, rfl, fun u r => r, es.iV, er', q _ (s10.trans s)⟩⟩⟩


def spRefusal (K : PySem.W.Frag) (mg : Str → Option Value) : SpH := fun p vs H Q _ => ∃ (G : Hp) (D d : Addr) (fs : List (Str × V)) (w : V) (n : Int), vs = [.ref p.1, w] ∧ Same G H ∧ Es K mg 2 "NotAMove" D ∧ PySem.W.findIn K (.ref D) "index" = some none ∧ ErrAt D d fs H p ∧
  Da G w (.tuple [.str "NotAMove", .int n]) ∧ fs.lookup ("index" : Str) = some (V.int n) ∧ ∀ H', Same H H' → Q (.bl true) H'
theorem ok_refusal_h (Z : Zs mg) (D : Ds K mg) (c__law_alone_h : CalE P w K mg base "_law_alone" 1 ["error"] (spAlone K mg)) (c__law_same_h : CalE P w K mg base "_law_same" 2 ["actual", "due"] (fun _ => spSame)) : CalE P w K mg base "_law_refusal" 3 ["error", "due"] (spRefusal K mg) := by
  refine Def.calE D.d_law_refusal sc_law_refusal (fun p vs H Q E h => ?_) (fun f cdv A outer s H vs Q E p hot hr h => ?_)
  · obtain ⟨G, C, d, fs, w, n, rfl, gh, es, nf_index, er, hw, hn, q⟩ := h
    rfl
  obtain ⟨G, C, d, fs, w, n, rfl, gh, es, nf_index, er, hw, hn, q⟩ := h
  have ec := es.ec
  obtain ⟨C_NotAMove, g_NotAMove, t_NotAMove⟩ := es.i_NotAMove
  refine ⟨_, (pss_cons (ps_set (i := 2) sc_law_refusal.nd rfl (Or.inl rfl) pe_non)
      (Evl.pss_cut (ps_if (pt_val (pe_callB (call_isErr (d := d) ec List.mem_cons_self) (by rfl) Z.z_isinstance (by decide +kernel) (pa_cons (pv 0) (pa_cons (pe_cls (by rfl) g_NotAMove) pa_nil)))) (pss_one (ps_set (i := 2) sc_law_refusal.nd rfl (Or.inl rfl) (pe_tupN (pa_cons pe_str (pa_cons (pe_errF (d := d) ec nf_index List.mem_cons_self (pv 0)) pa_nil))))) pss_nil)
      (pss_one (ps_ret (pe_and (pe_cmpR op_notN (pv 1) pe_non (nomark _)) (pe_and (pe_calE c__law_alone_h (hr.mono (by first | decide | omega)) hot List.mem_cons_self (by rfl) (pa_cons (pv 0) pa_nil)) (pe_one (pe_calE c__law_same_h (hr.mono (by first | decide | omega)) hot List.mem_cons_self (by rfl) (pa_cons (pv 2) (pa_cons (pv 1) pa_nil)))))))))), ?_⟩
  refine ⟨fun σ' H' => ∃ t, σ' = [some (.ref p.1), some w, some (.ref t)] ∧ Same H H' ∧ ∃ G', Same G G' ∧ Same G' H' ∧ Da G' (.ref t) (.tuple [.str "NotAMove", .int n]), ?_, ?_⟩
  · refine ⟨_, rfl, .ref C_NotAMove, .ref C_NotAMove, _, fs, rfl, fun u r => r, t_NotAMove, er, _, rfl, iteBT rfl ⟨_, rfl, rfl, fs, _, er, hn, (by show 2 ≤ sizeLine; decide), fun t H1 n1 => ?_⟩⟩
    obtain ⟨G1, s1, g1, k1, -⟩ := (Stq.refl gh).know2 n1
    exact ⟨t, rfl, n1.same, G1, s1.gg, s1.gh, .tup k1 (.cons (.str _) (.cons (.int _) .nil))⟩
  rintro σ' H1 ⟨t, rfl, s1, G1, g1, gh1, dt⟩
  have hw1 := hw.up g1
  refine ⟨_, rfl, rfl, _, rfl, iteBT ?_ ⟨_, rfl, 2, "NotAMove", C, d, fs, rfl, es, er.same s1, fun H2 s2 => ⟨_, rfl, iteT ?_⟩⟩⟩
  · cases hw
    rfl
  have sz : szD (.tuple [.str "NotAMove", .int n]) ≤ 1900000 := by
    rw [show szD (.tuple [.str "NotAMove", .int n]) = szD (.tuple [.str "NotAMove", .int 0]) from rfl]
    decide
  refine ⟨_, rfl, _, rfl, G1, _, w, _, _, rfl, gh1.trans s2, dt, hw1, sz, sz, fun H3 s3 => ?_⟩
  have e := sameD_self _ _ hw1
  rw [e]
  exact q H3 ((s1.trans s2).trans s3)


def spSel (D : Addr) (sel : List Int → List Int) : Sp := fun vs H Q E => ∃ (G : Hp) (v : V) (d : PyData), vs = [v] ∧ Same G H ∧ Da G v d ∧ szD d ≤ 1000000 ∧
  (∀ ns : List Int, d = .tuple (ns.map PyData.int) → IsMv ns (ns.length : Nat) → ns.length ≤ 12 → ∀ (p : Addr) (G' H' : Hp), Stq G H G' H' → G' p = some (.tup ((sel ns).map V.int)) → Q (.ref p) H') ∧ (mvD d = false → Errs E D [(("index" : Str), .int 0)] H)
theorem ok_held_points {DN : Addr} (Z : Zs mg) (D : Ds K mg) (c_check_move : CalX P w K mg base "check_move" 5 ["value", "place"] (spCheckMove DN)) : CalX P w K mg base "held_points" 6 ["move"] (spSel DN heldL) := by
  refine Def.calX D.d_held_points sc_held_points (fun vs H Q E h => ?_) (fun f cdv A outer s H vs Q E hr h => ?_)
  · obtain ⟨G, v, d, rfl, gh, hd, sz, q1, q2⟩ := h
    rfl
  obtain ⟨G, v, d, rfl, gh, hd, sz, q1, q2⟩ := h
  refine ⟨_, (pss_cons (ps_expr (pe_calX c_check_move (L2N.takes_of rfl rfl rfl rfl) (hr.mono (by first | decide | omega)) (by rfl) (pa_cons (pv 0) (pa_cons pe_int pa_nil))))
      (pss_one (ps_ret (pe_callTy call_tupleN (by rfl) Z.z_tuple (by decide +kernel) (pa_cons (pe_lc (own := [("point", 1), ("image", 2)]) (g := gTup K 2 (gCons (gName 1) (gCons (gName 2) gNil))) (by rfl) sc_held_points.nd (pi_enumT (by rfl) Z.z_enumerate (pa_cons (pv 0) pa_nil)) (blkOk_by (N := ["move", "point", "image"]) (sc := defScope s_held_points) (by decide +kernel)) (fun _ _ _ _ _ => pg_tup rfl (pgs_cons (pg_name (i := 1) sc_held_points.nd rfl (Or.inl rfl)) (pgs_cons (pg_name (i := 2) sc_held_points.nd rfl (Or.inl rfl)) pgs_nil))) (fun _ _ _ _ _ => pts_one (pt_cmp (pc_eqI (pv 2) (pv 1)) (nomark _))) (fun _ _ _ _ _ => (pv 1))) pa_nil))))), ?_⟩
  refine ⟨_, rfl, G, v, d, 0, rfl, gh, hd, sz, fun e H1 s1 => ?_, q2⟩
  obtain ⟨ns, rfl, mv, l12⟩ := mvD_ints e
  cases hd with
  | tup ha dx =>
    rename_i a xs
    obtain rfl := vals_int dx
    have S1 : Stq G H G H1 := (Stq.refl gh).pure s1
    refine ⟨_, rfl, a, _, rfl, .of (S1.gh _ _ ha), fun l hl => ?_⟩
    refine lc_enumT (xs := ns.map V.int) (fun i H' => Stq G H G H' ∧ G l = none ∧ H l = none ∧ H' l = some (.lst ((pts (heldAt ns) i).map V.int))) ?_ ?_ ?_ ?_
    · obtain ⟨s2, gl, h2, fl⟩ := S1.loc2 (p := l) (o := .lst []) ⟨hl, rfl⟩
      exact ⟨s2, gl, fl, h2⟩
    · rintro i H' ⟨s2, -⟩
      exact .of (s2.gh _ _ ha)
    · rintro i x T H2 H3 hx ⟨s2, gl, fl, h2⟩ nT
      obtain ⟨m, hm, rfl⟩ := map_at hx
      have lt := (List.getElem?_eq_some_iff.mp hm).1
      have s3 := (s2.loc2 nT).1
      have h3 := nT.else h2
      refine ⟨T, _, rfl, .of nT.at, rfl, _, _, rfl, _, _, rfl, rfl, rfl, ?_⟩
      refine ⟨_, rfl, _, rfl, _, _, rfl, rfl, _, rfl, ite2 (fun c => ?_) (fun c => ?_)⟩
      · have at_ : heldAt ns i = true := by unfold heldAt; rw [hm, dec_of c]; exact decide_eq_true rfl
        refine ⟨_, rfl, _, h3, ?_, s3.mut gl fl rfl, gl, fl, ?_⟩
        · rw [List.length_map]
          exact lt_of_len (pts_len _ _) lt l12
        · rw [upd_same, pts_step, at_, List.map_append]
          rfl
      · have at_ : heldAt ns i = false := by unfold heldAt; rw [hm]; exact decide_eq_false fun z => dec_not c (Option.some.inj z)
        refine ⟨s3, gl, fl, ?_⟩
        rw [h3, pts_step, at_]
        simp
    · rintro H2 ⟨s2, gl, fl, h2⟩
      rw [List.length_map] at h2
      refine ⟨l, _, rfl, .of h2, fun p H3 n3 => ?_⟩
      obtain ⟨G3, s3, g3, k3, -⟩ := s2.know2 n3
      exact q1 ns rfl mv l12 p G3 H3 s3 k3
theorem ok_moved_points {DN : Addr} (Z : Zs mg) (D : Ds K mg) (c_check_move : CalX P w K mg base "check_move" 5 ["value", "place"] (spCheckMove DN)) : CalX P w K mg base "moved_points" 6 ["move"] (spSel DN movedL) := by
  refine Def.calX D.d_moved_points sc_moved_points (fun vs H Q E h => ?_) (fun f cdv A outer s H vs Q E hr h => ?_)
  · obtain ⟨G, v, d, rfl, gh, hd, sz, q1, q2⟩ := h
    rfl
  obtain ⟨G, v, d, rfl, gh, hd, sz, q1, q2⟩ := h
  refine ⟨_, (pss_cons (ps_expr (pe_calX c_check_move (L2N.takes_of rfl rfl rfl rfl) (hr.mono (by first | decide | omega)) (by rfl) (pa_cons (pv 0) (pa_cons pe_int pa_nil))))
      (pss_one (ps_ret (pe_callTy call_tupleN (by rfl) Z.z_tuple (by decide +kernel) (pa_cons (pe_lc (own := [("point", 1), ("image", 2)]) (g := gTup K 2 (gCons (gName 1) (gCons (gName 2) gNil))) (by rfl) sc_moved_points.nd (pi_enumT (by rfl) Z.z_enumerate (pa_cons (pv 0) pa_nil)) (blkOk_by (N := ["move", "point", "image"]) (sc := defScope s_moved_points) (by decide +kernel)) (fun _ _ _ _ _ => pg_tup rfl (pgs_cons (pg_name (i := 1) sc_moved_points.nd rfl (Or.inl rfl)) (pgs_cons (pg_name (i := 2) sc_moved_points.nd rfl (Or.inl rfl)) pgs_nil))) (fun _ _ _ _ _ => pts_one (pt_cmp (pc_neI (pv 2) (pv 1)) (nomark _))) (fun _ _ _ _ _ => (pv 1))) pa_nil))))), ?_⟩
  refine ⟨_, rfl, G, v, d, 0, rfl, gh, hd, sz, fun e H1 s1 => ?_, q2⟩
  obtain ⟨ns, rfl, mv, l12⟩ := mvD_ints e
  cases hd with
  | tup ha dx =>
    rename_i a xs
    obtain rfl := vals_int dx
    have S1 : Stq G H G H1 := (Stq.refl gh).pure s1
    refine ⟨_, rfl, a, _, rfl, .of (S1.gh _ _ ha), fun l hl => ?_⟩
    refine lc_enumT (xs := ns.map V.int) (fun i H' => Stq G H G H' ∧ G l = none ∧ H l = none ∧ H' l = some (.lst ((pts (fun j => !heldAt ns j) i).map V.int))) ?_ ?_ ?_ ?_
    · obtain ⟨s2, gl, h2, fl⟩ := S1.loc2 (p := l) (o := .lst []) ⟨hl, rfl⟩
      exact ⟨s2, gl, fl, h2⟩
    · rintro i H' ⟨s2, -⟩
      exact .of (s2.gh _ _ ha)
    · rintro i x T H2 H3 hx ⟨s2, gl, fl, h2⟩ nT
      obtain ⟨m, hm, rfl⟩ := map_at hx
      have lt := (List.getElem?_eq_some_iff.mp hm).1
      have s3 := (s2.loc2 nT).1
      have h3 := nT.else h2
      refine ⟨T, _, rfl, .of nT.at, rfl, _, _, rfl, _, _, rfl, rfl, rfl, ?_⟩
      refine ⟨_, rfl, _, rfl, _, _, rfl, rfl, _, rfl, ite2 (fun c => ?_) (fun c => ?_)⟩
      · have at_ : (!heldAt ns i) = true := by unfold heldAt; rw [hm]; exact congrArg (! ·) (decide_eq_false fun z => nd_of c (Option.some.inj z))
        refine ⟨_, rfl, _, h3, ?_, s3.mut gl fl rfl, gl, fl, ?_⟩
        · rw [List.length_map]
          exact lt_of_len (pts_len _ _) lt l12
        · rw [upd_same, pts_step, at_, List.map_append]
          rfl
      · have at_ : (!heldAt ns i) = false := by unfold heldAt; rw [hm, nd_not c]; exact congrArg (! ·) (decide_eq_true rfl)
        refine ⟨s3, gl, fl, ?_⟩
        rw [h3, pts_step, at_]
        simp
    · rintro H2 ⟨s2, gl, fl, h2⟩
      rw [List.length_map] at h2
      refine ⟨l, _, rfl, .of h2, fun p H3 n3 => ?_⟩
      obtain ⟨G3, s3, g3, k3, -⟩ := s2.know2 n3
      exact q1 ns rfl mv l12 p G3 H3 s3 k3
/-- the orbit from one point on -/
def spCyc : Sp := fun vs H Q _ => ∃ (G : Hp) (a : Addr) (ns : List Int) (s : Int), vs = [.ref a, .int s] ∧ Same G H ∧ G a = some (.tup (ns.map V.int)) ∧ IsMv ns (ns.length : Nat) ∧ ns.length ≤ 12 ∧ inR (ns.length : Nat) s ∧
  ∀ (p : Addr) (G' H' : Hp), Stq G H G' H' → G' p = some (.tup ((cyc ns s).map V.int)) → Q (.ref p) H'
theorem ok_cycle_from (Z : Zs mg) (D : Ds K mg) : Cal P w K mg base "_cycle_from" 1 ["move", "start"] spCyc := by
  refine Def.cal D.d_cycle_from sc_cycle_from (fun vs H Q E h => ?_) (fun f cdv A outer s H vs Q E hr h => ?_)
  · obtain ⟨G, a, ns, s, rfl, gh, ha, mv, l12, hs, q⟩ := h
    rfl
  obtain ⟨G, a, ns, s, rfl, gh, ha, mv, l12, hs, q⟩ := h
  refine ⟨_, (pss_cons (ps_set (i := 2) sc_cycle_from.nd rfl (Or.inl rfl) (pe_lstN (pa_cons (pv 1) pa_nil)))
      (pss_cons (ps_while PassesOwn.never (pt_cmp (pc_neI (pe_ix ix_tup (pv 0) (pe_ix ix_list (pv 2) (pe_un un_neg pe_int) (fun _ _ => rfl)) (fun _ _ => rfl)) (pv 1)) (nomark _)) (pss_one (ps_expr (pe_bm PySem.F.plainAttrs_list PySem.F.slot_list_append PySem.F.type_list_append mt_appendN (pv 2) (pa_cons (pe_ix ix_tup (pv 0) (pe_ix ix_list (pv 2) (pe_un un_neg pe_int) (fun _ _ => rfl)) (fun _ _ => rfl)) pa_nil)))))
      (pss_one (ps_ret (pe_callTy call_tupleN (by rfl) Z.z_tuple (by decide +kernel) (pa_cons (pv 2) pa_nil)))))), ?_⟩
  refine ⟨_, rfl, (by show 1 ≤ sizeLine; decide), fun l H1 n1 => ?_⟩
  obtain ⟨s1, gl, h1, fl⟩ := (Stq.refl gh).loc2 n1
  have pr := per_is mv hs
  have small := per_le mv hs
  have look : ∀ j, ∃ x, atI (ns.map V.int) (itn ns j s) = some (.int x) ∧ x = itn ns (j + 1) s := fun j => by
    have ij := itn_in mv hs j
    obtain ⟨x, e1, e2, -⟩ := atI_ints ij.1 ij.2
    exact ⟨x, e2, Option.some.inj (e1.symm.trans (stp_at mv ij).1)⟩
  have grow : ∀ j, (List.range (j + 1)).map (fun k => V.int (itn ns k s)) = (List.range j).map (fun k => V.int (itn ns k s)) ++ [.int (itn ns j s)] := fun j => by
    rw [List.range_succ, List.map_append]
    rfl
  refine ⟨fun m σ' H' => ∃ j, j < per ns s ∧ m = per ns s - j ∧ σ' = [some (.ref a), some (.int s), some (.ref l)] ∧ Stq G H G H' ∧ H' l = some (.lst ((List.range (j + 1)).map fun k => V.int (itn ns k s))), ⟨_, 0, pr.1, rfl, rfl, s1, h1⟩, ?_⟩
  rintro m σ' H2 ⟨j, jp, rfl, rfl, s2, h2⟩
  rw [grow j] at h2
  have ha2 := s2.gh _ _ ha
  obtain ⟨x, ex, rfl⟩ := look j
  refine ⟨_, rfl, _, rfl, _, rfl, l, _, -1, _, rfl, rfl, .of h2, atI_last _ _, a, _, _, _, rfl, rfl, .of ha2, ex, _, rfl, _, _, rfl, rfl, _, rfl, ite2 (fun c => ?_) (fun c => ?_)⟩
  · have c : itn ns (j + 1) s ≠ s := nd_of c
    have lt : j + 1 < per ns s := by
      rcases Nat.lt_or_ge (j + 1) (per ns s) with z | z
      · exact z
      · exact absurd (by rw [show j + 1 = per ns s by omega]; exact pr.2.1) c
    refine ⟨fun σ' H' => ∃ m', m' < per ns s - j ∧ ∃ j, j < per ns s ∧ m' = per ns s - j ∧ σ' = [some (.ref a), some (.int s), some (.ref l)] ∧ Stq G H G H' ∧ H' l = some (.lst ((List.range (j + 1)).map fun k => V.int (itn ns k s))), fun σ' H' z => z, ?_⟩
    refine ⟨_, rfl, .inl ⟨rfl, _, .of h2⟩, _, rfl, _, rfl, _, rfl, l, _, -1, _, rfl, rfl, .of h2, atI_last _ _, a, _, _, _, rfl, rfl, .of ha2, ex, l, _, _, rfl, rfl, h2, ?_, fun H3 e3 => ?_⟩
    · rw [← grow j, List.length_map, List.length_range]
      exact lt_of_len (Nat.le_refl _) (show j + 1 < ns.length by omega) l12
    · refine ⟨_, Nat.sub_lt_sub_left jp (Nat.lt_succ_self j), j + 1, lt, rfl, rfl, s2.mut gl fl e3, ?_⟩
      rw [upd_at e3, ← grow j, ← grow (j + 1)]
  · have c : itn ns (j + 1) s = s := nd_not c
    have e : j + 1 = per ns s := by
      rcases Nat.lt_or_ge (j + 1) (per ns s) with z | z
      · exact absurd c (pr.2.2 _ (Nat.succ_le_succ (Nat.zero_le _)) z)
      · omega
    rw [← grow j, e] at h2
    refine ⟨_, rfl, l, _, rfl, .of h2, fun p H3 n3 => ?_⟩
    obtain ⟨G3, s3, g3, k3, -⟩ := s2.know2 n3
    refine q p G3 H3 s3 ?_
    rw [k3]
    unfold cyc
    rw [List.map_map]
    rfl

-- rowD: Srt
def spCycles (D : Addr) : Sp := fun vs H Q E => ∃ (G : Hp) (v : V) (d : PyData), vs = [v] ∧ Same G H ∧ Da G v d ∧ szD d ≤ 1000000 ∧
  (∀ ns : List Int, d = .tuple (ns.map PyData.int) → IsMv ns (ns.length : Nat) → ns.length ≤ 12 → ∀ (p : Addr) (xs : List V) (G' H' : Hp), Stq G H G' H' → H p = none → G' p = none → H' p = some (.lst xs) → DaAll G' xs ((rowsOf ns).map rowD) → Q (.ref p) H') ∧
  (mvD d = false → Errs E D [(("index" : Str), .int 0)] H)
theorem ok_cycles {DN : Addr} (Z : Zs mg) (D : Ds K mg) (c_moved_points : CalX P w K mg base "moved_points" 6 ["move"] (spSel DN movedL)) (c__cycle_from : Cal P w K mg base "_cycle_from" 1 ["move", "start"] spCyc) : CalX P w K mg base "cycles" 7 ["move"] (spCycles DN) := by
  refine Def.calX D.d_cycles sc_cycles (fun vs H Q E h => ?_) (fun f cdv A outer s H vs Q E hr h => ?_)
  · obtain ⟨G, v, d, rfl, gh, hd, sz, q1, q2⟩ := h
    rfl
  obtain ⟨G, v, d, rfl, gh, hd, sz, q1, q2⟩ := h
  refine ⟨_, (pss_cons (ps_setLc (i := 1) (own := [("start", 2)]) (g := gName 2) (tt := tYes) (by rfl) sc_cycles.nd rfl rfl (sw_true rfl rfl rfl (by decide +kernel)) (pi_tup (pe_calX c_moved_points (L2N.takes_of rfl rfl rfl rfl) (hr.mono (by first | decide | omega)) (by rfl) (pa_cons (pv 0) pa_nil))) (blkOk_by (N := ["move", "rows", "start", "row"]) (sc := defScope s_cycles) (by decide +kernel)) (fun _ _ _ _ _ => pg_name (i := 2) sc_cycles.nd rfl (Or.inl rfl)) (fun _ _ _ _ _ => pts_nil) (fun _ _ _ _ _ => (pe_cal c__cycle_from (hr.mono (by first | decide | omega)) (by rfl) (pa_cons (pv 0) (pa_cons (pv 2) pa_nil)))))
      (pss_one (ps_ret (pe_lc (own := [("row", 3)]) (g := gName 3) (by rfl) sc_cycles.nd (pi_list (pv 1)) (blkOk_by (N := ["move", "rows", "start", "row"]) (sc := defScope s_cycles) (by decide +kernel)) (fun _ _ _ _ _ => pg_name (i := 3) sc_cycles.nd rfl (Or.inl rfl)) (fun _ _ _ _ _ => pts_one (pt_cmp (pc_eqI (pe_ix (ix_tupK (K := K) rfl) (pv 3) pe_int (fun _ _ => rfl)) (pe_callB (cr_minTK (K := K) rfl rfl) (by rfl) Z.z_min (by decide +kernel) (pa_cons (pv 3) pa_nil))) (nomark _))) (fun _ _ _ _ _ => (pv 3)))))), ?_⟩
  refine ⟨_, rfl, G, v, d, rfl, gh, hd, sz, fun ns ed mv l12 p G1 H1 s1 k1 => ⟨p, rfl, ⟨_, .of (s1.gh _ _ k1)⟩, fun l hl => ?_⟩, q2⟩
  subst ed
  cases hd with
  | tup ha dx =>
    rename_i a _
    obtain rfl := vals_int dx
    have memM : ∀ {i : Nat} {s : Int}, (movedL ns)[i]? = some s → inR (ns.length : Nat) s ∧ stp ns s ≠ s := fun e => (moved_mem mv).mp (List.mem_of_getElem? e)
    have lenM : (movedL ns).length ≤ 12 := Nat.le_trans (pts_len _ _) l12
    refine lc_tup (xs := (movedL ns).map V.int) (fun i H' => ∃ (G' : Hp) (zs : List V), Stq G H G' H' ∧ G' p = some (.tup ((movedL ns).map V.int)) ∧ G' l = none ∧ H l = none ∧ H' l = some (.lst zs) ∧ zs.length = i ∧ DaAll G' zs (((movedL ns).take i).map fun s => rowD (cyc ns s))) ?_ ?_ ?_ ?_
    · obtain ⟨s2, gl, h2, fl⟩ := s1.loc2 (p := l) (o := .lst []) ⟨hl, rfl⟩
      exact ⟨G1, [], s2, k1, gl, fl, h2, rfl, .nil⟩
    · rintro i H' - ⟨G', zs, s2, kp, -⟩
      exact .of (s2.gh _ _ kp)
    · rintro i x H2 hx ⟨G2, zs, s2, kp, gl, fl, h2, rfl, dz⟩
      obtain ⟨s, hs, rfl⟩ := map_at hx
      have lt := (List.getElem?_eq_some_iff.mp hs).1
      refine ⟨rfl, yesT ⟨_, rfl, _, rfl, G2, a, ns, s, rfl, s2.gh, s2.gg _ _ ha, mv, l12, (memM hs).1, fun q G3 H3 s3 k3 => ?_⟩⟩
      have s4 := s2.trans s3
      have gl3 := s3.nw2 h2 gl
      refine ⟨zs, s3.hh _ _ h2, lt_of_len (Nat.le_refl _) lt lenM, G3, zs ++ [.ref q], s4.mut gl3 fl rfl, s3.gg _ _ kp, gl3, fl, upd_same, by rw [List.length_append]; rfl, ?_⟩
      rw [List.take_add_one, hs, List.map_append]
      exact (dz.up s3.gg).append (.one (.tup k3 (DaAll.ints _)))
    rintro H2 ⟨G2, zs, s2, kp, gl, fl, h2, lz, dz⟩
    rw [List.length_map] at lz dz
    rw [List.take_length] at dz
    refine ⟨_, rfl, l, rfl, ⟨_, .of h2⟩, fun r hr => ?_⟩
    refine lc_list (xs := zs) (fun i H' => Stq G H G2 H' ∧ G2 r = none ∧ H r = none ∧ H' l = some (.lst zs) ∧ ∃ ys, H' r = some (.lst ys) ∧ ys.length ≤ i ∧ DaAll G2 ys ((((movedL ns).take i).filter fun s => (cyc ns s).all fun x => decide (s ≤ x)).map fun s => rowD (cyc ns s))) ?_ ?_ ?_ ?_
    · obtain ⟨s3, gr, h3, fr⟩ := s2.loc2 (p := r) (o := .lst []) ⟨hr, rfl⟩
      exact ⟨s3, gr, fr, (New.mk hr rfl : New H2 r (.lst []) _).else h2, [], h3, Nat.le_refl _, .nil⟩
    · rintro i H' - ⟨s3, -, -, h3, -⟩
      exact .of h3
    · rintro i x H3 hx ⟨s3, gr, fr, h3, ys, hy, ly, dy⟩
      obtain ⟨e, he, hde⟩ := dz.get hx
      rw [List.getElem?_map] at he
      obtain ⟨s, hs, rfl⟩ := Option.map_eq_some_iff.mp he
      have lt := (List.getElem?_eq_some_iff.mp hs).1
      obtain ⟨is, ms⟩ := memM hs
      have pr := per_is mv is
      have step := List.take_add_one (l := movedL ns) (i := i)
      rw [hs] at step
      cases hde with
      | tup hb db =>
        rename_i b _
        obtain rfl := vals_int db
        have hb3 := s3.gh _ _ hb
        have first : atI ((cyc ns s).map V.int) ((0 : Nat) : Int) = some (.int s) := atI_nat (by rw [List.getElem?_map, cyc_get mv pr.1]; rfl)
        have self : s ∈ cyc ns s := cyc_all mv is 0
        refine ⟨rfl, _, rfl, b, _, 0, _, rfl, rfl, .of hb3, first, _, rfl, b, cyc ns s, rfl, .of hb3, by rw [cyc_len mv]; exact pr.1, fun m hm le => ⟨_, _, rfl, rfl, _, rfl, ite2 (fun c => ?_) (fun c => ?_)⟩⟩
        · have c : s = m := dec_of c
          have all_ : ((cyc ns s).all fun x => decide (s ≤ x)) = true := List.all_eq_true.mpr fun x hx => decide_eq_true (by rw [c]; exact le x hx)
          refine ⟨_, rfl, ys, hy, lt_of_len ly lt lenM, s3.mut gr fr rfl, gr, fr, ?_, ys ++ [.ref b], upd_same, by rw [List.length_append]; exact Nat.succ_le_succ ly, ?_⟩
          · rw [upd_ne fun z => by rw [z, hr] at h2; cases h2]
            exact h3
          · rw [step, List.filter_append, List.map_append]
            refine dy.append ?_
            show DaAll G2 [.ref b] ((List.filter _ [s]).map _)
            rw [List.filter_cons_of_pos (by exact all_)]
            exact .one (.tup hb (DaAll.ints _))
        · have c : ¬ s = m := dec_not c
          have not_ : ¬ ((cyc ns s).all fun x => decide (s ≤ x)) = true := fun z => by
            have h1 := of_decide_eq_true (List.all_eq_true.mp z m hm)
            have h2 := le s self
            omega
          refine ⟨s3, gr, fr, h3, ys, hy, Nat.le_succ_of_le ly, ?_⟩
          rw [step, List.filter_append]
          show DaAll G2 ys ((_ ++ List.filter _ [s]).map _)
          rw [List.filter_cons_of_neg (by exact not_)]
          simpa using dy
    · rintro H3 ⟨s3, gr, fr, h3, ys, hy, ly, dy⟩
      rw [lz, List.take_length] at dy
      refine q1 ns rfl mv l12 r ys G2 H3 s3 fr gr hy ?_
      unfold rowsOf keptL
      rw [List.map_map]
      exact dy


def fitsB (n : Int) : PyData → Bool
  | .tuple ds => mvD (.tuple ds) && (decide (n < 0) || decide ((ds.length : Int) = n))
  | _ => false
def spFits : Sp := fun vs H Q _ => ∃ (G : Hp) (v : V) (d : PyData) (n : Int), vs = [v, .int n] ∧ Same G H ∧ Da G v d ∧ szD d ≤ 1000000 ∧ ∀ H', Same H H' → Q (.bl (fitsB n d)) H'
theorem ok_move_fits (Z : Zs mg) (D : Ds K mg) (c__law_is_whole : Cal P w K mg base "_law_is_whole" 1 ["value"] spIsWhole) : Cal P w K mg base "_law_move_fits" 2 ["value", "points"] spFits := by
  refine Def.cal D.d_law_move_fits sc_law_move_fits (fun vs H Q E h => ?_) (fun f cdv A outer s H vs Q E hr h => ?_)
  · obtain ⟨G, v, d, n, rfl, gh, hd, sz, q⟩ := h
    rfl
  obtain ⟨G, v, d, n, rfl, gh, hd, sz, q⟩ := h
  refine ⟨_, (pss_cons (ps_if (PW.pt (pw_or (pt_not (pt_val (pe_callB call_isD (by rfl) Z.z_isinstance (by decide +kernel) (pa_cons (pv 0) (pa_cons (pe_bltn (v := .ty "tuple") (by rfl) Z.z_tuple (by decide +kernel) rfl) pa_nil))))) (pw_or1 (pt_cmp (pc_gt (pe_callB call_len (by rfl) Z.z_len (by decide +kernel) (pa_cons (pv 0) pa_nil)) pe_int) (nomark _))))) (pss_one (ps_ret pe_bl)) pss_nil)
      (Evl.pss_cut (ps_if (PW.pt (pw_and (pt_cmp (pc_ge (pv 1) pe_int) (nomark _)) (pw_and1 (pt_cmp (pc_neI (pe_callB call_len (by rfl) Z.z_len (by decide +kernel) (pa_cons (pv 0) pa_nil)) (pv 1)) (nomark _))))) (pss_one (ps_ret pe_bl)) pss_nil)
      (pss_cons (ps_set (i := 2) sc_law_move_fits.nd rfl (Or.inl rfl) pe_dnewK)
      (pss_cons (ps_for PassesOwn.never rfl (pi_tup (pv 0)) (pg_name (i := 3) sc_law_move_fits.nd rfl (Or.inl rfl)) (pss_cons (ps_if (PW.pt (pw_or (pt_not (pt_val (pe_cal c__law_is_whole (hr.mono (by first | decide | omega)) (by rfl) (pa_cons (pv 3) pa_nil)))) (pw_or (pt_cmp (pc_lt (pv 3) pe_int) (nomark _)) (pw_or (pt_cmp (pc_ge (pv 3) (pe_callB call_len (by rfl) Z.z_len (by decide +kernel) (pa_cons (pv 0) pa_nil))) (nomark _)) (pw_or1 (pt_cmp (pc_din (hu_of hr) (pv 3) (pv 2)))))))) (pss_one (ps_ret pe_bl)) pss_nil)
      (pss_one (ps_dput (hu_of hr) (pv 2) (pv 3) pe_bl rfl))))
      (pss_one (ps_ret pe_bl)))))), ?_⟩
  have hdH := hd.up gh
  have no : ∀ {x : Prop}, fitsB n d = false → Q (.bl false) H := fun e => by
    have := q H (Same.refl _)
    rwa [e] at this
  rcases hd.kind with ⟨rfl, rfl⟩ | ⟨b, rfl, rfl⟩ | ⟨j, rfl, rfl⟩ | ⟨j, rfl, rfl⟩ | ⟨a, xs, ds, t, rfl, ha, hat, hal, dxs, rfl⟩
  · exact ⟨_, rfl, _, _, "tuple", rfl, hdH, ok_tuple, _, rfl, iteBT (by rw [ib_none_tuple]; rfl) (no (x := True) rfl)⟩
  · exact ⟨_, rfl, _, _, "tuple", rfl, hdH, ok_tuple, _, rfl, iteBT (by rw [ib_bool_tuple]; rfl) (no (x := True) rfl)⟩
  · exact ⟨_, rfl, _, _, "tuple", rfl, hdH, ok_tuple, _, rfl, iteBT (by rw [ib_int_tuple]; rfl) (no (x := True) rfl)⟩
  · exact ⟨_, rfl, _, _, "tuple", rfl, hdH, ok_tuple, _, rfl, iteBT (by rw [ib_str_tuple]; rfl) (no (x := True) rfl)⟩
  cases t with
  | false => exact ⟨_, rfl, _, _, "tuple", rfl, hdH, ok_tuple, _, rfl, iteBT (by rw [show sqD false ds = .list ds from rfl, ib_list_tuple]; rfl) (no (x := True) rfl)⟩
  | true =>
    have ha := hat rfl
    have lx := dxs.length
    refine ⟨_, rfl, _, _, "tuple", rfl, hdH, ok_tuple, _, rfl, iteBF (by rw [show sqD true ds = .tuple ds from rfl, ib_tuple_tuple]; rfl) ?_⟩
    refine ⟨_, rfl, _, xs.length, rfl, HasL.lenV (.inr (gh _ _ ha)), _, _, rfl, rfl, _, rfl, ite2 (fun c => ?_) (fun c => ?_)⟩
    · have c : 12 < ((xs.length : Nat) : Int) := dec_of c
      refine no (x := True) ?_
      show (mvD (.tuple ds) && _) = false
      rw [mvD_long (by omega), Bool.false_and]
    have c : ¬ 12 < ((xs.length : Nat) : Int) := dec_not c
    have l12 : xs.length ≤ 12 := by omega
    refine ⟨fun σ' H' => σ' = [some (.ref a), some (.int n), none, none] ∧ H' = H ∧ (n < 0 ∨ ((xs.length : Nat) : Int) = n), ?_, ?_⟩
    · refine ⟨_, rfl, _, _, rfl, rfl, _, rfl, ite2 (fun c => ?_) (fun c => iteF ⟨rfl, rfl, .inl (by have := dec_not c; omega)⟩)⟩
      have c0 : 0 ≤ n := dec_of c
      refine ⟨_, rfl, _, xs.length, rfl, HasL.lenV (.inr (gh _ _ ha)), _, rfl, _, _, rfl, rfl, _, rfl, ite2 (fun c => ?_) (fun c => ⟨rfl, rfl, .inr (nd_not c)⟩)⟩
      have c1 : ¬ ((xs.length : Nat) : Int) = n := nd_of c
      refine no (x := True) ?_
      show (mvD (.tuple ds) && (decide (n < 0) || decide ((ds.length : Int) = n))) = false
      rw [decide_eq_false (show ¬ n < 0 by omega), decide_eq_false (show ¬ (ds.length : Int) = n by rw [← lx]; exact c1), Bool.or_false, Bool.and_false]
    rintro σ' H' ⟨rfl, rfl, hn⟩
    have eqB : fitsB n (.tuple ds) = mvD (.tuple ds) := by
      show (mvD (.tuple ds) && (decide (n < 0) || decide ((ds.length : Int) = n))) = _
      have : (decide (n < 0) || decide ((ds.length : Int) = n)) = true := by
        rcases hn with z | z
        · rw [decide_eq_true z, Bool.true_or]
        · rw [decide_eq_true (show (ds.length : Int) = n by rw [← lx]; exact z), Bool.or_true]
      rw [this, Bool.and_true]
    rw [show sqD true ds = PyData.tuple ds from rfl, eqB] at q
    refine fun l hl => ?_
    have sl : ∀ {o : HO}, Same H' (upd H' l o) := fun {o} => same_put (Same.refl _) hl
    have bad : ∀ {H2 : Hp}, Same H' H2 → (mvD (.tuple ds) = true → False) → Q (.bl false) H2 := fun {H2} s no => by
      have e : mvD (.tuple ds) = false := by
        cases e : mvD (.tuple ds) with
        | true => exact (no e).elim
        | false => rfl
      have := q H2 s
      rwa [e] at this
    refine ⟨_, rfl, a, rfl, ⟨_, .of (sl _ _ (gh _ _ ha))⟩, for_tup (K := K) (a := a) (xs := xs) (fun i σ' H2 => ∃ (kvs : List (Key × V)) (ms : List Int) (y3 : Option V), σ' = [some (.ref a), some (.int n), some (.ref l), y3] ∧ Same H' H2 ∧ H2 l = some (.dK kvs) ∧ kvs.length ≤ i ∧
      ds.take i = ms.map PyData.int ∧ (∀ k ∈ ms, 0 ≤ k ∧ k < (xs.length : Nat)) ∧ ms.Nodup ∧ ∀ k : Int, (valV kvs (Sum.inl k)).isSome = decide (k ∈ ms)) ?_ ?_ ?_ ?_⟩
    · exact ⟨[], [], none, rfl, sl, upd_same, Nat.le_refl _, rfl, fun k hk => (by cases hk), List.nodup_nil, fun k => rfl⟩
    · rintro i σ' H2 - ⟨kvs, ms, y3, rfl, s2, -⟩
      exact .of (s2 _ _ (gh _ _ ha))
    · rintro i x σ' H2 hx ⟨kvs, ms, y3, rfl, s2, h2, lk, em, rg, nd, mem⟩
      obtain ⟨e, he, hde⟩ := dxs.get hx
      have lt := (List.getElem?_eq_some_iff.mp hx).1
      have step := List.take_add_one (l := ds) (i := i)
      rw [he, em] at step
      have hde2 := hde.up (gh.trans s2)
      have isMv : mvD (.tuple ds) = true → ∃ j, e = .int j ∧ 0 ≤ j ∧ j < (xs.length : Nat) ∧ j ∉ ms := fun z => by
        obtain ⟨ns, ed, mv, -⟩ := mvD_ints z
        have ed := PyData.tuple.inj ed
        have ln : ns.length = xs.length := by rw [lx, ed, List.length_map]
        rw [ed, List.getElem?_map] at he
        obtain ⟨j, hj, rfl⟩ := Option.map_eq_some_iff.mp he
        have jr := mv.mem.mp (List.mem_of_getElem? hj)
        refine ⟨j, rfl, jr.1, by rw [← ln]; exact jr.2, fun m => ?_⟩
        rw [ed, ← List.map_take] at em
        have em' : ns.take i = ms := by
          have := congrArg intsOf em
          rwa [intsOf_map, intsOf_map] at this
        rw [← em'] at m
        obtain ⟨k, hk, ek⟩ := List.mem_iff_getElem.mp m
        rw [List.getElem_take] at ek
        have ki : k < i := by rw [List.length_take] at hk; omega
        have nd2 := List.pairwise_iff_getElem.mp mv.nodup k i (by rw [List.length_take] at hk; omega) (by omega) ki
        exact nd2 (ek.trans (Option.some.inj ((List.getElem?_eq_getElem (by omega)).symm.trans hj)).symm)
      refine ⟨_, rfl, x, e, rfl, hde2, _, rfl, ?_⟩
      cases hde with
      | int j =>
        refine iteF ⟨_, rfl, _, _, rfl, rfl, _, rfl, ite2 (fun c => ?_) (fun c => ?_)⟩
        · have c : j < 0 := dec_of c
          exact bad s2 fun z => by
            obtain ⟨k, ek, k0, -⟩ := isMv z
            cases ek
            omega
        have c0 : ¬ j < 0 := dec_not c
        refine ⟨_, rfl, _, rfl, _, xs.length, rfl, HasL.lenV (.inr (s2 _ _ (gh _ _ ha))), _, _, rfl, rfl, _, rfl, ite2 (fun c => ?_) (fun c => ?_)⟩
        · have c : ((xs.length : Nat) : Int) ≤ j := dec_of c
          exact bad s2 fun z => by
            obtain ⟨k, ek, -, k1, -⟩ := isMv z
            cases ek
            omega
        have c1 : ¬ ((xs.length : Nat) : Int) ≤ j := dec_not c
        refine ⟨_, rfl, _, rfl, l, _, rfl, DGet.k (k := Sum.inl j) h2, _, rfl, ?_⟩
        rw [mem j]
        refine ite2 (fun c => ?_) (fun c => ?_)
        · have c : j ∈ ms := dec_of c
          exact bad s2 fun z => by
            obtain ⟨k, ek, -, -, k2⟩ := isMv z
            cases ek
            exact k2 c
        have c2 : j ∉ ms := dec_not c
        refine ⟨_, rfl, _, rfl, l, _, rfl, DPut.k (k := Sum.inl j) h2 (lt_of_len lk lt l12), ?_⟩
        refine ⟨_, ms ++ [j], _, rfl, same_put s2 hl, upd_same, Nat.le_trans (length_putK _ _ _) (by omega), by rw [step, List.map_append]; rfl, fun k hk => ?_, ?_, fun k => ?_⟩
        · rcases List.mem_append.mp hk with z | z
          · exact rg k z
          · rw [List.mem_singleton.mp z]
            omega
        · refine List.nodup_append.mpr ⟨nd, List.pairwise_singleton _ _, fun a ha b hb e => ?_⟩
          rw [List.mem_singleton.mp hb] at e
          rw [e] at ha
          exact c2 ha
        · rw [valV_put]
          by_cases z : (Sum.inl k : Key) = Sum.inl j
          · rw [if_pos z]
            have : k = j := Sum.inl.inj z
            rw [this]
            simp
          · rw [if_neg z, mem k]
            have : k ≠ j := fun e => z (by rw [e])
            simp [this]
      | _ => exact iteT (bad s2 fun z => by obtain ⟨k, ek, -⟩ := isMv z; cases ek)
    · rintro σ' H2 ⟨kvs, ms, y3, rfl, s2, h2, lk, em, rg, nd, mem⟩
      rw [lx, List.take_length] at em
      have ln : ms.length = ds.length := by rw [em, List.length_map]
      have ok : mvD (.tuple ds) = true := by
        rw [em]
        have pm : (rngI (ms.length : Nat)).Perm ms := perm_of_subset nd (fun k hk => rngI_mem.mpr (by have := rg k hk; omega)) (by rw [rngI_len]; omega)
        exact mvD_mv (n := (ms.length : Nat)) (by omega) pm.symm (by omega)
      have := q H2 s2
      rwa [ok] at this


def spRenamed : Sp := fun vs H Q _ => ∃ (G : Hp) (a b : Addr) (ns bs : List Int) (n : Int), vs = [.ref a, .ref b] ∧ Same G H ∧ G a = some (.tup (ns.map V.int)) ∧ G b = some (.tup (bs.map V.int)) ∧ IsMv ns n ∧ IsMv bs n ∧ 0 ≤ n ∧ n ≤ 13 ∧
  ∀ (p : Addr) (ms : List Int) (G' H' : Hp), Stq G H G' H' → G' p = some (.tup (ms.map V.int)) → IsMv ms n → Q (.ref p) H'
theorem ok_renamed (Z : Zs mg) (D : Ds K mg) : Cal P w K mg base "_law_renamed" 1 ["move", "by"] spRenamed := by
  refine Def.cal D.d_law_renamed sc_law_renamed (fun vs H Q E h => ?_) (fun f cdv A outer s H vs Q E hr h => ?_)
  · obtain ⟨G, a, b, ns, bs, n, rfl, gh, ha, hb, mn, mb, n0, n13, q⟩ := h
    rfl
  obtain ⟨G, a, b, ns, bs, n, rfl, gh, ha, hb, mn, mb, n0, n13, q⟩ := h
  refine ⟨_, (pss_cons (ps_set (i := 2) sc_law_renamed.nd rfl (Or.inl rfl) (pe_op op_repL (pe_lstN (pa_cons pe_int pa_nil)) (pe_callB call_len_seq (by rfl) Z.z_len (by decide +kernel) (pa_cons (pv 0) pa_nil))))
      (pss_cons (ps_for PassesOwn.never rfl (pi_range1 (by rfl) Z.z_range (pa_cons (pe_callB call_len_seq (by rfl) Z.z_len (by decide +kernel) (pa_cons (pv 0) pa_nil)) pa_nil)) (pg_name (i := 3) sc_law_renamed.nd rfl (Or.inl rfl)) (pss_one (ps_asg (pe_ix ix_tup (pv 1) (pe_ix ix_tup (pv 0) (pv 3) (fun _ _ => rfl)) (fun _ _ => rfl)) (pg_sub (pv 2) (pe_ix ix_tup (pv 1) (pv 3) (fun _ _ => rfl)) set_listN))))
      (pss_one (ps_ret (pe_callTy call_tupleN (by rfl) Z.z_tuple (by decide +kernel) (pa_cons (pv 2) pa_nil)))))), ?_⟩
  have ln := mn.len
  have lb := mb.len
  have S0 := Stq.refl gh
  refine ⟨(by show 1 ≤ sizeLine; decide), fun z H1 n1 => ?_⟩
  obtain ⟨s1, gz, hz, fz⟩ := S0.loc2 n1
  have look : ∀ {cs : List Int} {c : Int} {H' : Hp}, IsMv cs n → inR n c → atI (cs.map V.int) c = some (.int (stp cs c)) := fun {cs c H'} mc ic => by
    obtain ⟨x, e1, e2, -⟩ := atI_ints (ns := cs) ic.1 (by have := mc.len; have := ic.2; omega)
    rw [e2]
    rw [(stp_at mc ic).1] at e1
    rw [Option.some.inj e1]
  refine ⟨_, rfl, a, _, rfl, .inr (.of (s1.gh _ _ ha)), z, _, _, rfl, rfl, hz, by rw [List.length_map]; omega, by rw [List.length_map]; omega, by rw [List.length_map]; show 1 * _ ≤ sizeLine; exact Nat.le_trans (show _ ≤ 13 by omega) (by decide), fun l H2 n2 => ?_⟩
  obtain ⟨s2, gl, hl, fl⟩ := s1.loc2 n2
  have e0 : (List.replicate ((((ns.map V.int).length : Nat) : Int)).toNat [V.int 0]).flatten = (List.replicate ns.length (0 : Int)).map V.int := by
    rw [List.length_map]
    have : ∀ m : Nat, (List.replicate m [V.int 0]).flatten = (List.replicate m (0 : Int)).map V.int := fun m => by
      induction m with
      | zero => rfl
      | succ m ih => rw [List.replicate_succ, List.flatten_cons, ih]; rfl
    exact this _
  rw [e0] at hl
  refine ⟨_, rfl, a, _, rfl, .inr (.of (s2.gh _ _ ha)), _, rfl, by rw [List.length_map]; omega, by rw [List.length_map]; omega, ?_⟩
  rw [List.length_map]
  refine for_range (lo := 0) (n := ((ns.length : Nat) : Int).toNat) (fun i σ' H' => ∃ (L : List Int) (y3 : Option V), σ' = [some (.ref a), some (.ref b), some (.ref l), y3] ∧ Stq G H G H' ∧ H' l = some (.lst (L.map V.int)) ∧ L.length = n.toNat ∧ ∀ k : Nat, k < i → L[(stp bs k).toNat]? = some (stp bs (stp ns k)))
    ⟨_, none, rfl, s2, hl, by rw [List.length_replicate]; omega, fun k hk => absurd hk (Nat.not_lt_zero k)⟩ ?_ ?_
  · rintro i σ' H3 hi ⟨L, y3, rfl, s3, h3, lL, hL⟩
    have ii : inR n (0 + (i : Int)) := ⟨by omega, by omega⟩
    have i1 := (stp_at mn ii).2
    have i2 := (stp_at mb i1).2
    have i3 := (stp_at mb ii).2
    refine ⟨_, rfl, _, rfl, _, rfl, a, _, _, _, rfl, rfl, .of (s3.gh _ _ ha), look (H' := H3) mn ii, b, _, _, _, rfl, rfl, .of (s3.gh _ _ hb), look (H' := H3) mb i1, ?_⟩
    refine ⟨_, rfl, _, rfl, _, rfl, b, _, _, _, rfl, rfl, .of (s3.gh _ _ hb), look (H' := H3) mb ii, l, _, (stp bs (0 + (i : Int))).toNat, rfl, ?_, h3, ?_, fun H4 e4 => ?_⟩
    · have := i3.1
      rw [Int.toNat_of_nonneg this]
    · rw [List.length_map]
      have := i3.1
      have := i3.2
      omega
    refine ⟨L.set (stp bs (0 + (i : Int))).toNat (stp bs (stp ns (0 + (i : Int)))), _, rfl, s3.mut gl fl e4, by rw [upd_at e4, List.map_set], by rw [List.length_set]; exact lL, fun k hk => ?_⟩
    rw [Int.zero_add]
    by_cases e : k = i
    · subst e
      have := i3.1
      have := i3.2
      rw [Int.zero_add] at *
      rw [List.getElem?_set_self (by omega)]
    · have ne : stp bs (i : Int) ≠ stp bs (k : Int) := fun z => e (by have := stp_inj mb (p := (i : Int)) (q := (k : Int)) ⟨by omega, by omega⟩ ⟨by omega, by omega⟩ z; omega)
      have k3 := (stp_at mb (p := (k : Int)) ⟨by omega, by omega⟩).2
      have := k3.1
      have := i3.1
      rw [Int.zero_add] at *
      rw [List.getElem?_set_ne (by omega)]
      exact hL k (by omega)
  · rintro σ' H3 ⟨L, y3, rfl, s3, h3, lL, hL⟩
    refine ⟨_, rfl, l, _, rfl, .of h3, fun p H4 n4 => ?_⟩
    obtain ⟨G4, s4, g4, k4, -⟩ := s3.know2 n4
    exact q p L G4 H4 s4 k4 (renamed_mv n0 mn mb lL fun k hk => hL k (by omega))


def spRings : Sp := fun vs H Q _ => ∃ (G : Hp) (a r : Addr) (ns : List Int) (xs : List V), vs = [.ref a, .ref r] ∧ Same G H ∧ G a = some (.tup (ns.map V.int)) ∧ IsMv ns (ns.length : Nat) ∧ ns.length ≤ 12 ∧ H r = some (.lst xs) ∧ DaAll G xs ((rowsOf ns).map rowD) ∧ ∀ H', Same H H' → Q (.bl true) H'
theorem ok_rings (Z : Zs mg) (D : Ds K mg) (c__law_is_whole : Cal P w K mg base "_law_is_whole" 1 ["value"] spIsWhole) : Cal P w K mg base "_law_rings" 2 ["move", "rows"] spRings := by
  refine Def.cal D.d_law_rings sc_law_rings (fun vs H Q E h => ?_) (fun f cdv A outer s H vs Q E hr h => ?_)
  · obtain ⟨G, a, r, ns, xs, rfl, gh, ha, mv, l12, hr0, dxs, q⟩ := h
    rfl
  obtain ⟨G, a, r, ns, xs, rfl, gh, ha, mv, l12, hr0, dxs, q⟩ := h
  refine ⟨_, (pss_cons (ps_if (pt_not (pt_val (pe_callB call_isD (by rfl) Z.z_isinstance (by decide +kernel) (pa_cons (pv 1) (pa_cons (pe_bltn (v := .ty "list") (by rfl) Z.z_list (by decide +kernel) rfl) pa_nil))))) (pss_one (ps_ret pe_bl)) pss_nil)
      (pss_cons (ps_setLc (i := 3) (own := [("p", 2)]) (g := gName 2) (by rfl) sc_law_rings.nd rfl rfl (sw_true rfl rfl rfl (by decide +kernel)) (pi_range1 (by rfl) Z.z_range (pa_cons (pe_callB call_len_seq (by rfl) Z.z_len (by decide +kernel) (pa_cons (pv 0) pa_nil)) pa_nil)) (blkOk_by (N := ["move", "rows", "p", "left", "last", "row", "k"]) (sc := defScope s_law_rings) (by decide +kernel)) (fun _ _ _ _ _ => pg_name (i := 2) sc_law_rings.nd rfl (Or.inl rfl)) (fun _ _ _ _ _ => pts_one (pt_cmp (pc_neI (pe_ix (ix_tupK (K := K) rfl) (pv 0) (pv 2) (fun _ _ => rfl)) (pv 2)) (nomark _))) (fun _ _ _ _ _ => (pv 2)))
      (pss_cons (ps_set (i := 4) sc_law_rings.nd rfl (Or.inl rfl) (pe_un un_neg pe_int))
      (pss_cons (ps_for PassesOwn.never rfl (pi_list (pv 1)) (pg_name (i := 5) sc_law_rings.nd rfl (Or.inl rfl)) (pss_cons (ps_if (PW.pt (pw_or (pt_not (pt_val (pe_callB call_isD (by rfl) Z.z_isinstance (by decide +kernel) (pa_cons (pv 5) (pa_cons (pe_bltn (v := .ty "tuple") (by rfl) Z.z_tuple (by decide +kernel) rfl) pa_nil))))) (pw_or1 (pt_cmp (pc_lt (pe_callB call_len_seq (by rfl) Z.z_len (by decide +kernel) (pa_cons (pv 5) pa_nil)) pe_int) (nomark _))))) (pss_one (ps_ret pe_bl)) pss_nil)
      (pss_cons (ps_for PassesOwn.never rfl (pi_tup (pv 5)) (pg_name (i := 2) sc_law_rings.nd rfl (Or.inl rfl)) (pss_cons (ps_if (PW.pt (pw_or (pt_not (pt_val (pe_cal c__law_is_whole (hr.mono (by first | decide | omega)) (by rfl) (pa_cons (pv 2) pa_nil)))) (pw_or1 (pt_cmpR op_notIn_seq (pv 2) (pv 3) (by with_unfolding_all rfl))))) (pss_one (ps_ret pe_bl)) pss_nil)
      (pss_one (ps_expr (pe_bm PySem.F.plainAttrs_list PySem.F.slot_list_remove PySem.F.type_list_remove mt_remove (pv 3) (pa_cons (pv 2) pa_nil))))))
      (pss_cons (ps_if (PW.pt (pw_or (pt_cmp (pc_neI (pe_ix ix_tup (pv 5) pe_int (fun _ _ => rfl)) (pe_callB (cr_minTK (K := K) rfl rfl) (by rfl) Z.z_min (by decide +kernel) (pa_cons (pv 5) pa_nil))) (nomark _)) (pw_or1 (pt_cmp (pc_le (pe_ix ix_tup (pv 5) pe_int (fun _ _ => rfl)) (pv 4)) (nomark _))))) (pss_one (ps_ret pe_bl)) pss_nil)
      (pss_cons (ps_set (i := 4) sc_law_rings.nd rfl (Or.inl rfl) (pe_ix ix_tup (pv 5) pe_int (fun _ _ => rfl)))
      (pss_one (ps_for PassesOwn.never rfl (pi_range1 (by rfl) Z.z_range (pa_cons (pe_callB call_len_seq (by rfl) Z.z_len (by decide +kernel) (pa_cons (pv 5) pa_nil)) pa_nil)) (pg_name (i := 6) sc_law_rings.nd rfl (Or.inl rfl)) (pss_one (ps_if (pt_cmp (pc_neI (pe_ix ix_tup (pv 0) (pe_ix ix_tup (pv 5) (pv 6) (fun _ _ => rfl)) (fun _ _ => rfl)) (pe_ix ix_tup (pv 5) (pe_op op_mod (pe_callTy call_int1 (by rfl) Z.z_int (by decide +kernel) (pa_cons (pe_op op_add (pv 6) pe_int) pa_nil)) (pe_callB call_len_seq (by rfl) Z.z_len (by decide +kernel) (pa_cons (pv 5) pa_nil))) (fun _ _ => rfl))) (nomark _)) (pss_one (ps_ret pe_bl)) pss_nil)))))))))
      (pss_one (ps_ret (pe_cmp (pc_eqI (pe_callB call_len_seq (by rfl) Z.z_len (by decide +kernel) (pa_cons (pv 3) pa_nil)) pe_int) (nomark _)))))))), ?_⟩
  have dH := dxs.up gh
  have haH := gh _ _ ha
  have lK : (keptL ns).length ≤ 12 := Nat.le_trans (kept_len mv) l12
  have lx : xs.length = (keptL ns).length := by
    have := dxs.length
    rw [this, List.length_map]
    exact List.length_map ..
  refine ⟨_, rfl, _, .list ((rowsOf ns).map rowD), "list", rfl, .lst hr0 dH, ok_list, _, rfl, iteBF (by rw [ib_list_list]; rfl) ?_⟩
  refine ⟨_, rfl, a, _, rfl, .inr (.of haH), _, rfl, by rw [List.length_map]; omega, by rw [List.length_map]; omega, fun l hl => ?_⟩
  rw [List.length_map]
  refine lc_range (lo := 0) (n := ((ns.length : Nat) : Int).toNat) (fun i H' => Stq G H G H' ∧ G l = none ∧ H l = none ∧ H' l = some (.lst ((pts (fun j => !heldAt ns j) i).map V.int))) ?_ ?_ ?_
  · obtain ⟨s2, gl, h2, fl⟩ := (Stq.refl gh).loc2 (p := l) (o := .lst []) ⟨hl, rfl⟩
    exact ⟨s2, gl, fl, h2⟩
  · rintro i H2 hi ⟨s2, gl, fl, h2⟩
    have lt : i < ns.length := by omega
    have em : ns[i]? = some ns[i] := List.getElem?_eq_getElem lt
    have at_i : atI (ns.map V.int) (0 + (i : Int)) = some (.int ns[i]) := by rw [Int.zero_add]; exact atI_nat (by rw [List.getElem?_map, em]; rfl)
    refine ⟨rfl, _, rfl, _, rfl, a, _, _, _, rfl, rfl, .of (s2.hh _ _ haH), at_i, _, rfl, _, _, rfl, rfl, _, rfl, ite2 (fun c => ?_) (fun c => ?_)⟩
    · have at_ : (!heldAt ns i) = true := by unfold heldAt; rw [em]; exact congrArg (! ·) (decide_eq_false fun z => nd_of c (by rw [Int.zero_add]; exact Option.some.inj z))
      refine ⟨_, rfl, _, h2, ?_, s2.mut gl fl rfl, gl, fl, ?_⟩
      · rw [List.length_map]
        exact lt_of_len (pts_len _ _) lt l12
      · rw [upd_same, pts_step, at_, List.map_append, Int.zero_add]
        rfl
    · have at_ : (!heldAt ns i) = false := by unfold heldAt; rw [em, nd_not c, Int.zero_add]; exact congrArg (! ·) (decide_eq_true rfl)
      refine ⟨s2, gl, fl, ?_⟩
      rw [h2, pts_step, at_]
      simp
  rintro H1 ⟨s1, gl, fl, h1⟩
  have e0 : pts (fun j => !heldAt ns j) ((ns.length : Nat) : Int).toNat = leftL ns (dn ns 0) := by
    show movedL ns = _
    unfold leftL dn
    rw [List.filter_eq_self.mpr]
    intro x _
    rfl
  rw [e0] at h1
  refine ⟨_, rfl, ?_⟩
  refine ⟨_, rfl, r, rfl, ⟨_, .of (s1.hh _ _ hr0)⟩, for_list (K := K) (a := r) (xs := xs) (fun i σ' H' => ∃ (la : Int) (y2 y5 y6 : Option V), σ' = [some (.ref a), some (.ref r), y2, some (.ref l), some (.int la), y5, y6] ∧ Stq G H G H' ∧ H' l = some (.lst ((leftL ns (dn ns i)).map V.int)) ∧ ∀ s, (keptL ns)[i]? = some s → la < s) ?_ ?_ ?_ ?_⟩
  · refine ⟨-1, _, _, _, rfl, s1, h1, fun s hs => ?_⟩
    have := (kept_in mv (List.mem_of_getElem? hs)).1.1
    omega
  · rintro i σ' H' - ⟨la, y2, y5, y6, rfl, s2, -⟩
    exact .of (s2.hh _ _ hr0)
  · rintro i x σ' H2 hx ⟨la, y2, y5, y6, rfl, s2, h2, hla⟩
    obtain ⟨e, he, hde⟩ := dxs.get hx
    rw [List.getElem?_map] at he
    obtain ⟨row, hrow, rfl⟩ := Option.map_eq_some_iff.mp he
    have hrow' : ((keptL ns).map (cyc ns))[i]? = some row := hrow
    rw [List.getElem?_map] at hrow'
    obtain ⟨s, hs, rfl⟩ := Option.map_eq_some_iff.mp hrow'
    obtain ⟨is, ms, least⟩ := kept_in mv (List.mem_of_getElem? hs)
    have pr := per_is mv is
    have two := per_two mv is ms
    have small := per_le mv is
    have lc := cyc_len mv s
    have below := hla s hs
    cases hde with
    | tup hb db =>
      rename_i b _
      obtain rfl := vals_int db
      have hbH : ∀ {H' : Hp}, Stq G H G H' → H' b = some (.tup ((cyc ns s).map V.int)) := fun s => s.gh _ _ hb
      have lm : ((cyc ns s).map V.int).length = per ns s := by rw [List.length_map, lc]
      have item : ∀ {k : Nat}, k < per ns s → atI ((cyc ns s).map V.int) (k : Int) = some (.int (itn ns k s)) := fun {k} hk => atI_nat (by rw [List.getElem?_map, cyc_get mv hk]; rfl)
      refine ⟨_, rfl, _, rowD (cyc ns s), "tuple", rfl, .tup (hbH s2) (DaAll.ints _), ok_tuple, _, rfl, iteBF (by unfold rowD; rw [ib_tuple_tuple]; rfl) ?_⟩
      refine ⟨_, rfl, b, _, rfl, .inr (.of (hbH s2)), _, _, rfl, rfl, _, rfl, iteDF (by rw [lm]; omega) ?_⟩
      refine ⟨_, rfl, b, rfl, ⟨_, .of (hbH s2)⟩, for_tup (K := K) (a := b) (xs := (cyc ns s).map V.int) (fun j σ' H' => ∃ (y2 : Option V), σ' = [some (.ref a), some (.ref r), y2, some (.ref l), some (.int la), some (.ref b), y6] ∧ Stq G H G H' ∧
        H' l = some (.lst ((leftL ns (dn ns i ++ (cyc ns s).take j)).map V.int))) ?_ ?_ ?_ ?_⟩
      · exact ⟨y2, rfl, s2, by rw [List.take_zero, List.append_nil]; exact h2⟩
      · rintro j σ' H' - ⟨y2, rfl, s3, -⟩
        exact .of (hbH s3)
      · rintro j x σ' H3 hx3 ⟨y2, rfl, s3, h3⟩
        obtain ⟨p, hp, rfl⟩ := map_at hx3
        have inl := in_left mv hs hp
        obtain ⟨jj, hj, hno⟩ := first_at inl
        refine ⟨_, rfl, _, _, rfl, .int p, _, rfl, iteF ?_⟩
        refine ⟨_, rfl, _, rfl, l, _, rfl, .inl (.of h3), rfl, flat_ints _, _, rfl, iteBF (by rw [inV_ints, decide_eq_true inl]; rfl) ?_⟩
        refine ⟨_, rfl, .inl ⟨rfl, _, .of h3⟩, _, rfl, l, _, p, jj, rfl, rfl, h3, hj, hno, ?_⟩
        exact ⟨_, rfl, s3.mut gl fl rfl, by rw [upd_same, erase_first hj hno, left_step mv hp]⟩
      rintro σ' H3 ⟨y2, rfl, s3, h3⟩
      rw [lm, ← lc, List.take_length, ← dn_step mv hs] at h3
      have first := item (k := 0) (by omega)
      refine ⟨_, rfl, b, _, 0, _, rfl, rfl, .of (hbH s3), first, _, rfl, b, cyc ns s, rfl, .of (hbH s3), by omega, fun m hm le => ⟨_, _, rfl, rfl, _, rfl, ?_⟩⟩
      have em : s = m := by
        have := least m hm
        have := le s (cyc_all mv is 0)
        omega
      refine iteBF (by rw [← em]; exact congrArg (! ·) (decide_eq_true rfl)) ?_
      refine ⟨_, rfl, b, _, 0, _, rfl, rfl, .of (hbH s3), first, _, rfl, _, _, rfl, rfl, _, rfl, iteDF (show ¬ s ≤ la by omega) ?_⟩
      refine ⟨_, rfl, b, _, 0, _, rfl, rfl, .of (hbH s3), first, ?_⟩
      refine ⟨_, rfl, b, _, rfl, .inr (.of (hbH s3)), _, rfl, by rw [lm]; omega, by rw [lm]; omega, ?_⟩
      rw [lm]
      refine for_range (lo := 0) (n := ((per ns s : Nat) : Int).toNat) (fun k σ' H' => ∃ (y6 : Option V), σ' = [some (.ref a), some (.ref r), y2, some (.ref l), some (.int s), some (.ref b), y6] ∧ Stq G H G H' ∧ H' l = some (.lst ((leftL ns (dn ns (i + 1))).map V.int))) ⟨y6, rfl, s3, h3⟩ ?_ ?_
      · rintro k σ' H4 hk ⟨y6, rfl, s4, h4⟩
        have kp : k < per ns s := by omega
        have ik := itn_in mv is k
        have e1 : atI ((cyc ns s).map V.int) (0 + (k : Int)) = some (.int (itn ns k s)) := by rw [Int.zero_add]; exact item kp
        obtain ⟨z, e2, e3, -⟩ := atI_ints ik.1 ik.2
        have ez : z = stp ns (itn ns k s) := Option.some.inj (e2.symm.trans (stp_at mv ik).1)
        have e4 : atI ((cyc ns s).map V.int) ((0 + (k : Int) + 1) % ((((cyc ns s).map V.int).length : Nat) : Int)) = some (.int (stp ns (itn ns k s))) := by
          rw [lm, Int.zero_add]
          have : ((k : Int) + 1) % ((per ns s : Nat) : Int) = (((k + 1) % per ns s : Nat) : Int) := by first | exact (Int.natCast_emod (k + 1) (per ns s)).symm | exact (Int.ofNat_emod (k + 1) (per ns s)).symm | norm_cast | (push_cast; rfl)
          rw [this]
          exact atI_nat (by rw [List.getElem?_map, cyc_next mv is kp]; rfl)
        refine ⟨_, rfl, _, rfl, _, rfl, b, _, _, _, rfl, rfl, .of (hbH s4), e1, a, _, _, _, rfl, rfl, .of (s4.gh _ _ ha), e3, ?_⟩
        refine ⟨_, rfl, _, rfl, _, _, rfl, rfl, .inl ⟨_, rfl, _, rfl, b, _, rfl, .inr (.of (hbH s4)), _, _, rfl, rfl, by rw [lm]; omega, b, _, _, _, rfl, rfl, .of (hbH s4), e4, _, _, rfl, rfl, _, rfl, ?_⟩⟩
        exact iteBF (by rw [ez]; exact congrArg (! ·) (decide_eq_true rfl)) ⟨_, rfl, s4, h4⟩
      · rintro σ' H4 ⟨y6, rfl, s4, h4⟩
        exact ⟨s, _, _, _, rfl, s4, h4, fun t ht => kept_next mv hs ht⟩
  · rintro σ' H' ⟨la, y2, y5, y6, rfl, s2, h2, -⟩
    rw [lx, done_all mv] at h2
    exact ⟨_, rfl, l, _, rfl, .inl (.of h2), _, _, rfl, rfl, q H' s2.hh⟩


def spTold : Sp := fun vs H Q _ => ∃ (G : Hp) (v : V) (d : PyData), vs = [v] ∧ Same G H ∧ Da G v d ∧ szD d ≤ 1000000 ∧ mvD d = false ∧ ∀ H', Same H H' → Q (.bl true) H'
theorem ok_told {DN : Addr} (Z : Zs mg) (D : Ds K mg) (es : Es K mg 2 "NotAMove" DN) (nf_index : PySem.W.findIn K (.ref DN) "index" = some none) (c_held_points : CalX P w K mg base "held_points" 6 ["move"] (spSel DN heldL)) (c_moved_points : CalX P w K mg base "moved_points" 6 ["move"] (spSel DN movedL)) (c_cycles : CalX P w K mg base "cycles" 7 ["move"] (spCycles DN))
    (c__law_refusal_h : CalE P w K mg base "_law_refusal" 3 ["error", "due"] (spRefusal K mg)) : Cal P w K mg base "_law_told" 8 ["value"] spTold := by
  obtain ⟨CH, g_HeldorderError, ex⟩ := es.hH
  refine Def.cal D.d_law_told sc_law_told (fun vs H Q E h => ?_) (fun f cdv A outer s H vs Q E hr h => ?_)
  · obtain ⟨G, v, e, rfl, gh, hd, sz, no, q⟩ := h
    rfl
  obtain ⟨G, v, e, rfl, gh, hd, sz, no, q⟩ := h
  refine ⟨_, (pss_cons (ps_set (i := 1) sc_law_told.nd rfl (Or.inl rfl) pe_int)
      (pss_cons (ps_try_E (i := 2) rfl rfl sc_law_told.nd rfl rfl ⟨rfl, by decide, .inl g_HeldorderError⟩ nothing_taken (fun Wx pn xe tk po => (pss_one (ps_expr (pe_calX c_held_points tk (hr.mono (by first | decide | omega)) (by rfl) (pa_cons (pv 0) pa_nil))))) (fun a oe cls d pn hz hf => (pss_one (ps_set (i := 1) sc_law_told.nd rfl (Or.inl rfl) (pe_op op_add (pv 1) (pe_callTy call_int1 (by rfl) Z.z_int (by decide +kernel) (pa_cons (pe_calE c__law_refusal_h (room_suite (hr.mono (by first | decide | omega)) _) (suite_hot hz hf) List.mem_cons_self (by rfl) (pa_cons (pv 2) (pa_cons (pe_tupN (pa_cons pe_str (pa_cons pe_int pa_nil))) pa_nil))) pa_nil)))))))
      (pss_cons (ps_try_E (i := 3) rfl rfl sc_law_told.nd rfl rfl ⟨rfl, by decide, .inl g_HeldorderError⟩ nothing_taken (fun Wx pn xe tk po => (pss_one (ps_expr (pe_calX c_moved_points tk (hr.mono (by first | decide | omega)) (by rfl) (pa_cons (pv 0) pa_nil))))) (fun a oe cls d pn hz hf => (pss_one (ps_set (i := 1) sc_law_told.nd rfl (Or.inl rfl) (pe_op op_add (pv 1) (pe_callTy call_int1 (by rfl) Z.z_int (by decide +kernel) (pa_cons (pe_calE c__law_refusal_h (room_suite (hr.mono (by first | decide | omega)) _) (suite_hot hz hf) List.mem_cons_self (by rfl) (pa_cons (pv 3) (pa_cons (pe_tupN (pa_cons pe_str (pa_cons pe_int pa_nil))) pa_nil))) pa_nil)))))))
      (pss_cons (ps_try_E (i := 4) rfl rfl sc_law_told.nd rfl rfl ⟨rfl, by decide, .inl g_HeldorderError⟩ nothing_taken (fun Wx pn xe tk po => (pss_one (ps_expr (pe_calX c_cycles tk (hr.mono (by first | decide | omega)) (by rfl) (pa_cons (pv 0) pa_nil))))) (fun a oe cls d pn hz hf => (pss_one (ps_set (i := 1) sc_law_told.nd rfl (Or.inl rfl) (pe_op op_add (pv 1) (pe_callTy call_int1 (by rfl) Z.z_int (by decide +kernel) (pa_cons (pe_calE c__law_refusal_h (room_suite (hr.mono (by first | decide | omega)) _) (suite_hot hz hf) List.mem_cons_self (by rfl) (pa_cons (pv 4) (pa_cons (pe_tupN (pa_cons pe_str (pa_cons pe_int pa_nil))) pa_nil))) pa_nil)))))))
      (pss_one (ps_ret (pe_cmp (pc_eqI (pv 1) pe_int) (nomark _)))))))), ?_⟩
  have never : ∀ {A : Prop} {ns : List Int}, e = .tuple (ns.map PyData.int) → IsMv ns (ns.length : Nat) → ns.length ≤ 12 → A := fun {A ns} ee mv l12 => by
    rw [ee, mvD_mv (n := (ns.length : Nat)) (by omega) mv (by omega)] at no
    cases no
  refine ⟨_, rfl, G, v, e, rfl, gh, hd, sz, fun ns ee mv l12 => never ee mv l12, fun _ d1 H1 s1 h1 => ⟨true, ex, fun _ a1 ha1 => fun oe1 hz1 hf1 => ?_, fun z => nomatch z⟩⟩
  refine ⟨_, rfl, _, rfl, (by show 2 ≤ sizeLine; decide), fun t1 I1 n1 => ?_⟩
  obtain ⟨G1, r1, g1, k1, -⟩ := (Stq.refl ((gh).trans s1)).know2 n1
  refine ⟨G1, DN, d1, _, _, 0, rfl, r1.gh, es, nf_index, (suite_err hz1 hf1 h1).new n1, .tup k1 (.cons (.str _) (.cons (.int _) .nil)), rfl, fun J1 u1 => .inr ⟨true, rfl, _, _, rfl, rfl, ?_⟩⟩
  have gh1 := ((gh).trans s1).trans (n1.same.trans u1)
  have sh1 : Same H J1 := (Same.refl _).trans (s1.trans (n1.same.trans u1))
  refine ⟨_, rfl, G, v, e, rfl, gh1, hd, sz, fun ns ee mv l12 => never ee mv l12, fun _ d2 H2 s2 h2 => ⟨true, ex, fun _ a2 ha2 => fun oe2 hz2 hf2 => ?_, fun z => nomatch z⟩⟩
  refine ⟨_, rfl, _, rfl, (by show 2 ≤ sizeLine; decide), fun t2 I2 n2 => ?_⟩
  obtain ⟨G2, r2, g2, k2, -⟩ := (Stq.refl ((gh1).trans s2)).know2 n2
  refine ⟨G2, DN, d2, _, _, 0, rfl, r2.gh, es, nf_index, (suite_err hz2 hf2 h2).new n2, .tup k2 (.cons (.str _) (.cons (.int _) .nil)), rfl, fun J2 u2 => .inr ⟨true, rfl, _, _, rfl, rfl, ?_⟩⟩
  have gh2 := ((gh1).trans s2).trans (n2.same.trans u2)
  have sh2 : Same H J2 := (sh1).trans (s2.trans (n2.same.trans u2))
  refine ⟨_, rfl, G, v, e, rfl, gh2, hd, sz, fun ns ee mv l12 => never ee mv l12, fun _ d3 H3 s3 h3 => ⟨true, ex, fun _ a3 ha3 => fun oe3 hz3 hf3 => ?_, fun z => nomatch z⟩⟩
  refine ⟨_, rfl, _, rfl, (by show 2 ≤ sizeLine; decide), fun t3 I3 n3 => ?_⟩
  obtain ⟨G3, r3, g3, k3, -⟩ := (Stq.refl ((gh2).trans s3)).know2 n3
  refine ⟨G3, DN, d3, _, _, 0, rfl, r3.gh, es, nf_index, (suite_err hz3 hf3 h3).new n3, .tup k3 (.cons (.str _) (.cons (.int _) .nil)), rfl, fun J3 u3 => .inr ⟨true, rfl, _, _, rfl, rfl, ?_⟩⟩
  have gh3 := ((gh2).trans s3).trans (n3.same.trans u3)
  have sh3 : Same H J3 := (sh2).trans (s3.trans (n3.same.trans u3))
  exact ⟨_, rfl, _, _, rfl, rfl, q J3 sh3⟩


def spMoved : Sp := fun vs H Q _ => ∃ (G : Hp) (a : Addr) (ns : List Int), vs = [.ref a] ∧ Same G H ∧ G a = some (.tup (ns.map V.int)) ∧ IsMv ns (ns.length : Nat) ∧ ns.length ≤ 12 ∧ ∀ H', Same H H' → Q (.bl true) H'
theorem ok_answers {DN : Addr} (Z : Zs mg) (D : Ds K mg) (c__law_same : Cal P w K mg base "_law_same" 2 ["actual", "due"] spSame) (c_held_points : CalX P w K mg base "held_points" 6 ["move"] (spSel DN heldL)) (c_moved_points : CalX P w K mg base "moved_points" 6 ["move"] (spSel DN movedL)) (c_cycles : CalX P w K mg base "cycles" 7 ["move"] (spCycles DN))
    (c__law_rings : Cal P w K mg base "_law_rings" 2 ["move", "rows"] spRings) : Cal P w K mg base "_law_answers" 8 ["move"] spMoved := by
  refine Def.cal D.d_law_answers sc_law_answers (fun vs H Q E h => ?_) (fun f cdv A outer s H vs Q E hr h => ?_)
  · obtain ⟨G, a, ns, rfl, gh, ha, mv, l12, q⟩ := h
    rfl
  obtain ⟨G, a, ns, rfl, gh, ha, mv, l12, q⟩ := h
  refine ⟨_, (pss_cons (ps_setLc (i := 1) (own := [("p", 4)]) (g := gName 4) (by rfl) sc_law_answers.nd rfl rfl (sw_true rfl rfl rfl (by decide +kernel)) (pi_range1 (by rfl) Z.z_range (pa_cons (pe_callB call_len_seq (by rfl) Z.z_len (by decide +kernel) (pa_cons (pv 0) pa_nil)) pa_nil)) (blkOk_by (N := ["move", "held", "moved", "rows", "p"]) (sc := defScope s_law_answers) (by decide +kernel)) (fun _ _ _ _ _ => pg_name (i := 4) sc_law_answers.nd rfl (Or.inl rfl)) (fun _ _ _ _ _ => pts_one (pt_cmp (pc_eqI (pe_ix (ix_tupK (K := K) rfl) (pv 0) (pv 4) (fun _ _ => rfl)) (pv 4)) (nomark _))) (fun _ _ _ _ _ => (pv 4)))
      (pss_cons (ps_setLc (i := 2) (own := [("p", 4)]) (g := gName 4) (by rfl) sc_law_answers.nd rfl rfl (sw_true rfl rfl rfl (by decide +kernel)) (pi_range1 (by rfl) Z.z_range (pa_cons (pe_callB call_len_seq (by rfl) Z.z_len (by decide +kernel) (pa_cons (pv 0) pa_nil)) pa_nil)) (blkOk_by (N := ["move", "held", "moved", "rows", "p"]) (sc := defScope s_law_answers) (by decide +kernel)) (fun _ _ _ _ _ => pg_name (i := 4) sc_law_answers.nd rfl (Or.inl rfl)) (fun _ _ _ _ _ => pts_one (pt_cmp (pc_neI (pe_ix (ix_tupK (K := K) rfl) (pv 0) (pv 4) (fun _ _ => rfl)) (pv 4)) (nomark _))) (fun _ _ _ _ _ => (pv 4)))
      (pss_cons (ps_if (PW.pt (pw_or (pt_not (pt_val (pe_cal c__law_same (hr.mono (by first | decide | omega)) (by rfl) (pa_cons (pe_calQ c_held_points (hr.mono (by first | decide | omega)) (by rfl) (pa_cons (pv 0) pa_nil)) (pa_cons (pe_callTy call_tupleN (by rfl) Z.z_tuple (by decide +kernel) (pa_cons (pv 1) pa_nil)) pa_nil))))) (pw_or1 (pt_not (pt_val (pe_cal c__law_same (hr.mono (by first | decide | omega)) (by rfl) (pa_cons (pe_calQ c_moved_points (hr.mono (by first | decide | omega)) (by rfl) (pa_cons (pv 0) pa_nil)) (pa_cons (pe_callTy call_tupleN (by rfl) Z.z_tuple (by decide +kernel) (pa_cons (pv 2) pa_nil)) pa_nil)))))))) (pss_one (ps_ret pe_bl)) pss_nil)
      (pss_cons (ps_set (i := 3) sc_law_answers.nd rfl (Or.inl rfl) (pe_calQ c_cycles (hr.mono (by first | decide | omega)) (by rfl) (pa_cons (pv 0) pa_nil)))
      (pss_cons (ps_if (pt_not (pt_val (pe_cal c__law_rings (hr.mono (by first | decide | omega)) (by rfl) (pa_cons (pv 0) (pa_cons (pv 3) pa_nil))))) (pss_one (ps_ret pe_bl)) pss_nil)
      (pss_cons (ps_expr (pe_bm PySem.F.plainAttrs_list PySem.F.slot_list_append PySem.F.type_list_append mt_appendN (pv 3) (pa_cons (pe_tupN (pa_cons pe_int (pa_cons pe_int pa_nil))) pa_nil)))
      (pss_cons (ps_expr (pe_bm0 PySem.F.plainAttrs_list PySem.F.slot_list_reverse PySem.F.type_list_reverse mt_reverse (pv 3)))
      (pss_one (ps_ret (pe_cal c__law_rings (hr.mono (by first | decide | omega)) (by rfl) (pa_cons (pv 0) (pa_cons (pe_calQ c_cycles (hr.mono (by first | decide | omega)) (by rfl) (pa_cons (pv 0) pa_nil)) pa_nil)))))))))))), ?_⟩
  have keep2 : ∀ {H1 H2 : Hp} {l m : Addr} {o u : HO}, H1 m = none → H1 l = some o → H2 l = some o → upd H2 m u l = some o := fun {H1 H2 l m o u} hm hl h2 => by
    rw [upd_ne fun z => by rw [z, hm] at hl; cases hl]
    exact h2
  have S0 := Stq.refl gh
  have dm : Da G (.ref a) (.tuple (ns.map PyData.int)) := Da.ints ha
  have zm := sz_ints ns
  have mvT : mvD (.tuple (ns.map PyData.int)) = true := mvD_mv (n := (ns.length : Nat)) (by omega) mv (by omega)
  have no : ∀ {A : Prop}, mvD (.tuple (ns.map PyData.int)) = false → A := fun {A} z => by rw [mvT] at z; cases z
  have same_ns : ∀ {ms : List Int}, PyData.tuple (ns.map PyData.int) = .tuple (ms.map PyData.int) → ms = ns := fun {ms} z => by
    have := congrArg intsOf (PyData.tuple.inj z)
    rw [intsOf_map, intsOf_map] at this
    exact this.symm
  have lenT : ((ns.length : Nat) : Int).toNat = ns.length := by omega
  refine ⟨_, rfl, a, _, rfl, .inr (.of (S0.gh _ _ ha)), _, rfl, by rw [List.length_map]; omega, by rw [List.length_map]; omega, fun l hll => ?_⟩
  rw [List.length_map]
  refine lc_range (lo := 0) (n := ((ns.length : Nat) : Int).toNat) (fun i H' => Stq G H G H' ∧ G l = none ∧ H l = none ∧ H' l = some (.lst ((pts (heldAt ns) i).map V.int))) ?_ ?_ ?_
  · obtain ⟨s2, gl, h2, fl⟩ := S0.loc2 (p := l) (o := .lst []) ⟨hll, rfl⟩
    exact ⟨s2, gl, fl, h2⟩
  · rintro i H2 hi ⟨s2, gl, fl, h2⟩
    have lt : i < ns.length := by omega
    have em : ns[i]? = some ns[i] := List.getElem?_eq_getElem lt
    have at_i : atI (ns.map V.int) (0 + (i : Int)) = some (.int ns[i]) := by rw [Int.zero_add]; exact atI_nat (by rw [List.getElem?_map, em]; rfl)
    refine ⟨rfl, _, rfl, _, rfl, a, _, _, _, rfl, rfl, .of (s2.gh _ _ ha), at_i, _, rfl, _, _, rfl, rfl, _, rfl, ite2 (fun c => ?_) (fun c => ?_)⟩
    · have at_ : heldAt ns i = true := by unfold heldAt; rw [em, dec_of c, Int.zero_add]; exact decide_eq_true rfl
      refine ⟨_, rfl, _, h2, ?_, s2.mut gl fl rfl, gl, fl, ?_⟩
      · rw [List.length_map]
        exact lt_of_len (pts_len _ _) lt l12
      · rw [upd_same, pts_step, at_, List.map_append, Int.zero_add]
        rfl
    · have at_ : heldAt ns i = false := by unfold heldAt; rw [em]; exact decide_eq_false fun z => dec_not c (by rw [Int.zero_add]; exact Option.some.inj z)
      refine ⟨s2, gl, fl, ?_⟩
      rw [h2, pts_step, at_]
      simp
  rintro H1 ⟨s1, gl, fl, h1⟩
  rw [lenT] at h1
  refine ⟨_, rfl, a, _, rfl, .inr (.of (s1.gh _ _ ha)), _, rfl, by rw [List.length_map]; omega, by rw [List.length_map]; omega, fun m hlm => ?_⟩
  rw [List.length_map]
  refine lc_range (lo := 0) (n := ((ns.length : Nat) : Int).toNat) (fun i H' => Stq G H G H' ∧ G m = none ∧ H m = none ∧ H' m = some (.lst ((pts (fun j => !heldAt ns j) i).map V.int)) ∧ H' l = some (.lst ((heldL ns).map V.int))) ?_ ?_ ?_
  · obtain ⟨s2, gl, h2, fl⟩ := s1.loc2 (p := m) (o := .lst []) ⟨hlm, rfl⟩
    exact ⟨s2, gl, fl, h2, (New.mk hlm rfl : New _ m (.lst []) _).else h1⟩
  · rintro i H2 hi ⟨s2, gl, fl, h2, hl1⟩
    have lt : i < ns.length := by omega
    have em : ns[i]? = some ns[i] := List.getElem?_eq_getElem lt
    have at_i : atI (ns.map V.int) (0 + (i : Int)) = some (.int ns[i]) := by rw [Int.zero_add]; exact atI_nat (by rw [List.getElem?_map, em]; rfl)
    refine ⟨rfl, _, rfl, _, rfl, a, _, _, _, rfl, rfl, .of (s2.gh _ _ ha), at_i, _, rfl, _, _, rfl, rfl, _, rfl, ite2 (fun c => ?_) (fun c => ?_)⟩
    · have at_ : (!heldAt ns i) = true := by unfold heldAt; rw [em]; exact congrArg (! ·) (decide_eq_false fun z => nd_of c (by rw [Int.zero_add]; exact Option.some.inj z))
      refine ⟨_, rfl, _, h2, ?_, s2.mut gl fl rfl, gl, fl, ?_, keep2 hlm h1 hl1⟩
      · rw [List.length_map]
        exact lt_of_len (pts_len _ _) lt l12
      · rw [upd_same, pts_step, at_, List.map_append, Int.zero_add]
        rfl
    · have at_ : (!heldAt ns i) = false := by unfold heldAt; rw [em, nd_not c, Int.zero_add]; exact congrArg (! ·) (decide_eq_true rfl)
      refine ⟨s2, gl, fl, ?_, hl1⟩
      rw [h2, pts_step, at_]
      simp
  rintro H2 ⟨s2, gm, fm, h2, h1⟩
  rw [lenT] at h2
  have szP : ∀ {f : Nat → Bool}, szD (.tuple ((pts f ns.length).map PyData.int)) ≤ 1900000 := fun {f} => by
    have := pts_len f ns.length
    rw [sz_ints]
    omega
  refine ⟨_, rfl, G, _, _, rfl, s2.gh, dm, by omega, fun ms em mv2 l2 p1 G3 H3 s3 k3 => ?_, no⟩
  obtain rfl := (same_ns em).symm
  refine ⟨_, rfl, l, _, rfl, .of (s3.hh _ _ h1), fun p2 H4 n4 => ?_⟩
  obtain ⟨G4, s4, g4, k4, -⟩ := (s2.trans s3).know2 n4
  refine ⟨G4, .ref p1, .ref p2, _, _, rfl, s4.gh, .ints (g4 _ _ k3), .ints k4, szP, szP, fun H5 s5 => ⟨_, rfl, ?_⟩⟩
  rw [sameD_self _ _ (Da.ints k4)]
  refine iteF ?_
  have S5 := s4.pure s5
  have h5 : H5 m = _ := s5 _ _ (n4.else (s3.hh _ _ h2))
  refine ⟨_, rfl, G4, _, _, rfl, S5.gh, dm.up S5.gg, by omega, fun ms em mv2 l2 p3 G6 H6 s6 k6 => ?_, no⟩
  obtain rfl := (same_ns em).symm
  refine ⟨_, rfl, m, _, rfl, .of (s6.hh _ _ h5), fun p4 H7 n7 => ?_⟩
  obtain ⟨G7, s7, g7, k7, -⟩ := (S5.trans s6).know2 n7
  refine ⟨G7, .ref p3, .ref p4, _, _, rfl, s7.gh, .ints (g7 _ _ k6), .ints k7, szP, szP, fun H8 s8 => ⟨_, rfl, ?_⟩⟩
  refine iteBF (congrArg (! ·) (sameD_self _ _ (Da.ints k7))) ?_
  have S8 := s7.pure s8
  refine ⟨_, rfl, G7, _, _, rfl, S8.gh, dm.up S8.gg, by omega, fun ms em mv2 l2 r xs G9 H9 s9 fr gr h9 dx => ?_, no⟩
  obtain rfl := (same_ns em).symm
  have S9 := S8.trans s9
  have frH : H r = none := S8.hh.free fr
  refine ⟨_, rfl, _, rfl, G9, a, r, ns, xs, rfl, S9.gh, S9.gg _ _ ha, mv, l12, h9, dx, fun H10 s10 => ⟨_, rfl, iteF ?_⟩⟩
  have S10 := S9.pure s10
  have h10 := s10 _ _ h9
  have lx : xs.length ≤ 12 := by
    have := dx.length
    have := kept_len mv
    have e : (rowsOf ns).length = (keptL ns).length := List.length_map ..
    have e2 : ((rowsOf ns).map rowD).length = (rowsOf ns).length := List.length_map ..
    omega
  refine ⟨_, rfl, .inl ⟨rfl, _, .of h10⟩, (by show 2 ≤ sizeLine; decide), fun t H11 n11 => ?_⟩
  have S11 := (S10.loc2 n11).1
  have h11 := n11.else h10
  refine ⟨r, _, _, rfl, rfl, h11, Nat.lt_of_le_of_lt lx (by decide), fun H12 e12 => ?_⟩
  have S12 := S11.mut gr frH e12
  have h12 := upd_at e12
  refine ⟨_, rfl, .inl ⟨rfl, _, .of h12⟩, r, _, rfl, rfl, h12, ?_⟩
  have S13 := S12.mut (o := .lst (xs ++ [V.ref t]).reverse) gr frH rfl
  refine ⟨_, rfl, _, rfl, G9, _, _, rfl, S13.gh, dm.up S13.gg, by omega, fun ms em mv2 l2 r2 xs2 G14 H14 s14 fr2 gr2 h14 dx2 => ?_, no⟩
  obtain rfl := (same_ns em).symm
  have S14 := S13.trans s14
  exact ⟨G14, a, r2, ns, xs2, rfl, S14.gh, S14.gg _ _ ha, mv, l12, h14, dx2, fun H15 s15 => q H15 (S14.hh.trans s15)⟩


def spFair : Sp := fun vs H Q _ => ∃ (G : Hp) (v : V) (d : PyData), vs = [v] ∧ Same G H ∧ Da G v d ∧ szD d ≤ 200000 ∧ ∀ H', Same H H' → Q (.bl true) H'
theorem ok_fair (Z : Zs mg) (D : Ds K mg) (c__law_same : Cal P w K mg base "_law_same" 2 ["actual", "due"] spSame) (c__law_frozen : Cal P w K mg base "_law_frozen" 9 ["value", "deep"] (spFrozen 9)) (c__law_move_fits : Cal P w K mg base "_law_move_fits" 2 ["value", "points"] spFits) (c__law_answers : Cal P w K mg base "_law_answers" 8 ["move"] spMoved) (c__law_told : Cal P w K mg base "_law_told" 8 ["value"] spTold) : Cal P w K mg base "_law_fair" 10 ["value"] spFair := by
  refine Def.cal D.d_law_fair sc_law_fair (fun vs H Q E h => ?_) (fun f cdv A outer s H vs Q E hr h => ?_)
  · obtain ⟨G, v, d, rfl, gh, hd, sz, q⟩ := h
    rfl
  obtain ⟨G, v, d, rfl, gh, hd, sz, q⟩ := h
  refine ⟨_, (pss_cons (ps_set (i := 1) sc_law_fair.nd rfl (Or.inl rfl) (pe_cal c__law_frozen (hr.mono (by first | decide | omega)) (by rfl) (pa_cons (pv 0) (pa_cons pe_int pa_nil))))
      (Evl.pss_cut (ps_if (pt_val (pe_cal c__law_move_fits (hr.mono (by first | decide | omega)) (by rfl) (pa_cons (pv 0) (pa_cons (pe_un un_neg pe_int) pa_nil)))) (pss_one (ps_set (i := 2) sc_law_fair.nd rfl (Or.inl rfl) (pe_cal c__law_answers (hr.mono (by first | decide | omega)) (by rfl) (pa_cons (pv 0) pa_nil)))) (pss_one (ps_set (i := 2) sc_law_fair.nd rfl (Or.inl rfl) (pe_cal c__law_told (hr.mono (by first | decide | omega)) (by rfl) (pa_cons (pv 0) pa_nil)))))
      (pss_one (ps_ret (pe_and (pv 2) (pe_one (pe_cal c__law_same (hr.mono (by first | decide | omega)) (by rfl) (pa_cons (pe_cal c__law_frozen (hr.mono (by first | decide | omega)) (by rfl) (pa_cons (pv 0) (pa_cons pe_int pa_nil))) (pa_cons (pv 1) pa_nil))))))))), ?_⟩
  refine ⟨_, rfl, G, v, d, 8, rfl, gh, hd, by omega, by omega, by omega, fun b G1 H1 s1 d1 => ?_⟩
  refine ⟨fun σ' H' => σ' = [some v, some b, some (.bl true)] ∧ Same H1 H', ?_, ?_⟩
  · refine ⟨_, rfl, _, rfl, G1, v, d, -1, rfl, s1.gh, hd.up s1.gg, by omega, fun H2 s2 => ⟨_, rfl, ?_⟩⟩
    cases e : mvD d with
    | true =>
      obtain ⟨ns, rfl, mv, l12⟩ := mvD_ints e
      refine iteBT (by show (mvD _ && (decide ((-1 : Int) < 0) || _)) = true; rw [e]; rfl) ?_
      have hd1 := hd.up s1.gg
      cases hd1 with
      | tup ha dx =>
        obtain rfl := vals_int dx
        exact ⟨_, rfl, G1, _, ns, rfl, s1.gh.trans s2, ha, mv, l12, fun H3 s3 => ⟨rfl, s2.trans s3⟩⟩
    | false =>
      refine iteBF ?_ ⟨_, rfl, G1, v, d, rfl, s1.gh.trans s2, hd.up s1.gg, by omega, e, fun H3 s3 => ⟨rfl, s2.trans s3⟩⟩
      cases d with
      | tuple ds => show (mvD _ && _) = false; rw [e]; rfl
      | _ => rfl
  rintro σ' H2 ⟨rfl, s2⟩
  have S2 := s1.pure s2
  refine ⟨_, rfl, true, rfl, iteT ⟨_, rfl, G1, v, d, 8, rfl, S2.gh, hd.up S2.gg, by omega, by omega, by omega, fun c G3 H3 s3 d3 => ?_⟩⟩
  have z8 := frz_sz 8 d
  refine ⟨_, rfl, G3, c, b, _, _, rfl, s3.gh, d3, d1.up s3.gg, by show szD (frz 8 d) ≤ 1900000; omega, by show szD (frz 8 d) ≤ 1900000; omega, fun H4 s4 => ?_⟩
  rw [sameD_self _ _ d3]
  exact q H4 ((S2.trans s3).hh.trans s4)


theorem sum_ge : ∀ {Z : List Int}, (∀ z ∈ Z, 1 ≤ z) → ∀ z ∈ Z, z ≤ Z.sum
  | [], _, z, h => by cases h
  | a :: r, p, z, h => by
    have pr : ∀ z ∈ r, 1 ≤ z := fun z hz => p z (List.mem_cons_of_mem _ hz)
    have r0 : 0 ≤ r.sum := sum_pos pr
    have a1 := p a List.mem_cons_self
    rw [List.sum_cons]
    rcases List.mem_cons.mp h with e | h
    · omega
    · have := sum_ge pr z h
      omega
where sum_pos : ∀ {Z : List Int}, (∀ z ∈ Z, 1 ≤ z) → 0 ≤ Z.sum
  | [], _ => by simp
  | a :: r, p => by
    have := sum_pos fun z hz => p z (List.mem_cons_of_mem a hz)
    have := p a List.mem_cons_self
    rw [List.sum_cons]
    omega
theorem sum_take {Z : List Int} (p : ∀ z ∈ Z, 1 ≤ z) (k : Nat) : (Z.take k).sum ≤ Z.sum := by
  have e : Z.sum = (Z.take k).sum + (Z.drop k).sum := by rw [← List.sum_append, List.take_append_drop]
  have := sum_ge.sum_pos fun z hz => p z (List.mem_of_mem_drop (i := k) hz)
  omega
def spBlocks : Sp := fun vs H Q _ => ∃ (S : Sr) (G : Hp) (n : Int), vs = [.ref S.a, .int n] ∧ Wd S G H ∧ 0 ≤ n ∧ n ≤ 12 ∧
  ∀ (l : Addr) (xs : List V) (G' H' : Hp), Go S G H G' H' → H l = none → G' l = none → H' l = some (.lst xs) → 0 < xs.length → xs.length ≤ 4 → (∀ x ∈ xs, ∃ p ms, x = .ref p ∧ G' p = some (.tup (ms.map V.int)) ∧ IsMv ms n) → Q (.ref l) H'
theorem ok_block_moves (Z : Zs mg) (D : Ds K mg) (c__law_take : Cal P w K mg base "_law_take" 2 ["store", "many"] spTake) : Cal P w K mg base "_law_block_moves" 3 ["store", "points"] spBlocks := by
  refine Def.cal D.d_law_block_moves sc_law_block_moves (fun vs H Q E h => ?_) (fun f cdv A outer s H vs Q E hr h => ?_)
  · obtain ⟨S, G, n, rfl, wd, n0, n12, q⟩ := h
    rfl
  obtain ⟨S, G, n, rfl, wd, n0, n12, q⟩ := h
  refine ⟨_, (pss_cons (ps_set (i := 2) sc_law_block_moves.nd rfl (Or.inl rfl) (pe_lstN pa_nil))
      (pss_cons (ps_set (i := 3) sc_law_block_moves.nd rfl (Or.inl rfl) (pv 1))
      (pss_cons (ps_for PassesOwn.never rfl (pi_range1 (by rfl) Z.z_range (pa_cons (pv 1) pa_nil)) (pg_name (i := 4) sc_law_block_moves.nd rfl (Or.inl rfl)) (pss_one (ps_if (pt_cmp (pc_gt (pv 3) pe_int) (nomark _)) (pss_cons (ps_expr (pe_bm PySem.F.plainAttrs_list PySem.F.slot_list_append PySem.F.type_list_append mt_appendN (pv 2) (pa_cons (pe_op op_add pe_int (pe_cal c__law_take (hr.mono (by first | decide | omega)) (by rfl) (pa_cons (pv 0) (pa_cons (pe_callB (call_min2 rfl) (by rfl) Z.z_min (by decide +kernel) (pa_cons pe_int (pa_cons (pv 3) pa_nil))) pa_nil)))) pa_nil)))
      (pss_one (ps_set (i := 3) sc_law_block_moves.nd rfl (Or.inl rfl) (pe_op op_sub (pv 3) (pe_ix ix_list (pv 2) (pe_un un_neg pe_int) (fun _ _ => rfl)))))) pss_nil)))
      (pss_cons (ps_set (i := 5) sc_law_block_moves.nd rfl (Or.inl rfl) (pe_lstN pa_nil))
      (pss_cons (ps_for PassesOwn.never rfl (pi_range1 (by rfl) Z.z_range (pa_cons (pe_op op_add pe_int (pe_cal c__law_take (hr.mono (by first | decide | omega)) (by rfl) (pa_cons (pv 0) (pa_cons pe_int pa_nil)))) pa_nil)) (pg_name (i := 6) sc_law_block_moves.nd rfl (Or.inl rfl)) (pss_cons (ps_set (i := 7) sc_law_block_moves.nd rfl (Or.inl rfl) (pe_lstN pa_nil))
      (pss_cons (ps_for PassesOwn.never rfl (pi_list (pv 2)) (pg_name (i := 8) sc_law_block_moves.nd rfl (Or.inl rfl)) (pss_cons (ps_set (i := 9) sc_law_block_moves.nd rfl (Or.inl rfl) (pe_callB call_len_seq (by rfl) Z.z_len (by decide +kernel) (pa_cons (pv 7) pa_nil)))
      (pss_cons (ps_set (i := 10) sc_law_block_moves.nd rfl (Or.inl rfl) pe_int)
      (Evl.pss_cut (ps_if (pt_cmp (pc_eqI (pe_cal c__law_take (hr.mono (by first | decide | omega)) (by rfl) (pa_cons (pv 0) (pa_cons pe_int pa_nil))) pe_int) (nomark _)) (pss_one (ps_set (i := 10) sc_law_block_moves.nd rfl (Or.inl rfl) (pe_cal c__law_take (hr.mono (by first | decide | omega)) (by rfl) (pa_cons (pv 0) (pa_cons (pv 8) pa_nil))))) pss_nil)
      (pss_cons (ps_set (i := 11) sc_law_block_moves.nd rfl (Or.inl rfl) pe_int)
      (Evl.pss_cut (ps_if (pt_cmp (pc_eqI (pe_cal c__law_take (hr.mono (by first | decide | omega)) (by rfl) (pa_cons (pv 0) (pa_cons pe_int pa_nil))) pe_int) (nomark _)) (pss_one (ps_set (i := 11) sc_law_block_moves.nd rfl (Or.inl rfl) (pe_un un_neg pe_int))) pss_nil)
      (pss_one (ps_for PassesOwn.never rfl (pi_range1 (by rfl) Z.z_range (pa_cons (pv 8) pa_nil)) (pg_name (i := 4) sc_law_block_moves.nd rfl (Or.inl rfl)) (pss_one (ps_expr (pe_bm PySem.F.plainAttrs_list PySem.F.slot_list_append PySem.F.type_list_append mt_appendN (pv 7) (pa_cons (pe_op op_add (pv 9) (pe_op op_mod (pe_callTy call_int1 (by rfl) Z.z_int (by decide +kernel) (pa_cons (pe_op op_add (pe_op op_mul (pv 11) (pv 4)) (pv 10)) pa_nil)) (pv 8))) pa_nil))))))))))))
      (pss_one (ps_expr (pe_bm PySem.F.plainAttrs_list PySem.F.slot_list_append PySem.F.type_list_append mt_appendN (pv 5) (pa_cons (pe_callTy call_tupleN (by rfl) Z.z_tuple (by decide +kernel) (pa_cons (pv 7) pa_nil)) pa_nil)))))))
      (pss_one (ps_ret (pv 5)))))))), ?_⟩
  refine ⟨by show 0 ≤ sizeLine; decide, fun l1 H1 n1 => ?_⟩
  obtain ⟨s1, g1, h1, f1⟩ := (Go.refl wd).loc n1
  refine ⟨_, rfl, _, rfl, n, rfl, by omega, by omega, for_range (lo := 0) (n := n.toNat) (fun i σ' H' => ∃ (Z : List Int) (lf : Int) (y4 : Option V), σ' = [some (.ref S.a), some (.int n), some (.ref l1), some (.int lf), y4, none, none, none, none, none, none, none] ∧ Go S G H G H' ∧ H' l1 = some (.lst (Z.map V.int)) ∧
    (∀ z ∈ Z, 1 ≤ z) ∧ Z.sum + lf = n ∧ 0 ≤ lf ∧ lf ≤ n - i ∧ Z.length ≤ i) ⟨[], n, none, rfl, s1, h1, fun z hz => (by cases hz), by simp, n0, by omega, Nat.le_refl _⟩ ?_ ?_⟩
  · rintro i σ' H2 hi ⟨Zl, lf, y4, rfl, s2, h2, pos, sum, lf0, lfn, lz⟩
    refine ⟨_, rfl, _, _, rfl, rfl, _, rfl, ite2 (fun c => ?_) (fun c => ⟨Zl, lf, _, rfl, s2, h2, pos, sum, lf0, by have := dec_not c; omega, by omega⟩)⟩
    have c : 0 < lf := dec_of c
    have m6 : ∀ m : Int, m = (if lf < 6 then lf else 6) → 1 ≤ m ∧ m ≤ lf ∧ m ≤ 6 := fun m e => by
      by_cases z : lf < 6
      · rw [if_pos z] at e; omega
      · rw [if_neg z] at e; omega
    obtain ⟨a1, a2, a3⟩ := m6 _ rfl
    refine ⟨_, rfl, .inl ⟨rfl, _, .of h2⟩, _, rfl, _, rfl, 6, lf, rfl, S, G, _, rfl, s2.wd, by omega, fun d H3 d0 d1 s3 => ⟨_, _, rfl, rfl, ?_⟩⟩
    have hd : 1 + d ≤ lf := by omega
    have h3 := s3.hh h2 (s2.ns f1)
    have s3 := s2.trans s3
    refine ⟨l1, _, _, rfl, rfl, h3, ?_, fun H4 e4 => ?_⟩
    · rw [List.length_map]
      exact lt_of_len lz (show i < n.toNat from hi) (by omega)
    have s4 := s3.mut g1 f1 e4
    have h4 := upd_at e4
    refine ⟨_, rfl, _, rfl, _, rfl, l1, _, -1, _, rfl, rfl, .of h4, atI_last _ _, _, _, rfl, rfl, ?_⟩
    refine ⟨Zl ++ [1 + d], lf - (1 + d), _, rfl, s4, by rw [h4, List.map_append]; rfl, fun z hz => ?_, ?_, by omega, by omega, by rw [List.length_append]; exact Nat.succ_le_succ lz⟩
    · rcases List.mem_append.mp hz with k | k
      · exact pos z k
      · rw [List.mem_singleton.mp k]; omega
    · rw [List.sum_append, List.sum_cons, List.sum_nil]
      omega
  rintro σ' H2 ⟨Zl, lf, y4, rfl, s2, h2, pos, sum, lf0, lfn, lz⟩
  have sum : Zl.sum = n := by omega
  refine ⟨by show 0 ≤ sizeLine; decide, fun l2 H3 n3 => ?_⟩
  obtain ⟨s3, g2, h3, f2⟩ := s2.loc n3
  have h1' := n3.else h2
  have ne12 : l1 ≠ l2 := fun z => by rw [z] at h2; rw [n3.fr] at h2; cases h2
  refine ⟨_, rfl, S, G, 3, rfl, s3.wd, by omega, fun c H4 c0 c1 s4 => ⟨_, _, rfl, rfl, _, rfl, by omega, by omega, ?_⟩⟩
  have h4a := s4.hh h1' (s3.ns f1)
  have h4b := s4.hh h3 (s3.ns f2)
  have s4 := s3.trans s4
  have zb : ∀ z ∈ Zl, z ≤ 12 := fun z hz => by
    have := sum_ge pos z hz
    omega
  refine for_range (lo := 0) (n := (1 + c).toNat) (fun j σ' H' => ∃ (G' : Hp) (xs : List V) (y4 y6 y7 y8 y9 y10 y11 : Option V), σ' = [some (.ref S.a), some (.int n), some (.ref l1), some (.int lf), y4, some (.ref l2), y6, y7, y8, y9, y10, y11] ∧ Go S G H G' H' ∧ G' l1 = none ∧ G' l2 = none ∧
    H' l1 = some (.lst (Zl.map V.int)) ∧ H' l2 = some (.lst xs) ∧ xs.length = j ∧ ∀ x ∈ xs, ∃ p ms, x = .ref p ∧ G' p = some (.tup (ms.map V.int)) ∧ IsMv ms n) ⟨G, [], y4, _, _, _, _, _, _, rfl, s4, g1, g2, h4a, h4b, rfl, fun x hx => by cases hx⟩ ?_ ?_
  · rintro j σ' H5 hj ⟨G5, xs, y4, y6, y7, y8, y9, y10, y11, rfl, s5, g51, g52, h5a, h5b, lx, all_⟩
    refine ⟨by show 0 ≤ sizeLine; decide, fun l3 H6 n6 => ?_⟩
    obtain ⟨s6, g63, h6, f3⟩ := s5.loc n6
    have h6a := n6.else h5a
    have h6b := n6.else h5b
    have ne31 : l1 ≠ l3 := fun z => by rw [z] at h5a; rw [n6.fr] at h5a; cases h5a
    have ne32 : l2 ≠ l3 := fun z => by rw [z] at h5b; rw [n6.fr] at h5b; cases h5b
    refine ⟨_, rfl, l1, rfl, ⟨_, .of h6a⟩, for_list (K := K) (a := l1) (xs := Zl.map V.int) (fun t σ' H' => ∃ (L : List Int) (y4 y8 y9 y10 y11 : Option V), σ' = [some (.ref S.a), some (.int n), some (.ref l1), some (.int lf), y4, some (.ref l2), some (.int (0 + (j : Int))), some (.ref l3), y8, y9, y10, y11] ∧ Go S G H G5 H' ∧
      H' l1 = some (.lst (Zl.map V.int)) ∧ H' l2 = some (.lst xs) ∧ H' l3 = some (.lst (L.map V.int)) ∧ IsMv L (Zl.take t).sum ∧ 0 ≤ (Zl.take t).sum ∧ (Zl.take t).sum ≤ 12) ?_ ?_ ?_ ?_⟩
    · exact ⟨[], y4, y8, y9, y10, y11, rfl, s6, h6a, h6b, h6, .nil, by simp, by simp⟩
    · rintro t σ' H' - ⟨L, y4, y8, y9, y10, y11, rfl, s7, h7a, -⟩
      exact .of h7a
    · rintro t x σ' H7 hx ⟨L, y4, y8, y9, y10, y11, rfl, s7, h7a, h7b, h7c, mv, t0, t12⟩
      obtain ⟨z, hz, rfl⟩ := map_at hx
      have zm := List.mem_of_getElem? hz
      have z1 := pos z zm
      have z12 := zb z zm
      have ln := mv.len
      have step : (Zl.take (t + 1)).sum = (Zl.take t).sum + z := by rw [List.take_add_one, hz, List.sum_append]; simp
      have upto : (Zl.take (t + 1)).sum ≤ 12 := by
        have := sum_take pos (t + 1)
        omega
      refine ⟨_, rfl, l3, _, rfl, .inl (.of h7c), ?_⟩
      refine ⟨fun σ' H' => ∃ sh : Int, σ' = [some (.ref S.a), some (.int n), some (.ref l1), some (.int lf), y4, some (.ref l2), some (.int (0 + (j : Int))), some (.ref l3), some (.int z), some (.int ((L.map V.int).length : Nat)), some (.int sh), y11] ∧ Go S G H G5 H' ∧ H' l1 = some (.lst (Zl.map V.int)) ∧ H' l2 = some (.lst xs) ∧ H' l3 = some (.lst (L.map V.int)), ?_, ?_⟩
      · refine ⟨_, rfl, S, G5, 3, rfl, s7.wd, by omega, fun d H8 d0 d1 s8 => ⟨_, _, rfl, rfl, _, rfl, ite2 (fun c => ?_) (fun c => ⟨1, rfl, s7.trans s8, s8.hh h7a (s7.ns f1), s8.hh h7b (s7.ns f2), s8.hh h7c (s7.ns f3)⟩)⟩⟩
        have s8' := s7.trans s8
        refine ⟨_, rfl, _, rfl, S, G5, z, rfl, s8'.wd, by omega, fun d2 H9 e0 e1 s9 => ⟨d2, rfl, s8'.trans s9, ?_, ?_, ?_⟩⟩
        · exact s9.hh (s8.hh h7a (s7.ns f1)) (s8'.ns f1)
        · exact s9.hh (s8.hh h7b (s7.ns f2)) (s8'.ns f2)
        · exact s9.hh (s8.hh h7c (s7.ns f3)) (s8'.ns f3)
      rintro σ' H8 ⟨sh, rfl, s8, h8a, h8b, h8c⟩
      refine ⟨fun σ' H' => ∃ sg : Int, (sg = 1 ∨ sg = -1) ∧ σ' = [some (.ref S.a), some (.int n), some (.ref l1), some (.int lf), y4, some (.ref l2), some (.int (0 + (j : Int))), some (.ref l3), some (.int z), some (.int ((L.map V.int).length : Nat)), some (.int sh), some (.int sg)] ∧ Go S G H G5 H' ∧ H' l1 = some (.lst (Zl.map V.int)) ∧ H' l2 = some (.lst xs) ∧ H' l3 = some (.lst (L.map V.int)), ?_, ?_⟩
      · refine ⟨_, rfl, S, G5, 4, rfl, s8.wd, by omega, fun d H9 d0 d1 s9 => ⟨_, _, rfl, rfl, _, rfl, ite2 (fun c => ?_) (fun c => ⟨1, .inl rfl, rfl, s8.trans s9, s9.hh h8a (s8.ns f1), s9.hh h8b (s8.ns f2), s9.hh h8c (s8.ns f3)⟩)⟩⟩
        exact ⟨_, rfl, -1, .inr rfl, rfl, s8.trans s9, s9.hh h8a (s8.ns f1), s9.hh h8b (s8.ns f2), s9.hh h8c (s8.ns f3)⟩
      rintro σ' H9 ⟨sg, hsg, rfl, s9, h9a, h9b, h9c⟩
      refine ⟨_, rfl, z, rfl, by omega, by omega, for_range (lo := 0) (n := z.toNat) (fun u σ' H' => ∃ y4 : Option V, σ' = [some (.ref S.a), some (.int n), some (.ref l1), some (.int lf), y4, some (.ref l2), some (.int (0 + (j : Int))), some (.ref l3), some (.int z), some (.int ((L.map V.int).length : Nat)), some (.int sh), some (.int sg)] ∧
        Go S G H G5 H' ∧ H' l1 = some (.lst (Zl.map V.int)) ∧ H' l2 = some (.lst xs) ∧ H' l3 = some (.lst ((L ++ ((List.range u).map fun (k : Nat) => (sg * (k : Int) + sh) % z).map ((Zl.take t).sum + ·)).map V.int))) ⟨y4, rfl, s9, h9a, h9b, by simpa using h9c⟩ ?_ ?_⟩
      · rintro u σ' HA hu ⟨y4, rfl, sA, hAa, hAb, hAc⟩
        refine ⟨_, rfl, .inl ⟨rfl, _, .of hAc⟩, _, rfl, _, rfl, _, rfl, _, _, rfl, rfl, .inl ?_, _, rfl, _, _, rfl, rfl, .inl ⟨_, rfl, _, rfl, _, _, rfl, rfl, by omega, _, _, rfl, rfl, l3, _, _, rfl, rfl, hAc, ?_, fun HB eB => ?_⟩⟩
        · rcases hsg with rfl | rfl <;> decide
        · rw [List.length_map, List.length_append, List.length_map, List.length_map, List.length_range, ln]
          exact Nat.lt_of_lt_of_le (show _ < 100 by omega) (by decide)
        · refine ⟨_, rfl, sA.mut g63 f3 eB, upd_else eB hAa ne31, upd_else eB hAb ne32, ?_⟩
          have back : (((Zl.take t).sum.toNat : Nat) : Int) = (Zl.take t).sum := by omega
          rw [upd_at eB, List.range_succ, List.length_map, ln, Int.zero_add]
          simp [List.map_append, back]
      · rintro σ' HA ⟨y4, rfl, sA, hAa, hAb, hAc⟩
        refine ⟨_, _, _, _, _, _, rfl, sA, hAa, hAb, hAc, ?_, by omega, upto⟩
        rw [step]
        exact app_mv t0 (by omega) mv (sgn_mv (by omega) hsg)
    · rintro σ' H7 ⟨L, y4, y8, y9, y10, y11, rfl, s7, h7a, h7b, h7c, mv, t0, t12⟩
      rw [List.length_map, List.take_length, sum] at mv
      refine ⟨_, rfl, .inl ⟨rfl, _, .of h7b⟩, _, rfl, l3, _, rfl, .of h7c, fun p H8 n8 => ?_⟩
      obtain ⟨G8, s8, g8, k8, o8⟩ := s7.know n8
      have h8a := n8.else h7a
      have h8b := n8.else h7b
      have g81 : G8 l1 = none := by
        rw [o8 l1 fun z => by rw [z, n8.fr] at h7a; cases h7a]
        exact g51
      have g82 : G8 l2 = none := by
        rw [o8 l2 fun z => by rw [z, n8.fr] at h7b; cases h7b]
        exact g52
      refine ⟨l2, _, _, rfl, rfl, h8b, Nat.lt_of_lt_of_le (show xs.length < 4 by omega) (by decide), fun H9 e9 => ?_⟩
      refine ⟨G8, xs ++ [.ref p], _, _, _, _, _, _, _, rfl, s8.mut g82 f2 e9, g81, g82, upd_else e9 h8a ne12, upd_at e9, by rw [List.length_append, lx]; rfl, fun x hx => ?_⟩
      rcases List.mem_append.mp hx with k | k
      · obtain ⟨p', ms, e, hp, m⟩ := all_ x k
        exact ⟨p', ms, e, g8 _ _ hp, m⟩
      · exact ⟨p, L, List.mem_singleton.mp k, k8, mv⟩
  · rintro σ' H5 ⟨G5, xs, y4, y6, y7, y8, y9, y10, y11, rfl, s5, g51, g52, h5a, h5b, lx, all_⟩
    exact ⟨_, rfl, q l2 xs G5 H5 s5 f2 g52 h5b (by omega) (by omega) all_⟩


theorem ok_law {f : Addr} {fd : FuncData} (Z : Zs mg) (D : Ds K mg) (F : Fun K "law" "law" s_law f fd) (c__law_store : Cal P w K mg base "_law_store" 1 ["script"] (spStore K)) (c__law_place : Cal P w K mg base "_law_place" 3 ["store", "size"] spPlace) (c__law_take : Cal P w K mg base "_law_take" 2 ["store", "many"] spTake) (c__law_move : Cal P w K mg base "_law_move" 4 ["store", "points"] spMove) (c__law_drawn : Cal P w K mg base "_law_drawn" 3 ["store", "things", "many"] spDrawn) (c__law_pick : Cal P w K mg base "_law_pick" 3 ["store", "things"] spPick)
    (c__law_block_moves : Cal P w K mg base "_law_block_moves" 3 ["store", "points"] spBlocks) (c__law_renamed : Cal P w K mg base "_law_renamed" 1 ["move", "by"] spRenamed) (c__law_bad_move : Cal P w K mg base "_law_bad_move" 6 ["store", "move"] spBadMove) (c__law_value : Cal P w K mg base "_law_value" 6 ["store", "deep"] spValue) (c__law_fair : Cal P w K mg base "_law_fair" 10 ["value"] spFair) : FnOk P w K mg base CX0 11 f fd ["script"] (spLaw K) := by
  refine F.ok sc_law (fun vs H Q E h => ?_) (fun cdv A outer s H vs Q E hr h => ?_)
  · obtain ⟨a, ns, rfl, _⟩ := h
    rfl
  obtain ⟨a, ns, rfl, hS, hn, q⟩ := h
  refine ⟨_, (pss_cons (ps_set (i := 1) sc_law.nd rfl (Or.inl rfl) (pe_cal c__law_store (hr.mono (by first | decide | omega)) (by rfl) (pa_cons (pv 0) pa_nil)))
      (pss_cons (ps_set (i := 2) sc_law.nd rfl (Or.inl rfl) (pe_cal c__law_place (hr.mono (by first | decide | omega)) (by rfl) (pa_cons (pv 1) (pa_cons pe_int pa_nil))))
      (pss_cons (ps_set (i := 3) sc_law.nd rfl (Or.inl rfl) (pe_cal c__law_move (hr.mono (by first | decide | omega)) (by rfl) (pa_cons (pv 1) (pa_cons (pv 2) pa_nil))))
      (Evl.pss_cut (ps_if (pt_cmp (pc_eqI (pe_cal c__law_take (hr.mono (by first | decide | omega)) (by rfl) (pa_cons (pv 1) (pa_cons pe_int pa_nil))) pe_int) (nomark _)) (pss_cons (ps_set (i := 4) sc_law.nd rfl (Or.inl rfl) (pe_callTy call_tupleN (by rfl) Z.z_tuple (by decide +kernel) (pa_cons (pe_cal c__law_drawn (hr.mono (by first | decide | omega)) (by rfl) (pa_cons (pv 1) (pa_cons (pe_listRgN rfl (by rfl) Z.z_list (prg_1 (by rfl) Z.z_range (pv 2))) (pa_cons (pv 2) pa_nil)))) pa_nil)))
      (pss_one (ps_set (i := 3) sc_law.nd rfl (Or.inl rfl) (pe_cal c__law_renamed (hr.mono (by first | decide | omega)) (by rfl) (pa_cons (pe_cal c__law_pick (hr.mono (by first | decide | omega)) (by rfl) (pa_cons (pv 1) (pa_cons (pe_cal c__law_block_moves (hr.mono (by first | decide | omega)) (by rfl) (pa_cons (pv 1) (pa_cons (pv 2) pa_nil))) pa_nil))) (pa_cons (pv 4) pa_nil)))))) pss_nil)
      (pss_cons (ps_set (i := 5) sc_law.nd rfl (Or.inl rfl) (pe_cal c__law_move (hr.mono (by first | decide | omega)) (by rfl) (pa_cons (pv 1) (pa_cons (pe_cal c__law_place (hr.mono (by first | decide | omega)) (by rfl) (pa_cons (pv 1) (pa_cons pe_int pa_nil))) pa_nil))))
      (pss_cons (ps_set (i := 6) sc_law.nd rfl (Or.inl rfl) (pe_cal c__law_bad_move (hr.mono (by first | decide | omega)) (by rfl) (pa_cons (pv 1) (pa_cons (pv 3) pa_nil))))
      (pss_cons (ps_set (i := 7) sc_law.nd rfl (Or.inl rfl) (pe_cal c__law_value (hr.mono (by first | decide | omega)) (by rfl) (pa_cons (pv 1) (pa_cons (pe_cal c__law_take (hr.mono (by first | decide | omega)) (by rfl) (pa_cons (pv 1) (pa_cons pe_int pa_nil))) pa_nil))))
      (pss_cons (ps_for PassesOwn.never rfl (pi_list (pe_lstN (pa_cons (pv 3) (pa_cons (pv 6) (pa_cons (pv 5) (pa_cons (pv 7) (pa_cons (pv 3) (pa_cons (pv 6) (pa_cons (pe_tupN pa_nil) pa_nil))))))))) (pg_name (i := 8) sc_law.nd rfl (Or.inl rfl)) (pss_one (ps_if (pt_not (pt_val (pe_cal c__law_fair (hr.mono (by first | decide | omega)) (by rfl) (pa_cons (pv 8) pa_nil)))) (pss_one (ps_ret pe_bl)) pss_nil)))
      (pss_one (ps_ret pe_bl)))))))))), ?_⟩
  refine ⟨_, rfl, a, ns, rfl, hS, hn, fun S H1 w1 => ?_⟩
  have s1 := Go.refl w1
  refine ⟨_, rfl, S, H, 13, rfl, w1, by omega, by omega, fun n H2 n0 n1 s2 => ?_⟩
  refine ⟨_, rfl, _, rfl, S, H, n, rfl, s2.wd, n0, by omega, fun p ms G3 H3 s3 hp mv => ?_⟩
  have s3 := s2.trans s3
  refine ⟨fun σ' H' => ∃ (p : Addr) (ms : List Int) (y4 : Option V) (G' : Hp), σ' = [some (.ref a), some (.ref S.a), some (.int n), some (.ref p), y4, none, none, none, none] ∧ Go S H H1 G' H' ∧ G' p = some (.tup (ms.map V.int)) ∧ IsMv ms n, ?_, ?_⟩
  · refine ⟨_, rfl, S, G3, 2, rfl, s3.wd, by omega, fun d H4 d0 d1 s4 => ⟨_, _, rfl, rfl, _, rfl, ite2 (fun c => ?_) (fun c => ⟨p, ms, none, G3, rfl, s3.trans s4, hp, mv⟩)⟩⟩
    have s4 := s3.trans s4
    refine ⟨_, rfl, _, rfl, n, rfl, .of_le (by decide) (by omega) (by decide) (by omega), fun r H5 n5 => ?_⟩
    obtain ⟨s5, gr, hr5, fr⟩ := s4.loc n5
    rw [rgV_rngI] at hr5
    refine ⟨_, rfl, S, G3, r, _, n, rfl, s5.wd, .inl hr5, by rw [List.length_map, rngI_len]; omega, by omega, by omega, fun lw ys rest H6 s6 gw fw hw pm0 hy => ?_⟩
    obtain ⟨rs, ts, rfl, rfl, pm⟩ := perm_ints pm0
    have fw := s5.fresh fw
    have s6 := s5.trans s6
    rw [List.length_map, List.length_map, rngI_len] at hy
    have lr : rs.length = n.toNat := by omega
    have pl := pm.length_eq
    rw [List.length_append, rngI_len] at pl
    have e : ts = [] := List.eq_nil_of_length_eq_zero (by omega)
    subst e
    rw [List.append_nil] at pm
    have mvw : IsMv rs n := pm
    refine ⟨lw, _, rfl, .of hw, fun pb H7 n7 => ?_⟩
    obtain ⟨G7, s7, g7, k7, -⟩ := s6.know n7
    refine ⟨_, rfl, _, rfl, _, rfl, S, G7, n, rfl, s7.wd, n0, by omega, fun l xs G8 H8 s8 fl gl h8 x0 x100 all_ => ?_⟩
    have s8' := s7.trans s8
    refine ⟨S, G8, .ref l, xs, rfl, s8'.wd, .inl ⟨l, rfl, s7.ns (s7.fresh fl), h8⟩, x0, by omega, fun x H9 hx s9 => ?_⟩
    obtain ⟨p9, bs, rfl, hp9, mb⟩ := all_ x hx
    have s9' := s8'.trans s9
    refine ⟨_, rfl, G8, p9, pb, bs, rs, n, rfl, s9'.gh, hp9, s8.gg _ _ k7, mb, mvw, n0, by omega, fun pr cs GA HA sA kA mA => ?_⟩
    exact ⟨pr, cs, _, GA, rfl, s9'.q sA, kA, mA⟩
  rintro σ' H4 ⟨p, ms, y4, G4, rfl, s4, hp, mv⟩
  refine ⟨_, rfl, _, rfl, S, G4, 13, rfl, s4.wd, by omega, by omega, fun n2 H5 m0 m1 s5 => ⟨S, G4, n2, rfl, (s4.trans s5).wd, m0, by omega, fun p2 ns2 G6 H6 s6 hp2 mv2 => ?_⟩⟩
  have s6' := (s4.trans s5).trans s6
  refine ⟨_, rfl, _, rfl, S, G6, p, ms, n, rfl, s6'.wd, s6.gg _ _ hp, mv, n0, by omega, fun v3 d3 G7 H7 s7 dv3 z3 => ?_⟩
  have s7' := s6'.trans s7
  refine ⟨_, rfl, _, rfl, S, G7, 7, rfl, s7'.wd, by omega, fun d H8 d0 d1 s8 => ⟨S, G7, d, rfl, (s7'.trans s8).wd, by omega, fun v5 d5 G9 H9 dv5 z5 s9 => ?_⟩⟩
  have s9' := (s7'.trans s8).trans s9
  have lm := mv.len
  have l2 := mv2.len
  refine ⟨_, rfl, _, rfl, _, rfl, _, rfl, _, rfl, _, rfl, by show 0 ≤ sizeLine; decide, fun e0 HA nA => ?_⟩
  obtain ⟨GA, sA, gA, kA, -⟩ := s9'.know nA
  refine ⟨by show 7 ≤ sizeLine; decide, fun l HB nB => ?_⟩
  obtain ⟨sB, gl, hl, fl⟩ := sA.loc nB
  have d1 : Da GA (.ref p) (.tuple (ms.map PyData.int)) := .ints (gA _ _ (s9.gg _ _ (s7.gg _ _ (s6.gg _ _ hp))))
  have d2 : Da GA v3 d3 := (dv3.up s9.gg).up gA
  have d4 : Da GA (.ref p2) (.tuple (ns2.map PyData.int)) := .ints (gA _ _ (s9.gg _ _ (s7.gg _ _ hp2)))
  have d6 : Da GA v5 d5 := dv5.up gA
  have d7 : Da GA (.ref e0) (.tuple []) := .tup kA .nil
  have zm := sz_ints ms
  have z2 := sz_ints ns2
  have z7 : szD (.tuple []) ≤ 200000 := by decide
  have dx : DaAll GA [.ref p, v3, .ref p2, v5, .ref p, v3, .ref e0] [.tuple (ms.map PyData.int), d3, .tuple (ns2.map PyData.int), d5, .tuple (ms.map PyData.int), d3, .tuple []] := .cons d1 (.cons d2 (.cons d4 (.cons d6 (.cons d1 (.cons d2 (.cons d7 .nil))))))
  have zx : ∀ e ∈ [PyData.tuple (ms.map PyData.int), d3, .tuple (ns2.map PyData.int), d5, .tuple (ms.map PyData.int), d3, .tuple []], szD e ≤ 200000 := fun e he => by
    simp only [List.mem_cons, List.not_mem_nil, or_false] at he
    rcases he with rfl | rfl | rfl | rfl | rfl | rfl | rfl <;> omega
  refine ⟨l, rfl, ⟨_, .of hl⟩, for_list (K := K) (a := l) (xs := [.ref p, v3, .ref p2, v5, .ref p, v3, .ref e0]) (fun i σ' H' => ∃ y8 : Option V, σ' = [some (.ref a), some (.ref S.a), some (.int n), some (.ref p), y4, some (.ref p2), some v3, some v5, y8] ∧ Same HB H') ⟨none, rfl, Same.refl _⟩ ?_ ?_ ?_⟩
  · rintro i σ' H' - ⟨y8, rfl, s⟩
    exact .of (s _ _ hl)
  · rintro i x σ' HC hx ⟨y8, rfl, sC⟩
    obtain ⟨e, he, de⟩ := dx.get hx
    exact ⟨_, rfl, GA, x, e, rfl, sB.gh.trans sC, de, zx e (List.mem_of_getElem? he), fun HD sD => ⟨_, rfl, iteF ⟨_, rfl, sC.trans sD⟩⟩⟩
  · rintro σ' HC ⟨y8, rfl, sC⟩
    exact q HC

end
theorem w_Z {P : Program} {w : World} {K : PySem.W.Frag} {h : Heap} {mg : Str → Option Value} (X : K.In h) (G : h.Ns mainGlobals mg) (c : SaysW faL fnL exL K) : Zs mg := ⟨He.free_ok X G (c.fact 1 (f := .free "ValueError") rfl),
    He.free_ok X G (c.fact 2 (f := .free "isinstance") rfl),
    He.free_ok X G (c.fact 3 (f := .free "int") rfl),
    He.free_ok X G (c.fact 4 (f := .free "bool") rfl),
    He.free_ok X G (c.fact 5 (f := .free "str") rfl),
    He.free_ok X G (c.fact 6 (f := .free "tuple") rfl),
    He.free_ok X G (c.fact 7 (f := .free "list") rfl),
    He.free_ok X G (c.fact 8 (f := .free "len") rfl),
    He.free_ok X G (c.fact 9 (f := .free "range") rfl),
    He.free_ok X G (c.fact 10 (f := .free "all") rfl),
    He.free_ok X G (c.fact 11 (f := .free "sorted") rfl),
    He.free_ok X G (c.fact 12 (f := .free "min") rfl),
    He.free_ok X G (c.fact 13 (f := .free "enumerate") rfl),
    He.int_ok X G (c.fact 14 (f := .int "MOST_POINTS" 12) rfl)⟩
theorem w_D {P : Program} {w : World} {K : PySem.W.Frag} {h : Heap} {mg : Str → Option Value} (X : K.In h) (G : h.Ns mainGlobals mg) (c : SaysW faL fnL exL K) : Ds K mg := ⟨def_w X G (c.def_ 1 (d := dFn "is_number" s_is_number) rfl) (c.fact 15 (f := .glo "is_number") rfl) (fun _ _ _ _ _ _ us hl => match us, hl with | [_, _, _], _ => rfl),
    def_w X G (c.def_ 2 (d := dFn "is_point" s_is_point) rfl) (c.fact 16 (f := .glo "is_point") rfl) (fun _ _ _ _ _ _ us hl => match us, hl with | [_, _], _ => rfl),
    def_w X G (c.def_ 3 (d := dFn "is_move_on" s_is_move_on) rfl) (c.fact 17 (f := .glo "is_move_on") rfl) (fun _ _ _ _ _ _ us hl => match us, hl with | [_, _], _ => rfl),
    def_w X G (c.def_ 4 (d := dFn "is_move" s_is_move) rfl) (c.fact 18 (f := .glo "is_move") rfl) (fun _ _ _ _ _ _ us hl => match us, hl with | [_], _ => rfl),
    def_w X G (c.def_ 5 (d := dFn "check_move" s_check_move) rfl) (c.fact 19 (f := .glo "check_move") rfl) (fun _ _ _ _ _ _ us hl => match us, hl with | [_, _], _ => rfl),
    def_w X G (c.def_ 6 (d := dFn "held_points" s_held_points) rfl) (c.fact 20 (f := .glo "held_points") rfl) (fun _ _ _ _ _ _ us hl => match us, hl with | [_], _ => rfl),
    def_w X G (c.def_ 7 (d := dFn "moved_points" s_moved_points) rfl) (c.fact 21 (f := .glo "moved_points") rfl) (fun _ _ _ _ _ _ us hl => match us, hl with | [_], _ => rfl),
    def_w X G (c.def_ 8 (d := dFn "cycles" s_cycles) rfl) (c.fact 22 (f := .glo "cycles") rfl) (fun _ _ _ _ _ _ us hl => match us, hl with | [_], _ => rfl),
    def_w X G (c.def_ 9 (d := dFn "_cycle_from" s_cycle_from) rfl) (c.fact 23 (f := .glo "_cycle_from") rfl) (fun _ _ _ _ _ _ us hl => match us, hl with | [_, _], _ => rfl),
    def_w X G (c.def_ 10 (d := dFn "_law_store" s_law_store) rfl) (c.fact 24 (f := .glo "_law_store") rfl) (fun _ _ _ _ _ _ us hl => match us, hl with | [_], _ => rfl),
    def_w X G (c.def_ 11 (d := dFn "_law_mixed" s_law_mixed) rfl) (c.fact 25 (f := .glo "_law_mixed") rfl) (fun _ _ _ _ _ _ us hl => match us, hl with | [_, _], _ => rfl),
    def_w X G (c.def_ 12 (d := dFn "_law_take" s_law_take) rfl) (c.fact 26 (f := .glo "_law_take") rfl) (fun _ _ _ _ _ _ us hl => match us, hl with | [_, _], _ => rfl),
    def_w X G (c.def_ 13 (d := dFn "_law_pick" s_law_pick) rfl) (c.fact 27 (f := .glo "_law_pick") rfl) (fun _ _ _ _ _ _ us hl => match us, hl with | [_, _], _ => rfl),
    def_w X G (c.def_ 14 (d := dFn "_law_place" s_law_place) rfl) (c.fact 28 (f := .glo "_law_place") rfl) (fun _ _ _ _ _ _ us hl => match us, hl with | [_, _], _ => rfl),
    def_w X G (c.def_ 15 (d := dFn "_law_drawn" s_law_drawn) rfl) (c.fact 29 (f := .glo "_law_drawn") rfl) (fun _ _ _ _ _ _ us hl => match us, hl with | [_, _, _], _ => rfl),
    def_w X G (c.def_ 16 (d := dFn "_law_either" s_law_either) rfl) (c.fact 30 (f := .glo "_law_either") rfl) (fun _ _ _ _ _ _ us hl => match us, hl with | [_, _], _ => rfl),
    def_w X G (c.def_ 17 (d := dFn "_law_whole" s_law_whole) rfl) (c.fact 31 (f := .glo "_law_whole") rfl) (fun _ _ _ _ _ _ us hl => match us, hl with | [_], _ => rfl),
    def_w X G (c.def_ 18 (d := dFn "_law_sign" s_law_sign) rfl) (c.fact 32 (f := .glo "_law_sign") rfl) (fun _ _ _ _ _ _ us hl => match us, hl with | [_], _ => rfl),
    def_w X G (c.def_ 19 (d := dFn "_law_text" s_law_text) rfl) (c.fact 33 (f := .glo "_law_text") rfl) (fun _ _ _ _ _ _ us hl => match us, hl with | [_, _], _ => rfl),
    def_w X G (c.def_ 20 (d := dFn "_law_leaf" s_law_leaf) rfl) (c.fact 34 (f := .glo "_law_leaf") rfl) (fun _ _ _ _ _ _ us hl => match us, hl with | [_], _ => rfl),
    def_w X G (c.def_ 21 (d := dFn "_law_value" s_law_value) rfl) (c.fact 35 (f := .glo "_law_value") rfl) (fun _ _ _ _ _ _ us hl => match us, hl with | [_, _], _ => rfl),
    def_w X G (c.def_ 22 (d := dFn "_law_is_whole" s_law_is_whole) rfl) (c.fact 36 (f := .glo "_law_is_whole") rfl) (fun _ _ _ _ _ _ us hl => match us, hl with | [_], _ => rfl),
    def_w X G (c.def_ 23 (d := dFn "_law_same" s_law_same) rfl) (c.fact 37 (f := .glo "_law_same") rfl) (fun _ _ _ _ _ _ us hl => match us, hl with | [_, _], _ => rfl),
    def_w X G (c.def_ 24 (d := dFn "_law_frozen" s_law_frozen) rfl) (c.fact 38 (f := .glo "_law_frozen") rfl) (fun _ _ _ _ _ _ us hl => match us, hl with | [_, _], _ => rfl),
    def_w X G (c.def_ 25 (d := dFn "_law_renamed" s_law_renamed) rfl) (c.fact 39 (f := .glo "_law_renamed") rfl) (fun _ _ _ _ _ _ us hl => match us, hl with | [_, _], _ => rfl),
    def_w X G (c.def_ 26 (d := dFn "_law_move" s_law_move) rfl) (c.fact 40 (f := .glo "_law_move") rfl) (fun _ _ _ _ _ _ us hl => match us, hl with | [_, _], _ => rfl),
    def_w X G (c.def_ 27 (d := dFn "_law_move_fits" s_law_move_fits) rfl) (c.fact 41 (f := .glo "_law_move_fits") rfl) (fun _ _ _ _ _ _ us hl => match us, hl with | [_, _], _ => rfl),
    def_w X G (c.def_ 28 (d := dFn "_law_bad_move" s_law_bad_move) rfl) (c.fact 42 (f := .glo "_law_bad_move") rfl) (fun _ _ _ _ _ _ us hl => match us, hl with | [_, _], _ => rfl),
    def_w X G (c.def_ 29 (d := dFn "_law_block_moves" s_law_block_moves) rfl) (c.fact 43 (f := .glo "_law_block_moves") rfl) (fun _ _ _ _ _ _ us hl => match us, hl with | [_, _], _ => rfl),
    def_w X G (c.def_ 30 (d := dFn "_law_alone" s_law_alone) rfl) (c.fact 44 (f := .glo "_law_alone") rfl) (fun _ _ _ _ _ _ us hl => match us, hl with | [_], _ => rfl),
    def_w X G (c.def_ 31 (d := dFn "_law_refusal" s_law_refusal) rfl) (c.fact 45 (f := .glo "_law_refusal") rfl) (fun _ _ _ _ _ _ us hl => match us, hl with | [_, _], _ => rfl),
    def_w X G (c.def_ 32 (d := dFn "_law_rings" s_law_rings) rfl) (c.fact 46 (f := .glo "_law_rings") rfl) (fun _ _ _ _ _ _ us hl => match us, hl with | [_, _], _ => rfl),
    def_w X G (c.def_ 33 (d := dFn "_law_answers" s_law_answers) rfl) (c.fact 47 (f := .glo "_law_answers") rfl) (fun _ _ _ _ _ _ us hl => match us, hl with | [_], _ => rfl),
    def_w X G (c.def_ 34 (d := dFn "_law_told" s_law_told) rfl) (c.fact 48 (f := .glo "_law_told") rfl) (fun _ _ _ _ _ _ us hl => match us, hl with | [_], _ => rfl),
    def_w X G (c.def_ 35 (d := dFn "_law_fair" s_law_fair) rfl) (c.fact 49 (f := .glo "_law_fair") rfl) (fun _ _ _ _ _ _ us hl => match us, hl with | [_], _ => rfl)⟩
theorem w_ec_NotAMove {P : Program} {w : World} {K : PySem.W.Frag} {h : Heap} {mg : Str → Option Value} (X : K.In h) (G : h.Ns mainGlobals mg) (c : SaysW faL fnL exL K) : Ec K mg "NotAMove" (He.ga K "NotAMove") := ec_w X G (c.fact 50 (f := .glo "NotAMove") rfl) (c.more 0 (f := ecB "NotAMove") rfl)
theorem w_es_NotAMove {P : Program} {w : World} {K : PySem.W.Frag} {h : Heap} {mg : Str → Option Value} (X : K.In h) (G : h.Ns mainGlobals mg) (c : SaysW faL fnL exL K) : Es K mg 2 "NotAMove" (He.ga K "NotAMove") := ⟨(w_ec_NotAMove (P := P) (w := w) X G c), by decide, is_w X G (c.fact 51 (f := .glo "BadNumber") rfl) (c.more 1 (f := isB "NotAMove" "BadNumber" false) rfl),
    is_w X G (c.fact 52 (f := .glo "NotAPoint") rfl) (c.more 2 (f := isB "NotAMove" "NotAPoint" false) rfl),
    is_w X G (c.fact 50 (f := .glo "NotAMove") rfl) (c.more 3 (f := isB "NotAMove" "NotAMove" true) rfl),
    is_w X G (c.fact 53 (f := .glo "TooMany") rfl) (c.more 4 (f := isB "NotAMove" "TooMany" false) rfl),
    is_w X G (c.fact 54 (f := .glo "UnlikeSizes") rfl) (c.more 5 (f := isB "NotAMove" "UnlikeSizes" false) rfl),
    is_w X G (c.fact 55 (f := .glo "RepeatedPoint") rfl) (c.more 6 (f := isB "NotAMove" "RepeatedPoint" false) rfl),
    is_w X G (c.fact 56 (f := .glo "BadText") rfl) (c.more 7 (f := isB "NotAMove" "BadText" false) rfl),
    is_w X G (c.fact 57 (f := .glo "NotMade") rfl) (c.more 8 (f := isB "NotAMove" "NotMade" false) rfl),
    is_w X G (c.fact 58 (f := .glo "NotTight") rfl) (c.more 9 (f := isB "NotAMove" "NotTight" false) rfl),
    is_w X G (c.fact 59 (f := .glo "NotFull") rfl) (c.more 10 (f := isB "NotAMove" "NotFull" false) rfl),
    is_w X G (c.fact 60 (f := .glo "NotAFailing") rfl) (c.more 11 (f := isB "NotAMove" "NotAFailing" false) rfl),
    is_w X G (c.fact 61 (f := .glo "NotNeighbours") rfl) (c.more 12 (f := isB "NotAMove" "NotNeighbours" false) rfl),
    is_w X G (c.fact 62 (f := .glo "NotShorter") rfl) (c.more 13 (f := isB "NotAMove" "NotShorter" false) rfl),
    is_w X G (c.fact 63 (f := .glo "SameLength") rfl) (c.more 14 (f := isB "NotAMove" "SameLength" false) rfl),
    is_w X G (c.fact 64 (f := .glo "NoSuchLength") rfl) (c.more 15 (f := isB "NotAMove" "NoSuchLength" false) rfl),
    is_w X G (c.fact 65 (f := .glo "NotAnOrder") rfl) (c.more 16 (f := isB "NotAMove" "NotAnOrder" false) rfl),
    is_w X G (c.fact 66 (f := .glo "NotAChain") rfl) (c.more 17 (f := isB "NotAMove" "NotAChain" false) rfl),
    is_w X G (c.fact 67 (f := .glo "NotABase") rfl) (c.more 18 (f := isB "NotAMove" "NotABase" false) rfl),
    is_w X G (c.fact 68 (f := .glo "NotInside") rfl) (c.more 19 (f := isB "NotAMove" "NotInside" false) rfl),
    is_w X G (c.fact 69 (f := .glo "OrderMatters") rfl) (c.more 20 (f := isB "NotAMove" "OrderMatters" false) rfl),
    is_w X G (c.fact 70 (f := .glo "FullLot") rfl) (c.more 21 (f := isB "NotAMove" "FullLot" false) rfl),
    is_w X G (c.fact 71 (f := .glo "NotAWord") rfl) (c.more 22 (f := isB "NotAMove" "NotAWord" false) rfl),
    is_w X G (c.fact 72 (f := .glo "NotAColumn") rfl) (c.more 23 (f := isB "NotAMove" "NotAColumn" false) rfl),
    is_w X G (c.fact 73 (f := .glo "NotACount") rfl) (c.more 24 (f := isB "NotAMove" "NotACount" false) rfl),
    is_w X G (c.fact 74 (f := .glo "GameOver") rfl) (c.more 25 (f := isB "NotAMove" "GameOver" false) rfl),
    is_w X G (c.fact 75 (f := .glo "NotAllowed") rfl) (c.more 26 (f := isB "NotAMove" "NotAllowed" false) rfl),
    is_w X G (c.fact 76 (f := .glo "NothingToUndo") rfl) (c.more 27 (f := isB "NotAMove" "NothingToUndo" false) rfl),
    is_w X G (c.fact 77 (f := .glo "NothingToRedo") rfl) (c.more 28 (f := isB "NotAMove" "NothingToRedo" false) rfl),
    is_w X G (c.fact 78 (f := .glo "NothingKept") rfl) (c.more 29 (f := isB "NotAMove" "NothingKept" false) rfl),
    is_w X G (c.fact 79 (f := .glo "BadEdit") rfl) (c.more 30 (f := isB "NotAMove" "BadEdit" false) rfl),
    is_w X G (c.fact 80 (f := .glo "UnknownName") rfl) (c.more 31 (f := isB "NotAMove" "UnknownName" false) rfl),
    is_w X G (c.fact 81 (f := .glo "NotAPaper") rfl) (c.more 32 (f := isB "NotAMove" "NotAPaper" false) rfl),
    is_w X G (c.fact 82 (f := .glo "HeldorderError") rfl) (c.more 33 (f := isB "NotAMove" "HeldorderError" true) rfl),
    hn_w X G (c.fact 82 (f := .glo "HeldorderError") rfl) (c.more 34 (f := hnB "NotAMove" "HeldorderError" true) rfl),
    of_decide_eq_true (c.more 35 (f := ivB "NotAMove") rfl)⟩
theorem all_w {P : Program} {w : World} {K : PySem.W.Frag} {h : Heap} {mg : Str → Option Value} {f : Addr} (X : K.In h) (G : h.Ns mainGlobals mg) (hfa : mg ("law" : Str) = some (.ref f)) (c : SaysW faL fnL exL K) :
    ∃ fd : FuncData, (∀ (s : Shared) (v : Value), BindsTo s fd ⟨[v], []⟩ [("script", v)]) ∧ ∀ base : Heap, K.In base → base.Ns mainGlobals mg → FnOk P w K mg base CX0 11 f fd ["script"] (spLaw K) := by
  obtain ⟨fd, F⟩ := (c.def_ 0 (d := dFn "law" s_law) rfl)
  have e := hfa.symm.trans (He.glo_ok X G (c.fact 0 (f := .glo "law") rfl))
  cases e
  have b := FunD.bindsA (ps := ["script"]) F fun _ _ _ _ _ _ us hl => match us, hl with | [_], _ => rfl
  refine ⟨fd, fun s v => b s [v] rfl, fun base _ _ => ?_⟩
  have Z : Zs mg := w_Z (P := P) (w := w) X G c
  have D : Ds K mg := w_D (P := P) (w := w) X G c
  have ec_NotAMove : Ec K mg "NotAMove" (He.ga K "NotAMove") := w_ec_NotAMove (P := P) (w := w) X G c
  have es_NotAMove : Es K mg 2 "NotAMove" (He.ga K "NotAMove") := w_es_NotAMove (P := P) (w := w) X G c
  have nf_NotAMove_index := xi_no (c.more 36 (f := xiB "NotAMove" ["index"]) rfl) (f := "index") (by simp)
  obtain ⟨fd_NotAMove, F_NotAMove⟩ := (c.def_ 36 (d := dMe "NotAMove" "__init__" "NotAMove.__init__" s_ini_NotAMove) rfl)
  have F_NotAMove : FunD K "__init__" "NotAMove.__init__" (defArgs s_ini_NotAMove) (defBody s_ini_NotAMove) (defScope s_ini_NotAMove) [] [] (He.ma K (He.ga K "NotAMove") "__init__") fd_NotAMove := F_NotAMove
  have bi_NotAMove := bindsM (ps := ["self", "index"]) (fun _ _ _ _ _ _ us hl => match us, hl with | [_, _], _ => rfl) F_NotAMove
  have m_NotAMove : Xm P w K mg base "NotAMove" (He.ga K "NotAMove") ["index"] := xm_w ec_NotAMove (c.more 36 (f := xiB "NotAMove" ["index"]) rfl) (ini1 sc_ini_NotAMove ⟨_, _, _, _, rfl⟩ ec_NotAMove.ox rfl rfl (by decide) (by decide) nf_NotAMove_index (He5.fun_of F_NotAMove)) bi_NotAMove
  have c__law_mixed := ok_mixed (P := P) (w := w) (K := K) (mg := mg) (base := base) Z D
  have c__law_take := ok_take (P := P) (w := w) (K := K) (mg := mg) (base := base) Z D c__law_mixed
  have c__law_pick := ok_pick (P := P) (w := w) (K := K) (mg := mg) (base := base) Z D c__law_take
  have c__law_place := ok_place (P := P) (w := w) (K := K) (mg := mg) (base := base) Z D c__law_take
  have c__law_drawn := ok_drawn (P := P) (w := w) (K := K) (mg := mg) (base := base) Z D c__law_take
  have c__law_either := ok_either (P := P) (w := w) (K := K) (mg := mg) (base := base) Z D c__law_take
  have c__law_whole := ok_whole (P := P) (w := w) (K := K) (mg := mg) (base := base) Z D c__law_take c__law_pick
  have c__law_sign := ok_sign (P := P) (w := w) (K := K) (mg := mg) (base := base) Z D c__law_take
  have c__law_text := ok_text (P := P) (w := w) (K := K) (mg := mg) (base := base) Z D c__law_place c__law_sign
  have c__law_leaf := ok_leaf (P := P) (w := w) (K := K) (mg := mg) (base := base) Z D c__law_take c__law_text c__law_whole
  have c__law_value := ok_value (P := P) (w := w) (K := K) (mg := mg) (base := base) Z D c__law_take c__law_leaf c__law_either
  have c__law_is_whole := ok_is_whole (P := P) (w := w) (K := K) (mg := mg) (base := base) Z D
  have c__law_same := ok_same (P := P) (w := w) (K := K) (mg := mg) (base := base) Z D c__law_is_whole
  have c__law_is_whole_h := ok_is_whole_h (P := P) (w := w) (K := K) (mg := mg) (base := base) Z D
  have c__law_same_h := ok_same_h (P := P) (w := w) (K := K) (mg := mg) (base := base) Z D c__law_is_whole_h
  have c_is_number := ok_is_number (P := P) (w := w) (K := K) (mg := mg) (base := base) Z D
  have c_is_point := ok_is_point (P := P) (w := w) (K := K) (mg := mg) (base := base) Z D c_is_number
  have c_is_move_on := ok_is_move_on (P := P) (w := w) (K := K) (mg := mg) (base := base) Z D c_is_point
  have c_is_move := ok_is_move (P := P) (w := w) (K := K) (mg := mg) (base := base) Z D c_is_move_on
  have c__law_move := ok_move (P := P) (w := w) (K := K) (mg := mg) (base := base) Z D c__law_take c__law_drawn
  have c__law_bad_move := ok_bad_move (P := P) (w := w) (K := K) (mg := mg) (base := base) Z D c__law_take c__law_place c__law_leaf
  have c__law_store := ok_store (P := P) (w := w) (K := K) (mg := mg) (base := base) Z D
  have c_check_move := ok_check_move (P := P) (w := w) (K := K) (mg := mg) (base := base) Z D m_NotAMove c_is_move
  have c__law_alone_h := ok_alone_h (P := P) (w := w) (K := K) (mg := mg) (base := base) Z D
  have c__law_refusal_h := ok_refusal_h (P := P) (w := w) (K := K) (mg := mg) (base := base) Z D c__law_alone_h c__law_same_h
  have c_held_points := ok_held_points (P := P) (w := w) (K := K) (mg := mg) (base := base) Z D c_check_move
  have c_moved_points := ok_moved_points (P := P) (w := w) (K := K) (mg := mg) (base := base) Z D c_check_move
  have c__cycle_from := ok_cycle_from (P := P) (w := w) (K := K) (mg := mg) (base := base) Z D
  have c_cycles := ok_cycles (P := P) (w := w) (K := K) (mg := mg) (base := base) Z D c_moved_points c__cycle_from
  have c__law_move_fits := ok_move_fits (P := P) (w := w) (K := K) (mg := mg) (base := base) Z D c__law_is_whole
  have c__law_renamed := ok_renamed (P := P) (w := w) (K := K) (mg := mg) (base := base) Z D
  have c__law_rings := ok_rings (P := P) (w := w) (K := K) (mg := mg) (base := base) Z D c__law_is_whole
  have c__law_told := ok_told (P := P) (w := w) (K := K) (mg := mg) (base := base) Z D es_NotAMove nf_NotAMove_index c_held_points c_moved_points c_cycles c__law_refusal_h
  have c__law_answers := ok_answers (P := P) (w := w) (K := K) (mg := mg) (base := base) Z D c__law_same c_held_points c_moved_points c_cycles c__law_rings
  have c__law_block_moves := ok_block_moves (P := P) (w := w) (K := K) (mg := mg) (base := base) Z D c__law_take
  have c__law_frozen := ok_frozen (P := P) (w := w) (K := K) (mg := mg) (base := base) Z D 9
  have c__law_fair := ok_fair (P := P) (w := w) (K := K) (mg := mg) (base := base) Z D c__law_same c__law_frozen c__law_move_fits c__law_answers c__law_told
  exact ok_law Z D (He5.fun_of F) c__law_store c__law_place c__law_take c__law_move c__law_drawn c__law_pick c__law_block_moves c__law_renamed c__law_bad_move c__law_value c__law_fair
end Hd
open PySem PySem.W PySem.Calls PyProof.Rows
set_option maxHeartbeats 0 in
theorem PySem.Challenge.cw_heldorder_k03_held_and_cycles_holds : PySem.Challenge.rw_heldorder_k03_held_and_cycles.Holds := by
  w_on; o_law
  refine HandSHeadRun.head_any (r := OpenLaw.row PySem.Challenge.rw_heldorder_k03_held_and_cycles) (q := view (OpenLaw.row PySem.Challenge.rw_heldorder_k03_held_and_cycles).prog [73]) (H := Hd.hkL) (ob := Hd.obL) (M := 12000) (loose := Hd.looseL) (d := HandSHeadRun.topDef (OpenLaw.row PySem.Challenge.rw_heldorder_k03_held_and_cycles).prog 73) (kwd := []) Hd.obL_eq
    (by kernel_rfl) (fun s => by kernel_rfl) Hd.runL (by kernel_rfl) (by kernel_rfl) (by kernel_rfl) (by rfl) (by first | assumption | decide +kernel) (by decide +kernel) ⟨rfl, rfl, rfl, rfl, rfl, by decide +kernel⟩ ?hw ?hc
  case hw => w_witness2
  case hc =>
    refine L2.walk_ofE (l := PySem.Challenge.rw_heldorder_k03_held_and_cycles) (n := 63) (k := 11) (x := "script") (CX := L2.CX0) rfl (by decide) (by kernel_rfl) ⟨rfl, by decide, by decide⟩ ?F (fun _ _ _ _ z => z)
    intro w mg fa h Y G hmg0
    obtain ⟨K, KX, c⟩ := Y
    have hmg : mg ("law" : PySem.Str) = some (.ref fa) := by
      have e : (HandSHeadRun.topDef (OpenLaw.row PySem.Challenge.rw_heldorder_k03_held_and_cycles).prog 73).name = ("law" : PySem.Str) := by kernel_rfl
      rw [← e]
      exact hmg0
    obtain ⟨fd, hb, hF⟩ := Hd.all_w (P := (PySem.Challenge.rw_heldorder_k03_held_and_cycles).prog) (w := w) KX G hmg c
    exact ⟨K, fd, Hd.spLaw K, KX, hb, fun H a ns hl _ hS => Hd.spLaw_of hl hS, hF⟩
