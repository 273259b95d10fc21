import PyProof.Rows.All
import Wide.All
import OpenK.AllK
import Wide.FinOn
import HandS.ForMost
import HandS.IsInst
import HandS.Conv
import HandS.SortInts
import HandS.Style
import HandS.TupAny
import HandS.Deep
import HandS.TupMul
import HandS.More
import HandS.Evl
import KE.KEqSeq
import HandS.HotCalls
import HandS.ExcCtx
import HandS.ExcInit
import HandS.ExcInitHot
import HandS.ExcField
import HandS.ExcIs
import HandS.RaiseFrom
import KE.KExcIs
import KE.GoesMore
import HandS.SetFor
import HandS.ExcValue
import HandS.Strs
import HandS.TupLen
import HandS.NamedTupSort
import KE.KDictSum
import HandS.Property
import HandS.Defaults
import HandS.OwnEq
import HandS.HeadNt
import HandS.Head0
import HandS.Head1
import HandS.Head2
import HandS.HeadEnd
import HandS.IterVal
import HandS.IterNext
import HandS.TupLe
import PyProof.Rows.ReprR
import PyProof.ReprLen
import HandS.SetBool
import HandS.Flow
import PySem.Challenge.RW_heldorder_k09_worlds_refused
set_option Elab.async false
set_option linter.all false
set_option maxRecDepth 100000
set_option maxHeartbeats 4000000
namespace Hd
open PySem PySem.Spec PyProof.Rows L2

/-! ### defs of the text, promises of callees -/
def Def (K : PySem.W.Frag) (mg : Str → Option Value) (x : Str) (st : Stmt) (ps : List Str) : Prop :=
  ∃ f fd, Fun K x x st f fd ∧ mg x = some (.ref f) ∧ Binds K fd ps []
def Cal (P : Program) (w : World) (K : PySem.W.Frag) (mg : Str → Option Value) (base : Heap) (x : Str) (k : Nat) (ps : List Str) (sp : Sp) : Prop :=
  ∃ f fd, FnOk P w K mg base CX0 k f fd ps sp ∧ mg x = some (.ref f) ∧ PySem.W.keepIn K (.ref f) = true ∧ Binds K fd ps []
section
variable {P : Program} {w : World} {K : PySem.W.Frag} {mg : Str → Option Value} {base : Heap} {x : Str} {st : Stmt} {ps N : List Str} {k : Nat} {sp : Sp}
theorem Def.cal (D : Def K mg x st ps) (S : FnScope N ps (defScope st)) (len : ∀ vs H Q E, sp vs H Q E → vs.length = ps.length)
    (hbody : ∀ (f : Addr) (cdv : Value) (A : Around) (outer : List Env) (s : Shared) (H : Hp) (vs : List V) (Q : VK) (E : XK), Room k (A.deeper (envOfC x (defScope st) s.heap.objs.size f cdv)) → sp vs H Q E →
      ∃ t, PSs (cxOf CX0 P w K mg base N x (defScope st) f cdv A outer s H E).nox (defBody st) t ∧ t { nx := fun _ H' => Q .non H', rt := Q } (start N vs) H) : Cal P w K mg base x (k + 1) ps sp := by
  obtain ⟨f, fd, F, g, b⟩ := D
  exact ⟨f, fd, F.ok S len (fun cdv A outer s H vs Q E hr h => hbody f cdv A outer s H vs Q E hr h), g, F.kp, b⟩
end
section
variable {X : Cx} {x : Str} {p pos : Pos} {e : Expr} {es : List Expr} {k : Nat} {ps : List Str} {sp : Sp} {t : TA}
theorem pe_cal (C : Cal X.prog X.w X.K X.mg X.base x k ps sp) (hr : Room k X.A) (hg : Gl X x) (ha : PA X (e :: es) t) (hdb : (x == ("__debug__" : Str)) = false := by decide)
    (he : starEach (e :: es) X.env = (false, eval e X.env) :: starEach es X.env := by rfl) (hpl : (backTo pos (starEach es X.env)).any (·.1) = false := by rfl) :
    PE X (.Call (.Name x p) (e :: es) [] pos) (tCall sp [] E0 t) := by
  obtain ⟨f, fd, F, g, kp, b⟩ := C
  exact pe_call F hr hg g kp b .nil pass0 ha hdb he hpl
end
section
variable {X : Cx}
theorem pe_globI {x : Str} {n : Int} {pos : Pos} (hg : Gl X x) (hm : ∃ t, X.mg x = some (.int n t)) (hd : (x == ("__debug__" : Str)) = false := by decide) : PE X (.Name x pos) (tC (.int n)) := by
  obtain ⟨t, h⟩ := hm
  exact pe_glob hg h ⟨t, rfl⟩ hd
end
/-! ### nested data that stands in a part of the heap -/
mutual
inductive Da (H : Hp) : V → PyData → Prop
  | non : Da H .non .none
  | bl (b : Bool) : Da H (.bl b) (.bool b)
  | int (i : Int) : Da H (.int i) (.int i)
  | str (x : Str) : Da H (.str x) (.str x)
  | lst {a : Addr} {xs : List V} {ds : List PyData} : H a = some (.lst xs) → DaAll H xs ds → Da H (.ref a) (.list ds)
  | tup {a : Addr} {xs : List V} {ds : List PyData} : H a = some (.tup xs) → DaAll H xs ds → Da H (.ref a) (.tuple ds)
inductive DaAll (H : Hp) : List V → List PyData → Prop
  | nil : DaAll H [] []
  | cons {v : V} {vs : List V} {d : PyData} {ds : List PyData} : Da H v d → DaAll H vs ds → DaAll H (v :: vs) (d :: ds)
end
mutual
theorem Da.mono {H H' : Hp} (g : Same H H') : ∀ (d : PyData) (v : V), Da H v d → Da H' v d
  | .none, _, h => by cases h; exact .non
  | .bool b, _, h => by cases h; exact .bl b
  | .int b, _, h => by cases h; exact .int b
  | .str b, _, h => by cases h; exact .str b
  | .list ds, _, h => by
    cases h with
    | lst a b => exact .lst (g _ _ a) (DaAll.mono g ds _ b)
  | .tuple ds, _, h => by
    cases h with
    | tup a b => exact .tup (g _ _ a) (DaAll.mono g ds _ b)
  | .dict _, _, h => by cases h
theorem DaAll.mono {H H' : Hp} (g : Same H H') : ∀ (ds : List PyData) (vs : List V), DaAll H vs ds → DaAll H' vs ds
  | [], _, h => by cases h; exact .nil
  | d :: ds, _, h => by
    cases h with
    | cons a b => exact .cons (Da.mono g d _ a) (DaAll.mono g ds _ b)
end
theorem Da.up {H H' : Hp} (g : Same H H') {v : V} {d : PyData} (h : Da H v d) : Da H' v d := Da.mono g d v h
theorem DaAll.up {H H' : Hp} (g : Same H H') {v : List V} {d : List PyData} (h : DaAll H v d) : DaAll H' v d := DaAll.mono g d v h
mutual
theorem Da.dp {K : PySem.W.Frag} {H : Hp} : ∀ (d : PyData) (v : V), Da H v d → Dp K H v d
  | .none, _, h => by cases h; exact .non
  | .bool b, _, h => by cases h; exact .bl b
  | .int b, _, h => by cases h; exact .int b
  | .str b, _, h => by cases h; exact .str b
  | .list ds, _, h => by
    cases h with
    | lst a b => exact .lst (.inl (.inl a)) (DaAll.dp ds _ b)
  | .tuple ds, _, h => by
    cases h with
    | tup a b => exact .tup (.inl (.inl a)) (DaAll.dp ds _ b)
  | .dict _, _, h => by cases h
theorem DaAll.dp {K : PySem.W.Frag} {H : Hp} : ∀ (ds : List PyData) (vs : List V), DaAll H vs ds → DpAll K H vs ds
  | [], _, h => by cases h; exact .nil
  | d :: ds, _, h => by
    cases h with
    | cons a b => exact .cons (Da.dp d _ a) (DaAll.dp ds _ b)
end
theorem DaAll.length {H : Hp} : ∀ {ds : List PyData} {vs : List V}, DaAll H vs ds → vs.length = ds.length
  | [], _, h => by cases h; rfl
  | d :: ds, _, h => by
    cases h with
    | cons a b => rw [List.length_cons, List.length_cons, DaAll.length b]
theorem DaAll.get {H : Hp} : ∀ {ds : List PyData} {vs : List V} {i : Nat} {v : V}, DaAll H vs ds → vs[i]? = some v → ∃ d, ds[i]? = some d ∧ Da H v d
  | [], _, i, v, h, e => by cases h; simp at e
  | d :: ds, _, 0, v, h, e => by
    cases h with
    | cons a b =>
      have e' := Option.some.inj e
      subst e'
      exact ⟨d, rfl, a⟩
  | d :: ds, _, i + 1, v, h, e => by
    cases h with
    | cons a b => exact DaAll.get (i := i) b e
/-- isinstance of nested data -/
def tyD : PyData → String
  | .none => "NoneType"
  | .bool _ => "bool"
  | .int _ => "int"
  | .str _ => "str"
  | .list _ => "list"
  | .tuple _ => "tuple"
  | .dict _ => "dict"
theorem Da.ty {K : PySem.W.Frag} {G H : Hp} (g : Same G H) {v : V} {d : PyData} (h : Da G v d) : TyX K H v (.type (tyD d)) := by
  cases h with
  | non => exact .base .non
  | bl b => exact .base (.bl b)
  | int b => exact .base (.int b)
  | str b => exact .base (.str b)
  | lst a b => exact .base (.lst (g _ _ a))
  | tup a b => exact .base (.tup (g _ _ a))
def isI : PyData → Bool
  | .int _ => true
  | _ => false
/-- isinstance(x, T) for T of int, bool, tuple, list, str: the answer -/
def instB (d : PyData) (T : String) : Bool := tyD d == T || (T == "int" && tyD d == "bool")
theorem kit_da {K : PySem.W.Frag} {H : Hp} {v : V} {d : PyData} (h : Da H v d) {T : String} (hT : T = "int" ∨ T = "bool" ∨ T = "tuple" ∨ T = "list" ∨ T = "str") : PySem.W.kitOne K (.type (tyD d)) (.type T) = some (instB d T) := by
  refine kit_ty ?_
  have e : tyD d = "NoneType" ∨ tyD d = "bool" ∨ tyD d = "int" ∨ tyD d = "str" ∨ tyD d = "list" ∨ tyD d = "tuple" := by
    cases h with
    | non => exact .inl rfl
    | bl b => exact .inr (.inl rfl)
    | int b => exact .inr (.inr (.inl rfl))
    | str b => exact .inr (.inr (.inr (.inl rfl)))
    | lst a b => exact .inr (.inr (.inr (.inr (.inl rfl))))
    | tup a b => exact .inr (.inr (.inr (.inr (.inr rfl))))
  unfold instB
  rcases hT with rfl | rfl | rfl | rfl | rfl <;> rcases e with e | e | e | e | e | e <;> rw [e] <;> decide +kernel
theorem rIsi_da {K : PySem.W.Frag} {G H : Hp} {Q : VK} (g : Same G H) {v : V} {d : PyData} (h : Da G v d) {T : String} (hT : T = "int" ∨ T = "bool" ∨ T = "tuple" ∨ T = "list" ∨ T = "str") (q : Q (.bl (instB d T)) H) : rIsi K [v, .ty T] H Q :=
  ⟨v, .ty T, _, _, instB d T, rfl, ClsV.ty T, h.ty g, kit_da h hT, q⟩
end Hd

namespace Hd
open PySem PySem.Spec PyProof.Rows L2
/-! ### heaps: what changed -/
/-- a new object o at p -/
structure New (H : Hp) (p : Addr) (o : HO) (H' : Hp) : Prop where
  fr : H p = none
  eq : H' = upd H p o
theorem New.at {H H' : Hp} {p : Addr} {o : HO} (n : New H p o H') : H' p = some o := by rw [n.eq]; exact upd_same
theorem New.same {H H' : Hp} {p : Addr} {o : HO} (n : New H p o H') : Same H H' := fun b u e => by
  rw [n.eq, upd_ne (ne_of_none e n.fr)]
  exact e
theorem New.ne {H H' : Hp} {p a : Addr} {o : HO} (n : New H p o H') (h : H a ≠ none) : a ≠ p := fun e => h (by rw [e]; exact n.fr)
/-- a tuple: it never changes, so it may be known at any time -/
def isT : HO → Bool
  | .tup _ => true
  | _ => false
/-- G is the part of the heap H that no longer changes; from (G, H) to (G', H'): all of G kept, only new objects known, all objects of H but that at S kept -/
structure Stp (S : Addr) (G H G' H' : Hp) : Prop where
  gg : Same G G'
  gh : Same G' H'
  nw : ∀ b o, H b = some o → isT o = false → G b = none → G' b = none
  hh : ∀ b o, b ≠ S → H b = some o → H' b = some o
  al : ∀ b o, H b = some o → ∃ o', H' b = some o' ∧ (isT o = false → isT o' = false)
structure Stq (G H G' H' : Hp) : Prop where
  gg : Same G G'
  gh : Same G' H'
  nw : ∀ b o, H b = some o → isT o = false → G b = none → G' b = none
  hh : Same H H'
theorem ne_none {H : Hp} {b : Addr} {o : HO} (h : H b = some o) : H b ≠ none := by rw [h]; intro z; cases z
theorem Stq.al {G H G' H' : Hp} (s : Stq G H G' H') : ∀ b o, H b = some o → ∃ o', H' b = some o' ∧ (isT o = false → isT o' = false) := fun b o h => ⟨o, s.hh _ _ h, id⟩
theorem Stp.refl {S : Addr} {G H : Hp} (g : Same G H) : Stp S G H G H := ⟨Same.refl _, g, fun _ _ _ _ h => h, fun _ _ _ h => h, fun _ o h => ⟨o, h, id⟩⟩
theorem Stq.refl {G H : Hp} (g : Same G H) : Stq G H G H := ⟨Same.refl _, g, fun _ _ _ _ h => h, Same.refl _⟩
theorem Stp.trans {S : Addr} {G H G1 H1 G2 H2 : Hp} (a : Stp S G H G1 H1) (b : Stp S G1 H1 G2 H2) : Stp S G H G2 H2 :=
  ⟨a.gg.trans b.gg, b.gh, fun c o h t g => by
    obtain ⟨o1, h1, k⟩ := a.al c o h
    exact b.nw c o1 h1 (k t) (a.nw c o h t g), fun c o n h => b.hh c o n (a.hh c o n h), fun c o h => by
    obtain ⟨o1, h1, k⟩ := a.al c o h
    obtain ⟨o2, h2, k2⟩ := b.al c o1 h1
    exact ⟨o2, h2, fun t => k2 (k t)⟩⟩
theorem Stq.trans {G H G1 H1 G2 H2 : Hp} (a : Stq G H G1 H1) (b : Stq G1 H1 G2 H2) : Stq G H G2 H2 :=
  ⟨a.gg.trans b.gg, b.gh, fun c o h t g => b.nw c o (a.hh c o h) t (a.nw c o h t g), a.hh.trans b.hh⟩
theorem Stq.p {S : Addr} {G H G' H' : Hp} (s : Stq G H G' H') : Stp S G H G' H' := ⟨s.gg, s.gh, s.nw, fun b o _ h => s.hh b o h, s.al⟩
theorem Stp.q {S : Addr} {G H G1 H1 G2 H2 : Hp} (a : Stp S G H G1 H1) (b : Stq G1 H1 G2 H2) : Stp S G H G2 H2 := a.trans b.p
/-- a new object, known -/
theorem same_upd {G H : Hp} (g : Same G H) {p : Addr} {o : HO} (h : H p = none) : Same (upd G p o) (L2.upd H p o) := fun b u e => by
  by_cases hb : b = p
  · subst hb
    rw [upd_same] at e
    rw [upd_same]
    exact e
  · rw [upd_ne hb] at e
    rw [upd_ne hb]
    exact g _ _ e
theorem Stq.know {G H H' : Hp} {p : Addr} {o : HO} (g : Same G H) (n : New H p o H') : ∃ G', Stq G H G' H' ∧ G' p = some o ∧ ∀ b, b ≠ p → G' b = G b := by
  refine ⟨upd G p o, ⟨fun b u e => ?_, ?_, fun b o' h _ e => ?_, n.same⟩, upd_same, fun b h => upd_ne h⟩
  · rw [upd_ne (ne_of_none (g _ _ e) n.fr)]
    exact e
  · rw [n.eq]
    exact same_upd g n.fr
  · rw [upd_ne (n.ne (ne_none h))]
    exact e
/-- a new object, not (yet) known: it may change -/
theorem Stq.loc {G H H' : Hp} {p : Addr} {o : HO} (g : Same G H) (n : New H p o H') : Stq G H G H' ∧ G p = none ∧ H' p = some o :=
  ⟨⟨Same.refl _, g.trans n.same, fun _ _ _ _ h => h, n.same⟩, g.free n.fr, n.at⟩
/-- it has changed -/
theorem Stp.mut {S : Addr} {G0 H0 G H H' : Hp} (s : Stp S G0 H0 G H) {l : Addr} {o : HO} (g : G l = none) (f : H0 l = none) (e : H' = upd H l o) : Stp S G0 H0 G H' := by
  subst e
  refine ⟨s.gg, fun b u h => ?_, s.nw, fun b u n h => ?_, fun b u h => ?_⟩
  · rw [upd_ne (ne_of_none h g)]
    exact s.gh _ _ h
  · rw [upd_ne (ne_of_none h f)]
    exact s.hh b u n h
  · rw [upd_ne (ne_of_none h f)]
    exact s.al b u h
theorem Stq.mut {G0 H0 G H H' : Hp} (s : Stq G0 H0 G H) {l : Addr} {o : HO} (g : G l = none) (f : H0 l = none) (e : H' = upd H l o) : Stq G0 H0 G H' := by
  subst e
  refine ⟨s.gg, fun b u h => ?_, s.nw, fun b u h => ?_⟩
  · rw [upd_ne (ne_of_none h g)]
    exact s.gh _ _ h
  · rw [upd_ne (ne_of_none h f)]
    exact s.hh b u h
/-- it is known from now on -/
theorem Stp.frz {S : Addr} {G0 H0 G H : Hp} (s : Stp S G0 H0 G H) {l : Addr} {o : HO} (g : G l = none) (f : H0 l = none) (h : H l = some o) : ∃ G', Stp S G0 H0 G' H ∧ Same G G' ∧ G' l = some o ∧ ∀ b, b ≠ l → G' b = G b := by
  have gn : Same G (upd G l o) := fun b u e => by
    rw [upd_ne (ne_of_none e g)]
    exact e
  refine ⟨upd G l o, ⟨s.gg.trans gn, fun b u e => ?_, fun b u hb t e => ?_, s.hh, s.al⟩, gn, upd_same, fun b h => upd_ne h⟩
  · by_cases q : b = l
    · subst q
      rw [upd_same] at e
      rw [h]
      exact e
    · rw [upd_ne q] at e
      exact s.gh _ _ e
  · rw [upd_ne (ne_of_none hb f)]
    exact s.nw b u hb t e
theorem Stq.frz {G0 H0 G H : Hp} (s : Stq G0 H0 G H) {l : Addr} {o : HO} (g : G l = none) (f : H0 l = none) (h : H l = some o) : ∃ G', Stq G0 H0 G' H ∧ Same G G' ∧ G' l = some o ∧ ∀ b, b ≠ l → G' b = G b := by
  have gn : Same G (upd G l o) := fun b u e => by
    rw [upd_ne (ne_of_none e g)]
    exact e
  refine ⟨upd G l o, ⟨s.gg.trans gn, fun b u e => ?_, fun b u hb t e => ?_, s.hh⟩, gn, upd_same, fun b h => upd_ne h⟩
  · by_cases q : b = l
    · subst q
      rw [upd_same] at e
      rw [h]
      exact e
    · rw [upd_ne q] at e
      exact s.gh _ _ e
  · rw [upd_ne (ne_of_none hb f)]
    exact s.nw b u hb t e
/-! ### readings in a form of our own -/
section
variable {X : Cx} {e : Expr} {t t' : TE}
theorem PE.mono (h : PE X e t) (m : ∀ σ H Q, t' σ H Q → t σ H Q) : PE X e t' := ⟨fun pins s σ H Q I q => h.run pins s σ H Q I (m σ H Q q)⟩
theorem PT.mono {t t' : TT} (h : PT X e t) (m : ∀ σ H Q, t' σ H Q → t σ H Q) : PT X e t' := ⟨fun pins s σ H Q I q => h.run pins s σ H Q I (m σ H Q q)⟩
theorem callR_mono {f : Value} {r r' : List V → Hp → VK → Prop} (h : CallR X f r) (m : ∀ xs H Q, r' xs H Q → r xs H Q) : CallR X f r' := fun pins s σ H xs us Q I rv q => h pins s σ H xs us Q I rv (m _ _ _ q)
theorem opR_mono {f : Value → Value → Sem Value} {r r' : R2} (h : OpR X f r) (m : ∀ x y H Q, r' x y H Q → r x y H Q) : OpR X f r' := fun pins s σ H x y v u Q I rx ry q => h pins s σ H x y v u Q I rx ry (m _ _ _ _ q)
theorem mtR_mono {id : String} {r r' : V → List V → Hp → VK → Prop} (h : MtR X id r) (m : ∀ x xs H Q, r' x xs H Q → r x xs H Q) : MtR X id r' := fun pins s σ H x xs v us Q I rx rxs q => h pins s σ H x xs v us Q I rx rxs (m _ _ _ _ q)
theorem slR_mono {r r' : V → Option Int → Option Int → Hp → VK → Prop} (h : SlR X r) (m : ∀ x a b H Q, r' x a b H Q → r x a b H Q) : SlR X r' := fun pins s σ H x v vl vu lo hi sl Q I rx hs pl pu q => h pins s σ H x v vl vu lo hi sl Q I rx hs pl pu (m _ _ _ _ _ q)
end
section
variable {X : Cx}
def rLstN (t : TA) : TE := fun σ H Q => t σ H fun xs H1 => xs.length ≤ sizeLine ∧ ∀ p H2, New H1 p (.lst xs) H2 → Q (.ref p) H2
def rTupN (t : TA) : TE := fun σ H Q => t σ H fun xs H1 => xs.length ≤ sizeLine ∧ ∀ p H2, New H1 p (.tup xs) H2 → Q (.ref p) H2
theorem newAll {H : Hp} {o : HO} {K : Addr → Hp → Prop} : (∀ p H2, New H p o H2 → K p H2) ↔ ∀ p, H p = none → K p (upd H p o) :=
  ⟨fun h p e => h p _ ⟨e, rfl⟩, fun h p H2 n => by rw [n.eq]; exact h p n.fr⟩
theorem rLstN_eq (t : TA) : rLstN t = tLst t := funext fun σ => funext fun H => funext fun Q =>
  congrArg (t σ H) (funext fun xs => funext fun H1 => propext (and_congr_right fun _ => newAll (K := fun p H2 => Q (.ref p) H2)))
theorem rTupN_eq (t : TA) : rTupN t = tTup t := funext fun σ => funext fun H => funext fun Q =>
  congrArg (t σ H) (funext fun xs => funext fun H1 => propext (and_congr_right fun _ => newAll (K := fun p H2 => Q (.ref p) H2)))
theorem pe_lstN {es : List Expr} {t : TA} {pos : Pos} (h : PA X es t) : PE X (.List es pos) (rLstN t) := by
  rw [rLstN_eq]
  exact pe_lst h
theorem pe_tupN {es : List Expr} {t : TA} {x1 : Nat} {pos : Pos} (h : PA X es t) : PE X (.Tuple es x1 pos) (rTupN t) := by
  rw [rTupN_eq]
  exact pe_tup h
/-- list(xs), of a list or tuple -/
def rListN (K : PySem.W.Frag) : List V → Hp → VK → Prop := fun xs H Q => ∃ p ys, xs = [.ref p] ∧ (SqL K H p ys ∨ SqT K H p ys) ∧ ∀ l H2, New H l (.lst ys) H2 → Q (.ref l) H2
theorem call_listN : CallR X (.type "list") (rListN X.K) := callR_mono call_list_of fun xs H Q h => by
  obtain ⟨p, ys, e, h, q⟩ := h
  exact ⟨p, ys, e, h, fun l hl => q l _ ⟨hl, rfl⟩⟩
/-- tuple(xs), of a list -/
def rTupleN (K : PySem.W.Frag) : List V → Hp → VK → Prop := fun xs H Q => ∃ p ys, xs = [.ref p] ∧ SqL K H p ys ∧ ∀ l H2, New H l (.tup ys) H2 → Q (.ref l) H2
theorem call_tupleN : CallR X (.type "tuple") (rTupleN X.K) := callR_mono call_tuple_of fun xs H Q h => by
  obtain ⟨p, ys, e, h, q⟩ := h
  exact ⟨p, ys, e, .inl ⟨h, fun l hl => q l _ ⟨hl, rfl⟩⟩⟩
/-- list(range(..)) -/
def tLstRgN (te : L2.St → Hp → (Int → Int → Hp → Prop) → Prop) : TE := fun σ H Q => te σ H fun a b H1 => RgOk a b ∧ ∀ q H2, New H1 q (.lst (rgV a b)) H2 → Q (.ref q) H2
def tTupRgN (te : L2.St → Hp → (Int → Int → Hp → Prop) → Prop) : TE := fun σ H Q => te σ H fun a b H1 => RgOk a b ∧ ∀ q H2, New H1 q (.tup (rgV a b)) H2 → Q (.ref q) H2
/-- xs[a:b] of a list -/
def rSlLN (K : PySem.W.Frag) : V → Option Int → Option Int → Hp → VK → Prop := fun x lo hi H Q => ∃ a xs, x = .ref a ∧ SqL K H a xs ∧ ∀ p H2, New H p (.lst (cutV xs lo hi)) H2 → Q (.ref p) H2
theorem sl_listN : SlR X (rSlLN X.K) := slR_mono sl_list fun x lo hi H Q h => by
  obtain ⟨a, xs, e, h, q⟩ := h
  exact ⟨a, xs, e, h, fun p hp => q p _ ⟨hp, rfl⟩⟩
/-- methods that change a list -/
def rAppendN : V → List V → Hp → VK → Prop := fun x vs H Q => ∃ l xs y, x = .ref l ∧ vs = [y] ∧ H l = some (.lst xs) ∧ xs.length < sizeLine ∧ ∀ H2, H2 = upd H l (.lst (xs ++ [y])) → Q .non H2
theorem mt_appendN : MtR X "list.append" rAppendN := mtR_mono mt_append fun x xs H Q h => by
  obtain ⟨l, zs, y, e1, e2, h, z, q⟩ := h
  exact ⟨l, zs, y, e1, e2, h, z, q _ rfl⟩
def rPopN : V → List V → Hp → VK → Prop := fun x vs H Q => ∃ l xs y, x = .ref l ∧ vs = [] ∧ H l = some (.lst xs) ∧ xs[xs.length - 1]? = some y ∧ ∀ H2, H2 = upd H l (.lst xs.dropLast) → Q y H2
theorem mt_popN : MtR X "list.pop" rPopN := mtR_mono mt_pop fun x xs H Q h => by
  obtain ⟨l, zs, y, e1, e2, h, z, q⟩ := h
  exact ⟨l, zs, y, e1, e2, h, z, q _ rfl⟩
/-- xs.pop(i), 0 ≤ i < len(xs) -/
def rPopAtN : V → List V → Hp → VK → Prop := fun x vs H Q => ∃ l xs i k y, x = .ref l ∧ vs = [.int i] ∧ H l = some (.lst xs) ∧ i = ((k : Nat) : Int) ∧ k < 2 ^ 63 ∧ xs[k]? = some y ∧ ∀ H2, H2 = upd H l (.lst (xs.eraseIdx k)) → Q y H2
theorem seqIndex_nat {n k : Nat} (h : k < n) : seqIndex? (k : Int) n = some k := by
  have := ixN_seq (n := n) (i := (k : Int)) (j := k) (by
    unfold ixN
    rw [if_pos (by omega), if_pos (by omega)]
    rfl)
  exact this.1
theorem mt_popAtN : MtR X "list.pop" rPopAtN := mtR_mono mt_popAt fun x xs H Q h => by
  obtain ⟨l, zs, i, k, y, e1, e2, h, rfl, b, z, q⟩ := h
  exact ⟨l, zs, _, k, y, e1, e2, h, by omega, by omega, seqIndex_nat (List.getElem?_eq_some_iff.mp z).1, z, q _ rfl⟩
def rInsertN : V → List V → Hp → VK → Prop := fun x vs H Q => ∃ (l : Addr) (xs : List V) (i : Int) (y : V), x = .ref l ∧ vs = [.int i, y] ∧ H l = some (.lst xs) ∧ xs.length < sizeLine ∧ 0 ≤ i ∧ i < 2 ^ 63 ∧
    ∀ H2, H2 = upd H l (.lst (xs.take i.toNat ++ [y] ++ xs.drop i.toNat)) → Q .non H2
theorem mt_insertN : MtR X "list.insert" rInsertN := mtR_mono mt_insert fun x xs H Q h => by
  obtain ⟨l, zs, i, y, e1, e2, h, z, a, b, q⟩ := h
  exact ⟨l, zs, i, y, e1, e2, h, z, a, b, q _ rfl⟩
def rSetN : V → V → V → Hp → (Hp → Prop) → Prop := fun o i v H Q => ∃ p xs k, o = .ref p ∧ i = .int ((k : Nat) : Int) ∧ H p = some (.lst xs) ∧ k < xs.length ∧ ∀ H2, H2 = upd H p (.lst (xs.set k v)) → Q H2
theorem ixN_of {n k : Nat} (h : k < n) : ixN n (k : Int) = some k := by
  unfold ixN
  rw [if_pos (by omega), if_pos (by omega)]
  rfl
theorem set_listN : PSet X rSetN := fun pins s σ H o i v uo ui uv Q I ro ri rv h => by
  obtain ⟨p, xs, k, e1, e2, h, z, q⟩ := h
  exact set_list pins s σ H o i v uo ui uv Q I ro ri rv ⟨p, xs, _, k, e1, e2, h, ixN_of z, q _ rfl⟩
/-- xs + ys of two lists -/
def rCatN : R2 := fun x y H Q => ∃ l b xs zs, x = .ref l ∧ y = .ref b ∧ H l = some (.lst xs) ∧ H b = some (.lst zs) ∧ xs.length + zs.length ≤ sizeLine ∧ ∀ p H2, New H p (.lst (xs ++ zs)) H2 → Q (.ref p) H2
theorem op_catN : OpR X (binaryOp .Add) rCatN := opR_mono op_cat fun x y H Q h => by
  obtain ⟨l, b, xs, zs, e1, e2, h1, h2, z, q⟩ := h
  exact ⟨l, b, xs, zs, e1, e2, h1, h2, z, fun p hp => q p _ ⟨hp, rfl⟩⟩
/-- isinstance(x, T) of nested data -/
def okT (T : String) : Prop := T = "int" ∨ T = "bool" ∨ T = "tuple" ∨ T = "list" ∨ T = "str"
theorem ok_int : okT "int" := .inl rfl
theorem ok_bool : okT "bool" := .inr (.inl rfl)
theorem ok_tuple : okT "tuple" := .inr (.inr (.inl rfl))
theorem ok_list : okT "list" := .inr (.inr (.inr (.inl rfl)))
theorem ok_str : okT "str" := .inr (.inr (.inr (.inr rfl)))
def rIsD : List V → Hp → VK → Prop := fun xs H Q => ∃ v d T, xs = [v, .ty T] ∧ Da H v d ∧ okT T ∧ Q (.bl (instB d T)) H
theorem call_isD : CallR X (.builtin "isinstance") rIsD := callR_mono call_isi fun xs H Q h => by
  obtain ⟨v, d, T, rfl, hd, hT, q⟩ := h
  exact rIsi_da (Same.refl H) hd hT q
section
variable {e : Expr} {te : L2.St → Hp → (Int → Int → Hp → Prop) → Prop}
theorem lstRg_eq (te : L2.St → Hp → (Int → Int → Hp → Prop) → Prop) : tLstRgN te = tLstRg te := funext fun σ => funext fun H => funext fun Q =>
  congrArg (te σ H) (funext fun a => funext fun b => funext fun H1 => propext (and_congr_right fun _ => newAll (K := fun p H2 => Q (.ref p) H2)))
theorem tupRg_eq (te : L2.St → Hp → (Int → Int → Hp → Prop) → Prop) : tTupRgN te = tTupRg te := funext fun σ => funext fun H => funext fun Q =>
  congrArg (te σ H) (funext fun a => funext fun b => funext fun H1 => propext (and_congr_right fun _ => newAll (K := fun p H2 => Q (.ref p) H2)))
theorem pe_listRgN {p pos : Pos} (hc : X.calm = true) (hg : Gl X "list") (hm : X.mg "list" = none) (he : PRg X e te) (na : starEach [e] X.env = (false, eval e X.env) :: starEach [] X.env := by rfl) :
    PE X (.Call (.Name "list" p) [e] [] pos) (tLstRgN te) := by
  rw [lstRg_eq]
  exact pe_listRg hc hg hm he na
theorem pe_tupRgN {p pos : Pos} (hc : X.calm = true) (hg : Gl X "tuple") (hm : X.mg "tuple" = none) (he : PRg X e te) (na : starEach [e] X.env = (false, eval e X.env) :: starEach [] X.env := by rfl) :
    PE X (.Call (.Name "tuple" p) [e] [] pos) (tTupRgN te) := by
  rw [tupRg_eq]
  exact pe_tupRg hc hg hm he na
end
/-- is, is not: nested data against True, False -/
def rIsBD : R2 := fun x y H Q => ∃ d b, Da H x d ∧ y = .bl b ∧ Q (.bl (decide (x = .bl b))) H
theorem plain_bl {H : Hp} {x : V} {d : PyData} {v : Value} {b : Bool} (h : Da H x d) (r : RelV x v) : plainIs v (.bool b) = true := by
  cases h with
  | non => cases r; rfl
  | bl c => cases r; rfl
  | int i => obtain ⟨t, rfl⟩ := r; rfl
  | str i => obtain ⟨t, rfl⟩ := r; rfl
  | lst a c => cases r; rfl
  | tup a c => cases r; rfl
theorem rel_bl {H : Hp} {x : V} {d : PyData} {v : Value} {b : Bool} (h : Da H x d) (r : RelV x v) : v = .bool b ↔ x = .bl b := by
  cases h with
  | non => cases r; exact ⟨(fun z => nomatch z), (fun z => nomatch z)⟩
  | bl c => cases r; exact ⟨fun z => by cases z; rfl, fun z => by cases z; rfl⟩
  | int i => obtain ⟨t, rfl⟩ := r; exact ⟨(fun z => nomatch z), (fun z => nomatch z)⟩
  | str i => obtain ⟨t, rfl⟩ := r; exact ⟨(fun z => nomatch z), (fun z => nomatch z)⟩
  | lst a c => cases r; exact ⟨(fun z => nomatch z), (fun z => nomatch z)⟩
  | tup a c => cases r; exact ⟨(fun z => nomatch z), (fun z => nomatch z)⟩
theorem op_isBD : OpR X (compareOp .Is) rIsBD := by
  intro pins s σ H x y v u Q I rx ry h
  obtain ⟨d, b, hd, rfl, q⟩ := h
  cases (show u = Value.bool b from ry)
  have q' : Q (.bl (decide (x = .bl b))) H := q
  by_cases e : x = .bl b
  · have ev := (rel_bl hd rx).mpr e
    subst ev
    rw [decide_eq_true e] at q'
    exact wpAny_is_self (by rfl) ⟨.bl true, H, I, rfl, q'⟩
  · rw [decide_eq_false e] at q'
    exact wpAny_is_other (plain_bl hd rx) (fun z => e ((rel_bl hd rx).mp z)) ⟨.bl false, H, I, rfl, q'⟩
/-! ### sorted of a tuple of ints -/
section
variable {prog : Program} {w : World} {A : Around} {E : Value → Shared → Prop} {s : Shared}
/-- what is collected of a tuple: a new list, its items -/
theorem collect_tup {t : Addr} {us : List Value} {R : List Value → Shared → Prop} (ht : IsTup s.heap t us.toArray) (small : us.length ≤ sizeLine)
    (done : R us { s with heap := (s.heap.push (seqObj "list" #[] 0)).update s.heap.objs.size (Obj.mapSeq (· ++ us.toArray)) }) : wpAny (model prog w) A (collect (.ref t)) R E s := by
  obtain ⟨ob, at0, cls0, ep, dat⟩ := id ht
  have at1 : (s.heap.push (seqObj "list" #[] 0)).get? t = some ob := Heap.get?_push_of_some _ at0
  have mine : (s.heap.push (seqObj "list" #[] 0)).get? s.heap.objs.size = some (seqObj "list" #[] 0) := Heap.get?_push_size _ rfl
  unfold collect
  refine wpAny_bind (wpAny_runValue (codeAny_builtin entry_proto_collect' ?a))
  show wpAny _ _ (do again (.builtin "list.__iadd__" ⟨[← newList [], .ref t], []⟩)) _ _ s
  refine wpAny_bind (wpAny_newList (wpAny_pure ⟨Code.quiet_builtin _ (by decide +kernel), codeAny_builtin entry_list_iadd' ?b⟩))
  show wpAny _ _ (Builtin.List.listExtendWith (.ref s.heap.objs.size) (.ref t) (.ref s.heap.objs.size)) _ _ { s with heap := _ }
  unfold Builtin.List.listExtendWith
  refine wpAny_bind (wpAny_typeOf (T := "tuple") ⟨ob, at1, cls0⟩ ?c)
  rw [if_pos (by rw [(rfl : (Value.type "tuple" == Value.type "tuple") = true)]; simp)]
  refine wpAny_bind (listItems_at at1 dat (wpAny_bind (listItems_at (xs := #[]) (n := 0) mine rfl ?d)))
  rw [if_neg (by simp)]
  have room : ((#[] : Array Value) ++ us.toArray).size ≤ sizeLine + 1 := by
    rw [Array.size_append, List.size_toArray]
    exact Nat.le_succ_of_le (by simpa using small)
  refine wpAny_bind (listUpdate_at (xs := #[]) (n := 0) mine rfl (wpAny_pure ?e) (Nat.zero_le _) room)
  show wpAny (model prog w) A (do match (← load s.heap.objs.size).data with | .seq xs _ => pure xs.toList | _ => unsupported "internal:collect") R E { s with heap := _ }
  refine wpAny_bind (wpAny_load (get?_update_seq mine _) ?f)
  have same : ((#[] : Array Value) ++ us.toArray).toList = us := by simp
  show wpAny _ _ (pure ((#[] : Array Value) ++ us.toArray).toList) R E _
  rw [same]
  exact wpAny_pure done
open SrtO in
/-- sorted of a tuple: its items in a new list, in order -/
theorem sorted_tup {t : Addr} {us : List Value} {lt : Value → Value → Bool} {R : Value → Shared → Prop} (O : Swo lt) (ht : IsTup s.heap t us.toArray) (small : us.length ≤ sizeLine)
    (cmp : 2 ≤ us.length → ∀ (g : Heap) (b : Addr), g.get? b = some (seqObj "list" us.toArray 0) → (∀ c o, s.heap.get? c = some o → c ≠ b ∧ g.get? c = some o) → SortableO prog w A.in1.in1 { s with heap := g } b us lt)
    (done : ∀ os : List Value, Srtd lt os → Stb lt os us → R (.ref (s.heap.objs.size + 1)) { s with heap := sortedAll s.heap us os.toArray }) : wpAny (model prog w) A (call (.builtin "sorted") [.ref t]) R E s := by
  refine Calls.call_function_entry kind_sorted plain_sorted entry_sorted (args_sorted1 _) ?_
  unfold Builtin.«sorted»
  refine wpAny_bind (m := checkCount "sorted" 1 1 _) (wpAny_pure (wpAny_bind (collect_tup ht small (wpAny_bind (wpAny_newList ?_ small)))))
  have len1 : ((s.heap.push (seqObj "list" #[] 0)).update s.heap.objs.size (Obj.mapSeq (· ++ us.toArray))).objs.size = s.heap.objs.size + 1 := by rw [Heap.size_update, size_push']
  have here : (((s.heap.push (seqObj "list" #[] 0)).update s.heap.objs.size (Obj.mapSeq (· ++ us.toArray))).push (seqObj "list" us.toArray 0)).get? (s.heap.objs.size + 1) = some (seqObj "list" us.toArray 0) := len1 ▸ Heap.get?_push_size _ rfl
  have old : ∀ c o, s.heap.get? c = some o → c ≠ s.heap.objs.size + 1 ∧ (((s.heap.push (seqObj "list" #[] 0)).update s.heap.objs.size (Obj.mapSeq (· ++ us.toArray))).push (seqObj "list" us.toArray 0)).get? c = some o := by
    intro c o hc
    have below := Heap.lt_size hc
    have k : ((s.heap.push (seqObj "list" #[] 0)).update s.heap.objs.size (Obj.mapSeq (· ++ us.toArray))).get? c = some o :=
      (Heap.get?_update_ne _ _ _ _ (Nat.ne_of_lt below)).trans (Heap.get?_push_of_some _ hc)
    exact ⟨Nat.ne_of_lt (Nat.lt_succ_of_lt below), Heap.get?_push_of_some _ k⟩
  show wpAny _ _ _ _ _ { s with heap := ((s.heap.push (seqObj "list" #[] 0)).update s.heap.objs.size (Obj.mapSeq (· ++ us.toArray))).push (seqObj "list" us.toArray 0) }
  rw [len1]
  refine wpAny_bind (wpAny_holding (wpAny_call_entry slot_list_sort ⟨_, here, rfl⟩ entry_list_sort ?_ (args_list_sort _)))
  exact list_sort_ord O here small (fun two => cmp two _ _ here old) fun os h1 h2 => ⟨_, rfl, wpAny_pure ⟨_, rfl, done os h1 h2⟩⟩
end
/-- sorted(t), t a tuple of ints -/
def rSortT (K : PySem.W.Frag) : List V → Hp → VK → Prop := fun vs H Q => ∃ (a : Addr) (ns : List Int), vs = [V.ref a] ∧ SqT K H a (ns.map V.int) ∧
  ∀ (ns' : List Int) (p : Addr) (H2 : Hp), ns'.Perm ns → ns'.Pairwise (· ≤ ·) → New H p (.lst (ns'.map V.int)) H2 → Q (.ref p) H2
theorem call_sortT : CallR X (.builtin "sorted") (rSortT X.K) := by
  intro pins s σ H vs us Q I r h
  obtain ⟨a, ns, rfl, hs, q⟩ := h
  obtain ⟨its, rv, hl, hz⟩ := I.tuple hs
  rw [Vals.ref1 r]
  have hi := rv.ints
  refine sorted_tup SrtO.swo_int hl (by rw [← rv.length]; exact hz) (fun h2 h₁ a' _ _ => SrtO.ints_sortable hi h2) fun out h1 h2 => ?_
  obtain ⟨k1, k2, k3⟩ := SrtO.ints_out hi h1 h2
  obtain ⟨ep, he'⟩ := PyProof.Rows.sortedAll_at s.heap its out.toArray
  have hlen : ((out.map SrtO.iv).map V.int).length ≤ sizeLine := by
    rw [List.length_map, k2.length_eq]
    rw [List.length_map] at hz
    exact hz
  exact ⟨.ref _, upd H (s.heap.objs.size + 1) (.lst ((out.map SrtO.iv).map V.int)), I.laid (t' := s.toks) (fun _ _ => PyProof.Rows.sortedAll_old) (Nat.le_succ _) ⟨hlen, out, ep, vals_of_ints k1, he'⟩, rfl, q _ _ _ k2 k3 ⟨I.hok.fresh (Nat.le_succ _), rfl⟩⟩
end
end Hd

namespace Hd
open PySem PySem.Spec PyProof.Rows L2
/-! ### the store of draws -/
structure Sr where
  a : Addr
  c : Addr
  ns : List Int
def StOk (S : Sr) (H : Hp) : Prop := ∃ i1 i2 i3 i4 i5 i6 : Int, H S.a = some (.lst [.ref S.c, .int i1, .int i2, .int i3, .int i4, .int i5, .int i6]) ∧ H S.c = some (.lst (S.ns.map V.int)) ∧ 0 ≤ i1
theorem StOk.ca {S : Sr} {H : Hp} (h : StOk S H) : S.c ≠ S.a := by
  obtain ⟨i1, i2, i3, i4, i5, i6, h1, h2, _⟩ := h
  intro e
  rw [e, h1] at h2
  have := HO.lst.inj (Option.some.inj h2)
  cases hn : S.ns with
  | nil => rw [hn] at this; cases this
  | cons x r => rw [hn] at this; cases this
structure Wd (S : Sr) (G H : Hp) : Prop where
  gh : Same G H
  gs : G S.a = none
  st : StOk S H
structure Go (S : Sr) (G H G' H' : Hp) : Prop where
  s : Stp S.a G H G' H'
  w0 : Wd S G H
  st : StOk S H'
section
variable {S : Sr} {G H G1 H1 G2 H2 : Hp}
theorem StOk.na (h : StOk S H) : H S.a ≠ none := by
  obtain ⟨i1, i2, i3, i4, i5, i6, h1, h2, _⟩ := h
  exact ne_none h1
theorem StOk.nc (h : StOk S H) : H S.c ≠ none := by
  obtain ⟨i1, i2, i3, i4, i5, i6, h1, h2, _⟩ := h
  exact ne_none h2
theorem StOk.up (h : StOk S H) (g : Same H H1) : StOk S H1 := by
  obtain ⟨i1, i2, i3, i4, i5, i6, h1, h2, z⟩ := h
  exact ⟨i1, i2, i3, i4, i5, i6, g _ _ h1, g _ _ h2, z⟩
theorem Go.wd (s : Go S G H G1 H1) : Wd S G1 H1 := ⟨s.s.gh, by
  obtain ⟨i1, i2, i3, i4, i5, i6, h1, h2, _⟩ := s.w0.st
  exact s.s.nw _ _ h1 rfl s.w0.gs, s.st⟩
theorem Go.refl (w : Wd S G H) : Go S G H G H := ⟨.refl w.gh, w, w.st⟩
theorem Go.trans (a : Go S G H G1 H1) (b : Go S G1 H1 G2 H2) : Go S G H G2 H2 := ⟨a.s.trans b.s, a.w0, b.st⟩
theorem Go.q (a : Go S G H G1 H1) (b : Stq G1 H1 G2 H2) : Go S G H G2 H2 := ⟨a.s.q b, a.w0, a.st.up b.hh⟩
theorem Go.gg (a : Go S G H G1 H1) : Same G G1 := a.s.gg
theorem Go.gh (a : Go S G H G1 H1) : Same G1 H1 := a.s.gh
theorem Go.hh (a : Go S G H G1 H1) {b : Addr} {o : HO} (h : H b = some o) (n : b ≠ S.a) : H1 b = some o := a.s.hh b o n h
theorem Go.nw (a : Go S G H G1 H1) {b : Addr} {o : HO} (h : H b = some o) (g : G b = none) (t : isT o = false := by rfl) : G1 b = none := a.s.nw b o h t g
theorem Go.know {p : Addr} {o : HO} (a : Go S G H G1 H1) (n : New H1 p o H2) : ∃ G2, Go S G H G2 H2 ∧ Same G1 G2 ∧ G2 p = some o ∧ ∀ b, b ≠ p → G2 b = G1 b := by
  obtain ⟨G2, s, e, k⟩ := Stq.know a.gh n
  exact ⟨G2, a.q s, s.gg, e, k⟩
theorem Go.fresh {p : Addr} (a : Go S G H G1 H1) (n : H1 p = none) : H p = none := by
  cases e : H p with
  | none => rfl
  | some o =>
    obtain ⟨o', h, _⟩ := a.s.al p o e
    rw [n] at h
    cases h
theorem Go.loc {p : Addr} {o : HO} (a : Go S G H G1 H1) (n : New H1 p o H2) : Go S G H G1 H2 ∧ G1 p = none ∧ H2 p = some o ∧ H p = none := by
  obtain ⟨s, g, e⟩ := Stq.loc a.gh n
  exact ⟨a.q s, g, e, a.fresh n.fr⟩
theorem Go.mut {l : Addr} {o : HO} (a : Go S G H G1 H1) (g : G1 l = none) (f : H l = none) (e : H2 = upd H1 l o) : Go S G H G1 H2 := by
  refine ⟨a.s.mut g f e, a.w0, ?_⟩
  have n1 : S.a ≠ l := fun q => a.w0.st.na (by rw [q]; exact f)
  have n2 : S.c ≠ l := fun q => a.w0.st.nc (by rw [q]; exact f)
  subst e
  obtain ⟨i1, i2, i3, i4, i5, i6, h1, h2, z⟩ := a.st
  exact ⟨i1, i2, i3, i4, i5, i6, by rw [upd_ne n1]; exact h1, by rw [upd_ne n2]; exact h2, z⟩
theorem Go.put {i1 i2 i3 i4 i5 i6 : Int} (a : Go S G H G1 H1) (e : H2 = upd H1 S.a (.lst [.ref S.c, .int i1, .int i2, .int i3, .int i4, .int i5, .int i6])) (z : 0 ≤ i1) : Go S G H G1 H2 := by
  have gs := a.wd.gs
  subst e
  refine ⟨⟨a.s.gg, fun b u h => ?_, a.s.nw, fun b u n h => ?_, fun b u h => ?_⟩, a.w0, ?_⟩
  · rw [upd_ne (ne_of_none h gs)]
    exact a.s.gh _ _ h
  · rw [upd_ne n]
    exact a.s.hh b u n h
  · by_cases q : b = S.a
    · rw [q, upd_same]
      exact ⟨_, rfl, fun _ => rfl⟩
    · rw [upd_ne q]
      exact a.s.al b u h
  · obtain ⟨j1, j2, j3, j4, j5, j6, h1, h2, _⟩ := a.st
    exact ⟨i1, i2, i3, i4, i5, i6, upd_same, by rw [upd_ne a.st.ca]; exact h2, z⟩
theorem Go.frz {l : Addr} {o : HO} (a : Go S G H G1 H1) (g : G1 l = none) (f : H l = none) (h : H1 l = some o) : ∃ G2, Go S G H G2 H1 ∧ Same G1 G2 ∧ G2 l = some o ∧ ∀ b, b ≠ l → G2 b = G1 b := by
  obtain ⟨G2, s, e, k, u⟩ := a.s.frz (l := l) g f h
  exact ⟨G2, ⟨s, a.w0, a.st⟩, e, k, u⟩
theorem Go.ns (a : Go S G H G1 H1) {l : Addr} (f : H l = none) : l ≠ S.a := fun q => a.w0.st.na (by rw [← q]; exact f)
theorem Wd.ne (w : Wd S G H) {b : Addr} {o : HO} (h : G b = some o) : b ≠ S.a := fun q => by
  rw [q, w.gs] at h
  cases h
end
theorem upd_at {H H2 : Hp} {l : Addr} {o : HO} (e : H2 = upd H l o) : H2 l = some o := by rw [e]; exact upd_same
theorem upd_else {H H2 : Hp} {l b : Addr} {o u : HO} (e : H2 = upd H l o) (h : H b = some u) (n : b ≠ l) : H2 b = some u := by rw [e, upd_ne n]; exact h
theorem New.else {H H2 : Hp} {p b : Addr} {o u : HO} (n : New H p o H2) (h : H b = some u) : H2 b = some u := n.same _ _ h
theorem dec_of {p : Prop} [Decidable p] (h : decide p = true) : p := of_decide_eq_true h
theorem dec_not {p : Prop} [Decidable p] (h : ¬ decide p = true) : ¬ p := fun q => h (decide_eq_true q)
/-! ### promises of the draws -/
def spMixed : Sp := fun vs H Q _ => ∃ a b : Int, vs = [.int a, .int b] ∧ ∀ r : Int, Q (.int r) H
def spTake : Sp := fun vs H Q _ => ∃ (S : Sr) (G : Hp) (n : Int), vs = [.ref S.a, .int n] ∧ Wd S G H ∧ n < 1073741824 ∧ ∀ (d : Int) (H' : Hp), 0 ≤ d → (d < n ∨ (n < 1 ∧ d = 0)) → Go S G H G H' → Q (.int d) H'
/-- a sequence of known items -/
def SeqV (H : Hp) (S : Sr) (v : V) (xs : List V) : Prop :=
  (∃ a, v = .ref a ∧ a ≠ S.a ∧ H a = some (.lst xs)) ∨ (∃ a, v = .ref a ∧ a ≠ S.a ∧ H a = some (.tup xs)) ∨ ∃ z : Str, v = .str z ∧ z.length ≤ 1000000 ∧ xs = z.cps.toList.map fun c => V.str ⟨#[c]⟩
def spPick : Sp := fun vs H Q _ => ∃ (S : Sr) (G : Hp) (v : V) (xs : List V), vs = [.ref S.a, v] ∧ Wd S G H ∧ SeqV H S v xs ∧ 0 < xs.length ∧ xs.length < 1000000 ∧ ∀ (x : V) (H' : Hp), x ∈ xs → Go S G H G H' → Q x H'
def spPlace : Sp := fun vs H Q _ => ∃ (S : Sr) (G : Hp) (n : Int), vs = [.ref S.a, .int n] ∧ Wd S G H ∧ 1 ≤ n ∧ n < 1073741824 ∧ ∀ (d : Int) (H' : Hp), 0 ≤ d → d < n → Go S G H G H' → Q (.int d) H'
end Hd

namespace Hd
open PySem PySem.Spec PyProof.Rows L2
theorem at_int {xs : List V} {d : Int} (h0 : 0 ≤ d) (h1 : d < (xs.length : Nat)) : ∃ x, xs[d.toNat]? = some x ∧ atI xs d = some x ∧ x ∈ xs := by
  have k : d.toNat < xs.length := by omega
  have e : xs[d.toNat]? = some xs[d.toNat] := List.getElem?_eq_getElem k
  refine ⟨xs[d.toNat], e, ?_, List.getElem_mem k⟩
  have q := atI_nat e
  rwa [show ((d.toNat : Nat) : Int) = d by omega] at q
theorem at_str {z : Str} {d : Int} (h0 : 0 ≤ d) (h1 : d < (z.length : Nat)) : ∃ c, atI z.cps.toList d = some c ∧ z.cps.toList[d.toNat]? = some c := by
  have hl : z.cps.toList.length = z.length := Array.length_toList
  have k : d.toNat < z.cps.toList.length := by omega
  have e : z.cps.toList[d.toNat]? = some z.cps.toList[d.toNat] := List.getElem?_eq_getElem k
  refine ⟨_, ?_, e⟩
  have q := atI_nat e
  rwa [show ((d.toNat : Nat) : Int) = d by omega] at q
theorem ln {n : Nat} (h : n ≤ 1000000) : n ≤ sizeLine := Nat.le_trans h (by decide)
theorem lt {n : Nat} (h : n < 1000000) : n < sizeLine := Nat.lt_of_lt_of_le h (by decide)
theorem perm_erase {α : Type} : ∀ {xs : List α} {i : Nat} {x : α}, xs[i]? = some x → xs.Perm (x :: xs.eraseIdx i)
  | [], i, x, h => by simp at h
  | a :: xs, 0, x, h => by
    have e := Option.some.inj h
    subst e
    exact .refl _
  | a :: xs, i + 1, x, h => ((perm_erase (xs := xs) (i := i) h).cons a).trans (.swap _ _ _)
/-! ### sizes of nested data -/
mutual
def szD : PyData → Nat
  | .list ds => 1 + szL ds
  | .tuple ds => 1 + szL ds
  | .str x => 1 + x.length
  | _ => 1
def szL : List PyData → Nat
  | [] => 0
  | d :: ds => szD d + szL ds
end
theorem szD_pos : ∀ d, 1 ≤ szD d
  | .none => Nat.le_refl _
  | .bool _ => Nat.le_refl _
  | .int _ => Nat.le_refl _
  | .str _ => by unfold szD; omega
  | .list ds => by unfold szD; omega
  | .tuple ds => by unfold szD; omega
  | .dict _ => Nat.le_refl _
theorem szL_append : ∀ (a b : List PyData), szL (a ++ b) = szL a + szL b
  | [], b => by unfold szL; simp
  | d :: a, b => by
    show szD d + szL (a ++ b) = szD d + szL a + szL b
    rw [szL_append a b]
    omega
theorem szL_len : ∀ (a : List PyData), a.length ≤ szL a
  | [] => Nat.zero_le _
  | d :: a => by
    have := szL_len a
    have := szD_pos d
    show a.length + 1 ≤ szD d + szL a
    omega
theorem szL_get : ∀ {a : List PyData} {i : Nat} {d : PyData}, a[i]? = some d → szD d ≤ szL a
  | [], i, d, h => by simp at h
  | x :: a, 0, d, h => by
    have e := Option.some.inj h
    subst e
    show szD _ ≤ szD _ + szL a
    omega
  | x :: a, i + 1, d, h => by
    have := szL_get (a := a) (i := i) h
    show szD d ≤ szD x + szL a
    omega
/-! ### lists of nested data -/
section
variable {G : Hp}
theorem DaAll.append : ∀ {vs ws : List V} {ds es : List PyData}, DaAll G vs ds → DaAll G ws es → DaAll G (vs ++ ws) (ds ++ es)
  | [], ws, _, es, h, k => by cases h; exact k
  | v :: vs, ws, _, es, h, k => by
    cases h with
    | cons a b => exact .cons a (DaAll.append b k)
theorem DaAll.take : ∀ (n : Nat) {vs : List V} {ds : List PyData}, DaAll G vs ds → DaAll G (vs.take n) (ds.take n)
  | 0, _, _, h => by
    rw [List.take_zero, List.take_zero]
    exact .nil
  | n + 1, [], _, h => by cases h; exact .nil
  | n + 1, v :: vs, _, h => by
    cases h with
    | cons a b => exact .cons a (DaAll.take n b)
theorem DaAll.drop : ∀ (n : Nat) {vs : List V} {ds : List PyData}, DaAll G vs ds → DaAll G (vs.drop n) (ds.drop n)
  | 0, _, _, h => h
  | n + 1, [], _, h => by cases h; exact .nil
  | n + 1, v :: vs, _, h => by
    cases h with
    | cons a b => exact DaAll.drop n b
theorem DaAll.set {v : V} {d : PyData} (k : Da G v d) : ∀ (n : Nat) {vs : List V} {ds : List PyData}, DaAll G vs ds → DaAll G (vs.set n v) (ds.set n d)
  | _, [], _, h => by cases h; exact .nil
  | 0, _ :: _, _, h => by
    cases h with
    | cons a b => exact .cons k b
  | n + 1, _ :: _, _, h => by
    cases h with
    | cons a b => exact .cons a (DaAll.set k n b)
theorem DaAll.one {v : V} {d : PyData} (k : Da G v d) : DaAll G [v] [d] := .cons k .nil
theorem DaAll.ints : ∀ (ns : List Int), DaAll G (ns.map V.int) (ns.map PyData.int)
  | [] => .nil
  | n :: ns => .cons (.int n) (DaAll.ints ns)
theorem DaAll.reverse {vs : List V} {ds : List PyData} (h : DaAll G vs ds) : DaAll G vs.reverse ds.reverse := by
  induction vs generalizing ds with
  | nil => cases h; exact .nil
  | cons v vs ih =>
    cases h with
    | cons a b =>
      rw [List.reverse_cons, List.reverse_cons]
      exact (ih b).append (.one a)
end
theorem szL_ints : ∀ (ns : List Int), szL (ns.map PyData.int) = ns.length
  | [] => rfl
  | n :: ns => by
    show 1 + szL (ns.map PyData.int) = ns.length + 1
    rw [szL_ints ns]
    omega
/-! ### leaves -/
inductive Leaf : V → PyData → Prop
  | non : Leaf .non .none
  | bl (b : Bool) : Leaf (.bl b) (.bool b)
  | int (i : Int) : Leaf (.int i) (.int i)
  | str (x : Str) : x.length ≤ 100 → Leaf (.str x) (.str x)
theorem Leaf.da {G : Hp} {v : V} {d : PyData} (h : Leaf v d) : Da G v d := by
  cases h with
  | non => exact .non
  | bl b => exact .bl b
  | int i => exact .int i
  | str x _ => exact .str x
theorem Leaf.sz {v : V} {d : PyData} (h : Leaf v d) : szD d ≤ 101 := by
  cases h with
  | str x hx => unfold szD; omega
  | _ => show 1 ≤ 101; decide
/-! ### texts -/
theorem yesT {σ : L2.St} {H : Hp} {A B : Hp → Prop} (h : A H) : tYes σ H (fun b H3 => if b = true then A H3 else B H3) := iteT (B := B H) h
theorem Da.of_if {G : Hp} {p : Addr} {b : Bool} {xs : List V} {ds : List PyData} (h : G p = some (if b then HO.tup xs else HO.lst xs)) (k : DaAll G xs ds) : Da G (.ref p) (if b then .tuple ds else .list ds) := by
  cases b with
  | true => exact .tup h k
  | false => exact .lst h k
theorem sz_if (b : Bool) (ds : List PyData) : szD (if b then PyData.tuple ds else .list ds) = 1 + szL ds := by cases b <;> rfl
/-! ### promises -/
abbrev HasL (H : Hp) (a : Addr) (xs : List V) : Prop := H a = some (.lst xs) ∨ H a = some (.tup xs)
theorem HasL.len {K : PySem.W.Frag} {H : Hp} {a : Addr} {xs : List V} (h : HasL H a xs) : SqL K H a xs ∨ SqT K H a xs := h.elim (fun h => .inl (.of h)) (fun h => .inr (.of h))
def spDrawn : Sp := fun vs H Q _ => ∃ (S : Sr) (G : Hp) (a : Addr) (xs : List V) (n : Int), vs = [.ref S.a, .ref a, .int n] ∧ Wd S G H ∧ HasL H a xs ∧ xs.length ≤ 100000 ∧ 0 ≤ n ∧ n ≤ 100000 ∧
  ∀ (l : Addr) (ys rest : List V) (H' : Hp), Go S G H G H' → G l = none → H l = none → H' l = some (.lst ys) → (ys ++ rest).Perm xs → ys.length = min n.toNat xs.length → Q (.ref l) H'
def spEither : Sp := fun vs H Q _ => ∃ (S : Sr) (G : Hp) (a : Addr) (xs : List V), vs = [.ref S.a, .ref a] ∧ Wd S G H ∧ a ≠ S.a ∧ H a = some (.lst xs) ∧
  ∀ (p : Addr) (b : Bool) (H' : Hp), Go S G H G H' → G p = none → H p = none → H' p = some (if b then .tup xs else .lst xs) → Q (.ref p) H'
/-- a tuple of whole numbers, a move on n points -/
def IsMv (ns : List Int) (n : Int) : Prop := ns.Perm ((List.range n.toNat).map fun (i : Nat) => (i : Int))
def spMove : Sp := fun vs H Q _ => ∃ (S : Sr) (G : Hp) (n : Int), vs = [.ref S.a, .int n] ∧ Wd S G H ∧ 0 ≤ n ∧ n ≤ 10000 ∧
  ∀ (p : Addr) (ns : List Int) (G' H' : Hp), Go S G H G' H' → G' p = some (.tup (ns.map V.int)) → IsMv ns n → Q (.ref p) H'
end Hd

namespace Hd
open PySem PySem.Spec PyProof.Rows L2
/-! ### equal data -/
mutual
def sameD : PyData → PyData → Bool
  | .none, .none => true
  | .bool a, .bool b => decide (a = b)
  | .int a, .int b => decide (a = b)
  | .str a, .str b => decide (a = b)
  | .list a, .list b => sameL a b
  | .tuple a, .tuple b => sameL a b
  | _, _ => false
def sameL : List PyData → List PyData → Bool
  | [], [] => true
  | x :: a, y :: b => sameD x y && sameL a b
  | _, _ => false
end
def noDict : PyData → Bool
  | .dict _ => false
  | _ => true
mutual
theorem sameD_self {G : Hp} : ∀ (d : PyData) (v : V), Da G v d → sameD d d = true
  | .none, _, _ => rfl
  | .bool a, _, _ => decide_eq_true rfl
  | .int a, _, _ => decide_eq_true rfl
  | .str a, _, _ => decide_eq_true rfl
  | .list a, _, h => by
    cases h with
    | lst h1 h2 => exact sameL_self a _ h2
  | .tuple a, _, h => by
    cases h with
    | tup h1 h2 => exact sameL_self a _ h2
  | .dict _, _, h => by cases h
theorem sameL_self {G : Hp} : ∀ (ds : List PyData) (vs : List V), DaAll G vs ds → sameL ds ds = true
  | [], _, _ => rfl
  | d :: ds, _, h => by
    cases h with
    | cons a b =>
      show (sameD d d && sameL ds ds) = true
      rw [sameD_self d _ a, sameL_self ds _ b]
      rfl
end
theorem sameL_len : ∀ {a b : List PyData}, a.length ≠ b.length → sameL a b = false
  | [], [], h => absurd rfl h
  | [], _ :: _, _ => rfl
  | _ :: _, [], _ => rfl
  | x :: a, y :: b, h => by
    show (sameD x y && sameL a b) = false
    rw [sameL_len (a := a) (b := b) (fun e => h (by rw [List.length_cons, List.length_cons, e])), Bool.and_false]
theorem sameL_all : ∀ {a b : List PyData}, a.length = b.length → sameL a b = (a.zip b).all fun p => sameD p.1 p.2
  | [], [], _ => rfl
  | [], _ :: _, h => by cases h
  | _ :: _, [], h => by cases h
  | x :: a, y :: b, h => by
    show (sameD x y && sameL a b) = _
    rw [sameL_all (a := a) (b := b) (Nat.succ.inj h)]
    rfl
section
variable {G : Hp} {v w : V} {d e : PyData}
theorem Da.non_iff (h : Da G v d) : v = .non ↔ d = .none := by cases h <;> simp
theorem Da.bl_iff (h : Da G v d) {b : Bool} : v = .bl b ↔ d = .bool b := by cases h <;> simp
end
theorem ib_none_int  : instB PyData.none "int" = false := by simp [instB, tyD]
theorem ib_none_tuple  : instB PyData.none "tuple" = false := by simp [instB, tyD]
theorem ib_none_list  : instB PyData.none "list" = false := by simp [instB, tyD]
theorem ib_none_str  : instB PyData.none "str" = false := by simp [instB, tyD]
theorem ib_bool_int (x : Bool) : instB (.bool x) "int" = true := by simp [instB, tyD]
theorem ib_bool_bool (x : Bool) : instB (.bool x) "bool" = true := by simp [instB, tyD]
theorem ib_bool_tuple (x : Bool) : instB (.bool x) "tuple" = false := by simp [instB, tyD]
theorem ib_bool_list (x : Bool) : instB (.bool x) "list" = false := by simp [instB, tyD]
theorem ib_bool_str (x : Bool) : instB (.bool x) "str" = false := by simp [instB, tyD]
theorem ib_int_int (x : Int) : instB (.int x) "int" = true := by simp [instB, tyD]
theorem ib_int_bool (x : Int) : instB (.int x) "bool" = false := by simp [instB, tyD]
theorem ib_int_tuple (x : Int) : instB (.int x) "tuple" = false := by simp [instB, tyD]
theorem ib_int_list (x : Int) : instB (.int x) "list" = false := by simp [instB, tyD]
theorem ib_int_str (x : Int) : instB (.int x) "str" = false := by simp [instB, tyD]
theorem ib_str_int (x : Str) : instB (.str x) "int" = false := by simp [instB, tyD]
theorem ib_str_tuple (x : Str) : instB (.str x) "tuple" = false := by simp [instB, tyD]
theorem ib_str_list (x : Str) : instB (.str x) "list" = false := by simp [instB, tyD]
theorem ib_str_str (x : Str) : instB (.str x) "str" = true := by simp [instB, tyD]
theorem ib_list_int (x : List PyData) : instB (.list x) "int" = false := by simp [instB, tyD]
theorem ib_list_tuple (x : List PyData) : instB (.list x) "tuple" = false := by simp [instB, tyD]
theorem ib_list_list (x : List PyData) : instB (.list x) "list" = true := by simp [instB, tyD]
theorem ib_list_str (x : List PyData) : instB (.list x) "str" = false := by simp [instB, tyD]
theorem ib_tuple_int (x : List PyData) : instB (.tuple x) "int" = false := by simp [instB, tyD]
theorem ib_tuple_tuple (x : List PyData) : instB (.tuple x) "tuple" = true := by simp [instB, tyD]
theorem ib_tuple_list (x : List PyData) : instB (.tuple x) "list" = false := by simp [instB, tyD]
theorem ib_tuple_str (x : List PyData) : instB (.tuple x) "str" = false := by simp [instB, tyD]
theorem iteDT {c A B : Prop} [Decidable c] (h : c) (k : A) : if decide c = true then A else B := by rw [decide_eq_true h]; exact iteT k
theorem iteDF {c A B : Prop} [Decidable c] (h : ¬ c) (k : B) : if decide c = true then A else B := by rw [decide_eq_false h]; exact iteF k
theorem iteBT {b : Bool} {A B : Prop} (h : b = true) (k : A) : if b = true then A else B := by rw [h]; exact iteT k
theorem iteBF {b : Bool} {A B : Prop} (h : b = false) (k : B) : if b = true then A else B := by rw [h]; exact iteF k
theorem nd_of {p : Prop} [Decidable p] (h : (!decide p) = true) : ¬ p := fun q => by rw [decide_eq_true q] at h; cases h
theorem nd_not {p : Prop} [Decidable p] (h : ¬ (!decide p) = true) : p := by
  by_cases q : p
  · exact q
  · rw [decide_eq_false q] at h
    exact absurd rfl h
theorem rIx_of {K : PySem.W.Frag} {H : Hp} {Q : VK} {a : Addr} {xs : List V} {i : Int} {x : V} (h : HasL H a xs) (e : atI xs i = some x) (q : Q x H) : rIx K (.ref a) (.int i) H Q :=
  h.elim (fun h => .inl ⟨a, xs, i, x, rfl, rfl, .of h, e, q⟩) (fun h => .inr (.inl ⟨a, xs, i, x, rfl, rfl, .of h, e, q⟩))
theorem HasL.lenV {K : PySem.W.Frag} {H : Hp} {a : Addr} {xs : List V} (h : HasL H a xs) : LenV K (.ref a) H xs.length := h.elim (fun h => .inl ⟨xs, .of h, rfl⟩) (fun h => .inr ⟨xs, .of h, rfl⟩)
theorem HasL.up {H H' : Hp} {a : Addr} {xs : List V} (h : HasL H a xs) (g : Same H H') : HasL H' a xs := h.elim (fun h => .inl (g _ _ h)) (fun h => .inr (g _ _ h))
theorem at_nat {xs : List V} {i : Nat} (h : i < xs.length) : ∃ x, xs[i]? = some x ∧ atI xs (0 + (i : Int)) = some x := by
  have e : xs[i]? = some xs[i] := List.getElem?_eq_getElem h
  refine ⟨xs[i], e, ?_⟩
  rw [Int.zero_add]
  exact atI_nat e
theorem zip_take : ∀ {a b : List PyData} {i : Nat} {x y : PyData}, a[i]? = some x → b[i]? = some y → (a.take (i + 1)).zip (b.take (i + 1)) = (a.take i).zip (b.take i) ++ [(x, y)]
  | [], _, i, _, _, h, _ => by simp at h
  | _ :: _, [], i, _, _, _, h => by simp at h
  | a :: as, b :: bs, 0, x, y, h, k => by
    have e := Option.some.inj h
    have f := Option.some.inj k
    subst e f
    rfl
  | a :: as, b :: bs, i + 1, x, y, h, k => by
    have ih := zip_take (a := as) (b := bs) (i := i) h k
    show (a, b) :: (as.take (i + 1)).zip (bs.take (i + 1)) = (a, b) :: ((as.take i).zip (bs.take i)) ++ [(x, y)]
    rw [ih]
    rfl

def sqD (t : Bool) (ds : List PyData) : PyData := if t then .tuple ds else .list ds
theorem sqD_sz (t : Bool) (ds : List PyData) : szD (sqD t ds) = 1 + szL ds := by cases t <;> rfl
theorem Da.kind {G : Hp} {v : V} {d : PyData} (h : Da G v d) : (v = .non ∧ d = .none) ∨ (∃ b, v = .bl b ∧ d = .bool b) ∨ (∃ i, v = .int i ∧ d = .int i) ∨ (∃ x, v = .str x ∧ d = .str x) ∨
    ∃ a xs ds t, v = .ref a ∧ HasL G a xs ∧ (t = true → G a = some (.tup xs)) ∧ (t = false → G a = some (.lst xs)) ∧ DaAll G xs ds ∧ d = sqD t ds := by
  cases h with
  | non => exact .inl ⟨rfl, rfl⟩
  | bl b => exact .inr (.inl ⟨b, rfl, rfl⟩)
  | int i => exact .inr (.inr (.inl ⟨i, rfl, rfl⟩))
  | str x => exact .inr (.inr (.inr (.inl ⟨x, rfl, rfl⟩)))
  | lst a b => exact .inr (.inr (.inr (.inr ⟨_, _, _, false, rfl, .inl a, (fun z => nomatch z), fun _ => a, b, rfl⟩)))
  | tup a b => exact .inr (.inr (.inr (.inr ⟨_, _, _, true, rfl, .inr a, fun _ => a, (fun z => nomatch z), b, rfl⟩)))
/-- pairs that are still to be compared -/
structure Pr where
  a : Addr
  v : V
  w : V
  d : PyData
  e : PyData
def PairAt (G H : Hp) (x : Pr) : Prop := H x.a = some (.tup [x.v, x.w]) ∧ Da G x.v x.d ∧ Da G x.w x.e
def szP (ps : List Pr) : Nat := (ps.map fun x => szD x.d + szD x.e).sum
theorem szP_app (a b : List Pr) : szP (a ++ b) = szP a + szP b := by unfold szP; rw [List.map_append, List.sum_append]
theorem szP_one (x : Pr) : szP [x] = szD x.d + szD x.e := Nat.add_zero _
theorem szP_len : ∀ ps : List Pr, ps.length ≤ szP ps
  | [] => Nat.zero_le _
  | x :: r => by
    have := szP_len r
    have := szD_pos x.d
    show r.length + 1 ≤ (szD x.d + szD x.e) + szP r
    omega
def allP (ps : List Pr) : Bool := ps.all fun x => sameD x.d x.e
theorem allP_app (a b : List Pr) : allP (a ++ b) = (allP a && allP b) := List.all_append
theorem allP_one (x : Pr) : allP [x] = sameD x.d x.e := Bool.and_true _
theorem PairAt.new {G H H' : Hp} {x : Pr} {p : Addr} {o : HO} (h : PairAt G H x) (n : New H p o H') : PairAt G H' x := ⟨n.else h.1, h.2⟩
theorem PairAt.put {G H H' : Hp} {x : Pr} {l : Addr} {xs ys : List V} (h : PairAt G H x) (hl : H l = some (.lst xs)) (e : H' = upd H l (.lst ys)) : PairAt G H' x := ⟨upd_else e h.1 (ne_of h.1 hl (by intro z; cases z)), h.2⟩
theorem szL_takes (a : List PyData) (i : Nat) {d : PyData} (h : a[i]? = some d) : szL (a.take (i + 1)) = szL (a.take i) + szD d := by
  rw [List.take_add_one, h, szL_append]
  show _ + (szD d + 0) = _
  omega
/-- what `_law_same` promises -/
def spSame : Sp := fun vs H Q _ => ∃ (G : Hp) (v w : V) (d e : PyData), vs = [v, w] ∧ Same G H ∧ Da G v d ∧ Da G w e ∧ szD d ≤ 1900000 ∧ szD e ≤ 1900000 ∧ ∀ H', Same H H' → Q (.bl (sameD d e)) H'
def spIsWhole : Sp := fun vs H Q _ => ∃ (v : V) (d : PyData), vs = [v] ∧ Da H v d ∧ Q (.bl (isI d)) H
theorem isI_inst (d : PyData) (h : noDict d = true) : (instB d "int" && !instB d "bool") = isI d := by
  cases d <;> first | rfl | cases h | decide +kernel
theorem Da.nd {G : Hp} {v : V} {d : PyData} (h : Da G v d) : noDict d = true := by cases h <;> rfl
end Hd

namespace Hd
open PySem PySem.Spec PyProof.Rows L2
/-! ### == of lists of ints -/
theorem DpAll.ints {K : PySem.W.Frag} {H : Hp} : ∀ (ns : List Int), DpAll K H (ns.map V.int) (ns.map PyData.int)
  | [] => .nil
  | n :: ns => .cons (.int n) (DpAll.ints ns)
theorem eqv_ints : ∀ (ns ms : List Int), PyData.eqvAll (ns.map PyData.int) (ms.map PyData.int) = decide (ns = ms)
  | [], [] => rfl
  | [], _ :: _ => rfl
  | _ :: _, [] => rfl
  | a :: ns, b :: ms => by
    show (PyData.eqv (.int a) (.int b) && PyData.eqvAll (ns.map PyData.int) (ms.map PyData.int)) = _
    rw [eqv_ints ns ms]
    show ((a == b) && decide (ns = ms)) = decide (a :: ns = b :: ms)
    by_cases h : a = b
    · subst h
      by_cases k : ns = ms
      · subst k; simp
      · simp [k]
    · simp [h]
def rEqLI (K : PySem.W.Frag) : R2 := fun x y H Q => ∃ (a b : Addr) (ns ms : List Int), x = .ref a ∧ y = .ref b ∧ SqL K H a (ns.map V.int) ∧ SqL K H b (ms.map V.int) ∧ Q (.bl (decide (ns = ms))) H
theorem op_eqLI {X : Cx} (hu : X.A.units + 64 < cLine) : OpR X (compareOp .Eq) (rEqLI X.K) := opR_mono (op_eqD hu) fun x y H Q h => by
  obtain ⟨a, b, ns, ms, rfl, rfl, ha, hb, q⟩ := h
  refine ⟨.list (ns.map .int), .list (ms.map .int), .lst ha (DpAll.ints ns), .lst hb (DpAll.ints ms), PySem.W.ke_shaped_ints ns, PySem.W.ke_shaped_ints ms, ?_⟩
  rw [PyData.eqv, eqv_ints]
  exact q
/-! ### steps without a store -/
section
variable {G H G1 H1 H2 : Hp} {p l : Addr} {o : HO}
theorem Stq.loc2 (s : Stq G H G1 H1) (n : New H1 p o H2) : Stq G H G1 H2 ∧ G1 p = none ∧ H2 p = some o ∧ H p = none :=
  ⟨s.trans (Stq.loc s.gh n).1, (Stq.loc s.gh n).2.1, n.at, s.hh.free n.fr⟩
theorem Stq.know2 (s : Stq G H G1 H1) (n : New H1 p o H2) : ∃ G2, Stq G H G2 H2 ∧ Same G1 G2 ∧ G2 p = some o ∧ ∀ b, b ≠ p → G2 b = G1 b := by
  obtain ⟨G2, t, e, k⟩ := Stq.know s.gh n
  exact ⟨G2, s.trans t, t.gg, e, k⟩
theorem Stq.nw2 (s : Stq G H G1 H1) {b : Addr} {u : HO} (h : H b = some u) (g : G b = none) (t : isT u = false := by rfl) : G1 b = none := s.nw b u h t g
end
/-! ### what frozen says -/
def frz : Nat → PyData → PyData
  | k + 1, .list ds => .tuple [.str "list", .tuple (ds.map (frz k))]
  | k + 1, .tuple ds => .tuple [.str "tuple", .tuple (ds.map (frz k))]
  | _, d => d
theorem szL_map (f : PyData → PyData) (h : ∀ d, szD (f d) ≤ 8 * szD d) : ∀ ds, szL (ds.map f) ≤ 8 * szL ds
  | [] => Nat.le_refl _
  | d :: ds => by
    have h1 := h d
    have h2 := szL_map f h ds
    show szD (f d) + szL (ds.map f) ≤ 8 * (szD d + szL ds)
    omega
theorem frz_sz : ∀ (k : Nat) (d : PyData), szD (frz k d) ≤ 8 * szD d
  | 0, d => by
    have : frz 0 d = d := by cases d <;> rfl
    rw [this]
    omega
  | k + 1, d => by
    have ih := szL_map (frz k) (frz_sz k)
    cases d with
    | list ds =>
      have h1 := ih ds
      have e : szD (.str "list") ≤ 6 := by decide +kernel
      show 1 + (szD (.str "list") + (1 + szL (ds.map (frz k)) + 0)) ≤ 8 * (1 + szL ds)
      omega
    | tuple ds =>
      have h1 := ih ds
      have e : szD (.str "tuple") ≤ 6 := by decide +kernel
      show 1 + (szD (.str "tuple") + (1 + szL (ds.map (frz k)) + 0)) ≤ 8 * (1 + szL ds)
      omega
    | str x => show szD (.str x) ≤ 8 * szD (.str x); omega
    | _ => show 1 ≤ 8 * 1; omega
def spFrozen (k : Nat) : Sp := fun vs H Q _ => ∃ (G : Hp) (v : V) (d : PyData) (n : Int), vs = [v, .int n] ∧ Same G H ∧ Da G v d ∧ szD d ≤ 300000 ∧ 0 ≤ n ∧ n < k ∧ ∀ (v' : V) (G' H' : Hp), Stq G H G' H' → Da G' v' (frz n.toNat d) → Q v' H'
/-! ### what counted says -/
/-! ### what is_move says -/
def isNum (d : PyData) (lo hi : Int) : Bool := match d with
  | .int i => decide (lo ≤ i) && decide (i ≤ hi)
  | _ => false
def intsOf : List PyData → List Int
  | [] => []
  | .int i :: r => i :: intsOf r
  | _ :: r => intsOf r
def mvOn (n : Int) : PyData → Bool
  | .tuple ds => decide (((ds.length : Nat) : Int) = n) && (ds.all (fun d => isNum d 0 (n - 1)) && decide ((intsOf ds).Perm ((List.range n.toNat).map fun (i : Nat) => (i : Int))))
  | _ => false
def mvD : PyData → Bool
  | .tuple ds => decide (ds.length ≤ 12) && mvOn ds.length (.tuple ds)
  | _ => false
def spIsNum : Sp := fun vs H Q _ => ∃ v d lo hi, vs = [v, .int lo, .int hi] ∧ Da H v d ∧ Q (.bl (isNum d lo hi)) H
def spIsPoint : Sp := fun vs H Q _ => ∃ v d n, vs = [.int n, v] ∧ Da H v d ∧ Q (.bl (isNum d 0 (n - 1))) H
def spIsMoveOn : Sp := fun vs H Q _ => ∃ (G : Hp) (v : V) (d : PyData) (n : Int), vs = [.int n, v] ∧ Same G H ∧ Da G v d ∧ szD d ≤ 1000000 ∧ ∀ H', Same H H' → Q (.bl (mvOn n d)) H'
end Hd

namespace Hd
open PySem PySem.Spec PyProof.Rows L2
def rngI (n : Int) : List Int := (List.range n.toNat).map fun (i : Nat) => (i : Int)
theorem rngI_len (n : Int) : (rngI n).length = n.toNat := by unfold rngI; rw [List.length_map, List.length_range]
theorem rngI_mem {n k : Int} : k ∈ rngI n ↔ 0 ≤ k ∧ k < n := by
  unfold rngI
  rw [List.mem_map]
  constructor
  · rintro ⟨i, hi, rfl⟩
    have := List.mem_range.mp hi
    omega
  · intro h
    exact ⟨k.toNat, List.mem_range.mpr (by omega), by omega⟩
theorem rngI_nodup (n : Int) : (rngI n).Nodup := by
  unfold rngI
  exact List.Pairwise.map (R := (· ≠ ·)) _ (fun a b h e => h (by omega)) List.nodup_range
theorem rngI_sorted (n : Int) : (rngI n).Pairwise (· ≤ ·) := by
  unfold rngI
  exact List.Pairwise.map (R := (· < ·)) _ (fun a b h => by omega) List.pairwise_lt_range
theorem rgV_rngI (n : Int) : rgV 0 n = (rngI n).map V.int := by
  unfold rgV rngI
  rw [List.map_map, Int.sub_zero]
  refine List.map_congr_left fun i _ => ?_
  show V.int (0 + (i : Int)) = V.int (i : Int)
  rw [Int.zero_add]
theorem perm_of_subset : ∀ {S L : List Int}, S.Nodup → (∀ x ∈ S, x ∈ L) → L.length ≤ S.length → L.Perm S
  | [], L, _, _, h => by
    rw [List.eq_nil_of_length_eq_zero (Nat.le_zero.mp h)]
  | a :: S, L, nd, hs, hl => by
    have ha := hs a List.mem_cons_self
    have nd2 := List.nodup_cons.mp nd
    have p := List.perm_cons_erase ha
    have hl2 := p.length_eq
    rw [List.length_cons] at hl2 hl
    refine p.trans (List.Perm.cons a (perm_of_subset nd2.2 (fun x hx => ?_) (by omega)))
    refine (List.mem_erase_of_ne (show x ≠ a from fun e => nd2.1 (e ▸ hx))).mpr (hs x (List.mem_cons_of_mem _ hx))
theorem ints_isNum {ds : List PyData} {lo hi : Int} (h : ds.all (fun d => isNum d lo hi) = true) : ds = (intsOf ds).map PyData.int := by
  induction ds with
  | nil => rfl
  | cons d r ih =>
    rw [List.all_cons, Bool.and_eq_true] at h
    cases d with
    | int i =>
      show PyData.int i :: r = PyData.int i :: (intsOf r).map PyData.int
      rw [← ih h.2]
    | _ => cases h.1
theorem vals_int {G : Hp} : ∀ {xs : List V} {ns : List Int}, DaAll G xs (ns.map PyData.int) → xs = ns.map V.int
  | [], [], _ => rfl
  | [], _ :: _, h => by cases h
  | _ :: _, [], h => by cases h
  | x :: xs, n :: ns, h => by
    cases h with
    | cons a b =>
      cases a
      rw [vals_int (ns := ns) b]
      rfl
end Hd

namespace L2
open PySem PySem.Spec PyProof.Rows
end L2
namespace Hd
open PySem PySem.Spec PyProof.Rows L2
/-! ### xs[::-1] -/
section
variable {X : Cx}
end
end Hd

namespace Hd
open PySem PySem.Spec PyProof.Rows L2
/-! ### moves -/
theorem isMv_of {ns : List Int} {n : Int} (h0 : 0 ≤ n) (hl : ns.length = n.toNat) (h : ∀ x, 0 ≤ x → x < n → x ∈ ns) : IsMv ns n :=
  perm_of_subset (rngI_nodup n) (fun x hx => h x (rngI_mem.mp hx).1 (rngI_mem.mp hx).2) (by rw [hl]; exact Nat.le_of_eq (rngI_len n).symm)
theorem IsMv.len {ns : List Int} {n : Int} (h : IsMv ns n) : ns.length = n.toNat := by
  have := List.Perm.length_eq h
  rwa [show ((List.range n.toNat).map fun (i : Nat) => (i : Int)) = rngI n from rfl, rngI_len] at this
theorem IsMv.mem {ns : List Int} {n : Int} (h : IsMv ns n) {x : Int} : x ∈ ns ↔ 0 ≤ x ∧ x < n := (List.Perm.mem_iff h).trans rngI_mem
theorem IsMv.nodup {ns : List Int} {n : Int} (h : IsMv ns n) : ns.Nodup := (List.Perm.nodup_iff h).mpr (rngI_nodup n)
def intV : V → Int
  | .int i => i
  | _ => 0
theorem map_intV (ns : List Int) : (ns.map V.int).map intV = ns := by
  rw [List.map_map]
  exact List.map_id'' (fun _ => rfl) _
/-- a part of a list of ints is a list of ints -/
theorem perm_ints {ys rest : List V} {ns : List Int} (h : (ys ++ rest).Perm (ns.map V.int)) : ∃ (rs ms : List Int), ys = rs.map V.int ∧ rest = ms.map V.int ∧ (rs ++ ms).Perm ns := by
  have all : ∀ v ∈ ys ++ rest, ∃ i, v = V.int i := fun v hv => by
    obtain ⟨i, _, e⟩ := List.mem_map.mp (h.mem_iff.mp hv)
    exact ⟨i, e.symm⟩
  have one : ∀ zs : List V, (∀ v ∈ zs, ∃ i, v = V.int i) → zs = (zs.map intV).map V.int := fun zs hz => by
    induction zs with
    | nil => rfl
    | cons v r ih =>
      obtain ⟨i, rfl⟩ := hz v List.mem_cons_self
      rw [List.map_cons, List.map_cons, ← ih fun w hw => hz w (List.mem_cons_of_mem _ hw)]
      rfl
  refine ⟨ys.map intV, rest.map intV, one _ fun v hv => all v (List.mem_append_left _ hv), one _ fun v hv => all v (List.mem_append_right _ hv), ?_⟩
  have := h.map intV
  rwa [map_intV, List.map_append] at this
theorem atI_ints {ns : List Int} {d : Int} (h0 : 0 ≤ d) (h1 : d < (ns.length : Nat)) : ∃ n, ns[d.toNat]? = some n ∧ atI (ns.map V.int) d = some (.int n) ∧ n ∈ ns := by
  obtain ⟨x, e, f, _⟩ := at_int (xs := ns.map V.int) h0 (by rw [List.length_map]; exact h1)
  rw [List.getElem?_map] at e
  cases g : ns[d.toNat]? with
  | none => rw [g] at e; cases e
  | some n =>
    rw [g] at e
    cases e
    exact ⟨n, rfl, f, List.mem_of_getElem? g⟩
/-- the ring of the points rs on n points, the first i of them set -/
def Ring (n : Nat) (rs : List Int) (i : Nat) (L : List Int) : Prop :=
  L.length = n ∧ (∀ j r, j < i → rs[j]? = some r → ∃ t, rs[(j + 1) % rs.length]? = some t ∧ L[r.toNat]? = some t) ∧
    ∀ x : Nat, x < n → (∀ j, j < i → rs[j]? ≠ some (x : Int)) → L[x]? = some (x : Int)
theorem Ring.start (n : Int) (rs : List Int) : Ring n.toNat rs 0 (rngI n) := by
  refine ⟨rngI_len n, fun j r h => absurd h (Nat.not_lt_zero _), fun x hx _ => ?_⟩
  unfold rngI
  rw [List.getElem?_map, List.getElem?_range hx]
  rfl
theorem Ring.step {n : Nat} {rs : List Int} {i : Nat} {L : List Int} {r t : Int} (h : Ring n rs i L) (nd : rs.Nodup) (hb : ∀ x ∈ rs, 0 ≤ x ∧ x < (n : Int)) (hr : rs[i]? = some r) (ht : rs[(i + 1) % rs.length]? = some t) : Ring n rs (i + 1) (L.set r.toNat t) := by
  obtain ⟨h1, h2, h3⟩ := h
  have br := hb r (List.mem_of_getElem? hr)
  refine ⟨by rw [List.length_set]; exact h1, fun j q hj hq => ?_, fun x hx hno => ?_⟩
  · by_cases e : j = i
    · subst e
      rw [hr] at hq
      cases hq
      exact ⟨t, ht, List.getElem?_set_self (by omega)⟩
    · obtain ⟨u, f1, f2⟩ := h2 j q (by omega) hq
      refine ⟨u, f1, ?_⟩
      have bq := hb q (List.mem_of_getElem? hq)
      have ne : r ≠ q := fun z => by
        subst z
        obtain ⟨a1, a2⟩ := List.getElem?_eq_some_iff.mp hr
        obtain ⟨b1, b2⟩ := List.getElem?_eq_some_iff.mp hq
        exact e ((List.getElem_inj nd).mp (b2.trans a2.symm))
      rw [List.getElem?_set_ne (by omega)]
      exact f2
  · have ne : (x : Int) ≠ r := fun z => hno i (by omega) (by rw [z]; exact hr)
    rw [List.getElem?_set_ne (by omega)]
    exact h3 x hx fun j hj => hno j (by omega)
theorem Ring.mv {n : Int} {rs L : List Int} (h0 : 0 ≤ n) (h : Ring n.toNat rs rs.length L) (hb : ∀ x ∈ rs, 0 ≤ x ∧ x < n) : IsMv L n := by
  obtain ⟨h1, h2, h3⟩ := h
  refine isMv_of h0 h1 fun x x0 x1 => ?_
  by_cases hx : x ∈ rs
  · obtain ⟨k, hk⟩ := List.getElem?_of_mem hx
    have kl := (List.getElem?_eq_some_iff.mp hk).1
    -- the one in front of it
    have : ∃ j, j < rs.length ∧ (j + 1) % rs.length = k := by
      by_cases k0 : k = 0
      · exact ⟨rs.length - 1, by omega, by rw [k0, Nat.sub_add_cancel (by omega), Nat.mod_self]⟩
      · exact ⟨k - 1, by omega, by rw [Nat.sub_add_cancel (by omega)]; exact Nat.mod_eq_of_lt kl⟩
    obtain ⟨j, jl, je⟩ := this
    obtain ⟨t, f1, f2⟩ := h2 j rs[j] jl (List.getElem?_eq_getElem jl)
    rw [je, hk] at f1
    cases f1
    exact List.mem_of_getElem? f2
  · have := h3 x.toNat (by omega) fun j hj e => by
      rw [show ((x.toNat : Nat) : Int) = x by omega] at e
      exact hx (List.mem_of_getElem? e)
    rw [show ((x.toNat : Nat) : Int) = x by omega] at this
    exact List.mem_of_getElem? this
theorem shift_mv {n s : Int} (h0 : 0 < n) : IsMv ((List.range n.toNat).map fun (k : Nat) => ((k : Int) + s) % n) n := by
  refine isMv_of (by omega) (by rw [List.length_map, List.length_range]) fun x x0 x1 => ?_
  refine List.mem_map.mpr ⟨((x - s) % n).toNat, List.mem_range.mpr ?_, ?_⟩
  · have a := Int.emod_nonneg (x - s) (show n ≠ 0 by omega)
    have b := Int.emod_lt_of_pos (x - s) h0
    omega
  · have a := Int.emod_nonneg (x - s) (show n ≠ 0 by omega)
    rw [Int.toNat_of_nonneg a, Int.emod_add_emod, Int.sub_add_cancel]
    exact Int.emod_eq_of_lt x0 x1
theorem turn_mv {n : Int} (h0 : 0 ≤ n) : IsMv ((List.range n.toNat).map fun (k : Nat) => n - 1 - (k : Int)) n := by
  refine isMv_of h0 (by rw [List.length_map, List.length_range]) fun x x0 x1 => ?_
  exact List.mem_map.mpr ⟨(n - 1 - x).toNat, List.mem_range.mpr (by omega), by omega⟩
theorem DaAll.erase {G : Hp} {vs : List V} {ds : List PyData} (n : Nat) (h : DaAll G vs ds) : DaAll G (vs.eraseIdx n) (ds.eraseIdx n) := by
  rw [List.eraseIdx_eq_take_drop_succ, List.eraseIdx_eq_take_drop_succ]
  exact (h.take n).append (h.drop (n + 1))
theorem rngI_mv {n : Int} : IsMv (rngI n) n := List.Perm.refl _
end Hd

namespace Hd
open PySem PySem.Spec PyProof.Rows L2
/-- a value without parts -/
def Flat (v : V) (d : PyData) : Prop := (v = .non ∧ d = .none) ∨ (∃ b, v = .bl b ∧ d = .bool b) ∨ (∃ i, v = .int i ∧ d = .int i) ∨ ∃ x, v = .str x ∧ d = .str x
theorem Flat.da {G : Hp} {v : V} {d : PyData} (h : Flat v d) : Da G v d := by
  rcases h with ⟨rfl, rfl⟩ | ⟨b, rfl, rfl⟩ | ⟨i, rfl, rfl⟩ | ⟨x, rfl, rfl⟩
  · exact .non
  · exact .bl b
  · exact .int i
  · exact .str x
/-- a container on the way down: its object, its items, their data, its kind, the place that is gone to; and the tuple that keeps it -/
structure Pth where
  tp : Addr
  a : Addr
  xs : List V
  ds : List PyData
  t : Bool
  i : Nat
def PthAt (G : Hp) (p : Pth) : Prop := G p.tp = some (.tup [.ref p.a, .int (p.i : Int)]) ∧ G p.a = some (if p.t then .tup p.xs else .lst p.xs) ∧ DaAll G p.xs p.ds ∧ p.i < p.xs.length
theorem PthAt.up {G G' : Hp} {p : Pth} (h : PthAt G p) (g : Same G G') : PthAt G' p := ⟨g _ _ h.1, g _ _ h.2.1, h.2.2.1.up g, h.2.2.2⟩
theorem hasL_if {G : Hp} {a : Addr} {t : Bool} {xs : List V} (h : G a = some (if t then HO.tup xs else HO.lst xs)) : HasL G a xs := by
  cases t with
  | true => exact .inr h
  | false => exact .inl h
theorem Da.ints {G : Hp} {p : Addr} {ns : List Int} (h : G p = some (.tup (ns.map V.int))) : Da G (.ref p) (.tuple (ns.map PyData.int)) := .tup h (DaAll.ints ns)
theorem sz_ints (ns : List Int) : szD (.tuple (ns.map PyData.int)) = 1 + ns.length := by
  show 1 + szL _ = _
  rw [szL_ints]
theorem Go.pure {S : Sr} {G H G1 H1 H2 : Hp} (a : Go S G H G1 H1) (g : Same H1 H2) : Go S G H G1 H2 := a.q ⟨Same.refl _, a.gh.trans g, fun _ _ _ _ h => h, g⟩
theorem intsOf_map : ∀ ns : List Int, intsOf (ns.map PyData.int) = ns
  | [] => rfl
  | n :: r => by
    show n :: intsOf (r.map PyData.int) = n :: r
    rw [intsOf_map r]
theorem mvD_mv {ns : List Int} {n : Int} (h0 : 0 ≤ n) (h : IsMv ns n) (hn : n ≤ 12) : mvD (.tuple (ns.map PyData.int)) = true := by
  have ln := h.len
  have e : ((ns.length : Nat) : Int) = n := by omega
  show (decide ((ns.map PyData.int).length ≤ 12) && (decide ((((ns.map PyData.int).length : Nat) : Int) = (((ns.map PyData.int).length : Nat) : Int)) && ((ns.map PyData.int).all (fun d => isNum d 0 ((((ns.map PyData.int).length : Nat) : Int) - 1)) && decide ((intsOf (ns.map PyData.int)).Perm (rngI (((ns.map PyData.int).length : Nat) : Int)))))) = true
  rw [List.length_map, intsOf_map, e, decide_eq_true (by omega), decide_eq_true rfl, decide_eq_true (show ns.Perm (rngI n) from h), List.all_eq_true.mpr]
  · rfl
  · intro d hd
    obtain ⟨i, hi, rfl⟩ := List.mem_map.mp hd
    have := h.mem.mp hi
    show (decide (0 ≤ i) && decide (i ≤ n - 1)) = true
    rw [decide_eq_true (by omega), decide_eq_true (by omega)]
    rfl
theorem mvD_long {ds : List PyData} (h : 12 < ds.length) : mvD (.tuple ds) = false := by
  show (decide (ds.length ≤ 12) && _) = false
  rw [decide_eq_false (by omega), Bool.false_and]
def spStore (K : PySem.W.Frag) : Sp := fun vs H Q _ => ∃ (a : Addr) (ns : List Int), vs = [.ref a] ∧ SqL K H a (ns.map V.int) ∧ ns.length ≤ 63 ∧ ∀ (S : Sr) (H' : Hp), Wd S H H' → Q (.ref S.a) H'
def spLaw (K : PySem.W.Frag) : Sp := fun vs H Q _ => ∃ (a : Addr) (ns : List Int), vs = [.ref a] ∧ SqL K H a (ns.map V.int) ∧ ns.length ≤ 63 ∧ ∀ H', Q (.bl true) H'
theorem spLaw_of {K : PySem.W.Frag} {H : Hp} {a : Addr} {ns : List Int} (hl : ns.length ≤ 63) (hS : SqL K H a (ns.map V.int)) : spLaw K [.ref a] H (fun v _ => v = .bl true) fun _ _ _ => False := ⟨a, ns, rfl, hS, hl, fun _ => rfl⟩
theorem cut_all {xs : List V} {n : Nat} (h : xs.length ≤ n) : cutV xs none (some (n : Int)) = xs := by
  unfold cutV
  rw [show HT.sIx xs.length xs.length (some (n : Int)) = min n xs.length from HT.sIx_nat xs.length xs.length n, HT.sIx_none, List.drop_zero, Nat.sub_zero, Nat.min_eq_right h]
  exact List.take_length
end Hd

namespace Hd
open PySem PySem.Spec PyProof.Rows L2

/-! ### the end of a walk while an exception is handled -/
section
variable {prog : Program} {w : World} {A : Around} {s : Shared}
theorem stop_raised {α : Type} {x1 : Addr} {Q : α → Shared → Prop} {E : Value → Shared → Prop} (hot : HotX.HotAt A x1 s.heap)
    (out : ∀ (a : Addr) (o : Obj) (g : Heap), g.get? a = some o → o.cls = .type "StopIteration" → (∀ b u, s.heap.get? b = some u → g.get? b = some u) → E (.ref a) { s with heap := g }) :
    wpAny (model prog w) A (newExc (.type "StopIteration") [] >>= fun e => (raiseNew e : Sem α)) Q E s := by
  obtain ⟨hd, o1, v1, g1, k1, c1⟩ := hot
  have up : ∀ {b : Addr} {u : Obj} {t r : Obj}, s.heap.get? b = some u → ((s.heap.push t).push r).get? b = some u := fun z => Heap.get?_push_of_some _ (Heap.get?_push_of_some _ z)
  apply wpAny_bind
  simp only [newExc, newTuple]
  apply wpAny_bind
  apply wpAny_newObj_type
  · apply wpAny_bind (m := firstArgMember _ _)
    refine wpAny_of_eq (a := Value.none) (by first | rfl | (simp only [firstArgMember]; rfl)) ?_
    apply wpAny_newObj_type
    · refine HotX.raiseNew_hot ⟨hd, o1, v1, up g1, k1, c1⟩ (Nat.ne_of_lt (Heap.lt_size (Heap.get?_push_of_some _ g1))) (Heap.get?_push_size _ rfl) rfl (by first | (simp; done) | (simp; omega)) ?_
      refine out _ _ _ (Heap.get?_update_self _ (Heap.get?_push_size _ rfl) rfl) rfl fun b u z => ?_
      rw [Heap.get?_update_other _ _ (Nat.ne_of_gt (Heap.lt_size (Heap.get?_push_of_some _ z)))]
      exact up z
    · size_fits
  · size_fits
theorem upd_hot {x1 it : Addr} {g : Obj → Obj} (n : x1 ≠ it) (c : HotX.HotAt A x1 s.heap) : HotX.HotAt A x1 (s.heap.update it g) := by
  obtain ⟨hd, o1, v1, g1, r⟩ := c
  exact ⟨hd, o1, v1, (Heap.get?_update_other _ _ (Ne.symm n)).trans g1, r⟩
theorem listEnd_hot {it l x1 : Addr} {i : Nat} {items : Array Value} {Q : Option Value → Shared → Prop} {E : Value → Shared → Prop} (hot : HotX.HotAt A x1 s.heap) (n : x1 ≠ it) (hit : s.heap.IsListIter it l i)
    (hl : s.heap.IsList l items) (hx : items[i]? = none) (hQ : ∀ g, Heap.ExtBut it s.heap g → Q none { s with heap := g }) : wpAny (model prog w) A (pyNext (.ref it)) Q E s := by
  have T := Heap.IsListIter.typeIs hit
  obtain ⟨oi, gi, ci, di⟩ := hit
  obtain ⟨ol, gl, cl, nl, dl⟩ := hl
  unfold pyNext
  apply wpAny_bind
  apply wpAny_attempt
  refine wpAny_callSpecial?_slot (name := Str.ofString "__next__") T slot_listiter_next ?_
  refine wpAny_call_entry slot_listiter_next T entry_listiter_next ?_ (args_listiter_next _)
  change wpAny _ _ (field (Value.ref it) 0 >>= _) _ _ _
  refine wpAny_bind (wpAny_field gi di (x := Value.ref l) rfl ?_)
  change wpAny _ _ (ite ((Value.ref l == Value.none) = true) _ _) _ _ _
  rw [if_neg (show ¬((Value.ref l == Value.none) = true) from fun z => Bool.noConfusion z)]
  change wpAny _ _ (field (Value.ref it) 1 >>= _) _ _ _
  refine wpAny_bind (wpAny_field gi di (x := Value.int i 0) rfl ?_)
  change wpAny _ _ (seqItems? (Value.ref l) >>= _) _ _ _
  refine wpAny_bind (wpAny_seqItems gl dl ?_)
  simp only [hx, Int.toNat_natCast]
  refine wpAny_bind (wpAny_rule (wpAny_bind (wpAny_setField gi di (by simp) ?_)))
  refine stop_raised (upd_hot (g := _) n hot : HotX.HotAt A x1 _) fun a o g go co k => ?_
  refine wpAny_bind (wpAny_isInstance (b := true) (T := "StopIteration") ⟨o, go, co⟩ isSubtype_stop (wpAny_pure (hQ g fun b u hb z => ?_)))
  exact k b u ((Heap.get?_update_other _ _ (Ne.symm hb)).trans z)
end
/-! ### walks over lists and tuples there -/
section
variable {P : Program} {w : World} {K : PySem.W.Frag} {tg : Expr}
theorem HotC.out {X : Cx} {pins : List (Addr × Obj)} {σ : L2.St} {H : Hp} {s : Shared} {b : Addr} (c : L2H.HotC X) (I : Inv X pins σ H s) (f : FpOk X pins H b) : ∃ x1, HotX.HotAt X.A x1 s.heap ∧ x1 ≠ b := by
  obtain ⟨p, ⟨hd, v1, k1, c1⟩, m⟩ := c
  obtain ⟨-, -, -, -, -, f5⟩ := f
  exact ⟨p.1, ⟨hd, p.2, v1, (I.pin p (List.mem_append_left _ m)).1, k1, c1⟩, f5 p (List.mem_append_left _ m)⟩
theorem walk_list (a it : Addr) : L2H.TurnH P w K tg (Itl K a) [it] it (fun i h => h.IsListIter it a i) := by
  constructor
  case mem => exact List.mem_singleton.mpr rfl
  case obj =>
    intro i h st b hb
    obtain rfl := List.mem_singleton.mp hb
    obtain ⟨o, e, -, d⟩ := st
    exact ⟨o, e, fun v z => Data.noConfusion (d.symm.trans z)⟩
  case keep => exact fun i h h' st k => st.at fun o e => k it (List.mem_singleton.mpr rfl) o e
  case self => exact fun A i s Q E st q => wpAny_pyIter_listiter st q
  case item =>
    rintro X rfl rfl rfl hc i pins s σ H E I fp st ⟨xs, x, sq, at_⟩
    obtain ⟨vs, rv, pl, -⟩ := I.list sq
    obtain ⟨u, hu, ru⟩ := rv.get at_
    obtain ⟨f0, f1, f2, f3, f4, f5⟩ := fp it (List.mem_singleton.mpr rfl)
    refine wpAny_pyNext_list_item st pl.isList (x := u) (by simpa using hu) fun g sg keep => ⟨u, rfl, ?_⟩
    have J : Inv X pins σ H { s with heap := g } := I.turned (t' := s.toks) (fun b o n z => (keep.2 b n).trans z) f0 f1 f3 f4 f5
    obtain ⟨o, e, c, d⟩ := id sg
    refine go_of (s := { s with heap := g }) e c d (by decide) ⟨x, H, J, ru, ⟨rfl, fun ys hy => ?_⟩, sg, fun b hb => (fp b hb).1⟩
    rw [I.list_inj hy sq]
    exact at_
  case done =>
    rintro X rfl rfl rfl hc i pins s σ H E I fp st ⟨xs, sq, le⟩
    obtain ⟨vs, rv, pl, -⟩ := I.list sq
    obtain ⟨x1, hot, ne⟩ := HotC.out hc I (fp it (List.mem_singleton.mpr rfl))
    obtain ⟨f0, f1, f2, f3, f4, f5⟩ := fp it (List.mem_singleton.mpr rfl)
    have hl := rv.length
    exact listEnd_hot hot ne st pl.isList (by simp; omega) fun g eb => ⟨rfl, I.turned (t' := s.toks) (fun b o n z => eb b o n z) f0 f1 f3 f4 f5⟩
end
section
variable {X : Cx} {tg l : Expr} {tl : TE}
theorem new_fp {pins : List (Addr × Obj)} {σ : L2.St} {H : Hp} {s : Shared} (I : Inv X pins σ H s) : ∀ b ∈ [s.heap.objs.size], FpOk X pins H b := fun b hb => by
  obtain rfl := List.mem_singleton.mp hb
  exact I.fpOk (Nat.le_refl _) (I.hok.fresh (Nat.le_refl _))
theorem ih_list (hl : PE X l tl) : L2H.PIH X tg l (iList X.K tl) := by
  constructor
  intro pins s σ H R I h
  apply thn (hl.run pins s σ H _ I h)
  rintro v s1 ⟨x, H1, I1, r1, a, rfl, ⟨xs, sq⟩, q⟩
  cases r1
  obtain ⟨vs, rv, pl, -⟩ := I1.list sq
  exact wpAny_pyIter_list pl.isList ⟨_, _, _, _, H1, rfl, I1.kept (t' := s1.toks) fun b o z => Heap.get?_push_of_some _ z, walk_list a _, ⟨_, Heap.get?_push_size _ rfl, rfl, rfl⟩, new_fp I1, q⟩
end
/-! ### comprehensions there -/
/-- a block's context that keeps what is pinned -/
abbrev blkH (X : Cx) (s : Shared) (H : Hp) (scope : Scope) (cenv : Env) (fp : List Addr) : Cx := (X.blk s H scope cenv fp).tr X.pn fun _ _ => False
section
variable {X : Cx} {pins : List (Addr × Obj)} {σ : L2.St} {H : Hp} {s : Shared}
theorem start_blkH {scope : Scope} {own : List (Str × Nat)} {fp : List Addr} {h' : Heap} (I : Inv X pins σ H s) (ce : Env) (cL : ce.locals = s.heap.objs.size) (k : ∀ b o, s.heap.get? b = some o → h'.get? b = some o)
    (J : Inv (X.blk s H scope ce fp) [] (wipe σ (own.map (·.2))) H { s with heap := h' }) : Inv (blkH X s H scope ce fp) [] (wipe σ (own.map (·.2))) H { s with heap := h' } := by
  refine Inv.toTry (X := X.blk s H scope ce fp) (pins := X.pn) (J.pins_of fun p hp => ?_) _
  obtain ⟨e, n, ne, nf, d⟩ := I.pin p (List.mem_append_left _ hp)
  refine ⟨k _ _ e, n, fun z => ?_, fun m => ?_, d⟩
  · have z' : p.1 = s.heap.objs.size := z.trans cL
    exact absurd (Heap.lt_size e) (by rw [z']; exact Nat.lt_irrefl _)
  · exact (List.mem_cons.mp (I.stkSub p.1 m)).elim ne nf
theorem pe_lcH {elt tg iter : Expr} {ifs : List Expr} {scope : Scope} {own : List (Str × Nat)} {pos : Pos} {wi : TI} {g : TG} {tt : TT} {te : TE} (hc : L2H.HotC X) (hN : X.N.Nodup) (hi : L2H.PIH X tg iter wi) (ok : BlkOk X.N X.env.scope scope own)
    (hg : ∀ (s : Shared) (H : Hp) (C : Addr) (cl : List (Str × Addr)) (fp : List Addr), PG (blkH X s H scope (compEnvC scope cl C X.env) fp) tg g)
    (ht : ∀ (s : Shared) (H : Hp) (C : Addr) (cl : List (Str × Addr)) (fp : List Addr), PTs (blkH X s H scope (compEnvC scope cl C X.env) fp) ifs tt)
    (he : ∀ (s : Shared) (H : Hp) (C : Addr) (cl : List (Str × Addr)) (fp : List Addr), PE (blkH X s H scope (compEnvC scope cl C X.env) fp) elt te) (hs : ∀ x, foldedSetIterable iter X.env x = pure x := by intro _; rfl) :
    PE X (.ListComp elt [⟨tg, iter, ifs, 0⟩] scope pos) (tLc wi g tt te (own.map (·.2))) := by
  constructor
  intro pins s σ H Q I h
  rw [eval_ListComp]
  have cells : ∀ y ∈ scope.names, y.2 = .free → ∃ c, X.env.cells.lookup y.1 = some c := fun y hy e => I.ok.has _ (ok.free y hy e)
  refine wpAny_comprehension_free (use := none) rfl hs (closure_ok cells) ok.kind (fun y hy e => (ok.uniq y hy).trans (congrArg some e)) (thn (hi.run pins s σ H _ I h) fun xv s1 hx => thn hx fun itv s2 h2 => ?_)
  obtain ⟨it, fp, tn, J, H2, rfl, I2, T, st2, f2, q⟩ := h2
  refine wpAny_newObj_type (newEnv_comp ?_) (by show 0 ≤ sizeLine; decide)
  obtain ⟨W, ⟨m0, w0⟩, turn⟩ := q s2.heap.objs.size (I2.hok.fresh (Nat.le_refl _))
  have up3 : ∀ b o, s2.heap.get? b = some o → (s2.heap.push { cls := .type "list", data := .seq ([] : List Value).toArray }).get? b = some o := fun b o e => Heap.get?_push_of_some _ e
  have I3 : Inv X pins σ (upd H2 s2.heap.objs.size (.lst [])) { s2 with heap := s2.heap.push { cls := .type "list", data := .seq ([] : List Value).toArray } } :=
    I2.laid (t' := s2.toks) up3 (Nat.le_refl _) ⟨Nat.zero_le _, [], 0, .nil, Heap.get?_push_size _ rfl⟩
  have f3 : ∀ b ∈ fp, FpOk X pins (upd H2 s2.heap.objs.size (.lst [])) b ∧ b < (s2.heap.push { cls := .type "list", data := .seq ([] : List Value).toArray }).objs.size := fun b hb => by
    obtain ⟨o, e, -⟩ := T.obj _ _ st2 b hb
    have lt := Heap.lt_size e
    refine ⟨⟨(upd_ne (Nat.ne_of_lt lt)).trans (f2 b hb).1, (f2 b hb).2⟩, ?_⟩
    rw [Heap.size_push]
    exact Nat.lt_succ_of_lt lt
  have nf3 : ∀ b ∈ fp, (upd H2 s2.heap.objs.size (.lst [])) b = none := fun b hb => (f3 b hb).1.1
  have st3 := T.keep _ _ _ st2 fun b _ o e => up3 b o e
  generalize hD : s2.heap.objs.size = D at *
  generalize hs3 : ({ s2 with heap := s2.heap.push { cls := .type "list", data := .seq ([] : List Value).toArray } } : Shared) = s3 at *
  have hh3 : s2.heap.push { cls := .type "list", data := .seq ([] : List Value).toArray } = s3.heap := by rw [← hs3]
  rw [hh3] at f3 st3
  have k4 : ∀ b o, s3.heap.get? b = some o → (pushCells (s3.heap.push { cls := .type "dict", data := .dict #[] }) scope.names).get? b = some o := fun b o e => pushCells_keeps _ _ _ _ (Heap.get?_push_of_some _ e)
  have J4 := block_start I3 ok hN f3
  generalize hcl : cellsFrom (s3.heap.objs.size + 1) scope.names (cloFrom X.env.cells scope.names []) = cl at J4
  have G := hg s3 (upd H2 D (.lst [])) s3.heap.objs.size cl fp
  have TT := ht s3 (upd H2 D (.lst [])) s3.heap.objs.size cl fp
  have EE := he s3 (upd H2 D (.lst [])) s3.heap.objs.size cl fp
  have I4 := start_blkH I3 (compEnvC scope cl s3.heap.objs.size X.env) rfl k4 J4
  have st4 := T.keep _ _ _ st3 fun b _ o e => k4 b o e
  have hotB : L2H.HotC (blkH X s3 (upd H2 D (.lst [])) scope (compEnvC scope cl s3.heap.objs.size X.env) fp) := hc
  change codeAny _ X.A (Code.compStart (.ListComp elt [⟨tg, iter, ifs, 0⟩] scope pos) 0 (Value.ref it) (Value.ref D) (compEnvC scope cl s3.heap.objs.size X.env))
    (compPost (model X.prog X.w) X.A X.xe none (EP X pins σ Q) (Value.ref D) s3.heap.objs.size) _
  generalize hce : compEnvC scope cl s3.heap.objs.size X.env = ce at *
  have eL : ce.locals = s3.heap.objs.size := by rw [← hce]; rfl
  generalize hs4 : ({ s3 with heap := pushCells (s3.heap.push { cls := .type "dict", data := .dict #[] }) scope.names } : Shared) = s4 at *
  have e4 : pushCells (s3.heap.push { cls := .type "dict", data := .dict #[] }) scope.names = s4.heap := by rw [← hs4]
  rw [e4] at st4
  generalize hH3 : upd H2 D (.lst []) = H3 at *
  have vs := own.map (·.2)
  have still : ∀ {τ : L2.St} {g : Hp} {z : Shared}, Inv (blkH X s3 H3 scope ce fp) [] τ g z → (∀ b ∈ fp, g b = none) → ∀ b ∈ fp, FpOk (blkH X s3 H3 scope ce fp) [] g b := fun {τ g z} J hn b hb =>
    ⟨hn b hb, (J.ok.exf b hb).1, J.ok.exfs b hb, .inl hb, fun x c e => (J.ok.exf b hb).2 x c e, fun p hp => (f3 b hb).1.2.2.2.2.2 p (List.mem_append_left _ (by rw [List.append_nil] at hp; exact hp))⟩
  have body : codeAny (model X.prog X.w) X.A (Code.compLoop (.ListComp elt [⟨tg, iter, ifs, 0⟩] scope pos) 0 (Value.ref it) (Value.ref D) ce) (compPost (model X.prog X.w) X.A X.xe none (EP X pins σ Q) (Value.ref D) s3.heap.objs.size) s4 := by
    refine compLoop_any (fun n z => ∃ i g, Inv (blkH X s3 H3 scope ce fp) [] (wipe σ (own.map (·.2))) g z ∧ tn i z.heap ∧ (∀ b ∈ fp, g b = none) ∧ W i n g) ?_ m0 ⟨0, H3, I4, st4, nf3, w0⟩
    rintro n s5 ⟨i, H5, I5, st5, n5, w5⟩
    obtain ⟨stop, qq⟩ | ⟨go, Nx, hNx, step⟩ := turn i n H5 w5
    · refine thnF (T.done (blkH X s3 H3 scope ce fp) rfl rfl rfl hotB i [] s5 _ H5 (fun _ _ => False) I5 (still I5 n5) st5 stop) ?_
      rintro _ s6 ⟨rfl, I6⟩
      have I7 : Inv X pins σ H5 s6 := I3.call' (ch := fp) I6.os I6.base I6.hok I6.bare fun b hb => ⟨(f3 b hb).1.2.2.2.1, (f3 b hb).1.2.1, (f3 b hb).1.2.2.2.2⟩
      have n6 : H5 s3.heap.objs.size = none := by
        rw [← eL]
        exact I6.free
      obtain ⟨m, hn, -⟩ := I6.loc
      obtain ⟨f0, f1, f2', f4, f5, f6⟩ := I3.fpOk (Nat.le_refl _) n6
      refine ⟨m, by rw [← eL]; exact hn, fun g sb => ⟨.ref D, H5, ?_, rfl, qq⟩⟩
      exact I7.turned (t' := s6.toks) (fun b o nb e => (sb.2 b nb).trans e) f0 f1 f4 f5 f6
    · refine thnF (T.item (blkH X s3 H3 scope ce fp) rfl rfl rfl hotB i [] s5 _ H5 (fun _ _ => False) I5 (still I5 n5) st5 go) ?_
      rintro _ s6 ⟨u, rfl, h6⟩
      refine thnF h6 ?_
      rintro - s7 ⟨x, H7, I7, r7, y7, st7, n7⟩
      have K7 := I7.pinned (still I7 n7) (T.obj _ _ st7)
      refine thnF (G.run _ s7 _ H7 x u _ K7 r7 (step x H7 y7)) ?_
      rintro - s8 ⟨σ8, H8, I8, w8, q8⟩
      have pinned : ∀ {z : Shared} {g : Hp}, Inv (blkH X s3 H3 scope ce fp) ([] ++ pinsAt fp s7.heap) σ8 g z → ∀ b ∈ fp, ∀ o, s7.heap.get? b = some o → z.heap.get? b = some o ∧ g b = none := fun {z g} J b hb o e => by
        have at_ := J.pin (b, o) (List.mem_append_right _ (List.mem_append_right _ (mem_pinsAt hb e)))
        exact ⟨at_.1, at_.2.1⟩
      have again : ∀ {z : Shared} {g : Hp}, Inv (blkH X s3 H3 scope ce fp) ([] ++ pinsAt fp s7.heap) σ8 g z → Nx g → ∃ m, m < n ∧ ∃ i g, Inv (blkH X s3 H3 scope ce fp) [] (wipe σ (own.map (·.2))) g z ∧ tn i z.heap ∧ (∀ b ∈ fp, g b = none) ∧ W i m g := by
        intro z g J nx
        obtain ⟨m', lt, w'⟩ := hNx g nx
        have len : (wipe σ (own.map (·.2))).length = σ8.length := by rw [← w8, wipe_length]
        refine ⟨m', lt, i + 1, g, J.unpinned.weak len (fun j v e => ?_), T.keep _ _ _ st7 fun b hb o e => (pinned J b hb o e).1, fun b hb => ?_, w'⟩
        · exact (wipe_some (w8 ▸ e)).1
        · obtain ⟨o, e, -⟩ := T.obj _ _ st7 b hb
          exact (pinned J b hb o e).2
      refine thnF (TT.run _ s8 σ8 H8 _ I8 q8) ?_
      rintro b s9 ⟨H9, I9, q9⟩
      cases b
      · exact again I9 q9
      · refine thnF (EE.run _ s9 σ8 H9 _ I9 q9) ?_
        rintro z s10 ⟨y, H10, I10, r10, acc, at_, lt, nx⟩
        exact app_ok (X := blkH X s3 H3 scope ce fp) I10 at_ lt r10 fun s11 I11 => again I11 nx
  exact codeAny_compStart_list body (T.self X.A 0 _ _ _ st4 body)
end
end Hd

namespace Hd
open PySem PySem.Spec PyProof.Rows L2

/-! ### own exception classes -/
/-- what the written part tells of such a class: x its name, D its place -/
structure Ec (K : PySem.W.Frag) (mg : Str → Option Value) (x : Str) (D : Addr) : Prop where
  gC : mg x = some (.ref D)
  ox : OexC K D
  xf : XfC K D
  ca : PySem.W.findIn K (.ref D) "__class__" = some (some (.builtin "object.__class__"))
  sg : PySem.W.specialIn K (.builtin "object.__class__") "__get__" = some (some (.builtin "getset_descriptor.__get__"))
  tk : PySem.W.takesIn K (.builtin "object.__class__") = some true
  mo : PySem.W.mroIn K D (.type "object") = some true
  ic : PySem.W.isClsIn K D = true
/-- the class named x answers b to isinstance of an instance of the class at D -/
def Isx (K : PySem.W.Frag) (mg : Str → Option Value) (D : Addr) (x : Str) (b : Bool) : Prop := ∃ C : Addr, mg x = some (.ref C) ∧ PySem.W.kitOne K (.ref D) (.ref C) = some b
/-- an exception at p of the class at D, its attributes fs standing at d -/
structure ErrAt (D d : Addr) (fs : List (Str × V)) (H : Hp) (p : Addr × Obj) : Prop where
  cls : p.2.cls = .ref D
  dict : p.2.dict = some d
  data : ∃ vs, p.2.data = .fields vs
  at_ : H d = some (.xd fs)
theorem ErrAt.up {D d : Addr} {fs : List (Str × V)} {H H' : Hp} {p : Addr × Obj} (e : ErrAt D d fs H p) (h : H' d = H d) : ErrAt D d fs H' p := ⟨e.cls, e.dict, e.data, h.trans e.at_⟩
section
variable {X : Cx} {p : Addr × Obj} {D d : Addr} {fs : List (Str × V)}
theorem ErrAt.inst {pins : List (Addr × Obj)} {σ : L2.St} {H : Hp} {s : Shared} (e : ErrAt D d fs H p) (hp : p ∈ X.pn) (I : Inv X pins σ H s) : ∃ od mA, PySem.W.InstAt s.heap p.1 p.2 D (some od) ∧ s.heap.Ns1 d mA ∧ (∀ f, RelO (fs.lookup f) (mA f)) ∧ ∀ n, PySem.W.lookIn n od = some (mA n) := by
  have at_ : ObjOk X.prog X.w H s.heap d (.xd fs) := I.hok d _ e.at_
  obtain ⟨mA, hns, hr⟩ := at_
  obtain ⟨od, ho, hl⟩ := lookIn_ns hns
  obtain ⟨vs, dv⟩ := e.data
  refine ⟨od, mA, ⟨(I.pin p (List.mem_append_left _ hp)).1, e.cls, ?_, ?_⟩, hns, hr, hl⟩
  · unfold PySem.W.notCls
    rw [dv] <;> rfl
  · rw [e.dict]
    exact ho
/-- isinstance of it -/
def rIsErr (K : PySem.W.Frag) (p : Addr × Obj) (D d : Addr) : List V → Hp → VK → Prop := fun xs H Q => ∃ (c : V) (cv : Value) (b : Bool) (fs : List (Str × V)), xs = [.ref p.1, c] ∧ (∀ u, RelV c u → u = cv) ∧ PySem.W.kitOne K (.ref D) cv = some b ∧ ErrAt D d fs H p ∧ Q (.bl b) H
theorem call_isErr {x : Str} (T : Ec X.K X.mg x D) (hp : p ∈ X.pn) : CallR X (.builtin "isinstance") (rIsErr X.K p D d) := by
  rintro pins s σ H xs us Q I r ⟨c, cv, b, fs, rfl, hcv, e, at_, q⟩
  cases r with
  | cons r1 rr =>
    cases rr with
    | cons r2 rr =>
      cases rr
      cases r1
      obtain rfl := hcv _ r2
      obtain ⟨od, mA, J, -⟩ := at_.inst hp I
      have kit := PySem.W.kitx_exc (x := p.1) (ox := p.2) (od := some od) T.ic T.xf.ga T.xf.gg T.xf.exC T.ca T.sg T.tk T.mo
      exact PySem.W.kia_one kit I.kIn J e (fun z => nomatch z) fun tk => ⟨.bl b, H, I.kept (t' := tk) fun _ _ z => z, rfl, q⟩
end
/-! ### defs called while an exception is handled; their promise may speak of that exception -/
abbrev SpH := Addr × Obj → Sp
structure FnE (P : Program) (w : World) (K : PySem.W.Frag) (mg : Str → Option Value) (base : Heap) (k : Nat) (f : Addr) (fd : FuncData) (ps : List Str) (sp : SpH) : Prop where
  len : ∀ p vs H Q E, sp p vs H Q E → vs.length = ps.length
  go : ∀ (A : Around) (outer : List Env) (s : Shared) (H : Hp) (args : Args) (us : List Value) (vs : List V) (Q : VK) (E : XK) (p : Addr × Obj), L2H.RoomH k A → L2H.Hot1 A p → L2H.PinOk outer H s p → Env0 P w K mg base A outer s H → BindsTo s fd args (ps.zip us) →
    Vals vs us → sp p vs H Q E → codeAny (model P w) A (.call (.ref f) args) (CR CX0 outer P w H s Q E) s
def CalE (P : Program) (w : World) (K : PySem.W.Frag) (mg : Str → Option Value) (base : Heap) (x : Str) (k : Nat) (ps : List Str) (sp : SpH) : Prop :=
  ∃ f fd, FnE P w K mg base k f fd ps sp ∧ mg x = some (.ref f) ∧ PySem.W.keepIn K (.ref f) = true ∧ Binds K fd ps []
section
variable {P : Program} {w : World} {K : PySem.W.Frag} {mg : Str → Option Value} {base : Heap} {x : Str} {st : Stmt} {ps N : List Str} {k : Nat} {sp : SpH}
theorem Def.calE (D : Def K mg x st ps) (S : FnScope N ps (defScope st)) (len : ∀ p vs H Q E, sp p vs H Q E → vs.length = ps.length)
    (hbody : ∀ (f : Addr) (cdv : Value) (A : Around) (outer : List Env) (s : Shared) (H : Hp) (vs : List V) (Q : VK) (E : XK) (p : Addr × Obj), L2H.Hot1 A p → L2H.RoomH k (A.deeper (envOfC x (defScope st) s.heap.objs.size f cdv)) → sp p vs H Q E →
      ∃ t, PSs (L2H.cxH CX0 P w K mg base N x (defScope st) f cdv A outer s H E p).nox (defBody st) t ∧ t { nx := fun _ H' => Q .non H', rt := Q } (start N vs) H) : CalE P w K mg base x (k + 1) ps sp := by
  obtain ⟨f, fd, F, g, b⟩ := D
  refine ⟨f, fd, ⟨len, ?_⟩, g, F.kp, b⟩
  obtain ⟨oc, od, kV, doc, pm, an, cdv, ct, osl, rfl, lk, hcd⟩ := F.ex
  intro A outer s H args us vs Q E p hr hot pin e0 hb r hsp
  have KX : K.In s.heap := e0.mod.kin.keeps fun b o e => (e0.bs b o e).1
  have free : s.heap.NoLimit := e0.mod.nolimit.keeps fun b o e => (e0.bs b o e).1
  have kinds : ∀ y ∈ ps.zip us, (defScope st).names.lookup y.1 = some .local ∨ ((defScope st).names.lookup y.1 = some .cell ∧ ((cellsFrom (s.heap.objs.size + 1) (defScope st).names []).lookup y.1).isSome = true) := fun ⟨n, v⟩ hy =>
    (S.par n (List.of_mem_zip hy).1).imp id fun q => ⟨q, PySem.W.cellsFrom_some _ _ _ (.inl q)⟩
  apply codeAny_call_function hr.depth (KX _ _ lk) rfl S.co S.gen rfl (PySem.W.codeRec_of KX hcd) (hb _ _ _ _ _)
  refine wpAny_newFunctionEnv_cells S.kind kinds ?_
  rintro env rfl s1 x
  refine ⟨free.keeps x.toInCall.keep, codeAny_func ?_⟩
  obtain ⟨t, ht, hq⟩ := hbody f cdv A outer s H vs Q E p hot (hr.deeper _) hsp
  have I := L2H.inv_startH (CX := CX0) (E := E) S pin e0 (len _ _ _ _ _ hsp) r x
  refine wpAny_mono (ht.nox.run [] s1 (start N vs) H _ I hq) ?_ fun e s' hs => hs
  intro fl s' hs
  cases fl
  · obtain ⟨σ', H', J, q⟩ := hs
    exact ⟨V.non, H', J.os, J.bare, J.base, J.hok, rfl, q⟩
  · obtain ⟨_, _, _, q⟩ := hs
    exact q.elim
  · obtain ⟨_, _, _, q⟩ := hs
    exact q.elim
  · obtain ⟨v, σ', H', J, rv, q⟩ := hs
    exact ⟨v, H', J.os, J.bare, J.base, J.hok, rv, q⟩
end
section
variable {X : Cx} {x : Str} {q pos : Pos} {e : Expr} {es : List Expr} {k : Nat} {ps : List Str} {sp : SpH} {t : TA} {p : Addr × Obj}
theorem pe_calE (C : CalE X.prog X.w X.K X.mg X.base x k ps sp) (hr : L2H.RoomH k X.A) (hot : L2H.Hot1 X.A p) (hp : p ∈ X.pn) (hg : Gl X x) (ha : PA X (e :: es) t) (hdb : (x == ("__debug__" : Str)) = false := by decide)
    (he : starEach (e :: es) X.env = (false, eval e X.env) :: starEach es X.env := by rfl) (hpl : (backTo pos (starEach es X.env)).any (·.1) = false := by rfl) :
    PE X (.Call (.Name x q) (e :: es) [] pos) (tCall (sp p) [] E0 t) := by
  obtain ⟨f, fd, F, g, kp, b⟩ := C
  constructor
  intro pins s σ H Q I h
  apply wpAny_Call_Name_kw (ld_glob I hg g _ hdb)
  refine PySem.W.callWith_K (h₀ := X.base) I.ok.mod.kin kp (thn (ha.run pos pins s σ H _ I h) ?_) he hpl
  rintro us s1 ⟨vs, H1, I1, r, sq⟩
  rw [List.append_nil] at sq
  refine ⟨I1.kIn, wpAny_call ?_⟩
  have ln : us.length = ps.length := r.length.symm.trans (F.len _ _ _ _ _ sq)
  have bd := b s1 us I1.kIn ((congrArg List.length (List.append_nil us)).trans ln)
  rw [List.append_nil] at bd
  obtain ⟨p1, p2, p3, p4, p5⟩ := I1.pin p (List.mem_append_left _ hp)
  have pin : L2H.PinOk X.stack H1 s1 p := ⟨p1, p2, fun m => (List.mem_cons.mp (I1.stkSub p.1 m)).elim p3 p4, p5⟩
  refine codeAny_mono (F.go X.A X.stack s1 H1 ⟨us, []⟩ us vs Q E0 p hr hot pin I1.env0 bd r sq) ?_
  intro res s' hq
  cases res with
  | error _ => exact hq.elim
  | ok fl =>
    cases fl
    · exact hq.elim
    · exact hq.elim
    · exact hq.elim
    · exact I1.after hq
end
end Hd

namespace Hd
open PySem PySem.Spec PyProof.Rows L2

/-! ### defs that may raise -/
theorem nothing_out {X : Cx} : Passes (L2N.CX X.prog X.w) X E0 := by
  rintro pins σ H s e s' I ⟨_, _, _, _, _, _, _, _, _, _, _, _, z⟩
  exact z.elim
theorem nothing_taken {X : Cx} : L2N.Takes X (fun _ _ _ _ => False) := by
  rintro u s' ⟨_, _, _, _, _, _, _, _, _, _, _, _, _, _, _, _, z⟩
  exact z.elim
def CalX (P : Program) (w : World) (K : PySem.W.Frag) (mg : Str → Option Value) (base : Heap) (x : Str) (k : Nat) (ps : List Str) (sp : Sp) : Prop :=
  ∃ f fd, FnOk P w K mg base (L2N.CX P w) k f fd ps sp ∧ mg x = some (.ref f) ∧ PySem.W.keepIn K (.ref f) = true ∧ Binds K fd ps []
section
variable {P : Program} {w : World} {K : PySem.W.Frag} {mg : Str → Option Value} {base : Heap} {x : Str} {st : Stmt} {ps N : List Str} {k : Nat} {sp : Sp}
theorem Def.calX (D : Def K mg x st ps) (S : FnScope N ps (defScope st)) (len : ∀ vs H Q E, sp vs H Q E → vs.length = ps.length)
    (hbody : ∀ (f : Addr) (cdv : Value) (A : Around) (outer : List Env) (s : Shared) (H : Hp) (vs : List V) (Q : VK) (E : XK), Room k (A.deeper (envOfC x (defScope st) s.heap.objs.size f cdv)) → sp vs H Q E →
      ∃ t, PSs (cxOf (L2N.CX P w) P w K mg base N x (defScope st) f cdv A outer s H E) (defBody st) t ∧ t { nx := fun _ H' => Q .non H', rt := Q } (start N vs) H) : CalX P w K mg base x (k + 1) ps sp := by
  obtain ⟨f, fd, F, g, b⟩ := D
  have kp := F.kp
  obtain ⟨oc, od, kV, doc, pm, an, cdv, ct, osl, rfl, lk, hcd⟩ := F.ex
  exact ⟨f, _, fn_of lk hcd S len fun A outer s H vs Q E hr h => hbody f cdv A outer s H vs Q E hr h, g, kp, b⟩
end
section
variable {X : Cx} {x : Str} {p pos : Pos} {e : Expr} {es : List Expr} {k : Nat} {ps : List Str} {sp : Sp} {t : TA}
/-- within a try, or in a def that lets it out -/
theorem pe_calX {W : WX} (C : CalX X.prog X.w X.K X.mg X.base x k ps sp) (tk : L2N.Takes X W) (hr : Room k X.A) (hg : Gl X x) (ha : PA X (e :: es) t) (hdb : (x == ("__debug__" : Str)) = false := by decide)
    (he : starEach (e :: es) X.env = (false, eval e X.env) :: starEach es X.env := by rfl) (hpl : (backTo pos (starEach es X.env)).any (·.1) = false := by rfl) :
    PE X (.Call (.Name x p) (e :: es) [] pos) (tCallS sp (WE W) t) := by
  obtain ⟨f, fd, F, g, kp, b⟩ := C
  exact pe_callS F hr hg g kp b (fun σ => L2N.passAt tk σ) ha hdb he hpl
end
/-! ### own exceptions made where nothing is handled -/
section
variable {X : Cx} {C fI : Addr} {k : Nat} {fd : FuncData} {ps : List Str} {sp : Sp} {e : Expr} {es : List Expr} {ta : TA} {p pos : Pos} {x : Str}
theorem mk_calm (T : OexC X.K C) (iC : PySem.W.findIn X.K (.ref C) "__init__" = some (some (.ref fI))) (tI : PySem.W.typeIn X.K (.ref fI) = some (.type "function")) (F1 : FnOk X.prog X.w X.K X.mg X.base CX0 k fI fd ps sp) (hr : Room (k + 1) X.A)
    (hb : Binds X.K fd ps []) (hg : Gl X x) (hm : X.mg x = some (.ref C)) (ha : PA X (e :: es) ta) (hdb : (x == ("__debug__" : Str)) = false := by decide)
    (he : starEach (e :: es) X.env = (false, eval e X.env) :: starEach es X.env := by rfl) (hpl : (backTo pos (starEach es X.env)).any (·.1) = false := by rfl) : L2N.PMk X (.Call (.Name x p) (e :: es) [] pos) (tMkO C sp [] ta) := by
  rintro pins s σ H Q I h
  obtain ⟨nm, q, N, bs, bm, sn, sub, ab, col, dd, k0, k1, k2, k3, k5, hC, hbm⟩ := T.cls
  apply wpAny_Call_Name_kw (ld_glob I hg hm _ hdb)
  refine PySem.W.callWith_K (h₀ := X.base) I.ok.mod.kin T.kC (thn (ha.run pos pins s σ H _ I h) ?_) he hpl
  rintro us ⟨hp, g, dr, tk, os⟩ ⟨vs, H1, I1, r1, hz, q1⟩
  refine ⟨I1.kIn, ?_⟩
  change wpAny _ _ (call (.ref C) us) _ _ _
  generalize hn : hp.objs.size + 1 = a
  have big : hp.objs.size ≤ a := by omega
  have new : H1 a = none := I1.hok.fresh big
  have sq := q1 a new
  rw [List.append_nil] at sq
  have up : ∀ b o, hp.get? b = some o → ((hp.push (PySem.W.kdv_tup us)).push (PySem.HandSPX.excO C hp.objs.size)).get? b = some o := fun b o z => Heap.get?_push_of_some _ (Heap.get?_push_of_some _ z)
  have at_ : ((hp.push (PySem.W.kdv_tup us)).push (PySem.HandSPX.excO C hp.objs.size)).get? a = some (PySem.HandSPX.excO C hp.objs.size) := by subst hn; heap_get
  have I2 : Inv X pins σ (upd H1 a (exo a C none)) ⟨(hp.push (PySem.W.kdv_tup us)).push (PySem.HandSPX.excO C hp.objs.size), g, dr, tk, os⟩ := I1.laid (t' := tk) up big (exo_ok at_)
  have r2 : Vals (V.ref a :: vs) (Value.ref a :: us) := .cons rfl r1
  have ln : (Value.ref a :: us).length = ps.length := r2.length.symm.trans (F1.len _ _ _ _ sq)
  have bd := hb ⟨(hp.push (PySem.W.kdv_tup us)).push (PySem.HandSPX.excO C hp.objs.size), g, dr, tk, os⟩ (Value.ref a :: us) I2.kIn ((congrArg List.length (List.append_nil _)).trans ln)
  rw [List.append_nil] at bd
  have few : us.length ≤ sizeLine := by
    have := r1.length
    rw [sizeLine_eq]
    omega
  subst hn
  refine wpAny_call (PySem.HandSPX.call_own F.excBase_ValueError (fun Y => PySem.HandSPX.refsVE_contains Y bm hbm) (I1.kIn _ _ hC) (PySem.W.looks_findIn I1.kIn iC) (fun self => PySem.W.bind_fn I1.kIn self tI) few ?_)
  refine codeAny_mono (F1.run _ X.stack _ _ ⟨_, []⟩ _ _ _ (fun _ _ _ => False) (hr.make C us []) (I2.env0.make C us []) bd r2 sq) ?_
  intro res s' hq
  cases res with
  | error _ => exact hq.elim
  | ok fl =>
    cases fl
    · exact hq.elim
    · exact hq.elim
    · exact hq.elim
    · obtain ⟨v, H2, os2, bare2, un2, hok2, rv, rfl, d, fs, ea, ed, hd1, q2⟩ := hq
      obtain ⟨h2, g2, d2, t2, os'⟩ := s'
      obtain ⟨t0, G, J, kG, ge, hoe, na⟩ := mk_end0 (d2 := d2) (t2 := t2) I1 big up un2 hok2 os2 bare2 ea ed hd1
      refine ⟨rv, _, _, _, ⟨G, g2, d2, t2, os'⟩, _, .ref C, some d, rfl, J, kG, ge, hoe, ⟨rfl, rfl, ?_⟩, rfl, rfl, na, rfl, bare2, raises_own T.exC T.tyC, q2⟩
      intro vs hv
      cases hv
      rfl
end
/-! ### __init__ that keeps its arguments, one after the other -/
def clsB (s : Stmt) : List Stmt := match s with
  | .ClassDef _ _ _ b _ _ _ _ _ _ _ => b
  | _ => []
/-- the class named x at D, and its __init__ -/
structure Xc (K : PySem.W.Frag) (mg : Str → Option Value) (x q : Str) (st : Stmt) (ps : List Str) (D : Addr) : Prop where
  ec : Ec K mg x D
  ini : ∃ fI fd, PySem.W.findIn K (.ref D) "__init__" = some (some (.ref fI)) ∧ PySem.W.typeIn K (.ref fI) = some (.type "function") ∧ Fun K "__init__" q st fI fd ∧ Binds K fd ps []
  no : ∀ f ∈ ps.tail, PySem.W.findIn K (.ref D) f = some none
section
variable {X : Cx} {K : PySem.W.Frag} {mg : Str → Option Value} {x q f g : Str} {st : Stmt} {D : Addr} {P : Program} {w : World} {base : Heap} {e : Expr} {es : List Expr} {ta : TA} {p pos : Pos}
def spIni (D : Addr) (gs : List Str) : Sp := fun vs H Q _ => ∃ (a : Addr) (us : List V), vs = .ref a :: us ∧ us.length = gs.length ∧ H a = some (exo a D none) ∧ ∀ dx, H dx = none → dx ≠ a → Q .non (upd (upd H dx (exd dx ((gs.zip us).reverse))) a (exo a D (some dx)))
theorem ini_end {gs : List Str} {us : List V} {H1 : Hp} {Q : XK} {E : XK} (h1 : us.length = gs.length) (hl : us.length ≤ 1000) (q : ∀ d, H1 d = none → Q (.ref D) (some d) (upd H1 d (.xd ((gs.zip us).reverse)))) :
    us.length ≤ 1000 ∧ ∀ a, H1 a = none → spIni D gs (.ref a :: (us ++ [])) (upd H1 a (exo a D none)) (fun v H2 => v = .non ∧ ∃ (d : Addr) (fs : List (Str × V)), H2 a = some (exo a D (some d)) ∧ H2 d = some (exd d fs) ∧ H1 d = none ∧ Q (.ref D) (some d) (upd (del H2 a) d (.xd fs))) E := by
  refine ⟨hl, fun a ha => ⟨a, us, by rw [List.append_nil], h1, upd_same, fun dx hdx ne => ⟨rfl, dx, _, upd_same, (upd_ne ne).trans upd_same, ?_, ?_⟩⟩⟩
  · rw [upd_ne ne] at hdx
    exact hdx
  · rw [upd_ne ne] at hdx
    have e : upd (del (upd (upd (upd H1 a (exo a D none)) dx (exd dx ((gs.zip us).reverse))) a (exo a D (some dx))) a) dx (.xd ((gs.zip us).reverse)) = upd H1 dx (.xd ((gs.zip us).reverse)) := by
      funext b
      by_cases h : b = dx
      · rw [h, upd_same, upd_same]
      · rw [upd_ne h, upd_ne h]
        by_cases k : b = a
        · rw [k, del_same, ha]
        · rw [del_ne k, upd_ne k, upd_ne h, upd_ne k]
    rw [e]
    exact q dx hdx
theorem ini1 {f : Str} (S : FnScope ["self", f] ["self", f] (defScope st)) (hb : ∃ p00 p01 p02 p03, defBody st = [.Assign [.Attribute (.Name "self" p00) f p01] (.Name f p02) p03])
    (T : OexC K D) (vs0 : (defScope st).names.lookup ("self" : Str) = some NameKind.local) (vf : (defScope st).names.lookup f = some NameKind.local) (df : (f == ("__debug__" : Str)) = false) (cf : (f == ("__classdict__" : Str)) = false) (nof : PySem.W.findIn K (.ref D) f = some none)
    {fI : Addr} {fd : FuncData} (F : Fun K "__init__" q st fI fd) : FnOk P w K mg base CX0 1 fI fd ["self", f] (spIni D [f]) := by
  obtain ⟨p00, p01, p02, p03, hb⟩ := hb
  refine F.ok S ?_ ?_
  · rintro vs H Q E ⟨a, us, rfl, l, -⟩
    rw [List.length_cons, l] <;> rfl
  · rintro cdv A outer s H vs Q E hr ⟨a, us, rfl, l, ea, q⟩
    obtain ⟨u, rfl⟩ : ∃ u, us = [u] := by
      match us, l with
      | [u], _ => exact ⟨u, rfl⟩
    rw [hb]
    refine ⟨_, (pss_one (ps_ost (pv 0 rfl (.inl vs0)) (pv 1 rfl (.inl vf) df cf))), ?_⟩
    exact ⟨_, rfl, _, rfl, a, D, rfl, T, nof, .inl ⟨ea, fun dx n ne => q dx n ne⟩⟩
theorem ini2 {f g : Str} (S : FnScope ["self", f, g] ["self", f, g] (defScope st)) (hb : ∃ p00 p01 p02 p03 p10 p11 p12 p13, defBody st = [.Assign [.Attribute (.Name "self" p00) f p01] (.Name f p02) p03, .Assign [.Attribute (.Name "self" p10) g p11] (.Name g p12) p13])
    (T : OexC K D) (vs0 : (defScope st).names.lookup ("self" : Str) = some NameKind.local) (vf : (defScope st).names.lookup f = some NameKind.local) (df : (f == ("__debug__" : Str)) = false) (cf : (f == ("__classdict__" : Str)) = false) (nof : PySem.W.findIn K (.ref D) f = some none) (vg : (defScope st).names.lookup g = some NameKind.local) (dg : (g == ("__debug__" : Str)) = false) (cg : (g == ("__classdict__" : Str)) = false) (nog : PySem.W.findIn K (.ref D) g = some none)
    {fI : Addr} {fd : FuncData} (F : Fun K "__init__" q st fI fd) : FnOk P w K mg base CX0 1 fI fd ["self", f, g] (spIni D [f, g]) := by
  obtain ⟨p00, p01, p02, p03, p10, p11, p12, p13, hb⟩ := hb
  refine F.ok S ?_ ?_
  · rintro vs H Q E ⟨a, us, rfl, l, -⟩
    rw [List.length_cons, l] <;> rfl
  · rintro cdv A outer s H vs Q E hr ⟨a, us, rfl, l, ea, q⟩
    obtain ⟨u, v, rfl⟩ : ∃ u v, us = [u, v] := by
      match us, l with
      | [u, v], _ => exact ⟨u, v, rfl⟩
    rw [hb]
    refine ⟨_, (pss_cons (ps_ost (pv 0 rfl (.inl vs0)) (pv 1 rfl (.inl vf) df cf)) (pss_one (ps_ost (pv 0 rfl (.inl vs0)) (pv 2 rfl (.inl vg) dg cg)))), ?_⟩
    refine ⟨_, rfl, _, rfl, a, D, rfl, T, nof, .inl ⟨ea, fun dx n ne => ?_⟩⟩
    refine ⟨_, rfl, _, rfl, a, D, rfl, T, nog, .inr ⟨dx, _, upd_same, (upd_ne ne).trans upd_same, (by simp), ?_⟩⟩
    have r := q dx n ne
    have e : upd (upd (upd H dx (exd dx [(f, u)])) a (exo a D (some dx))) dx (exd dx [(g, v), (f, u)]) = upd (upd H dx (exd dx [(g, v), (f, u)])) a (exo a D (some dx)) := by
      funext b
      by_cases h : b = dx
      · rw [h, upd_same, upd_ne ne, upd_same]
      · by_cases k : b = a
        · simp only [k, upd_same, upd_ne (Ne.symm ne)]
        · simp only [upd_ne h, upd_ne k]
    show Q .non (upd (upd (upd H dx (exd dx [(f, u)])) a (exo a D (some dx))) dx (exd dx [(g, v), (f, u)]))
    rw [e]
    exact r
theorem ini3 {f g k : Str} (S : FnScope ["self", f, g, k] ["self", f, g, k] (defScope st)) (hb : ∃ p00 p01 p02 p03 p10 p11 p12 p13 p20 p21 p22 p23, defBody st = [.Assign [.Attribute (.Name "self" p00) f p01] (.Name f p02) p03, .Assign [.Attribute (.Name "self" p10) g p11] (.Name g p12) p13, .Assign [.Attribute (.Name "self" p20) k p21] (.Name k p22) p23])
    (T : OexC K D) (vs0 : (defScope st).names.lookup ("self" : Str) = some NameKind.local) (vf : (defScope st).names.lookup f = some NameKind.local) (df : (f == ("__debug__" : Str)) = false) (cf : (f == ("__classdict__" : Str)) = false) (nof : PySem.W.findIn K (.ref D) f = some none) (vg : (defScope st).names.lookup g = some NameKind.local) (dg : (g == ("__debug__" : Str)) = false) (cg : (g == ("__classdict__" : Str)) = false) (nog : PySem.W.findIn K (.ref D) g = some none) (vk : (defScope st).names.lookup k = some NameKind.local) (dk : (k == ("__debug__" : Str)) = false) (ck : (k == ("__classdict__" : Str)) = false) (nok : PySem.W.findIn K (.ref D) k = some none)
    {fI : Addr} {fd : FuncData} (F : Fun K "__init__" q st fI fd) : FnOk P w K mg base CX0 1 fI fd ["self", f, g, k] (spIni D [f, g, k]) := by
  obtain ⟨p00, p01, p02, p03, p10, p11, p12, p13, p20, p21, p22, p23, hb⟩ := hb
  refine F.ok S ?_ ?_
  · rintro vs H Q E ⟨a, us, rfl, l, -⟩
    rw [List.length_cons, l] <;> rfl
  · rintro cdv A outer s H vs Q E hr ⟨a, us, rfl, l, ea, q⟩
    obtain ⟨u, v, z, rfl⟩ : ∃ u v z, us = [u, v, z] := by
      match us, l with
      | [u, v, z], _ => exact ⟨u, v, z, rfl⟩
    rw [hb]
    refine ⟨_, (pss_cons (ps_ost (pv 0 rfl (.inl vs0)) (pv 1 rfl (.inl vf) df cf)) (pss_cons (ps_ost (pv 0 rfl (.inl vs0)) (pv 2 rfl (.inl vg) dg cg)) (pss_one (ps_ost (pv 0 rfl (.inl vs0)) (pv 3 rfl (.inl vk) dk ck))))), ?_⟩
    refine ⟨_, rfl, _, rfl, a, D, rfl, T, nof, .inl ⟨ea, fun dx n ne => ?_⟩⟩
    refine ⟨_, rfl, _, rfl, a, D, rfl, T, nog, .inr ⟨dx, _, upd_same, (upd_ne ne).trans upd_same, (by simp), ?_⟩⟩
    refine ⟨_, rfl, _, rfl, a, D, rfl, T, nok, .inr ⟨dx, _, (upd_ne (Ne.symm ne)).trans upd_same, upd_same, (by simp), ?_⟩⟩
    have r := q dx n ne
    have e : upd (upd (upd (upd H dx (exd dx [(f, u)])) a (exo a D (some dx))) dx (exd dx [(g, v), (f, u)])) dx (exd dx [(k, z), (g, v), (f, u)]) = upd (upd H dx (exd dx [(k, z), (g, v), (f, u)])) a (exo a D (some dx)) := by
      funext b
      by_cases h : b = dx
      · rw [h, upd_same, upd_ne ne, upd_same]
      · by_cases k : b = a
        · simp only [k, upd_same, upd_ne (Ne.symm ne)]
        · simp only [upd_ne h, upd_ne k]
    show Q .non (upd (upd (upd (upd H dx (exd dx [(f, u)])) a (exo a D (some dx))) dx (exd dx [(g, v), (f, u)])) dx (exd dx [(k, z), (g, v), (f, u)]))
    rw [e]
    exact r
end
end Hd

namespace Hd
open PySem PySem.Spec PyProof.Rows L2

/-- the class named x at D, made from the arguments gs -/
def Xm (P : Program) (w : World) (K : PySem.W.Frag) (mg : Str → Option Value) (base : Heap) (x : Str) (D : Addr) (gs : List Str) : Prop :=
  Ec K mg x D ∧ (∀ f ∈ gs, PySem.W.findIn K (.ref D) f = some none) ∧ ∃ fI fd, PySem.W.findIn K (.ref D) "__init__" = some (some (.ref fI)) ∧ PySem.W.typeIn K (.ref fI) = some (.type "function") ∧ FnOk P w K mg base CX0 1 fI fd ("self" :: gs) (spIni D gs) ∧ Binds K fd ("self" :: gs) []
section
variable {X : Cx} {x : Str} {D : Addr} {gs : List Str} {e : Expr} {es : List Expr} {ta : TA} {p pos : Pos}
theorem pmk_x (M : Xm X.prog X.w X.K X.mg X.base x D gs) (hr : Room 2 X.A) (hg : Gl X x) (ha : PA X (e :: es) ta) (hdb : (x == ("__debug__" : Str)) = false := by decide)
    (he : starEach (e :: es) X.env = (false, eval e X.env) :: starEach es X.env := by rfl) (hpl : (backTo pos (starEach es X.env)).any (·.1) = false := by rfl) : L2N.PMk X (.Call (.Name x p) (e :: es) [] pos) (tMkO D (spIni D gs) [] ta) := by
  obtain ⟨T, no, fI, fd, iC, tI, F1, bd⟩ := M
  exact mk_calm T.ox iC tI F1 hr bd hg T.gC ha hdb he hpl
end
/-- an except clause's name: the base class, and that it takes the class at D -/
def Hnd (K : PySem.W.Frag) (mg : Str → Option Value) (x : Str) (D : Addr) (b : Bool) : Prop := ∃ C : Addr, mg x = some (.ref C) ∧ PySem.W.exmOne K (.ref D) (.ref C) = some b
/-- an except suite, whatever the exception's object is -/
def tSuite (t : Addr → Obj → Value → Option Addr → TS) (a : Addr) (cls : Value) (d : Option Addr) : TS := fun D σ H => ∀ oe, L2N.Zn cls d oe → (∃ vs, oe.data = .fields vs) → t a oe cls d D σ H
theorem suite_of {X : Cx} {a : Addr} {oe : Obj} {cls : Value} {d : Option Addr} {pn : List (Addr × Obj)} {b : List Stmt} {t : Addr → Obj → Value → Option Addr → TS} (hz : L2N.Zn cls d oe) (hf : ∃ vs, oe.data = .fields vs)
    (h : PSs (X.suite a ((a, oe) :: pn)) b (t a oe cls d)) : PSs (X.suite a ((a, oe) :: pn)) b (tSuite t a cls d) := ⟨fun pins s σ H D I q => h.run pins s σ H D I (q oe hz hf)⟩
theorem ps_try_E {X : Cx} {x n : Str} {c : Value} {i : Nat} {body suite : List Stmt} {b₀ : Stmt} {np pos pos' : Pos} {tb : WX → TS} {t : Addr → Obj → Value → Option Addr → TS} {Wout : WX} (hs : X.stack = X.env :: X.outer) (hf : X.env.frame = some X.env.locals) (hN : X.N.Nodup)
    (hi : X.N[i]? = some n) (hln : X.env.kindOf n = some .local) (hc : Names X x c) (tk : L2N.Takes X Wout)
    (hb : ∀ (W : WX) (pn : List (Addr × Obj)) (xe : Value → Shared → Prop), L2N.Takes (X.tr pn xe) W → PassesOwn (model X.prog X.w) X.A X.env xe → PSs (X.tr pn xe) body (tb W))
    (hsu : ∀ (a : Addr) (oe : Obj) (cls : Value) (d : Option Addr) (pn : List (Addr × Obj)), L2N.Zn cls d oe → (∃ vs, oe.data = .fields vs) → PSs (X.suite a ((a, oe) :: pn)) (b₀ :: suite) (t a oe cls d)) :
    PS X (.Try body [.ExceptHandler (some (.Name x np)) (some n) (b₀ :: suite) pos'] [] [] pos) (fun D σ H => tb (wAs X.K c i (tSuite t) Wout D) D σ H) :=
  L2N.ps_try_as hs hf hN hi hln hc tk hb fun a oe cls d pn hz h => suite_of hz h (hsu a oe cls d pn hz h)
theorem suite_hot {X : Cx} {a : Addr} {oe : Obj} {cls : Value} {d : Option Addr} {pn : List (Addr × Obj)} (hz : L2N.Zn cls d oe) (hf : ∃ vs, oe.data = .fields vs) : L2H.Hot1 (X.suite a ((a, oe) :: pn)).A (a, oe) := by
  obtain ⟨vs, hd⟩ := hf
  exact ⟨rfl, vs, hd, hz.2.2 vs hd⟩
theorem suite_err {a D d : Addr} {oe : Obj} {fs : List (Str × V)} {H : Hp} (hz : L2N.Zn (.ref D) (some d) oe) (hf : ∃ vs, oe.data = .fields vs) (h : H d = some (.xd fs)) : ErrAt D d fs H (a, oe) := ⟨hz.1, hz.2.1, hf, h⟩
theorem room_suite {k : Nat} {A : Around} (r : Room k A) (h : Option Value) : L2H.RoomH k (A.mark h) := L2H.roomH_mark r h
theorem hot_in {X : Cx} {p : Addr × Obj} (h : L2H.Hot1 X.A p) (m : p ∈ X.pn) : L2H.HotC X := ⟨p, h, m⟩
theorem pe_cls {X : Cx} {x : Str} {C : Addr} {pos : Pos} (hg : Gl X x) (h : X.mg x = some (.ref C)) (hd : (x == ("__debug__" : Str)) = false := by decide) : PE X (.Name x pos) (tC (.ref C)) := pe_glob hg h rfl hd
end Hd

namespace Hd
open PySem PySem.Spec PyProof.Rows L2

/-! ### enumerate(tuple) -/
def Ete (K : PySem.W.Frag) (a : Addr) : It where
  go := fun i H => ∃ (xs : List V) (x : V), SqT K H a xs ∧ xs[i]? = some x
  yld := fun i H v H' => ∃ T x, v = .ref T ∧ New H T (.tup [.int (i : Nat), x]) H' ∧ ∀ xs, SqT K H a xs → xs[i]? = some x
  stop := fun i H => ∃ xs : List V, SqT K H a xs ∧ xs.length ≤ i
def iEnumT (K : PySem.W.Frag) (ta : TA) : TI := fun σ H R => ta σ H fun vs H1 => ∃ a xs, vs = [.ref a] ∧ SqT K H1 a xs ∧ R (Ete K a) H1
set_option maxHeartbeats 8000000 in
theorem enum_new {v : Value} {o : Obj} {C : Heap → Prop} (B : Begins v o C) :
    Meets (Builtin.«enumerate.__new__» ⟨[.type "enumerate", v], []⟩) (fun _ R s => C s.heap ∧ R (.ok (.ret (.ref (s.heap.push o).objs.size)))
      { s with heap := (s.heap.push o).push { cls := .type "enumerate", data := .fields #[.none, .bool false, .ref s.heap.objs.size, rawInt 0, .none, .none] } }) :=
  .of_wp fun prog w A R s q => by
    obtain ⟨heap, gens, dr, toks, os⟩ := s
    obtain ⟨st, q⟩ := q
    have isE := sub_enumerate
    have begin_ : ∀ {A' : Around} {E' : Value → Shared → Prop} {Q' : Value → Shared → Prop}, Q' (.ref heap.objs.size) ⟨heap.push o, gens, dr, toks, os⟩ → wpAny (model prog w) A' (pyIter v) Q' E' ⟨heap, gens, dr, toks, os⟩ := fun z =>
      B.iter prog w _ _ ⟨heap, gens, dr, toks, os⟩ _ st z
    wp_walk using begin_
    refine wpAny_stack_any fun frames => wpAny_pure ?_
    split
    next c _ _ _ _ _ =>
      by_cases hc : (c == Value.type "enumerate") = true
      · simp only [hc]
        wp_walk using begin_
        exact ⟨_, rfl, q⟩
      · simp only [hc]
        wp_walk using begin_
        exact ⟨_, rfl, q⟩
    next =>
      wp_walk using begin_
      exact ⟨_, rfl, q⟩
theorem enum_call {prog : Program} {w : World} {A : Around} {E : Value → Shared → Prop} {s : Shared} {v : Value} {o : Obj} {C : Heap → Prop} {Q : Value → Shared → Prop} (B : Begins v o C) (st : C s.heap)
    (q : ∀ g, IsEnum g (s.heap.objs.size + 1) s.heap.objs.size 0 .none → g.get? s.heap.objs.size = some o → (∀ b u, s.heap.get? b = some u → g.get? b = some u) → Q (.ref (s.heap.objs.size + 1)) { s with heap := g }) :
    wpAny (model prog w) A (call (.type "enumerate") [v]) Q E s := by
  have sz : (s.heap.push o).objs.size = s.heap.objs.size + 1 := Heap.size_push ..
  have at1 : IsEnum ((s.heap.push o).push { cls := .type "enumerate", data := .fields #[.none, .bool false, .ref s.heap.objs.size, rawInt 0, .none, .none] }) (s.heap.objs.size + 1) s.heap.objs.size 0 .none := sz ▸ Heap.get?_push_size (s.heap.push o) rfl
  apply callType_new F.called_enumerate (by decide) (F.typeCall_enumerate_1 _) (F.newCall_enumerate_1 _) (fun obj => F.args_object_init_2 obj _) F.entry_enumerate_new (enum_new B)
  refine ⟨st, ?_⟩
  rw [sz]
  exact ⟨⟨_, at1, rfl⟩, q _ at1 (Heap.get?_push_of_some _ (Heap.get?_push_size _ B.free)) fun b u z => Heap.get?_push_of_some _ (Heap.get?_push_of_some _ z)⟩
section
variable {P : Program} {w : World} {K : PySem.W.Frag} {elts : List Expr} {kk : Nat} {tpos : Pos}
theorem two_of {b e it : Addr} (h : b ∈ [e, it]) : b = e ∨ b = it := by simpa using h
theorem walk_enumT (a e it : Addr) : Turn P w K (.Tuple elts kk tpos) (Ete K a) [e, it] e (fun i h => (∃ old, IsEnum h e it ((i : Nat) : Int) old) ∧ h.IsTupleIter it a i ∧ e ≠ it) := by
  constructor
  case mem => exact List.mem_cons_self
  case obj =>
    rintro i h ⟨⟨old, he⟩, ⟨o, ho, hc, hd⟩, -⟩ b hb
    obtain rfl | rfl := two_of hb
    · exact ⟨_, he, fun v q => nomatch q⟩
    · exact ⟨o, ho, fun v q => Data.noConfusion (hd.symm.trans q)⟩
  case keep =>
    rintro i h h' ⟨⟨old, he⟩, hi, ne⟩ k
    exact ⟨⟨old, k e List.mem_cons_self _ he⟩, hi.at fun o q => k it (List.mem_cons_of_mem _ List.mem_cons_self) o q, ne⟩
  case self => exact fun A i s Q E st q => st.1.elim fun _ he => wpAny_pyIter_enum he q
  case item =>
    rintro X rfl rfl rfl hc i pins s σ H E I fp ⟨⟨old, he⟩, hit, ne⟩ ⟨xs, x, sq, at_⟩
    obtain ⟨vs, rv, pl, -⟩ := I.tuple sq
    have isT : s.heap.IsTuple a vs.toArray := pl
    obtain ⟨u, hu, ru⟩ := rv.get at_
    have lt1 : e < s.heap.objs.size := Heap.lt_size he
    have lt2 : it < s.heap.objs.size := by
      obtain ⟨_, q, -⟩ := hit
      exact Heap.lt_size q
    have nai : a ≠ it := fun z => by
      subst z
      obtain ⟨o1, q1, c1, -⟩ := hit
      obtain ⟨o2, q2, c2, -⟩ := isT
      rw [q1] at q2
      cases q2
      rw [c1] at c2
      exact absurd (Value.type.inj c2) (by decide)
    have nae : e ≠ a := fun z => by
      subst z
      obtain ⟨o2, q2, c2, -⟩ := isT
      have q1 : s.heap.get? e = some _ := he
      rw [q1] at q2
      cases q2
      exact absurd (Value.type.inj c2) (by decide)
    have hi : i < vs.toArray.size := by
      have := (List.getElem?_eq_some_iff.mp hu).1
      simpa using this
    refine wpAny_pyNext_enum_itemD (Draws.tuple (A := X.A.in1) (I.ok.hd hc) it a nai vs.toArray) he ⟨hit, isT⟩ hi ne (fun z => ?_) ?_
    · rcases two_of z with z | z
      · exact ne z
      · exact nae z
    rintro y g tk py out ⟨hit', -⟩ gT hz keep
    have ey : y = u := by
      have := py.symm.trans ((by simpa using hu) : vs.toArray[i]? = some u)
      exact Option.some.inj this
    subst ey
    refine ⟨_, rfl, wpAny_letOwnedTupleGo_enum (s := { s with heap := g, toks := tk + 1 }) out fun g2 he2 sb => ?_⟩
    have gT2 : g2.get? s.heap.objs.size = some { cls := .type "tuple", data := .seq #[.int i tk, y] } := (sb.2 _ (Nat.ne_of_gt lt1)).trans gT
    have okT : ObjOk X.prog X.w (upd H s.heap.objs.size (.tup [.int (i : Nat), x])) g2 s.heap.objs.size (.tup [.int (i : Nat), x]) := ⟨by show 2 ≤ sizeLine; decide, [.int i tk, y], .cons ⟨_, rfl⟩ (.cons ru .nil), ⟨_, gT2, rfl, _, rfl⟩⟩
    have J : Inv X pins σ (upd H s.heap.objs.size (.tup [.int (i : Nat), x])) { s with heap := g2, toks := tk + 1 } :=
      I.turnedNew (ch := [e, it]) (fun b o hb q => (sb.2 b fun z => hb (by simp [z])).trans (keep b o (fun z => hb (by simp [z])) (fun z => hb (by simp [z])) q)) fp (Nat.le_refl _) okT
    refine ⟨.ref s.heap.objs.size, _, J, rfl, ⟨_, x, rfl, ⟨I.hok.fresh (Nat.le_refl _), rfl⟩, fun ys hy => ?_⟩, ⟨⟨y, ?_⟩, hit'.at fun o q => (sb.2 it (Ne.symm ne)).trans q, ne⟩, fun b hb => ?_⟩
    · rw [I.tuple_inj hy sq]
      exact at_
    · have e1 : ((i + 1 : Nat) : Int) = (i : Int) + 1 := rfl
      rw [e1]
      exact he2
    · have lt : b < s.heap.objs.size := by
        obtain rfl | rfl := two_of hb
        · exact lt1
        · exact lt2
      exact (upd_ne (Nat.ne_of_lt lt)).trans (fp b hb).1
  case done =>
    rintro X rfl rfl rfl hc i pins s σ H E I fp ⟨⟨old, he⟩, hit, ne⟩ ⟨xs, sq, hle⟩
    obtain ⟨vs, rv, pl, -⟩ := I.tuple sq
    have isT : s.heap.IsTuple a vs.toArray := pl
    have hl := rv.length
    have past : vs.toArray[i]? = none := by simp; omega
    obtain ⟨f0, f1, f2, f3, f4, f5⟩ := fp it (List.mem_cons_of_mem _ List.mem_cons_self)
    have D0 : Draws X.prog X.w X.A.in1 it [it, a] 0 (fun _ _ => True) (fun j h => h.IsTupleIter it a (i + j) ∧ h.IsTuple a vs.toArray) := {
      live := fun _ _ st => st.1.elim fun o q => ⟨o, q.1⟩
      frame := fun _ _ _ st hk => ⟨st.1.at fun o e => hk it (by simp) o e, st.2.at fun o e => hk a (by simp) o e⟩
      item := fun j _ _ _ z => absurd z (Nat.not_lt_zero j)
      done := fun s Q E st hE => wpAny_nextOf_tuple_end (show X.A.in1.handled = none from I.ok.hd hc) st.1 st.2 past hE }
    exact wpAny_pyNext_enum_endD D0 he ⟨hit, isT⟩ fun g eb => ⟨rfl, I.turned (t' := s.toks) (fun b o hb q => eb b o hb q) f0 f1 f3 f4 f5⟩
end
theorem pi_enumT {X : Cx} {e : Expr} {ta : TA} {p pos tpos : Pos} {elts : List Expr} {kk : Nat} (hg : Gl X "enumerate") (hm : X.mg "enumerate" = none) (ha : PA X [e] ta) (hs : starEach [e] X.env = [(false, eval e X.env)] := by rfl) :
    PI X (.Tuple elts kk tpos) (.Call (.Name "enumerate" p) [e] [] pos) (iEnumT X.K ta) := by
  constructor
  intro pins s σ H R I h
  apply Call_ (ld_blt I hg hm boot_enumerate _)
  refine PyProof.Rows.callWith_type1 (thn (ha.run pos pins s σ H _ I h) ?_) hs rfl
  rintro us s1 ⟨vs, H1, I1, r1, a, xs, rfl, sq, q⟩
  cases r1 with
  | cons r rr =>
    cases rr
    cases r
    obtain ⟨its, rv, pl, -⟩ := I1.tuple sq
    refine enum_call (begins_tuple a its.toArray) (show s1.heap.IsTuple a its.toArray from pl) fun g he hit hk => wpAny_pyIter_enum he ?_
    have I2 : Inv X pins σ H1 { s1 with heap := g } := I1.kept (t' := s1.toks) hk
    refine ⟨_, _, _, _, H1, rfl, I2, walk_enumT a (s1.heap.objs.size + 1) s1.heap.objs.size, ⟨⟨.none, he⟩, ⟨_, hit, rfl, rfl⟩, Nat.succ_ne_self _⟩, fun b hb => ?_, q⟩
    have big : s1.heap.objs.size ≤ b := by
      obtain rfl | rfl := two_of hb
      · exact Nat.le_add_right _ _
      · exact Nat.le_refl _
    exact I1.fpOk big (I1.hok.fresh big)
/-! ### min(tuple of ints) -/
/-! ### rules whose reading names the written part, for the block of a comprehension -/
section
variable {X : Cx} {K : PySem.W.Frag} (hk : X.K = K)
include hk
theorem ix_tupK : IxR X (rIxT K) := hk ▸ ix_tup
theorem ix_listK : IxR X (rIxL K) := hk ▸ ix_list
end
end Hd

namespace Hd
open PySem PySem.Spec PyProof.Rows L2

/-! ### the cycles of a move -/
def stp (ns : List Int) (p : Int) : Int := (ns[p.toNat]?).getD 0
def itn (ns : List Int) : Nat → Int → Int
  | 0, s => s
  | k + 1, s => stp ns (itn ns k s)
def inR (n p : Int) : Prop := 0 ≤ p ∧ p < n
section
variable {ns : List Int} {n : Int} (h : IsMv ns n)
include h
theorem stp_at {p : Int} (hp : inR n p) : ns[p.toNat]? = some (stp ns p) ∧ inR n (stp ns p) := by
  have l := h.len
  have lt : p.toNat < ns.length := by have := hp.1; have := hp.2; omega
  have e : ns[p.toNat]? = some ns[p.toNat] := List.getElem?_eq_getElem lt
  have es : stp ns p = ns[p.toNat] := by unfold stp; rw [e]; rfl
  refine ⟨by rw [es]; exact e, ?_⟩
  rw [es]
  exact h.mem.mp (List.getElem_mem lt)
theorem stp_inj {p q : Int} (hp : inR n p) (hq : inR n q) (e : stp ns p = stp ns q) : p = q := by
  have l := h.len
  have lp : p.toNat < ns.length := by have := hp.1; have := hp.2; omega
  have lq : q.toNat < ns.length := by have := hq.1; have := hq.2; omega
  have ep : ns[p.toNat] = ns[q.toNat] := by
    have a := (stp_at h hp).1
    have b := (stp_at h hq).1
    rw [List.getElem?_eq_getElem lp] at a
    rw [List.getElem?_eq_getElem lq] at b
    exact (Option.some.inj a).trans (e.trans (Option.some.inj b).symm)
  have nd := List.pairwise_iff_getElem.mp h.nodup
  have := hp.1; have := hq.1
  rcases Nat.lt_trichotomy p.toNat q.toNat with z | z | z
  · exact absurd ep (nd _ _ lp lq z)
  · omega
  · exact absurd ep.symm (nd _ _ lq lp z)
end
def IsPer (ns : List Int) (s : Int) (m : Nat) : Prop := 1 ≤ m ∧ itn ns m s = s ∧ ∀ k, 1 ≤ k → k < m → itn ns k s ≠ s
theorem IsPer.uniq {ns : List Int} {s : Int} {a b : Nat} (x : IsPer ns s a) (y : IsPer ns s b) : a = b := by
  rcases Nat.lt_trichotomy a b with l | l | l
  · exact absurd x.2.1 (y.2.2 a x.1 l)
  · exact l
  · exact absurd y.2.1 (x.2.2 b y.1 l)
section
variable {ns : List Int} {n : Int} (h : IsMv ns n)
include h
end
end Hd

namespace Hd
open PySem PySem.Spec PyProof.Rows L2

section
variable {ns : List Int} {n : Int} (h : IsMv ns n)
include h
end
theorem mvD_ints {d : PyData} (e : mvD d = true) : ∃ ns, d = .tuple (ns.map PyData.int) ∧ IsMv ns (ns.length : Nat) ∧ ns.length ≤ 12 := by
  cases d with
  | tuple ds =>
    have e' : (decide (ds.length ≤ 12) && (decide (((ds.length : Nat) : Int) = ((ds.length : Nat) : Int)) && (ds.all (fun d => isNum d 0 (((ds.length : Nat) : Int) - 1)) && decide ((intsOf ds).Perm (rngI ((ds.length : Nat) : Int)))))) = true := e
    rw [Bool.and_eq_true, Bool.and_eq_true, Bool.and_eq_true] at e'
    obtain ⟨h1, -, h3, h4⟩ := e'
    have eq := ints_isNum h3
    have pm : (intsOf ds).Perm (rngI ((ds.length : Nat) : Int)) := of_decide_eq_true h4
    have ln : (intsOf ds).length = ds.length := by rw [pm.length_eq, rngI_len]; omega
    refine ⟨intsOf ds, by rw [← eq], ?_, by rw [ln]; exact of_decide_eq_true h1⟩
    rw [ln]
    exact pm
  | _ => cases e
theorem ErrAt.new {D d p' : Addr} {fs : List (Str × V)} {H H' : Hp} {p : Addr × Obj} {o : HO} (e : ErrAt D d fs H p) (n : New H p' o H') : ErrAt D d fs H' p := ⟨e.cls, e.dict, e.data, n.else e.at_⟩
theorem ErrAt.same {D d : Addr} {fs : List (Str × V)} {H H' : Hp} {p : Addr × Obj} (e : ErrAt D d fs H p) (s : Same H H') : ErrAt D d fs H' p := ⟨e.cls, e.dict, e.data, s _ _ e.at_⟩
theorem same_put {H H' : Hp} {l : Addr} {o : HO} (s : Same H H') (h : H l = none) : Same H (upd H' l o) := fun b u e => by
  rw [upd_ne fun z => by rw [z, h] at e; cases e]
  exact s _ _ e
theorem lt_of_len {a i n : Nat} (h : a ≤ i) (l : i < n) (z : n ≤ 12) : a < sizeLine := Nat.lt_of_lt_of_le (by omega : a < 13) (by decide)
theorem map_at {ns : List Int} {i : Nat} {x : V} (h : (ns.map V.int)[i]? = some x) : ∃ m, ns[i]? = some m ∧ x = .int m := by
  rw [List.getElem?_map] at h
  obtain ⟨m, hm, e⟩ := Option.map_eq_some_iff.mp h
  exact ⟨m, hm, e.symm⟩
/-- an error of the class at D with these attributes leaves -/
def Errs (E : XK) (D : Addr) (fs : List (Str × V)) (H : Hp) : Prop := ∀ (d : Addr) (H' : Hp), Same H H' → H' d = some (.xd fs) → E (.ref D) (some d) H'
theorem Errs.up {E : XK} {D : Addr} {fs : List (Str × V)} {H H' : Hp} (e : Errs E D fs H) (s : Same H H') : Errs E D fs H' := fun d H2 s2 h => e d H2 (s.trans s2) h
end Hd
namespace Hd
open PySem PySem.Spec PyProof.Rows L2
section
variable {ns : List Int} {n : Int} (h : IsMv ns n)
include h
end
theorem Stq.pure {G H G1 H1 H2 : Hp} (s : Stq G H G1 H1) (g : Same H1 H2) : Stq G H G1 H2 := ⟨s.gg, s.gh.trans g, s.nw, s.hh.trans g⟩
def rRepL : R2 := fun x y H Q => ∃ l k xs, x = .ref l ∧ y = .int k ∧ H l = some (.lst xs) ∧ -(2 ^ 63) ≤ k ∧ k < 2 ^ 63 ∧ xs.length * k.toNat ≤ sizeLine ∧ ∀ p H2, New H p (.lst (List.replicate k.toNat xs).flatten) H2 → Q (.ref p) H2
theorem op_repL {X : Cx} : OpR X (binaryOp .Mult) rRepL := opR_mono op_rep fun x y H Q h => by
  obtain ⟨l, k, xs, e1, e2, h1, z1, z2, z3, q⟩ := h
  exact ⟨l, k, xs, e1, e2, h1, z1, z2, z3, fun p hp => q p _ ⟨hp, rfl⟩⟩
theorem stp_nat {ns : List Int} {n : Int} (h : IsMv ns n) {k : Nat} (hk : (k : Int) < n) : ns[k]? = some (stp ns k) ∧ inR n (stp ns k) := stp_at h (p := (k : Int)) ⟨by omega, hk⟩
theorem renamed_mv {ns bs L : List Int} {n : Int} (n0 : 0 ≤ n) (hn : IsMv ns n) (hb : IsMv bs n) (hl : L.length = n.toNat) (h : ∀ k : Nat, (k : Int) < n → L[(stp bs k).toNat]? = some (stp bs (stp ns k))) : IsMv L n := by
  refine isMv_of n0 hl fun x x0 x1 => ?_
  obtain ⟨y, hy⟩ := List.getElem?_of_mem (hb.mem.mpr ⟨x0, x1⟩)
  have ly := hb.len
  have yl := (List.getElem?_eq_some_iff.mp hy).1
  obtain ⟨k, hk⟩ := List.getElem?_of_mem ((hn.mem (x := (y : Int))).mpr ⟨by omega, by omega⟩)
  have lk := hn.len
  have kl := (List.getElem?_eq_some_iff.mp hk).1
  have ek : stp ns k = y := Option.some.inj ((stp_nat hn (by omega)).1.symm.trans hk)
  have ey : stp bs (y : Int) = x := Option.some.inj ((stp_nat hb (by omega)).1.symm.trans hy)
  have := h k (by omega)
  rw [ek, ey] at this
  exact List.mem_of_getElem? this
theorem sgn_mv {n s g : Int} (h0 : 0 < n) (hg : g = 1 ∨ g = -1) : IsMv ((List.range n.toNat).map fun (k : Nat) => (g * (k : Int) + s) % n) n := by
  refine isMv_of (by omega) (by rw [List.length_map, List.length_range]) fun x x0 x1 => ?_
  have back : ∀ y : Int, ∃ k : Nat, (k : Int) < n ∧ ∃ q : Int, (k : Int) = y + n * q := fun y => by
    have a := Int.emod_nonneg y (show n ≠ 0 by omega)
    have b := Int.emod_lt_of_pos y h0
    refine ⟨(y % n).toNat, by omega, -(y / n), ?_⟩
    have := Int.emod_add_mul_ediv y n
    rw [Int.toNat_of_nonneg a, Int.mul_neg]
    omega
  rcases hg with rfl | rfl
  · obtain ⟨k, kn, q, e⟩ := back (x - s)
    refine List.mem_map.mpr ⟨k, List.mem_range.mpr (by omega), ?_⟩
    rw [Int.one_mul, e, show x - s + n * q + s = x + n * q by omega, Int.add_mul_emod_self_left]
    exact Int.emod_eq_of_lt x0 x1
  · obtain ⟨k, kn, q, e⟩ := back (s - x)
    refine List.mem_map.mpr ⟨k, List.mem_range.mpr (by omega), ?_⟩
    have : (-1) * (k : Int) + s = x + n * (-q) := by rw [e, Int.mul_neg]; omega
    rw [this, Int.add_mul_emod_self_left]
    exact Int.emod_eq_of_lt x0 x1
theorem app_mv {L B : List Int} {t m : Int} (t0 : 0 ≤ t) (m0 : 0 ≤ m) (hl : IsMv L t) (hb : IsMv B m) : IsMv (L ++ B.map (t + ·)) (t + m) := by
  refine isMv_of (by omega) (by rw [List.length_append, List.length_map, hl.len, hb.len]; omega) fun x x0 x1 => ?_
  by_cases c : x < t
  · exact List.mem_append_left _ (hl.mem.mpr ⟨x0, c⟩)
  · exact List.mem_append_right _ (List.mem_map.mpr ⟨x - t, hb.mem.mpr ⟨by omega, by omega⟩, by omega⟩)
end Hd

namespace Hd
open PySem PySem.Spec PyProof.Rows L2
/-! ### the facts of the head, put together -/
section
variable {K : PySem.W.Frag} {h : Heap} {mg : Str → Option Value} {x : Str} {D C CH : Addr}
end
end Hd

namespace Hd
open PySem PySem.Spec PyProof.Rows L2
/-! ### exceptions held as values -/
/-- at a: a new exception of the class at D, its attributes fs at d -/
structure MkX (H H' : Hp) (a d D : Addr) (fs : List (Str × V)) : Prop where
  na : H a = none
  nd : H d = none
  ne : d ≠ a
  at_ : H' a = some (exo a D (some d))
  dc : H' d = some (exd d fs)
  old : ∀ b, b ≠ a → b ≠ d → H' b = H b
theorem MkX.same {H H' : Hp} {a d D : Addr} {fs : List (Str × V)} (m : MkX H H' a d D fs) : Same H H' := fun b u e => by
  rw [m.old b (fun z => by rw [z, m.na] at e; cases e) fun z => by rw [z, m.nd] at e; cases e]
  exact e
section
variable {X : Cx} {x : Str} {D : Addr} {gs : List Str} {e : Expr} {es : List Expr} {ta : TA} {p pos : Pos}
end
/-- what isinstance wants of a class of exceptions -/
structure EcI (K : PySem.W.Frag) (D : Addr) : Prop where
  ga : PySem.W.findIn K (.ref D) "__getattribute__" = some (some (.builtin "BaseException.__getattribute__"))
  gg : PySem.W.findIn K (.ref D) "__getattr__" = some none
  ex : PySem.W.subIn K (.ref D) (.type "BaseException") = some true
  ca : PySem.W.findIn K (.ref D) "__class__" = some (some (.builtin "object.__class__"))
  sg : PySem.W.specialIn K (.builtin "object.__class__") "__get__" = some (some (.builtin "getset_descriptor.__get__"))
  tk : PySem.W.takesIn K (.builtin "object.__class__") = some true
  mo : PySem.W.mroIn K D (.type "object") = some true
  ic : PySem.W.isClsIn K D = true
theorem Ec.i {K : PySem.W.Frag} {mg : Str → Option Value} {x : Str} {D : Addr} (e : Ec K mg x D) : EcI K D := ⟨e.xf.ga, e.xf.gg, e.xf.exC, e.ca, e.sg, e.tk, e.mo, e.ic⟩
/-- an exception of the class at D stands at a -/
def ErV (H : Hp) (a D : Addr) : Prop := (∃ d fs, H a = some (exo a D (some d)) ∧ H d = some (exd d fs)) ∨ H a = some (ExO (.ref D) a)
theorem ErV.up {H H' : Hp} {a D : Addr} (e : ErV H a D) (s : Same H H') : ErV H' a D := e.imp (fun ⟨d, fs, h1, h2⟩ => ⟨d, fs, s _ _ h1, s _ _ h2⟩) (fun h => s _ _ h)
section
variable {X : Cx} {D a d : Addr}
theorem ErV.inst {pins : List (Addr × Obj)} {σ : L2.St} {H : Hp} {s : Shared} (e : ErV H a D) (I : Inv X pins σ H s) : ∃ oe od, PySem.W.InstAt s.heap a oe D od := by
  rcases e with ⟨d, fs, h1, h2⟩ | h1
  · obtain ⟨t1, ho⟩ := exo_at I.hok h1
    obtain ⟨mA, ⟨o, es, ep, hd, hr⟩, -⟩ := exd_at I.hok h2
    exact ⟨_, some o, ho, rfl, rfl, hd⟩
  · have z : ObjOk X.prog X.w H s.heap a (.ext fun h => ∃ (oe : Obj) (vs : Array Value), h.get? a = some oe ∧ Zc (.ref D) none oe ∧ oe.data = .fields vs ∧ vs[1]? = some .none ∧ vs[2]? = some .none ∧ 4 < vs.size) := I.hok a _ h1
    obtain ⟨⟨oe, vs, ho, hz, hd, -⟩, -, -⟩ := z
    refine ⟨oe, none, ho, hz.1, ?_, ?_⟩
    · unfold PySem.W.notCls
      rw [hd] <;> rfl
    · rw [hz.2]
      trivial
end
end Hd

namespace Hd
open PySem PySem.Spec PyProof.Rows L2
/-! ### moves done one after the other -/
def aft (ns ms : List Int) : List Int := ns.map (stp ms)
theorem aft_len (ns ms : List Int) : (aft ns ms).length = ns.length := List.length_map ..
section
variable {ns ms : List Int} {n : Int} (hn : IsMv ns n) (hm : IsMv ms n)
include hn
include hm
theorem aft_mv (n0 : 0 ≤ n) : IsMv (aft ns ms) n := by
  refine isMv_of n0 (by rw [aft_len]; exact hn.len) fun x x0 x1 => ?_
  obtain ⟨y, hy⟩ := List.getElem?_of_mem (hm.mem.mpr ⟨x0, x1⟩)
  have ly := hm.len
  have yl := (List.getElem?_eq_some_iff.mp hy).1
  have iy : inR n (y : Int) := ⟨by omega, by omega⟩
  refine List.mem_map.mpr ⟨(y : Int), hn.mem.mpr iy, ?_⟩
  exact Option.some.inj ((stp_nat hm iy.2).1.symm.trans hy)
end
/-- ms undoes ns -/
def Undo (n : Int) (ns ms : List Int) : Prop := ∀ p, inR n p → stp ns (stp ms p) = p
theorem rng_mv {n : Int} : IsMv (rngI n) n := .refl _
section
variable {ns ms : List Int} {n : Int} (hn : IsMv ns n) (hm : IsMv ms n) (u : Undo n ns ms)
include hn hm u
end
/-! ### tuple.index of ints -/
end Hd

namespace Hd
open PySem PySem.Spec PyProof.Rows L2
/-! ### sorted of tuples of ints, any number of them -/
def rowD (r : List Int) : PyData := .tuple (r.map PyData.int)
section
variable {prog : Program} {w : World} {A : Around} {E : Value → Shared → Prop} {s : Shared}
theorem lex_go {b fin : Bool} {Q : Bool → Shared → Prop} {xs ys : List Value} {ns ms : List Int} (i : Nat) (hx : IntsAre xs ns) (hy : IntsAre ys ms) (hf : fin = decide (ns.length < ms.length)) (h : Q (HT.lexLt ns ms) s) : PySem.W.KatLex prog w A b fin Q (xs.zip ys) i s := by
  induction hx generalizing ys ms i with
  | nil =>
    cases hy with
    | nil =>
      rw [HT.lexLt_nil_nil] at h
      have : fin = false := by rw [hf]; rfl
      rw [List.zip_nil_left, this]
      exact PySem.W.kat_nil h
    | cons q u hy =>
      rw [HT.lexLt_nil_cons] at h
      have : fin = true := by rw [hf]; exact decide_eq_true (by simp)
      rw [List.zip_nil_left, this]
      exact PySem.W.kat_nil h
  | @cons p t xs ns hx ih =>
    cases hy with
    | nil =>
      rw [HT.lexLt_cons_nil] at h
      have : fin = false := by rw [hf]; exact decide_eq_false (by simp)
      rw [List.zip_nil_right, this]
      exact PySem.W.kat_nil h
    | @cons q u ys ms hy =>
      show PySem.W.KatLex prog w A b fin Q ((Value.int p t, Value.int q u) :: xs.zip ys) i s
      rw [HT.lexLt_cons] at h
      refine PySem.W.kat_cons (wpAny_eqBool_int ?_)
      by_cases e : p = q
      · subst e
        rw [beq_self_eq_true]
        rw [if_pos rfl] at h
        have hf' : fin = decide (ns.length < ms.length) := by
          rw [hf]
          refine decide_eq_decide.mpr ?_
          simp
        exact PySem.W.kat_yes (ih (i + 1) hy hf' h)
      · rw [show (p == q) = false from beq_eq_false_iff_ne.mpr e]
        rw [if_neg e] at h
        exact PySem.W.kat_no (TS.oneLt_ints _ h)
theorem firsts_tups {h : Heap} {k : Value → List Int} : ∀ vs : List Value, (∀ v ∈ vs, TS.TupInts h v (k v)) → (∀ v ∈ vs, k v ≠ []) → ∃ fs, PySem.W.KatTups h vs fs ∧ fs.length = vs.length ∧ ∀ f, f ∈ fs → ∃ n t, f = Value.int n t
  | [], _, _ => ⟨[], PySem.W.KatTups.nil, rfl, fun f hf => by simp at hf⟩
  | v :: vs, x, d => by
    obtain ⟨fs, c, hl, hi⟩ := firsts_tups vs (fun u hu => x u (List.mem_cons_of_mem _ hu)) fun u hu => d u (List.mem_cons_of_mem _ hu)
    have hn := d v List.mem_cons_self
    obtain ⟨a, xs, rfl, ⟨o, ho, hc, n, hdt⟩, i⟩ := x v List.mem_cons_self
    obtain ⟨y, ys, e⟩ : ∃ y ys, xs.toList = y :: ys := by
      cases q : xs.toList with
      | nil =>
        rw [q] at i
        have l := i.length
        rw [List.length_nil] at l
        exact absurd (List.eq_nil_of_length_eq_zero l.symm) hn
      | cons y ys => exact ⟨y, ys, rfl⟩
    obtain ⟨m, t, hy⟩ := i.all y (by rw [e]; exact List.mem_cons_self ..)
    refine ⟨y :: fs, PySem.W.KatTups.cons ho hc hdt ?_ c, by simp [hl], ?_⟩
    · have z := congrArg (fun l : List Value => l[0]?) e
      simpa using z
    · intro f hf
      rcases List.mem_cons.mp hf with rfl | hf
      · exact ⟨m, t, hy⟩
      · exact hi f hf
theorem tups_sortable {a : Addr} {vs : List Value} {k : Value → List Int} (h2 : 2 ≤ vs.length) (hd : ∀ v ∈ vs, k v ≠ []) (hp : ∀ v ∈ vs, TS.TupInts s.heap v (k v)) (ha : ∀ o, s.heap.get? a = some o → o.cls ≠ .type "tuple") :
    SrtO.SortableO prog w A s a vs fun v u => HT.lexLt (k v) (k u) := by
  intro h' keep
  have hp' : ∀ v ∈ vs, TS.TupInts h' v (k v) := fun v hm => (hp v hm).keeps fun b o e c => keep b o (fun z => by subst z; exact ha o e c) e
  obtain ⟨fs, h1, h3, h4⟩ := firsts_tups vs hp' hd
  refine ⟨tuples' true, fun Q E hq => ?_, ?_⟩
  · refine PySem.W.kat_kind (T := .type "int") h1 (by omega) (fun f hm => ?_) (by rfl) ?_
    · obtain ⟨x, t, rfl⟩ := h4 f hm
      exact PySem.W.Looks.now
    · have e : (Value.type "int" != Value.type "tuple") = true := by first | decide +kernel | rfl | decide
      rw [e]
      exact hq
  · intro p q hm hm'
    show wpAny (model prog w) A (keyLt' (tuples' true) p.1 q.1) (fun r s' => s' = { s with heap := h' } ∧ r = HT.lexLt (k p.1) (k q.1)) (fun _ _ => False) { s with heap := h' }
    obtain ⟨a1, xs, e1, ⟨o, ho, hc, n, hdt⟩, i1⟩ := hp' _ hm
    obtain ⟨a2, ys, e2, ⟨o', ho', hc', n', hdt'⟩, i2⟩ := hp' _ hm'
    generalize k p.1 = ns at i1 ⊢
    generalize k q.1 = ms at i2 ⊢
    rw [e1, e2]
    refine PySem.W.kat_lt ho hdt ho' hdt' (lex_go 0 i1 i2 ?_ ⟨rfl, rfl⟩)
    have l1 := i1.length
    have l2 := i2.length
    rw [Array.length_toList] at l1 l2
    rw [l1, l2]
end
/-- the ints of the tuple that the heap tells of -/
def kH (H : Hp) : V → List Int
  | .ref a => match H a with
    | some (.tup xs) => xs.map intV
    | _ => []
  | _ => []
theorem kH_row {H : Hp} {v : V} {r : List Int} (h : Da H v (rowD r)) : kH H v = r := by
  unfold rowD at h
  cases h with
  | tup ha dx =>
    obtain rfl := vals_int dx
    simp only [kH, ha]
    exact map_intV r
theorem kH_da {H : Hp} {v : V} {r : List Int} (h : Da H v (rowD r)) : Da H v (rowD (kH H v)) := by rw [kH_row h]; exact h
theorem rows_kH {H : Hp} : ∀ {xs : List V} {Ls : List (List Int)}, DaAll H xs (Ls.map rowD) → Ls = xs.map (kH H)
  | _, [], .nil => rfl
  | _, r :: Ls, .cons h t => by
    rw [List.map_cons, kH_row h, ← rows_kH t]
theorem rows_mem {H : Hp} : ∀ {xs : List V} {Ls : List (List Int)}, DaAll H xs (Ls.map rowD) → ∀ x ∈ xs, Da H x (rowD (kH H x))
  | _, [], .nil, x, hx => by cases hx
  | _, r :: Ls, .cons h t, x, hx => by
    rcases List.mem_cons.mp hx with rfl | hx
    · exact kH_da h
    · exact rows_mem t x hx
theorem rows_of {H : Hp} : ∀ {xs : List V}, (∀ x ∈ xs, Da H x (rowD (kH H x))) → DaAll H xs ((xs.map (kH H)).map rowD)
  | [], _ => .nil
  | x :: xs, h => .cons (h x List.mem_cons_self) (rows_of fun y hy => h y (List.mem_cons_of_mem _ hy))
theorem rows_ref {H : Hp} {x : V} {r : List Int} (h : Da H x (rowD r)) : ∃ t, x = .ref t ∧ H t = some (.tup (r.map V.int)) := by
  unfold rowD at h
  cases h with
  | tup ha dx =>
    obtain rfl := vals_int dx
    exact ⟨_, rfl, ha⟩
/-- sorted of rows: what comes of it -/
def SortedTo (H : Hp) (xs : List V) (Ls : List (List Int)) (Q : VK) : Prop := ∀ (ys : List V) (Ms : List (List Int)) (p : Addr) (H2 : Hp), DaAll H ys (Ms.map rowD) → Ms.Perm Ls → Ms.Pairwise (fun x y => HT.lexLt y x = false) → New H p (.lst ys) H2 → Q (.ref p) H2
def rSortR (K : PySem.W.Frag) : List V → Hp → VK → Prop := fun vs H Q => ∃ (a : Addr) (xs : List V) (Ls : List (List Int)), vs = [V.ref a] ∧ (SqL K H a xs) ∧ DaAll H xs (Ls.map rowD) ∧ (2 ≤ Ls.length → ∀ l ∈ Ls, l ≠ []) ∧ SortedTo H xs Ls Q
section
variable {X : Cx}
theorem tup_raw {pins : List (Addr × Obj)} {σ : L2.St} {H : Hp} {s : Shared} (I : Inv X pins σ H s) {t : Addr} {ns : List Int} (h : H t = some (.tup (ns.map V.int))) : TS.TupInts s.heap (.ref t) ns := by
  obtain ⟨_, its, rv, o, ho, hc, n, hd⟩ := I.hok t _ h
  exact ⟨t, its.toArray, rfl, ⟨o, ho, hc, n, hd⟩, rv.ints⟩
theorem call_sortR : CallR X (.builtin "sorted") (rSortR X.K) := by
  intro pins s σ H vs us Q I r h
  obtain ⟨a, xs, Ls, rfl, hs, hx, ne, q⟩ := h
  obtain ⟨its, rv, hl, hz⟩ := I.list hs
  rw [Vals.ref1 r]
  have hm := rows_mem hx
  obtain ⟨e1, e2⟩ := refs_back rv fun x m => by
    obtain ⟨t, e, _⟩ := rows_ref (hm x m)
    exact ⟨t, e⟩
  have eL := rows_kH hx
  have lL : Ls.length = its.length := by rw [eL, List.length_map, e1, List.length_map]
  have keys : ∀ v ∈ its, Da H (backV v) (rowD (kH H (backV v))) := fun v hv => hm _ (by rw [e1]; exact List.mem_map.mpr ⟨_, hv, rfl⟩)
  refine SrtO.sorted_ord (NtL.swo_lexL fun u => kH H (backV u)) hl.isList (by rw [← rv.length]; exact hz) (fun h2 h₁ b ha kk => ?_) fun out h1 h2 => ?_
  · refine tups_sortable (s := { s with heap := h₁ }) h2 (fun v hv => ?_) (fun v hv => ?_) fun o e => ?_
    · refine ne (by omega) _ ?_
      rw [eL, e1, List.map_map]
      exact List.mem_map.mpr ⟨v, hv, rfl⟩
    · obtain ⟨t, e, ht⟩ := rows_ref (keys v hv)
      obtain ⟨c, rfl⟩ := e2 v hv
      cases e
      exact (tup_raw I ht).keeps fun b o e _ => (kk b o e).2
    · have e' : some o = some (seqObj "list" its.toArray 0) := e.symm.trans ha
      cases e'
      intro c
      exact absurd (Value.type.inj c) (by decide)
  · have h3 : ∀ u ∈ out, ∃ a, u = Value.ref a := fun u hu => e2 u (h2.perm.mem_iff.mp hu)
    obtain ⟨n, hn⟩ := PyProof.Rows.sortedAll_at s.heap its out.toArray
    have pm : (out.map backV).Perm xs := by rw [e1]; exact h2.perm.map _
    have hlen : (out.map backV).length ≤ sizeLine := by rw [pm.length_eq]; exact hz
    refine ⟨.ref _, upd H (s.heap.objs.size + 1) (.lst (out.map backV)), I.laid (t' := s.toks) (fun _ _ => PyProof.Rows.sortedAll_old) (Nat.le_succ _) ⟨hlen, out, n, vals_back h3, hn⟩, rfl, q (out.map backV) ((out.map backV).map (kH H)) _ _ (rows_of fun x hx' => hm x (pm.mem_iff.mp hx')) ?_ ?_ ⟨I.hok.fresh (Nat.le_succ _), rfl⟩⟩
    · rw [eL]
      exact pm.map _
    · rw [List.map_map]
      exact List.pairwise_map.mpr h1
/-- sorted of a dict with such keys -/
def keyL (r : List Int) : List L2.Key := r.map Sum.inl
theorem keyL_kV (r : List Int) : (keyL r).map kV = r.map V.int := by
  unfold keyL
  rw [List.map_map]
  rfl
theorem keyL_inj {a b : List Int} (e : keyL a = keyL b) : a = b := by
  have := congrArg (List.map kV) e
  rw [keyL_kV, keyL_kV] at this
  have z := congrArg (List.map intV) this
  rwa [map_intV, map_intV] at z
def rSortDT : List V → Hp → VK → Prop := fun vs H Q => ∃ (a : Addr) (kvs : List (List L2.Key × V)) (Ls : List (List Int)), vs = [V.ref a] ∧ H a = some (.dT kvs) ∧ kvs.map (·.1) = Ls.map keyL ∧ (2 ≤ Ls.length → ∀ l ∈ Ls, l ≠ []) ∧
  ∀ (ys : List V) (Ms : List (List Int)) (p : Addr) (H2 : Hp), DaAll H ys (Ms.map rowD) → Ms.Perm Ls → Ms.Pairwise (fun x y => HT.lexLt y x = false) → New H p (.lst ys) H2 → Q (.ref p) H2
theorem keys_rows {H : Hp} : ∀ {kvs : List (List L2.Key × V)} {xs : List (List L2.Key × Addr × Value)} {Ls : List (List Int)}, KT H kvs xs → kvs.map (·.1) = Ls.map keyL → DaAll H (xs.map fun x => V.ref x.2.1) (Ls.map rowD)
  | _, _, [], .nil, _ => .nil
  | _, _, _ :: _, .nil, e => by cases e
  | _, _, [], .cons _ _, e => by cases e
  | _, _, r :: Ls, .cons h t, e => by
    rw [List.map_cons, List.map_cons] at e
    injection e with e1 e2
    refine .cons ?_ (keys_rows t e2)
    refine .tup (xs := r.map V.int) ?_ (DaAll.ints r)
    rw [h.2.1, e1, keyL_kV]
theorem call_sortDT (hc : X.calm = true) : CallR X (.builtin "sorted") rSortDT := by
  intro pins s σ H vs us Q I r h
  obtain ⟨d, kvs, Ls, rfl, hd, ek, ne, q⟩ := h
  obtain ⟨u, rfl, rx⟩ := r.one
  cases rx
  obtain ⟨z, hs, ks, pr, o, es, ep, ho, hx, hdt, he, hn⟩ := (show ObjOk X.prog X.w H s.heap d (.dT kvs) from I.hok d _ hd)
  have l1 : es.size = ks.length := size_of_entries he
  have l2 : kvs.length = ks.length := Paired.length pr
  have hr := keys_rows pr ek
  have hm := rows_mem hr
  have eL := rows_kH hr
  refine Calls.call_function_entry kind_sorted plain_sorted entry_sorted (args_sorted1 _) ?_
  unfold Builtin.«sorted»
  refine wpAny_bind (m := checkCount "sorted" 1 1 _) (wpAny_pure ?_)
  refine wpAny_bind (PySem.W.kdu_collect (kdl_raw hs hx hdt) (I.ok.hd hc) ho (by omega) fun h' tk acc kp it => ?_)
  have ea : acc.toList = ks.map fun x => Value.ref x.2.1 := by
    have hl : acc.toList.length = ks.length := by rw [Array.length_toList, it.1]; exact l1
    apply List.ext_getElem?
    intro j
    rw [List.getElem?_map]
    cases hj : acc.toList[j]? with
    | none =>
      have h1 := List.getElem?_eq_none_iff.mp hj
      rw [List.getElem?_eq_none (by omega)]
      all_goals rfl
    | some v =>
      obtain ⟨en, hen, hv⟩ := it.2 j v (by rw [← Array.getElem?_toList]; exact hj)
      have qe := entry_at he j
      rw [hen] at qe
      cases hb : ks[j]? with
      | none =>
        rw [hb] at qe
        exact nomatch (show some en = none from qe)
      | some b =>
        rw [hb] at qe
        have e2 : en = entryOfKey (tupleKind (mixKind X.prog X.w)) b := Option.some.inj qe
        rw [hv, e2]
        all_goals rfl
  generalize eits : acc.toList = its at ea ⊢
  have ex : (ks.map fun x => V.ref x.2.1) = its.map backV := by
    rw [ea, List.map_map]
    rfl
  have e2 : ∀ u ∈ its, ∃ a, u = Value.ref a := fun u hu => by
    rw [ea] at hu
    obtain ⟨x, _, rfl⟩ := List.mem_map.mp hu
    exact ⟨_, rfl⟩
  have li : its.length = ks.length := by rw [ea, List.length_map]
  have lL : Ls.length = its.length := by rw [eL, List.length_map, List.length_map, li]
  have I1 : Inv X pins σ H { s with heap := h', toks := tk } := I.kept kp
  refine wpAny_bind (wpAny_newList ?_ (by omega))
  have here : (h'.push (seqObj "list" its.toArray 0)).get? h'.objs.size = some (seqObj "list" its.toArray 0) := Heap.get?_push_size _ rfl
  show wpAny _ _ _ _ _ { s with heap := h'.push (seqObj "list" its.toArray 0), toks := tk }
  have keys : ∀ v ∈ its, Da H (backV v) (rowD (kH H (backV v))) := fun v hv => hm _ (by rw [ex]; exact List.mem_map.mpr ⟨_, hv, rfl⟩)
  refine wpAny_bind (wpAny_holding (wpAny_call_entry slot_list_sort ⟨_, here, rfl⟩ entry_list_sort
    (SrtO.list_sort_ord (s := { s with heap := h'.push (seqObj "list" its.toArray 0), toks := tk }) (NtL.swo_lexL fun u => kH H (backV u)) here (by omega) (fun h2 => ?_) fun out h1 h2 => ⟨_, rfl, ?_⟩) (args_list_sort _)))
  · refine tups_sortable h2 (fun v hv => ?_) (fun v hv => ?_) fun o e => ?_
    · refine ne (by omega) _ ?_
      rw [eL, ex, List.map_map]
      exact List.mem_map.mpr ⟨v, hv, rfl⟩
    · obtain ⟨t, e, ht⟩ := rows_ref (keys v hv)
      obtain ⟨c, rfl⟩ := e2 v hv
      cases e
      exact (tup_raw I1 ht).keeps fun b o e _ => Heap.get?_push_of_some _ e
    · have e' : some o = some (seqObj "list" its.toArray 0) := e.symm.trans here
      cases e'
      intro c
      exact absurd (Value.type.inj c) (by decide)
  · have h3 : ∀ u ∈ out, ∃ a, u = Value.ref a := fun u hu => e2 u (h2.perm.mem_iff.mp hu)
    obtain ⟨n, hn⟩ := PyProof.Rows.sortedHeap_at (vs := its) (out := out.toArray) here
    have pm : (out.map backV).Perm (ks.map fun x => V.ref x.2.1) := by rw [ex]; exact h2.perm.map _
    have hlen : (out.map backV).length ≤ sizeLine := by rw [pm.length_eq, List.length_map]; omega
    refine wpAny_pure ⟨_, rfl, ⟨.ref _, upd H h'.objs.size (.lst (out.map backV)), I1.laid (t' := tk) (fun b o e => ?_) (Nat.le_refl _) ⟨hlen, out, n, vals_back h3, hn⟩, rfl, q (out.map backV) ((out.map backV).map (kH H)) _ _ (rows_of fun x hx' => hm x (pm.mem_iff.mp hx')) ?_ ?_ ⟨I1.hok.fresh (Nat.le_refl _), rfl⟩⟩⟩
    · have lt := Heap.lt_size e
      rw [PyProof.Rows.sortedHeap_old (Nat.ne_of_lt lt) (by rw [size_push']; exact Nat.lt_succ_of_lt lt)]
      exact Heap.get?_push_of_some _ e
    · rw [eL]
      exact pm.map _
    · rw [List.map_map]
      exact List.pairwise_map.mpr h1
end
end Hd

namespace Hd
open PySem PySem.Spec PyProof.Rows L2
/-! ### rows reached by doing moves in turn -/
inductive Rch (T : List (List Int)) (r : List Int) : List Int → Prop
  | base : Rch T r r
  | step {w m : List Int} : Rch T r w → m ∈ T → Rch T r (aft w m)
def AllMv (n : Int) (T : List (List Int)) : Prop := ∀ m ∈ T, IsMv m n
def RowIn (n : Int) (w : List Int) : Prop := ∀ p ∈ w, inR n p
theorem RowIn.aft {n : Int} {w m : List Int} (h : RowIn n w) (hm : IsMv m n) : RowIn n (aft w m) := fun p hp => by
  obtain ⟨q, hq, rfl⟩ := List.mem_map.mp hp
  exact (stp_at hm (h q hq)).2
theorem IsMv.row {n : Int} {m : List Int} (h : IsMv m n) : RowIn n m := fun p hp => h.mem.mp hp
section
variable {n : Int} {T : List (List Int)} {r : List Int}
theorem Rch.row (hT : AllMv n T) (h : RowIn n r) {w : List Int} (c : Rch T r w) : RowIn n w ∧ w.length = r.length := by
  induction c with
  | base => exact ⟨h, rfl⟩
  | step _ hm ih => exact ⟨ih.1.aft (hT _ hm), by rw [aft_len]; exact ih.2⟩
theorem Rch.mono {T' : List (List Int)} (h : ∀ m ∈ T, m ∈ T') {w : List Int} (c : Rch T r w) : Rch T' r w := by
  induction c with
  | base => exact .base
  | step _ hm ih => exact .step ih (h _ hm)
end
abbrev Mk' (n : Int) (T : List (List Int)) (w : List Int) : Prop := Rch T (rngI n) w
section
variable {n : Int} {T : List (List Int)}
theorem made_mv (n0 : 0 ≤ n) (hT : AllMv n T) {w : List Int} (c : Mk' n T w) : IsMv w n := by
  induction c with
  | base => exact rng_mv
  | step _ hm ih => exact aft_mv ih (hT _ hm) n0
end
/-! ### lists in order -/
theorem lex_irr (xs : List Int) : HT.lexLt xs xs = false := by
  cases e : HT.lexLt xs xs with
  | false => rfl
  | true => rw [NtL.lex_asym xs xs e] at e; cases e
theorem lex_tri : ∀ xs ys : List Int, HT.lexLt xs ys = false → HT.lexLt ys xs = false → xs = ys
  | [], [], _, _ => rfl
  | [], y :: ys, h, _ => by rw [HT.lexLt_nil_cons] at h; cases h
  | x :: xs, [], _, h => by rw [HT.lexLt_nil_cons] at h; cases h
  | x :: xs, y :: ys, h1, h2 => by
    rw [HT.lexLt_cons] at h1 h2
    by_cases e : x = y
    · subst e
      rw [if_pos rfl] at h1 h2
      rw [lex_tri xs ys h1 h2]
    · rw [if_neg e] at h1
      rw [if_neg (Ne.symm e)] at h2
      have a := of_decide_eq_false h1
      have b := of_decide_eq_false h2
      omega
/-- ascending, no two alike -/
def Asc (L : List (List Int)) : Prop := L.Pairwise fun x y => HT.lexLt x y = true
theorem asc_of : ∀ {L : List (List Int)}, L.Pairwise (fun x y => HT.lexLt y x = false) → L.Nodup → Asc L
  | [], _, _ => .nil
  | x :: L, h, nd => by
    obtain ⟨h1, h2⟩ := List.pairwise_cons.mp h
    obtain ⟨n1, n2⟩ := List.nodup_cons.mp nd
    refine List.pairwise_cons.mpr ⟨fun y hy => ?_, asc_of h2 n2⟩
    cases e : HT.lexLt x y with
    | true => rfl
    | false => exact absurd (lex_tri _ _ e (h1 y hy) ▸ hy) n1
theorem Asc.nodup {L : List (List Int)} (h : Asc L) : L.Nodup := List.Pairwise.imp (fun {a b} (e : HT.lexLt a b = true) z => by rw [z, lex_irr] at e; cases e) h
theorem asc_eq : ∀ {L M : List (List Int)}, Asc L → Asc M → (∀ x, x ∈ L ↔ x ∈ M) → L = M
  | [], [], _, _, _ => rfl
  | [], y :: M, _, _, h => absurd ((h y).mpr List.mem_cons_self) (by simp)
  | x :: L, [], _, _, h => absurd ((h x).mp List.mem_cons_self) (by simp)
  | x :: L, y :: M, hl, hm, h => by
    obtain ⟨l1, l2⟩ := List.pairwise_cons.mp hl
    obtain ⟨m1, m2⟩ := List.pairwise_cons.mp hm
    have e : x = y := by
      rcases List.mem_cons.mp ((h x).mp List.mem_cons_self) with e | hx
      · exact e
      · rcases List.mem_cons.mp ((h y).mpr List.mem_cons_self) with e | hy
        · exact e.symm
        · have a := m1 x hx
          have b := l1 y hy
          rw [NtL.lex_asym _ _ a] at b
          cases b
    subst e
    have nx : x ∉ L := fun z => by have := l1 x z; rw [lex_irr] at this; cases this
    have ny : x ∉ M := fun z => by have := m1 x z; rw [lex_irr] at this; cases this
    rw [asc_eq l2 m2 fun z => ?_]
    constructor
    · intro hz
      rcases List.mem_cons.mp ((h z).mp (List.mem_cons_of_mem _ hz)) with e | k
      · rw [e] at hz; exact absurd hz nx
      · exact k
    · intro hz
      rcases List.mem_cons.mp ((h z).mpr (List.mem_cons_of_mem _ hz)) with e | k
      · rw [e] at hz; exact absurd hz ny
      · exact k
/-- L: all that is made, in order -/
structure Grp (n : Int) (T L : List (List Int)) : Prop where
  asc : Asc L
  mem : ∀ w, w ∈ L ↔ Mk' n T w
theorem Grp.uniq {n : Int} {T L M : List (List Int)} (a : Grp n T L) (b : Grp n T M) : L = M := asc_eq a.asc b.asc fun x => (a.mem x).trans (b.mem x).symm
theorem Grp.of_perm {n : Int} {T L Ks : List (List Int)} (nd : Ks.Nodup) (mem : ∀ w, w ∈ Ks ↔ Mk' n T w) (pm : L.Perm Ks) (so : L.Pairwise fun x y => HT.lexLt y x = false) : Grp n T L := ⟨asc_of so ((List.Perm.nodup_iff pm).mpr nd), fun w => (List.Perm.mem_iff pm).trans (mem w)⟩
theorem Grp.still {n : Int} {T L : List (List Int)} (g : Grp n T L) : rngI n ∈ L := (g.mem _).mpr .base
theorem Grp.none {n : Int} : Grp n [] [rngI n] := ⟨List.pairwise_singleton _ _, fun w => ⟨fun h => by rw [List.mem_singleton.mp h]; exact .base, fun h => by
  cases h with
  | base => exact List.mem_singleton.mpr rfl
  | step _ hm => cases hm⟩⟩
theorem len_sub : ∀ {K L : List (List Int)}, K.Nodup → (∀ w ∈ K, w ∈ L) → K.length ≤ L.length
  | [], L, _, _ => Nat.zero_le _
  | x :: K, L, nd, h => by
    obtain ⟨n1, n2⟩ := List.nodup_cons.mp nd
    have hx := h x List.mem_cons_self
    have := len_sub (K := K) (L := L.erase x) n2 fun w hw => (List.mem_erase_of_ne fun e => n1 (by rw [← e]; exact hw)).mpr (h w (List.mem_cons_of_mem _ hw))
    rw [List.length_erase_of_mem hx] at this
    have := List.length_pos_of_mem hx
    rw [List.length_cons]
    omega
/-- closed under the moves: then it is all that is reached -/
theorem rch_all {T : List (List Int)} {r : List Int} {K : List (List Int)} (hb : r ∈ K) (hc : ∀ w ∈ K, ∀ m ∈ T, aft w m ∈ K) {w : List Int} (c : Rch T r w) : w ∈ K := by
  induction c with
  | base => exact hb
  | step _ hm ih => exact hc _ ih _ hm
end Hd

namespace Hd
open PySem PySem.Spec PyProof.Rows L2
/-! ### a walk that is one of two -/
def iOr (a b : TI) : TI := fun σ H R => a σ H R ∨ b σ H R
theorem pi_or {X : Cx} {tg e : Expr} {a b : TI} (ha : PI X tg e a) (hb : PI X tg e b) : PI X tg e (iOr a b) := ⟨fun pins s σ H R I h => h.elim (fun h => ha.run pins s σ H R I h) fun h => hb.run pins s σ H R I h⟩
/-- a for over enumerate(tuple) -/
theorem for_enumT {K : PySem.W.Frag} {a : Addr} {xs : List V} {g : TG} {tb : TS} {D : Ends} {σ : L2.St} {H : Hp} (Pv : Nat → L2.St → Hp → Prop) (h0 : Pv 0 σ H) (hl : ∀ i σ H, i ≤ xs.length → Pv i σ H → SqT K H a xs)
    (hs : ∀ i x T σ H H', xs[i]? = some x → Pv i σ H → New H T (.tup [.int (i : Nat), x]) H' → g (.ref T) σ H' fun σ2 H2 => tb { D with nx := Pv (i + 1), ct := Pv (i + 1), bk := D.nx } σ2 H2) (hd : ∀ σ H, Pv xs.length σ H → D.nx σ H) :
    ∃ W : Nat → Nat → L2.St → Hp → Prop, (∃ m, W 0 m σ H) ∧ ∀ i m σ H, W i m σ H →
      ((Ete K a).stop i H ∧ D.nx σ H) ∨ ((Ete K a).go i H ∧ ∃ N : L2.St → Hp → Prop, (∀ σ' H', N σ' H' → ∃ m', m' < m ∧ W (i + 1) m' σ' H') ∧ ∀ x H', (Ete K a).yld i H x H' → g x σ H' fun σ2 H2 => tb { D with nx := N, ct := N, bk := D.nx } σ2 H2) := by
  refine ⟨fun i m σ H => m = xs.length - i ∧ i ≤ xs.length ∧ Pv i σ H, ⟨xs.length, by simp, Nat.zero_le _, h0⟩, ?_⟩
  rintro i m σ H ⟨rfl, hi, p⟩
  have q := hl i σ H hi p
  by_cases hlt : i < xs.length
  · refine .inr ⟨⟨xs, xs[i], q, List.getElem?_eq_getElem hlt⟩, Pv (i + 1), fun σ' H' p' => ⟨xs.length - (i + 1), by omega, rfl, hlt, p'⟩, ?_⟩
    rintro v H' ⟨T, x, rfl, nT, k⟩
    exact hs i x T σ H H' (k xs q) p nT
  · have e : i = xs.length := by omega
    subst e
    exact .inl ⟨⟨xs, q, Nat.le_refl _⟩, hd σ H p⟩
theorem for_enumL {K : PySem.W.Frag} {a : Addr} {xs : List V} {g : TG} {tb : TS} {D : Ends} {σ : L2.St} {H : Hp} (Pv : Nat → L2.St → Hp → Prop) (h0 : Pv 0 σ H) (hl : ∀ i σ H, i ≤ xs.length → Pv i σ H → SqL K H a xs)
    (hs : ∀ i x T σ H H', xs[i]? = some x → Pv i σ H → New H T (.tup [.int (i : Nat), x]) H' → g (.ref T) σ H' fun σ2 H2 => tb { D with nx := Pv (i + 1), ct := Pv (i + 1), bk := D.nx } σ2 H2) (hd : ∀ σ H, Pv xs.length σ H → D.nx σ H) :
    ∃ W : Nat → Nat → L2.St → Hp → Prop, (∃ m, W 0 m σ H) ∧ ∀ i m σ H, W i m σ H →
      ((Ite K a).stop i H ∧ D.nx σ H) ∨ ((Ite K a).go i H ∧ ∃ N : L2.St → Hp → Prop, (∀ σ' H', N σ' H' → ∃ m', m' < m ∧ W (i + 1) m' σ' H') ∧ ∀ x H', (Ite K a).yld i H x H' → g x σ H' fun σ2 H2 => tb { D with nx := N, ct := N, bk := D.nx } σ2 H2) := by
  refine ⟨fun i m σ H => m = xs.length - i ∧ i ≤ xs.length ∧ Pv i σ H, ⟨xs.length, by simp, Nat.zero_le _, h0⟩, ?_⟩
  rintro i m σ H ⟨rfl, hi, p⟩
  have q := hl i σ H hi p
  by_cases hlt : i < xs.length
  · refine .inr ⟨⟨xs, xs[i], q, List.getElem?_eq_getElem hlt⟩, Pv (i + 1), fun σ' H' p' => ⟨xs.length - (i + 1), by omega, rfl, hlt, p'⟩, ?_⟩
    rintro v H' ⟨T, x, rfl, nT, eT, k⟩
    exact hs i x T σ H H' (k xs q) p ⟨nT, eT⟩
  · have e : i = xs.length := by omega
    subst e
    exact .inl ⟨⟨xs, q, Nat.le_refl _⟩, hd σ H p⟩
/-! ### defs with defaults, all arguments given -/
def DefD (K : PySem.W.Frag) (mg : Str → Option Value) (x : Str) (st : Stmt) (ps : List Str) : Prop :=
  ∃ f fd dvs, FunD K x x (defArgs st) (defBody st) (defScope st) dvs [] f fd ∧ mg x = some (.ref f) ∧ Binds K fd ps []
section
variable {P : Program} {w : World} {K : PySem.W.Frag} {mg : Str → Option Value} {base : Heap} {x : Str} {st : Stmt} {ps N : List Str} {k : Nat} {sp : Sp}
theorem DefD.calX (D : DefD K mg x st ps) (S : FnScope N ps (defScope st)) (len : ∀ vs H Q E, sp vs H Q E → vs.length = ps.length)
    (hbody : ∀ (f : Addr) (cdv : Value) (A : Around) (outer : List Env) (s : Shared) (H : Hp) (vs : List V) (Q : VK) (E : XK), Room k (A.deeper (envOfC x (defScope st) s.heap.objs.size f cdv)) → sp vs H Q E →
      ∃ t, PSs (cxOf (L2N.CX P w) P w K mg base N x (defScope st) f cdv A outer s H E) (defBody st) t ∧ t { nx := fun _ H' => Q .non H', rt := Q } (start N vs) H) : CalX P w K mg base x (k + 1) ps sp := by
  obtain ⟨f, fd, dvs, F, g, b⟩ := D
  exact ⟨f, fd, F.ok S len fun cdv A outer s H vs Q E hr h => hbody f cdv A outer s H vs Q E hr h, g, F.kp, b⟩
end
theorem bindsD {K : PySem.W.Frag} {x qual : Str} {st : Stmt} {v : V} {f : Addr} {fd : FuncData} {ps : List Str} (F : FunD K x qual (defArgs st) (defBody st) (defScope st) [v] [] f fd)
    (h : ∀ (T : Addr) (kV doc pm : Value) (an : Option Addr) (cdv ct : Value) (us its : List Value), us.length = ps.length → its.length = 1 →
      ∃ k, bindArgs (PySem.W.fnOf x qual (defArgs st) (defBody st) (defScope st) (.ref T) kV doc pm an cdv ct) ⟨us, []⟩ = seqItems? (.ref T) >>= k ∧ k (some its.toArray) = pure (ps.zip (us ++ its.drop 1))) : Binds K fd ps [] := by
  obtain ⟨ds, hv, b⟩ := F.binds1 ps.length 1 (by simp) (by simp) (fun T kV doc pm an cdv ct us its l1 l2 => h T kV doc pm an cdv ct us its l1 l2)
  cases hv
  exact b
/-! ### methods that may raise -/
def CalM (P : Program) (w : World) (K : PySem.W.Frag) (mg : Str → Option Value) (base : Heap) (C : Addr) (m : Str) (k : Nat) (ps : List Str) (sp : Sp) : Prop :=
  ∃ f fd, FnOk P w K mg base (L2N.CX P w) k f fd ps sp ∧ PySem.W.findIn K (.ref C) m = some (some (.ref f)) ∧ PySem.W.isFn K (.ref f) = true ∧ PySem.W.keepIn K (.ref f) = true ∧ Binds K fd ps []
def CalP (P : Program) (w : World) (K : PySem.W.Frag) (mg : Str → Option Value) (base : Heap) (C : Addr) (m : Str) (k : Nat) (ps : List Str) (sp : Sp) : Prop :=
  ∃ p f fd, PropOf K C m p f ∧ FnOk P w K mg base (L2N.CX P w) k f fd ps sp ∧ Binds K fd ps []
/-- a method as it stands behind the top -/
def MDef (K : PySem.W.Frag) (C : Addr) (m qual : Str) (st : Stmt) (ps : List Str) : Prop :=
  ∃ f fd dvs, FunD K m qual (defArgs st) (defBody st) (defScope st) dvs [] f fd ∧ PySem.W.findIn K (.ref C) m = some (some (.ref f)) ∧ PySem.W.isFn K (.ref f) = true ∧ Binds K fd ps []
def PDef (K : PySem.W.Frag) (C : Addr) (m qual : Str) (st : Stmt) (ps : List Str) : Prop :=
  ∃ p f fd dvs, FunD K m qual (defArgs st) (defBody st) (defScope st) dvs [] f fd ∧ PropOf K C m p f ∧ Binds K fd ps []
theorem Fun.D {K : PySem.W.Frag} {x qual : Str} {st : Stmt} {f : Addr} {fd : FuncData} (F : Fun K x qual st f fd) : FunD K x qual (defArgs st) (defBody st) (defScope st) [] [] f fd := by
  obtain ⟨oc, od, kV, doc, pm, an, cdv, ct, osl, rfl, lk, hcd⟩ := F.ex
  exact ⟨⟨oc, od, .none, kV, doc, pm, an, cdv, ct, osl, rfl, lk, hcd, .inl ⟨rfl, rfl⟩, .inl rfl⟩, F.kp⟩
section
variable {P : Program} {w : World} {K : PySem.W.Frag} {mg : Str → Option Value} {base : Heap} {C : Addr} {m qual : Str} {st : Stmt} {ps N : List Str} {k : Nat} {sp : Sp}
theorem MDef.calM (D : MDef K C m qual st ps) (S : FnScope N ps (defScope st)) (len : ∀ vs H Q E, sp vs H Q E → vs.length = ps.length)
    (hbody : ∀ (f : Addr) (cdv : Value) (A : Around) (outer : List Env) (s : Shared) (H : Hp) (vs : List V) (Q : VK) (E : XK), Room k (A.deeper (envOfC qual (defScope st) s.heap.objs.size f cdv)) → sp vs H Q E →
      ∃ t, PSs (cxOf (L2N.CX P w) P w K mg base N qual (defScope st) f cdv A outer s H E) (defBody st) t ∧ t { nx := fun _ H' => Q .non H', rt := Q } (start N vs) H) : CalM P w K mg base C m (k + 1) ps sp := by
  obtain ⟨f, fd, dvs, F, g, isf, b⟩ := D
  exact ⟨f, fd, F.ok S len fun cdv A outer s H vs Q E hr h => hbody f cdv A outer s H vs Q E hr h, g, isf, F.kp, b⟩
theorem PDef.calP (D : PDef K C m qual st ps) (S : FnScope N ps (defScope st)) (len : ∀ vs H Q E, sp vs H Q E → vs.length = ps.length)
    (hbody : ∀ (f : Addr) (cdv : Value) (A : Around) (outer : List Env) (s : Shared) (H : Hp) (vs : List V) (Q : VK) (E : XK), Room k (A.deeper (envOfC qual (defScope st) s.heap.objs.size f cdv)) → sp vs H Q E →
      ∃ t, PSs (cxOf (L2N.CX P w) P w K mg base N qual (defScope st) f cdv A outer s H E) (defBody st) t ∧ t { nx := fun _ H' => Q .non H', rt := Q } (start N vs) H) : CalP P w K mg base C m (k + 1) ps sp := by
  obtain ⟨p, f, fd, dvs, F, hp, b⟩ := D
  exact ⟨p, f, fd, hp, F.ok S len fun cdv A outer s H vs Q E hr h => hbody f cdv A outer s H vs Q E hr h, b⟩
end
structure WCls (K : PySem.W.Frag) (mg : Str → Option Value) (x : Str) (C : Addr) : Prop where
  cl : Cls K C
  gC : mg x = some (.ref C)
  mks : PySem.W.makesIn K C = true
  kp : PySem.W.keepIn K (.ref C) = true
  ca : PySem.W.findIn K (.ref C) "__class__" = some (some (.builtin "object.__class__"))
  sg : PySem.W.specialIn K (.builtin "object.__class__") "__get__" = some (some (.builtin "getset_descriptor.__get__"))
  tk : PySem.W.takesIn K (.builtin "object.__class__") = some true
  mo : PySem.W.mroIn K C (.type "object") = some true
theorem kit_self {K : PySem.W.Frag} {C : Addr} : PySem.W.kitOne K (.ref C) (.ref C) = some true := by
  unfold PySem.W.kitOne
  split
  · rfl
  · rename_i e
    exact absurd (by simp) e
section
variable {X : Cx} {C : Addr} {m x : Str} {k : Nat} {ps : List Str} {sp : Sp} {e : Expr} {es : List Expr} {te : TE} {t : TA} {p pos : Pos}
theorem WCls.ty (c : WCls X.K X.mg x C) {H : Hp} {a dx : Addr} {fs : List (Str × V)} (h : H a = some (.ins C dx fs)) : TyX X.K H (.ref a) (.ref C) := .base (.ins h c.cl c.ca c.sg c.tk c.mo)
theorem pe_propQ (W : WCls X.K X.mg x C) (M : CalP X.prog X.w X.K X.mg X.base C m k ps sp) (hr : Room (k + 1) X.A) (he : PE X e te) (hab : attributeBase e m X.env (eval e X.env) = eval e X.env := by rfl) : PE X (.Attribute e m pos) (tProp C sp [] E0 te) := by
  obtain ⟨q, f, fd, hp, F, b⟩ := M
  exact pe_prop he W.cl hp F hr b .nil nothing_out hab
/-- running such a method at an instance -/
theorem run_meth {pins : List (Addr × Obj)} {σ : L2.St} {H : Hp} {s : Shared} {Q : VK} {A : Around} {us : List Value} {vs : List V} {E' : Value → Shared → Prop} (M : CalM X.prog X.w X.K X.mg X.base C m k ps sp) (hr : Room k A) (fr : A.frames = X.A.frames)
    (I : Inv X pins σ H s) (r : Vals vs us) (h : sp vs H Q E0) : ∃ f, PySem.W.findIn X.K (.ref C) m = some (some (.ref f)) ∧ PySem.W.isFn X.K (.ref f) = true ∧ wpAny (model X.prog X.w) A (call (.ref f) us) (EP X pins σ Q) E' s := by
  obtain ⟨f, fd, F, hf, isf, kf, b⟩ := M
  refine ⟨f, hf, isf, ?_⟩
  have e0 : Env0 X.prog X.w X.K X.mg X.base A X.stack s H := by
    have e := I.env0
    exact ⟨by rw [fr]; exact e.frames, e.mod, e.bs, e.bsz, e.funs, e.frf, e.hok, e.bare⟩
  have hl := F.len _ _ _ _ h
  refine wpAny_call (codeAny_mono (F.run A X.stack s H ⟨us, []⟩ us vs Q E0 hr e0 (by
    have := b s us I.kIn (by rw [List.append_nil, ← r.length]; exact hl)
    rwa [List.append_nil] at this) r h) fun res s' hq => ?_)
  cases res with
  | error er =>
    obtain ⟨_, _, _, _, _, _, _, _, _, _, _, _, z⟩ := hq
    exact z.elim
  | ok fl =>
    cases fl with
    | ret u => exact I.after hq
    | next => exact hq.elim
    | brk => exact hq.elim
    | cont => exact hq.elim
/-- len(o), its own __len__ -/
def rLenW (C : Addr) (sp : Sp) : List V → Hp → VK → Prop := fun xs H Q => ∃ a dx fs, xs = [.ref a] ∧ H a = some (.ins C dx fs) ∧ sp [.ref a] H (fun v H' => ∃ n : Int, v = .int n ∧ 0 ≤ n ∧ n < 2 ^ 63 ∧ Q (.int n) H') E0
theorem call_lenW (M : CalM X.prog X.w X.K X.mg X.base C "__len__" k ps sp) (hr : Room (k + 1) X.A) : CallR X (.builtin "len") (rLenW C sp) := by
  rintro pins s σ H xs us Q I r ⟨a, dx, fs, rfl, ha, q⟩
  obtain ⟨u, rfl, rx⟩ := vals1 r
  obtain rfl : u = .ref a := rx
  obtain ⟨mA, O, _⟩ := ins_get I.hok ha
  obtain ⟨od, J, _⟩ := O.look
  obtain ⟨f, hf, isf, go⟩ := run_meth (A := X.A.in1) (E' := X.xe) M hr.in1 rfl I r q
  obtain ⟨m0, hF⟩ := I.fr
  refine PySem.W.len_K hF I.ok.mod.kin J hf isf (wpAny_mono go (fun v s' z => ?_) fun _ _ z => z)
  obtain ⟨y, H', I', ry, n, rfl, n0, n1, q'⟩ := z
  obtain ⟨t, rfl⟩ := ry
  exact ⟨⟨n0, n1⟩, .int n, H', I'.tok _, ⟨_, rfl⟩, q'⟩
end
/-! ### {k: v}, k a tuple -/
def tDispT1 (tk tv : TE) : TE := fun σ H Q => ∀ p, H p = none → tk σ (upd H p (.dT [])) fun x H1 => tv σ H1 fun y H2 => H2 p = some (.dT []) ∧ ∃ (b : Addr) (k : List L2.Key), x = .ref b ∧ H2 b = some (.tup (k.map kV)) ∧ Q (.ref p) (upd H2 p (.dT [(k, y)]))
theorem pe_dispT1 {X : Cx} {ke ve : Expr} {tk tv : TE} {pos : Pos} (hu : X.A.units + 1 < cLine) (hk : PE X ke tk) (hv : PE X ve tv) : PE X (.Dict [some ke] [ve] pos) (tDispT1 tk tv) := by
  refine ⟨fun pins s σ H Q I q => ?_⟩
  have hn := I.hok.fresh (Nat.le_refl s.heap.objs.size)
  have I1 := I.laid (a := s.heap.objs.size) (o := .dT []) (h' := s.heap.push { cls := .type "dict", data := .dict #[] }) (t' := s.toks) (fun _ _ q => Heap.get?_push_of_some _ q) (Nat.le_refl _) (dt_empty s.heap I.big)
  refine wpAny_Dict_any rfl rfl (by simp) (by simp) (thn ((pps_cons hk hv pps_nil).run pins _ σ _ (fun ps H2 => match ps with
    | [(x, y)] => H2 s.heap.objs.size = some (.dT []) ∧ ∃ (b : Addr) (k : List L2.Key), x = .ref b ∧ H2 b = some (.tup (k.map kV)) ∧ Q (.ref s.heap.objs.size) (upd H2 s.heap.objs.size (.dT [(k, y)]))
    | _ => False) I1 (q _ hn)) fun vs s2 z => ?_)
  obtain ⟨ps, H2, I2, rel, z⟩ := z
  match ps, z, rel with
  | [(x, y)], ⟨e, b, k, ex, eb, q2⟩, .cons ⟨rx, ry⟩ .nil =>
    subst ex
    rename_i pr
    obtain ⟨u, r⟩ := pr
    cases (show u = Value.ref b from rx)
    obtain ⟨z, hd, xs, rel, dd⟩ := dt_of I2.hok e
    cases rel
    show wpAny _ _ (forIn [(Value.ref b, r)] PUnit.unit _) _ _ _
    rw [List.forIn_cons]
    refine wpAny_bind (wpAny_bind (wpAny_dictSet_heap (hsz := Nat.zero_le _) (knd := tupleKind (mixKind X.prog X.w)) (show X.A.units < cLine by omega) (key_of I2.hok eb) dd fun h' dd' hs => wpAny_pure ?_))
    dsimp only
    rw [List.forIn_nil]
    refine wpAny_pure ⟨.ref s.heap.objs.size, _, ?_, rfl, q2⟩
    obtain ⟨o, es, ep, hq, h2, h3, h4, _, h5⟩ := dd'
    have nb : b ≠ s.heap.objs.size := ne_of eb e (fun z => nomatch z)
    refine d_write I2 (by rw [e]; trivial) hs ⟨o, hq⟩ ⟨(by show 1 ≤ sizeLine; decide), hd, [(k, b, r)], .cons ⟨rfl, ?_, ry⟩ .nil, o, es, ep, hq, h2, h3, h4, h5⟩
    rw [upd_ne nb]
    exact eb
end Hd

namespace Hd
open PySem PySem.Spec PyProof.Rows L2
/-! ### rows reached, layer by layer, each with its word -/
abbrev WL := List (List Int × List Int)
def lookW (W : WL) (r : List Int) : List Int := ((W.find? fun p => decide (p.1 = r)).map (·.2)).getD []
def put1 (r wd m : List Int) (i : Int) (W : WL) : WL := if aft r m ∈ W.map (·.1) then W else W ++ [(aft r m, wd ++ [i])]
def nl1 (T : List (List Int)) (r : List Int) (W : WL) : Nat → WL
  | 0 => W
  | k + 1 => match T[k]? with
    | some m => put1 r (lookW W r) m (k : Int) (nl1 T r W k)
    | none => nl1 T r W k
def nl (T R : List (List Int)) (W : WL) : Nat → WL
  | 0 => W
  | i + 1 => match R[i]? with
    | some r => nl1 T r (nl T R W i) T.length
    | none => nl T R W i
theorem put1_ext (r wd m : List Int) (i : Int) (W : WL) : ∃ Y, put1 r wd m i W = W ++ Y := by
  unfold put1
  by_cases c : aft r m ∈ W.map (·.1)
  · rw [if_pos c]; exact ⟨[], by simp⟩
  · rw [if_neg c]; exact ⟨_, rfl⟩
theorem nl1_ext (T : List (List Int)) (r : List Int) (W : WL) : ∀ k, ∃ Y, nl1 T r W k = W ++ Y
  | 0 => ⟨[], by simp [nl1]⟩
  | k + 1 => by
    obtain ⟨Y, e⟩ := nl1_ext T r W k
    unfold nl1
    cases h : T[k]? with
    | none => exact ⟨Y, e⟩
    | some m =>
      obtain ⟨Y2, e2⟩ := put1_ext r (lookW W r) m k (nl1 T r W k)
      exact ⟨Y ++ Y2, by show put1 _ _ _ _ _ = _; rw [e2, e, List.append_assoc]⟩
theorem nl_ext (T R : List (List Int)) (W : WL) : ∀ k, ∃ Y, nl T R W k = W ++ Y
  | 0 => ⟨[], by simp [nl]⟩
  | k + 1 => by
    obtain ⟨Y, e⟩ := nl_ext T R W k
    unfold nl
    cases h : R[k]? with
    | none => exact ⟨Y, e⟩
    | some r =>
      obtain ⟨Y2, e2⟩ := nl1_ext T r (nl T R W k) T.length
      exact ⟨Y ++ Y2, by show nl1 _ _ _ _ = _; rw [e2, e, List.append_assoc]⟩
/-- the rows that are new since W -/
def fnd (W W' : WL) : List (List Int) := (W'.drop W.length).map (·.1)
theorem fnd_app (W Y : WL) : fnd W (W ++ Y) = Y.map (·.1) := by unfold fnd; rw [List.drop_left]
theorem fnd_self (W : WL) : fnd W W = [] := by unfold fnd; rw [List.drop_length]; rfl
theorem fnd_keys {W W' : WL} (h : ∃ Y, W' = W ++ Y) : W'.map (·.1) = W.map (·.1) ++ fnd W W' := by
  obtain ⟨Y, rfl⟩ := h
  rw [fnd_app, List.map_append]
theorem fnd_len {W W' : WL} (h : ∃ Y, W' = W ++ Y) : W'.length = W.length + (fnd W W').length := by
  obtain ⟨Y, rfl⟩ := h
  rw [fnd_app, List.length_append, List.length_map]
theorem put1_fnd {W W' : WL} (h : ∃ Y, W' = W ++ Y) {r wd m : List Int} {i : Int} (c : aft r m ∉ W'.map (·.1)) : fnd W (put1 r wd m i W') = fnd W W' ++ [aft r m] := by
  obtain ⟨Y, rfl⟩ := h
  unfold put1
  rw [if_neg c, List.append_assoc, fnd_app, fnd_app, List.map_append]
  rfl
/-- an invariant of single steps -/
theorem nl1_ind {T : List (List Int)} {r : List Int} {W : WL} (Pv : WL → Prop) (h0 : Pv W) (hs : ∀ (W' : WL) (m : List Int) (i : Nat), T[i]? = some m → Pv W' → Pv (put1 r (lookW W r) m i W')) : ∀ k, Pv (nl1 T r W k)
  | 0 => h0
  | k + 1 => by
    unfold nl1
    cases h : T[k]? with
    | none => exact nl1_ind Pv h0 hs k
    | some m => exact hs _ m k h (nl1_ind Pv h0 hs k)
theorem nl_ind {T R : List (List Int)} {W : WL} (Pv : WL → Prop) (h0 : Pv W) (hs : ∀ (W' : WL) (r : List Int), r ∈ R → (∃ Y, W' = W ++ Y) → Pv W' → ∀ k, Pv (nl1 T r W' k)) : ∀ k, Pv (nl T R W k)
  | 0 => h0
  | k + 1 => by
    unfold nl
    cases h : R[k]? with
    | none => exact nl_ind Pv h0 hs k
    | some r => exact hs _ r (List.mem_of_getElem? h) (nl_ext T R W k) (nl_ind Pv h0 hs k) _
theorem put1_mem {r wd m : List Int} {i : Int} {W : WL} : aft r m ∈ (put1 r wd m i W).map (·.1) := by
  unfold put1
  by_cases c : aft r m ∈ W.map (·.1)
  · rw [if_pos c]; exact c
  · rw [if_neg c, List.map_append]; exact List.mem_append_right _ (by simp)
theorem put1_nodup {r wd m : List Int} {i : Int} {W : WL} (h : (W.map (·.1)).Nodup) : ((put1 r wd m i W).map (·.1)).Nodup := by
  unfold put1
  by_cases c : aft r m ∈ W.map (·.1)
  · rw [if_pos c]; exact h
  · rw [if_neg c, List.map_append]
    refine List.nodup_append.mpr ⟨h, List.pairwise_singleton _ _, fun a ha b hb e => ?_⟩
    rw [List.mem_singleton.mp hb] at e
    rw [e] at ha
    exact c ha
theorem put1_sub {r wd m : List Int} {i : Int} {W : WL} {x : List Int} (h : x ∈ W.map (·.1)) : x ∈ (put1 r wd m i W).map (·.1) := by
  obtain ⟨Y, e⟩ := put1_ext r wd m i W
  rw [e, List.map_append]
  exact List.mem_append_left _ h
theorem nl1_sub {T : List (List Int)} {r : List Int} {W : WL} {x : List Int} (h : x ∈ W.map (·.1)) (k : Nat) : x ∈ (nl1 T r W k).map (·.1) := by
  obtain ⟨Y, e⟩ := nl1_ext T r W k
  rw [e, List.map_append]
  exact List.mem_append_left _ h
theorem nl_sub {T R : List (List Int)} {W : WL} {x : List Int} (h : x ∈ W.map (·.1)) (k : Nat) : x ∈ (nl T R W k).map (·.1) := by
  obtain ⟨Y, e⟩ := nl_ext T R W k
  rw [e, List.map_append]
  exact List.mem_append_left _ h
theorem nl1_nodup {T : List (List Int)} {r : List Int} {W : WL} (h : (W.map (·.1)).Nodup) (k : Nat) : ((nl1 T r W k).map (·.1)).Nodup := nl1_ind (fun W' => (W'.map (·.1)).Nodup) h (fun _ _ _ _ z => put1_nodup z) k
theorem nl_nodup {T R : List (List Int)} {W : WL} (h : (W.map (·.1)).Nodup) (k : Nat) : ((nl T R W k).map (·.1)).Nodup := nl_ind (fun W' => (W'.map (·.1)).Nodup) h (fun _ _ _ _ z => nl1_nodup z) k
theorem nl1_all {T : List (List Int)} {r : List Int} {W : WL} : ∀ (k i : Nat) (m : List Int), i < k → T[i]? = some m → aft r m ∈ (nl1 T r W k).map (·.1)
  | k + 1, i, m, hi, hm => by
    unfold nl1
    rcases Nat.lt_or_ge i k with z | z
    · have := nl1_all (r := r) (W := W) k i m z hm
      cases h : T[k]? with
      | none => exact this
      | some m' => exact put1_sub this
    · have : i = k := by omega
      subst this
      rw [hm]
      exact put1_mem
theorem nl_all {T R : List (List Int)} {W : WL} : ∀ (k : Nat) (r m : List Int), (∃ i, i < k ∧ R[i]? = some r) → m ∈ T → aft r m ∈ (nl T R W k).map (·.1)
  | k + 1, r, m, ⟨i, hi, hr⟩, hm => by
    unfold nl
    rcases Nat.lt_or_ge i k with z | z
    · have := nl_all (T := T) (R := R) (W := W) k r m ⟨i, z, hr⟩ hm
      cases h : R[k]? with
      | none => exact this
      | some r' => exact nl1_sub this _
    · have : i = k := by omega
      subst this
      rw [hr]
      obtain ⟨j, hj⟩ := List.getElem?_of_mem hm
      exact nl1_all _ j m (List.getElem?_eq_some_iff.mp hj).1 hj
theorem nl_from {T R : List (List Int)} {W : WL} (c : List Int → Prop) (h : ∀ x ∈ W.map (·.1), c x) (hs : ∀ r ∈ R, ∀ m ∈ T, c (aft r m)) (k : Nat) : ∀ x ∈ (nl T R W k).map (·.1), c x := by
  refine nl_ind (fun W' => ∀ x ∈ W'.map (·.1), c x) h (fun W' r hr _ z k => nl1_ind (fun W' => ∀ x ∈ W'.map (·.1), c x) z (fun W2 m i hm z2 x hx => ?_) k) k
  unfold put1 at hx
  by_cases q : aft r m ∈ W2.map (·.1)
  · rw [if_pos q] at hx
    exact z2 x hx
  · rw [if_neg q, List.map_append] at hx
    rcases List.mem_append.mp hx with y | y
    · exact z2 x y
    · rw [show x = aft r m by simpa using y]
      exact hs r hr m (List.mem_of_getElem? hm)
theorem look_mem {W : WL} {r : List Int} (h : r ∈ W.map (·.1)) : (r, lookW W r) ∈ W := by
  unfold lookW
  cases e : W.find? fun p => decide (p.1 = r) with
  | none =>
    obtain ⟨p, hp, rfl⟩ := List.mem_map.mp h
    have := List.find?_eq_none.mp e p hp
    simp at this
  | some p =>
    have h1 := List.mem_of_find?_eq_some e
    have h2 := List.find?_some e
    have h2 : p.1 = r := of_decide_eq_true h2
    rw [← h2]
    exact h1
theorem nl_words {T R : List (List Int)} {W : WL} {B : Nat} (h : ∀ p ∈ W, p.2.length ≤ B + 1) (h' : ∀ r ∈ R, r ∈ W.map (·.1)) (hb : ∀ p ∈ W, p.2.length ≤ B) (nd : (W.map (·.1)).Nodup) (k : Nat) : ∀ p ∈ nl T R W k, p.2.length ≤ B + 1 := by
  have look_ext : ∀ {Y : WL} {r : List Int}, r ∈ W.map (·.1) → lookW (W ++ Y) r = lookW W r := fun {Y r} hr => by
    unfold lookW
    rw [List.find?_append]
    cases e : W.find? fun p => decide (p.1 = r) with
    | some p => rfl
    | none =>
      obtain ⟨p, hp, rfl⟩ := List.mem_map.mp hr
      have := List.find?_eq_none.mp e p hp
      simp at this
  refine nl_ind (fun W' => ∀ p ∈ W', p.2.length ≤ B + 1) h (fun W' r hr ⟨Y, eW⟩ z k => nl1_ind (fun W' => ∀ p ∈ W', p.2.length ≤ B + 1) z (fun W2 m i hm z2 p hp => ?_) k) k
  unfold put1 at hp
  by_cases q : aft r m ∈ W2.map (·.1)
  · rw [if_pos q] at hp
    exact z2 p hp
  · rw [if_neg q] at hp
    rcases List.mem_append.mp hp with y | y
    · exact z2 p y
    · rw [List.mem_singleton.mp y, eW, look_ext (h' r hr)]
      have := hb _ (look_mem (h' r hr))
      simpa using this
theorem put1_len (r wd m : List Int) (i : Int) (W : WL) : (put1 r wd m i W).length ≤ W.length + 1 := by
  unfold put1
  by_cases c : aft r m ∈ W.map (·.1)
  · rw [if_pos c]; omega
  · rw [if_neg c, List.length_append]; exact Nat.le_refl _
theorem nl1_len (T : List (List Int)) (r : List Int) (W : WL) : ∀ k, (nl1 T r W k).length ≤ W.length + k
  | 0 => Nat.le_refl _
  | k + 1 => by
    have h := nl1_len T r W k
    unfold nl1
    cases e : T[k]? with
    | none => exact Nat.le_succ_of_le h
    | some m =>
      have := put1_len r (lookW W r) m k (nl1 T r W k)
      show (put1 _ _ _ _ _).length ≤ _
      omega
theorem nl_len (T R : List (List Int)) (W : WL) : ∀ k, (nl T R W k).length ≤ W.length + k * T.length
  | 0 => by simp [nl]
  | k + 1 => by
    have h := nl_len T R W k
    unfold nl
    rw [Nat.succ_mul]
    cases e : R[k]? with
    | none => exact Nat.le_trans h (by omega)
    | some r =>
      have := nl1_len T r (nl T R W k) T.length
      show (nl1 _ _ _ _).length ≤ _
      omega
theorem nl1_step {T : List (List Int)} {r : List Int} {W : WL} {j : Nat} {m : List Int} (h : T[j]? = some m) : nl1 T r W (j + 1) = put1 r (lookW W r) m j (nl1 T r W j) := by
  show (match T[j]? with | some m => _ | none => _) = _
  rw [h]
theorem nl_step {T R : List (List Int)} {W : WL} {i : Nat} {r : List Int} (h : R[i]? = some r) : nl T R W (i + 1) = nl1 T r (nl T R W i) T.length := by
  show (match R[i]? with | some m => _ | none => _) = _
  rw [h]
/-! ### all layers -/
def lay (T : List (List Int)) (r : List Int) : Nat → WL × List (List Int)
  | 0 => ([(r, [])], [r])
  | k + 1 => (nl T (lay T r k).2 (lay T r k).1 (lay T r k).2.length, fnd (lay T r k).1 (nl T (lay T r k).2 (lay T r k).1 (lay T r k).2.length))
structure LayOk (T : List (List Int)) (r : List Int) (W : WL) (L : List (List Int)) (k : Nat) : Prop where
  nd : (W.map (·.1)).Nodup
  rch : ∀ x ∈ W.map (·.1), Rch T r x
  base : r ∈ W.map (·.1)
  sub : ∀ x ∈ L, x ∈ W.map (·.1)
  clo : ∀ x ∈ W.map (·.1), x ∉ L → ∀ m ∈ T, aft x m ∈ W.map (·.1)
  wl : ∀ p ∈ W, p.2.length ≤ k
  kl : k ≤ W.length
  kL : L ≠ [] → k + 1 ≤ W.length
  lL : L.length ≤ W.length
theorem lay_ok (T : List (List Int)) (r : List Int) : ∀ k, (∀ j, j < k → (lay T r j).2 ≠ []) → LayOk T r (lay T r k).1 (lay T r k).2 k
  | 0, _ => ⟨by simp [lay], fun x hx => by rw [show x = r by simpa [lay] using hx]; exact .base, by simp [lay], fun x hx => hx, fun x hx hn => absurd (by simpa [lay] using hx) (by simpa [lay] using hn), fun p hp => by rw [show p = (r, []) by simpa [lay] using hp]; exact Nat.le_refl _, Nat.zero_le _, fun _ => by simp [lay], by simp [lay]⟩
  | k + 1, hj => by
    have I := lay_ok T r k fun j h => hj j (by omega)
    have ne := hj k (by omega)
    have hk := I.kL ne
    generalize hW : (lay T r k).1 = W at I hk
    generalize hL : (lay T r k).2 = L at I ne
    have ext := nl_ext T L W L.length
    have ln := fnd_len ext
    show LayOk T r (nl T (lay T r k).2 (lay T r k).1 (lay T r k).2.length) (fnd (lay T r k).1 (nl T (lay T r k).2 (lay T r k).1 (lay T r k).2.length)) (k + 1)
    rw [hW, hL]
    have keys := fnd_keys ext
    refine ⟨nl_nodup I.nd _, nl_from (Rch T r) I.rch (fun x hx m hm => .step (I.rch x (I.sub x hx)) hm) _, nl_sub I.base _, fun x hx => by rw [keys]; exact List.mem_append_right _ hx, fun x hx hn m hm => ?_, ?_, by omega, fun z => ?_, by omega⟩
    · rw [keys] at hx
      rcases List.mem_append.mp hx with y | y
      · by_cases c : x ∈ L
        · obtain ⟨i, hi⟩ := List.getElem?_of_mem c
          exact nl_all _ x m ⟨i, (List.getElem?_eq_some_iff.mp hi).1, hi⟩ hm
        · exact nl_sub (I.clo x y c m hm) _
      · exact absurd y hn
    · exact nl_words (fun p hp => Nat.le_succ_of_le (I.wl p hp)) I.sub I.wl I.nd _
    · have := List.length_pos_iff.mpr z
      omega
theorem lay_end {T : List (List Int)} {r : List Int} {W : WL} {k : Nat} (h : LayOk T r W [] k) (x : List Int) : x ∈ W.map (·.1) ↔ Rch T r x := ⟨h.rch x, fun c => rch_all h.base (fun w hw m hm => h.clo w hw (by simp) m hm) c⟩
/-! ### the dict that holds them -/
abbrev Wds (G : Hp) : List (List L2.Key × V) → WL → Prop := Paired fun p q => p.1 = keyL q.1 ∧ Da G p.2 (rowD q.2)
theorem Wds.up {G G' : Hp} (g : Same G G') {kvs : List (List L2.Key × V)} {W : WL} (h : Wds G kvs W) : Wds G' kvs W := by
  induction h with
  | nil => exact .nil
  | cons a t ih => exact .cons ⟨a.1, a.2.up g⟩ ih
theorem Wds.keys {G : Hp} {kvs : List (List L2.Key × V)} {W : WL} (h : Wds G kvs W) : kvs.map (·.1) = (W.map (·.1)).map keyL := by
  induction h with
  | nil => rfl
  | cons a t ih => rw [List.map_cons, List.map_cons, List.map_cons, a.1, ih]
theorem Wds.none {G : Hp} {kvs : List (List L2.Key × V)} {W : WL} (h : Wds G kvs W) {r : List Int} (n : r ∉ W.map (·.1)) : valV kvs (keyL r) = Option.none := by
  induction h with
  | nil => rfl
  | @cons p q ps qs a t ih =>
    rw [List.map_cons, List.mem_cons, not_or] at n
    rw [valV_neg (fun e => n.1 (keyL_inj (e.symm.trans a.1))), ih n.2]
theorem Wds.some {G : Hp} {kvs : List (List L2.Key × V)} {W : WL} (h : Wds G kvs W) {r : List Int} (n : r ∈ W.map (·.1)) : ∃ v, valV kvs (keyL r) = Option.some v ∧ Da G v (rowD (lookW W r)) := by
  induction h with
  | nil => cases n
  | @cons p q ps qs a t ih =>
    by_cases e : q.1 = r
    · refine ⟨p.2, valV_pos (by rw [a.1, e]), ?_⟩
      have : lookW (q :: qs) r = q.2 := by
        unfold lookW
        rw [List.find?_cons_of_pos (by exact decide_eq_true e)]
        rfl
      rw [this]
      exact a.2
    · rw [List.map_cons, List.mem_cons] at n
      obtain ⟨v, h1, h2⟩ := ih (n.resolve_left fun z => e z.symm)
      refine ⟨v, by rw [valV_neg (fun z => e (keyL_inj (a.1.symm.trans z))), h1], ?_⟩
      have : lookW (q :: qs) r = lookW qs r := by
        unfold lookW
        rw [List.find?_cons_of_neg (by exact fun z => e (of_decide_eq_true z))]
      rw [this]
      exact h2
theorem Wds.app {G : Hp} {kvs : List (List L2.Key × V)} {W : WL} (h : Wds G kvs W) {r wd : List Int} {v : V} (hv : Da G v (rowD wd)) : Wds G (kvs ++ [(keyL r, v)]) (W ++ [(r, wd)]) := by
  induction h with
  | nil => exact .cons ⟨rfl, hv⟩ .nil
  | cons a t ih => exact .cons a ih
theorem look_ext {W Y : WL} {r : List Int} (hr : r ∈ W.map (·.1)) : lookW (W ++ Y) r = lookW W r := by
  unfold lookW
  rw [List.find?_append]
  cases e : W.find? fun p => decide (p.1 = r) with
  | some p => rfl
  | none =>
    obtain ⟨p, hp, rfl⟩ := List.mem_map.mp hr
    have := List.find?_eq_none.mp e p hp
    simp at this
theorem Stp.putS {S : Addr} {G0 H0 G H H' : Hp} (s : Stp S G0 H0 G H) {o : HO} (g : G S = none) (t : isT o = false) (e : H' = upd H S o) : Stp S G0 H0 G H' := by
  subst e
  have gs : Same G (upd H S o) := fun b u z => by
    rw [upd_ne fun q => by rw [q, g] at z; cases z]
    exact s.gh b u z
  refine ⟨s.gg, gs, s.nw, fun b u n hb => ?_, fun b u hb => ?_⟩
  · rw [upd_ne n]
    exact s.hh b u n hb
  · by_cases c : b = S
    · rw [c, upd_same]
      exact ⟨o, rfl, fun _ => t⟩
    · rw [upd_ne c]
      exact s.al b u hb
theorem cat_row {K : PySem.W.Frag} {G H : Hp} {Q : VK} {a b : Addr} {ws : List Int} {i : Int} (g : Same G H) (ha : G a = some (.tup (ws.map V.int))) (hb : G b = some (.tup [.int i])) (hz : ws.length ≤ 100000)
    (q : ∀ (p : Addr) (G' H' : Hp), Stq G H G' H' → G' p = some (.tup ((ws ++ [i]).map V.int)) → Q (.ref p) H') : rCatA K (.ref a) (.ref b) H Q := by
  refine ⟨a, b, _, _, rfl, rfl, .of (g _ _ ha), .of (g _ _ hb), ?_, fun e => ?_, (fun _ e => by cases e), fun h1 _ p hp => ?_⟩
  · rw [List.length_map]
    show ws.length + 1 ≤ sizeLine
    exact Nat.le_trans (show _ ≤ 100001 by omega) (by decide)
  · have : ws = [] := by simpa using e
    subst this
    exact q b G H (Stq.refl g) hb
  · obtain ⟨G', s, e, _⟩ := Stq.know g (⟨hp, rfl⟩ : New H p _ _)
    refine q p G' _ s ?_
    rw [e, List.map_append]
    rfl
theorem Stp.gd {S : Addr} {G0 H0 G H : Hp} (s : Stp S G0 H0 G H) {o : HO} (g : G0 S = none) (h : H0 S = some o) (t : isT o = false := by rfl) : G S = none := s.nw S o h t g
theorem Stq.stp {S : Addr} {G H G1 H1 G2 H2 : Hp} (a : Stq G H G1 H1) (b : Stp S G1 H1 G2 H2) (f : H S = none) : Stq G H G2 H2 :=
  ⟨fun c u z => b.gg _ _ (a.gg _ _ z), b.gh, fun c o h t z => b.nw c o (a.hh c o h) t (a.nw c o h t z), fun c u z => b.hh c u (fun e => by rw [e, f] at z; cases z) (a.hh c u z)⟩
/-! ### all tuples that stand may be known -/
def fullG (G H : Hp) : Hp := fun b => match G b with
  | some o => some o
  | none => match H b with
    | some (.tup xs) => some (.tup xs)
    | _ => none
theorem full_same {G H : Hp} : Same G (fullG G H) := fun b u e => by unfold fullG; rw [e]
theorem full_up {G H : Hp} (g : Same G H) : Same (fullG G H) H := fun b u e => by
  unfold fullG at e
  cases h : G b with
  | some o =>
    rw [h] at e
    cases e
    exact g _ _ h
  | none =>
    rw [h] at e
    cases h2 : H b with
    | none => rw [h2] at e; cases e
    | some o =>
      rw [h2] at e
      cases o with
      | tup xs => exact e
      | _ => cases e
theorem full_tup {G H : Hp} (g : Same G H) {b : Addr} {xs : List V} (h : H b = some (.tup xs)) : fullG G H b = some (.tup xs) := by
  unfold fullG
  cases e : G b with
  | some o =>
    have := g _ _ e
    rw [h] at this
    exact this.symm
  | none =>
    show (match H b with | some (.tup xs) => some (HO.tup xs) | _ => none) = _
    rw [h]
theorem full_else {G H : Hp} {b : Addr} {o : HO} (h : H b = some o) (t : isT o = false) (g : G b = none) : fullG G H b = none := by
  unfold fullG
  rw [g]
  show (match H b with | some (.tup xs) => some (HO.tup xs) | _ => none) = _
  rw [h]
  cases o with
  | tup xs => cases t
  | _ => rfl
theorem Stq.full {G H G1 H1 : Hp} (s : Stq G H G1 H1) : Stq G H (fullG G1 H1) H1 :=
  ⟨s.gg.trans full_same, full_up s.gh, fun b o h t g => full_else (s.hh _ _ h) t (s.nw b o h t g), s.hh⟩
theorem Stp.full {S : Addr} {G H G1 H1 : Hp} (s : Stp S G H G1 H1) : Stp S G H (fullG G1 H1) H1 :=
  ⟨s.gg.trans full_same, full_up s.gh, fun b o h t g => by
    obtain ⟨o', h', k⟩ := s.al b o h
    exact full_else h' (k t) (s.nw b o h t g), s.hh, s.al⟩
theorem Go.full {S : Sr} {G H G1 H1 : Hp} (a : Go S G H G1 H1) : Go S G H (fullG G1 H1) H1 := ⟨a.s.full, a.w0, a.st⟩
theorem rows_full {G H : Hp} (g : Same G H) : ∀ {xs : List V} {Ls : List (List Int)}, DaAll H xs (Ls.map rowD) → DaAll (fullG G H) xs (Ls.map rowD)
  | _, [], .nil => .nil
  | _, r :: Ls, .cons h t => by
    refine .cons ?_ (rows_full g t)
    obtain ⟨a, rfl, ha⟩ := rows_ref h
    exact .tup (full_tup g ha) (DaAll.ints r)
/-! ### what is a move on n points -/
theorem mvOn_row {n : Int} {d : PyData} (h : mvOn n d = true) : ∃ m, d = rowD m ∧ IsMv m n := by
  cases d with
  | tuple ds =>
    have h : (decide (((ds.length : Nat) : Int) = n) && (ds.all (fun d => isNum d 0 (n - 1)) && decide ((intsOf ds).Perm (rngI n)))) = true := h
    rw [Bool.and_eq_true, Bool.and_eq_true] at h
    exact ⟨intsOf ds, by unfold rowD; rw [← ints_isNum h.2.1], (of_decide_eq_true h.2.2 : (intsOf ds).Perm (rngI n))⟩
  | _ => cases h
theorem mvOn_of {n : Int} {m : List Int} (h0 : 0 ≤ n) (h : IsMv m n) : mvOn n (rowD m) = true := by
  show (decide ((((m.map PyData.int).length : Nat) : Int) = n) && ((m.map PyData.int).all (fun d => isNum d 0 (n - 1)) && decide ((intsOf (m.map PyData.int)).Perm (rngI n)))) = true
  rw [Bool.and_eq_true, Bool.and_eq_true]
  refine ⟨decide_eq_true ?_, List.all_eq_true.mpr fun d hd => ?_, decide_eq_true ?_⟩
  · rw [List.length_map, h.len]
    omega
  · obtain ⟨x, hx, rfl⟩ := List.mem_map.mp hd
    have := h.mem.mp hx
    show (decide (0 ≤ x) && decide (x ≤ n - 1)) = true
    rw [decide_eq_true this.1, decide_eq_true (show x ≤ n - 1 by omega)]
    rfl
  · rw [intsOf_map]
    exact h
theorem all_rows {n : Int} : ∀ {ds : List PyData}, (∀ d ∈ ds, mvOn n d = true) → ∃ T, ds = T.map rowD ∧ AllMv n T
  | [], _ => ⟨[], rfl, fun m hm => by cases hm⟩
  | d :: ds, h => by
    obtain ⟨m, rfl, hm⟩ := mvOn_row (h d List.mem_cons_self)
    obtain ⟨T, rfl, hT⟩ := all_rows fun e he => h e (List.mem_cons_of_mem _ he)
    refine ⟨m :: T, rfl, fun x hx => ?_⟩
    rcases List.mem_cons.mp hx with rfl | hx
    · exact hm
    · exact hT x hx
theorem rowD_inj {a b : List Int} (e : rowD a = rowD b) : a = b := by
  have := congrArg intsOf (PyData.tuple.inj e)
  rwa [intsOf_map, intsOf_map] at this
theorem rows_inj {A B : List (List Int)} (e : A.map rowD = B.map rowD) : A = B := by
  induction A generalizing B with
  | nil => cases B with
    | nil => rfl
    | cons _ _ => cases e
  | cons a A ih => cases B with
    | nil => cases e
    | cons b B =>
      rw [List.map_cons, List.map_cons] at e
      injection e with e1 e2
      rw [rowD_inj e1, ih e2]
theorem num_int {d : PyData} {lo hi : Int} (h : isNum d lo hi = true) : ∃ i, d = .int i ∧ lo ≤ i ∧ i ≤ hi := by
  cases d with
  | int i =>
    have h : (decide (lo ≤ i) && decide (i ≤ hi)) = true := h
    rw [Bool.and_eq_true] at h
    exact ⟨i, rfl, of_decide_eq_true h.1, of_decide_eq_true h.2⟩
  | _ => cases h
/-! ### lists of rows compared -/
theorem ints_lay : ∀ ns : List Int, PyData.canLayAll0 (ns.map PyData.int) = true
  | [] => by simp [PyData.canLayAll0]
  | z :: zs => by simp [PyData.canLayAll0, PyData.canLay0, ints_lay zs]
theorem ints_depth : ∀ ns : List Int, PyData.depthAll (ns.map PyData.int) = 0
  | [] => by simp [PyData.depthAll]
  | z :: zs => by simp [PyData.depthAll, PyData.depth, ints_depth zs]
theorem row_lay (r : List Int) : (rowD r).canLay0 = true := by simp only [rowD, PyData.canLay0]; exact ints_lay r
theorem row_depth (r : List Int) : (rowD r).depth ≤ 1 := by simp only [rowD, PyData.depth, ints_depth]; omega
theorem rows_lay : ∀ rs : List (List Int), PyData.canLayAll0 (rs.map rowD) = true
  | [] => by simp [PyData.canLayAll0]
  | z :: zs => by simp [PyData.canLayAll0, row_lay z, rows_lay zs]
theorem rows_depth : ∀ rs : List (List Int), PyData.depthAll (rs.map rowD) ≤ 1
  | [] => by simp [PyData.depthAll]
  | z :: zs => by
    have h1 := rows_depth zs
    have h2 := row_depth z
    simp only [List.map_cons, PyData.depthAll]
    omega
theorem rows_shaped (rs : List (List Int)) : SeqAt.shaped (.list (rs.map rowD)) = true := by
  have h1 := rows_depth rs
  have h2 : PyData.depth (.list (rs.map rowD)) ≤ 64 := by
    simp only [PyData.depth]
    omega
  show (PyData.canLay0 (.list (rs.map rowD)) && decide (PyData.depth (.list (rs.map rowD)) ≤ 64)) = true
  rw [Bool.and_eq_true]
  exact ⟨by simp only [PyData.canLay0]; exact rows_lay rs, decide_eq_true h2⟩
theorem row_eqv (a b : List Int) : PyData.eqv (rowD a) (rowD b) = decide (a = b) := by
  show PyData.eqv (.tuple (a.map PyData.int)) (.tuple (b.map PyData.int)) = _
  rw [PyData.eqv, eqv_ints]
theorem rows_eqv : ∀ A B : List (List Int), PyData.eqvAll (A.map rowD) (B.map rowD) = decide (A = B)
  | [], [] => rfl
  | [], _ :: _ => rfl
  | _ :: _, [] => rfl
  | a :: A, b :: B => by
    show (PyData.eqv (rowD a) (rowD b) && PyData.eqvAll (A.map rowD) (B.map rowD)) = _
    rw [rows_eqv A B, row_eqv]
    by_cases h : a = b
    · subst h
      by_cases k : A = B
      · subst k; simp
      · simp [k]
    · simp [h]
def rEqR (K : PySem.W.Frag) : R2 := fun x y H Q => ∃ (a b : Addr) (xs ys : List V) (A B : List (List Int)), x = .ref a ∧ y = .ref b ∧ SqL K H a xs ∧ SqL K H b ys ∧ DaAll H xs (A.map rowD) ∧ DaAll H ys (B.map rowD) ∧ Q (.bl (decide (A = B))) H
theorem op_eqR {X : Cx} (hu : X.A.units + 64 < cLine) : OpR X (compareOp .Eq) (rEqR X.K) := opR_mono (op_eqD hu) fun x y H Q h => by
  obtain ⟨a, b, xs, ys, A, B, rfl, rfl, ha, hb, da, db, q⟩ := h
  refine ⟨.list (A.map rowD), .list (B.map rowD), .lst ha da.dp, .lst hb db.dp, rows_shaped A, rows_shaped B, ?_⟩
  rw [PyData.eqv, rows_eqv]
  exact q
/-! ### needless moves -/
/-! ### rows reached, one queue -/
structure QOk (T : List (List Int)) (r : List Int) (Qs : List (List Int)) (at_ j : Nat) : Prop where
  nd : Qs.Nodup
  rch : ∀ x ∈ Qs, Rch T r x
  base : r ∈ Qs
  done : ∀ (i : Nat) (x m : List Int), i < at_ → Qs[i]? = some x → m ∈ T → aft x m ∈ Qs
  cur : ∀ (x : List Int) (k : Nat) (m : List Int), Qs[at_]? = some x → k < j → T[k]? = some m → aft x m ∈ Qs
theorem QOk.same {T : List (List Int)} {r : List Int} {Qs : List (List Int)} {at_ j : Nat} {x m : List Int} (h : QOk T r Qs at_ j) (hx : Qs[at_]? = some x) (hm : T[j]? = some m) (c : aft x m ∈ Qs) : QOk T r Qs at_ (j + 1) :=
  ⟨h.nd, h.rch, h.base, h.done, fun y k m' hy hk hm' => by
    rcases Nat.lt_or_ge k j with z | z
    · exact h.cur y k m' hy z hm'
    · have : k = j := by omega
      subst this
      rw [hx] at hy
      rw [hm] at hm'
      cases hy
      cases hm'
      exact c⟩
theorem QOk.app {T : List (List Int)} {r : List Int} {Qs : List (List Int)} {at_ j : Nat} {x m : List Int} (h : QOk T r Qs at_ j) (hx : Qs[at_]? = some x) (hm : T[j]? = some m) (c : aft x m ∉ Qs) : QOk T r (Qs ++ [aft x m]) at_ (j + 1) := by
  have lt := (List.getElem?_eq_some_iff.mp hx).1
  have old : ∀ {i : Nat} {y : List Int}, i ≤ at_ → (Qs ++ [aft x m])[i]? = some y → Qs[i]? = some y := fun {i y} hi e => by
    rwa [List.getElem?_append_left (by omega)] at e
  refine ⟨List.nodup_append.mpr ⟨h.nd, List.pairwise_singleton _ _, fun a ha b hb e => ?_⟩, fun y hy => ?_, List.mem_append_left _ h.base, fun i y m' hi hy hm' => List.mem_append_left _ (h.done i y m' hi (old (by omega) hy) hm'), fun y k m' hy hk hm' => ?_⟩
  · rw [List.mem_singleton.mp hb] at e
    rw [e] at ha
    exact c ha
  · rcases List.mem_append.mp hy with z | z
    · exact h.rch y z
    · rw [List.mem_singleton.mp z]
      exact .step (h.rch x (List.mem_of_getElem? hx)) (List.mem_of_getElem? hm)
  · have hy := old (Nat.le_refl _) hy
    rcases Nat.lt_or_ge k j with z | z
    · exact List.mem_append_left _ (h.cur y k m' hy z hm')
    · have : k = j := by omega
      subst this
      rw [hx] at hy
      rw [hm] at hm'
      cases hy
      cases hm'
      exact List.mem_append_right _ (List.mem_singleton.mpr rfl)
theorem QOk.next {T : List (List Int)} {r : List Int} {Qs : List (List Int)} {at_ : Nat} (h : QOk T r Qs at_ T.length) : QOk T r Qs (at_ + 1) 0 :=
  ⟨h.nd, h.rch, h.base, fun i x m hi hx hm => by
    rcases Nat.lt_or_ge i at_ with z | z
    · exact h.done i x m z hx hm
    · have : i = at_ := by omega
      subst this
      obtain ⟨k, hk⟩ := List.getElem?_of_mem hm
      exact h.cur x k m hx (List.getElem?_eq_some_iff.mp hk).1 hk, fun x k m _ hk => absurd hk (Nat.not_lt_zero k)⟩
theorem QOk.end_ {T : List (List Int)} {r : List Int} {Qs : List (List Int)} {at_ j : Nat} (h : QOk T r Qs at_ j) (le : Qs.length ≤ at_) (w : List Int) : w ∈ Qs ↔ Rch T r w :=
  ⟨h.rch w, fun c => rch_all h.base (fun x hx m hm => by
    obtain ⟨i, hi⟩ := List.getElem?_of_mem hx
    exact h.done i x m (Nat.lt_of_lt_of_le (List.getElem?_eq_some_iff.mp hi).1 le) hi hm) c⟩
theorem QOk.start (T : List (List Int)) (r : List Int) : QOk T r [r] 0 0 := ⟨List.pairwise_singleton _ _, fun x hx => by rw [List.mem_singleton.mp hx]; exact .base, List.mem_singleton.mpr rfl, fun i _ _ hi => absurd hi (Nat.not_lt_zero i), fun _ k _ _ hk => absurd hk (Nat.not_lt_zero k)⟩
theorem val_some {kvs : List (List L2.Key × V)} : ∀ {Ks : List (List Int)}, kvs.map (·.1) = Ks.map keyL → ∀ r, (valV kvs (keyL r)).isSome = decide (r ∈ Ks) := by
  induction kvs with
  | nil =>
    intro Ks e r
    cases Ks with
    | nil => simp [valV_nil]
    | cons _ _ => cases e
  | cons p kvs ih =>
    intro Ks e r
    cases Ks with
    | nil => cases e
    | cons k Ks =>
      rw [List.map_cons, List.map_cons] at e
      injection e with e1 e2
      by_cases h : k = r
      · rw [valV_pos (by rw [e1, h])]
        simp [h]
      · rw [valV_neg (fun z => h (keyL_inj (e1.symm.trans z))), ih e2 r]
        have : ¬ r = k := fun z => h z.symm
        simp [this]
theorem val_none {kvs : List (List L2.Key × V)} {Ks : List (List Int)} (e : kvs.map (·.1) = Ks.map keyL) {r : List Int} (h : r ∉ Ks) : valV kvs (keyL r) = none := by
  have := val_some e r
  rw [decide_eq_false h] at this
  cases z : valV kvs (keyL r) with
  | none => rfl
  | some _ => rw [z] at this; cases this
end Hd

namespace Hd
open PySem PySem.Spec PyProof.Rows L2
/-! ### what the top leaves, by facts -/
def obsW (fa : List He.Fa) (fn : List He5.DefA) (ex : List (PySem.W.Frag → Bool)) (K : PySem.W.Frag) : He.AlD := (((fa.all fun f => f.ok K) && fn.all fun d => d.ok K) && ex.all fun e => e K, fn.map fun d => He5.fnA K (d.at_ K))
def SaysW (fa : List He.Fa) (fn : List He5.DefA) (ex : List (PySem.W.Frag → Bool)) (K : PySem.W.Frag) : Prop := obsW fa fn ex K = He5.valA fn
def kidsW (g : Addr → Option Obj) (a : Addr) : List Addr := match g a with
  | some o => He.refsO o
  | none => []
/-- what is told of: the module's names; their code and defaults; what their classes hold -/
def asW (g : Addr → Option Obj) : List Addr := mainGlobals :: (kidsW g mainGlobals).flatMap fun a => match g a with
  | some ⟨_, _, .cls cd, _⟩ => a :: cd.ns :: (kidsW g cd.ns).flatMap fun b => b :: (kidsW g b).flatMap fun c => c :: (kidsW g c).flatMap fun d => d :: kidsW g d
  | some ⟨_, _, .func _, _⟩ => a :: (kidsW g a).flatMap fun c => c :: kidsW g c
  | _ => [a]
def obsWG (fa : List He.Fa) (fn : List He5.DefA) (ex : List (PySem.W.Frag → Bool)) (g : Addr → Option Obj) : He.AlD := obsW fa fn ex (He.frG g (asW g))
def hookW (fa : List He.Fa) (fn : List He5.DefA) (ex : List (PySem.W.Frag → Bool)) : PySem.W.Hook where
  α := He.AlD
  obs := fun s => obsWG fa fn ex s.heap.get?
  val := fun _ => He5.valA fn
  says := fun _ h => ∃ K : PySem.W.Frag, K.In h ∧ SaysW fa fn ex K
  of := fun _ _ e => ⟨_, He.frG_in, e⟩
  keeps := fun _ _ _ ⟨K, hK, c⟩ k => ⟨K, PySem.W.Frag.In.keeps hK k, c⟩
theorem obsWG_eq {fa : List He.Fa} {fn : List He5.DefA} {ex : List (PySem.W.Frag → Bool)} {g : Addr → Option Obj} {s : Shared} (h : ∀ a, g a = s.heap.get? a) : obsWG fa fn ex g = (hookW fa fn ex).obs s := by
  have e : g = s.heap.get? := funext h
  rw [e] <;> rfl
section
variable {fa : List He.Fa} {fn : List He5.DefA} {ex : List (PySem.W.Frag → Bool)} {K : PySem.W.Frag}
theorem SaysW.bools (c : SaysW fa fn ex K) : ((fa.all fun f => f.ok K) = true ∧ (fn.all fun d => d.ok K) = true) ∧ (ex.all fun e => e K) = true := by
  have := congrArg (fun z : He.AlD => z.1) c
  have h : (((fa.all fun f => f.ok K) && fn.all fun d => d.ok K) && ex.all fun e => e K) = true := this
  rw [Bool.and_eq_true, Bool.and_eq_true] at h
  exact h
theorem SaysW.fact (c : SaysW fa fn ex K) (i : Nat) {f : He.Fa} (h : fa[i]? = some f := by rfl) : f.ok K = true := List.all_eq_true.mp c.bools.1.1 f (List.mem_of_getElem? h)
theorem SaysW.more (c : SaysW fa fn ex K) (i : Nat) {f : PySem.W.Frag → Bool} (h : ex[i]? = some f := by rfl) : f K = true := List.all_eq_true.mp c.bools.2 f (List.mem_of_getElem? h)
theorem SaysW.def_ (c : SaysW fa fn ex K) (i : Nat) {d : He5.DefA} (h : fn[i]? = some d := by rfl) : ∃ fd, FunD K d.name d.qual d.params d.body d.scope (d.dvs K) (d.kws K) (d.at_ K) fd := by
  have e : fn.map (fun d => He5.fnA K (d.at_ K)) = fn.map He5.DefA.val := congrArg (fun z : He.AlD => z.2) c
  have e2 : (fn.map fun d => He5.fnA K (d.at_ K))[i]? = (fn.map He5.DefA.val)[i]? := by rw [e]
  rw [List.getElem?_map, List.getElem?_map, h] at e2
  exact He5.DefA.funD (Option.some.inj e2) (List.all_eq_true.mp c.bools.1.2 d (List.mem_of_getElem? h))
end
/-- defs -/
abbrev dFn (x : Str) (st : Stmt) : He5.DefA := ⟨fun K => He.ga K x, x, x, defArgs st, defBody st, defScope st, [], []⟩
abbrev dFnD (x : Str) (st : Stmt) : He5.DefA := ⟨fun K => He.ga K x, x, x, defArgs st, defBody st, defScope st, [.adr (He.dflAt (x, none) 0)], []⟩
abbrev dMe (x m q : Str) (st : Stmt) : He5.DefA := ⟨fun K => He.ma K (He.ga K x) m, m, q, defArgs st, defBody st, defScope st, [], []⟩
abbrev dMeD (x m q : Str) (st : Stmt) : He5.DefA := ⟨fun K => He.ma K (He.ga K x) m, m, q, defArgs st, defBody st, defScope st, [.adr (He.dflAt (x, some m) 0)], []⟩
def pgA (x m : Str) (K : PySem.W.Frag) : Addr := match PySem.W.recIn K (He.ma K (He.ga K x) m) "property" with
  | some (.ref g :: _) => g
  | _ => 0
abbrev dPr (x m q : Str) (st : Stmt) : He5.DefA := ⟨pgA x m, m, q, defArgs st, defBody st, defScope st, [], []⟩
section
variable {K : PySem.W.Frag} {h : Heap} {mg : Str → Option Value} {x m q : Str} {st : Stmt} {ps : List Str}
theorem def_w (X : K.In h) (G : h.Ns mainGlobals mg) (F : ∃ fd, FunD K x x (defArgs st) (defBody st) (defScope st) [] [] (He.ga K x) fd) (g : (He.Fa.glo x).ok K = true)
    (hb : ∀ (kV doc pm : Value) (an : Option Addr) (cdv ct : Value) (us : List Value), us.length = ps.length → bindArgs (PySem.W.fnOf x x (defArgs st) (defBody st) (defScope st) .none kV doc pm an cdv ct) ⟨us, []⟩ = pure (ps.zip us)) : Def K mg x st ps := by
  obtain ⟨fd, F⟩ := F
  exact ⟨_, fd, He5.fun_of F, He.glo_ok X G g, FunD.bindsN F hb⟩
theorem defD_w {v : V} (X : K.In h) (G : h.Ns mainGlobals mg) (F : ∃ fd, FunD K x x (defArgs st) (defBody st) (defScope st) [v] [] (He.ga K x) fd) (g : (He.Fa.glo x).ok K = true)
    (hb : ∀ (T : Addr) (kV doc pm : Value) (an : Option Addr) (cdv ct : Value) (us its : List Value), us.length = ps.length → its.length = 1 →
      ∃ k, bindArgs (PySem.W.fnOf x x (defArgs st) (defBody st) (defScope st) (.ref T) kV doc pm an cdv ct) ⟨us, []⟩ = seqItems? (.ref T) >>= k ∧ k (some its.toArray) = pure (ps.zip (us ++ its.drop 1))) : DefD K mg x st ps := by
  obtain ⟨fd, F⟩ := F
  exact ⟨_, fd, _, F, He.glo_ok X G g, bindsD F hb⟩
theorem bindsM (hb : ∀ (kV doc pm : Value) (an : Option Addr) (cdv ct : Value) (us : List Value), us.length = ps.length → bindArgs (PySem.W.fnOf m q (defArgs st) (defBody st) (defScope st) .none kV doc pm an cdv ct) ⟨us, []⟩ = pure (ps.zip us)) {f : Addr} {fd : FuncData}
    (F : FunD K m q (defArgs st) (defBody st) (defScope st) [] [] f fd) : Binds K fd ps [] := FunD.bindsN F hb
theorem mdef_w (F : ∃ fd, FunD K m q (defArgs st) (defBody st) (defScope st) [] [] (He.ma K (He.ga K x) m) fd) (g : (He.Fa.meth x m).ok K = true)
    (hb : ∀ (kV doc pm : Value) (an : Option Addr) (cdv ct : Value) (us : List Value), us.length = ps.length → bindArgs (PySem.W.fnOf m q (defArgs st) (defBody st) (defScope st) .none kV doc pm an cdv ct) ⟨us, []⟩ = pure (ps.zip us)) : MDef K (He.ga K x) m q st ps := by
  obtain ⟨fd, F⟩ := F
  have M := He.meth_ok g
  exact ⟨_, fd, _, F, M.at_, M.fn, bindsM hb F⟩
theorem mdefD_w {v : V} (F : ∃ fd, FunD K m q (defArgs st) (defBody st) (defScope st) [v] [] (He.ma K (He.ga K x) m) fd) (g : (He.Fa.meth x m).ok K = true)
    (hb : ∀ (T : Addr) (kV doc pm : Value) (an : Option Addr) (cdv ct : Value) (us its : List Value), us.length = ps.length → its.length = 1 →
      ∃ k, bindArgs (PySem.W.fnOf m q (defArgs st) (defBody st) (defScope st) (.ref T) kV doc pm an cdv ct) ⟨us, []⟩ = seqItems? (.ref T) >>= k ∧ k (some its.toArray) = pure (ps.zip (us ++ its.drop 1))) : MDef K (He.ga K x) m q st ps := by
  obtain ⟨fd, F⟩ := F
  have M := He.meth_ok g
  exact ⟨_, fd, _, F, M.at_, M.fn, bindsD F hb⟩
/-- a property -/
def prB (x m : Str) (K : PySem.W.Frag) : Bool := He.eqO (PySem.W.findIn K (.ref (He.ga K x)) m) (some (some (.ref (He.ma K (He.ga K x) m)))) && (He.eqO (PySem.W.specialIn K (.ref (He.ma K (He.ga K x) m)) "__get__") (some (some (.builtin "property.__get__"))) &&
  (decide (PySem.W.takesIn K (.ref (He.ma K (He.ga K x) m)) = some true) && decide ((PySem.W.recIn K (He.ma K (He.ga K x) m) "property").bind List.head? = some (.ref (pgA x m K)))))
theorem pdef_w (F : ∃ fd, FunD K m q (defArgs st) (defBody st) (defScope st) [] [] (pgA x m K) fd) (g : prB x m K = true)
    (hb : ∀ (kV doc pm : Value) (an : Option Addr) (cdv ct : Value) (us : List Value), us.length = ps.length → bindArgs (PySem.W.fnOf m q (defArgs st) (defBody st) (defScope st) .none kV doc pm an cdv ct) ⟨us, []⟩ = pure (ps.zip us)) : PDef K (He.ga K x) m q st ps := by
  obtain ⟨fd, F⟩ := F
  obtain ⟨g1, g⟩ := He.ba g
  obtain ⟨g2, g⟩ := He.ba g
  obtain ⟨g3, g4⟩ := He.ba g
  refine ⟨He.ma K (He.ga K x) m, pgA x m K, fd, [], F, ⟨He.eqO_ok g1, He.eqO_ok g2, of_decide_eq_true g3, ?_⟩, bindsM hb F⟩
  have g4 := of_decide_eq_true g4
  cases e : PySem.W.recIn K (He.ma K (He.ga K x) m) "property" with
  | none => rw [e] at g4; cases g4
  | some l =>
    rw [e] at g4
    cases l with
    | nil => cases g4
    | cons a r =>
      have : a = .ref (pgA x m K) := Option.some.inj g4
      exact ⟨r, by rw [this]⟩
/-- an own class -/
def wcB (x : Str) (K : PySem.W.Frag) : Bool := (He.Fa.cls x).ok K && (PySem.W.makesIn K (He.ga K x) && (PySem.W.keepIn K (.ref (He.ga K x)) && (He.eqO (PySem.W.findIn K (.ref (He.ga K x)) "__class__") (some (some (.builtin "object.__class__"))) &&
  (He.eqO (PySem.W.specialIn K (.builtin "object.__class__") "__get__") (some (some (.builtin "getset_descriptor.__get__"))) && (decide (PySem.W.takesIn K (.builtin "object.__class__") = some true) && decide (PySem.W.mroIn K (He.ga K x) (.type "object") = some true))))))
theorem wc_w (X : K.In h) (G : h.Ns mainGlobals mg) (g : (He.Fa.glo x).ok K = true) (b : wcB x K = true) : WCls K mg x (He.ga K x) := by
  obtain ⟨b1, b⟩ := He.ba b
  obtain ⟨b2, b⟩ := He.ba b
  obtain ⟨b3, b⟩ := He.ba b
  obtain ⟨b4, b⟩ := He.ba b
  obtain ⟨b5, b⟩ := He.ba b
  obtain ⟨b6, b7⟩ := He.ba b
  exact ⟨He.cls_ok b1, He.glo_ok X G g, b2, b3, He.eqO_ok b4, He.eqO_ok b5, of_decide_eq_true b6, of_decide_eq_true b7⟩
/-- an own exception class -/
def exShape (C : Addr) (K : PySem.W.Frag) : Bool := match K.lookup C with
  | some ⟨.type "type", _, .cls cd, sl⟩ => (match cd.mro, sl.toList with
    | .ref C' :: bm, [_, _, _, _, some (.builtin n), _] => C' == C && n == "ValueError.__new__" && !cd.hasDel && cd.hasDict && PySem.HandSPX.refsVE bm
    | _, _ => false)
  | _ => false
theorem exShape_ok {C : Addr} (g : exShape C K = true) : ∃ nm q N bs bm sn sub ab col dd k0 k1 k2 k3 k5, K.lookup C = some (excClassObj nm q C N bs bm true sn sub ab col dd k0 k1 k2 k3 k5 "ValueError.__new__") ∧ PySem.HandSPX.refsVE bm = true := by
  unfold exShape at g
  split at g
  · rename_i dd cd sl ho
    split at g
    · rename_i C' bm k0 k1 k2 k3 n k5 hm hs
      simp only [Bool.and_eq_true, beq_iff_eq, Bool.not_eq_true'] at g
      obtain ⟨⟨⟨⟨rfl, rfl⟩, hdel⟩, hdc⟩, ht⟩ := g
      obtain ⟨nm, bs, mro, ns, qn, hd, sn, sub, ab, col, del⟩ := cd
      dsimp only at hm hdel hdc
      subst hm hdel hdc
      have hsl : sl = #[k0, k1, k2, k3, some (.builtin "ValueError.__new__"), k5] := by
        obtain ⟨l⟩ := sl
        simp only at hs
        rw [hs]
      subst hsl
      exact ⟨nm, qn, ns, bs, bm, sn, sub, ab, col, dd, k0, k1, k2, k3, k5, ho, ht⟩
    · cases g
  · cases g
def ecB (x : Str) (K : PySem.W.Frag) : Bool := exShape (He.ga K x) K && (He.eqO (PySem.W.findIn K (.ref (He.ga K x)) "__setattr__") (some (some (.builtin "object.__setattr__"))) && (decide (PySem.W.subIn K (.ref (He.ga K x)) (.type "BaseException") = some true) &&
  (decide (PySem.W.typeIn K (.ref (He.ga K x)) = some (.type "type")) && (PySem.W.keepIn K (.ref (He.ga K x)) && (xfB K (He.ga K x) && (He.eqO (PySem.W.findIn K (.ref (He.ga K x)) "__class__") (some (some (.builtin "object.__class__"))) &&
  (He.eqO (PySem.W.specialIn K (.builtin "object.__class__") "__get__") (some (some (.builtin "getset_descriptor.__get__"))) && (decide (PySem.W.takesIn K (.builtin "object.__class__") = some true) && (decide (PySem.W.mroIn K (He.ga K x) (.type "object") = some true) && PySem.W.isClsIn K (He.ga K x))))))))))
theorem ec_w (X : K.In h) (G : h.Ns mainGlobals mg) (g : (He.Fa.glo x).ok K = true) (b : ecB x K = true) : Ec K mg x (He.ga K x) := by
  obtain ⟨b1, b⟩ := He.ba b
  obtain ⟨b2, b⟩ := He.ba b
  obtain ⟨b3, b⟩ := He.ba b
  obtain ⟨b4, b⟩ := He.ba b
  obtain ⟨b5, b⟩ := He.ba b
  obtain ⟨b6, b⟩ := He.ba b
  obtain ⟨b7, b⟩ := He.ba b
  obtain ⟨b8, b⟩ := He.ba b
  obtain ⟨b9, b⟩ := He.ba b
  obtain ⟨b10, b11⟩ := He.ba b
  exact { gC := He.glo_ok X G g, ox := ⟨exShape_ok b1, He.eqO_ok b2, of_decide_eq_true b3, of_decide_eq_true b4, b5⟩, xf := xfB_ok b6, ca := He.eqO_ok b7, sg := He.eqO_ok b8, tk := of_decide_eq_true b9, mo := of_decide_eq_true b10, ic := b11 }
/-- its __init__ is found, its arguments are no names of the class -/
def xiB (x : Str) (gs : List Str) (K : PySem.W.Frag) : Bool := He.eqO (PySem.W.findIn K (.ref (He.ga K x)) "__init__") (some (some (.ref (He.ma K (He.ga K x) "__init__")))) && (decide (PySem.W.typeIn K (.ref (He.ma K (He.ga K x) "__init__")) = some (.type "function")) &&
  gs.all fun f => He.eqO (PySem.W.findIn K (.ref (He.ga K x)) f) (some none))
theorem xm_w {P : Program} {w : World} {base : Heap} {gs : List Str} (ec : Ec K mg x (He.ga K x)) (b : xiB x gs K = true) {fd : FuncData} (F : FnOk P w K mg base CX0 1 (He.ma K (He.ga K x) "__init__") fd ("self" :: gs) (spIni (He.ga K x) gs))
    (bi : Binds K fd ("self" :: gs) []) : Xm P w K mg base x (He.ga K x) gs := by
  obtain ⟨b1, b⟩ := He.ba b
  obtain ⟨b2, b3⟩ := He.ba b
  exact ⟨ec, fun f hf => He.eqO_ok (List.all_eq_true.mp b3 f hf), _, fd, He.eqO_ok b1, of_decide_eq_true b2, F, bi⟩
theorem xi_no {gs : List Str} (b : xiB x gs K = true) {f : Str} (hf : f ∈ gs) : PySem.W.findIn K (.ref (He.ga K x)) f = some none := by
  obtain ⟨b1, b⟩ := He.ba b
  obtain ⟨b2, b3⟩ := He.ba b
  exact He.eqO_ok (List.all_eq_true.mp b3 f hf)
/-- isinstance of an instance of x: the class c -/
def isB (x c : Str) (b : Bool) (K : PySem.W.Frag) : Bool := decide (PySem.W.kitOne K (.ref (He.ga K x)) (.ref (He.ga K c)) = some b)
theorem is_w {c : Str} {b : Bool} (X : K.In h) (G : h.Ns mainGlobals mg) (g : (He.Fa.glo c).ok K = true) (e : isB x c b K = true) : Isx K mg (He.ga K x) c b := ⟨_, He.glo_ok X G g, of_decide_eq_true e⟩
/-- an except clause's class takes it -/
def hnB (x c : Str) (b : Bool) (K : PySem.W.Frag) : Bool := decide (PySem.W.exmOne K (.ref (He.ga K x)) (.ref (He.ga K c)) = some b)
theorem hn_w {c : Str} {b : Bool} (X : K.In h) (G : h.Ns mainGlobals mg) (g : (He.Fa.glo c).ok K = true) (e : hnB x c b K = true) : Hnd K mg c (He.ga K x) b := ⟨_, He.glo_ok X G g, of_decide_eq_true e⟩
def ivB (x : Str) (K : PySem.W.Frag) : Bool := decide (PySem.W.kitOne K (.ref (He.ga K x)) (.type "ValueError") = some true)
end
end Hd

namespace Hd
open PySem PySem.Spec PyProof.Rows L2
/-! ### a def whose promise may speak of the size of the heap at its call -/
section
variable {P : Program} {w : World} {K : PySem.W.Frag} {mg : Str → Option Value} {base : Heap}
structure FnS (P : Program) (w : World) (K : PySem.W.Frag) (mg : Str → Option Value) (base : Heap) (k : Nat) (f : Addr) (fd : FuncData) (ps : List Str) (sp : Nat → Sp) : Prop where
  leS : ∀ n vs H Q E, sp n vs H Q E → vs.length = ps.length
  go : ∀ (A : Around) (st : List Env) (s : Shared) (H : Hp) (args : Args) (us : List Value) (vs : List V) (Q : VK) (E : XK), Room k A → Env0 P w K mg base A st s H → BindsTo s fd args (ps.zip us) → Vals vs us → sp s.heap.objs.size vs H Q E → codeAny (model P w) A (.call (.ref f) args) (CR CX0 st P w H s Q E) s
end
/-! ### for x in o, its own __iter__ gives a list's iterator -/
section
variable {X : Cx} {C : Addr} {k : Nat} {ps : List Str}
end
end Hd

namespace Hd
open PySem PySem.Spec PyProof.Rows L2
/-! ### t >= u -/
end Hd

namespace Hd
open PySem PySem.Spec PyProof.Rows L2
/-! ### a list, a tuple, or a tuple that is a constant of the module -/
abbrev KTup (K : PySem.W.Frag) (a : Addr) (xs : List V) : Prop := ∃ (o : Obj) (its : Array Value) (n : Nat), K.lookup a = some o ∧ o.cls = .type "tuple" ∧ o.data = .seq its n ∧ its.size ≤ sizeLine ∧ Vals xs its.toList
abbrev HasS (K : PySem.W.Frag) (H : Hp) (a : Addr) (xs : List V) : Prop := HasL H a xs ∨ KTup K a xs
theorem HasS.len {K : PySem.W.Frag} {H : Hp} {a : Addr} {xs : List V} (h : HasS K H a xs) : SqL K H a xs ∨ SqT K H a xs := h.elim (fun h => h.len) fun h => .inr (.inr h)
theorem HasS.lenV {K : PySem.W.Frag} {H : Hp} {a : Addr} {xs : List V} (h : HasS K H a xs) : LenV K (.ref a) H xs.length := h.len.imp (fun z => ⟨_, z, rfl⟩) fun z => ⟨_, z, rfl⟩
theorem HasS.up {K : PySem.W.Frag} {H H' : Hp} (g : Same H H') {a : Addr} {xs : List V} (h : HasS K H a xs) : HasS K H' a xs := h.imp (fun h => h.imp (g _ _) (g _ _)) id
end Hd

namespace Hd
open PySem PySem.Spec PyProof.Rows L2
/-! ### defs whose last parameter has an empty tuple as its default, called with and without it, and by its name -/
structure Bd (K : PySem.W.Frag) (fd : FuncData) (ps : List Str) (E : Addr) (kn : Str) : Prop where
  all : Binds K fd ps []
  dfl : Binds K fd ps [.ref E]
  kw : KBn K fd ps (ps.length - 1) [kn] (fun us ws => us ++ ws) (fun vs zs => vs ++ zs)
  emp : KTup K E []
def CalB (P : Program) (w : World) (K : PySem.W.Frag) (mg : Str → Option Value) (base : Heap) (x : Str) (k : Nat) (ps : List Str) (sp : Sp) (E : Addr) (kn : Str) : Prop :=
  ∃ f fd, FnOk P w K mg base (L2N.CX P w) k f fd ps sp ∧ mg x = some (.ref f) ∧ PySem.W.keepIn K (.ref f) = true ∧ Bd K fd ps E kn
def CalMB (P : Program) (w : World) (K : PySem.W.Frag) (mg : Str → Option Value) (base : Heap) (C : Addr) (m : Str) (k : Nat) (ps : List Str) (sp : Sp) (E : Addr) : Prop :=
  ∃ f fd, FnOk P w K mg base (L2N.CX P w) k f fd ps sp ∧ PySem.W.findIn K (.ref C) m = some (some (.ref f)) ∧ PySem.W.isFn K (.ref f) = true ∧ PySem.W.keepIn K (.ref f) = true ∧ Binds K fd ps [] ∧ Binds K fd ps [.ref E] ∧ KTup K E []
section
variable {P : Program} {w : World} {K : PySem.W.Frag} {mg : Str → Option Value} {base : Heap} {x m qual kn : Str} {st : Stmt} {ps N : List Str} {k : Nat} {sp : Sp} {C E : Addr}
theorem CalB.emp (c : CalB P w K mg base x k ps sp E kn) : KTup K E [] := by
  obtain ⟨f, fd, F, g, kp, b⟩ := c
  exact b.emp
theorem CalMB.emp (c : CalMB P w K mg base C m k ps sp E) : KTup K E [] := by
  obtain ⟨f, fd, F, g, i, kp, b, b2, e⟩ := c
  exact e
end
section
variable {X : Cx} {x kn : Str} {k : Nat} {ps : List Str} {sp : Sp} {C E : Addr} {e : Expr} {es : List Expr} {kws : List Keyword} {t tk : TA} {p pos : Pos}
end
/-! ### where they come from -/
section
variable {K : PySem.W.Frag} {h : Heap} {mg : Str → Option Value} {x m q kn : Str} {st : Stmt} {ps : List Str} {E f : Addr} {fd : FuncData}
end
section
variable {K : PySem.W.Frag} {h : Heap} {mg : Str → Option Value} {x m q kn : Str} {st : Stmt} {ps : List Str} {E : Addr}
end
end Hd

namespace Hd
open PySem PySem.Spec PyProof.Rows L2
/-! ### defs that may call repr: nothing is being shown around them -/
section
variable {P : Program} {w : World} {K : PySem.W.Frag} {mg : Str → Option Value} {base : Heap}
structure FnG (P : Program) (w : World) (K : PySem.W.Frag) (mg : Str → Option Value) (base : Heap) (k : Nat) (f : Addr) (fd : FuncData) (ps : List Str) (sp : Sp) : Prop where
  leG : ∀ vs H Q E, sp vs H Q E → vs.length = ps.length
  go : ∀ (A : Around) (st : List Env) (s : Shared) (H : Hp) (args : Args) (us : List Value) (vs : List V) (Q : VK) (E : XK), A.guards = some [] → Room k A → Env0 P w K mg base A st s H → BindsTo s fd args (ps.zip us) → Vals vs us → sp vs H Q E → codeAny (model P w) A (.call (.ref f) args) (CR CX0 st P w H s Q E) s
end
section
variable {X : Cx} {x : Str} {q pos : Pos} {e : Expr} {es : List Expr} {k : Nat} {ps : List Str} {sp : Sp} {t : TA}
end
end Hd
namespace Hd
open PySem PySem.Spec PyProof.Rows L2
/-! ### the law's own call: nothing is being shown -/
/-- H tracks the script at most -/
structure Just (K : PySem.W.Frag) (P : Program) (w : World) (H : Hp) (a : Addr) (s0 : Shared) : Prop where
  only : Only H
  ok : HOk P w H s0.heap
  at_ : ∀ b, H b ≠ none → b = a ∧ K.lookup a = none
end Hd

namespace Hd
open PySem PySem.Spec PyProof.Rows L2
/-! ### d.keys(), list(d.keys()) -/
section
variable {X : Cx}
end
/-! ### slices -/
/-! ### rows of whole numbers, alike or not -/
section
variable {X : Cx}
end
end Hd

namespace Hd
open PySem PySem.Spec PyProof.Rows L2
/-! ### what may be shown -/
structure Shw (d : PyData) : Prop where
  sh : d.showable = true
  nd : d.hasDict = false
  dp : d.depth < 60
  fit : d.shown.length ≤ sizeLine
/-- an entry of what is shown -/
structure ShwE (d : PyData) : Prop where
  sh : d.showable = true
  nd : d.hasDict = false
  dp : d.depth ≤ 4
  ls : d.leavesShort 100 = true
  wt : d.weight ≤ 500
theorem ShwE.int {i : Int} (h : i.natAbs < 10 ^ 40) : ShwE (.int i) := by
  have lg : i.natAbs.log2 < 133 := by
    by_cases e : i.natAbs = 0
    · rw [e]; decide
    · rw [Nat.log2_lt e]
      exact Nat.lt_trans h (by decide +kernel)
  refine ⟨decide_eq_true (Nat.lt_trans lg (by decide)), rfl, Nat.zero_le _, decide_eq_true ?_, ?_⟩
  · have := int_text_length_le10 (k := 40) (by decide) h
    show (Str.ofString (toString i)).length ≤ 100
    rw [PySem.ofString_length]
    omega
  · show (if i == 0 then 0 else i.natAbs.log2 + 1) ≤ 500
    split <;> omega
theorem ShwE.small {i : Int} (h0 : -1000 ≤ i) (h1 : i ≤ 1000) : ShwE (.int i) := .int (Nat.lt_of_le_of_lt (show i.natAbs ≤ 1000 by omega) (by decide +kernel))
section
variable {X : Cx}
end
end Hd

namespace Hd
open PySem PySem.Spec PyProof.Rows L2
/-! ### a comprehension within a comprehension's block -/
section
variable {X : Cx} {K : PySem.W.Frag}
end
end Hd

namespace Hd
open PySem PySem.Spec PyProof.Rows L2
section
variable {X : Cx} {p : Addr × Obj} {D d : Addr}
/-- err.n, where the class has no n of its own -/
def tErrG (K : PySem.W.Frag) (p : Addr × Obj) (D d : Addr) (n : Str) (te : TE) : TE := fun σ H Q => te σ H fun x H1 => x = .ref p.1 ∧ PySem.W.findIn K (.ref D) n = some none ∧ ∃ (fs : List (Str × V)) (v : V), ErrAt D d fs H1 p ∧ fs.lookup n = some v ∧ Q v H1
theorem pe_errG {x : Str} {e : Expr} {te : TE} {pos : Pos} {n : Str} (T : Ec X.K X.mg x D) (hp : p ∈ X.pn) (he : PE X e te) (hb : attributeBase e n X.env (eval e X.env) = eval e X.env := by rfl) :
    PE X (.Attribute e n pos) (tErrG X.K p D d n te) := by
  constructor
  intro pins s σ H Q I h
  refine attr_of hb (thn (he.run pins s σ H _ I h) ?_)
  rintro u s1 ⟨y, H1, I1, ry, rfl, hno, fs, v, at_, l, q⟩
  obtain rfl : u = Value.ref p.1 := ry
  obtain ⟨od, mA, J, hns, hr, hl⟩ := at_.inst hp I1
  obtain ⟨u, hu, ru⟩ := RelO.some_of (v := v) (o := mA n) (by rw [← l]; exact hr n)
  exact HandSPX.exc_get I1.kIn J T.xf.ga T.xf.gg T.xf.exC (PySem.W.findObj_own T.xf.hdC hno rfl (by rw [hl, hu])) (handed_of ru) ⟨v, H1, I1.tok _, ru, q⟩
end
end Hd

namespace Hd
open PySem PySem.Spec PyProof.Rows L2
/-! ### all(list) while an exception is handled -/
end Hd

namespace Hd
open PySem PySem.Spec PyProof.Rows L2
/-! ### rows, alike and their sizes -/
theorem sz_rows {n : Int} (n12 : n ≤ 12) : ∀ {Ls : List (List Int)}, AllMv n Ls → szL (Ls.map rowD) ≤ 14 * Ls.length
  | [], _ => Nat.le_refl _
  | a :: Ls, h => by
    have h1 := sz_rows n12 fun b hb => h b (List.mem_cons_of_mem _ hb)
    have h2 := sz_ints a
    have h3 := (h a List.mem_cons_self).len
    show szD (rowD a) + szL (Ls.map rowD) ≤ _
    unfold rowD at *
    rw [List.length_cons]
    omega
end Hd

namespace Hd
open PySem PySem.Spec PyProof.Rows L2
section
variable {X : Cx}
end
end Hd

namespace Hd
open PySem PySem.Spec PyProof.Rows L2
/-! ### moves made out of others, one that is new at a time -/
end Hd

/-! Sc: set comprehensions of ints, sorted of such a set of any size. -/
namespace Hd
open PySem PySem.Spec PyProof.Rows L2
section
variable {X : Cx}
end
end Hd
namespace Hd
open PySem PySem.Spec PyProof.Rows L2
section
variable {X : Cx}
end
end Hd
namespace Hd
open PySem PySem.Spec PyProof.Rows L2
/-! ### the members of such a set -/
/-- how many different ints -/
def many : List Int → Nat
  | [] => 0
  | k :: l => if k ∈ l then many l else many l + 1
end Hd
namespace Hd
open PySem PySem.Spec PyProof.Rows L2
end Hd
namespace Hd
end Hd
namespace Hd
open PySem PySem.Spec PyProof.Rows L2
end Hd

/-! Kt: keys() of a dict whose keys are tuples, list of it -/
namespace Hd
open PySem PySem.Spec PyProof.Rows L2
section
variable {prog : Program} {w : World} {A : Around} {E : Value → Shared → Prop} {s : Shared} {o : Obj} {es : Array DictEntry} {ep : Nat}
end
section
variable {X : Cx}
end
end Hd
namespace Hd
end Hd

/-! Mx: C(e, ..) where the making may raise, within a try or in a def that lets it out. -/
namespace Hd
open PySem PySem.Spec PyProof.Rows L2
section
variable {X : Cx} {C : Addr} {x : Str} {k : Nat} {ps : List Str} {sp : Sp} {e : Expr} {es : List Expr} {t : TA} {p pos : Pos}
def tMakeX (C : Addr) (sp : Sp) (E : L2.St → XK) (t : TA) : TE := fun σ H Q => t σ H fun vs Ha => ∀ o d, Ha o = none → Ha d = none → d ≠ o → sp (.ref o :: (vs ++ [])) (upd (upd Ha d (.own o)) o (.ins C d [])) (fun v Hb => v = .non ∧ Q (.ref o) Hb) (E σ)
theorem pe_makeX {W : WX} (c : WCls X.K X.mg x C) (M : CalM X.prog X.w X.K X.mg X.base C "__init__" k ps sp) (tk : L2N.Takes X W) (hr : Room (k + 1) X.A) (hg : Gl X x) (ha : PA X (e :: es) t) (hdb : (x == ("__debug__" : Str)) = false := by decide)
    (he : starEach (e :: es) X.env = (false, eval e X.env) :: starEach es X.env := by rfl) (hpl : (backTo pos (starEach es X.env)).any (·.1) = false := by rfl) : PE X (.Call (.Name x p) (e :: es) [] pos) (tMakeX C sp (WE W) t) := by
  obtain ⟨f, fd, F, hf, isf, kf, b⟩ := M
  constructor
  intro pins s σ H Q I want
  refine wpAny_Call_Name_kw (ld_glob I hg c.gC ?_ hdb)
  refine PySem.W.callWith_K (h₀ := X.base) I.ok.mod.kin c.kp (thn (ha.run pos pins s σ H _ I want) fun us sa ⟨vs, Ha, Ia, rv, go⟩ => ⟨Ia.kIn, ?_⟩) he hpl
  have fin := go (sa.heap.objs.size + 1) sa.heap.objs.size (Ia.hok.fresh (Nat.le_succ _)) (Ia.hok.fresh (Nat.le_refl _)) (Nat.ne_of_lt (Nat.lt_succ_self _))
  have Ib := Inv.made (C := C) Ia
  have rb : Vals (V.ref (sa.heap.objs.size + 1) :: (vs ++ [])) (Value.ref (sa.heap.objs.size + 1) :: (us ++ [])) := .cons rfl (rv.append .nil)
  have same : (Value.ref (sa.heap.objs.size + 1) :: us ++ []).length = ps.length := by
    have z := rb.length
    rw [F.len _ _ _ _ fin] at z
    exact z.symm
  have room := hr.make C us []
  have env := Ib.env0.make C us []
  have bound := b _ (Value.ref (sa.heap.objs.size + 1) :: us) Ib.kIn same
  refine wpAny_call (make_map (f := f) Ia.kIn c.mks hf (beq_iff_eq.mp isf) (codeAny_mono (F.run _ X.stack _ _ ⟨Value.ref (sa.heap.objs.size + 1) :: us, []⟩ _ _ _ _ room env bound rb fin) fun res sz out => ?_))
  match res, out with
  | .error er, out => exact L2N.passAt tk σ pins _ _ er sz Ib out
  | .ok (.ret u), out =>
    obtain ⟨v, Hz, Iz, ru, ev, done⟩ := Ib.after out
    subst ev
    exact ⟨ru, V.ref (sa.heap.objs.size + 1), Hz, Iz, rfl, done⟩
  | .ok .next, out => exact False.elim out
  | .ok .brk, out => exact False.elim out
  | .ok .cont, out => exact False.elim out
end
end Hd

namespace Hd
open PySem PySem.Spec PyProof.Rows L2
def topS (i : Nat) : Stmt := PySem.Challenge.pw_heldorder_k09_worlds_refused.main.body.getD i (.Pass ⟨0, 0, 0, 0⟩)
abbrev s_is_number : Stmt := topS 38
theorem sc_is_number : FnScope ["value", "low", "high"] ["value", "low", "high"] (defScope s_is_number) := ⟨rfl, rfl, rfl, by decide +kernel, rfl, by decide +kernel, by decide +kernel⟩
abbrev s_is_point : Stmt := topS 39
theorem sc_is_point : FnScope ["points", "value"] ["points", "value"] (defScope s_is_point) := ⟨rfl, rfl, rfl, by decide +kernel, rfl, by decide +kernel, by decide +kernel⟩
abbrev s_is_move_on : Stmt := topS 40
theorem sc_is_move_on : FnScope ["points", "value", "image"] ["points", "value"] (defScope s_is_move_on) := ⟨rfl, rfl, rfl, by decide +kernel, rfl, by decide +kernel, by decide +kernel⟩
abbrev s_check_number : Stmt := topS 41
theorem sc_check_number : FnScope ["value", "low", "high"] ["value", "low", "high"] (defScope s_check_number) := ⟨rfl, rfl, rfl, by decide +kernel, rfl, by decide +kernel, by decide +kernel⟩
abbrev s_check_points : Stmt := topS 42
theorem sc_check_points : FnScope ["value"] ["value"] (defScope s_check_points) := ⟨rfl, rfl, rfl, by decide +kernel, rfl, by decide +kernel, by decide +kernel⟩
abbrev s_check_moves : Stmt := topS 43
theorem sc_check_moves : FnScope ["points", "moves", "what", "limit", "index", "value"] ["points", "moves", "what", "limit"] (defScope s_check_moves) := ⟨rfl, rfl, rfl, by decide +kernel, rfl, by decide +kernel, by decide +kernel⟩
abbrev s_carry : Stmt := topS 45
theorem sc_carry : FnScope ["move", "row", "point"] ["move", "row"] (defScope s_carry) := ⟨rfl, rfl, rfl, by decide +kernel, rfl, by decide +kernel, by decide +kernel⟩
abbrev s_still_move : Stmt := topS 46
theorem sc_still_move : FnScope ["points"] ["points"] (defScope s_still_move) := ⟨rfl, rfl, rfl, by decide +kernel, rfl, by decide +kernel, by decide +kernel⟩
abbrev s_best_words : Stmt := topS 48
theorem sc_best_words : FnScope ["row", "told", "words", "layer"] ["row", "told"] (defScope s_best_words) := ⟨rfl, rfl, rfl, by decide +kernel, rfl, by decide +kernel, by decide +kernel⟩
abbrev s_make_all : Stmt := topS 49
theorem sc_make_all : FnScope ["points", "moves"] ["points", "moves"] (defScope s_make_all) := ⟨rfl, rfl, rfl, by decide +kernel, rfl, by decide +kernel, by decide +kernel⟩
abbrev s_next_layer : Stmt := topS 51
theorem sc_next_layer : FnScope ["layer", "told", "words", "found", "row", "index", "move", "image"] ["layer", "told", "words"] (defScope s_next_layer) := ⟨rfl, rfl, rfl, by decide +kernel, rfl, by decide +kernel, by decide +kernel⟩
abbrev s_law_store : Stmt := topS 53
theorem sc_law_store : FnScope ["script", "cell"] ["script"] (defScope s_law_store) := ⟨rfl, rfl, rfl, by decide +kernel, rfl, by decide +kernel, by decide +kernel⟩
abbrev s_law_mixed : Stmt := topS 54
theorem sc_law_mixed : FnScope ["seed", "turn", "first", "second"] ["seed", "turn"] (defScope s_law_mixed) := ⟨rfl, rfl, rfl, by decide +kernel, rfl, by decide +kernel, by decide +kernel⟩
abbrev s_law_take : Stmt := topS 55
theorem sc_law_take : FnScope ["store", "many", "cell", "digit"] ["store", "many"] (defScope s_law_take) := ⟨rfl, rfl, rfl, by decide +kernel, rfl, by decide +kernel, by decide +kernel⟩
abbrev s_law_pick : Stmt := topS 56
theorem sc_law_pick : FnScope ["store", "things"] ["store", "things"] (defScope s_law_pick) := ⟨rfl, rfl, rfl, by decide +kernel, rfl, by decide +kernel, by decide +kernel⟩
abbrev s_law_place : Stmt := topS 57
theorem sc_law_place : FnScope ["store", "size", "pick"] ["store", "size"] (defScope s_law_place) := ⟨rfl, rfl, rfl, by decide +kernel, rfl, by decide +kernel, by decide +kernel⟩
abbrev s_law_drawn : Stmt := topS 58
theorem sc_law_drawn : FnScope ["store", "things", "many", "pool", "found", "k", "at"] ["store", "things", "many"] (defScope s_law_drawn) := ⟨rfl, rfl, rfl, by decide +kernel, rfl, by decide +kernel, by decide +kernel⟩
abbrev s_law_either : Stmt := topS 59
theorem sc_law_either : FnScope ["store", "entries"] ["store", "entries"] (defScope s_law_either) := ⟨rfl, rfl, rfl, by decide +kernel, rfl, by decide +kernel, by decide +kernel⟩
abbrev s_law_bad_number : Stmt := topS 60
theorem sc_law_bad_number : FnScope ["store", "low", "high", "nothing", "pick"] ["store", "low", "high", "nothing"] (defScope s_law_bad_number) := ⟨rfl, rfl, rfl, by decide +kernel, rfl, by decide +kernel, by decide +kernel⟩
abbrev s_law_is_whole : Stmt := topS 61
theorem sc_law_is_whole : FnScope ["value"] ["value"] (defScope s_law_is_whole) := ⟨rfl, rfl, rfl, by decide +kernel, rfl, by decide +kernel, by decide +kernel⟩
abbrev s_law_same : Stmt := topS 62
theorem sc_law_same : FnScope ["actual", "due", "left", "pair", "one", "two", "k"] ["actual", "due"] (defScope s_law_same) := ⟨rfl, rfl, rfl, by decide +kernel, rfl, by decide +kernel, by decide +kernel⟩
abbrev s_law_frozen : Stmt := topS 63
theorem sc_law_frozen : FnScope ["value", "deep", "part"] ["value", "deep"] (defScope s_law_frozen) := ⟨rfl, rfl, rfl, by decide +kernel, rfl, by decide +kernel, by decide +kernel⟩
abbrev s_law_after : Stmt := topS 64
theorem sc_law_after : FnScope ["first", "second", "p"] ["first", "second"] (defScope s_law_after) := ⟨rfl, rfl, rfl, by decide +kernel, rfl, by decide +kernel, by decide +kernel⟩
abbrev s_law_renamed : Stmt := topS 65
theorem sc_law_renamed : FnScope ["move", "by", "image", "k"] ["move", "by"] (defScope s_law_renamed) := ⟨rfl, rfl, rfl, by decide +kernel, rfl, by decide +kernel, by decide +kernel⟩
abbrev s_law_move : Stmt := topS 66
theorem sc_law_move : FnScope ["store", "points", "pick", "image", "size", "ring_row", "k", "shift"] ["store", "points"] (defScope s_law_move) := ⟨rfl, rfl, rfl, by decide +kernel, rfl, by decide +kernel, by decide +kernel⟩
abbrev s_law_move_fits : Stmt := topS 67
theorem sc_law_move_fits : FnScope ["value", "points", "seen", "entry"] ["value", "points"] (defScope s_law_move_fits) := ⟨rfl, rfl, rfl, by decide +kernel, rfl, by decide +kernel, by decide +kernel⟩
abbrev s_law_group : Stmt := topS 68
theorem sc_law_group : FnScope ["points", "told", "most", "still", "queue", "seen", "at", "move", "image"] ["points", "told", "most"] (defScope s_law_group) := ⟨rfl, rfl, rfl, by decide +kernel, rfl, by decide +kernel, by decide +kernel⟩
abbrev s_law_cut : Stmt := topS 69
theorem sc_law_cut : FnScope ["points", "told", "most", "left", "made", "move", "wider"] ["points", "told", "most"] (defScope s_law_cut) := ⟨rfl, rfl, rfl, by decide +kernel, rfl, by decide +kernel, by decide +kernel⟩
abbrev s_law_block_moves : Stmt := topS 70
theorem sc_law_block_moves : FnScope ["store", "points", "sizes", "left", "k", "told", "j", "image", "size", "base", "shift", "sign"] ["store", "points"] (defScope s_law_block_moves) := ⟨rfl, rfl, rfl, by decide +kernel, rfl, by decide +kernel, by decide +kernel⟩
abbrev s_law_limit_world : Stmt := topS 71
theorem sc_law_limit_world : FnScope ["which"] ["which"] (defScope s_law_limit_world) := ⟨rfl, rfl, rfl, by decide +kernel, rfl, by decide +kernel, by decide +kernel⟩
abbrev s_law_alone : Stmt := topS 72
theorem sc_law_alone : FnScope ["error", "of", "one", "entry"] ["error"] (defScope s_law_alone) := ⟨rfl, rfl, rfl, by decide +kernel, rfl, by decide +kernel, by decide +kernel⟩
abbrev s_law_refusal : Stmt := topS 73
theorem sc_law_refusal : FnScope ["error", "due", "told"] ["error", "due"] (defScope s_law_refusal) := ⟨rfl, rfl, rfl, by decide +kernel, rfl, by decide +kernel, by decide +kernel⟩
abbrev s_law_no_move : Stmt := topS 74
theorem sc_law_no_move : FnScope ["store", "points", "move", "wrong", "p"] ["store", "points"] (defScope s_law_no_move) := ⟨rfl, rfl, rfl, by decide +kernel, rfl, by decide +kernel, by decide +kernel⟩
abbrev s_law_due : Stmt := topS 75
theorem sc_law_due : FnScope ["points", "moves", "at", "made"] ["points", "moves"] (defScope s_law_due) := ⟨rfl, rfl, rfl, by decide +kernel, rfl, by decide +kernel, by decide +kernel⟩
abbrev s_law_made : Stmt := topS 76
theorem sc_law_made : FnScope ["points", "moves", "due", "actual", "e"] ["points", "moves", "due"] (defScope s_law_made) := ⟨rfl, rfl, rfl, by decide +kernel, rfl, by decide +kernel, by decide +kernel⟩
abbrev s_law_world_made : Stmt := topS 77
theorem sc_law_world_made : FnScope ["points", "moves", "due", "world", "e"] ["points", "moves", "due"] (defScope s_law_world_made) := ⟨rfl, rfl, rfl, by decide +kernel, rfl, by decide +kernel, by decide +kernel⟩
abbrev s_law_fair : Stmt := topS 78
theorem sc_law_fair : FnScope ["points", "moves", "before", "due"] ["points", "moves"] (defScope s_law_fair) := ⟨rfl, rfl, rfl, by decide +kernel, rfl, by decide +kernel, by decide +kernel⟩
abbrev s_law_told_moves : Stmt := topS 79
theorem sc_law_told_moves : FnScope ["store", "pick", "limit", "by", "points", "told", "k", "move"] ["store"] (defScope s_law_told_moves) := ⟨rfl, rfl, rfl, by decide +kernel, rfl, by decide +kernel, by decide +kernel⟩
abbrev s_law_more : Stmt := topS 80
theorem sc_law_more : FnScope ["store", "points", "told", "more", "pick", "still", "many", "k"] ["store", "points", "told"] (defScope s_law_more) := ⟨rfl, rfl, rfl, by decide +kernel, rfl, by decide +kernel, by decide +kernel⟩
abbrev s_law : Stmt := topS 81
theorem sc_law : FnScope ["script", "store", "drawn", "points", "told", "more", "wrong", "many", "at"] ["script"] (defScope s_law) := ⟨rfl, rfl, rfl, by decide +kernel, rfl, by decide +kernel, by decide +kernel⟩
abbrev s_World___init__ : Stmt := inClass (topS 50) 0
theorem sc_World___init__ : FnScope ["self", "points", "moves"] ["self", "points", "moves"] (defScope s_World___init__) := ⟨rfl, rfl, rfl, by decide +kernel, rfl, by decide +kernel, by decide +kernel⟩
abbrev s_World_points : Stmt := inClass (topS 50) 1
theorem sc_World_points : FnScope ["self"] ["self"] (defScope s_World_points) := ⟨rfl, rfl, rfl, by decide +kernel, rfl, by decide +kernel, by decide +kernel⟩
abbrev s_World_told : Stmt := inClass (topS 50) 2
theorem sc_World_told : FnScope ["self"] ["self"] (defScope s_World_told) := ⟨rfl, rfl, rfl, by decide +kernel, rfl, by decide +kernel, by decide +kernel⟩
abbrev s_World_made : Stmt := inClass (topS 50) 3
theorem sc_World_made : FnScope ["self"] ["self"] (defScope s_World_made) := ⟨rfl, rfl, rfl, by decide +kernel, rfl, by decide +kernel, by decide +kernel⟩
abbrev s_World___len__ : Stmt := inClass (topS 50) 4
theorem sc_World___len__ : FnScope ["self"] ["self"] (defScope s_World___len__) := ⟨rfl, rfl, rfl, by decide +kernel, rfl, by decide +kernel, by decide +kernel⟩
abbrev s_World___iter__ : Stmt := inClass (topS 50) 5
abbrev s_World___contains__ : Stmt := inClass (topS 50) 6
abbrev s_World___eq__ : Stmt := inClass (topS 50) 7
theorem sc_World___eq__ : FnScope ["self", "other"] ["self", "other"] (defScope s_World___eq__) := ⟨rfl, rfl, rfl, by decide +kernel, rfl, by decide +kernel, by decide +kernel⟩
structure Zs (mg : Str → Option Value) : Prop where
  z_ValueError : mg "ValueError" = none
  z_isinstance : mg "isinstance" = none
  z_int : mg "int" = none
  z_bool : mg "bool" = none
  z_str : mg "str" = none
  z_tuple : mg "tuple" = none
  z_list : mg "list" = none
  z_len : mg "len" = none
  z_range : mg "range" = none
  z_all : mg "all" = none
  z_sorted : mg "sorted" = none
  z_min : mg "min" = none
  z_enumerate : mg "enumerate" = none
  z_iter : mg "iter" = none
  c_MOST_POINTS : ∃ t, mg "MOST_POINTS" = some (.int 12 t)
  c_MOST_TOLD : ∃ t, mg "MOST_TOLD" = some (.int 8 t)
  c_MOST_MADE : ∃ t, mg "MOST_MADE" = some (.int 400 t)
structure Ds (K : PySem.W.Frag) (mg : Str → Option Value) : Prop where
  d_is_number : Def K mg "is_number" s_is_number ["value", "low", "high"]
  d_is_point : Def K mg "is_point" s_is_point ["points", "value"]
  d_is_move_on : Def K mg "is_move_on" s_is_move_on ["points", "value"]
  d_check_number : Def K mg "check_number" s_check_number ["value", "low", "high"]
  d_check_points : Def K mg "check_points" s_check_points ["value"]
  d_check_moves : Def K mg "check_moves" s_check_moves ["points", "moves", "what", "limit"]
  d_carry : Def K mg "carry" s_carry ["move", "row"]
  d_still_move : Def K mg "still_move" s_still_move ["points"]
  d_best_words : Def K mg "best_words" s_best_words ["row", "told"]
  d_make_all : DefD K mg "make_all" s_make_all ["points", "moves"]
  d_next_layer : Def K mg "_next_layer" s_next_layer ["layer", "told", "words"]
  d_law_store : Def K mg "_law_store" s_law_store ["script"]
  d_law_mixed : Def K mg "_law_mixed" s_law_mixed ["seed", "turn"]
  d_law_take : Def K mg "_law_take" s_law_take ["store", "many"]
  d_law_pick : Def K mg "_law_pick" s_law_pick ["store", "things"]
  d_law_place : Def K mg "_law_place" s_law_place ["store", "size"]
  d_law_drawn : Def K mg "_law_drawn" s_law_drawn ["store", "things", "many"]
  d_law_either : Def K mg "_law_either" s_law_either ["store", "entries"]
  d_law_bad_number : Def K mg "_law_bad_number" s_law_bad_number ["store", "low", "high", "nothing"]
  d_law_is_whole : Def K mg "_law_is_whole" s_law_is_whole ["value"]
  d_law_same : Def K mg "_law_same" s_law_same ["actual", "due"]
  d_law_frozen : Def K mg "_law_frozen" s_law_frozen ["value", "deep"]
  d_law_after : Def K mg "_law_after" s_law_after ["first", "second"]
  d_law_renamed : Def K mg "_law_renamed" s_law_renamed ["move", "by"]
  d_law_move : Def K mg "_law_move" s_law_move ["store", "points"]
  d_law_move_fits : Def K mg "_law_move_fits" s_law_move_fits ["value", "points"]
  d_law_group : Def K mg "_law_group" s_law_group ["points", "told", "most"]
  d_law_cut : Def K mg "_law_cut" s_law_cut ["points", "told", "most"]
  d_law_block_moves : Def K mg "_law_block_moves" s_law_block_moves ["store", "points"]
  d_law_limit_world : Def K mg "_law_limit_world" s_law_limit_world ["which"]
  d_law_alone : Def K mg "_law_alone" s_law_alone ["error"]
  d_law_refusal : Def K mg "_law_refusal" s_law_refusal ["error", "due"]
  d_law_no_move : Def K mg "_law_no_move" s_law_no_move ["store", "points"]
  d_law_due : Def K mg "_law_due" s_law_due ["points", "moves"]
  d_law_made : Def K mg "_law_made" s_law_made ["points", "moves", "due"]
  d_law_world_made : Def K mg "_law_world_made" s_law_world_made ["points", "moves", "due"]
  d_law_fair : Def K mg "_law_fair" s_law_fair ["points", "moves"]
  d_law_told_moves : Def K mg "_law_told_moves" s_law_told_moves ["store"]
  d_law_more : Def K mg "_law_more" s_law_more ["store", "points", "told"]
structure Dw (K : PySem.W.Frag) (mg : Str → Option Value) (CW : Addr) : Prop where
  wc : WCls K mg "World" CW
  n_made : NoAttr K CW "_made"
  n_points : NoAttr K CW "_points"
  n_told : NoAttr K CW "_told"
  d_World___init__ : MDef K CW "__init__" "World.__init__" s_World___init__ ["self", "points", "moves"]
  d_World_points : PDef K CW "points" "World.points" s_World_points ["self"]
  d_World_told : PDef K CW "told" "World.told" s_World_told ["self"]
  d_World_made : PDef K CW "made" "World.made" s_World_made ["self"]
  d_World___len__ : MDef K CW "__len__" "World.__len__" s_World___len__ ["self"]
  d_World___iter__ : MDef K CW "__iter__" "World.__iter__" s_World___iter__ ["self"]
  d_World___contains__ : MDef K CW "__contains__" "World.__contains__" s_World___contains__ ["self", "value"]
  d_World___eq__ : MDef K CW "__eq__" "World.__eq__" s_World___eq__ ["self", "other"]
/-- the class named nm at D, the k-th of those that are told apart -/
structure Es (K : PySem.W.Frag) (mg : Str → Option Value) (k : Nat) (nm : Str) (D : Addr) : Prop where
  ec : Ec K mg nm D
  lt : k < 32
  i_BadNumber : Isx K mg D "BadNumber" (k == 0)
  i_NotAPoint : Isx K mg D "NotAPoint" (k == 1)
  i_NotAMove : Isx K mg D "NotAMove" (k == 2)
  i_TooMany : Isx K mg D "TooMany" (k == 3)
  i_UnlikeSizes : Isx K mg D "UnlikeSizes" (k == 4)
  i_RepeatedPoint : Isx K mg D "RepeatedPoint" (k == 5)
  i_BadText : Isx K mg D "BadText" (k == 6)
  i_NotMade : Isx K mg D "NotMade" (k == 7)
  i_NotTight : Isx K mg D "NotTight" (k == 8)
  i_NotFull : Isx K mg D "NotFull" (k == 9)
  i_NotAFailing : Isx K mg D "NotAFailing" (k == 10)
  i_NotNeighbours : Isx K mg D "NotNeighbours" (k == 11)
  i_NotShorter : Isx K mg D "NotShorter" (k == 12)
  i_SameLength : Isx K mg D "SameLength" (k == 13)
  i_NoSuchLength : Isx K mg D "NoSuchLength" (k == 14)
  i_NotAnOrder : Isx K mg D "NotAnOrder" (k == 15)
  i_NotAChain : Isx K mg D "NotAChain" (k == 16)
  i_NotABase : Isx K mg D "NotABase" (k == 17)
  i_NotInside : Isx K mg D "NotInside" (k == 18)
  i_OrderMatters : Isx K mg D "OrderMatters" (k == 19)
  i_FullLot : Isx K mg D "FullLot" (k == 20)
  i_NotAWord : Isx K mg D "NotAWord" (k == 21)
  i_NotAColumn : Isx K mg D "NotAColumn" (k == 22)
  i_NotACount : Isx K mg D "NotACount" (k == 23)
  i_GameOver : Isx K mg D "GameOver" (k == 24)
  i_NotAllowed : Isx K mg D "NotAllowed" (k == 25)
  i_NothingToUndo : Isx K mg D "NothingToUndo" (k == 26)
  i_NothingToRedo : Isx K mg D "NothingToRedo" (k == 27)
  i_NothingKept : Isx K mg D "NothingKept" (k == 28)
  i_BadEdit : Isx K mg D "BadEdit" (k == 29)
  i_UnknownName : Isx K mg D "UnknownName" (k == 30)
  i_NotAPaper : Isx K mg D "NotAPaper" (k == 31)
  iH : Isx K mg D "HeldorderError" true
  hH : Hnd K mg "HeldorderError" D true
  iV : PySem.W.kitOne K (.ref D) (.type "ValueError") = some true
theorem one_of : ∀ k, k < 32 → (([k == 0, k == 1, k == 2, k == 3, k == 4, k == 5, k == 6, k == 7, k == 8, k == 9, k == 10, k == 11, k == 12, k == 13, k == 14, k == 15, k == 16, k == 17, k == 18, k == 19, k == 20, k == 21, k == 22, k == 23, k == 24, k == 25, k == 26, k == 27, k == 28, k == 29, k == 30, k == 31] : List Bool).filter id).length = 1 := by decide
abbrev s_ini_BadNumber : Stmt := (clsB (topS 5)).getD 0 (.Pass ⟨0, 0, 0, 0⟩)
theorem sc_ini_BadNumber : FnScope ["self", "value", "low", "high"] ["self", "value", "low", "high"] (defScope s_ini_BadNumber) := ⟨rfl, rfl, rfl, by decide +kernel, rfl, by decide +kernel, by decide +kernel⟩
abbrev s_ini_NotAMove : Stmt := (clsB (topS 7)).getD 0 (.Pass ⟨0, 0, 0, 0⟩)
theorem sc_ini_NotAMove : FnScope ["self", "index"] ["self", "index"] (defScope s_ini_NotAMove) := ⟨rfl, rfl, rfl, by decide +kernel, rfl, by decide +kernel, by decide +kernel⟩
abbrev s_ini_TooMany : Stmt := (clsB (topS 8)).getD 0 (.Pass ⟨0, 0, 0, 0⟩)
theorem sc_ini_TooMany : FnScope ["self", "what", "limit"] ["self", "what", "limit"] (defScope s_ini_TooMany) := ⟨rfl, rfl, rfl, by decide +kernel, rfl, by decide +kernel, by decide +kernel⟩
def faL : List He.Fa := ([.glo "law", .free "ValueError", .free "isinstance", .free "int", .free "bool", .free "str", .free "tuple", .free "list", .free "len", .free "range", .free "all", .free "sorted", .free "min", .free "enumerate", .free "iter", .int "MOST_POINTS" 12, .int "MOST_TOLD" 8, .int "MOST_MADE" 400, .glo "is_number", .glo "is_point", .glo "is_move_on", .glo "check_number", .glo "check_points", .glo "check_moves", .glo "carry", .glo "still_move", .glo "best_words", .glo "make_all", .glo "_next_layer", .glo "_law_store", .glo "_law_mixed", .glo "_law_take", .glo "_law_pick", .glo "_law_place", .glo "_law_drawn", .glo "_law_either", .glo "_law_bad_number", .glo "_law_is_whole", .glo "_law_same", .glo "_law_frozen"] : List (He.Fa)) ++ ([.glo "_law_after", .glo "_law_renamed", .glo "_law_move", .glo "_law_move_fits", .glo "_law_group", .glo "_law_cut", .glo "_law_block_moves", .glo "_law_limit_world", .glo "_law_alone", .glo "_law_refusal", .glo "_law_no_move", .glo "_law_due", .glo "_law_made", .glo "_law_world_made", .glo "_law_fair", .glo "_law_told_moves", .glo "_law_more", .glo "World", .noat "World" "_made", .noat "World" "_points", .noat "World" "_told", .meth "World" "__init__", .meth "World" "__len__", .meth "World" "__iter__", .meth "World" "__contains__", .meth "World" "__eq__", .glo "BadNumber", .glo "NotAPoint", .glo "NotAMove", .glo "TooMany", .glo "UnlikeSizes", .glo "RepeatedPoint", .glo "BadText", .glo "NotMade", .glo "NotTight", .glo "NotFull", .glo "NotAFailing", .glo "NotNeighbours", .glo "NotShorter", .glo "SameLength"] : List (He.Fa)) ++ ([.glo "NoSuchLength", .glo "NotAnOrder", .glo "NotAChain", .glo "NotABase", .glo "NotInside", .glo "OrderMatters", .glo "FullLot", .glo "NotAWord", .glo "NotAColumn", .glo "NotACount", .glo "GameOver", .glo "NotAllowed", .glo "NothingToUndo", .glo "NothingToRedo", .glo "NothingKept", .glo "BadEdit", .glo "UnknownName", .glo "NotAPaper", .glo "HeldorderError"] : List (He.Fa))
def fnL0 : List He5.DefA := [dFn "law" s_law, dFn "is_number" s_is_number, dFn "is_point" s_is_point, dFn "is_move_on" s_is_move_on, dFn "check_number" s_check_number, dFn "check_points" s_check_points, dFn "check_moves" s_check_moves, dFn "carry" s_carry, dFn "still_move" s_still_move, dFn "best_words" s_best_words, dFnD "make_all" s_make_all, dFn "_next_layer" s_next_layer, dFn "_law_store" s_law_store, dFn "_law_mixed" s_law_mixed, dFn "_law_take" s_law_take, dFn "_law_pick" s_law_pick, dFn "_law_place" s_law_place, dFn "_law_drawn" s_law_drawn, dFn "_law_either" s_law_either, dFn "_law_bad_number" s_law_bad_number, dFn "_law_is_whole" s_law_is_whole, dFn "_law_same" s_law_same, dFn "_law_frozen" s_law_frozen, dFn "_law_after" s_law_after, dFn "_law_renamed" s_law_renamed, dFn "_law_move" s_law_move, dFn "_law_move_fits" s_law_move_fits, dFn "_law_group" s_law_group, dFn "_law_cut" s_law_cut, dFn "_law_block_moves" s_law_block_moves, dFn "_law_limit_world" s_law_limit_world, dFn "_law_alone" s_law_alone, dFn "_law_refusal" s_law_refusal, dFn "_law_no_move" s_law_no_move, dFn "_law_due" s_law_due, dFn "_law_made" s_law_made]
def fnL1 : List He5.DefA := [dFn "_law_world_made" s_law_world_made, dFn "_law_fair" s_law_fair, dFn "_law_told_moves" s_law_told_moves, dFn "_law_more" s_law_more, dMeD "World" "__init__" "World.__init__" s_World___init__, dPr "World" "points" "World.points" s_World_points, dPr "World" "told" "World.told" s_World_told, dPr "World" "made" "World.made" s_World_made, dMe "World" "__len__" "World.__len__" s_World___len__, dMe "World" "__iter__" "World.__iter__" s_World___iter__, dMe "World" "__contains__" "World.__contains__" s_World___contains__, dMe "World" "__eq__" "World.__eq__" s_World___eq__, dMe "BadNumber" "__init__" "BadNumber.__init__" s_ini_BadNumber, dMe "NotAMove" "__init__" "NotAMove.__init__" s_ini_NotAMove, dMe "TooMany" "__init__" "TooMany.__init__" s_ini_TooMany]
def fnL : List He5.DefA := fnL0 ++ (fnL1)
def exL : List (PySem.W.Frag → Bool) := ([wcB "World", prB "World" "points", prB "World" "told", prB "World" "made", ecB "BadNumber", isB "BadNumber" "BadNumber" true, isB "BadNumber" "NotAPoint" false, isB "BadNumber" "NotAMove" false, isB "BadNumber" "TooMany" false, isB "BadNumber" "UnlikeSizes" false, isB "BadNumber" "RepeatedPoint" false, isB "BadNumber" "BadText" false, isB "BadNumber" "NotMade" false, isB "BadNumber" "NotTight" false, isB "BadNumber" "NotFull" false, isB "BadNumber" "NotAFailing" false, isB "BadNumber" "NotNeighbours" false, isB "BadNumber" "NotShorter" false, isB "BadNumber" "SameLength" false, isB "BadNumber" "NoSuchLength" false, isB "BadNumber" "NotAnOrder" false, isB "BadNumber" "NotAChain" false, isB "BadNumber" "NotABase" false, isB "BadNumber" "NotInside" false, isB "BadNumber" "OrderMatters" false, isB "BadNumber" "FullLot" false, isB "BadNumber" "NotAWord" false, isB "BadNumber" "NotAColumn" false, isB "BadNumber" "NotACount" false, isB "BadNumber" "GameOver" false, isB "BadNumber" "NotAllowed" false, isB "BadNumber" "NothingToUndo" false, isB "BadNumber" "NothingToRedo" false, isB "BadNumber" "NothingKept" false, isB "BadNumber" "BadEdit" false, isB "BadNumber" "UnknownName" false, isB "BadNumber" "NotAPaper" false, isB "BadNumber" "HeldorderError" true, hnB "BadNumber" "HeldorderError" true, ivB "BadNumber"] : List (PySem.W.Frag → Bool)) ++ ([xiB "BadNumber" ["value", "low", "high"], ecB "NotAMove", isB "NotAMove" "BadNumber" false, isB "NotAMove" "NotAPoint" false, isB "NotAMove" "NotAMove" true, isB "NotAMove" "TooMany" false, isB "NotAMove" "UnlikeSizes" false, isB "NotAMove" "RepeatedPoint" false, isB "NotAMove" "BadText" false, isB "NotAMove" "NotMade" false, isB "NotAMove" "NotTight" false, isB "NotAMove" "NotFull" false, isB "NotAMove" "NotAFailing" false, isB "NotAMove" "NotNeighbours" false, isB "NotAMove" "NotShorter" false, isB "NotAMove" "SameLength" false, isB "NotAMove" "NoSuchLength" false, isB "NotAMove" "NotAnOrder" false, isB "NotAMove" "NotAChain" false, isB "NotAMove" "NotABase" false, isB "NotAMove" "NotInside" false, isB "NotAMove" "OrderMatters" false, isB "NotAMove" "FullLot" false, isB "NotAMove" "NotAWord" false, isB "NotAMove" "NotAColumn" false, isB "NotAMove" "NotACount" false, isB "NotAMove" "GameOver" false, isB "NotAMove" "NotAllowed" false, isB "NotAMove" "NothingToUndo" false, isB "NotAMove" "NothingToRedo" false, isB "NotAMove" "NothingKept" false, isB "NotAMove" "BadEdit" false, isB "NotAMove" "UnknownName" false, isB "NotAMove" "NotAPaper" false, isB "NotAMove" "HeldorderError" true, hnB "NotAMove" "HeldorderError" true, ivB "NotAMove", xiB "NotAMove" ["index"], ecB "TooMany", isB "TooMany" "BadNumber" false] : List (PySem.W.Frag → Bool)) ++ ([isB "TooMany" "NotAPoint" false, isB "TooMany" "NotAMove" false, isB "TooMany" "TooMany" true, isB "TooMany" "UnlikeSizes" false, isB "TooMany" "RepeatedPoint" false, isB "TooMany" "BadText" false, isB "TooMany" "NotMade" false, isB "TooMany" "NotTight" false, isB "TooMany" "NotFull" false, isB "TooMany" "NotAFailing" false, isB "TooMany" "NotNeighbours" false, isB "TooMany" "NotShorter" false, isB "TooMany" "SameLength" false, isB "TooMany" "NoSuchLength" false, isB "TooMany" "NotAnOrder" false, isB "TooMany" "NotAChain" false, isB "TooMany" "NotABase" false, isB "TooMany" "NotInside" false, isB "TooMany" "OrderMatters" false, isB "TooMany" "FullLot" false, isB "TooMany" "NotAWord" false, isB "TooMany" "NotAColumn" false, isB "TooMany" "NotACount" false, isB "TooMany" "GameOver" false, isB "TooMany" "NotAllowed" false, isB "TooMany" "NothingToUndo" false, isB "TooMany" "NothingToRedo" false, isB "TooMany" "NothingKept" false, isB "TooMany" "BadEdit" false, isB "TooMany" "UnknownName" false, isB "TooMany" "NotAPaper" false, isB "TooMany" "HeldorderError" true, hnB "TooMany" "HeldorderError" true, ivB "TooMany", xiB "TooMany" ["what", "limit"]] : List (PySem.W.Frag → Bool))
abbrev rowL : PySem.W.OpenRow := PySem.W.OpenLaw.row PySem.Challenge.rw_heldorder_k09_worlds_refused
abbrev hkL : PySem.W.Hook := hookW faL fnL exL
def obL (s : PySem.W.SharedT) : He.AlD := obsWG faL fnL exL (HandSHeadRun.getT s)
theorem obL_eq (s : PySem.W.SharedT) : obL s = hkL.obs s.abs := obsWG_eq (HandSHeadRun.getT_eq s)
def looseL : List Str := ([("is_number" : Str), ("is_point" : Str), ("is_move_on" : Str), ("check_number" : Str), ("check_points" : Str), ("check_moves" : Str), ("carry" : Str), ("still_move" : Str), ("best_words" : Str), ("make_all" : Str)] : List (Str)) ++ ([("_next_layer" : Str), ("_law_store" : Str), ("_law_mixed" : Str), ("_law_take" : Str), ("_law_pick" : Str), ("_law_place" : Str), ("_law_drawn" : Str), ("_law_either" : Str), ("_law_bad_number" : Str), ("_law_is_whole" : Str)] : List (Str)) ++ ([("_law_same" : Str), ("_law_frozen" : Str), ("_law_after" : Str), ("_law_renamed" : Str), ("_law_move" : Str), ("_law_move_fits" : Str), ("_law_group" : Str), ("_law_cut" : Str), ("_law_block_moves" : Str), ("_law_limit_world" : Str)] : List (Str)) ++ ([("_law_alone" : Str), ("_law_refusal" : Str), ("_law_no_move" : Str), ("_law_due" : Str), ("_law_made" : Str), ("_law_world_made" : Str), ("_law_fair" : Str), ("_law_told_moves" : Str), ("_law_more" : Str), ("HeldorderError" : Str)] : List (Str)) ++ ([("BadNumber" : Str), ("NotAPoint" : Str), ("NotAMove" : Str), ("TooMany" : Str), ("UnlikeSizes" : Str), ("RepeatedPoint" : Str), ("BadText" : Str), ("NotMade" : Str), ("NotTight" : Str), ("NotFull" : Str)] : List (Str)) ++ ([("NotAFailing" : Str), ("NotNeighbours" : Str), ("NotShorter" : Str), ("SameLength" : Str), ("NoSuchLength" : Str), ("NotAnOrder" : Str), ("NotAChain" : Str), ("NotABase" : Str), ("NotInside" : Str), ("OrderMatters" : Str)] : List (Str)) ++ ([("FullLot" : Str), ("NotAWord" : Str), ("NotAColumn" : Str), ("NotACount" : Str), ("GameOver" : Str), ("NotAllowed" : Str), ("NothingToUndo" : Str), ("NothingToRedo" : Str), ("NothingKept" : Str), ("BadEdit" : Str)] : List (Str)) ++ ([("UnknownName" : Str), ("NotAPaper" : Str), ("World" : Str), ("MOST_POINTS" : Str), ("MOST_TOLD" : Str), ("MOST_MADE" : Str)] : List (Str))
noncomputable def endL (w : World) (os : OsState) : Option PySem.W.SharedT := HandSHeadRun.endF (HandSHeadRun.stepQ (HandSHeadRun.denQ HandSHeadRun.tabQ) rowL.prog w) 12000 rowL.prog w os
def frL (s : PySem.W.SharedT) : PySem.W.Frag := He.frG (HandSHeadRun.getT s) (asW (HandSHeadRun.getT s))
theorem tp_seen (w : World) (os : OsState) : (endL w os).map (fun s => (HandSHeadRun.looksF rowL.prog (PySem.W.boot_heap w.params) s.abs, HandSHeadRun.seenQ (PySem.W.view rowL.prog [81]) looseL (importedModules rowL.prog.main.body) (fun s => PySem.W.xlAt (PySem.W.view rowL.prog [81]) [] s && PySem.W.recOk rowL.toRowW.records s) s.abs)) = some (true, PySem.W.openGood (PySem.W.view rowL.prog [81]) looseL) := by
  kernel_rfl
theorem tp_fa (w : World) (os : OsState) : (endL w os).map (fun s => (faL.all fun f => f.ok (frL s)) && exL.all fun e => e (frL s)) = some true := by
  kernel_rfl
theorem tp_fn0 (w : World) (os : OsState) : (endL w os).map (fun s => fnL0.all fun d => d.ok (frL s)) = some true := by
  kernel_rfl
theorem tp_fn1 (w : World) (os : OsState) : (endL w os).map (fun s => fnL1.all fun d => d.ok (frL s)) = some true := by
  kernel_rfl
theorem tp_at (w : World) (os : OsState) : (endL w os).map (fun s => fnL.map fun d => He5.fnA (frL s) (d.at_ (frL s))) = some (fnL.map He5.DefA.val) := by
  kernel_rfl
theorem tp_fn (w : World) (os : OsState) : (endL w os).map (fun s => fnL.all fun d => d.ok (frL s)) = some true := by
  have a0 := tp_fn0 w os
  have a1 := tp_fn1 w os
  cases e : endL w os with
  | none =>
    rw [e] at a0
    cases a0
  | some s =>
    rw [e, Option.map_some] at a0 a1
    rw [Option.map_some]
    have b0 := Option.some.inj a0
    have b1 := Option.some.inj a1
    rw [show fnL = fnL0 ++ (fnL1) from rfl]
    simp only [List.all_append]
    rw [b0, b1]
    first | rfl | done
theorem obL_parts (s : PySem.W.SharedT) : obL s = ((((faL.all fun f => f.ok (frL s)) && (fnL.all fun d => d.ok (frL s))) && exL.all fun e => e (frL s)), fnL.map fun d => He5.fnA (frL s) (d.at_ (frL s))) := rfl
theorem runL (w : World) : HandSHeadRun.RunEq rowL (PySem.W.view rowL.prog [81]) hkL obL 12000 looseL w := fun os => by
  have h1 := tp_seen w os
  have h2 := tp_fa w os
  have h3 := tp_fn w os
  have h4 := tp_at w os
  show (endL w os).map _ = _
  cases e : endL w os with
  | none =>
    rw [e] at h1
    cases h1
  | some s =>
    rw [e, Option.map_some] at h1 h2 h3 h4
    have k1 := Option.some.inj h1
    have k2 := Option.some.inj h2
    have k3 := Option.some.inj h3
    have k4 := Option.some.inj h4
    rw [Bool.and_eq_true] at k2
    rw [Option.map_some, obL_parts, k2.1, k2.2, k3, k4]
    rw [Prod.mk.injEq] at k1
    rw [k1.1, k1.2]
    rfl

section
variable {P : Program} {w : World} {K : PySem.W.Frag} {mg : Str → Option Value} {base : Heap}

theorem ok_mixed (Z : Zs mg) (D : Ds K mg) : Cal P w K mg base "_law_mixed" 1 ["seed", "turn"] spMixed := by
  refine Def.cal D.d_law_mixed sc_law_mixed (fun vs H Q E h => ?_) (fun f cdv A outer s H vs Q E hr h => ?_)
  · obtain ⟨a, b, rfl, q⟩ := h
    rfl
  obtain ⟨a, b, rfl, q⟩ := h
  refine ⟨_, (pss_cons (ps_set (i := 2) sc_law_mixed.nd rfl (Or.inl rfl) (pe_op op_mod (pe_callTy call_int1 (by rfl) Z.z_int (by decide +kernel) (pa_cons (pe_op op_add (pe_op op_add (pe_op op_mul (pv 0) pe_int) (pe_op op_mul (pv 1) pe_int)) pe_int) pa_nil)) pe_int))
      (pss_cons (ps_set (i := 3) sc_law_mixed.nd rfl (Or.inl rfl) (pe_op op_mod (pe_callTy call_int1 (by rfl) Z.z_int (by decide +kernel) (pa_cons (pe_op op_add (pe_op op_add (pe_op op_mul (pv 2) (pv 2)) (pe_op op_mul (pv 0) pe_int)) (pv 1)) pa_nil)) pe_int))
      (pss_one (ps_ret (pe_op op_mod (pe_callTy call_int1 (by rfl) Z.z_int (by decide +kernel) (pa_cons (pe_op op_add (pe_op op_mul (pv 3) (pv 3)) (pv 2)) pa_nil)) pe_int))))), ?_⟩
  have c1 : CMul a 48271 := .inr ⟨by omega, by omega⟩
  have c2 : CMul b 69621 := .inr ⟨by omega, by omega⟩
  refine ⟨_, rfl, _, _, rfl, rfl, c1, _, rfl, _, _, rfl, rfl, c2, _, _, rfl, rfl, _, _, rfl, rfl, .inl ⟨_, rfl, _, _, rfl, rfl, (by omega), ?_⟩⟩
  obtain ⟨f1, e1⟩ : ∃ f1, f1 = (a * 48271 + b * 69621 + 1013904223) % 2147483647 := ⟨_, rfl⟩
  have b1 : 0 ≤ f1 ∧ f1 < 2147483647 := by omega
  have c3 : CMul f1 f1 := .inl ⟨by omega, by omega⟩
  have c4 : CMul a 7 := .inr ⟨by omega, by omega⟩
  rw [show (fun i j => V.int (i % j)) (a * 48271 + b * 69621 + 1013904223) 2147483647 = V.int f1 from congrArg V.int e1.symm]
  refine ⟨_, rfl, _, rfl, _, _, rfl, rfl, c3, _, rfl, _, _, rfl, rfl, c4, _, _, rfl, rfl, _, rfl, _, _, rfl, rfl, .inl ⟨_, rfl, _, _, rfl, rfl, (by omega), ?_⟩⟩
  obtain ⟨f2, e2⟩ : ∃ f2, f2 = (f1 * f1 + a * 7 + b) % 2147483563 := ⟨_, rfl⟩
  have b2 : 0 ≤ f2 ∧ f2 < 2147483563 := by omega
  have c5 : CMul f2 f2 := .inl ⟨by omega, by omega⟩
  rw [show (fun i j => V.int (i % j)) (f1 * f1 + a * 7 + b) 2147483563 = V.int f2 from congrArg V.int e2.symm]
  refine ⟨_, rfl, _, rfl, _, _, rfl, rfl, c5, _, rfl, _, _, rfl, rfl, .inl ⟨_, rfl, _, _, rfl, rfl, (by omega), ?_⟩⟩
  exact q _
theorem ok_take (Z : Zs mg) (D : Ds K mg) (c__law_mixed : Cal P w K mg base "_law_mixed" 1 ["seed", "turn"] spMixed) : Cal P w K mg base "_law_take" 2 ["store", "many"] spTake := by
  refine Def.cal D.d_law_take sc_law_take (fun vs H Q E h => ?_) (fun f cdv A outer s H vs Q E hr h => ?_)
  · obtain ⟨S, G, n, rfl, wd, hn, q⟩ := h
    rfl
  obtain ⟨S, G, n, rfl, wd, hn, q⟩ := h
  refine ⟨_, (pss_cons (ps_if (pt_cmp (pc_lt (pv 1) pe_int) (nomark _)) (pss_one (ps_ret pe_int)) pss_nil)
      (Evl.pss_cut (ps_if (PW.pt (pw_and (pt_cmp (pc_lt (pe_ix ix_list (pv 0) pe_int (fun _ _ => rfl)) pe_int) (nomark _)) (pw_and (pt_cmp (pc_eqI (pe_ix ix_list (pv 0) pe_int (fun _ _ => rfl)) pe_int) (nomark _)) (pw_and1 (pt_cmp (pc_lt (pe_ix ix_list (pv 0) pe_int (fun _ _ => rfl)) (pe_callB call_len_seq (by rfl) Z.z_len (by decide +kernel) (pa_cons (pe_ix ix_list (pv 0) pe_int (fun _ _ => rfl)) pa_nil))) (nomark _)))))) (pss_cons (ps_set (i := 2) sc_law_take.nd rfl (Or.inl rfl) (pe_ix ix_list (pe_ix ix_list (pv 0) pe_int (fun _ _ => rfl)) (pe_ix ix_list (pv 0) pe_int (fun _ _ => rfl)) (fun _ _ => rfl)))
      (pss_cons (ps_asg (pe_op op_add (pe_ix ix_list (pv 0) pe_int (fun _ _ => rfl)) pe_int) (pg_sub (pv 0) pe_int set_listN))
      (pss_cons (ps_asg (pe_op op_mod (pe_callTy call_int1 (by rfl) Z.z_int (by decide +kernel) (pa_cons (pe_op op_add (pe_op op_add (pe_op op_mul (pe_ix ix_list (pv 0) pe_int (fun _ _ => rfl)) pe_int) (pe_op op_mod (pe_callTy call_int1 (by rfl) Z.z_int (by decide +kernel) (pa_cons (pv 2) pa_nil)) pe_int)) pe_int) pa_nil)) pe_int) (pg_sub (pv 0) pe_int set_listN))
      (pss_one (ps_if (pt_cmp (pc_ge (pv 2) (pe_op op_pow pe_int pe_int)) (nomark _)) (pss_one (ps_asg (pv 2) (pg_sub (pv 0) pe_int set_listN))) (pss_cons (ps_asg pe_int (pg_sub (pv 0) pe_int set_listN))
      (pss_one (ps_asg (pe_op op_mod (pe_callTy call_int1 (by rfl) Z.z_int (by decide +kernel) (pa_cons (pv 2) pa_nil)) pe_int) (pg_sub (pv 0) pe_int set_listN))))))))) pss_nil)
      (pss_cons (ps_if (pt_cmp (pc_ge (pe_ix ix_list (pv 0) pe_int (fun _ _ => rfl)) pe_int) (nomark _)) (pss_cons (ps_set (i := 3) sc_law_take.nd rfl (Or.inl rfl) (pe_op op_mod (pe_callTy call_int1 (by rfl) Z.z_int (by decide +kernel) (pa_cons (pe_ix ix_list (pv 0) pe_int (fun _ _ => rfl)) pa_nil)) (pv 1)))
      (pss_cons (ps_asg (pe_op op_fdiv (pe_ix ix_list (pv 0) pe_int (fun _ _ => rfl)) (pv 1)) (pg_sub (pv 0) pe_int set_listN))
      (pss_one (ps_ret (pv 3))))) pss_nil)
      (pss_cons (ps_asg (pe_op op_add (pe_ix ix_list (pv 0) pe_int (fun _ _ => rfl)) pe_int) (pg_sub (pv 0) pe_int set_listN))
      (pss_cons (ps_if (pt_cmp (pc_gt (pe_ix ix_list (pv 0) pe_int (fun _ _ => rfl)) pe_int) (nomark _)) (pss_cons (ps_asg (pe_op op_sub (pe_ix ix_list (pv 0) pe_int (fun _ _ => rfl)) pe_int) (pg_sub (pv 0) pe_int set_listN))
      (pss_one (ps_ret (pe_op op_mod (pe_callTy call_int1 (by rfl) Z.z_int (by decide +kernel) (pa_cons (pe_cal c__law_mixed (hr.mono (by first | decide | omega)) (by rfl) (pa_cons (pe_ix ix_list (pv 0) pe_int (fun _ _ => rfl)) (pa_cons (pe_ix ix_list (pv 0) pe_int (fun _ _ => rfl)) pa_nil))) pa_nil)) (pv 1))))) pss_nil)
      (pss_one (ps_ret (pe_op op_mod (pe_callTy call_int1 (by rfl) Z.z_int (by decide +kernel) (pa_cons (pe_cal c__law_mixed (hr.mono (by first | decide | omega)) (by rfl) (pa_cons (pe_ix ix_list (pv 0) pe_int (fun _ _ => rfl)) (pa_cons (pe_ix ix_list (pv 0) pe_int (fun _ _ => rfl)) pa_nil))) pa_nil)) (pv 1))))))))), ?_⟩
  refine ⟨_, rfl, _, _, rfl, rfl, _, rfl, ite2 (fun c => ?_) (fun c => ?_)⟩
  · have c := dec_of c
    exact q 0 H (by omega) (by omega) (.refl wd)
  have c := dec_not c
  refine ⟨fun σ' H' => ∃ y2, σ' = [some (.ref S.a), some (.int n), y2, none] ∧ Go S G H G H', ?_, ?_⟩
  · obtain ⟨i1, i2, i3, i4, i5, i6, h1, h2, z⟩ := wd.st
    refine ⟨_, rfl, S.a, _, 2, .int i2, rfl, rfl, .of h1, rfl, _, _, rfl, rfl, _, rfl, ite2 (fun c2 => ?_) (fun c2 => iteF ⟨none, rfl, .refl wd⟩)⟩
    refine ⟨_, rfl, S.a, _, 3, .int i3, rfl, rfl, .of h1, rfl, _, _, rfl, rfl, _, rfl, ite2 (fun c3 => ?_) (fun c3 => iteF ⟨none, rfl, .refl wd⟩)⟩
    refine ⟨_, rfl, S.a, _, 1, .int i1, rfl, rfl, .of h1, rfl, _, rfl, S.a, _, 0, .ref S.c, rfl, rfl, .of h1, rfl, _, _, rfl, .inl (.of h2), _, _, rfl, rfl, _, rfl, ite2 (fun c1 => ?_) (fun c1 => ⟨none, rfl, .refl wd⟩)⟩
    have c1 : i1 < ((S.ns.map V.int).length : Nat) := dec_of c1
    rw [List.length_map] at c1
    have k1 : i1.toNat < S.ns.length := by omega
    have a1 : atI (S.ns.map V.int) i1 = some (.int S.ns[i1.toNat]) := by
      have q := atI_nat (xs := S.ns.map V.int) (j := i1.toNat) (v := .int S.ns[i1.toNat]) (by rw [List.getElem?_map, List.getElem?_eq_getElem k1]; rfl)
      rwa [show ((i1.toNat : Nat) : Int) = i1 by omega] at q
    generalize S.ns[i1.toNat] = x at a1
    -- cell = store[0][store[1]]; store[1] = store[1] + 1
    refine ⟨_, rfl, S.a, _, 0, .ref S.c, rfl, rfl, .of h1, rfl, _, rfl, S.a, _, 1, .int i1, rfl, rfl, .of h1, rfl, S.c, _, i1, .int x, rfl, rfl, .of h2, a1, ?_⟩
    refine ⟨_, rfl, S.a, _, 1, .int i1, rfl, rfl, .of h1, rfl, _, _, rfl, rfl, _, rfl, S.a, _, 1, rfl, rfl, h1, (by show 1 < 7; decide), fun H1 e1 => ?_⟩
    have s1 : Go S G H G H1 := (Go.refl wd).put e1 (by omega)
    have h1 : H1 S.a = _ := upd_at e1
    have m5 : CMul i5 31 := .inr ⟨by omega, by omega⟩
    refine ⟨_, rfl, S.a, _, 5, .int i5, rfl, rfl, .of h1, rfl, _, _, rfl, rfl, m5, _, rfl, .inl ⟨_, rfl, _, _, rfl, rfl, (by omega), _, _, rfl, rfl, _, _, rfl, rfl, .inl ⟨_, rfl, _, _, rfl, rfl, (by omega), ?_⟩⟩⟩
    refine ⟨_, rfl, S.a, _, 5, rfl, rfl, h1, (by show 5 < 7; decide), fun H2 e2 => ?_⟩
    have s1 : Go S G H G H2 := s1.put e2 (by omega)
    have h1 : H2 S.a = _ := upd_at e2
    refine ⟨_, rfl, _, _, rfl, rfl, ⟨by omega, by omega, by decide⟩, _, _, rfl, rfl, _, rfl, ite2 (fun c => ?_) (fun c => ?_)⟩
    · refine ⟨_, rfl, _, rfl, S.a, _, 2, rfl, rfl, h1, (by show 2 < 7; decide), fun H3 e3 => ?_⟩
      exact ⟨_, rfl, s1.put e3 (by omega)⟩
    · refine ⟨_, rfl, S.a, _, 3, rfl, rfl, h1, (by show 3 < 7; decide), fun H3 e3 => ?_⟩
      have s1 : Go S G H G H3 := s1.put e3 (by omega)
      have h1 : H3 S.a = _ := upd_at e3
      refine ⟨_, rfl, .inl ⟨_, rfl, _, _, rfl, rfl, (by omega), _, rfl, S.a, _, 6, rfl, rfl, h1, (by show 6 < 7; decide), fun H4 e4 => ?_⟩⟩
      exact ⟨_, rfl, s1.put e4 (by omega)⟩
  · rintro σ' H1 ⟨y2, rfl, s1⟩
    obtain ⟨i1, i2, i3, i4, i5, i6, h1, h2, z⟩ := s1.st
    refine ⟨_, rfl, S.a, _, 2, .int i2, rfl, rfl, .of h1, rfl, _, _, rfl, rfl, _, rfl, ite2 (fun c2 => ?_) (fun c2 => ?_)⟩
    · refine ⟨_, rfl, S.a, _, 2, .int i2, rfl, rfl, .of h1, rfl, .inl ⟨_, rfl, _, rfl, _, _, rfl, rfl, (by omega), ?_⟩⟩
      refine ⟨_, rfl, S.a, _, 2, .int i2, rfl, rfl, .of h1, rfl, _, rfl, _, _, rfl, rfl, ⟨by omega, by omega⟩, _, rfl, S.a, _, 2, rfl, rfl, h1, (by show 2 < 7; decide), fun H2 e2 => ?_⟩
      have s1 : Go S G H G H2 := s1.put e2 (by omega)
      refine ⟨_, rfl, ?_⟩
      exact q _ _ (Int.emod_nonneg _ (by omega)) (.inl (Int.emod_lt_of_pos _ (by omega))) s1
    refine ⟨_, rfl, S.a, _, 4, .int i4, rfl, rfl, .of h1, rfl, _, _, rfl, rfl, _, rfl, S.a, _, 4, rfl, rfl, h1, (by show 4 < 7; decide), fun H2 e2 => ?_⟩
    have s1 : Go S G H G H2 := s1.put e2 (by omega)
    have h1 : H2 S.a = _ := upd_at e2
    refine ⟨_, rfl, S.a, _, 3, .int i3, rfl, rfl, .of h1, rfl, _, _, rfl, rfl, _, rfl, ite2 (fun c3 => ?_) (fun c3 => ?_)⟩
    · refine ⟨_, rfl, S.a, _, 3, .int i3, rfl, rfl, .of h1, rfl, _, _, rfl, rfl, _, rfl, S.a, _, 3, rfl, rfl, h1, (by show 3 < 7; decide), fun H3 e3 => ?_⟩
      have s1 : Go S G H G H3 := s1.put e3 (by omega)
      have h1 : H3 S.a = _ := upd_at e3
      refine ⟨_, rfl, S.a, _, 6, .int i6, rfl, rfl, .of h1, rfl, _, rfl, S.a, _, 4, _, rfl, rfl, .of h1, rfl, _, _, rfl, fun r => ?_⟩
      refine .inl ⟨_, rfl, _, rfl, _, _, rfl, rfl, (by omega), ?_⟩
      exact q _ _ (Int.emod_nonneg _ (by omega)) (.inl (Int.emod_lt_of_pos _ (by omega))) s1
    · refine ⟨_, rfl, S.a, _, 5, .int i5, rfl, rfl, .of h1, rfl, _, rfl, S.a, _, 4, _, rfl, rfl, .of h1, rfl, _, _, rfl, fun r => ?_⟩
      refine .inl ⟨_, rfl, _, rfl, _, _, rfl, rfl, (by omega), ?_⟩
      exact q _ _ (Int.emod_nonneg _ (by omega)) (.inl (Int.emod_lt_of_pos _ (by omega))) s1


theorem ok_pick (Z : Zs mg) (D : Ds K mg) (c__law_take : Cal P w K mg base "_law_take" 2 ["store", "many"] spTake) : Cal P w K mg base "_law_pick" 3 ["store", "things"] spPick := by
  refine Def.cal D.d_law_pick sc_law_pick (fun vs H Q E h => ?_) (fun f cdv A outer s H vs Q E hr h => ?_)
  · obtain ⟨S, G, v, xs, rfl, wd, hv, h0, h1, q⟩ := h
    rfl
  obtain ⟨S, G, v, xs, rfl, wd, hv, h0, h1, q⟩ := h
  refine ⟨_, (pss_one (ps_ret (pe_ix ix_seq (pv 1) (pe_cal c__law_take (hr.mono (by first | decide | omega)) (by rfl) (pa_cons (pv 0) (pa_cons (pe_callB call_len (by rfl) Z.z_len (by decide +kernel) (pa_cons (pv 1) pa_nil)) pa_nil))) (fun _ _ => rfl)))), ?_⟩
  rcases hv with ⟨a, rfl, na, ha⟩ | ⟨a, rfl, na, ha⟩ | ⟨z, rfl, hz, rfl⟩
  · refine ⟨_, rfl, _, rfl, _, rfl, .ref a, xs.length, rfl, .inl ⟨xs, .of ha, rfl⟩, S, G, _, rfl, wd, by omega, fun d H1 p0 p1 s1 => ?_⟩
    obtain ⟨x, _, e, m⟩ := at_int (xs := xs) p0 (by omega)
    exact .inl ⟨a, xs, d, x, rfl, rfl, .of (s1.hh ha na), e, q _ _ m s1⟩
  · refine ⟨_, rfl, _, rfl, _, rfl, .ref a, xs.length, rfl, .inr ⟨xs, .of ha, rfl⟩, S, G, _, rfl, wd, by omega, fun d H1 p0 p1 s1 => ?_⟩
    obtain ⟨x, _, e, m⟩ := at_int (xs := xs) p0 (by omega)
    exact .inr (.inl ⟨a, xs, d, x, rfl, rfl, .of (s1.hh ha na), e, q _ _ m s1⟩)
  · have hl : z.cps.toList.length = z.length := Array.length_toList
    rw [List.length_map, hl] at h0 h1
    refine ⟨_, rfl, _, rfl, _, rfl, .str z, z.length, rfl, ⟨ln (by omega), rfl⟩, S, G, _, rfl, wd, by omega, fun d H1 p0 p1 s1 => ?_⟩
    obtain ⟨c, e, g⟩ := at_str (z := z) p0 (by omega)
    exact .inr (.inr ⟨z, d, c, rfl, rfl, ln (by omega), e, q _ _ (List.mem_map.mpr ⟨c, List.mem_of_getElem? g, rfl⟩) s1⟩)
theorem ok_place (Z : Zs mg) (D : Ds K mg) (c__law_take : Cal P w K mg base "_law_take" 2 ["store", "many"] spTake) : Cal P w K mg base "_law_place" 3 ["store", "size"] spPlace := by
  refine Def.cal D.d_law_place sc_law_place (fun vs H Q E h => ?_) (fun f cdv A outer s H vs Q E hr h => ?_)
  · obtain ⟨S, G, n, rfl, wd, h1, hn, q⟩ := h
    rfl
  obtain ⟨S, G, n, rfl, wd, h1, hn, q⟩ := h
  refine ⟨_, (pss_cons (ps_set (i := 2) sc_law_place.nd rfl (Or.inl rfl) (pe_cal c__law_take (hr.mono (by first | decide | omega)) (by rfl) (pa_cons (pv 0) (pa_cons pe_int pa_nil))))
      (pss_cons (ps_if (pt_cmp (pc_eqI (pv 2) pe_int) (nomark _)) (pss_one (ps_ret pe_int)) pss_nil)
      (pss_cons (ps_if (pt_cmp (pc_eqI (pv 2) pe_int) (nomark _)) (pss_one (ps_ret (pe_op op_sub (pv 1) pe_int))) pss_nil)
      (pss_one (ps_ret (pe_cal c__law_take (hr.mono (by first | decide | omega)) (by rfl) (pa_cons (pv 0) (pa_cons (pv 1) pa_nil)))))))), ?_⟩
  refine ⟨_, rfl, S, G, 6, rfl, wd, by omega, fun d1 H1 p0 p1 s1 => ?_⟩
  refine ⟨_, rfl, _, _, rfl, rfl, _, rfl, ite2 (fun c => q _ _ (by omega) (by omega) s1) (fun c => ?_)⟩
  refine ⟨_, rfl, _, _, rfl, rfl, _, rfl, ite2 (fun c => ⟨_, rfl, _, _, rfl, rfl, q _ _ (by omega) (by omega) s1⟩) (fun c => ?_)⟩
  exact ⟨_, rfl, _, rfl, S, G, n, rfl, s1.wd, hn, fun d2 H2 r0 r1 s2 => q _ _ (by omega) (by omega) (s1.trans s2)⟩
theorem ok_drawn (Z : Zs mg) (D : Ds K mg) (c__law_take : Cal P w K mg base "_law_take" 2 ["store", "many"] spTake) : Cal P w K mg base "_law_drawn" 3 ["store", "things", "many"] spDrawn := by
  refine Def.cal D.d_law_drawn sc_law_drawn (fun vs H Q E h => ?_) (fun f cdv A outer s H vs Q E hr h => ?_)
  · obtain ⟨S, G, a, xs, n, rfl, wd, ha, hx, h0, h1, q⟩ := h
    rfl
  obtain ⟨S, G, a, xs, n, rfl, wd, ha, hx, h0, h1, q⟩ := h
  refine ⟨_, (pss_cons (ps_set (i := 3) sc_law_drawn.nd rfl (Or.inl rfl) (pe_callTy call_listN (by rfl) Z.z_list (by decide +kernel) (pa_cons (pv 1) pa_nil)))
      (pss_cons (ps_set (i := 4) sc_law_drawn.nd rfl (Or.inl rfl) (pe_lstN pa_nil))
      (pss_cons (ps_for PassesOwn.never rfl (pi_range1 (by rfl) Z.z_range (pa_cons (pe_callB (call_min2 rfl) (by rfl) Z.z_min (by decide +kernel) (pa_cons (pv 2) (pa_cons (pe_callB call_len_seq (by rfl) Z.z_len (by decide +kernel) (pa_cons (pv 3) pa_nil)) pa_nil))) pa_nil)) (pg_name (i := 5) sc_law_drawn.nd rfl (Or.inl rfl)) (pss_cons (ps_set (i := 6) sc_law_drawn.nd rfl (Or.inl rfl) (pe_cal c__law_take (hr.mono (by first | decide | omega)) (by rfl) (pa_cons (pv 0) (pa_cons (pe_callB call_len_seq (by rfl) Z.z_len (by decide +kernel) (pa_cons (pv 3) pa_nil)) pa_nil))))
      (pss_one (ps_expr (pe_bm PySem.F.plainAttrs_list PySem.F.slot_list_append PySem.F.type_list_append mt_appendN (pv 4) (pa_cons (pe_bm PySem.F.plainAttrs_list PySem.F.slot_list_pop PySem.F.type_list_pop mt_popAtN (pv 3) (pa_cons (pv 6) pa_nil)) pa_nil))))))
      (pss_one (ps_ret (pv 4)))))), ?_⟩
  refine ⟨_, rfl, a, xs, rfl, ha.len, fun p H1 n1 => ?_⟩
  obtain ⟨s1, gp, hp, fp⟩ := (Go.refl wd).loc n1
  refine ⟨Nat.zero_le _, fun l H2 n2 => ?_⟩
  obtain ⟨s2, gl, hl, fl⟩ := s1.loc n2
  have hp := n2.else hp
  have npl : p ≠ l := n2.ne (ne_none (n1.at))
  refine ⟨_, rfl, _, rfl, p, xs, rfl, .inl (.of hp), _, _, rfl, _, rfl, ?_⟩
  have em : (if ((xs.length : Nat) : Int) < n then ((xs.length : Nat) : Int) else n) = ((min n.toNat xs.length : Nat) : Int) := by split <;> omega
  rw [em]
  refine ⟨by omega, by omega, for_range (lo := 0) (n := ((min n.toNat xs.length : Nat) : Int).toNat) (fun i σ' H' => ∃ ys ps y5 y6, σ' = [some (.ref S.a), some (.ref a), some (.int n), some (.ref p), some (.ref l), y5, y6] ∧
    Go S G H G H' ∧ H' p = some (.lst ps) ∧ H' l = some (.lst ys) ∧ (ys ++ ps).Perm xs ∧ ys.length = i) ⟨[], xs, none, none, rfl, s2, hp, hl, .refl _, rfl⟩ ?_ ?_⟩
  · rintro i σ' H3 hi ⟨ys, ps, y5, y6, rfl, s3, hp, hl, pm, rfl⟩
    have lp : ys.length + ps.length = xs.length := by
      have := pm.length_eq
      rwa [List.length_append] at this
    refine ⟨_, rfl, _, rfl, p, ps, rfl, .inl (.of hp), S, G, _, rfl, s3.wd, by omega, fun d H4 p0 p1 s4 => ?_⟩
    have hp := s4.hh hp (s3.ns fp)
    have hl := s4.hh hl (s3.ns fl)
    have s4 := s3.trans s4
    obtain ⟨x, e, _, _⟩ := at_int (xs := ps) p0 (by omega)
    refine ⟨_, rfl, .inl ⟨rfl, _, .of hl⟩, _, rfl, .inl ⟨rfl, _, .of hp⟩, _, rfl, p, ps, d, d.toNat, x, rfl, rfl, hp, by omega, by omega, e, fun H5 e5 => ?_⟩
    have s5 := s4.mut gp fp e5
    have hl := upd_else e5 hl npl.symm
    have hp := upd_at e5
    refine ⟨l, ys, x, rfl, rfl, hl, lt (by omega), fun H6 e6 => ?_⟩
    have s6 := s5.mut gl fl e6
    have hp := upd_else e6 hp npl
    refine ⟨ys ++ [x], ps.eraseIdx d.toNat, _, _, rfl, s6, hp, upd_at e6, ?_, by rw [List.length_append]; rfl⟩
    refine List.Perm.trans ?_ pm
    rw [List.append_assoc]
    refine List.Perm.append_left ys ?_
    exact (perm_erase e).symm
  · rintro σ' H3 ⟨ys, ps, y5, y6, rfl, s3, hp, hl, pm, hy⟩
    exact ⟨_, rfl, q l ys ps H3 s3 gl fl hl pm (by omega)⟩
theorem ok_either (Z : Zs mg) (D : Ds K mg) (c__law_take : Cal P w K mg base "_law_take" 2 ["store", "many"] spTake) : Cal P w K mg base "_law_either" 3 ["store", "entries"] spEither := by
  refine Def.cal D.d_law_either sc_law_either (fun vs H Q E h => ?_) (fun f cdv A outer s H vs Q E hr h => ?_)
  · obtain ⟨S, G, a, xs, rfl, wd, na, ha, q⟩ := h
    rfl
  obtain ⟨S, G, a, xs, rfl, wd, na, ha, q⟩ := h
  refine ⟨_, (pss_cons (ps_if (pt_cmp (pc_eqI (pe_cal c__law_take (hr.mono (by first | decide | omega)) (by rfl) (pa_cons (pv 0) (pa_cons pe_int pa_nil))) pe_int) (nomark _)) (pss_one (ps_ret (pe_callTy call_tupleN (by rfl) Z.z_tuple (by decide +kernel) (pa_cons (pv 1) pa_nil)))) pss_nil)
      (pss_one (ps_ret (pe_callTy call_listN (by rfl) Z.z_list (by decide +kernel) (pa_cons (pv 1) pa_nil))))), ?_⟩
  refine ⟨_, rfl, S, G, 2, rfl, wd, by omega, fun d1 H1 p0 p1 s1 => ?_⟩
  have ha := s1.hh ha na
  refine ⟨_, _, rfl, rfl, _, rfl, ite2 (fun c => ?_) (fun c => ?_)⟩
  · refine ⟨_, rfl, a, xs, rfl, .of ha, fun p H2 n2 => ?_⟩
    obtain ⟨s2, gp, hp, fp⟩ := s1.loc n2
    exact q p true H2 s2 gp fp hp
  · refine ⟨_, rfl, a, xs, rfl, .inl (.of ha), fun p H2 n2 => ?_⟩
    obtain ⟨s2, gp, hp, fp⟩ := s1.loc n2
    exact q p false H2 s2 gp fp hp


theorem ok_is_whole (Z : Zs mg) (D : Ds K mg) : Cal P w K mg base "_law_is_whole" 1 ["value"] spIsWhole := by
  refine Def.cal D.d_law_is_whole sc_law_is_whole (fun vs H Q E h => ?_) (fun f cdv A outer s H vs Q E hr h => ?_)
  · obtain ⟨v, d, rfl, hd, q⟩ := h
    rfl
  obtain ⟨v, d, rfl, hd, q⟩ := h
  refine ⟨_, (pss_one (ps_ret (pe_and (pe_callB call_isD (by rfl) Z.z_isinstance (by decide +kernel) (pa_cons (pv 0) (pa_cons (pe_bltn (v := .ty "int") (by rfl) Z.z_int (by decide +kernel) rfl) pa_nil))) (pe_one (pe_not (pe_callB call_isD (by rfl) Z.z_isinstance (by decide +kernel) (pa_cons (pv 0) (pa_cons (pe_bltn (v := .ty "bool") (by rfl) Z.z_bool (by decide +kernel) rfl) pa_nil)))))))), ?_⟩
  rw [← isI_inst d hd.nd] at q
  refine ⟨_, rfl, v, d, "int", rfl, hd, .inl rfl, _, rfl, ?_⟩
  cases e : instB d "int" with
  | true =>
    rw [e] at q
    exact iteT ⟨_, rfl, v, d, "bool", rfl, hd, .inr (.inl rfl), _, rfl, q⟩
  | false =>
    rw [e] at q
    exact iteF q
theorem ok_same (Z : Zs mg) (D : Ds K mg) (c__law_is_whole : Cal P w K mg base "_law_is_whole" 1 ["value"] spIsWhole) : Cal P w K mg base "_law_same" 2 ["actual", "due"] spSame := by
  refine Def.cal D.d_law_same sc_law_same (fun vs H Q E h => ?_) (fun f cdv A outer s H vs Q E hr h => ?_)
  · obtain ⟨G, v, w, d, e, rfl, gh, hd, he, zd, ze, q⟩ := h
    rfl
  obtain ⟨G, v, w, d, e, rfl, gh, hd, he, zd, ze, q⟩ := h
  refine ⟨_, (pss_cons (ps_set (i := 2) sc_law_same.nd rfl (Or.inl rfl) (pe_lstN (pa_cons (pe_tupN (pa_cons (pv 0) (pa_cons (pv 1) pa_nil))) pa_nil)))
      (pss_cons (ps_while PassesOwn.never (pt_cmp (pc_gt (pe_callB call_len_seq (by rfl) Z.z_len (by decide +kernel) (pa_cons (pv 2) pa_nil)) pe_int) (nomark _)) (pss_cons (ps_set (i := 3) sc_law_same.nd rfl (Or.inl rfl) (pe_bm0 PySem.F.plainAttrs_list PySem.F.slot_list_pop PySem.F.type_list_pop mt_popN (pv 2)))
      (pss_cons (ps_set (i := 4) sc_law_same.nd rfl (Or.inl rfl) (pe_ix ix_tup (pv 3) pe_int (fun _ _ => rfl)))
      (pss_cons (ps_set (i := 5) sc_law_same.nd rfl (Or.inl rfl) (pe_ix ix_tup (pv 3) pe_int (fun _ _ => rfl)))
      (pss_one (ps_if (PW.pt (pw_or (pt_cmpR op_isN (pv 5) pe_non (nomark _)) (pw_or (pt_cmpR op_isBD (pv 5) pe_bl (nomark _)) (pw_or1 (pt_cmpR op_isBD (pv 5) pe_bl (nomark _)))))) (pss_one (ps_if (pt_not (PW.pt (pw_or (PW.pt (pw_and (pt_cmpR op_isN (pv 5) pe_non (nomark _)) (pw_and1 (pt_cmpR op_isN (pv 4) pe_non (nomark _))))) (pw_or (PW.pt (pw_and (pt_cmpR op_isBD (pv 5) pe_bl (nomark _)) (pw_and1 (pt_cmpR op_isBD (pv 4) pe_bl (nomark _))))) (pw_or1 (PW.pt (pw_and (pt_cmpR op_isBD (pv 5) pe_bl (nomark _)) (pw_and1 (pt_cmpR op_isBD (pv 4) pe_bl (nomark _)))))))))) (pss_one (ps_ret pe_bl)) pss_nil)) (pss_one (ps_if (pt_val (pe_callB call_isD (by rfl) Z.z_isinstance (by decide +kernel) (pa_cons (pv 5) (pa_cons (pe_bltn (v := .ty "int") (by rfl) Z.z_int (by decide +kernel) rfl) pa_nil)))) (pss_one (ps_if (PW.pt (pw_or (pt_not (pt_val (pe_cal c__law_is_whole (hr.mono (by first | decide | omega)) (by rfl) (pa_cons (pv 4) pa_nil)))) (pw_or1 (pt_cmpR op_ne (pv 4) (pv 5) (nomark _))))) (pss_one (ps_ret pe_bl)) pss_nil)) (pss_one (ps_if (pt_val (pe_callB call_isD (by rfl) Z.z_isinstance (by decide +kernel) (pa_cons (pv 5) (pa_cons (pe_bltn (v := .ty "str") (by rfl) Z.z_str (by decide +kernel) rfl) pa_nil)))) (pss_one (ps_if (PW.pt (pw_or (pt_not (pt_val (pe_callB call_isD (by rfl) Z.z_isinstance (by decide +kernel) (pa_cons (pv 4) (pa_cons (pe_bltn (v := .ty "str") (by rfl) Z.z_str (by decide +kernel) rfl) pa_nil))))) (pw_or1 (pt_cmpR op_ne (pv 4) (pv 5) (nomark _))))) (pss_one (ps_ret pe_bl)) pss_nil)) (Evl.pss_cut (ps_if (PW.pt (pw_and (pt_val (pe_callB call_isD (by rfl) Z.z_isinstance (by decide +kernel) (pa_cons (pv 5) (pa_cons (pe_bltn (v := .ty "tuple") (by rfl) Z.z_tuple (by decide +kernel) rfl) pa_nil)))) (pw_and1 (pt_not (pt_val (pe_callB call_isD (by rfl) Z.z_isinstance (by decide +kernel) (pa_cons (pv 4) (pa_cons (pe_bltn (v := .ty "tuple") (by rfl) Z.z_tuple (by decide +kernel) rfl) pa_nil)))))))) (pss_one (ps_ret pe_bl)) pss_nil)
      (Evl.pss_cut (ps_if (PW.pt (pw_and (pt_val (pe_callB call_isD (by rfl) Z.z_isinstance (by decide +kernel) (pa_cons (pv 5) (pa_cons (pe_bltn (v := .ty "list") (by rfl) Z.z_list (by decide +kernel) rfl) pa_nil)))) (pw_and1 (pt_not (pt_val (pe_callB call_isD (by rfl) Z.z_isinstance (by decide +kernel) (pa_cons (pv 4) (pa_cons (pe_bltn (v := .ty "list") (by rfl) Z.z_list (by decide +kernel) rfl) pa_nil)))))))) (pss_one (ps_ret pe_bl)) pss_nil)
      (pss_cons (ps_if (pt_cmp (pc_neI (pe_callB call_len (by rfl) Z.z_len (by decide +kernel) (pa_cons (pv 4) pa_nil)) (pe_callB call_len (by rfl) Z.z_len (by decide +kernel) (pa_cons (pv 5) pa_nil))) (nomark _)) (pss_one (ps_ret pe_bl)) pss_nil)
      (pss_one (ps_for PassesOwn.never rfl (pi_range1 (by rfl) Z.z_range (pa_cons (pe_callB call_len (by rfl) Z.z_len (by decide +kernel) (pa_cons (pv 5) pa_nil)) pa_nil)) (pg_name (i := 6) sc_law_same.nd rfl (Or.inl rfl)) (pss_one (ps_expr (pe_bm PySem.F.plainAttrs_list PySem.F.slot_list_append PySem.F.type_list_append mt_appendN (pv 2) (pa_cons (pe_tupN (pa_cons (pe_ix ix_seq (pv 4) (pv 6) (fun _ _ => rfl)) (pa_cons (pe_ix ix_seq (pv 5) (pv 6) (fun _ _ => rfl)) pa_nil))) pa_nil)))))))))))))))))))
      (pss_one (ps_ret pe_bl)))), ?_⟩
  refine ⟨_, rfl, _, rfl, by show 2 ≤ sizeLine; decide, fun p H1 n1 => ⟨by show 1 ≤ sizeLine; decide, fun l H2 n2 => ?_⟩⟩
  have s1 : Stq G H G H1 := (Stq.loc gh n1).1
  have fp := n1.fr
  have s2 := (Stq.refl gh).trans (s1.trans (Stq.loc s1.gh n2).1)
  have gl : G l = none := s1.gh.free n2.fr
  have fl : H l = none := s1.hh.free n2.fr
  have hl := n2.at
  have hp := n2.else n1.at
  refine ⟨fun m σ' H' => ∃ (ps : List Pr) (y3 y4 y5 y6 : Option V), σ' = [some v, some w, some (.ref l), y3, y4, y5, y6] ∧ Stq G H G H' ∧ H' l = some (.lst (ps.map fun x => V.ref x.a)) ∧ (∀ x ∈ ps, PairAt G H' x) ∧ sameD d e = allP ps ∧ szP ps = m ∧ m ≤ 4000000,
    ⟨_, [⟨p, v, w, d, e⟩], none, none, none, none, rfl, s2, hl, ?_, ?_, rfl, ?_⟩, ?_⟩
  · intro x hx
    rw [List.mem_singleton.mp hx]
    exact ⟨hp, hd, he⟩
  · rw [allP_one]
  · rw [szP_one]
    show szD d + szD e ≤ 4000000
    omega
  rintro m σ' H3 ⟨ps, y3, y4, y5, y6, rfl, s3, hl, hps, hall, hsz, hm⟩
  have hlen := szP_len ps
  refine ⟨_, rfl, l, _, rfl, .inl (.of hl), _, _, rfl, rfl, _, rfl, ite2 (fun c => ?_) (fun c => ?_)⟩
  · have c : (0 : Int) < ((ps.map fun x => V.ref x.a).length : Nat) := dec_of c
    rw [List.length_map] at c
    rcases List.eq_nil_or_concat ps with rfl | ⟨qs, x, rfl⟩
    · exact absurd c (by decide)
    rw [List.concat_eq_append] at *
    refine ⟨fun σ' H' => ∃ m', m' < m ∧ ∃ (ps : List Pr) (y3 y4 y5 y6 : Option V), σ' = [some v, some w, some (.ref l), y3, y4, y5, y6] ∧ Stq G H G H' ∧ H' l = some (.lst (ps.map fun x => V.ref x.a)) ∧ (∀ x ∈ ps, PairAt G H' x) ∧ sameD d e = allP ps ∧ szP ps = m' ∧ m' ≤ 4000000, fun σ' H' h => h, ?_⟩
    rw [szP_app, szP_one] at hsz
    rw [allP_app, allP_one] at hall
    have hx := hps x (List.mem_append_right _ (List.mem_singleton.mpr rfl))
    have hqs : ∀ y ∈ qs, PairAt G H3 y := fun y hy => hps y (List.mem_append_left _ hy)
    rw [List.map_append] at hl
    refine ⟨_, rfl, .inl ⟨rfl, _, .of hl⟩, l, _, .ref x.a, rfl, rfl, hl, ?_, fun H4 e4 => ?_⟩
    · rw [List.length_append, List.getElem?_append_right (by simp)]
      simp
    have s4 := s3.mut gl fl e4
    have hl4 : H4 l = some (.lst (qs.map fun x => V.ref x.a)) := by
      have := upd_at e4
      simpa using this
    have hq4 : ∀ y ∈ qs, PairAt G H4 y := fun y hy => (hqs y hy).put hl e4
    obtain ⟨hxa, hxd, hxe⟩ := hx.put hl e4
    refine ⟨_, rfl, x.a, _, 0, x.v, rfl, rfl, .of hxa, rfl, _, rfl, x.a, _, 1, x.w, rfl, rfl, .of hxa, rfl, ?_⟩
    have done : sameD x.d x.e = true → ∀ y3 y4 y5 y6, ∃ m', m' < m ∧ ∃ (ps : List Pr) (z3 z4 z5 z6 : Option V), [some v, some w, some (.ref l), y3, y4, y5, y6] = [some v, some w, some (.ref l), z3, z4, z5, z6] ∧ Stq G H G H4 ∧ H4 l = some (.lst (ps.map fun x => V.ref x.a)) ∧ (∀ x ∈ ps, PairAt G H4 x) ∧ sameD d e = allP ps ∧ szP ps = m' ∧ m' ≤ 4000000 := by
      intro ex y3 y4 y5 y6
      have := szD_pos x.d
      exact ⟨szP qs, by omega, qs, _, _, _, _, rfl, s4, hl4, hq4, by rw [hall, ex, Bool.and_true], rfl, by omega⟩
    have bad : sameD x.d x.e = false → Q (.bl false) H4 := by
      intro ex
      have q4 := q H4 s4.hh
      rwa [hall, ex, Bool.and_false] at q4
    obtain ⟨xa, xv, xw, xd, xe⟩ := x
    simp only at *
    have hxd4 : Da H4 xv xd := hxd.up s4.gh
    rcases hxe.kind with ⟨rfl, rfl⟩ | ⟨b, rfl, rfl⟩ | ⟨j, rfl, rfl⟩ | ⟨j, rfl, rfl⟩ | ⟨b, ys, es, t, rfl, hb, hbt, hbl, dys, rfl⟩
    ·
      refine ⟨_, rfl, rfl, _, rfl, iteDT rfl (iteT ?_)⟩
      refine ⟨_, rfl, rfl, _, rfl, iteDT rfl ⟨_, rfl, rfl, _, rfl, ite2 (fun c => ?_) (fun c => ?_)⟩⟩
      · have e := hxd.non_iff.mp (dec_of c)
        subst e
        exact iteF (done rfl _ _ _ _)
      · have e : ¬ xd = .none := fun z => dec_not c (hxd.non_iff.mpr z)
        refine ⟨_, rfl, .none, true, .non, rfl, _, rfl, iteDF (by intro z; cases z) ⟨_, rfl, .none, false, .non, rfl, _, rfl, iteDF (by intro z; cases z) (iteT (bad ?_))⟩⟩
        cases xd <;> first | rfl | exact absurd rfl e
    ·
      refine ⟨_, rfl, rfl, _, rfl, iteDF (by intro z; cases z) ?_⟩
      cases b with
      | true =>
        refine ⟨_, rfl, _, true, .bl true, rfl, _, rfl, iteDT rfl (iteT ?_)⟩
        refine ⟨_, rfl, rfl, _, rfl, iteDF (by intro z; cases z) (iteF ⟨_, rfl, _, true, .bl true, rfl, _, rfl, iteDT rfl ⟨_, rfl, xd, true, hxd4, rfl, _, rfl, ite2 (fun c => ?_) (fun c => ?_)⟩⟩)⟩
        · have e := hxd.bl_iff.mp (dec_of c)
          subst e
          exact iteF (done rfl _ _ _ _)
        · have e : ¬ xd = .bool true := fun z => dec_not c (hxd.bl_iff.mpr z)
          refine ⟨_, rfl, _, false, .bl true, rfl, _, rfl, iteDF (by intro z; cases z) (iteT (bad ?_))⟩
          cases xd with
          | bool b => cases b with
            | true => exact absurd rfl e
            | false => rfl
          | _ => rfl
      | false =>
        refine ⟨_, rfl, _, true, .bl false, rfl, _, rfl, iteDF (by intro z; cases z) ⟨_, rfl, _, false, .bl false, rfl, _, rfl, iteDT rfl ?_⟩⟩
        refine ⟨_, rfl, rfl, _, rfl, iteDF (by intro z; cases z) (iteF ⟨_, rfl, _, true, .bl false, rfl, _, rfl, iteDF (by intro z; cases z) (iteF ⟨_, rfl, _, false, .bl false, rfl, _, rfl, iteDT rfl ⟨_, rfl, xd, false, hxd4, rfl, _, rfl, ite2 (fun c => ?_) (fun c => ?_)⟩⟩)⟩)⟩
        · have e : ¬ xd = .bool false := fun z => nd_of c (hxd.bl_iff.mpr z)
          refine bad ?_
          cases xd with
          | bool b => cases b with
            | false => exact absurd rfl e
            | true => rfl
          | _ => rfl
        · have e := hxd.bl_iff.mp (nd_not c)
          subst e
          exact done rfl _ _ _ _
    · refine ⟨_, rfl, rfl, _, rfl, iteDF (by intro z; cases z) ⟨_, rfl, _, true, .int j, rfl, _, rfl, iteDF (by intro z; cases z) ⟨_, rfl, _, false, .int j, rfl, _, rfl, iteDF (by intro z; cases z) ?_⟩⟩⟩
      refine ⟨_, rfl, _, _, "int", rfl, .int j, .inl rfl, _, rfl, iteBT (ib_int_int j) ⟨_, rfl, xv, xd, rfl, hxd4, _, rfl, ?_⟩⟩
      cases hxd with
      | int i =>
        refine iteF ⟨_, rfl, _, rfl, rfl, _, rfl, ite2 (fun c => bad (decide_eq_false fun z => nd_of c (by rw [z]))) (fun c => done (decide_eq_true (V.int.inj (nd_not c))) _ _ _ _)⟩
      | _ => exact iteT (iteT (bad rfl))
    · refine ⟨_, rfl, rfl, _, rfl, iteDF (by intro z; cases z) ⟨_, rfl, _, true, .str j, rfl, _, rfl, iteDF (by intro z; cases z) ⟨_, rfl, _, false, .str j, rfl, _, rfl, iteDF (by intro z; cases z) ?_⟩⟩⟩
      refine ⟨_, rfl, _, _, "int", rfl, .str j, .inl rfl, _, rfl, iteBF (ib_str_int j) ⟨_, rfl, _, _, "str", rfl, .str j, ok_str, _, rfl, iteBT (ib_str_str j) ⟨_, rfl, xv, xd, "str", rfl, hxd4, ok_str, _, rfl, ?_⟩⟩⟩
      cases hxd with
      | str i =>
        refine iteBF (by rw [ib_str_str]; rfl) ⟨_, rfl, _, rfl, rfl, _, rfl, ite2 (fun c => bad (decide_eq_false fun z => nd_of c (by rw [z]))) (fun c => done (decide_eq_true (V.str.inj (nd_not c))) _ _ _ _)⟩
      | non => exact iteBT (by rw [ib_none_str]; rfl) (iteT (bad rfl))
      | bl b => exact iteBT (by rw [ib_bool_str]; rfl) (iteT (bad rfl))
      | int b => exact iteBT (by rw [ib_int_str]; rfl) (iteT (bad rfl))
      | lst _ _ => exact iteBT (by rw [ib_list_str]; rfl) (iteT (bad rfl))
      | tup _ _ => exact iteBT (by rw [ib_tuple_str]; rfl) (iteT (bad rfl))
    · have hw : Da H4 (.ref b) (sqD t es) := by
        have dys4 := dys.up s4.gh
        cases t with
        | true => exact .tup (s4.gh _ _ (hbt rfl)) dys4
        | false => exact .lst (s4.gh _ _ (hbl rfl)) dys4
      have i1 : instB (sqD t es) "int" = false := by cases t <;> first | exact ib_list_int es | exact ib_tuple_int es
      have i2 : instB (sqD t es) "str" = false := by cases t <;> first | exact ib_list_str es | exact ib_tuple_str es
      have i3 : instB (sqD t es) "tuple" = t := by cases t <;> first | exact ib_list_tuple es | exact ib_tuple_tuple es
      have i4 : instB (sqD t es) "list" = !t := by cases t <;> first | exact ib_list_list es | exact ib_tuple_list es
      have sd := sqD_sz t es
      refine ⟨_, rfl, rfl, _, rfl, iteDF (by intro z; cases z) ⟨_, rfl, _, true, hw, rfl, _, rfl, iteDF (by intro z; cases z) ⟨_, rfl, _, false, hw, rfl, _, rfl, iteDF (by intro z; cases z) ?_⟩⟩⟩
      refine ⟨_, rfl, _, _, "int", rfl, hw, .inl rfl, _, rfl, iteBF i1 ⟨_, rfl, _, _, "str", rfl, hw, ok_str, _, rfl, iteBF i2 ?_⟩⟩
      refine ⟨fun σ' H' => σ' = [some v, some w, some (.ref l), some (.ref xa), some xv, some (.ref b), y6] ∧ H4 = H' ∧ (t = true → ∃ a xs ds, xv = .ref a ∧ xd = .tuple ds ∧ G a = some (.tup xs) ∧ DaAll G xs ds), ?_, ?_⟩
      · refine ⟨_, rfl, _, _, "tuple", rfl, hw, ok_tuple, _, rfl, ?_⟩
        cases t with
        | false => exact iteBF i3 (iteF ⟨rfl, rfl, fun z => nomatch z⟩)
        | true =>
          refine iteBT i3 ⟨_, rfl, xv, xd, "tuple", rfl, hxd4, ok_tuple, _, rfl, ?_⟩
          cases hxd with
          | tup h1 h2 => exact iteBF (by rw [ib_tuple_tuple]; rfl) ⟨rfl, rfl, fun _ => ⟨_, _, _, rfl, rfl, h1, h2⟩⟩
          | non => exact iteBT (by rw [ib_none_tuple]; rfl) (bad rfl)
          | bl b => exact iteBT (by rw [ib_bool_tuple]; rfl) (bad rfl)
          | int b => exact iteBT (by rw [ib_int_tuple]; rfl) (bad rfl)
          | str b => exact iteBT (by rw [ib_str_tuple]; rfl) (bad rfl)
          | lst _ _ => exact iteBT (by rw [ib_list_tuple]; rfl) (bad rfl)
      rintro σ' H' ⟨rfl, rfl, ht⟩
      refine ⟨fun σ' H' => ∃ a xs ds, σ' = [some v, some w, some (.ref l), some (.ref xa), some (.ref a), some (.ref b), y6] ∧ H4 = H' ∧ HasL G a xs ∧ DaAll G xs ds ∧ xd = sqD t ds, ?_, ?_⟩
      · refine ⟨_, rfl, _, _, "list", rfl, hw, ok_list, _, rfl, ?_⟩
        cases t with
        | true =>
          obtain ⟨a, xs, ds, rfl, rfl, h1, h2⟩ := ht rfl
          exact iteBF i4 (iteF ⟨a, xs, ds, rfl, rfl, .inr h1, h2, rfl⟩)
        | false =>
          refine iteBT i4 ⟨_, rfl, xv, xd, "list", rfl, hxd4, ok_list, _, rfl, ?_⟩
          cases hxd with
          | lst h1 h2 => exact iteBF (by rw [ib_list_list]; rfl) ⟨_, _, _, rfl, rfl, .inl h1, h2, rfl⟩
          | non => exact iteBT (by rw [ib_none_list]; rfl) (bad rfl)
          | bl b => exact iteBT (by rw [ib_bool_list]; rfl) (bad rfl)
          | int b => exact iteBT (by rw [ib_int_list]; rfl) (bad rfl)
          | str b => exact iteBT (by rw [ib_str_list]; rfl) (bad rfl)
          | tup _ _ => exact iteBT (by rw [ib_tuple_list]; rfl) (bad rfl)
      rintro σ' H' ⟨a, xs, ds, rfl, rfl, ha, dxs, rfl⟩
      have ss : sameD (sqD t ds) (sqD t es) = sameL ds es := by cases t <;> rfl
      have lx := dxs.length
      have ly := dys.length
      have sd2 := sqD_sz t ds
      have la := szL_len ds
      have lb := szL_len es
      refine ⟨_, rfl, _, _, rfl, (ha.up s4.gh).lenV, _, rfl, _, _, rfl, (hb.up s4.gh).lenV, _, _, rfl, rfl, _, rfl, ite2 (fun c => ?_) (fun c => ?_)⟩
      · have c : ¬ ((xs.length : Nat) : Int) = ((ys.length : Nat) : Int) := nd_of c
        exact bad (by rw [ss]; exact sameL_len (by omega))
      · have c : ((xs.length : Nat) : Int) = ((ys.length : Nat) : Int) := nd_not c
        have lxy : ds.length = es.length := by omega
        refine ⟨_, rfl, _, _, rfl, (hb.up s4.gh).lenV, _, rfl, by omega, by omega, for_range (lo := 0) (n := ((ys.length : Nat) : Int).toNat) (fun i σ' H' => ∃ (ns : List Pr) (y6 : Option V), σ' = [some v, some w, some (.ref l), some (.ref xa), some (.ref a), some (.ref b), y6] ∧ Stq G H G H' ∧
          H' l = some (.lst ((qs ++ ns).map fun x => V.ref x.a)) ∧ (∀ x ∈ qs ++ ns, PairAt G H' x) ∧ ns.length = i ∧ allP ns = ((ds.take i).zip (es.take i)).all (fun p => sameD p.1 p.2) ∧ szP ns = szL (ds.take i) + szL (es.take i)) ?_ ?_ ?_⟩
        · refine ⟨[], y6, rfl, s4, by rw [List.append_nil]; exact hl4, by rw [List.append_nil]; exact hq4, rfl, rfl, rfl⟩
        · rintro i σ' H5 hi ⟨ns, y6, rfl, s5, hl5, hq5, rfl, hal, hsz5⟩
          obtain ⟨x1, e1, a1⟩ := at_nat (xs := xs) (i := ns.length) (by omega)
          obtain ⟨x2, e2, a2⟩ := at_nat (xs := ys) (i := ns.length) (by omega)
          obtain ⟨d1, f1, k1⟩ := dxs.get e1
          obtain ⟨d2, f2, k2⟩ := dys.get e2
          refine ⟨_, rfl, .inl ⟨rfl, _, .of hl5⟩, _, rfl, _, rfl, rIx_of (ha.up s5.gh) a1 ⟨_, rfl, _, rfl, rIx_of (hb.up s5.gh) a2 ⟨by show 2 ≤ sizeLine; decide, fun p H6 n6 => ?_⟩⟩⟩
          have s6 := s5.trans (Stq.loc s5.gh n6).1
          have hl6 := n6.else hl5
          have hq6 : ∀ x ∈ qs ++ ns, PairAt G H6 x := fun x hx => (hq5 x hx).new n6
          have hlen6 := szP_len qs
          refine ⟨l, _, .ref p, rfl, rfl, hl6, ?_, fun H7 e7 => ?_⟩
          · rw [List.length_map, List.length_append, sizeLine_eq]
            omega
          have hp6 : PairAt G H6 ⟨p, x1, x2, d1, d2⟩ := ⟨n6.at, k1, k2⟩
          refine ⟨ns ++ [⟨p, x1, x2, d1, d2⟩], _, rfl, s6.mut gl fl e7, ?_, ?_, ?_, ?_, ?_⟩
          · have := upd_at e7
            rw [this, ← List.append_assoc, List.map_append (l₁ := qs ++ ns)]
            rfl
          · intro x hx
            rw [← List.append_assoc] at hx
            rcases List.mem_append.mp hx with hx | hx
            · exact (hq6 x hx).put hl6 e7
            · rw [List.mem_singleton.mp hx]
              exact hp6.put hl6 e7
          · rw [List.length_append]
            rfl
          · rw [allP_app, allP_one, hal, zip_take f1 f2, List.all_append]
            show _ = (_ && (sameD d1 d2 && true))
            rw [Bool.and_true]
          · rw [szP_app, szP_one, hsz5, szL_takes ds _ f1, szL_takes es _ f2]
            show _ + (szD d1 + szD d2) = _
            omega
        · rintro σ' H5 ⟨ns, y6, rfl, s5, hl5, hq5, hn, hal, hsz5⟩
          have t1 : ds.take ((ys.length : Nat) : Int).toNat = ds := List.take_of_length_le (by omega)
          have t2 : es.take ((ys.length : Nat) : Int).toNat = es := List.take_of_length_le (by omega)
          rw [t1, t2] at hal hsz5
          refine ⟨szP qs + szP ns, by omega, qs ++ ns, _, _, _, _, rfl, s5, hl5, hq5, ?_, szP_app _ _, by omega⟩
          rw [hall, ss, sameL_all lxy, allP_app, hal]
  · have c : ¬ (0 : Int) < ((ps.map fun x => V.ref x.a).length : Nat) := dec_not c
    rw [List.length_map] at c
    have e : ps = [] := List.eq_nil_of_length_eq_zero (by omega)
    subst e
    have q3 := q H3 s3.hh
    rw [hall] at q3
    exact q3


theorem ok_is_whole_h (Z : Zs mg) (D : Ds K mg) : CalE P w K mg base "_law_is_whole" 1 ["value"] (fun _ => spIsWhole) := by
  refine Def.calE D.d_law_is_whole sc_law_is_whole (fun p vs H Q E h => ?_) (fun f cdv A outer s H vs Q E p hot hr h => ?_)
  · obtain ⟨v, d, rfl, hd, q⟩ := h
    rfl
  obtain ⟨v, d, rfl, hd, q⟩ := h
  refine ⟨_, (pss_one (ps_ret (pe_and (pe_callB call_isD (by rfl) Z.z_isinstance (by decide +kernel) (pa_cons (pv 0) (pa_cons (pe_bltn (v := .ty "int") (by rfl) Z.z_int (by decide +kernel) rfl) pa_nil))) (pe_one (pe_not (pe_callB call_isD (by rfl) Z.z_isinstance (by decide +kernel) (pa_cons (pv 0) (pa_cons (pe_bltn (v := .ty "bool") (by rfl) Z.z_bool (by decide +kernel) rfl) pa_nil)))))))), ?_⟩
  rw [← isI_inst d hd.nd] at q
  refine ⟨_, rfl, v, d, "int", rfl, hd, .inl rfl, _, rfl, ?_⟩
  cases e : instB d "int" with
  | true =>
    rw [e] at q
    exact iteT ⟨_, rfl, v, d, "bool", rfl, hd, .inr (.inl rfl), _, rfl, q⟩
  | false =>
    rw [e] at q
    exact iteF q
theorem ok_same_h (Z : Zs mg) (D : Ds K mg) (c__law_is_whole_h : CalE P w K mg base "_law_is_whole" 1 ["value"] (fun _ => spIsWhole)) : CalE P w K mg base "_law_same" 2 ["actual", "due"] (fun _ => spSame) := by
  refine Def.calE D.d_law_same sc_law_same (fun p vs H Q E h => ?_) (fun f cdv A outer s H vs Q E p hot hr h => ?_)
  · obtain ⟨G, v, w, d, e, rfl, gh, hd, he, zd, ze, q⟩ := h
    rfl
  obtain ⟨G, v, w, d, e, rfl, gh, hd, he, zd, ze, q⟩ := h
  refine ⟨_, (pss_cons (ps_set (i := 2) sc_law_same.nd rfl (Or.inl rfl) (pe_lstN (pa_cons (pe_tupN (pa_cons (pv 0) (pa_cons (pv 1) pa_nil))) pa_nil)))
      (pss_cons (ps_while PassesOwn.never (pt_cmp (pc_gt (pe_callB call_len_seq (by rfl) Z.z_len (by decide +kernel) (pa_cons (pv 2) pa_nil)) pe_int) (nomark _)) (pss_cons (ps_set (i := 3) sc_law_same.nd rfl (Or.inl rfl) (pe_bm0 PySem.F.plainAttrs_list PySem.F.slot_list_pop PySem.F.type_list_pop mt_popN (pv 2)))
      (pss_cons (ps_set (i := 4) sc_law_same.nd rfl (Or.inl rfl) (pe_ix ix_tup (pv 3) pe_int (fun _ _ => rfl)))
      (pss_cons (ps_set (i := 5) sc_law_same.nd rfl (Or.inl rfl) (pe_ix ix_tup (pv 3) pe_int (fun _ _ => rfl)))
      (pss_one (ps_if (PW.pt (pw_or (pt_cmpR op_isN (pv 5) pe_non (nomark _)) (pw_or (pt_cmpR op_isBD (pv 5) pe_bl (nomark _)) (pw_or1 (pt_cmpR op_isBD (pv 5) pe_bl (nomark _)))))) (pss_one (ps_if (pt_not (PW.pt (pw_or (PW.pt (pw_and (pt_cmpR op_isN (pv 5) pe_non (nomark _)) (pw_and1 (pt_cmpR op_isN (pv 4) pe_non (nomark _))))) (pw_or (PW.pt (pw_and (pt_cmpR op_isBD (pv 5) pe_bl (nomark _)) (pw_and1 (pt_cmpR op_isBD (pv 4) pe_bl (nomark _))))) (pw_or1 (PW.pt (pw_and (pt_cmpR op_isBD (pv 5) pe_bl (nomark _)) (pw_and1 (pt_cmpR op_isBD (pv 4) pe_bl (nomark _)))))))))) (pss_one (ps_ret pe_bl)) pss_nil)) (pss_one (ps_if (pt_val (pe_callB call_isD (by rfl) Z.z_isinstance (by decide +kernel) (pa_cons (pv 5) (pa_cons (pe_bltn (v := .ty "int") (by rfl) Z.z_int (by decide +kernel) rfl) pa_nil)))) (pss_one (ps_if (PW.pt (pw_or (pt_not (pt_val (pe_calE c__law_is_whole_h (hr.mono (by first | decide | omega)) hot List.mem_cons_self (by rfl) (pa_cons (pv 4) pa_nil)))) (pw_or1 (pt_cmpR op_ne (pv 4) (pv 5) (nomark _))))) (pss_one (ps_ret pe_bl)) pss_nil)) (pss_one (ps_if (pt_val (pe_callB call_isD (by rfl) Z.z_isinstance (by decide +kernel) (pa_cons (pv 5) (pa_cons (pe_bltn (v := .ty "str") (by rfl) Z.z_str (by decide +kernel) rfl) pa_nil)))) (pss_one (ps_if (PW.pt (pw_or (pt_not (pt_val (pe_callB call_isD (by rfl) Z.z_isinstance (by decide +kernel) (pa_cons (pv 4) (pa_cons (pe_bltn (v := .ty "str") (by rfl) Z.z_str (by decide +kernel) rfl) pa_nil))))) (pw_or1 (pt_cmpR op_ne (pv 4) (pv 5) (nomark _))))) (pss_one (ps_ret pe_bl)) pss_nil)) (Evl.pss_cut (ps_if (PW.pt (pw_and (pt_val (pe_callB call_isD (by rfl) Z.z_isinstance (by decide +kernel) (pa_cons (pv 5) (pa_cons (pe_bltn (v := .ty "tuple") (by rfl) Z.z_tuple (by decide +kernel) rfl) pa_nil)))) (pw_and1 (pt_not (pt_val (pe_callB call_isD (by rfl) Z.z_isinstance (by decide +kernel) (pa_cons (pv 4) (pa_cons (pe_bltn (v := .ty "tuple") (by rfl) Z.z_tuple (by decide +kernel) rfl) pa_nil)))))))) (pss_one (ps_ret pe_bl)) pss_nil)
      (Evl.pss_cut (ps_if (PW.pt (pw_and (pt_val (pe_callB call_isD (by rfl) Z.z_isinstance (by decide +kernel) (pa_cons (pv 5) (pa_cons (pe_bltn (v := .ty "list") (by rfl) Z.z_list (by decide +kernel) rfl) pa_nil)))) (pw_and1 (pt_not (pt_val (pe_callB call_isD (by rfl) Z.z_isinstance (by decide +kernel) (pa_cons (pv 4) (pa_cons (pe_bltn (v := .ty "list") (by rfl) Z.z_list (by decide +kernel) rfl) pa_nil)))))))) (pss_one (ps_ret pe_bl)) pss_nil)
      (pss_cons (ps_if (pt_cmp (pc_neI (pe_callB call_len (by rfl) Z.z_len (by decide +kernel) (pa_cons (pv 4) pa_nil)) (pe_callB call_len (by rfl) Z.z_len (by decide +kernel) (pa_cons (pv 5) pa_nil))) (nomark _)) (pss_one (ps_ret pe_bl)) pss_nil)
      (pss_one (L2H.ps_forH PassesOwn.never (hot_in hot List.mem_cons_self) (L2H.pi_range1H (by rfl) Z.z_range (pa_cons (pe_callB call_len (by rfl) Z.z_len (by decide +kernel) (pa_cons (pv 5) pa_nil)) pa_nil)) (pg_name (i := 6) sc_law_same.nd rfl (Or.inl rfl)) (pss_one (ps_expr (pe_bm PySem.F.plainAttrs_list PySem.F.slot_list_append PySem.F.type_list_append mt_appendN (pv 2) (pa_cons (pe_tupN (pa_cons (pe_ix ix_seq (pv 4) (pv 6) (fun _ _ => rfl)) (pa_cons (pe_ix ix_seq (pv 5) (pv 6) (fun _ _ => rfl)) pa_nil))) pa_nil)))))))))))))))))))
      (pss_one (ps_ret pe_bl)))), ?_⟩
  refine ⟨_, rfl, _, rfl, by show 2 ≤ sizeLine; decide, fun p H1 n1 => ⟨by show 1 ≤ sizeLine; decide, fun l H2 n2 => ?_⟩⟩
  have s1 : Stq G H G H1 := (Stq.loc gh n1).1
  have fp := n1.fr
  have s2 := (Stq.refl gh).trans (s1.trans (Stq.loc s1.gh n2).1)
  have gl : G l = none := s1.gh.free n2.fr
  have fl : H l = none := s1.hh.free n2.fr
  have hl := n2.at
  have hp := n2.else n1.at
  refine ⟨fun m σ' H' => ∃ (ps : List Pr) (y3 y4 y5 y6 : Option V), σ' = [some v, some w, some (.ref l), y3, y4, y5, y6] ∧ Stq G H G H' ∧ H' l = some (.lst (ps.map fun x => V.ref x.a)) ∧ (∀ x ∈ ps, PairAt G H' x) ∧ sameD d e = allP ps ∧ szP ps = m ∧ m ≤ 4000000,
    ⟨_, [⟨p, v, w, d, e⟩], none, none, none, none, rfl, s2, hl, ?_, ?_, rfl, ?_⟩, ?_⟩
  · intro x hx
    rw [List.mem_singleton.mp hx]
    exact ⟨hp, hd, he⟩
  · rw [allP_one]
  · rw [szP_one]
    show szD d + szD e ≤ 4000000
    omega
  rintro m σ' H3 ⟨ps, y3, y4, y5, y6, rfl, s3, hl, hps, hall, hsz, hm⟩
  have hlen := szP_len ps
  refine ⟨_, rfl, l, _, rfl, .inl (.of hl), _, _, rfl, rfl, _, rfl, ite2 (fun c => ?_) (fun c => ?_)⟩
  · have c : (0 : Int) < ((ps.map fun x => V.ref x.a).length : Nat) := dec_of c
    rw [List.length_map] at c
    rcases List.eq_nil_or_concat ps with rfl | ⟨qs, x, rfl⟩
    · exact absurd c (by decide)
    rw [List.concat_eq_append] at *
    refine ⟨fun σ' H' => ∃ m', m' < m ∧ ∃ (ps : List Pr) (y3 y4 y5 y6 : Option V), σ' = [some v, some w, some (.ref l), y3, y4, y5, y6] ∧ Stq G H G H' ∧ H' l = some (.lst (ps.map fun x => V.ref x.a)) ∧ (∀ x ∈ ps, PairAt G H' x) ∧ sameD d e = allP ps ∧ szP ps = m' ∧ m' ≤ 4000000, fun σ' H' h => h, ?_⟩
    rw [szP_app, szP_one] at hsz
    rw [allP_app, allP_one] at hall
    have hx := hps x (List.mem_append_right _ (List.mem_singleton.mpr rfl))
    have hqs : ∀ y ∈ qs, PairAt G H3 y := fun y hy => hps y (List.mem_append_left _ hy)
    rw [List.map_append] at hl
    refine ⟨_, rfl, .inl ⟨rfl, _, .of hl⟩, l, _, .ref x.a, rfl, rfl, hl, ?_, fun H4 e4 => ?_⟩
    · rw [List.length_append, List.getElem?_append_right (by simp)]
      simp
    have s4 := s3.mut gl fl e4
    have hl4 : H4 l = some (.lst (qs.map fun x => V.ref x.a)) := by
      have := upd_at e4
      simpa using this
    have hq4 : ∀ y ∈ qs, PairAt G H4 y := fun y hy => (hqs y hy).put hl e4
    obtain ⟨hxa, hxd, hxe⟩ := hx.put hl e4
    refine ⟨_, rfl, x.a, _, 0, x.v, rfl, rfl, .of hxa, rfl, _, rfl, x.a, _, 1, x.w, rfl, rfl, .of hxa, rfl, ?_⟩
    have done : sameD x.d x.e = true → ∀ y3 y4 y5 y6, ∃ m', m' < m ∧ ∃ (ps : List Pr) (z3 z4 z5 z6 : Option V), [some v, some w, some (.ref l), y3, y4, y5, y6] = [some v, some w, some (.ref l), z3, z4, z5, z6] ∧ Stq G H G H4 ∧ H4 l = some (.lst (ps.map fun x => V.ref x.a)) ∧ (∀ x ∈ ps, PairAt G H4 x) ∧ sameD d e = allP ps ∧ szP ps = m' ∧ m' ≤ 4000000 := by
      intro ex y3 y4 y5 y6
      have := szD_pos x.d
      exact ⟨szP qs, by omega, qs, _, _, _, _, rfl, s4, hl4, hq4, by rw [hall, ex, Bool.and_true], rfl, by omega⟩
    have bad : sameD x.d x.e = false → Q (.bl false) H4 := by
      intro ex
      have q4 := q H4 s4.hh
      rwa [hall, ex, Bool.and_false] at q4
    obtain ⟨xa, xv, xw, xd, xe⟩ := x
    simp only at *
    have hxd4 : Da H4 xv xd := hxd.up s4.gh
    rcases hxe.kind with ⟨rfl, rfl⟩ | ⟨b, rfl, rfl⟩ | ⟨j, rfl, rfl⟩ | ⟨j, rfl, rfl⟩ | ⟨b, ys, es, t, rfl, hb, hbt, hbl, dys, rfl⟩
    ·
      refine ⟨_, rfl, rfl, _, rfl, iteDT rfl (iteT ?_)⟩
      refine ⟨_, rfl, rfl, _, rfl, iteDT rfl ⟨_, rfl, rfl, _, rfl, ite2 (fun c => ?_) (fun c => ?_)⟩⟩
      · have e := hxd.non_iff.mp (dec_of c)
        subst e
        exact iteF (done rfl _ _ _ _)
      · have e : ¬ xd = .none := fun z => dec_not c (hxd.non_iff.mpr z)
        refine ⟨_, rfl, .none, true, .non, rfl, _, rfl, iteDF (by intro z; cases z) ⟨_, rfl, .none, false, .non, rfl, _, rfl, iteDF (by intro z; cases z) (iteT (bad ?_))⟩⟩
        cases xd <;> first | rfl | exact absurd rfl e
    ·
      refine ⟨_, rfl, rfl, _, rfl, iteDF (by intro z; cases z) ?_⟩
      cases b with
      | true =>
        refine ⟨_, rfl, _, true, .bl true, rfl, _, rfl, iteDT rfl (iteT ?_)⟩
        refine ⟨_, rfl, rfl, _, rfl, iteDF (by intro z; cases z) (iteF ⟨_, rfl, _, true, .bl true, rfl, _, rfl, iteDT rfl ⟨_, rfl, xd, true, hxd4, rfl, _, rfl, ite2 (fun c => ?_) (fun c => ?_)⟩⟩)⟩
        · have e := hxd.bl_iff.mp (dec_of c)
          subst e
          exact iteF (done rfl _ _ _ _)
        · have e : ¬ xd = .bool true := fun z => dec_not c (hxd.bl_iff.mpr z)
          refine ⟨_, rfl, _, false, .bl true, rfl, _, rfl, iteDF (by intro z; cases z) (iteT (bad ?_))⟩
          cases xd with
          | bool b => cases b with
            | true => exact absurd rfl e
            | false => rfl
          | _ => rfl
      | false =>
        refine ⟨_, rfl, _, true, .bl false, rfl, _, rfl, iteDF (by intro z; cases z) ⟨_, rfl, _, false, .bl false, rfl, _, rfl, iteDT rfl ?_⟩⟩
        refine ⟨_, rfl, rfl, _, rfl, iteDF (by intro z; cases z) (iteF ⟨_, rfl, _, true, .bl false, rfl, _, rfl, iteDF (by intro z; cases z) (iteF ⟨_, rfl, _, false, .bl false, rfl, _, rfl, iteDT rfl ⟨_, rfl, xd, false, hxd4, rfl, _, rfl, ite2 (fun c => ?_) (fun c => ?_)⟩⟩)⟩)⟩
        · have e : ¬ xd = .bool false := fun z => nd_of c (hxd.bl_iff.mpr z)
          refine bad ?_
          cases xd with
          | bool b => cases b with
            | false => exact absurd rfl e
            | true => rfl
          | _ => rfl
        · have e := hxd.bl_iff.mp (nd_not c)
          subst e
          exact done rfl _ _ _ _
    · refine ⟨_, rfl, rfl, _, rfl, iteDF (by intro z; cases z) ⟨_, rfl, _, true, .int j, rfl, _, rfl, iteDF (by intro z; cases z) ⟨_, rfl, _, false, .int j, rfl, _, rfl, iteDF (by intro z; cases z) ?_⟩⟩⟩
      refine ⟨_, rfl, _, _, "int", rfl, .int j, .inl rfl, _, rfl, iteBT (ib_int_int j) ⟨_, rfl, xv, xd, rfl, hxd4, _, rfl, ?_⟩⟩
      cases hxd with
      | int i =>
        refine iteF ⟨_, rfl, _, rfl, rfl, _, rfl, ite2 (fun c => bad (decide_eq_false fun z => nd_of c (by rw [z]))) (fun c => done (decide_eq_true (V.int.inj (nd_not c))) _ _ _ _)⟩
      | _ => exact iteT (iteT (bad rfl))
    · refine ⟨_, rfl, rfl, _, rfl, iteDF (by intro z; cases z) ⟨_, rfl, _, true, .str j, rfl, _, rfl, iteDF (by intro z; cases z) ⟨_, rfl, _, false, .str j, rfl, _, rfl, iteDF (by intro z; cases z) ?_⟩⟩⟩
      refine ⟨_, rfl, _, _, "int", rfl, .str j, .inl rfl, _, rfl, iteBF (ib_str_int j) ⟨_, rfl, _, _, "str", rfl, .str j, ok_str, _, rfl, iteBT (ib_str_str j) ⟨_, rfl, xv, xd, "str", rfl, hxd4, ok_str, _, rfl, ?_⟩⟩⟩
      cases hxd with
      | str i =>
        refine iteBF (by rw [ib_str_str]; rfl) ⟨_, rfl, _, rfl, rfl, _, rfl, ite2 (fun c => bad (decide_eq_false fun z => nd_of c (by rw [z]))) (fun c => done (decide_eq_true (V.str.inj (nd_not c))) _ _ _ _)⟩
      | non => exact iteBT (by rw [ib_none_str]; rfl) (iteT (bad rfl))
      | bl b => exact iteBT (by rw [ib_bool_str]; rfl) (iteT (bad rfl))
      | int b => exact iteBT (by rw [ib_int_str]; rfl) (iteT (bad rfl))
      | lst _ _ => exact iteBT (by rw [ib_list_str]; rfl) (iteT (bad rfl))
      | tup _ _ => exact iteBT (by rw [ib_tuple_str]; rfl) (iteT (bad rfl))
    · have hw : Da H4 (.ref b) (sqD t es) := by
        have dys4 := dys.up s4.gh
        cases t with
        | true => exact .tup (s4.gh _ _ (hbt rfl)) dys4
        | false => exact .lst (s4.gh _ _ (hbl rfl)) dys4
      have i1 : instB (sqD t es) "int" = false := by cases t <;> first | exact ib_list_int es | exact ib_tuple_int es
      have i2 : instB (sqD t es) "str" = false := by cases t <;> first | exact ib_list_str es | exact ib_tuple_str es
      have i3 : instB (sqD t es) "tuple" = t := by cases t <;> first | exact ib_list_tuple es | exact ib_tuple_tuple es
      have i4 : instB (sqD t es) "list" = !t := by cases t <;> first | exact ib_list_list es | exact ib_tuple_list es
      have sd := sqD_sz t es
      refine ⟨_, rfl, rfl, _, rfl, iteDF (by intro z; cases z) ⟨_, rfl, _, true, hw, rfl, _, rfl, iteDF (by intro z; cases z) ⟨_, rfl, _, false, hw, rfl, _, rfl, iteDF (by intro z; cases z) ?_⟩⟩⟩
      refine ⟨_, rfl, _, _, "int", rfl, hw, .inl rfl, _, rfl, iteBF i1 ⟨_, rfl, _, _, "str", rfl, hw, ok_str, _, rfl, iteBF i2 ?_⟩⟩
      refine ⟨fun σ' H' => σ' = [some v, some w, some (.ref l), some (.ref xa), some xv, some (.ref b), y6] ∧ H4 = H' ∧ (t = true → ∃ a xs ds, xv = .ref a ∧ xd = .tuple ds ∧ G a = some (.tup xs) ∧ DaAll G xs ds), ?_, ?_⟩
      · refine ⟨_, rfl, _, _, "tuple", rfl, hw, ok_tuple, _, rfl, ?_⟩
        cases t with
        | false => exact iteBF i3 (iteF ⟨rfl, rfl, fun z => nomatch z⟩)
        | true =>
          refine iteBT i3 ⟨_, rfl, xv, xd, "tuple", rfl, hxd4, ok_tuple, _, rfl, ?_⟩
          cases hxd with
          | tup h1 h2 => exact iteBF (by rw [ib_tuple_tuple]; rfl) ⟨rfl, rfl, fun _ => ⟨_, _, _, rfl, rfl, h1, h2⟩⟩
          | non => exact iteBT (by rw [ib_none_tuple]; rfl) (bad rfl)
          | bl b => exact iteBT (by rw [ib_bool_tuple]; rfl) (bad rfl)
          | int b => exact iteBT (by rw [ib_int_tuple]; rfl) (bad rfl)
          | str b => exact iteBT (by rw [ib_str_tuple]; rfl) (bad rfl)
          | lst _ _ => exact iteBT (by rw [ib_list_tuple]; rfl) (bad rfl)
      rintro σ' H' ⟨rfl, rfl, ht⟩
      refine ⟨fun σ' H' => ∃ a xs ds, σ' = [some v, some w, some (.ref l), some (.ref xa), some (.ref a), some (.ref b), y6] ∧ H4 = H' ∧ HasL G a xs ∧ DaAll G xs ds ∧ xd = sqD t ds, ?_, ?_⟩
      · refine ⟨_, rfl, _, _, "list", rfl, hw, ok_list, _, rfl, ?_⟩
        cases t with
        | true =>
          obtain ⟨a, xs, ds, rfl, rfl, h1, h2⟩ := ht rfl
          exact iteBF i4 (iteF ⟨a, xs, ds, rfl, rfl, .inr h1, h2, rfl⟩)
        | false =>
          refine iteBT i4 ⟨_, rfl, xv, xd, "list", rfl, hxd4, ok_list, _, rfl, ?_⟩
          cases hxd with
          | lst h1 h2 => exact iteBF (by rw [ib_list_list]; rfl) ⟨_, _, _, rfl, rfl, .inl h1, h2, rfl⟩
          | non => exact iteBT (by rw [ib_none_list]; rfl) (bad rfl)
          | bl b => exact iteBT (by rw [ib_bool_list]; rfl) (bad rfl)
          | int b => exact iteBT (by rw [ib_int_list]; rfl) (bad rfl)
          | str b => exact iteBT (by rw [ib_str_list]; rfl) (bad rfl)
          | tup _ _ => exact iteBT (by rw [ib_tuple_list]; rfl) (bad rfl)
      rintro σ' H' ⟨a, xs, ds, rfl, rfl, ha, dxs, rfl⟩
      have ss : sameD (sqD t ds) (sqD t es) = sameL ds es := by cases t <;> rfl
      have lx := dxs.length
      have ly := dys.length
      have sd2 := sqD_sz t ds
      have la := szL_len ds
      have lb := szL_len es
      refine ⟨_, rfl, _, _, rfl, (ha.up s4.gh).lenV, _, rfl, _, _, rfl, (hb.up s4.gh).lenV, _, _, rfl, rfl, _, rfl, ite2 (fun c => ?_) (fun c => ?_)⟩
      · have c : ¬ ((xs.length : Nat) : Int) = ((ys.length : Nat) : Int) := nd_of c
        exact bad (by rw [ss]; exact sameL_len (by omega))
      · have c : ((xs.length : Nat) : Int) = ((ys.length : Nat) : Int) := nd_not c
        have lxy : ds.length = es.length := by omega
        refine ⟨_, rfl, _, _, rfl, (hb.up s4.gh).lenV, _, rfl, by omega, by omega, for_range (lo := 0) (n := ((ys.length : Nat) : Int).toNat) (fun i σ' H' => ∃ (ns : List Pr) (y6 : Option V), σ' = [some v, some w, some (.ref l), some (.ref xa), some (.ref a), some (.ref b), y6] ∧ Stq G H G H' ∧
          H' l = some (.lst ((qs ++ ns).map fun x => V.ref x.a)) ∧ (∀ x ∈ qs ++ ns, PairAt G H' x) ∧ ns.length = i ∧ allP ns = ((ds.take i).zip (es.take i)).all (fun p => sameD p.1 p.2) ∧ szP ns = szL (ds.take i) + szL (es.take i)) ?_ ?_ ?_⟩
        · refine ⟨[], y6, rfl, s4, by rw [List.append_nil]; exact hl4, by rw [List.append_nil]; exact hq4, rfl, rfl, rfl⟩
        · rintro i σ' H5 hi ⟨ns, y6, rfl, s5, hl5, hq5, rfl, hal, hsz5⟩
          obtain ⟨x1, e1, a1⟩ := at_nat (xs := xs) (i := ns.length) (by omega)
          obtain ⟨x2, e2, a2⟩ := at_nat (xs := ys) (i := ns.length) (by omega)
          obtain ⟨d1, f1, k1⟩ := dxs.get e1
          obtain ⟨d2, f2, k2⟩ := dys.get e2
          refine ⟨_, rfl, .inl ⟨rfl, _, .of hl5⟩, _, rfl, _, rfl, rIx_of (ha.up s5.gh) a1 ⟨_, rfl, _, rfl, rIx_of (hb.up s5.gh) a2 ⟨by show 2 ≤ sizeLine; decide, fun p H6 n6 => ?_⟩⟩⟩
          have s6 := s5.trans (Stq.loc s5.gh n6).1
          have hl6 := n6.else hl5
          have hq6 : ∀ x ∈ qs ++ ns, PairAt G H6 x := fun x hx => (hq5 x hx).new n6
          have hlen6 := szP_len qs
          refine ⟨l, _, .ref p, rfl, rfl, hl6, ?_, fun H7 e7 => ?_⟩
          · rw [List.length_map, List.length_append, sizeLine_eq]
            omega
          have hp6 : PairAt G H6 ⟨p, x1, x2, d1, d2⟩ := ⟨n6.at, k1, k2⟩
          refine ⟨ns ++ [⟨p, x1, x2, d1, d2⟩], _, rfl, s6.mut gl fl e7, ?_, ?_, ?_, ?_, ?_⟩
          · have := upd_at e7
            rw [this, ← List.append_assoc, List.map_append (l₁ := qs ++ ns)]
            rfl
          · intro x hx
            rw [← List.append_assoc] at hx
            rcases List.mem_append.mp hx with hx | hx
            · exact (hq6 x hx).put hl6 e7
            · rw [List.mem_singleton.mp hx]
              exact hp6.put hl6 e7
          · rw [List.length_append]
            rfl
          · rw [allP_app, allP_one, hal, zip_take f1 f2, List.all_append]
            show _ = (_ && (sameD d1 d2 && true))
            rw [Bool.and_true]
          · rw [szP_app, szP_one, hsz5, szL_takes ds _ f1, szL_takes es _ f2]
            show _ + (szD d1 + szD d2) = _
            omega
        · rintro σ' H5 ⟨ns, y6, rfl, s5, hl5, hq5, hn, hal, hsz5⟩
          have t1 : ds.take ((ys.length : Nat) : Int).toNat = ds := List.take_of_length_le (by omega)
          have t2 : es.take ((ys.length : Nat) : Int).toNat = es := List.take_of_length_le (by omega)
          rw [t1, t2] at hal hsz5
          refine ⟨szP qs + szP ns, by omega, qs ++ ns, _, _, _, _, rfl, s5, hl5, hq5, ?_, szP_app _ _, by omega⟩
          rw [hall, ss, sameL_all lxy, allP_app, hal]
  · have c : ¬ (0 : Int) < ((ps.map fun x => V.ref x.a).length : Nat) := dec_not c
    rw [List.length_map] at c
    have e : ps = [] := List.eq_nil_of_length_eq_zero (by omega)
    subst e
    have q3 := q H3 s3.hh
    rw [hall] at q3
    exact q3


theorem no_level {x : Str} {st : Stmt} {ps : List Str} {sp : Sp} (D : Def K mg x st ps) (no : ∀ vs H Q E, ¬ sp vs H Q E) : Cal P w K mg base x 0 ps sp := by
  obtain ⟨f, fd, F, g, b⟩ := D
  exact ⟨f, fd, ⟨fun vs H Q E h => absurd h (no vs H Q E), fun A outer s H args us vs Q E _ _ _ _ h => absurd h (no vs H Q E)⟩, g, F.kp, b⟩
theorem ok_frozen_step (Z : Zs mg) (D : Ds K mg) (k : Nat) (c__law_frozen : Cal P w K mg base "_law_frozen" k ["value", "deep"] (spFrozen k)) : Cal P w K mg base "_law_frozen" (k + 1) ["value", "deep"] (spFrozen (k + 1)) := by
  refine Def.cal D.d_law_frozen sc_law_frozen (fun vs H Q E h => ?_) (fun f cdv A outer s H vs Q E hr h => ?_)
  · obtain ⟨G, v, d, n, rfl, gh, hd, sz, hn0, hn, q⟩ := h
    rfl
  obtain ⟨G, v, d, n, rfl, gh, hd, sz, hn0, hn, q⟩ := h
  refine ⟨_, (pss_cons (ps_if (PW.pt (pw_and (pt_cmp (pc_gt (pv 1) pe_int) (nomark _)) (pw_and1 (pt_val (pe_callB call_isD (by rfl) Z.z_isinstance (by decide +kernel) (pa_cons (pv 0) (pa_cons (pe_bltn (v := .ty "list") (by rfl) Z.z_list (by decide +kernel) rfl) pa_nil))))))) (pss_one (ps_ret (pe_tupN (pa_cons pe_str (pa_cons (pe_callTy call_tupleN (by rfl) Z.z_tuple (by decide +kernel) (pa_cons (pe_lc (own := [("part", 2)]) (g := gName 2) (tt := tYes) (by rfl) sc_law_frozen.nd (pi_list (pv 0)) (blkOk_by (N := ["value", "deep", "part"]) (sc := defScope s_law_frozen) (by decide +kernel)) (fun _ _ _ _ _ => pg_name (i := 2) sc_law_frozen.nd rfl (Or.inl rfl)) (fun _ _ _ _ _ => pts_nil) (fun _ _ _ _ _ => (pe_cal c__law_frozen (hr.mono (by first | decide | omega)) (by rfl) (pa_cons (pv 2) (pa_cons (pe_op op_sub (pv 1) pe_int) pa_nil))))) pa_nil)) pa_nil))))) pss_nil)
      (pss_cons (ps_if (PW.pt (pw_and (pt_cmp (pc_gt (pv 1) pe_int) (nomark _)) (pw_and1 (pt_val (pe_callB call_isD (by rfl) Z.z_isinstance (by decide +kernel) (pa_cons (pv 0) (pa_cons (pe_bltn (v := .ty "tuple") (by rfl) Z.z_tuple (by decide +kernel) rfl) pa_nil))))))) (pss_one (ps_ret (pe_tupN (pa_cons pe_str (pa_cons (pe_callTy call_tupleN (by rfl) Z.z_tuple (by decide +kernel) (pa_cons (pe_lc (own := [("part", 2)]) (g := gName 2) (tt := tYes) (by rfl) sc_law_frozen.nd (pi_tup (pv 0)) (blkOk_by (N := ["value", "deep", "part"]) (sc := defScope s_law_frozen) (by decide +kernel)) (fun _ _ _ _ _ => pg_name (i := 2) sc_law_frozen.nd rfl (Or.inl rfl)) (fun _ _ _ _ _ => pts_nil) (fun _ _ _ _ _ => (pe_cal c__law_frozen (hr.mono (by first | decide | omega)) (by rfl) (pa_cons (pv 2) (pa_cons (pe_op op_sub (pv 1) pe_int) pa_nil))))) pa_nil)) pa_nil))))) pss_nil)
      (pss_one (ps_ret (pv 0))))), ?_⟩
  have hdH := hd.up gh
  have out : n ≤ 0 → Q v H := fun hn => by
    refine q v G H (.refl gh) ?_
    rw [show n.toNat = 0 by omega]
    have : frz 0 d = d := by cases d <;> rfl
    rw [this]
    exact hd
  refine ⟨_, rfl, _, _, rfl, rfl, _, rfl, ite2 (fun c => ?_) (fun c => iteF ?_)⟩
  · have c : 0 < n := dec_of c
    obtain ⟨m, hm⟩ : ∃ m, n.toNat = m + 1 := ⟨n.toNat - 1, by omega⟩
    refine ⟨_, rfl, v, d, "list", rfl, hdH, ok_list, _, rfl, ?_⟩
    have rest : instB d "list" = false → (frz n.toNat d = d ∨ ∃ ds, d = .tuple ds) := by
      intro h
      cases d with
      | list ds => rw [ib_list_list] at h; cases h
      | tuple ds => exact .inr ⟨ds, rfl⟩
      | _ => left; rw [hm]; rfl
    rcases hd.kind with ⟨rfl, rfl⟩ | ⟨b, rfl, rfl⟩ | ⟨j, rfl, rfl⟩ | ⟨j, rfl, rfl⟩ | ⟨a, xs, ds, t, rfl, ha, hat, hal, dxs, rfl⟩
    · exact iteBF ib_none_list (⟨_, rfl, _, _, rfl, rfl, _, rfl, iteDT c ⟨_, rfl, _, _, "tuple", rfl, hdH, ok_tuple, _, rfl, iteBF ib_none_tuple ⟨_, rfl, q _ G H (.refl gh) (by rw [hm]; exact hd)⟩⟩⟩)
    · exact iteBF (ib_bool_list b) (⟨_, rfl, _, _, rfl, rfl, _, rfl, iteDT c ⟨_, rfl, _, _, "tuple", rfl, hdH, ok_tuple, _, rfl, iteBF (ib_bool_tuple b) ⟨_, rfl, q _ G H (.refl gh) (by rw [hm]; exact hd)⟩⟩⟩)
    · exact iteBF (ib_int_list j) (⟨_, rfl, _, _, rfl, rfl, _, rfl, iteDT c ⟨_, rfl, _, _, "tuple", rfl, hdH, ok_tuple, _, rfl, iteBF (ib_int_tuple j) ⟨_, rfl, q _ G H (.refl gh) (by rw [hm]; exact hd)⟩⟩⟩)
    · exact iteBF (ib_str_list j) (⟨_, rfl, _, _, rfl, rfl, _, rfl, iteDT c ⟨_, rfl, _, _, "tuple", rfl, hdH, ok_tuple, _, rfl, iteBF (ib_str_tuple j) ⟨_, rfl, q _ G H (.refl gh) (by rw [hm]; exact hd)⟩⟩⟩)
    · have lx := dxs.length
      have zz := sqD_sz t ds
      have zl := szL_len ds
      cases t with
      | false =>
        have ha := hal rfl
        refine iteBT (ib_list_list ds) ?_
        refine ⟨_, rfl, a, rfl, ⟨_, .of (gh _ _ ha)⟩, fun l hl => ?_⟩
        refine lc_list (xs := xs) (fun i H' => ∃ (G' : Hp) (zs : List V), Stq G H G' H' ∧ G' l = none ∧ H l = none ∧ H' l = some (.lst zs) ∧ zs.length = i ∧ DaAll G' zs ((ds.take i).map (frz m))) ?_ ?_ ?_ ?_
        · obtain ⟨s1, gl, h1, fl⟩ := (Stq.refl gh).loc2 (p := l) (o := .lst []) ⟨hl, rfl⟩
          exact ⟨G, [], s1, gl, fl, h1, rfl, .nil⟩
        · rintro i H' hi ⟨G', zs, s1, _⟩
          exact .of (s1.hh _ _ (gh _ _ ha))
        · rintro i x H1 hi ⟨G1, zs, s1, gl, fl, h1, rfl, dz⟩
          obtain ⟨e, he, hde⟩ := dxs.get hi
          have ze := szL_get he
          have hi2 := (List.getElem?_eq_some_iff.mp hi).1
          refine ⟨rfl, yesT ⟨_, rfl, _, rfl, _, _, rfl, rfl, G1, x, e, n - 1, rfl, s1.gh, hde.up s1.gg, by omega, by omega, by omega, fun v' G2 H2 s2 dv => ?_⟩⟩
          have h2 := s2.hh _ _ h1
          have gl2 := s2.nw2 h1 gl
          have dz2 := dz.up s2.gg
          have s2 := s1.trans s2
          rw [show (n - 1).toNat = m by omega] at dv
          refine ⟨_, h2, lt (by omega), G2, zs ++ [v'], s2.mut gl2 fl rfl, gl2, fl, upd_same, by rw [List.length_append]; rfl, ?_⟩
          rw [List.take_add_one, he, List.map_append]
          exact dz2.append (.one dv)
        · rintro H1 ⟨G1, zs, s1, gl, fl, h1, hz, dz⟩
          rw [List.take_of_length_le (by omega)] at dz
          refine ⟨l, zs, rfl, .of h1, fun p H2 n2 => ⟨by show 2 ≤ sizeLine; decide, fun p2 H3 n3 => ?_⟩⟩
          obtain ⟨G2, s2, g2, k2, _⟩ := s1.know2 n2
          obtain ⟨G3, s3, g3, k3, _⟩ := s2.know2 n3
          refine q _ G3 H3 s3 ?_
          rw [hm]
          exact .tup k3 (.cons (.str _) (.one (.tup (g3 _ _ k2) (dz.up (g2.trans g3)))))
      | true =>
        have ha := hat rfl
        refine iteBF (ib_tuple_list ds) (⟨_, rfl, _, _, rfl, rfl, _, rfl, iteDT c ⟨_, rfl, _, _, "tuple", rfl, hdH, ok_tuple, _, rfl, iteBT (ib_tuple_tuple ds) ?_⟩⟩)
        refine ⟨_, rfl, a, rfl, ⟨_, .of (gh _ _ ha)⟩, fun l hl => ?_⟩
        refine lc_tup (xs := xs) (fun i H' => ∃ (G' : Hp) (zs : List V), Stq G H G' H' ∧ G' l = none ∧ H l = none ∧ H' l = some (.lst zs) ∧ zs.length = i ∧ DaAll G' zs ((ds.take i).map (frz m))) ?_ ?_ ?_ ?_
        · obtain ⟨s1, gl, h1, fl⟩ := (Stq.refl gh).loc2 (p := l) (o := .lst []) ⟨hl, rfl⟩
          exact ⟨G, [], s1, gl, fl, h1, rfl, .nil⟩
        · rintro i H' hi ⟨G', zs, s1, _⟩
          exact .of (s1.hh _ _ (gh _ _ ha))
        · rintro i x H1 hi ⟨G1, zs, s1, gl, fl, h1, rfl, dz⟩
          obtain ⟨e, he, hde⟩ := dxs.get hi
          have ze := szL_get he
          have hi2 := (List.getElem?_eq_some_iff.mp hi).1
          refine ⟨rfl, yesT ⟨_, rfl, _, rfl, _, _, rfl, rfl, G1, x, e, n - 1, rfl, s1.gh, hde.up s1.gg, by omega, by omega, by omega, fun v' G2 H2 s2 dv => ?_⟩⟩
          have h2 := s2.hh _ _ h1
          have gl2 := s2.nw2 h1 gl
          have dz2 := dz.up s2.gg
          have s2 := s1.trans s2
          rw [show (n - 1).toNat = m by omega] at dv
          refine ⟨_, h2, lt (by omega), G2, zs ++ [v'], s2.mut gl2 fl rfl, gl2, fl, upd_same, by rw [List.length_append]; rfl, ?_⟩
          rw [List.take_add_one, he, List.map_append]
          exact dz2.append (.one dv)
        · rintro H1 ⟨G1, zs, s1, gl, fl, h1, hz, dz⟩
          rw [List.take_of_length_le (by omega)] at dz
          refine ⟨l, zs, rfl, .of h1, fun p H2 n2 => ⟨by show 2 ≤ sizeLine; decide, fun p2 H3 n3 => ?_⟩⟩
          obtain ⟨G2, s2, g2, k2, _⟩ := s1.know2 n2
          obtain ⟨G3, s3, g3, k3, _⟩ := s2.know2 n3
          refine q _ G3 H3 s3 ?_
          rw [hm]
          exact .tup k3 (.cons (.str _) (.one (.tup (g3 _ _ k2) (dz.up (g2.trans g3)))))
  · have c : ¬ 0 < n := dec_not c
    exact ⟨_, rfl, _, _, rfl, rfl, _, rfl, iteDF c (iteF ⟨_, rfl, out (by omega)⟩)⟩
theorem ok_frozen (Z : Zs mg) (D : Ds K mg) : ∀ k, Cal P w K mg base "_law_frozen" k ["value", "deep"] (spFrozen k)
  | 0 => no_level D.d_law_frozen fun vs H Q E h => by
    obtain ⟨G, v, d, n, _, _, _, _, h0, h1, _⟩ := h
    omega
  | k + 1 => ok_frozen_step Z D k (ok_frozen Z D k)


theorem ok_is_number (Z : Zs mg) (D : Ds K mg) : Cal P w K mg base "is_number" 1 ["value", "low", "high"] spIsNum := by
  refine Def.cal D.d_is_number sc_is_number (fun vs H Q E h => ?_) (fun f cdv A outer s H vs Q E hr h => ?_)
  · obtain ⟨v, d, lo, hi, rfl, hd, q⟩ := h
    rfl
  obtain ⟨v, d, lo, hi, rfl, hd, q⟩ := h
  refine ⟨_, (pss_one (ps_ret (pe_and (pe_callB call_isD (by rfl) Z.z_isinstance (by decide +kernel) (pa_cons (pv 0) (pa_cons (pe_bltn (v := .ty "int") (by rfl) Z.z_int (by decide +kernel) rfl) pa_nil))) (pe_and (pe_not (pe_callB call_isD (by rfl) Z.z_isinstance (by decide +kernel) (pa_cons (pv 0) (pa_cons (pe_bltn (v := .ty "bool") (by rfl) Z.z_bool (by decide +kernel) rfl) pa_nil)))) (pe_one (pe_chain op_le op_le (pv 1) (pv 0) (pv 2))))))), ?_⟩
  refine ⟨_, rfl, v, d, "int", rfl, hd, ok_int, _, rfl, ?_⟩
  rcases hd.kind with ⟨rfl, rfl⟩ | ⟨b, rfl, rfl⟩ | ⟨i, rfl, rfl⟩ | ⟨j, rfl, rfl⟩ | ⟨a, xs, ds, t, rfl, ha, hat, hal, dxs, rfl⟩
  · exact iteBF ib_none_int q
  · exact iteBT (ib_bool_int b) ⟨_, rfl, _, _, "bool", rfl, hd, ok_bool, _, rfl, _, rfl, iteBF (by rw [ib_bool_bool]; rfl) q⟩
  · refine iteBT (ib_int_int i) ⟨_, rfl, _, _, "bool", rfl, hd, ok_bool, _, rfl, _, rfl, iteBT (by rw [ib_int_bool]; rfl) ⟨_, rfl, _, rfl, _, _, rfl, rfl, _, rfl, ?_⟩⟩
    have q : Q (.bl (decide (lo ≤ i) && decide (i ≤ hi))) H := q
    refine ite2 (fun c => ⟨_, rfl, _, _, rfl, rfl, ?_⟩) (fun c => ?_)
    · rw [c, Bool.true_and] at q
      exact q
    · rw [Bool.eq_false_iff.mpr c, Bool.false_and] at q
      exact q
  · exact iteBF (ib_str_int j) q
  · cases t with
    | true => exact iteBF (ib_tuple_int ds) q
    | false => exact iteBF (ib_list_int ds) q
theorem ok_is_point (Z : Zs mg) (D : Ds K mg) (c_is_number : Cal P w K mg base "is_number" 1 ["value", "low", "high"] spIsNum) : Cal P w K mg base "is_point" 2 ["points", "value"] spIsPoint := by
  refine Def.cal D.d_is_point sc_is_point (fun vs H Q E h => ?_) (fun f cdv A outer s H vs Q E hr h => ?_)
  · obtain ⟨v, d, n, rfl, hd, q⟩ := h
    rfl
  obtain ⟨v, d, n, rfl, hd, q⟩ := h
  refine ⟨_, (pss_one (ps_ret (pe_cal c_is_number (hr.mono (by first | decide | omega)) (by rfl) (pa_cons (pv 1) (pa_cons pe_int (pa_cons (pe_op op_sub (pv 0) pe_int) pa_nil)))))), ?_⟩
  exact ⟨_, rfl, _, rfl, _, _, rfl, rfl, v, d, 0, n - 1, rfl, hd, q⟩
theorem ok_is_move_on (Z : Zs mg) (D : Ds K mg) (c_is_point : Cal P w K mg base "is_point" 2 ["points", "value"] spIsPoint) : Cal P w K mg base "is_move_on" 3 ["points", "value"] spIsMoveOn := by
  refine Def.cal D.d_is_move_on sc_is_move_on (fun vs H Q E h => ?_) (fun f cdv A outer s H vs Q E hr h => ?_)
  · obtain ⟨G, v, d, n, rfl, gh, hd, sz, q⟩ := h
    rfl
  obtain ⟨G, v, d, n, rfl, gh, hd, sz, q⟩ := h
  refine ⟨_, (pss_cons (ps_if (PW.pt (pw_or (pt_not (pt_val (pe_callB call_isD (by rfl) Z.z_isinstance (by decide +kernel) (pa_cons (pv 1) (pa_cons (pe_bltn (v := .ty "tuple") (by rfl) Z.z_tuple (by decide +kernel) rfl) pa_nil))))) (pw_or1 (pt_cmp (pc_neI (pe_callB call_len (by rfl) Z.z_len (by decide +kernel) (pa_cons (pv 1) pa_nil)) (pv 0)) (nomark _))))) (pss_one (ps_ret pe_bl)) pss_nil)
      (pss_one (ps_ret (pe_and (pe_callB (cr_all rfl) (by rfl) Z.z_all (by decide +kernel) (pa_cons (pe_lc (own := [("image", 2)]) (g := gName 2) (tt := tYes) (by rfl) sc_is_move_on.nd (pi_tup (pv 1)) (blkOk_by (N := ["points", "value", "image"]) (sc := defScope s_is_move_on) (by decide +kernel)) (fun _ _ _ _ _ => pg_name (i := 2) sc_is_move_on.nd rfl (Or.inl rfl)) (fun _ _ _ _ _ => pts_nil) (fun _ _ _ _ _ => (pe_cal c_is_point (hr.mono (by first | decide | omega)) (by rfl) (pa_cons (pv 0) (pa_cons (pv 2) pa_nil))))) pa_nil)) (pe_one (pe_cmpR (op_eqLI hr.units) (pe_callB call_sortT (by rfl) Z.z_sorted (by decide +kernel) (pa_cons (pv 1) pa_nil)) (pe_listRgN rfl (by rfl) Z.z_list (prg_1 (by rfl) Z.z_range (pv 0))) (nomark _))))))), ?_⟩
  have hdH := hd.up gh
  refine ⟨_, rfl, v, d, "tuple", rfl, hdH, ok_tuple, _, rfl, ?_⟩
  rcases hd.kind with ⟨rfl, rfl⟩ | ⟨b, rfl, rfl⟩ | ⟨j, rfl, rfl⟩ | ⟨j, rfl, rfl⟩ | ⟨a, xs, ds, t, rfl, ha, hat, hal, dxs, rfl⟩
  · exact iteBT (by rw [ib_none_tuple]; rfl) (iteT (q H (.refl _)))
  · exact iteBT (by rw [ib_bool_tuple]; rfl) (iteT (q H (.refl _)))
  · exact iteBT (by rw [ib_int_tuple]; rfl) (iteT (q H (.refl _)))
  · exact iteBT (by rw [ib_str_tuple]; rfl) (iteT (q H (.refl _)))
  cases t with
  | false => exact iteBT (by rw [show instB (sqD false ds) "tuple" = false from ib_list_tuple ds]; rfl) (iteT (q H (.refl _)))
  | true =>
    have ha := hat rfl
    have lx := dxs.length
    have cn : mvOn n (sqD true ds) = (decide (((ds.length : Nat) : Int) = n) && (ds.all (fun d => isNum d 0 (n - 1)) && decide ((intsOf ds).Perm (rngI n)))) := rfl
    refine iteBF (by rw [show instB (sqD true ds) "tuple" = true from ib_tuple_tuple ds]; rfl) ⟨_, rfl, _, _, rfl, .inr ⟨xs, .of (gh _ _ ha), rfl⟩, _, rfl, _, _, rfl, rfl, _, rfl, ite2 (fun c => ?_) (fun c => ?_)⟩
    · have c : ¬ ((xs.length : Nat) : Int) = n := nd_of c
      have q1 := q H (.refl _)
      rw [cn, decide_eq_false (by omega), Bool.false_and] at q1
      exact q1
    have c : ((xs.length : Nat) : Int) = n := nd_not c
    have szl : ds.length ≤ 1000000 := by
      have := szL_len ds
      have := sqD_sz true ds
      omega
    rw [cn, decide_eq_true (by omega), Bool.true_and] at q
    refine ⟨_, rfl, a, rfl, ⟨_, .of (gh _ _ ha)⟩, fun l hl => ?_⟩
    refine lc_tup (xs := xs) (fun j H' => Same H H' ∧ H l = none ∧ H' l = some (.lst (((ds.take j).map fun d => isNum d 0 (n - 1)).map V.bl))) ?_ ?_ ?_ ?_
    · exact ⟨New.same (o := .lst []) ⟨hl, rfl⟩, hl, upd_same⟩
    · rintro j H' hj ⟨g2, _⟩
      exact .of (g2 _ _ (gh _ _ ha))
    · rintro j x H2 hj ⟨g2, fl, hz⟩
      obtain ⟨e, he, hde⟩ := dxs.get hj
      have hj2 := (List.getElem?_eq_some_iff.mp hj).1
      refine ⟨rfl, yesT ⟨_, rfl, _, rfl, x, e, n, rfl, hde.up (gh.trans g2), _, hz, ?_, fun b o h => ?_, fl, ?_⟩⟩
      · rw [List.length_map, List.length_map, List.length_take, sizeLine_eq]
        omega
      · rw [upd_ne (ne_of_none h fl)]
        exact g2 _ _ h
      · rw [upd_same, List.take_add_one, he, List.map_append, List.map_append]
        rfl
    · rintro H2 ⟨g2, fl, hz⟩
      rw [List.take_of_length_le (by omega)] at hz
      refine ⟨l, _, rfl, .of hz, _, rfl, ?_⟩
      have ea : (ds.map fun d => isNum d 0 (n - 1)).all id = ds.all fun d => isNum d 0 (n - 1) := by rw [List.all_map]; rfl
      refine ite2 (fun c2 => ?_) (fun c2 => ?_)
      · rw [ea] at c2
        rw [c2, Bool.true_and] at q
        have ed := ints_isNum c2
        have ex : xs = (intsOf ds).map V.int := vals_int (G := G) (by rw [← ed]; exact dxs)
        refine ⟨_, rfl, a, intsOf ds, rfl, ?_, fun ns' p H3 pm srt n3 => ?_⟩
        · rw [← ex]
          exact .of (g2 _ _ (gh _ _ ha))
        refine ⟨_, rfl, n, rfl, .of_le (by decide) (by omega) (by decide) (by omega), fun r H4 n4 => ?_⟩
        have h4 := n4.at
        rw [rgV_rngI] at h4
        refine ⟨p, r, ns', rngI n, rfl, rfl, .of (n4.else n3.at), .of h4, ?_⟩
        have q4 := q H4 (g2.trans (n3.same.trans n4.same))
        have e : decide (ns' = rngI n) = decide ((intsOf ds).Perm (rngI n)) := by
          refine decide_eq_decide.mpr ⟨fun h => h ▸ pm.symm, fun h => ?_⟩
          exact List.Perm.eq_of_pairwise (le := (· ≤ ·)) (fun a b _ _ h1 h2 => Int.le_antisymm h1 h2) srt (rngI_sorted n) (pm.trans h)
        rw [e]
        exact q4
      · rw [ea] at c2
        rw [Bool.eq_false_iff.mpr c2, Bool.false_and] at q
        exact q H2 g2


theorem ok_move (Z : Zs mg) (D : Ds K mg) (c__law_take : Cal P w K mg base "_law_take" 2 ["store", "many"] spTake) (c__law_drawn : Cal P w K mg base "_law_drawn" 3 ["store", "things", "many"] spDrawn) : Cal P w K mg base "_law_move" 4 ["store", "points"] spMove := by
  refine Def.cal D.d_law_move sc_law_move (fun vs H Q E h => ?_) (fun f cdv A outer s H vs Q E hr h => ?_)
  · obtain ⟨S, G, n, rfl, wd, h0, h1, q⟩ := h
    rfl
  obtain ⟨S, G, n, rfl, wd, h0, h1, q⟩ := h
  refine ⟨_, (pss_cons (ps_set (i := 2) sc_law_move.nd rfl (Or.inl rfl) (pe_cal c__law_take (hr.mono (by first | decide | omega)) (by rfl) (pa_cons (pv 0) (pa_cons pe_int pa_nil))))
      (pss_cons (ps_set (i := 3) sc_law_move.nd rfl (Or.inl rfl) (pe_listRgN rfl (by rfl) Z.z_list (prg_1 (by rfl) Z.z_range (pv 1))))
      (pss_cons (ps_if (PW.pt (pw_or (pt_cmp (pc_eqI (pv 2) pe_int) (nomark _)) (pw_or1 (pt_cmp (pc_lt (pv 1) pe_int) (nomark _))))) (pss_one (ps_ret (pe_callTy call_tupleN (by rfl) Z.z_tuple (by decide +kernel) (pa_cons (pv 3) pa_nil)))) pss_nil)
      (pss_cons (ps_if (pt_cmp (pc_lt (pv 2) pe_int) (nomark _)) (pss_cons (ps_set (i := 4) sc_law_move.nd rfl (Or.inl rfl) pe_int)
      (Evl.pss_cut (ps_if (pt_cmp (pc_gt (pv 2) pe_int) (nomark _)) (pss_one (ps_set (i := 4) sc_law_move.nd rfl (Or.inl rfl) (pe_op op_add pe_int (pe_cal c__law_take (hr.mono (by first | decide | omega)) (by rfl) (pa_cons (pv 0) (pa_cons (pe_op op_sub (pv 1) pe_int) pa_nil)))))) pss_nil)
      (pss_cons (ps_set (i := 5) sc_law_move.nd rfl (Or.inl rfl) (pe_cal c__law_drawn (hr.mono (by first | decide | omega)) (by rfl) (pa_cons (pv 0) (pa_cons (pv 3) (pa_cons (pv 4) pa_nil)))))
      (pss_cons (ps_for PassesOwn.never rfl (pi_range1 (by rfl) Z.z_range (pa_cons (pv 4) pa_nil)) (pg_name (i := 6) sc_law_move.nd rfl (Or.inl rfl)) (pss_one (ps_asg (pe_ix ix_list (pv 5) (pe_op op_mod (pe_callTy call_int1 (by rfl) Z.z_int (by decide +kernel) (pa_cons (pe_op op_add (pv 6) pe_int) pa_nil)) (pv 4)) (fun _ _ => rfl)) (pg_sub (pv 3) (pe_ix ix_list (pv 5) (pv 6) (fun _ _ => rfl)) set_listN))))
      (pss_one (ps_ret (pe_callTy call_tupleN (by rfl) Z.z_tuple (by decide +kernel) (pa_cons (pv 3) pa_nil)))))))) pss_nil)
      (pss_cons (ps_if (pt_cmp (pc_eqI (pv 2) pe_int) (nomark _)) (pss_cons (ps_set (i := 7) sc_law_move.nd rfl (Or.inr rfl) (pe_op op_add pe_int (pe_cal c__law_take (hr.mono (by first | decide | omega)) (by rfl) (pa_cons (pv 0) (pa_cons (pe_op op_sub (pv 1) pe_int) pa_nil)))))
      (pss_one (ps_ret (pe_callTy call_tupleN (by rfl) Z.z_tuple (by decide +kernel) (pa_cons (pe_lc (own := [("k", 6)]) (g := gName 6) (tt := tYes) (by rfl) sc_law_move.nd (pi_range1 (by rfl) Z.z_range (pa_cons (pv 1) pa_nil)) (blkOk_by (N := ["store", "points", "pick", "image", "size", "ring_row", "k", "shift"]) (sc := defScope s_law_move) (by decide +kernel)) (fun _ _ _ _ _ => pg_name (i := 6) sc_law_move.nd rfl (Or.inl rfl)) (fun _ _ _ _ _ => pts_nil) (fun _ _ _ _ _ => (pe_op op_mod (pe_callTy call_int1 (by rfl) Z.z_int (by decide +kernel) (pa_cons (pe_op op_add (pv 6) (pv 7)) pa_nil)) (pv 1)))) pa_nil))))) pss_nil)
      (pss_cons (ps_if (pt_cmp (pc_eqI (pv 2) pe_int) (nomark _)) (pss_one (ps_ret (pe_callTy call_tupleN (by rfl) Z.z_tuple (by decide +kernel) (pa_cons (pe_lc (own := [("k", 6)]) (g := gName 6) (tt := tYes) (by rfl) sc_law_move.nd (pi_range1 (by rfl) Z.z_range (pa_cons (pv 1) pa_nil)) (blkOk_by (N := ["store", "points", "pick", "image", "size", "ring_row", "k", "shift"]) (sc := defScope s_law_move) (by decide +kernel)) (fun _ _ _ _ _ => pg_name (i := 6) sc_law_move.nd rfl (Or.inl rfl)) (fun _ _ _ _ _ => pts_nil) (fun _ _ _ _ _ => (pe_op op_sub (pe_op op_sub (pv 1) pe_int) (pv 6)))) pa_nil)))) pss_nil)
      (pss_one (ps_ret (pe_callTy call_tupleN (by rfl) Z.z_tuple (by decide +kernel) (pa_cons (pe_cal c__law_drawn (hr.mono (by first | decide | omega)) (by rfl) (pa_cons (pv 0) (pa_cons (pv 3) (pa_cons (pv 1) pa_nil)))) pa_nil)))))))))), ?_⟩
  refine ⟨_, rfl, S, G, 8, rfl, wd, by omega, fun d1 H1 p0 p1 s1 => ?_⟩
  refine ⟨_, rfl, n, rfl, .of_le (by decide) (by omega) (by decide) (by omega), fun l H2 n2 => ?_⟩
  obtain ⟨s2, gl, hl, fl⟩ := s1.loc n2
  rw [rgV_rngI] at hl
  have ret : ∀ (H3 : Hp) (L : List Int), Go S G H G H3 → H3 l = some (.lst (L.map V.int)) → IsMv L n → ∃ p ys, [V.ref l] = [.ref p] ∧ SqL K H3 p ys ∧ ∀ p2 H4, New H3 p2 (.tup ys) H4 → Q (.ref p2) H4 := fun H3 L s3 h3 mv =>
    ⟨l, _, rfl, .of h3, fun p2 H4 n4 => by
      obtain ⟨G4, s4, _, k4, _⟩ := s3.know n4
      exact q p2 L G4 H4 s4 k4 mv⟩
  have plain := ret H2 _ s2 hl rngI_mv
  refine ⟨_, rfl, _, _, rfl, rfl, _, rfl, ite2 (fun c => iteT ⟨_, rfl, plain⟩) (fun c => ?_)⟩
  refine ⟨_, rfl, _, _, rfl, rfl, _, rfl, ite2 (fun c => ⟨_, rfl, plain⟩) (fun c => ?_)⟩
  have hn : ¬ n < 2 := dec_not c
  refine ⟨_, rfl, _, _, rfl, rfl, _, rfl, ite2 (fun c => ?_) (fun c => ?_)⟩
  · -- a ring
    refine ⟨fun σ' H' => ∃ m, σ' = [some (.ref S.a), some (.int n), some (.int d1), some (.ref l), some (.int m), none, none, none] ∧ Go S G H G H' ∧ H' l = some (.lst ((rngI n).map V.int)) ∧ 2 ≤ m ∧ m ≤ n, ?_, ?_⟩
    · refine ⟨_, rfl, _, _, rfl, rfl, _, rfl, ite2 (fun c => ?_) (fun c => ⟨2, rfl, s2, hl, by omega, by omega⟩)⟩
      refine ⟨_, rfl, _, rfl, _, _, rfl, rfl, S, G, n - 1, rfl, s2.wd, by omega, fun t H3 t0 t1 s3 => ⟨_, _, rfl, rfl, 2 + t, rfl, s2.trans s3, s3.hh hl (s2.ns fl), by omega, by omega⟩⟩
    · rintro σ' H3 ⟨m, rfl, s3, hl, m0, m1⟩
      refine ⟨_, rfl, _, rfl, _, rfl, S, G, l, _, m, rfl, s3.wd, .inl hl, by rw [List.length_map, rngI_len]; omega, by omega, by omega, fun r ys rest H4 s4 gr fr hr pm0 hy => ?_⟩
      obtain ⟨rs, ms, rfl, rfl, pm⟩ := perm_ints pm0
      rw [List.length_map, List.length_map, rngI_len] at hy
      have hm : rs.length = m.toNat := by omega
      have hl4 := s4.hh hl (s3.ns fl)
      have fr3 := fr
      have s4 := s3.trans s4
      have fr := s3.fresh fr
      have nd : rs.Nodup := (List.nodup_append.mp (pm.nodup_iff.mpr (rngI_nodup n))).1
      have hb : ∀ x ∈ rs, 0 ≤ x ∧ x < n := fun x hx => rngI_mem.mp (pm.mem_iff.mp (List.mem_append_left _ hx))
      have hb2 : ∀ x ∈ rs, 0 ≤ x ∧ x < ((n.toNat : Nat) : Int) := fun x hx => by have := hb x hx; omega
      have nrl : r ≠ l := fun z => by rw [z] at fr3; rw [hl] at fr3; cases fr3
      refine ⟨_, rfl, m, rfl, by omega, by omega, for_range (lo := 0) (n := m.toNat) (fun i σ' H' => ∃ (L : List Int) (y6 : Option V), σ' = [some (.ref S.a), some (.int n), some (.int d1), some (.ref l), some (.int m), some (.ref r), y6, none] ∧ Go S G H G H' ∧ H' l = some (.lst (L.map V.int)) ∧ H' r = some (.lst (rs.map V.int)) ∧ Ring n.toNat rs i L) ⟨rngI n, none, rfl, s4, hl4, hr, Ring.start n rs⟩ ?_ ?_⟩
      · rintro i σ' H5 hi ⟨L, y6, rfl, s5, h5, hr5, R⟩
        obtain ⟨a, e1, e2, _⟩ := atI_ints (ns := rs) (d := (0 + (i : Int) + 1) % m) (Int.emod_nonneg _ (by omega)) (by have := Int.emod_lt_of_pos (0 + (i : Int) + 1) (show 0 < m by omega); omega)
        obtain ⟨b, f1, f2, _⟩ := atI_ints (ns := rs) (d := 0 + (i : Int)) (by omega) (by omega)
        rw [show (0 + (i : Int)).toNat = i by omega] at f1
        have e1 : rs[(i + 1) % rs.length]? = some a := by
          rw [← e1]
          congr 1
          rw [hm, show 0 + (i : Int) + 1 = (((i + 1 : Nat)) : Int) by omega]
          have : ((i + 1 : Nat) : Int) % m = (((i + 1) % m.toNat : Nat) : Int) := by
            rw [Int.natCast_emod, Int.toNat_of_nonneg (by omega)]
          rw [this]
          rfl
        have bb := hb b (List.mem_of_getElem? f1)
        refine ⟨_, rfl, _, rfl, _, _, rfl, rfl, .inl ⟨_, rfl, _, rfl, _, _, rfl, rfl, by omega, r, _, _, _, rfl, rfl, .of hr5, e2, ?_⟩⟩
        refine ⟨_, rfl, _, rfl, _, rfl, r, _, _, _, rfl, rfl, .of hr5, f2, l, _, b.toNat, rfl, by rw [Int.toNat_of_nonneg bb.1], h5, by rw [List.length_map, R.1]; omega, fun H6 e6 => ?_⟩
        refine ⟨L.set b.toNat a, _, rfl, s5.mut gl fl e6, ?_, upd_else e6 hr5 nrl, R.step nd hb2 f1 e1⟩
        rw [upd_at e6, List.map_set]
      · rintro σ' H5 ⟨L, y6, rfl, s5, h5, hr5, R⟩
        exact ⟨_, rfl, ret H5 L s5 h5 (Ring.mv h0 (by rw [hm]; exact R) hb)⟩
  refine ⟨_, rfl, _, _, rfl, rfl, _, rfl, ite2 (fun c => ?_) (fun c => ?_)⟩
  · -- a shift
    refine ⟨_, rfl, _, rfl, _, _, rfl, rfl, S, G, n - 1, rfl, s2.wd, by omega, fun t H3 t0 t1 s3 => ⟨_, _, rfl, rfl, ?_⟩⟩
    have s3 := s2.trans s3
    refine ⟨_, rfl, n, rfl, by omega, by omega, fun e he => ?_⟩
    refine lc_range (lo := 0) (n := n.toNat) (fun i H' => Go S G H G H' ∧ G e = none ∧ H e = none ∧ H' e = some (.lst (((List.range i).map fun (k : Nat) => ((k : Int) + (1 + t)) % n).map V.int))) ?_ ?_ ?_
    · obtain ⟨s4, ge, h4, fe⟩ := s3.loc (p := e) (o := .lst []) ⟨he, rfl⟩
      exact ⟨s4, ge, fe, h4⟩
    · rintro i H4 hi ⟨s4, ge, fe, h4⟩
      refine ⟨rfl, yesT ⟨_, rfl, _, rfl, _, _, rfl, rfl, .inl ⟨_, rfl, _, rfl, _, _, rfl, rfl, by omega, _, h4, ?_, s4.mut ge fe rfl, ge, fe, ?_⟩⟩⟩
      · rw [List.length_map, List.length_map, List.length_range]
        exact lt (by omega)
      · rw [upd_same, List.range_succ, List.map_append, List.map_append, Int.zero_add]
        rfl
    · rintro H4 ⟨s4, ge, fe, h4⟩
      refine ⟨e, _, rfl, .of h4, fun p H5 n5 => ?_⟩
      obtain ⟨G5, s5, _, k5, _⟩ := s4.know n5
      exact q p _ G5 H5 s5 k5 (shift_mv (by omega))
  refine ⟨_, rfl, _, _, rfl, rfl, _, rfl, ite2 (fun c => ?_) (fun c => ?_)⟩
  · -- turned about
    refine ⟨_, rfl, n, rfl, by omega, by omega, fun e he => ?_⟩
    refine lc_range (lo := 0) (n := n.toNat) (fun i H' => Go S G H G H' ∧ G e = none ∧ H e = none ∧ H' e = some (.lst (((List.range i).map fun (k : Nat) => n - 1 - (k : Int)).map V.int))) ?_ ?_ ?_
    · obtain ⟨s4, ge, h4, fe⟩ := s2.loc (p := e) (o := .lst []) ⟨he, rfl⟩
      exact ⟨s4, ge, fe, h4⟩
    · rintro i H4 hi ⟨s4, ge, fe, h4⟩
      refine ⟨rfl, yesT ⟨_, rfl, _, _, rfl, rfl, _, rfl, _, _, rfl, rfl, _, h4, ?_, s4.mut ge fe rfl, ge, fe, ?_⟩⟩
      · rw [List.length_map, List.length_map, List.length_range]
        exact lt (by omega)
      · rw [upd_same, List.range_succ, List.map_append, List.map_append, Int.zero_add]
        rfl
    · rintro H4 ⟨s4, ge, fe, h4⟩
      refine ⟨e, _, rfl, .of h4, fun p H5 n5 => ?_⟩
      obtain ⟨G5, s5, _, k5, _⟩ := s4.know n5
      exact q p _ G5 H5 s5 k5 (turn_mv h0)
  · refine ⟨_, rfl, _, rfl, _, rfl, S, G, l, _, n, rfl, s2.wd, .inl hl, by rw [List.length_map, rngI_len]; omega, by omega, by omega, fun r ys rest H4 s4 gr fr hr pm0 hy => ?_⟩
    obtain ⟨rs, ms, rfl, rfl, pm⟩ := perm_ints pm0
    rw [List.length_map, List.length_map, rngI_len] at hy
    have pl := pm.length_eq
    rw [List.length_append, rngI_len] at pl
    have e : ms = [] := List.eq_nil_of_length_eq_zero (by omega)
    subst e
    rw [List.append_nil] at pm
    refine ⟨r, _, rfl, .of hr, fun p H5 n5 => ?_⟩
    obtain ⟨G5, s5, _, k5, _⟩ := (s2.trans s4).know n5
    exact q p rs G5 H5 s5 k5 pm


theorem ok_store (Z : Zs mg) (D : Ds K mg) : Cal P w K mg base "_law_store" 1 ["script"] (spStore K) := by
  refine Def.cal D.d_law_store sc_law_store (fun vs H Q E h => ?_) (fun f cdv A outer s H vs Q E hr h => ?_)
  · obtain ⟨a, ns, rfl, hS, hn, q⟩ := h
    rfl
  obtain ⟨a, ns, rfl, hS, hn, q⟩ := h
  refine ⟨_, (pss_one (ps_ret (pe_lstN (pa_cons (pe_lc (own := [("cell", 1)]) (g := gName 1) (tt := tYes) (by rfl) sc_law_store.nd (pi_list (pe_slice sl_listN (pv 0) po_none (po_some pe_int))) (blkOk_by (N := ["script", "cell"]) (sc := defScope s_law_store) (by decide +kernel)) (fun _ _ _ _ _ => pg_name (i := 1) sc_law_store.nd rfl (Or.inl rfl)) (fun _ _ _ _ _ => pts_nil) (fun _ _ _ _ _ => (pe_callTy call_int1 (by rfl) Z.z_int (by decide +kernel) (pa_cons (pv 1) pa_nil)))) (pa_cons pe_int (pa_cons pe_int (pa_cons pe_int (pa_cons pe_int (pa_cons pe_int (pa_cons pe_int pa_nil)))))))))), ?_⟩
  refine ⟨_, rfl, _, rfl, a, _, rfl, hS, fun p H1 n1 => ?_⟩
  have h1 := n1.at
  have ec : cutV (ns.map V.int) none (some 63) = ns.map V.int := cut_all (n := 63) (by rw [List.length_map]; exact hn)
  rw [ec] at h1
  refine ⟨p, rfl, ⟨_, .of h1⟩, fun c hc => ?_⟩
  refine lc_list (xs := ns.map V.int) (fun i H' => Same H H' ∧ H c = none ∧ H' p = some (.lst (ns.map V.int)) ∧ c ≠ p ∧ H' c = some (.lst ((ns.take i).map V.int))) ?_ ?_ ?_ ?_
  · have nc : c ≠ p := (ne_of_none h1 hc).symm
    exact ⟨n1.same.trans (New.same (o := .lst []) ⟨hc, rfl⟩), n1.same.free hc, by rw [upd_ne nc.symm]; exact h1, nc, upd_same⟩
  · rintro i H' _ ⟨_, _, hp, _⟩
    exact .of hp
  · rintro i x H2 hx ⟨g, fc, hp, nc, hc2⟩
    have hi := (List.getElem?_eq_some_iff.mp hx).1
    rw [List.length_map] at hi
    have ex : x = V.int ns[i] := by
      rw [List.getElem?_map, List.getElem?_eq_getElem hi] at hx
      exact (Option.some.inj hx).symm
    subst ex
    refine ⟨rfl, yesT ⟨_, rfl, .inl ⟨_, rfl, _, hc2, by rw [List.length_map, List.length_take]; exact lt (by omega), fun b o h => ?_, fc, by rw [upd_ne nc.symm]; exact hp, nc, ?_⟩⟩⟩
    · rw [upd_ne (ne_of_none h fc)]
      exact g _ _ h
    · rw [upd_same, List.take_add_one, List.getElem?_eq_getElem hi, List.map_append]
      rfl
  · rintro H2 ⟨g, fc, hp, nc, hc2⟩
    rw [List.length_map, List.take_length] at hc2
    refine ⟨by show 7 ≤ sizeLine; decide, fun s H3 n3 => ?_⟩
    exact q ⟨s, c, ns⟩ H3 ⟨g.trans n3.same, g.free n3.fr, 0, 0, 0, 0, 0, 0, n3.at, n3.else hc2, Int.le_refl _⟩


def spAlone (K : PySem.W.Frag) (mg : Str → Option Value) : SpH := fun p vs H Q _ => ∃ (k : Nat) (nm : Str) (D d : Addr) (fs : List (Str × V)), vs = [.ref p.1] ∧ Es K mg k nm D ∧ ErrAt D d fs H p ∧ ∀ H', Same H H' → Q (.bl true) H'
theorem ok_alone_h (Z : Zs mg) (D : Ds K mg) : CalE P w K mg base "_law_alone" 1 ["error"] (spAlone K mg) := by
  refine Def.calE D.d_law_alone sc_law_alone (fun p vs H Q E h => ?_) (fun f cdv A outer s H vs Q E p hot hr h => ?_)
  · obtain ⟨k, nm, C, d, fs, rfl, es, er, q⟩ := h
    rfl
  obtain ⟨k, nm, C, d, fs, rfl, es, er, q⟩ := h
  have ec := es.ec
  obtain ⟨C_BadNumber, g_BadNumber, t_BadNumber⟩ := es.i_BadNumber
  obtain ⟨C_NotAPoint, g_NotAPoint, t_NotAPoint⟩ := es.i_NotAPoint
  obtain ⟨C_NotAMove, g_NotAMove, t_NotAMove⟩ := es.i_NotAMove
  obtain ⟨C_TooMany, g_TooMany, t_TooMany⟩ := es.i_TooMany
  obtain ⟨C_UnlikeSizes, g_UnlikeSizes, t_UnlikeSizes⟩ := es.i_UnlikeSizes
  obtain ⟨C_RepeatedPoint, g_RepeatedPoint, t_RepeatedPoint⟩ := es.i_RepeatedPoint
  obtain ⟨C_BadText, g_BadText, t_BadText⟩ := es.i_BadText
  obtain ⟨C_NotMade, g_NotMade, t_NotMade⟩ := es.i_NotMade
  obtain ⟨C_NotTight, g_NotTight, t_NotTight⟩ := es.i_NotTight
  obtain ⟨C_NotFull, g_NotFull, t_NotFull⟩ := es.i_NotFull
  obtain ⟨C_NotAFailing, g_NotAFailing, t_NotAFailing⟩ := es.i_NotAFailing
  obtain ⟨C_NotNeighbours, g_NotNeighbours, t_NotNeighbours⟩ := es.i_NotNeighbours
  obtain ⟨C_NotShorter, g_NotShorter, t_NotShorter⟩ := es.i_NotShorter
  obtain ⟨C_SameLength, g_SameLength, t_SameLength⟩ := es.i_SameLength
  obtain ⟨C_NoSuchLength, g_NoSuchLength, t_NoSuchLength⟩ := es.i_NoSuchLength
  obtain ⟨C_NotAnOrder, g_NotAnOrder, t_NotAnOrder⟩ := es.i_NotAnOrder
  obtain ⟨C_NotAChain, g_NotAChain, t_NotAChain⟩ := es.i_NotAChain
  obtain ⟨C_NotABase, g_NotABase, t_NotABase⟩ := es.i_NotABase
  obtain ⟨C_NotInside, g_NotInside, t_NotInside⟩ := es.i_NotInside
  obtain ⟨C_OrderMatters, g_OrderMatters, t_OrderMatters⟩ := es.i_OrderMatters
  obtain ⟨C_FullLot, g_FullLot, t_FullLot⟩ := es.i_FullLot
  obtain ⟨C_NotAWord, g_NotAWord, t_NotAWord⟩ := es.i_NotAWord
  obtain ⟨C_NotAColumn, g_NotAColumn, t_NotAColumn⟩ := es.i_NotAColumn
  obtain ⟨C_NotACount, g_NotACount, t_NotACount⟩ := es.i_NotACount
  obtain ⟨C_GameOver, g_GameOver, t_GameOver⟩ := es.i_GameOver
  obtain ⟨C_NotAllowed, g_NotAllowed, t_NotAllowed⟩ := es.i_NotAllowed
  obtain ⟨C_NothingToUndo, g_NothingToUndo, t_NothingToUndo⟩ := es.i_NothingToUndo
  obtain ⟨C_NothingToRedo, g_NothingToRedo, t_NothingToRedo⟩ := es.i_NothingToRedo
  obtain ⟨C_NothingKept, g_NothingKept, t_NothingKept⟩ := es.i_NothingKept
  obtain ⟨C_BadEdit, g_BadEdit, t_BadEdit⟩ := es.i_BadEdit
  obtain ⟨C_UnknownName, g_UnknownName, t_UnknownName⟩ := es.i_UnknownName
  obtain ⟨C_NotAPaper, g_NotAPaper, t_NotAPaper⟩ := es.i_NotAPaper
  obtain ⟨C_HeldorderError, g_HeldorderError, t_HeldorderError⟩ := es.iH
  refine ⟨_, (pss_cons (ps_set (i := 1) sc_law_alone.nd rfl (Or.inl rfl) (pe_lstN (pa_cons (pe_callB (call_isErr (d := d) ec List.mem_cons_self) (by rfl) Z.z_isinstance (by decide +kernel) (pa_cons (pv 0) (pa_cons (pe_cls (by rfl) g_BadNumber) pa_nil))) (pa_cons (pe_callB (call_isErr (d := d) ec List.mem_cons_self) (by rfl) Z.z_isinstance (by decide +kernel) (pa_cons (pv 0) (pa_cons (pe_cls (by rfl) g_NotAPoint) pa_nil))) (pa_cons (pe_callB (call_isErr (d := d) ec List.mem_cons_self) (by rfl) Z.z_isinstance (by decide +kernel) (pa_cons (pv 0) (pa_cons (pe_cls (by rfl) g_NotAMove) pa_nil))) pa_nil)))))
      (pss_cons (ps_set (i := 1) sc_law_alone.nd rfl (Or.inl rfl) (pe_op op_catN (pv 1) (pe_lstN (pa_cons (pe_callB (call_isErr (d := d) ec List.mem_cons_self) (by rfl) Z.z_isinstance (by decide +kernel) (pa_cons (pv 0) (pa_cons (pe_cls (by rfl) g_TooMany) pa_nil))) (pa_cons (pe_callB (call_isErr (d := d) ec List.mem_cons_self) (by rfl) Z.z_isinstance (by decide +kernel) (pa_cons (pv 0) (pa_cons (pe_cls (by rfl) g_UnlikeSizes) pa_nil))) (pa_cons (pe_callB (call_isErr (d := d) ec List.mem_cons_self) (by rfl) Z.z_isinstance (by decide +kernel) (pa_cons (pv 0) (pa_cons (pe_cls (by rfl) g_RepeatedPoint) pa_nil))) pa_nil))))))
      (pss_cons (ps_set (i := 1) sc_law_alone.nd rfl (Or.inl rfl) (pe_op op_catN (pv 1) (pe_lstN (pa_cons (pe_callB (call_isErr (d := d) ec List.mem_cons_self) (by rfl) Z.z_isinstance (by decide +kernel) (pa_cons (pv 0) (pa_cons (pe_cls (by rfl) g_BadText) pa_nil))) (pa_cons (pe_callB (call_isErr (d := d) ec List.mem_cons_self) (by rfl) Z.z_isinstance (by decide +kernel) (pa_cons (pv 0) (pa_cons (pe_cls (by rfl) g_NotMade) pa_nil))) (pa_cons (pe_callB (call_isErr (d := d) ec List.mem_cons_self) (by rfl) Z.z_isinstance (by decide +kernel) (pa_cons (pv 0) (pa_cons (pe_cls (by rfl) g_NotTight) pa_nil))) pa_nil))))))
      (pss_cons (ps_set (i := 1) sc_law_alone.nd rfl (Or.inl rfl) (pe_op op_catN (pv 1) (pe_lstN (pa_cons (pe_callB (call_isErr (d := d) ec List.mem_cons_self) (by rfl) Z.z_isinstance (by decide +kernel) (pa_cons (pv 0) (pa_cons (pe_cls (by rfl) g_NotFull) pa_nil))) (pa_cons (pe_callB (call_isErr (d := d) ec List.mem_cons_self) (by rfl) Z.z_isinstance (by decide +kernel) (pa_cons (pv 0) (pa_cons (pe_cls (by rfl) g_NotAFailing) pa_nil))) (pa_cons (pe_callB (call_isErr (d := d) ec List.mem_cons_self) (by rfl) Z.z_isinstance (by decide +kernel) (pa_cons (pv 0) (pa_cons (pe_cls (by rfl) g_NotNeighbours) pa_nil))) pa_nil))))))
      (pss_cons (ps_set (i := 1) sc_law_alone.nd rfl (Or.inl rfl) (pe_op op_catN (pv 1) (pe_lstN (pa_cons (pe_callB (call_isErr (d := d) ec List.mem_cons_self) (by rfl) Z.z_isinstance (by decide +kernel) (pa_cons (pv 0) (pa_cons (pe_cls (by rfl) g_NotShorter) pa_nil))) (pa_cons (pe_callB (call_isErr (d := d) ec List.mem_cons_self) (by rfl) Z.z_isinstance (by decide +kernel) (pa_cons (pv 0) (pa_cons (pe_cls (by rfl) g_SameLength) pa_nil))) (pa_cons (pe_callB (call_isErr (d := d) ec List.mem_cons_self) (by rfl) Z.z_isinstance (by decide +kernel) (pa_cons (pv 0) (pa_cons (pe_cls (by rfl) g_NoSuchLength) pa_nil))) pa_nil))))))
      (pss_cons (ps_set (i := 1) sc_law_alone.nd rfl (Or.inl rfl) (pe_op op_catN (pv 1) (pe_lstN (pa_cons (pe_callB (call_isErr (d := d) ec List.mem_cons_self) (by rfl) Z.z_isinstance (by decide +kernel) (pa_cons (pv 0) (pa_cons (pe_cls (by rfl) g_NotAnOrder) pa_nil))) (pa_cons (pe_callB (call_isErr (d := d) ec List.mem_cons_self) (by rfl) Z.z_isinstance (by decide +kernel) (pa_cons (pv 0) (pa_cons (pe_cls (by rfl) g_NotAChain) pa_nil))) (pa_cons (pe_callB (call_isErr (d := d) ec List.mem_cons_self) (by rfl) Z.z_isinstance (by decide +kernel) (pa_cons (pv 0) (pa_cons (pe_cls (by rfl) g_NotABase) pa_nil))) pa_nil))))))
      (pss_cons (ps_set (i := 1) sc_law_alone.nd rfl (Or.inl rfl) (pe_op op_catN (pv 1) (pe_lstN (pa_cons (pe_callB (call_isErr (d := d) ec List.mem_cons_self) (by rfl) Z.z_isinstance (by decide +kernel) (pa_cons (pv 0) (pa_cons (pe_cls (by rfl) g_NotInside) pa_nil))) (pa_cons (pe_callB (call_isErr (d := d) ec List.mem_cons_self) (by rfl) Z.z_isinstance (by decide +kernel) (pa_cons (pv 0) (pa_cons (pe_cls (by rfl) g_OrderMatters) pa_nil))) (pa_cons (pe_callB (call_isErr (d := d) ec List.mem_cons_self) (by rfl) Z.z_isinstance (by decide +kernel) (pa_cons (pv 0) (pa_cons (pe_cls (by rfl) g_FullLot) pa_nil))) pa_nil))))))
      (pss_cons (ps_set (i := 1) sc_law_alone.nd rfl (Or.inl rfl) (pe_op op_catN (pv 1) (pe_lstN (pa_cons (pe_callB (call_isErr (d := d) ec List.mem_cons_self) (by rfl) Z.z_isinstance (by decide +kernel) (pa_cons (pv 0) (pa_cons (pe_cls (by rfl) g_NotAWord) pa_nil))) (pa_cons (pe_callB (call_isErr (d := d) ec List.mem_cons_self) (by rfl) Z.z_isinstance (by decide +kernel) (pa_cons (pv 0) (pa_cons (pe_cls (by rfl) g_NotAColumn) pa_nil))) (pa_cons (pe_callB (call_isErr (d := d) ec List.mem_cons_self) (by rfl) Z.z_isinstance (by decide +kernel) (pa_cons (pv 0) (pa_cons (pe_cls (by rfl) g_NotACount) pa_nil))) pa_nil))))))
      (pss_cons (ps_set (i := 1) sc_law_alone.nd rfl (Or.inl rfl) (pe_op op_catN (pv 1) (pe_lstN (pa_cons (pe_callB (call_isErr (d := d) ec List.mem_cons_self) (by rfl) Z.z_isinstance (by decide +kernel) (pa_cons (pv 0) (pa_cons (pe_cls (by rfl) g_GameOver) pa_nil))) (pa_cons (pe_callB (call_isErr (d := d) ec List.mem_cons_self) (by rfl) Z.z_isinstance (by decide +kernel) (pa_cons (pv 0) (pa_cons (pe_cls (by rfl) g_NotAllowed) pa_nil))) (pa_cons (pe_callB (call_isErr (d := d) ec List.mem_cons_self) (by rfl) Z.z_isinstance (by decide +kernel) (pa_cons (pv 0) (pa_cons (pe_cls (by rfl) g_NothingToUndo) pa_nil))) pa_nil))))))
      (pss_cons (ps_set (i := 1) sc_law_alone.nd rfl (Or.inl rfl) (pe_op op_catN (pv 1) (pe_lstN (pa_cons (pe_callB (call_isErr (d := d) ec List.mem_cons_self) (by rfl) Z.z_isinstance (by decide +kernel) (pa_cons (pv 0) (pa_cons (pe_cls (by rfl) g_NothingToRedo) pa_nil))) (pa_cons (pe_callB (call_isErr (d := d) ec List.mem_cons_self) (by rfl) Z.z_isinstance (by decide +kernel) (pa_cons (pv 0) (pa_cons (pe_cls (by rfl) g_NothingKept) pa_nil))) (pa_cons (pe_callB (call_isErr (d := d) ec List.mem_cons_self) (by rfl) Z.z_isinstance (by decide +kernel) (pa_cons (pv 0) (pa_cons (pe_cls (by rfl) g_BadEdit) pa_nil))) pa_nil))))))
      (pss_cons (ps_set (i := 1) sc_law_alone.nd rfl (Or.inl rfl) (pe_op op_catN (pv 1) (pe_lstN (pa_cons (pe_callB (call_isErr (d := d) ec List.mem_cons_self) (by rfl) Z.z_isinstance (by decide +kernel) (pa_cons (pv 0) (pa_cons (pe_cls (by rfl) g_UnknownName) pa_nil))) (pa_cons (pe_callB (call_isErr (d := d) ec List.mem_cons_self) (by rfl) Z.z_isinstance (by decide +kernel) (pa_cons (pv 0) (pa_cons (pe_cls (by rfl) g_NotAPaper) pa_nil))) pa_nil)))))
      (pss_cons (ps_set (i := 2) sc_law_alone.nd rfl (Or.inl rfl) (pe_cmp (pc_eqI (pe_callB call_len_seq (by rfl) Z.z_len (by decide +kernel) (pa_cons (pe_lcH (own := [("entry", 3)]) (g := gName 3) (hot_in hot List.mem_cons_self) sc_law_alone.nd (ih_list (pv 1)) (blkOk_by (N := ["error", "of", "one", "entry"]) (sc := defScope s_law_alone) (by decide +kernel)) (fun _ _ _ _ _ => pg_name (i := 3) sc_law_alone.nd rfl (Or.inl rfl)) (fun _ _ _ _ _ => pts_one (pt_val (pv 3))) (fun _ _ _ _ _ => (pv 3))) pa_nil)) pe_int) (nomark _)))
      (pss_one (ps_ret (pe_and (pv 2) (pe_and (pe_callB (call_isErr (d := d) ec List.mem_cons_self) (by rfl) Z.z_isinstance (by decide +kernel) (pa_cons (pv 0) (pa_cons (pe_cls (by rfl) g_HeldorderError) pa_nil))) (pe_one (pe_callB (call_isErr (d := d) ec List.mem_cons_self) (by rfl) Z.z_isinstance (by decide +kernel) (pa_cons (pv 0) (pa_cons (pe_bltn (v := .ty "ValueError") (by rfl) Z.z_ValueError (by decide +kernel) rfl) pa_nil)))))))))))))))))))), ?_⟩
  refine ⟨_, rfl, .ref C_BadNumber, .ref C_BadNumber, _, fs, rfl, fun u r => r, t_BadNumber, er, _, rfl, .ref C_NotAPoint, .ref C_NotAPoint, _, fs, rfl, fun u r => r, t_NotAPoint, er, _, rfl, .ref C_NotAMove, .ref C_NotAMove, _, fs, rfl, fun u r => r, t_NotAMove, er, (by show 3 ≤ sizeLine; decide), fun a0 H0 n0 => ?_⟩
  have e0 := er.new n0
  have s0 : Same H H0 := n0.same
  have h0 := n0.at
  refine ⟨_, rfl, _, rfl, .ref C_TooMany, .ref C_TooMany, _, fs, rfl, fun u r => r, t_TooMany, e0, _, rfl, .ref C_UnlikeSizes, .ref C_UnlikeSizes, _, fs, rfl, fun u r => r, t_UnlikeSizes, e0, _, rfl, .ref C_RepeatedPoint, .ref C_RepeatedPoint, _, fs, rfl, fun u r => r, t_RepeatedPoint, e0, (by show 3 ≤ sizeLine; decide), fun b1 G1 m1 => ⟨a0, b1, _, _, rfl, rfl, m1.else h0, m1.at, (by show 6 ≤ sizeLine; decide), fun a1 H1 n1 => ?_⟩⟩
  have e1 := (e0.new m1).new n1
  have s1 := (s0.trans m1.same).trans n1.same
  have h1 := n1.at
  clear e0 s0 h0 m1 n0
  refine ⟨_, rfl, _, rfl, .ref C_BadText, .ref C_BadText, _, fs, rfl, fun u r => r, t_BadText, e1, _, rfl, .ref C_NotMade, .ref C_NotMade, _, fs, rfl, fun u r => r, t_NotMade, e1, _, rfl, .ref C_NotTight, .ref C_NotTight, _, fs, rfl, fun u r => r, t_NotTight, e1, (by show 3 ≤ sizeLine; decide), fun b2 G2 m2 => ⟨a1, b2, _, _, rfl, rfl, m2.else h1, m2.at, (by show 9 ≤ sizeLine; decide), fun a2 H2 n2 => ?_⟩⟩
  have e2 := (e1.new m2).new n2
  have s2 := (s1.trans m2.same).trans n2.same
  have h2 := n2.at
  clear e1 s1 h1 m2 n1
  refine ⟨_, rfl, _, rfl, .ref C_NotFull, .ref C_NotFull, _, fs, rfl, fun u r => r, t_NotFull, e2, _, rfl, .ref C_NotAFailing, .ref C_NotAFailing, _, fs, rfl, fun u r => r, t_NotAFailing, e2, _, rfl, .ref C_NotNeighbours, .ref C_NotNeighbours, _, fs, rfl, fun u r => r, t_NotNeighbours, e2, (by show 3 ≤ sizeLine; decide), fun b3 G3 m3 => ⟨a2, b3, _, _, rfl, rfl, m3.else h2, m3.at, (by show 12 ≤ sizeLine; decide), fun a3 H3 n3 => ?_⟩⟩
  have e3 := (e2.new m3).new n3
  have s3 := (s2.trans m3.same).trans n3.same
  have h3 := n3.at
  clear e2 s2 h2 m3 n2
  refine ⟨_, rfl, _, rfl, .ref C_NotShorter, .ref C_NotShorter, _, fs, rfl, fun u r => r, t_NotShorter, e3, _, rfl, .ref C_SameLength, .ref C_SameLength, _, fs, rfl, fun u r => r, t_SameLength, e3, _, rfl, .ref C_NoSuchLength, .ref C_NoSuchLength, _, fs, rfl, fun u r => r, t_NoSuchLength, e3, (by show 3 ≤ sizeLine; decide), fun b4 G4 m4 => ⟨a3, b4, _, _, rfl, rfl, m4.else h3, m4.at, (by show 15 ≤ sizeLine; decide), fun a4 H4 n4 => ?_⟩⟩
  have e4 := (e3.new m4).new n4
  have s4 := (s3.trans m4.same).trans n4.same
  have h4 := n4.at
  clear e3 s3 h3 m4 n3
  refine ⟨_, rfl, _, rfl, .ref C_NotAnOrder, .ref C_NotAnOrder, _, fs, rfl, fun u r => r, t_NotAnOrder, e4, _, rfl, .ref C_NotAChain, .ref C_NotAChain, _, fs, rfl, fun u r => r, t_NotAChain, e4, _, rfl, .ref C_NotABase, .ref C_NotABase, _, fs, rfl, fun u r => r, t_NotABase, e4, (by show 3 ≤ sizeLine; decide), fun b5 G5 m5 => ⟨a4, b5, _, _, rfl, rfl, m5.else h4, m5.at, (by show 18 ≤ sizeLine; decide), fun a5 H5 n5 => ?_⟩⟩
  have e5 := (e4.new m5).new n5
  have s5 := (s4.trans m5.same).trans n5.same
  have h5 := n5.at
  clear e4 s4 h4 m5 n4
  refine ⟨_, rfl, _, rfl, .ref C_NotInside, .ref C_NotInside, _, fs, rfl, fun u r => r, t_NotInside, e5, _, rfl, .ref C_OrderMatters, .ref C_OrderMatters, _, fs, rfl, fun u r => r, t_OrderMatters, e5, _, rfl, .ref C_FullLot, .ref C_FullLot, _, fs, rfl, fun u r => r, t_FullLot, e5, (by show 3 ≤ sizeLine; decide), fun b6 G6 m6 => ⟨a5, b6, _, _, rfl, rfl, m6.else h5, m6.at, (by show 21 ≤ sizeLine; decide), fun a6 H6 n6 => ?_⟩⟩
  have e6 := (e5.new m6).new n6
  have s6 := (s5.trans m6.same).trans n6.same
  have h6 := n6.at
  clear e5 s5 h5 m6 n5
  refine ⟨_, rfl, _, rfl, .ref C_NotAWord, .ref C_NotAWord, _, fs, rfl, fun u r => r, t_NotAWord, e6, _, rfl, .ref C_NotAColumn, .ref C_NotAColumn, _, fs, rfl, fun u r => r, t_NotAColumn, e6, _, rfl, .ref C_NotACount, .ref C_NotACount, _, fs, rfl, fun u r => r, t_NotACount, e6, (by show 3 ≤ sizeLine; decide), fun b7 G7 m7 => ⟨a6, b7, _, _, rfl, rfl, m7.else h6, m7.at, (by show 24 ≤ sizeLine; decide), fun a7 H7 n7 => ?_⟩⟩
  have e7 := (e6.new m7).new n7
  have s7 := (s6.trans m7.same).trans n7.same
  have h7 := n7.at
  clear e6 s6 h6 m7 n6
  refine ⟨_, rfl, _, rfl, .ref C_GameOver, .ref C_GameOver, _, fs, rfl, fun u r => r, t_GameOver, e7, _, rfl, .ref C_NotAllowed, .ref C_NotAllowed, _, fs, rfl, fun u r => r, t_NotAllowed, e7, _, rfl, .ref C_NothingToUndo, .ref C_NothingToUndo, _, fs, rfl, fun u r => r, t_NothingToUndo, e7, (by show 3 ≤ sizeLine; decide), fun b8 G8 m8 => ⟨a7, b8, _, _, rfl, rfl, m8.else h7, m8.at, (by show 27 ≤ sizeLine; decide), fun a8 H8 n8 => ?_⟩⟩
  have e8 := (e7.new m8).new n8
  have s8 := (s7.trans m8.same).trans n8.same
  have h8 := n8.at
  clear e7 s7 h7 m8 n7
  refine ⟨_, rfl, _, rfl, .ref C_NothingToRedo, .ref C_NothingToRedo, _, fs, rfl, fun u r => r, t_NothingToRedo, e8, _, rfl, .ref C_NothingKept, .ref C_NothingKept, _, fs, rfl, fun u r => r, t_NothingKept, e8, _, rfl, .ref C_BadEdit, .ref C_BadEdit, _, fs, rfl, fun u r => r, t_BadEdit, e8, (by show 3 ≤ sizeLine; decide), fun b9 G9 m9 => ⟨a8, b9, _, _, rfl, rfl, m9.else h8, m9.at, (by show 30 ≤ sizeLine; decide), fun a9 H9 n9 => ?_⟩⟩
  have e9 := (e8.new m9).new n9
  have s9 := (s8.trans m9.same).trans n9.same
  have h9 := n9.at
  clear e8 s8 h8 m9 n8
  refine ⟨_, rfl, _, rfl, .ref C_UnknownName, .ref C_UnknownName, _, fs, rfl, fun u r => r, t_UnknownName, e9, _, rfl, .ref C_NotAPaper, .ref C_NotAPaper, _, fs, rfl, fun u r => r, t_NotAPaper, e9, (by show 2 ≤ sizeLine; decide), fun b10 G10 m10 => ⟨a9, b10, _, _, rfl, rfl, m10.else h9, m10.at, (by show 32 ≤ sizeLine; decide), fun a10 H10 n10 => ?_⟩⟩
  have e10 := (e9.new m10).new n10
  have s10 := (s9.trans m10.same).trans n10.same
  have h10 := n10.at
  clear e9 s9 h9 m10 n9
  have one := one_of k es.lt
  generalize hbs : ([k == 0, k == 1, k == 2, k == 3, k == 4, k == 5, k == 6, k == 7, k == 8, k == 9, k == 10, k == 11, k == 12, k == 13, k == 14, k == 15, k == 16, k == 17, k == 18, k == 19, k == 20, k == 21, k == 22, k == 23, k == 24, k == 25, k == 26, k == 27, k == 28, k == 29, k == 30, k == 31] : List Bool) = bs at one
  have hx : H10 a10 = some (.lst (bs.map V.bl)) := by
    rw [← hbs]
    exact h10
  refine ⟨_, rfl, a10, rfl, ⟨_, .of hx⟩, fun l hl => lc_list (xs := bs.map V.bl) (fun i H' => ∃ zs, H' l = some (.lst zs) ∧ zs.length = ((bs.take i).filter id).length ∧ zs.length ≤ i ∧ Same H10 H') ?_ ?_ ?_ ?_⟩
  · exact ⟨[], upd_same, rfl, Nat.le_refl _, same_put (Same.refl _) hl⟩
  · rintro i H' - ⟨zs, -, -, -, s⟩
    exact .of (s _ _ hx)
  · rintro i x H' hi ⟨zs, hz, lz, iz, s⟩
    have hb : bs[i]?.map V.bl = some x := by rw [← List.getElem?_map]; exact hi
    obtain ⟨b, eb, rfl⟩ := Option.map_eq_some_iff.mp hb
    have tk : bs.take (i + 1) = bs.take i ++ [b] := by rw [List.take_add_one, eb]; rfl
    have lb : bs.length = 32 := by rw [← hbs]; rfl
    have lt : i < 32 := lb ▸ (List.getElem?_eq_some_iff.mp eb).1
    refine ⟨rfl, _, rfl, b, rfl, ?_⟩
    cases b with
    | true =>
      refine iteT ⟨_, rfl, zs, hz, ?_, zs ++ [.bl true], upd_same, ?_, ?_, same_put s hl⟩
      · exact Nat.lt_of_le_of_lt iz (Nat.lt_of_lt_of_le lt (by decide))
      · rw [tk, List.filter_append, List.length_append, List.length_append, lz]; rfl
      · rw [List.length_append]; exact Nat.succ_le_succ iz
    | false =>
      refine iteF ⟨zs, hz, ?_, Nat.le_succ_of_le iz, s⟩
      rw [tk, List.filter_append, List.length_append, lz]; rfl
  · rintro H' ⟨zs, hz, lz, -, s⟩
    rw [List.length_map, List.take_length, one] at lz
    have er' := e10.same s
    refine ⟨l, _, rfl, .inl (.of hz), _, _, rfl, rfl, ?_⟩
    rw [lz]
    refine ⟨_, rfl, true, rfl, iteT ⟨_, rfl, .ref C_HeldorderError, .ref C_HeldorderError, _, fs, rfl, fun u r => r, t_HeldorderError, er', true, rfl, iteT ⟨_, rfl, .ty "ValueError", _, _, fs, rfl, fun u r => r, es.iV, er', q _ (s10.trans s)⟩⟩⟩


def fitsB (n : Int) : PyData → Bool
  | .tuple ds => mvD (.tuple ds) && (decide (n < 0) || decide ((ds.length : Int) = n))
  | _ => false
def spFits : Sp := fun vs H Q _ => ∃ (G : Hp) (v : V) (d : PyData) (n : Int), vs = [v, .int n] ∧ Same G H ∧ Da G v d ∧ szD d ≤ 1000000 ∧ ∀ H', Same H H' → Q (.bl (fitsB n d)) H'
theorem ok_move_fits (Z : Zs mg) (D : Ds K mg) (c__law_is_whole : Cal P w K mg base "_law_is_whole" 1 ["value"] spIsWhole) : Cal P w K mg base "_law_move_fits" 2 ["value", "points"] spFits := by
  refine Def.cal D.d_law_move_fits sc_law_move_fits (fun vs H Q E h => ?_) (fun f cdv A outer s H vs Q E hr h => ?_)
  · obtain ⟨G, v, d, n, rfl, gh, hd, sz, q⟩ := h
    rfl
  obtain ⟨G, v, d, n, rfl, gh, hd, sz, q⟩ := h
  refine ⟨_, (pss_cons (ps_if (PW.pt (pw_or (pt_not (pt_val (pe_callB call_isD (by rfl) Z.z_isinstance (by decide +kernel) (pa_cons (pv 0) (pa_cons (pe_bltn (v := .ty "tuple") (by rfl) Z.z_tuple (by decide +kernel) rfl) pa_nil))))) (pw_or1 (pt_cmp (pc_gt (pe_callB call_len (by rfl) Z.z_len (by decide +kernel) (pa_cons (pv 0) pa_nil)) pe_int) (nomark _))))) (pss_one (ps_ret pe_bl)) pss_nil)
      (Evl.pss_cut (ps_if (PW.pt (pw_and (pt_cmp (pc_ge (pv 1) pe_int) (nomark _)) (pw_and1 (pt_cmp (pc_neI (pe_callB call_len (by rfl) Z.z_len (by decide +kernel) (pa_cons (pv 0) pa_nil)) (pv 1)) (nomark _))))) (pss_one (ps_ret pe_bl)) pss_nil)
      (pss_cons (ps_set (i := 2) sc_law_move_fits.nd rfl (Or.inl rfl) pe_dnewK)
      (pss_cons (ps_for PassesOwn.never rfl (pi_tup (pv 0)) (pg_name (i := 3) sc_law_move_fits.nd rfl (Or.inl rfl)) (pss_cons (ps_if (PW.pt (pw_or (pt_not (pt_val (pe_cal c__law_is_whole (hr.mono (by first | decide | omega)) (by rfl) (pa_cons (pv 3) pa_nil)))) (pw_or (pt_cmp (pc_lt (pv 3) pe_int) (nomark _)) (pw_or (pt_cmp (pc_ge (pv 3) (pe_callB call_len (by rfl) Z.z_len (by decide +kernel) (pa_cons (pv 0) pa_nil))) (nomark _)) (pw_or1 (pt_cmp (pc_din (hu_of hr) (pv 3) (pv 2)))))))) (pss_one (ps_ret pe_bl)) pss_nil)
      (pss_one (ps_dput (hu_of hr) (pv 2) (pv 3) pe_bl rfl))))
      (pss_one (ps_ret pe_bl)))))), ?_⟩
  have hdH := hd.up gh
  have no : ∀ {x : Prop}, fitsB n d = false → Q (.bl false) H := fun e => by
    have := q H (Same.refl _)
    rwa [e] at this
  rcases hd.kind with ⟨rfl, rfl⟩ | ⟨b, rfl, rfl⟩ | ⟨j, rfl, rfl⟩ | ⟨j, rfl, rfl⟩ | ⟨a, xs, ds, t, rfl, ha, hat, hal, dxs, rfl⟩
  · exact ⟨_, rfl, _, _, "tuple", rfl, hdH, ok_tuple, _, rfl, iteBT (by rw [ib_none_tuple]; rfl) (no (x := True) rfl)⟩
  · exact ⟨_, rfl, _, _, "tuple", rfl, hdH, ok_tuple, _, rfl, iteBT (by rw [ib_bool_tuple]; rfl) (no (x := True) rfl)⟩
  · exact ⟨_, rfl, _, _, "tuple", rfl, hdH, ok_tuple, _, rfl, iteBT (by rw [ib_int_tuple]; rfl) (no (x := True) rfl)⟩
  · exact ⟨_, rfl, _, _, "tuple", rfl, hdH, ok_tuple, _, rfl, iteBT (by rw [ib_str_tuple]; rfl) (no (x := True) rfl)⟩
  cases t with
  | false => exact ⟨_, rfl, _, _, "tuple", rfl, hdH, ok_tuple, _, rfl, iteBT (by rw [show sqD false ds = .list ds from rfl, ib_list_tuple]; rfl) (no (x := True) rfl)⟩
  | true =>
    have ha := hat rfl
    have lx := dxs.length
    refine ⟨_, rfl, _, _, "tuple", rfl, hdH, ok_tuple, _, rfl, iteBF (by rw [show sqD true ds = .tuple ds from rfl, ib_tuple_tuple]; rfl) ?_⟩
    refine ⟨_, rfl, _, xs.length, rfl, HasL.lenV (.inr (gh _ _ ha)), _, _, rfl, rfl, _, rfl, ite2 (fun c => ?_) (fun c => ?_)⟩
    · have c : 12 < ((xs.length : Nat) : Int) := dec_of c
      refine no (x := True) ?_
      show (mvD (.tuple ds) && _) = false
      rw [mvD_long (by omega), Bool.false_and]
    have c : ¬ 12 < ((xs.length : Nat) : Int) := dec_not c
    have l12 : xs.length ≤ 12 := by omega
    refine ⟨fun σ' H' => σ' = [some (.ref a), some (.int n), none, none] ∧ H' = H ∧ (n < 0 ∨ ((xs.length : Nat) : Int) = n), ?_, ?_⟩
    · refine ⟨_, rfl, _, _, rfl, rfl, _, rfl, ite2 (fun c => ?_) (fun c => iteF ⟨rfl, rfl, .inl (by have := dec_not c; omega)⟩)⟩
      have c0 : 0 ≤ n := dec_of c
      refine ⟨_, rfl, _, xs.length, rfl, HasL.lenV (.inr (gh _ _ ha)), _, rfl, _, _, rfl, rfl, _, rfl, ite2 (fun c => ?_) (fun c => ⟨rfl, rfl, .inr (nd_not c)⟩)⟩
      have c1 : ¬ ((xs.length : Nat) : Int) = n := nd_of c
      refine no (x := True) ?_
      show (mvD (.tuple ds) && (decide (n < 0) || decide ((ds.length : Int) = n))) = false
      rw [decide_eq_false (show ¬ n < 0 by omega), decide_eq_false (show ¬ (ds.length : Int) = n by rw [← lx]; exact c1), Bool.or_false, Bool.and_false]
    rintro σ' H' ⟨rfl, rfl, hn⟩
    have eqB : fitsB n (.tuple ds) = mvD (.tuple ds) := by
      show (mvD (.tuple ds) && (decide (n < 0) || decide ((ds.length : Int) = n))) = _
      have : (decide (n < 0) || decide ((ds.length : Int) = n)) = true := by
        rcases hn with z | z
        · rw [decide_eq_true z, Bool.true_or]
        · rw [decide_eq_true (show (ds.length : Int) = n by rw [← lx]; exact z), Bool.or_true]
      rw [this, Bool.and_true]
    rw [show sqD true ds = PyData.tuple ds from rfl, eqB] at q
    refine fun l hl => ?_
    have sl : ∀ {o : HO}, Same H' (upd H' l o) := fun {o} => same_put (Same.refl _) hl
    have bad : ∀ {H2 : Hp}, Same H' H2 → (mvD (.tuple ds) = true → False) → Q (.bl false) H2 := fun {H2} s no => by
      have e : mvD (.tuple ds) = false := by
        cases e : mvD (.tuple ds) with
        | true => exact (no e).elim
        | false => rfl
      have := q H2 s
      rwa [e] at this
    refine ⟨_, rfl, a, rfl, ⟨_, .of (sl _ _ (gh _ _ ha))⟩, for_tup (K := K) (a := a) (xs := xs) (fun i σ' H2 => ∃ (kvs : List (Key × V)) (ms : List Int) (y3 : Option V), σ' = [some (.ref a), some (.int n), some (.ref l), y3] ∧ Same H' H2 ∧ H2 l = some (.dK kvs) ∧ kvs.length ≤ i ∧
      ds.take i = ms.map PyData.int ∧ (∀ k ∈ ms, 0 ≤ k ∧ k < (xs.length : Nat)) ∧ ms.Nodup ∧ ∀ k : Int, (valV kvs (Sum.inl k)).isSome = decide (k ∈ ms)) ?_ ?_ ?_ ?_⟩
    · exact ⟨[], [], none, rfl, sl, upd_same, Nat.le_refl _, rfl, fun k hk => (by cases hk), List.nodup_nil, fun k => rfl⟩
    · rintro i σ' H2 - ⟨kvs, ms, y3, rfl, s2, -⟩
      exact .of (s2 _ _ (gh _ _ ha))
    · rintro i x σ' H2 hx ⟨kvs, ms, y3, rfl, s2, h2, lk, em, rg, nd, mem⟩
      obtain ⟨e, he, hde⟩ := dxs.get hx
      have lt := (List.getElem?_eq_some_iff.mp hx).1
      have step := List.take_add_one (l := ds) (i := i)
      rw [he, em] at step
      have hde2 := hde.up (gh.trans s2)
      have isMv : mvD (.tuple ds) = true → ∃ j, e = .int j ∧ 0 ≤ j ∧ j < (xs.length : Nat) ∧ j ∉ ms := fun z => by
        obtain ⟨ns, ed, mv, -⟩ := mvD_ints z
        have ed := PyData.tuple.inj ed
        have ln : ns.length = xs.length := by rw [lx, ed, List.length_map]
        rw [ed, List.getElem?_map] at he
        obtain ⟨j, hj, rfl⟩ := Option.map_eq_some_iff.mp he
        have jr := mv.mem.mp (List.mem_of_getElem? hj)
        refine ⟨j, rfl, jr.1, by rw [← ln]; exact jr.2, fun m => ?_⟩
        rw [ed, ← List.map_take] at em
        have em' : ns.take i = ms := by
          have := congrArg intsOf em
          rwa [intsOf_map, intsOf_map] at this
        rw [← em'] at m
        obtain ⟨k, hk, ek⟩ := List.mem_iff_getElem.mp m
        rw [List.getElem_take] at ek
        have ki : k < i := by rw [List.length_take] at hk; omega
        have nd2 := List.pairwise_iff_getElem.mp mv.nodup k i (by rw [List.length_take] at hk; omega) (by omega) ki
        exact nd2 (ek.trans (Option.some.inj ((List.getElem?_eq_getElem (by omega)).symm.trans hj)).symm)
      refine ⟨_, rfl, x, e, rfl, hde2, _, rfl, ?_⟩
      cases hde with
      | int j =>
        refine iteF ⟨_, rfl, _, _, rfl, rfl, _, rfl, ite2 (fun c => ?_) (fun c => ?_)⟩
        · have c : j < 0 := dec_of c
          exact bad s2 fun z => by
            obtain ⟨k, ek, k0, -⟩ := isMv z
            cases ek
            omega
        have c0 : ¬ j < 0 := dec_not c
        refine ⟨_, rfl, _, rfl, _, xs.length, rfl, HasL.lenV (.inr (s2 _ _ (gh _ _ ha))), _, _, rfl, rfl, _, rfl, ite2 (fun c => ?_) (fun c => ?_)⟩
        · have c : ((xs.length : Nat) : Int) ≤ j := dec_of c
          exact bad s2 fun z => by
            obtain ⟨k, ek, -, k1, -⟩ := isMv z
            cases ek
            omega
        have c1 : ¬ ((xs.length : Nat) : Int) ≤ j := dec_not c
        refine ⟨_, rfl, _, rfl, l, _, rfl, DGet.k (k := Sum.inl j) h2, _, rfl, ?_⟩
        rw [mem j]
        refine ite2 (fun c => ?_) (fun c => ?_)
        · have c : j ∈ ms := dec_of c
          exact bad s2 fun z => by
            obtain ⟨k, ek, -, -, k2⟩ := isMv z
            cases ek
            exact k2 c
        have c2 : j ∉ ms := dec_not c
        refine ⟨_, rfl, _, rfl, l, _, rfl, DPut.k (k := Sum.inl j) h2 (lt_of_len lk lt l12), ?_⟩
        refine ⟨_, ms ++ [j], _, rfl, same_put s2 hl, upd_same, Nat.le_trans (length_putK _ _ _) (by omega), by rw [step, List.map_append]; rfl, fun k hk => ?_, ?_, fun k => ?_⟩
        · rcases List.mem_append.mp hk with z | z
          · exact rg k z
          · rw [List.mem_singleton.mp z]
            omega
        · refine List.nodup_append.mpr ⟨nd, List.pairwise_singleton _ _, fun a ha b hb e => ?_⟩
          rw [List.mem_singleton.mp hb] at e
          rw [e] at ha
          exact c2 ha
        · rw [valV_put]
          by_cases z : (Sum.inl k : Key) = Sum.inl j
          · rw [if_pos z]
            have : k = j := Sum.inl.inj z
            rw [this]
            simp
          · rw [if_neg z, mem k]
            have : k ≠ j := fun e => z (by rw [e])
            simp [this]
      | _ => exact iteT (bad s2 fun z => by obtain ⟨k, ek, -⟩ := isMv z; cases ek)
    · rintro σ' H2 ⟨kvs, ms, y3, rfl, s2, h2, lk, em, rg, nd, mem⟩
      rw [lx, List.take_length] at em
      have ln : ms.length = ds.length := by rw [em, List.length_map]
      have ok : mvD (.tuple ds) = true := by
        rw [em]
        have pm : (rngI (ms.length : Nat)).Perm ms := perm_of_subset nd (fun k hk => rngI_mem.mpr (by have := rg k hk; omega)) (by rw [rngI_len]; omega)
        exact mvD_mv (n := (ms.length : Nat)) (by omega) pm.symm (by omega)
      have := q H2 s2
      rwa [ok] at this


def spRenamed : Sp := fun vs H Q _ => ∃ (G : Hp) (a b : Addr) (ns bs : List Int) (n : Int), vs = [.ref a, .ref b] ∧ Same G H ∧ G a = some (.tup (ns.map V.int)) ∧ G b = some (.tup (bs.map V.int)) ∧ IsMv ns n ∧ IsMv bs n ∧ 0 ≤ n ∧ n ≤ 13 ∧
  ∀ (p : Addr) (ms : List Int) (G' H' : Hp), Stq G H G' H' → G' p = some (.tup (ms.map V.int)) → IsMv ms n → Q (.ref p) H'
theorem ok_renamed (Z : Zs mg) (D : Ds K mg) : Cal P w K mg base "_law_renamed" 1 ["move", "by"] spRenamed := by
  refine Def.cal D.d_law_renamed sc_law_renamed (fun vs H Q E h => ?_) (fun f cdv A outer s H vs Q E hr h => ?_)
  · obtain ⟨G, a, b, ns, bs, n, rfl, gh, ha, hb, mn, mb, n0, n13, q⟩ := h
    rfl
  obtain ⟨G, a, b, ns, bs, n, rfl, gh, ha, hb, mn, mb, n0, n13, q⟩ := h
  refine ⟨_, (pss_cons (ps_set (i := 2) sc_law_renamed.nd rfl (Or.inl rfl) (pe_op op_repL (pe_lstN (pa_cons pe_int pa_nil)) (pe_callB call_len_seq (by rfl) Z.z_len (by decide +kernel) (pa_cons (pv 0) pa_nil))))
      (pss_cons (ps_for PassesOwn.never rfl (pi_range1 (by rfl) Z.z_range (pa_cons (pe_callB call_len_seq (by rfl) Z.z_len (by decide +kernel) (pa_cons (pv 0) pa_nil)) pa_nil)) (pg_name (i := 3) sc_law_renamed.nd rfl (Or.inl rfl)) (pss_one (ps_asg (pe_ix ix_tup (pv 1) (pe_ix ix_tup (pv 0) (pv 3) (fun _ _ => rfl)) (fun _ _ => rfl)) (pg_sub (pv 2) (pe_ix ix_tup (pv 1) (pv 3) (fun _ _ => rfl)) set_listN))))
      (pss_one (ps_ret (pe_callTy call_tupleN (by rfl) Z.z_tuple (by decide +kernel) (pa_cons (pv 2) pa_nil)))))), ?_⟩
  have ln := mn.len
  have lb := mb.len
  have S0 := Stq.refl gh
  refine ⟨(by show 1 ≤ sizeLine; decide), fun z H1 n1 => ?_⟩
  obtain ⟨s1, gz, hz, fz⟩ := S0.loc2 n1
  have look : ∀ {cs : List Int} {c : Int} {H' : Hp}, IsMv cs n → inR n c → atI (cs.map V.int) c = some (.int (stp cs c)) := fun {cs c H'} mc ic => by
    obtain ⟨x, e1, e2, -⟩ := atI_ints (ns := cs) ic.1 (by have := mc.len; have := ic.2; omega)
    rw [e2]
    rw [(stp_at mc ic).1] at e1
    rw [Option.some.inj e1]
  refine ⟨_, rfl, a, _, rfl, .inr (.of (s1.gh _ _ ha)), z, _, _, rfl, rfl, hz, by rw [List.length_map]; omega, by rw [List.length_map]; omega, by rw [List.length_map]; show 1 * _ ≤ sizeLine; exact Nat.le_trans (show _ ≤ 13 by omega) (by decide), fun l H2 n2 => ?_⟩
  obtain ⟨s2, gl, hl, fl⟩ := s1.loc2 n2
  have e0 : (List.replicate ((((ns.map V.int).length : Nat) : Int)).toNat [V.int 0]).flatten = (List.replicate ns.length (0 : Int)).map V.int := by
    rw [List.length_map]
    have : ∀ m : Nat, (List.replicate m [V.int 0]).flatten = (List.replicate m (0 : Int)).map V.int := fun m => by
      induction m with
      | zero => rfl
      | succ m ih => rw [List.replicate_succ, List.flatten_cons, ih]; rfl
    exact this _
  rw [e0] at hl
  refine ⟨_, rfl, a, _, rfl, .inr (.of (s2.gh _ _ ha)), _, rfl, by rw [List.length_map]; omega, by rw [List.length_map]; omega, ?_⟩
  rw [List.length_map]
  refine for_range (lo := 0) (n := ((ns.length : Nat) : Int).toNat) (fun i σ' H' => ∃ (L : List Int) (y3 : Option V), σ' = [some (.ref a), some (.ref b), some (.ref l), y3] ∧ Stq G H G H' ∧ H' l = some (.lst (L.map V.int)) ∧ L.length = n.toNat ∧ ∀ k : Nat, k < i → L[(stp bs k).toNat]? = some (stp bs (stp ns k)))
    ⟨_, none, rfl, s2, hl, by rw [List.length_replicate]; omega, fun k hk => absurd hk (Nat.not_lt_zero k)⟩ ?_ ?_
  · rintro i σ' H3 hi ⟨L, y3, rfl, s3, h3, lL, hL⟩
    have ii : inR n (0 + (i : Int)) := ⟨by omega, by omega⟩
    have i1 := (stp_at mn ii).2
    have i2 := (stp_at mb i1).2
    have i3 := (stp_at mb ii).2
    refine ⟨_, rfl, _, rfl, _, rfl, a, _, _, _, rfl, rfl, .of (s3.gh _ _ ha), look (H' := H3) mn ii, b, _, _, _, rfl, rfl, .of (s3.gh _ _ hb), look (H' := H3) mb i1, ?_⟩
    refine ⟨_, rfl, _, rfl, _, rfl, b, _, _, _, rfl, rfl, .of (s3.gh _ _ hb), look (H' := H3) mb ii, l, _, (stp bs (0 + (i : Int))).toNat, rfl, ?_, h3, ?_, fun H4 e4 => ?_⟩
    · have := i3.1
      rw [Int.toNat_of_nonneg this]
    · rw [List.length_map]
      have := i3.1
      have := i3.2
      omega
    refine ⟨L.set (stp bs (0 + (i : Int))).toNat (stp bs (stp ns (0 + (i : Int)))), _, rfl, s3.mut gl fl e4, by rw [upd_at e4, List.map_set], by rw [List.length_set]; exact lL, fun k hk => ?_⟩
    rw [Int.zero_add]
    by_cases e : k = i
    · subst e
      have := i3.1
      have := i3.2
      rw [Int.zero_add] at *
      rw [List.getElem?_set_self (by omega)]
    · have ne : stp bs (i : Int) ≠ stp bs (k : Int) := fun z => e (by have := stp_inj mb (p := (i : Int)) (q := (k : Int)) ⟨by omega, by omega⟩ ⟨by omega, by omega⟩ z; omega)
      have k3 := (stp_at mb (p := (k : Int)) ⟨by omega, by omega⟩).2
      have := k3.1
      have := i3.1
      rw [Int.zero_add] at *
      rw [List.getElem?_set_ne (by omega)]
      exact hL k (by omega)
  · rintro σ' H3 ⟨L, y3, rfl, s3, h3, lL, hL⟩
    refine ⟨_, rfl, l, _, rfl, .of h3, fun p H4 n4 => ?_⟩
    obtain ⟨G4, s4, g4, k4, -⟩ := s3.know2 n4
    exact q p L G4 H4 s4 k4 (renamed_mv n0 mn mb lL fun k hk => hL k (by omega))


theorem sum_ge : ∀ {Z : List Int}, (∀ z ∈ Z, 1 ≤ z) → ∀ z ∈ Z, z ≤ Z.sum
  | [], _, z, h => by cases h
  | a :: r, p, z, h => by
    have pr : ∀ z ∈ r, 1 ≤ z := fun z hz => p z (List.mem_cons_of_mem _ hz)
    have r0 : 0 ≤ r.sum := sum_pos pr
    have a1 := p a List.mem_cons_self
    rw [List.sum_cons]
    rcases List.mem_cons.mp h with e | h
    · omega
    · have := sum_ge pr z h
      omega
where sum_pos : ∀ {Z : List Int}, (∀ z ∈ Z, 1 ≤ z) → 0 ≤ Z.sum
  | [], _ => by simp
  | a :: r, p => by
    have := sum_pos fun z hz => p z (List.mem_cons_of_mem a hz)
    have := p a List.mem_cons_self
    rw [List.sum_cons]
    omega
theorem sum_take {Z : List Int} (p : ∀ z ∈ Z, 1 ≤ z) (k : Nat) : (Z.take k).sum ≤ Z.sum := by
  have e : Z.sum = (Z.take k).sum + (Z.drop k).sum := by rw [← List.sum_append, List.take_append_drop]
  have := sum_ge.sum_pos fun z hz => p z (List.mem_of_mem_drop (i := k) hz)
  omega
def spBlocks : Sp := fun vs H Q _ => ∃ (S : Sr) (G : Hp) (n : Int), vs = [.ref S.a, .int n] ∧ Wd S G H ∧ 0 ≤ n ∧ n ≤ 12 ∧
  ∀ (l : Addr) (xs : List V) (G' H' : Hp), Go S G H G' H' → H l = none → G' l = none → H' l = some (.lst xs) → 0 < xs.length → xs.length ≤ 4 → (∀ x ∈ xs, ∃ p ms, x = .ref p ∧ G' p = some (.tup (ms.map V.int)) ∧ IsMv ms n) → Q (.ref l) H'
theorem ok_block_moves (Z : Zs mg) (D : Ds K mg) (c__law_take : Cal P w K mg base "_law_take" 2 ["store", "many"] spTake) : Cal P w K mg base "_law_block_moves" 3 ["store", "points"] spBlocks := by
  refine Def.cal D.d_law_block_moves sc_law_block_moves (fun vs H Q E h => ?_) (fun f cdv A outer s H vs Q E hr h => ?_)
  · obtain ⟨S, G, n, rfl, wd, n0, n12, q⟩ := h
    rfl
  obtain ⟨S, G, n, rfl, wd, n0, n12, q⟩ := h
  refine ⟨_, (pss_cons (ps_set (i := 2) sc_law_block_moves.nd rfl (Or.inl rfl) (pe_lstN pa_nil))
      (pss_cons (ps_set (i := 3) sc_law_block_moves.nd rfl (Or.inl rfl) (pv 1))
      (pss_cons (ps_for PassesOwn.never rfl (pi_range1 (by rfl) Z.z_range (pa_cons (pv 1) pa_nil)) (pg_name (i := 4) sc_law_block_moves.nd rfl (Or.inl rfl)) (pss_one (ps_if (pt_cmp (pc_gt (pv 3) pe_int) (nomark _)) (pss_cons (ps_expr (pe_bm PySem.F.plainAttrs_list PySem.F.slot_list_append PySem.F.type_list_append mt_appendN (pv 2) (pa_cons (pe_op op_add pe_int (pe_cal c__law_take (hr.mono (by first | decide | omega)) (by rfl) (pa_cons (pv 0) (pa_cons (pe_callB (call_min2 rfl) (by rfl) Z.z_min (by decide +kernel) (pa_cons pe_int (pa_cons (pv 3) pa_nil))) pa_nil)))) pa_nil)))
      (pss_one (ps_set (i := 3) sc_law_block_moves.nd rfl (Or.inl rfl) (pe_op op_sub (pv 3) (pe_ix ix_list (pv 2) (pe_un un_neg pe_int) (fun _ _ => rfl)))))) pss_nil)))
      (pss_cons (ps_set (i := 5) sc_law_block_moves.nd rfl (Or.inl rfl) (pe_lstN pa_nil))
      (pss_cons (ps_for PassesOwn.never rfl (pi_range1 (by rfl) Z.z_range (pa_cons (pe_op op_add pe_int (pe_cal c__law_take (hr.mono (by first | decide | omega)) (by rfl) (pa_cons (pv 0) (pa_cons pe_int pa_nil)))) pa_nil)) (pg_name (i := 6) sc_law_block_moves.nd rfl (Or.inl rfl)) (pss_cons (ps_set (i := 7) sc_law_block_moves.nd rfl (Or.inl rfl) (pe_lstN pa_nil))
      (pss_cons (ps_for PassesOwn.never rfl (pi_list (pv 2)) (pg_name (i := 8) sc_law_block_moves.nd rfl (Or.inl rfl)) (pss_cons (ps_set (i := 9) sc_law_block_moves.nd rfl (Or.inl rfl) (pe_callB call_len_seq (by rfl) Z.z_len (by decide +kernel) (pa_cons (pv 7) pa_nil)))
      (pss_cons (ps_set (i := 10) sc_law_block_moves.nd rfl (Or.inl rfl) pe_int)
      (Evl.pss_cut (ps_if (pt_cmp (pc_eqI (pe_cal c__law_take (hr.mono (by first | decide | omega)) (by rfl) (pa_cons (pv 0) (pa_cons pe_int pa_nil))) pe_int) (nomark _)) (pss_one (ps_set (i := 10) sc_law_block_moves.nd rfl (Or.inl rfl) (pe_cal c__law_take (hr.mono (by first | decide | omega)) (by rfl) (pa_cons (pv 0) (pa_cons (pv 8) pa_nil))))) pss_nil)
      (pss_cons (ps_set (i := 11) sc_law_block_moves.nd rfl (Or.inl rfl) pe_int)
      (Evl.pss_cut (ps_if (pt_cmp (pc_eqI (pe_cal c__law_take (hr.mono (by first | decide | omega)) (by rfl) (pa_cons (pv 0) (pa_cons pe_int pa_nil))) pe_int) (nomark _)) (pss_one (ps_set (i := 11) sc_law_block_moves.nd rfl (Or.inl rfl) (pe_un un_neg pe_int))) pss_nil)
      (pss_one (ps_for PassesOwn.never rfl (pi_range1 (by rfl) Z.z_range (pa_cons (pv 8) pa_nil)) (pg_name (i := 4) sc_law_block_moves.nd rfl (Or.inl rfl)) (pss_one (ps_expr (pe_bm PySem.F.plainAttrs_list PySem.F.slot_list_append PySem.F.type_list_append mt_appendN (pv 7) (pa_cons (pe_op op_add (pv 9) (pe_op op_mod (pe_callTy call_int1 (by rfl) Z.z_int (by decide +kernel) (pa_cons (pe_op op_add (pe_op op_mul (pv 11) (pv 4)) (pv 10)) pa_nil)) (pv 8))) pa_nil))))))))))))
      (pss_one (ps_expr (pe_bm PySem.F.plainAttrs_list PySem.F.slot_list_append PySem.F.type_list_append mt_appendN (pv 5) (pa_cons (pe_callTy call_tupleN (by rfl) Z.z_tuple (by decide +kernel) (pa_cons (pv 7) pa_nil)) pa_nil)))))))
      (pss_one (ps_ret (pv 5)))))))), ?_⟩
  refine ⟨by show 0 ≤ sizeLine; decide, fun l1 H1 n1 => ?_⟩
  obtain ⟨s1, g1, h1, f1⟩ := (Go.refl wd).loc n1
  refine ⟨_, rfl, _, rfl, n, rfl, by omega, by omega, for_range (lo := 0) (n := n.toNat) (fun i σ' H' => ∃ (Z : List Int) (lf : Int) (y4 : Option V), σ' = [some (.ref S.a), some (.int n), some (.ref l1), some (.int lf), y4, none, none, none, none, none, none, none] ∧ Go S G H G H' ∧ H' l1 = some (.lst (Z.map V.int)) ∧
    (∀ z ∈ Z, 1 ≤ z) ∧ Z.sum + lf = n ∧ 0 ≤ lf ∧ lf ≤ n - i ∧ Z.length ≤ i) ⟨[], n, none, rfl, s1, h1, fun z hz => (by cases hz), by simp, n0, by omega, Nat.le_refl _⟩ ?_ ?_⟩
  · rintro i σ' H2 hi ⟨Zl, lf, y4, rfl, s2, h2, pos, sum, lf0, lfn, lz⟩
    refine ⟨_, rfl, _, _, rfl, rfl, _, rfl, ite2 (fun c => ?_) (fun c => ⟨Zl, lf, _, rfl, s2, h2, pos, sum, lf0, by have := dec_not c; omega, by omega⟩)⟩
    have c : 0 < lf := dec_of c
    have m6 : ∀ m : Int, m = (if lf < 6 then lf else 6) → 1 ≤ m ∧ m ≤ lf ∧ m ≤ 6 := fun m e => by
      by_cases z : lf < 6
      · rw [if_pos z] at e; omega
      · rw [if_neg z] at e; omega
    obtain ⟨a1, a2, a3⟩ := m6 _ rfl
    refine ⟨_, rfl, .inl ⟨rfl, _, .of h2⟩, _, rfl, _, rfl, 6, lf, rfl, S, G, _, rfl, s2.wd, by omega, fun d H3 d0 d1 s3 => ⟨_, _, rfl, rfl, ?_⟩⟩
    have hd : 1 + d ≤ lf := by omega
    have h3 := s3.hh h2 (s2.ns f1)
    have s3 := s2.trans s3
    refine ⟨l1, _, _, rfl, rfl, h3, ?_, fun H4 e4 => ?_⟩
    · rw [List.length_map]
      exact lt_of_len lz (show i < n.toNat from hi) (by omega)
    have s4 := s3.mut g1 f1 e4
    have h4 := upd_at e4
    refine ⟨_, rfl, _, rfl, _, rfl, l1, _, -1, _, rfl, rfl, .of h4, atI_last _ _, _, _, rfl, rfl, ?_⟩
    refine ⟨Zl ++ [1 + d], lf - (1 + d), _, rfl, s4, by rw [h4, List.map_append]; rfl, fun z hz => ?_, ?_, by omega, by omega, by rw [List.length_append]; exact Nat.succ_le_succ lz⟩
    · rcases List.mem_append.mp hz with k | k
      · exact pos z k
      · rw [List.mem_singleton.mp k]; omega
    · rw [List.sum_append, List.sum_cons, List.sum_nil]
      omega
  rintro σ' H2 ⟨Zl, lf, y4, rfl, s2, h2, pos, sum, lf0, lfn, lz⟩
  have sum : Zl.sum = n := by omega
  refine ⟨by show 0 ≤ sizeLine; decide, fun l2 H3 n3 => ?_⟩
  obtain ⟨s3, g2, h3, f2⟩ := s2.loc n3
  have h1' := n3.else h2
  have ne12 : l1 ≠ l2 := fun z => by rw [z] at h2; rw [n3.fr] at h2; cases h2
  refine ⟨_, rfl, S, G, 3, rfl, s3.wd, by omega, fun c H4 c0 c1 s4 => ⟨_, _, rfl, rfl, _, rfl, by omega, by omega, ?_⟩⟩
  have h4a := s4.hh h1' (s3.ns f1)
  have h4b := s4.hh h3 (s3.ns f2)
  have s4 := s3.trans s4
  have zb : ∀ z ∈ Zl, z ≤ 12 := fun z hz => by
    have := sum_ge pos z hz
    omega
  refine for_range (lo := 0) (n := (1 + c).toNat) (fun j σ' H' => ∃ (G' : Hp) (xs : List V) (y4 y6 y7 y8 y9 y10 y11 : Option V), σ' = [some (.ref S.a), some (.int n), some (.ref l1), some (.int lf), y4, some (.ref l2), y6, y7, y8, y9, y10, y11] ∧ Go S G H G' H' ∧ G' l1 = none ∧ G' l2 = none ∧
    H' l1 = some (.lst (Zl.map V.int)) ∧ H' l2 = some (.lst xs) ∧ xs.length = j ∧ ∀ x ∈ xs, ∃ p ms, x = .ref p ∧ G' p = some (.tup (ms.map V.int)) ∧ IsMv ms n) ⟨G, [], y4, _, _, _, _, _, _, rfl, s4, g1, g2, h4a, h4b, rfl, fun x hx => by cases hx⟩ ?_ ?_
  · rintro j σ' H5 hj ⟨G5, xs, y4, y6, y7, y8, y9, y10, y11, rfl, s5, g51, g52, h5a, h5b, lx, all_⟩
    refine ⟨by show 0 ≤ sizeLine; decide, fun l3 H6 n6 => ?_⟩
    obtain ⟨s6, g63, h6, f3⟩ := s5.loc n6
    have h6a := n6.else h5a
    have h6b := n6.else h5b
    have ne31 : l1 ≠ l3 := fun z => by rw [z] at h5a; rw [n6.fr] at h5a; cases h5a
    have ne32 : l2 ≠ l3 := fun z => by rw [z] at h5b; rw [n6.fr] at h5b; cases h5b
    refine ⟨_, rfl, l1, rfl, ⟨_, .of h6a⟩, for_list (K := K) (a := l1) (xs := Zl.map V.int) (fun t σ' H' => ∃ (L : List Int) (y4 y8 y9 y10 y11 : Option V), σ' = [some (.ref S.a), some (.int n), some (.ref l1), some (.int lf), y4, some (.ref l2), some (.int (0 + (j : Int))), some (.ref l3), y8, y9, y10, y11] ∧ Go S G H G5 H' ∧
      H' l1 = some (.lst (Zl.map V.int)) ∧ H' l2 = some (.lst xs) ∧ H' l3 = some (.lst (L.map V.int)) ∧ IsMv L (Zl.take t).sum ∧ 0 ≤ (Zl.take t).sum ∧ (Zl.take t).sum ≤ 12) ?_ ?_ ?_ ?_⟩
    · exact ⟨[], y4, y8, y9, y10, y11, rfl, s6, h6a, h6b, h6, .nil, by simp, by simp⟩
    · rintro t σ' H' - ⟨L, y4, y8, y9, y10, y11, rfl, s7, h7a, -⟩
      exact .of h7a
    · rintro t x σ' H7 hx ⟨L, y4, y8, y9, y10, y11, rfl, s7, h7a, h7b, h7c, mv, t0, t12⟩
      obtain ⟨z, hz, rfl⟩ := map_at hx
      have zm := List.mem_of_getElem? hz
      have z1 := pos z zm
      have z12 := zb z zm
      have ln := mv.len
      have step : (Zl.take (t + 1)).sum = (Zl.take t).sum + z := by rw [List.take_add_one, hz, List.sum_append]; simp
      have upto : (Zl.take (t + 1)).sum ≤ 12 := by
        have := sum_take pos (t + 1)
        omega
      refine ⟨_, rfl, l3, _, rfl, .inl (.of h7c), ?_⟩
      refine ⟨fun σ' H' => ∃ sh : Int, σ' = [some (.ref S.a), some (.int n), some (.ref l1), some (.int lf), y4, some (.ref l2), some (.int (0 + (j : Int))), some (.ref l3), some (.int z), some (.int ((L.map V.int).length : Nat)), some (.int sh), y11] ∧ Go S G H G5 H' ∧ H' l1 = some (.lst (Zl.map V.int)) ∧ H' l2 = some (.lst xs) ∧ H' l3 = some (.lst (L.map V.int)), ?_, ?_⟩
      · refine ⟨_, rfl, S, G5, 3, rfl, s7.wd, by omega, fun d H8 d0 d1 s8 => ⟨_, _, rfl, rfl, _, rfl, ite2 (fun c => ?_) (fun c => ⟨1, rfl, s7.trans s8, s8.hh h7a (s7.ns f1), s8.hh h7b (s7.ns f2), s8.hh h7c (s7.ns f3)⟩)⟩⟩
        have s8' := s7.trans s8
        refine ⟨_, rfl, _, rfl, S, G5, z, rfl, s8'.wd, by omega, fun d2 H9 e0 e1 s9 => ⟨d2, rfl, s8'.trans s9, ?_, ?_, ?_⟩⟩
        · exact s9.hh (s8.hh h7a (s7.ns f1)) (s8'.ns f1)
        · exact s9.hh (s8.hh h7b (s7.ns f2)) (s8'.ns f2)
        · exact s9.hh (s8.hh h7c (s7.ns f3)) (s8'.ns f3)
      rintro σ' H8 ⟨sh, rfl, s8, h8a, h8b, h8c⟩
      refine ⟨fun σ' H' => ∃ sg : Int, (sg = 1 ∨ sg = -1) ∧ σ' = [some (.ref S.a), some (.int n), some (.ref l1), some (.int lf), y4, some (.ref l2), some (.int (0 + (j : Int))), some (.ref l3), some (.int z), some (.int ((L.map V.int).length : Nat)), some (.int sh), some (.int sg)] ∧ Go S G H G5 H' ∧ H' l1 = some (.lst (Zl.map V.int)) ∧ H' l2 = some (.lst xs) ∧ H' l3 = some (.lst (L.map V.int)), ?_, ?_⟩
      · refine ⟨_, rfl, S, G5, 4, rfl, s8.wd, by omega, fun d H9 d0 d1 s9 => ⟨_, _, rfl, rfl, _, rfl, ite2 (fun c => ?_) (fun c => ⟨1, .inl rfl, rfl, s8.trans s9, s9.hh h8a (s8.ns f1), s9.hh h8b (s8.ns f2), s9.hh h8c (s8.ns f3)⟩)⟩⟩
        exact ⟨_, rfl, -1, .inr rfl, rfl, s8.trans s9, s9.hh h8a (s8.ns f1), s9.hh h8b (s8.ns f2), s9.hh h8c (s8.ns f3)⟩
      rintro σ' H9 ⟨sg, hsg, rfl, s9, h9a, h9b, h9c⟩
      refine ⟨_, rfl, z, rfl, by omega, by omega, for_range (lo := 0) (n := z.toNat) (fun u σ' H' => ∃ y4 : Option V, σ' = [some (.ref S.a), some (.int n), some (.ref l1), some (.int lf), y4, some (.ref l2), some (.int (0 + (j : Int))), some (.ref l3), some (.int z), some (.int ((L.map V.int).length : Nat)), some (.int sh), some (.int sg)] ∧
        Go S G H G5 H' ∧ H' l1 = some (.lst (Zl.map V.int)) ∧ H' l2 = some (.lst xs) ∧ H' l3 = some (.lst ((L ++ ((List.range u).map fun (k : Nat) => (sg * (k : Int) + sh) % z).map ((Zl.take t).sum + ·)).map V.int))) ⟨y4, rfl, s9, h9a, h9b, by simpa using h9c⟩ ?_ ?_⟩
      · rintro u σ' HA hu ⟨y4, rfl, sA, hAa, hAb, hAc⟩
        refine ⟨_, rfl, .inl ⟨rfl, _, .of hAc⟩, _, rfl, _, rfl, _, rfl, _, _, rfl, rfl, .inl ?_, _, rfl, _, _, rfl, rfl, .inl ⟨_, rfl, _, rfl, _, _, rfl, rfl, by omega, _, _, rfl, rfl, l3, _, _, rfl, rfl, hAc, ?_, fun HB eB => ?_⟩⟩
        · rcases hsg with rfl | rfl <;> decide
        · rw [List.length_map, List.length_append, List.length_map, List.length_map, List.length_range, ln]
          exact Nat.lt_of_lt_of_le (show _ < 100 by omega) (by decide)
        · refine ⟨_, rfl, sA.mut g63 f3 eB, upd_else eB hAa ne31, upd_else eB hAb ne32, ?_⟩
          have back : (((Zl.take t).sum.toNat : Nat) : Int) = (Zl.take t).sum := by omega
          rw [upd_at eB, List.range_succ, List.length_map, ln, Int.zero_add]
          simp [List.map_append, back]
      · rintro σ' HA ⟨y4, rfl, sA, hAa, hAb, hAc⟩
        refine ⟨_, _, _, _, _, _, rfl, sA, hAa, hAb, hAc, ?_, by omega, upto⟩
        rw [step]
        exact app_mv t0 (by omega) mv (sgn_mv (by omega) hsg)
    · rintro σ' H7 ⟨L, y4, y8, y9, y10, y11, rfl, s7, h7a, h7b, h7c, mv, t0, t12⟩
      rw [List.length_map, List.take_length, sum] at mv
      refine ⟨_, rfl, .inl ⟨rfl, _, .of h7b⟩, _, rfl, l3, _, rfl, .of h7c, fun p H8 n8 => ?_⟩
      obtain ⟨G8, s8, g8, k8, o8⟩ := s7.know n8
      have h8a := n8.else h7a
      have h8b := n8.else h7b
      have g81 : G8 l1 = none := by
        rw [o8 l1 fun z => by rw [z, n8.fr] at h7a; cases h7a]
        exact g51
      have g82 : G8 l2 = none := by
        rw [o8 l2 fun z => by rw [z, n8.fr] at h7b; cases h7b]
        exact g52
      refine ⟨l2, _, _, rfl, rfl, h8b, Nat.lt_of_lt_of_le (show xs.length < 4 by omega) (by decide), fun H9 e9 => ?_⟩
      refine ⟨G8, xs ++ [.ref p], _, _, _, _, _, _, _, rfl, s8.mut g82 f2 e9, g81, g82, upd_else e9 h8a ne12, upd_at e9, by rw [List.length_append, lx]; rfl, fun x hx => ?_⟩
      rcases List.mem_append.mp hx with k | k
      · obtain ⟨p', ms, e, hp, m⟩ := all_ x k
        exact ⟨p', ms, e, g8 _ _ hp, m⟩
      · exact ⟨p, L, List.mem_singleton.mp k, k8, mv⟩
  · rintro σ' H5 ⟨G5, xs, y4, y6, y7, y8, y9, y10, y11, rfl, s5, g51, g52, h5a, h5b, lx, all_⟩
    exact ⟨_, rfl, q l2 xs G5 H5 s5 f2 g52 h5b (by omega) (by omega) all_⟩


def spCarry : Sp := fun vs H Q _ => ∃ (G : Hp) (a b : Addr) (ms rs : List Int) (n : Int), vs = [.ref a, .ref b] ∧ Same G H ∧ G a = some (.tup (ms.map V.int)) ∧ G b = some (.tup (rs.map V.int)) ∧ IsMv ms n ∧ (∀ r ∈ rs, inR n r) ∧ rs.length ≤ 100000 ∧
  ∀ (p : Addr) (G' H' : Hp), Stq G H G' H' → G' p = some (.tup ((aft rs ms).map V.int)) → Q (.ref p) H'
def spCarryW (K : PySem.W.Frag) : Sp := fun vs H Q _ => ∃ (G : Hp) (a b : Addr) (ms rs : List Int) (n : Int), vs = [.ref a, .ref b] ∧ Same G H ∧ G a = some (.tup (ms.map V.int)) ∧ HasS K H b (rs.map V.int) ∧ IsMv ms n ∧ (∀ r ∈ rs, inR n r) ∧ rs.length ≤ 100000 ∧
  ∀ (p : Addr) (G' H' : Hp), Stq G H G' H' → G' p = some (.tup ((aft rs ms).map V.int)) → Q (.ref p) H'
theorem ok_carry__w (Z : Zs mg) (D : Ds K mg) : Cal P w K mg base "carry" 1 ["move", "row"] (spCarryW K) := by
  refine Def.cal D.d_carry sc_carry (fun vs H Q E h => ?_) (fun f cdv A outer s H vs Q E hr h => ?_)
  · obtain ⟨G, a, b, ms, rs, n, rfl, gh, ha, hb, mm, inr, lr, q⟩ := h
    rfl
  obtain ⟨G, a, b, ms, rs, n, rfl, gh, ha, hb, mm, inr, lr, q⟩ := h
  refine ⟨_, (pss_one (ps_ret (pe_callTy call_tupleN (by rfl) Z.z_tuple (by decide +kernel) (pa_cons (pe_lc (own := [("point", 2)]) (g := gName 2) (tt := tYes) (by rfl) sc_carry.nd (pi_or (pi_list (pv 1)) (pi_tup (pv 1))) (blkOk_by (N := ["move", "row", "point"]) (sc := defScope s_carry) (by decide +kernel)) (fun _ _ _ _ _ => pg_name (i := 2) sc_carry.nd rfl (Or.inl rfl)) (fun _ _ _ _ _ => pts_nil) (fun _ _ _ _ _ => (pe_ix (ix_tupK (K := K) rfl) (pv 0) (pv 2) (fun _ _ => rfl)))) pa_nil)))), ?_⟩
  rcases hb with (hb | hb) | hb
  · refine .inl ⟨_, rfl, b, rfl, ⟨_, .of (hb)⟩, fun l hl => ?_⟩
    refine lc_list (xs := rs.map V.int) (fun i H' => Stq G H G H' ∧ G l = none ∧ H l = none ∧ H' l = some (.lst (((aft rs ms).take i).map V.int))) ?_ ?_ ?_ ?_
    · obtain ⟨s2, gl, h2, fl⟩ := (Stq.refl gh).loc2 (p := l) (o := .lst []) ⟨hl, rfl⟩
      exact ⟨s2, gl, fl, h2⟩
    · rintro i H' - ⟨s2, -⟩
      exact .of (s2.hh _ _ hb)
    · rintro i x H2 hx ⟨s2, gl, fl, h2⟩
      obtain ⟨r, hr, rfl⟩ := map_at hx
      have ir := inr r (List.mem_of_getElem? hr)
      have lt := (List.getElem?_eq_some_iff.mp hr).1
      obtain ⟨z, e1, e2, -⟩ := atI_ints (ns := ms) ir.1 (by have := mm.len; have := ir.2; omega)
      have ez : z = stp ms r := Option.some.inj (e1.symm.trans (stp_at mm ir).1)
      subst ez
      refine ⟨rfl, yesT ⟨_, rfl, _, rfl, a, _, _, _, rfl, rfl, .of (s2.gh _ _ ha), e2, _, h2, ?_, s2.mut gl fl rfl, gl, fl, ?_⟩⟩
      · rw [List.length_map, List.length_take, aft_len]
        exact Nat.lt_of_le_of_lt (Nat.min_le_left _ _) (Nat.lt_of_lt_of_le lt (Nat.le_trans lr (by decide)))
      · rw [upd_same, List.take_add_one]
        have : (aft rs ms)[i]? = some (stp ms r) := by unfold aft; rw [List.getElem?_map, hr]; rfl
        rw [this, List.map_append]
        rfl
    · rintro H2 ⟨s2, gl, fl, h2⟩
      rw [List.length_map, ← aft_len rs ms, List.take_length] at h2
      refine ⟨l, _, rfl, .of h2, fun p H3 n3 => ?_⟩
      obtain ⟨G3, s3, g3, k3, -⟩ := s2.know2 n3
      exact q p G3 H3 s3 k3
  · refine .inr ⟨_, rfl, b, rfl, ⟨_, .of (hb)⟩, fun l hl => ?_⟩
    refine lc_tup (xs := rs.map V.int) (fun i H' => Stq G H G H' ∧ G l = none ∧ H l = none ∧ H' l = some (.lst (((aft rs ms).take i).map V.int))) ?_ ?_ ?_ ?_
    · obtain ⟨s2, gl, h2, fl⟩ := (Stq.refl gh).loc2 (p := l) (o := .lst []) ⟨hl, rfl⟩
      exact ⟨s2, gl, fl, h2⟩
    · rintro i H' - ⟨s2, -⟩
      exact .of (s2.hh _ _ hb)
    · rintro i x H2 hx ⟨s2, gl, fl, h2⟩
      obtain ⟨r, hr, rfl⟩ := map_at hx
      have ir := inr r (List.mem_of_getElem? hr)
      have lt := (List.getElem?_eq_some_iff.mp hr).1
      obtain ⟨z, e1, e2, -⟩ := atI_ints (ns := ms) ir.1 (by have := mm.len; have := ir.2; omega)
      have ez : z = stp ms r := Option.some.inj (e1.symm.trans (stp_at mm ir).1)
      subst ez
      refine ⟨rfl, yesT ⟨_, rfl, _, rfl, a, _, _, _, rfl, rfl, .of (s2.gh _ _ ha), e2, _, h2, ?_, s2.mut gl fl rfl, gl, fl, ?_⟩⟩
      · rw [List.length_map, List.length_take, aft_len]
        exact Nat.lt_of_le_of_lt (Nat.min_le_left _ _) (Nat.lt_of_lt_of_le lt (Nat.le_trans lr (by decide)))
      · rw [upd_same, List.take_add_one]
        have : (aft rs ms)[i]? = some (stp ms r) := by unfold aft; rw [List.getElem?_map, hr]; rfl
        rw [this, List.map_append]
        rfl
    · rintro H2 ⟨s2, gl, fl, h2⟩
      rw [List.length_map, ← aft_len rs ms, List.take_length] at h2
      refine ⟨l, _, rfl, .of h2, fun p H3 n3 => ?_⟩
      obtain ⟨G3, s3, g3, k3, -⟩ := s2.know2 n3
      exact q p G3 H3 s3 k3
  · refine .inr ⟨_, rfl, b, rfl, ⟨_, .inr hb⟩, fun l hl => ?_⟩
    refine lc_tup (xs := rs.map V.int) (fun i H' => Stq G H G H' ∧ G l = none ∧ H l = none ∧ H' l = some (.lst (((aft rs ms).take i).map V.int))) ?_ ?_ ?_ ?_
    · obtain ⟨s2, gl, h2, fl⟩ := (Stq.refl gh).loc2 (p := l) (o := .lst []) ⟨hl, rfl⟩
      exact ⟨s2, gl, fl, h2⟩
    · rintro i H' - ⟨s2, -⟩
      exact .inr hb
    · rintro i x H2 hx ⟨s2, gl, fl, h2⟩
      obtain ⟨r, hr, rfl⟩ := map_at hx
      have ir := inr r (List.mem_of_getElem? hr)
      have lt := (List.getElem?_eq_some_iff.mp hr).1
      obtain ⟨z, e1, e2, -⟩ := atI_ints (ns := ms) ir.1 (by have := mm.len; have := ir.2; omega)
      have ez : z = stp ms r := Option.some.inj (e1.symm.trans (stp_at mm ir).1)
      subst ez
      refine ⟨rfl, yesT ⟨_, rfl, _, rfl, a, _, _, _, rfl, rfl, .of (s2.gh _ _ ha), e2, _, h2, ?_, s2.mut gl fl rfl, gl, fl, ?_⟩⟩
      · rw [List.length_map, List.length_take, aft_len]
        exact Nat.lt_of_le_of_lt (Nat.min_le_left _ _) (Nat.lt_of_lt_of_le lt (Nat.le_trans lr (by decide)))
      · rw [upd_same, List.take_add_one]
        have : (aft rs ms)[i]? = some (stp ms r) := by unfold aft; rw [List.getElem?_map, hr]; rfl
        rw [this, List.map_append]
        rfl
    · rintro H2 ⟨s2, gl, fl, h2⟩
      rw [List.length_map, ← aft_len rs ms, List.take_length] at h2
      refine ⟨l, _, rfl, .of h2, fun p H3 n3 => ?_⟩
      obtain ⟨G3, s3, g3, k3, -⟩ := s2.know2 n3
      exact q p G3 H3 s3 k3
theorem ok_carry (Z : Zs mg) (D : Ds K mg) (c_carry__w : Cal P w K mg base "carry" 1 ["move", "row"] (spCarryW K)) : Cal P w K mg base "carry" 1 ["move", "row"] spCarry := by
  obtain ⟨f, fd, F, r⟩ := c_carry__w
  refine ⟨f, fd, F.imp fun vs H Q E h => ?_, r⟩
  obtain ⟨G, a, b, ms, rs, n, rfl, gh, ha, hb, mm, inr, lr, q⟩ := h
  exact ⟨G, a, b, ms, rs, n, rfl, gh, ha, .inl (.inr (gh _ _ hb)), mm, inr, lr, q⟩
def spAfter : Sp := fun vs H Q _ => ∃ (G : Hp) (a b : Addr) (rs ms : List Int) (n : Int), vs = [.ref a, .ref b] ∧ Same G H ∧ G a = some (.tup (rs.map V.int)) ∧ G b = some (.tup (ms.map V.int)) ∧ IsMv ms n ∧ (∀ r ∈ rs, inR n r) ∧ rs.length ≤ 100000 ∧
  ∀ (p : Addr) (G' H' : Hp), Stq G H G' H' → G' p = some (.tup ((aft rs ms).map V.int)) → Q (.ref p) H'
theorem ok_after (Z : Zs mg) (D : Ds K mg) : Cal P w K mg base "_law_after" 1 ["first", "second"] spAfter := by
  refine Def.cal D.d_law_after sc_law_after (fun vs H Q E h => ?_) (fun f cdv A outer s H vs Q E hr h => ?_)
  · obtain ⟨G, b, a, rs, ms, n, rfl, gh, hb, ha, mm, inr, lr, q⟩ := h
    rfl
  obtain ⟨G, b, a, rs, ms, n, rfl, gh, hb, ha, mm, inr, lr, q⟩ := h
  refine ⟨_, (pss_one (ps_ret (pe_callTy call_tupleN (by rfl) Z.z_tuple (by decide +kernel) (pa_cons (pe_lc (own := [("p", 2)]) (g := gName 2) (tt := tYes) (by rfl) sc_law_after.nd (pi_tup (pv 0)) (blkOk_by (N := ["first", "second", "p"]) (sc := defScope s_law_after) (by decide +kernel)) (fun _ _ _ _ _ => pg_name (i := 2) sc_law_after.nd rfl (Or.inl rfl)) (fun _ _ _ _ _ => pts_nil) (fun _ _ _ _ _ => (pe_ix (ix_tupK (K := K) rfl) (pv 1) (pv 2) (fun _ _ => rfl)))) pa_nil)))), ?_⟩
  refine ⟨_, rfl, b, rfl, ⟨_, .of (gh _ _ hb)⟩, fun l hl => ?_⟩
  refine lc_tup (xs := rs.map V.int) (fun i H' => Stq G H G H' ∧ G l = none ∧ H l = none ∧ H' l = some (.lst (((aft rs ms).take i).map V.int))) ?_ ?_ ?_ ?_
  · obtain ⟨s2, gl, h2, fl⟩ := (Stq.refl gh).loc2 (p := l) (o := .lst []) ⟨hl, rfl⟩
    exact ⟨s2, gl, fl, h2⟩
  · rintro i H' - ⟨s2, -⟩
    exact .of (s2.gh _ _ hb)
  · rintro i x H2 hx ⟨s2, gl, fl, h2⟩
    obtain ⟨r, hr, rfl⟩ := map_at hx
    have ir := inr r (List.mem_of_getElem? hr)
    have lt := (List.getElem?_eq_some_iff.mp hr).1
    obtain ⟨z, e1, e2, -⟩ := atI_ints (ns := ms) ir.1 (by have := mm.len; have := ir.2; omega)
    have ez : z = stp ms r := Option.some.inj (e1.symm.trans (stp_at mm ir).1)
    subst ez
    refine ⟨rfl, yesT ⟨_, rfl, _, rfl, a, _, _, _, rfl, rfl, .of (s2.gh _ _ ha), e2, _, h2, ?_, s2.mut gl fl rfl, gl, fl, ?_⟩⟩
    · rw [List.length_map, List.length_take, aft_len]
      exact Nat.lt_of_le_of_lt (Nat.min_le_left _ _) (Nat.lt_of_lt_of_le lt (Nat.le_trans lr (by decide)))
    · rw [upd_same, List.take_add_one]
      have : (aft rs ms)[i]? = some (stp ms r) := by unfold aft; rw [List.getElem?_map, hr]; rfl
      rw [this, List.map_append]
      rfl
  · rintro H2 ⟨s2, gl, fl, h2⟩
    rw [List.length_map, ← aft_len rs ms, List.take_length] at h2
    refine ⟨l, _, rfl, .of h2, fun p H3 n3 => ?_⟩
    obtain ⟨G3, s3, g3, k3, -⟩ := s2.know2 n3
    exact q p G3 H3 s3 k3


def spCheckNum (DB : Addr) : Sp := fun vs H Q E => ∃ (v : V) (d : PyData) (lo hi : Int), vs = [v, .int lo, .int hi] ∧ Da H v d ∧ (isNum d lo hi = true → Q .non H) ∧ (isNum d lo hi = false → Errs E DB [(("high" : Str), .int hi), (("low" : Str), .int lo), (("value" : Str), v)] H)
theorem ok_check_number {DB : Addr} (Z : Zs mg) (D : Ds K mg) (m_BadNumber : Xm P w K mg base "BadNumber" DB ["value", "low", "high"]) (c_is_number : Cal P w K mg base "is_number" 1 ["value", "low", "high"] spIsNum) : CalX P w K mg base "check_number" 3 ["value", "low", "high"] (spCheckNum DB) := by
  refine Def.calX D.d_check_number sc_check_number (fun vs H Q E h => ?_) (fun f cdv A outer s H vs Q E hr h => ?_)
  · obtain ⟨v, d, lo, hi, rfl, hd, q1, q2⟩ := h
    rfl
  obtain ⟨v, d, lo, hi, rfl, hd, q1, q2⟩ := h
  refine ⟨_, (pss_one (ps_if (pt_not (pt_val (pe_cal c_is_number (hr.mono (by first | decide | omega)) (by rfl) (pa_cons (pv 0) (pa_cons (pv 1) (pa_cons (pv 2) pa_nil)))))) (pss_one (L2N.ps_raise rfl (L2N.takes_of rfl rfl rfl rfl) (pmk_x m_BadNumber (hr.mono (by first | decide | omega)) (by rfl) (pa_cons (pv 0) (pa_cons (pv 1) (pa_cons (pv 2) pa_nil)))))) pss_nil)), ?_⟩
  refine ⟨_, rfl, _, rfl, _, rfl, v, d, lo, hi, rfl, hd, ?_⟩
  cases e : isNum d lo hi with
  | true => exact ⟨_, rfl, iteF (q1 e)⟩
  | false => exact ⟨_, rfl, iteT ⟨_, rfl, _, rfl, _, rfl, ini_end rfl (by show 3 ≤ 1000; decide) fun dd hdd => q2 e dd _ (same_put (Same.refl _) hdd) upd_same⟩⟩
def spCheckPts (DB : Addr) : Sp := fun vs H Q E => ∃ (v : V) (d : PyData), vs = [v] ∧ Da H v d ∧ (isNum d 0 12 = true → Q .non H) ∧ (isNum d 0 12 = false → Errs E DB [(("high" : Str), .int 12), (("low" : Str), .int 0), (("value" : Str), v)] H)
theorem ok_check_points {DB : Addr} (Z : Zs mg) (D : Ds K mg) (c_check_number : CalX P w K mg base "check_number" 3 ["value", "low", "high"] (spCheckNum DB)) : CalX P w K mg base "check_points" 4 ["value"] (spCheckPts DB) := by
  refine Def.calX D.d_check_points sc_check_points (fun vs H Q E h => ?_) (fun f cdv A outer s H vs Q E hr h => ?_)
  · obtain ⟨v, d, rfl, hd, q1, q2⟩ := h
    rfl
  obtain ⟨v, d, rfl, hd, q1, q2⟩ := h
  refine ⟨_, (pss_one (ps_expr (pe_calX c_check_number (L2N.takes_of rfl rfl rfl rfl) (hr.mono (by first | decide | omega)) (by rfl) (pa_cons (pv 0) (pa_cons pe_int (pa_cons (pe_globI (by rfl) Z.c_MOST_POINTS) pa_nil)))))), ?_⟩
  exact ⟨_, rfl, v, d, 0, 12, rfl, hd, q1, q2⟩
def badAt (n : Int) (ds : List PyData) (i : Nat) : Prop := (∃ d, ds[i]? = some d ∧ mvOn n d = false) ∧ ∀ (j : Nat) d, j < i → ds[j]? = some d → mvOn n d = true
def spCheckMoves (K : PySem.W.Frag) (DN DT : Addr) : Sp := fun vs H Q E => ∃ (G : Hp) (a : Addr) (xs : List V) (ds : List PyData) (n : Int) (what : Str) (lim : Int), vs = [.int n, .ref a, .str what, .int lim] ∧ Same G H ∧ HasS K H a xs ∧ DaAll G xs ds ∧ szL ds ≤ 900000 ∧
  (lim < (ds.length : Nat) → Errs E DT [(("limit" : Str), .int lim), (("what" : Str), .str what)] H) ∧ (((ds.length : Nat) : Int) ≤ lim → ∀ i : Nat, badAt n ds i → Errs E DN [(("index" : Str), .int i)] H) ∧
  (((ds.length : Nat) : Int) ≤ lim → (∀ d ∈ ds, mvOn n d = true) → ∀ H', Same H H' → Q .non H')
theorem ok_check_moves {DN DT : Addr} (Z : Zs mg) (D : Ds K mg) (m_NotAMove : Xm P w K mg base "NotAMove" DN ["index"]) (m_TooMany : Xm P w K mg base "TooMany" DT ["what", "limit"]) (c_is_move_on : Cal P w K mg base "is_move_on" 3 ["points", "value"] spIsMoveOn) : CalX P w K mg base "check_moves" 4 ["points", "moves", "what", "limit"] (spCheckMoves K DN DT) := by
  refine Def.calX D.d_check_moves sc_check_moves (fun vs H Q E h => ?_) (fun f cdv A outer s H vs Q E hr h => ?_)
  · obtain ⟨G, a, xs, ds, n, what, lim, rfl, gh, hl, dx, sz, q1, q2, q3⟩ := h
    rfl
  obtain ⟨G, a, xs, ds, n, what, lim, rfl, gh, hl, dx, sz, q1, q2, q3⟩ := h
  refine ⟨_, (pss_cons (ps_if (pt_cmp (pc_gt (pe_callB call_len (by rfl) Z.z_len (by decide +kernel) (pa_cons (pv 1) pa_nil)) (pv 3)) (nomark _)) (pss_one (L2N.ps_raise rfl (L2N.takes_of rfl rfl rfl rfl) (pmk_x m_TooMany (hr.mono (by first | decide | omega)) (by rfl) (pa_cons (pv 2) (pa_cons (pv 3) pa_nil))))) pss_nil)
      (pss_one (ps_for (passes_of rfl) rfl (pi_or (pi_enum (by rfl) Z.z_enumerate (pa_cons (pv 1) pa_nil)) (pi_enumT (by rfl) Z.z_enumerate (pa_cons (pv 1) pa_nil))) (pg_tup rfl (pgs_cons (pg_name (i := 4) sc_check_moves.nd rfl (Or.inl rfl)) (pgs_cons (pg_name (i := 5) sc_check_moves.nd rfl (Or.inl rfl)) pgs_nil))) (pss_one (ps_if (pt_not (pt_val (pe_cal c_is_move_on (hr.mono (by first | decide | omega)) (by rfl) (pa_cons (pv 0) (pa_cons (pv 5) pa_nil))))) (pss_one (L2N.ps_raise rfl (L2N.takes_of rfl rfl rfl rfl) (pmk_x m_NotAMove (hr.mono (by first | decide | omega)) (by rfl) (pa_cons (pv 4) pa_nil)))) pss_nil))))), ?_⟩
  have lx := dx.length
  refine ⟨_, rfl, _, xs.length, rfl, HasS.lenV hl, _, rfl, _, _, rfl, rfl, _, rfl, ite2 (fun c => ?_) (fun c => ?_)⟩
  · have c : lim < ((xs.length : Nat) : Int) := dec_of c
    exact ⟨_, rfl, _, rfl, ini_end rfl (by show 2 ≤ 1000; decide) fun dd hdd => q1 (by rw [← lx]; exact c) dd _ (same_put (Same.refl _) hdd) upd_same⟩
  have c : ¬ lim < ((xs.length : Nat) : Int) := dec_not c
  have q2 := q2 (by rw [← lx]; omega)
  have q3 := q3 (by rw [← lx]; omega)
  rcases hl with (hl | hl) | hl
  · refine .inl ⟨_, rfl, a, xs, rfl, .of hl, for_enumL (K := K) (a := a) (xs := xs) (fun i σ' H' => ∃ y4 y5 : Option V, σ' = [some (.int n), some (.ref a), some (.str what), some (.int lim), y4, y5] ∧ Same H H' ∧ ∀ (j : Nat) d, j < i → ds[j]? = some d → mvOn n d = true) ?_ ?_ ?_ ?_⟩
    · exact ⟨_, _, rfl, Same.refl _, fun j d hj => absurd hj (Nat.not_lt_zero j)⟩
    · rintro i σ' H' - ⟨y4, y5, rfl, s1, -⟩
      exact .of (s1 _ _ hl)
    · rintro i x T σ' H1 H2 hx ⟨y4, y5, rfl, s1, ok⟩ nT
      obtain ⟨d, hd, dd⟩ := dx.get hx
      refine ⟨T, _, rfl, .of nT.at, rfl, _, _, rfl, _, _, rfl, rfl, ?_⟩
      have s2 := s1.trans nT.same
      have zd := szL_get hd
      refine ⟨_, rfl, _, rfl, G, x, d, n, rfl, gh.trans s2, dd, by omega, fun H3 s3 => ?_⟩
      cases e : mvOn n d with
      | true =>
        refine ⟨_, rfl, iteF ⟨_, _, rfl, s2.trans s3, fun j d' hj hd' => ?_⟩⟩
        rcases Nat.lt_or_ge j i with z | z
        · exact ok j d' z hd'
        · have : j = i := by omega
          subst this
          rw [hd] at hd'
          cases hd'
          exact e
      | false => exact ⟨_, rfl, iteT ⟨_, rfl, ini_end rfl (by show 1 ≤ 1000; decide) fun p hp => q2 i ⟨⟨d, hd, e⟩, ok⟩ p _ ((s2.trans s3).trans (same_put (Same.refl _) hp)) upd_same⟩⟩
    · rintro σ' H1 ⟨y4, y5, rfl, s1, ok⟩
      refine q3 (fun d hd => ?_) H1 s1
      obtain ⟨j, hj⟩ := List.getElem?_of_mem hd
      exact ok j d (by rw [lx]; exact (List.getElem?_eq_some_iff.mp hj).1) hj
  · refine .inr ⟨_, rfl, a, xs, rfl, .of hl, for_enumT (K := K) (a := a) (xs := xs) (fun i σ' H' => ∃ y4 y5 : Option V, σ' = [some (.int n), some (.ref a), some (.str what), some (.int lim), y4, y5] ∧ Same H H' ∧ ∀ (j : Nat) d, j < i → ds[j]? = some d → mvOn n d = true) ?_ ?_ ?_ ?_⟩
    · exact ⟨_, _, rfl, Same.refl _, fun j d hj => absurd hj (Nat.not_lt_zero j)⟩
    · rintro i σ' H' - ⟨y4, y5, rfl, s1, -⟩
      exact .of (s1 _ _ hl)
    · rintro i x T σ' H1 H2 hx ⟨y4, y5, rfl, s1, ok⟩ nT
      obtain ⟨d, hd, dd⟩ := dx.get hx
      refine ⟨T, _, rfl, .of nT.at, rfl, _, _, rfl, _, _, rfl, rfl, ?_⟩
      have s2 := s1.trans nT.same
      have zd := szL_get hd
      refine ⟨_, rfl, _, rfl, G, x, d, n, rfl, gh.trans s2, dd, by omega, fun H3 s3 => ?_⟩
      cases e : mvOn n d with
      | true =>
        refine ⟨_, rfl, iteF ⟨_, _, rfl, s2.trans s3, fun j d' hj hd' => ?_⟩⟩
        rcases Nat.lt_or_ge j i with z | z
        · exact ok j d' z hd'
        · have : j = i := by omega
          subst this
          rw [hd] at hd'
          cases hd'
          exact e
      | false => exact ⟨_, rfl, iteT ⟨_, rfl, ini_end rfl (by show 1 ≤ 1000; decide) fun p hp => q2 i ⟨⟨d, hd, e⟩, ok⟩ p _ ((s2.trans s3).trans (same_put (Same.refl _) hp)) upd_same⟩⟩
    · rintro σ' H1 ⟨y4, y5, rfl, s1, ok⟩
      refine q3 (fun d hd => ?_) H1 s1
      obtain ⟨j, hj⟩ := List.getElem?_of_mem hd
      exact ok j d (by rw [lx]; exact (List.getElem?_eq_some_iff.mp hj).1) hj
  · refine .inr ⟨_, rfl, a, xs, rfl, .inr hl, for_enumT (K := K) (a := a) (xs := xs) (fun i σ' H' => ∃ y4 y5 : Option V, σ' = [some (.int n), some (.ref a), some (.str what), some (.int lim), y4, y5] ∧ Same H H' ∧ ∀ (j : Nat) d, j < i → ds[j]? = some d → mvOn n d = true) ?_ ?_ ?_ ?_⟩
    · exact ⟨_, _, rfl, Same.refl _, fun j d hj => absurd hj (Nat.not_lt_zero j)⟩
    · rintro i σ' H' - ⟨y4, y5, rfl, s1, -⟩
      exact .inr hl
    · rintro i x T σ' H1 H2 hx ⟨y4, y5, rfl, s1, ok⟩ nT
      obtain ⟨d, hd, dd⟩ := dx.get hx
      refine ⟨T, _, rfl, .of nT.at, rfl, _, _, rfl, _, _, rfl, rfl, ?_⟩
      have s2 := s1.trans nT.same
      have zd := szL_get hd
      refine ⟨_, rfl, _, rfl, G, x, d, n, rfl, gh.trans s2, dd, by omega, fun H3 s3 => ?_⟩
      cases e : mvOn n d with
      | true =>
        refine ⟨_, rfl, iteF ⟨_, _, rfl, s2.trans s3, fun j d' hj hd' => ?_⟩⟩
        rcases Nat.lt_or_ge j i with z | z
        · exact ok j d' z hd'
        · have : j = i := by omega
          subst this
          rw [hd] at hd'
          cases hd'
          exact e
      | false => exact ⟨_, rfl, iteT ⟨_, rfl, ini_end rfl (by show 1 ≤ 1000; decide) fun p hp => q2 i ⟨⟨d, hd, e⟩, ok⟩ p _ ((s2.trans s3).trans (same_put (Same.refl _) hp)) upd_same⟩⟩
    · rintro σ' H1 ⟨y4, y5, rfl, s1, ok⟩
      refine q3 (fun d hd => ?_) H1 s1
      obtain ⟨j, hj⟩ := List.getElem?_of_mem hd
      exact ok j d (by rw [lx]; exact (List.getElem?_eq_some_iff.mp hj).1) hj
def spStill (DB : Addr) : Sp := fun vs H Q _ => ∃ (n : Int), vs = [.int n] ∧ 0 ≤ n ∧ n ≤ 12 ∧ ∀ p H', New H p (.tup ((rngI n).map V.int)) H' → Q (.ref p) H'
theorem ok_still {DB : Addr} (Z : Zs mg) (D : Ds K mg) (c_check_points : CalX P w K mg base "check_points" 4 ["value"] (spCheckPts DB)) : CalX P w K mg base "still_move" 5 ["points"] (spStill DB) := by
  refine Def.calX D.d_still_move sc_still_move (fun vs H Q E h => ?_) (fun f cdv A outer s H vs Q E hr h => ?_)
  · obtain ⟨n, rfl, n0, n12, q⟩ := h
    rfl
  obtain ⟨n, rfl, n0, n12, q⟩ := h
  refine ⟨_, (pss_cons (ps_expr (pe_calX c_check_points (L2N.takes_of rfl rfl rfl rfl) (hr.mono (by first | decide | omega)) (by rfl) (pa_cons (pv 0) pa_nil)))
      (pss_one (ps_ret (pe_tupRgN rfl (by rfl) Z.z_tuple (prg_1 (by rfl) Z.z_range (pv 0)))))), ?_⟩
  refine ⟨_, rfl, .int n, .int n, rfl, .int n, fun _ => ?_, fun e => ?_⟩
  · refine ⟨_, rfl, n, rfl, .of_le (by decide) (by omega) (by decide) (by omega), fun p H1 n1 => ?_⟩
    rw [rgV_rngI] at n1
    exact q p H1 n1
  · have : isNum (.int n) 0 12 = true := by
      show (decide (0 ≤ n) && decide (n ≤ 12)) = true
      rw [decide_eq_true n0, decide_eq_true n12]
      rfl
    rw [this] at e
    cases e


def spNext (K : PySem.W.Frag) : Sp := fun vs H Q _ => ∃ (G : Hp) (l t d : Addr) (xs ts : List V) (R T : List (List Int)) (n : Int) (kvs : List (List L2.Key × V)) (W : WL), vs = [.ref l, .ref t, .ref d] ∧ Same G H ∧ H l = some (.lst xs) ∧ DaAll G xs (R.map rowD) ∧ HasS K H t ts ∧ DaAll G ts (T.map rowD) ∧ AllMv n T ∧ T.length ≤ 8 ∧
  R.length ≤ 400 ∧ (∀ r ∈ R, RowIn n r ∧ r.length ≤ 100 ∧ r ∈ W.map (·.1)) ∧ G d = none ∧ H d = some (.dT kvs) ∧ Wds G kvs W ∧ W.length ≤ 400 ∧ (∀ p ∈ W, p.2.length ≤ 1000) ∧
  ∀ (f : Addr) (G' H' : Hp) (kvs' : List (List L2.Key × V)) (ys : List V), Stp d G H G' H' → H f = none → G' f = none → H' f = some (.lst ys) → H' d = some (.dT kvs') → Wds G' kvs' (nl T R W R.length) → DaAll G' ys ((fnd W (nl T R W R.length)).map rowD) → Q (.ref f) H'
theorem ok_next (Z : Zs mg) (D : Ds K mg) (c_carry : Cal P w K mg base "carry" 1 ["move", "row"] spCarry) : Cal P w K mg base "_next_layer" 2 ["layer", "told", "words"] (spNext K) := by
  refine Def.cal D.d_next_layer sc_next_layer (fun vs H Q E h => ?_) (fun f cdv A outer s H vs Q E hr h => ?_)
  · obtain ⟨G, l, t, d, xs, ts, R, T, n, kvs, W, rfl, gh, hxl, dx, hlt, dt, mvT, lT, lR, rR, gd, hd, wk, lW, lwd, q⟩ := h
    rfl
  obtain ⟨G, l, t, d, xs, ts, R, T, n, kvs, W, rfl, gh, hxl, dx, hlt, dt, mvT, lT, lR, rR, gd, hd, wk, lW, lwd, q⟩ := h
  refine ⟨_, (pss_cons (ps_set (i := 3) sc_next_layer.nd rfl (Or.inl rfl) (pe_lstN pa_nil))
      (pss_cons (ps_for PassesOwn.never rfl (pi_list (pv 0)) (pg_name (i := 4) sc_next_layer.nd rfl (Or.inl rfl)) (pss_one (ps_for PassesOwn.never rfl (pi_or (pi_enum (by rfl) Z.z_enumerate (pa_cons (pv 1) pa_nil)) (pi_enumT (by rfl) Z.z_enumerate (pa_cons (pv 1) pa_nil))) (pg_tup rfl (pgs_cons (pg_name (i := 5) sc_next_layer.nd rfl (Or.inl rfl)) (pgs_cons (pg_name (i := 6) sc_next_layer.nd rfl (Or.inl rfl)) pgs_nil))) (pss_cons (ps_set (i := 7) sc_next_layer.nd rfl (Or.inl rfl) (pe_cal c_carry (hr.mono (by first | decide | omega)) (by rfl) (pa_cons (pv 6) (pa_cons (pv 4) pa_nil))))
      (pss_one (ps_if (pt_cmp (pc_dnotin (hu_of hr) (pv 7) (pv 2))) (pss_cons (ps_dput (hu_of hr) (pv 2) (pv 7) (pe_op op_catA (pe_dget (hu_of hr) (pv 2) (pv 4) (fun _ _ => rfl)) (pe_tupN (pa_cons (pv 5) pa_nil))) rfl)
      (pss_one (ps_expr (pe_bm PySem.F.plainAttrs_list PySem.F.slot_list_append PySem.F.type_list_append mt_appendN (pv 3) (pa_cons (pv 7) pa_nil))))) pss_nil))))))
      (pss_one (ps_ret (pv 3))))), ?_⟩
  have lx := dx.length
  have lt' := dt.length
  rw [List.length_map] at lx lt'
  have nld : l ≠ d := ne_of hxl hd (by intro z; cases z)
  have ntd : HasL H t ts → t ≠ d := fun h => h.elim (fun h => ne_of h hd (by intro z; cases z)) fun h => ne_of h hd (by intro z; cases z)
  have hd0 : H d ≠ none := ne_none hd
  refine ⟨Nat.zero_le _, fun f H1 n1 => ?_⟩
  obtain ⟨s1q, gf, hf, ff⟩ := (Stq.refl gh).loc2 n1
  have s1 : Stp d G H G H1 := s1q.p
  have nfd : f ≠ d := fun e => by rw [e, hd] at ff; cases ff
  refine ⟨_, rfl, l, rfl, ⟨_, .of (s1.hh _ _ nld hxl)⟩, for_list (K := K) (a := l) (xs := xs) (fun i σ' H' => ∃ (G' : Hp) (kvs' : List (List L2.Key × V)) (ys : List V) (y4 y5 y6 y7 : Option V), σ' = [some (.ref l), some (.ref t), some (.ref d), some (.ref f), y4, y5, y6, y7] ∧ Stp d G H G' H' ∧ G' f = none ∧ H' f = some (.lst ys) ∧ H' d = some (.dT kvs') ∧
    Wds G' kvs' (nl T R W i) ∧ DaAll G' ys ((fnd W (nl T R W i)).map rowD)) ?_ ?_ ?_ ?_⟩
  · exact ⟨G, kvs, [], _, _, _, _, rfl, s1, gf, hf, n1.else hd, wk, by show DaAll G [] ((fnd W W).map rowD); rw [fnd_self]; exact .nil⟩
  · rintro i σ' H' - ⟨G', kvs', ys, y4, y5, y6, y7, rfl, s2, -⟩
    exact .of (s2.hh _ _ nld hxl)
  · rintro i x σ' H2 hx ⟨G2, kvs2, ys, y4, y5, y6, y7, rfl, s2, gf2, hf2, hd2, wk2, dy2⟩
    obtain ⟨e, he, hde⟩ := dx.get hx
    rw [List.getElem?_map] at he
    obtain ⟨r, hr, rfl⟩ := Option.map_eq_some_iff.mp he
    obtain ⟨rin, rl, rk⟩ := rR r (List.mem_of_getElem? hr)
    obtain ⟨a, rfl, ha⟩ := rows_ref hde
    have ilt := (List.getElem?_eq_some_iff.mp hr).1
    have step := nl_step (T := T) (W := W) hr
    obtain ⟨Yi, eYi⟩ := nl_ext T R W i
    have rki : r ∈ (nl T R W i).map (·.1) := nl_sub rk i
    have len_i := nl_len T R W i
    have small : i * T.length ≤ 3200 := Nat.le_trans (Nat.mul_le_mul (show i ≤ 400 by omega) lT) (by decide)
    rcases hlt with (hlt | hlt) | hlt
    · refine .inl ⟨_, rfl, t, ts, rfl, .of (s2.hh _ _ (ntd (.inl hlt)) hlt), for_enumL (K := K) (a := t) (xs := ts) (fun j σ' H' => ∃ (G' : Hp) (kvs' : List (List L2.Key × V)) (ys : List V) (y5 y6 y7 : Option V), σ' = [some (.ref l), some (.ref t), some (.ref d), some (.ref f), some (.ref a), y5, y6, y7] ∧ Stp d G H G' H' ∧ G' f = none ∧ H' f = some (.lst ys) ∧ H' d = some (.dT kvs') ∧
        Wds G' kvs' (nl1 T r (nl T R W i) j) ∧ DaAll G' ys ((fnd W (nl1 T r (nl T R W i) j)).map rowD)) ?_ ?_ ?_ ?_⟩
      · exact ⟨G2, kvs2, ys, y5, y6, y7, rfl, s2, gf2, hf2, hd2, wk2, dy2⟩
      · rintro j σ' H' - ⟨G', kvs', ys, y5, y6, y7, rfl, s3, -⟩
        exact .of (s3.hh _ _ (ntd (.inl hlt)) hlt)
      · rintro j x T_ σ' H3 H4 hxj ⟨G3, kvs3, ys3, y5, y6, y7, rfl, s3, gf3, hf3, hd3, wk3, dy3⟩ nT
        obtain ⟨e, he, hdm⟩ := dt.get hxj
        rw [List.getElem?_map] at he
        obtain ⟨m, hm, rfl⟩ := Option.map_eq_some_iff.mp he
        obtain ⟨b, rfl, hb⟩ := rows_ref hdm
        have mvm := mvT m (List.mem_of_getElem? hm)
        have jlt := (List.getElem?_eq_some_iff.mp hm).1
        have stepj := nl1_step (r := r) (W := nl T R W i) hm
        obtain ⟨Yj, eYj⟩ := nl1_ext T r (nl T R W i) j
        have len_j := nl1_len T r (nl T R W i) j
        have extj : ∃ Y, nl1 T r (nl T R W i) j = W ++ Y := ⟨Yi ++ Yj, by rw [eYj, eYi, List.append_assoc]⟩
        have lyj : ys3.length ≤ 4000 := by
          have h1 := dy3.length
          have h2 := fnd_len extj
          rw [List.length_map] at h1
          omega
        have lkj : kvs3.length ≤ 4000 := by
          have := Paired.length wk3
          omega
        have s4 : Stp d G H G3 H4 := s3.q (Stq.refl s3.gh |>.loc2 nT).1
        refine ⟨T_, _, rfl, .of nT.at, rfl, _, _, rfl, _, _, rfl, rfl, ?_⟩
        refine ⟨_, rfl, _, rfl, G3, b, a, m, r, n, rfl, s4.gh, s3.gg _ _ hb, s3.gg _ _ ha, mvm, rin, by omega, fun p G5 H5 s5 hp => ?_⟩
        have S5 := s4.q s5
        have gd5 : G5 d = none := S5.gd gd hd
        have hf5 : H5 f = some (.lst ys3) := s5.hh _ _ (nT.else hf3)
        have hd5 : H5 d = some (.dT kvs3) := s5.hh _ _ (nT.else hd3)
        have gf5 : G5 f = none := s5.nw2 (nT.else hf3) gf3
        have wk5 := wk3.up s5.gg
        have dy5 := dy3.up s5.gg
        have hp5 : H5 p = some (.tup ((keyL (aft r m)).map kV)) := by rw [keyL_kV]; exact s5.gh _ _ hp
        refine ⟨_, rfl, _, rfl, d, _, rfl, DGet.t hd5 hp5, _, rfl, ?_⟩
        by_cases c : aft r m ∈ (nl1 T r (nl T R W i) j).map (·.1)
        · obtain ⟨v, hv, -⟩ := wk5.some c
          rw [hv]
          have e : put1 r (lookW (nl T R W i) r) m j (nl1 T r (nl T R W i) j) = nl1 T r (nl T R W i) j := by unfold put1; rw [if_pos c]
          refine iteF ⟨G5, kvs3, ys3, _, _, _, rfl, S5, gf5, hf5, hd5, ?_, ?_⟩
          · rw [stepj, e]; exact wk5
          · rw [stepj, e]; exact dy5
        · rw [wk5.none c]
          have rkj : r ∈ (nl1 T r (nl T R W i) j).map (·.1) := nl1_sub rki j
          obtain ⟨v, hv, dv⟩ := wk5.some rkj
          have ew : lookW (nl1 T r (nl T R W i) j) r = lookW (nl T R W i) r := by rw [eYj]; exact look_ext rki
          have ew2 : lookW (nl T R W i) r = lookW W r := by rw [eYi]; exact look_ext rk
          rw [ew] at dv
          obtain ⟨w0, rfl, hw0⟩ := rows_ref dv
          have lw := lwd _ (look_mem rk)
          have ha5 : H5 a = some (.tup ((keyL r).map kV)) := by rw [keyL_kV]; exact S5.gh _ _ (S5.gg _ _ ha)
          refine iteT ⟨_, rfl, _, rfl, d, _, rfl, DGet.t hd5 ha5 |> (hv ▸ ·), _, rfl, Nat.succ_le_of_lt (Nat.lt_of_lt_of_le (show 0 < 2 by decide) (by decide)), fun q0 H6 n6 => ?_⟩
          obtain ⟨G6, s6, g6, k6, -⟩ := (Stq.refl s5.gh).know2 n6
          refine cat_row (ws := lookW (nl T R W i) r) (i := ((j : Nat) : Int)) s6.gh (s6.gg _ _ hw0) k6 (by rw [ew2]; exact Nat.le_trans lw (by decide)) fun p7 G7 H7 s7 k7 => ?_
          have S7 := S5.q (s6.trans s7)
          have hd7 : H7 d = some (.dT kvs3) := (s6.trans s7).hh _ _ hd5
          have hf7 : H7 f = some (.lst ys3) := (s6.trans s7).hh _ _ hf5
          have hp7 : H7 p = some (.tup ((keyL (aft r m)).map kV)) := (s6.trans s7).hh _ _ hp5
          have gd7 : G7 d = none := S7.gd gd hd
          have gf7 : G7 f = none := (s6.trans s7).nw2 hf5 gf5
          refine ⟨_, rfl, _, rfl, d, _, rfl, DPut.t hd7 hp7 (Nat.lt_of_le_of_lt lkj (by decide)), ?_⟩
          have S8 := S7.putS gd7 rfl (o := .dT (putK kvs3 (keyL (aft r m)) (.ref p7))) rfl
          have hf8 : upd H7 d (.dT (putK kvs3 (keyL (aft r m)) (.ref p7))) f = some (.lst ys3) := by rw [upd_ne nfd]; exact hf7
          refine ⟨_, rfl, .inl ⟨rfl, _, .of hf8⟩, _, rfl, f, _, _, rfl, rfl, hf8, Nat.lt_of_le_of_lt lyj (by decide), fun H9 e9 => ?_⟩
          have S9 := S8.mut gf7 ff e9
          have wk7 := wk5.up (s6.trans s7).gg
          have dy7 := dy5.up (s6.trans s7).gg
          have en : put1 r (lookW (nl T R W i) r) m j (nl1 T r (nl T R W i) j) = nl1 T r (nl T R W i) j ++ [(aft r m, lookW (nl T R W i) r ++ [((j : Nat) : Int)])] := by unfold put1; rw [if_neg c]
          refine ⟨G7, _, _, _, _, _, rfl, S9, gf7, upd_at e9, upd_else e9 upd_same (Ne.symm nfd), ?_, ?_⟩
          · rw [stepj, en, putK_new _ (wk5.none c)]
            exact wk7.app (.tup k7 (DaAll.ints _))
          · rw [stepj, put1_fnd extj c, List.map_append]
            exact dy7.append (.one (.tup ((s6.trans s7).gg _ _ hp) (DaAll.ints _)))
      · rintro σ' H3 ⟨G3, kvs3, ys3, y5, y6, y7, rfl, s3, gf3, hf3, hd3, wk3, dy3⟩
        rw [lt'] at wk3 dy3
        exact ⟨G3, kvs3, ys3, _, _, _, _, rfl, s3, gf3, hf3, hd3, by rw [step]; exact wk3, by rw [step]; exact dy3⟩
    · refine .inr ⟨_, rfl, t, ts, rfl, .of (s2.hh _ _ (ntd (.inr hlt)) hlt), for_enumT (K := K) (a := t) (xs := ts) (fun j σ' H' => ∃ (G' : Hp) (kvs' : List (List L2.Key × V)) (ys : List V) (y5 y6 y7 : Option V), σ' = [some (.ref l), some (.ref t), some (.ref d), some (.ref f), some (.ref a), y5, y6, y7] ∧ Stp d G H G' H' ∧ G' f = none ∧ H' f = some (.lst ys) ∧ H' d = some (.dT kvs') ∧
        Wds G' kvs' (nl1 T r (nl T R W i) j) ∧ DaAll G' ys ((fnd W (nl1 T r (nl T R W i) j)).map rowD)) ?_ ?_ ?_ ?_⟩
      · exact ⟨G2, kvs2, ys, y5, y6, y7, rfl, s2, gf2, hf2, hd2, wk2, dy2⟩
      · rintro j σ' H' - ⟨G', kvs', ys, y5, y6, y7, rfl, s3, -⟩
        exact .of (s3.hh _ _ (ntd (.inr hlt)) hlt)
      · rintro j x T_ σ' H3 H4 hxj ⟨G3, kvs3, ys3, y5, y6, y7, rfl, s3, gf3, hf3, hd3, wk3, dy3⟩ nT
        obtain ⟨e, he, hdm⟩ := dt.get hxj
        rw [List.getElem?_map] at he
        obtain ⟨m, hm, rfl⟩ := Option.map_eq_some_iff.mp he
        obtain ⟨b, rfl, hb⟩ := rows_ref hdm
        have mvm := mvT m (List.mem_of_getElem? hm)
        have jlt := (List.getElem?_eq_some_iff.mp hm).1
        have stepj := nl1_step (r := r) (W := nl T R W i) hm
        obtain ⟨Yj, eYj⟩ := nl1_ext T r (nl T R W i) j
        have len_j := nl1_len T r (nl T R W i) j
        have extj : ∃ Y, nl1 T r (nl T R W i) j = W ++ Y := ⟨Yi ++ Yj, by rw [eYj, eYi, List.append_assoc]⟩
        have lyj : ys3.length ≤ 4000 := by
          have h1 := dy3.length
          have h2 := fnd_len extj
          rw [List.length_map] at h1
          omega
        have lkj : kvs3.length ≤ 4000 := by
          have := Paired.length wk3
          omega
        have s4 : Stp d G H G3 H4 := s3.q (Stq.refl s3.gh |>.loc2 nT).1
        refine ⟨T_, _, rfl, .of nT.at, rfl, _, _, rfl, _, _, rfl, rfl, ?_⟩
        refine ⟨_, rfl, _, rfl, G3, b, a, m, r, n, rfl, s4.gh, s3.gg _ _ hb, s3.gg _ _ ha, mvm, rin, by omega, fun p G5 H5 s5 hp => ?_⟩
        have S5 := s4.q s5
        have gd5 : G5 d = none := S5.gd gd hd
        have hf5 : H5 f = some (.lst ys3) := s5.hh _ _ (nT.else hf3)
        have hd5 : H5 d = some (.dT kvs3) := s5.hh _ _ (nT.else hd3)
        have gf5 : G5 f = none := s5.nw2 (nT.else hf3) gf3
        have wk5 := wk3.up s5.gg
        have dy5 := dy3.up s5.gg
        have hp5 : H5 p = some (.tup ((keyL (aft r m)).map kV)) := by rw [keyL_kV]; exact s5.gh _ _ hp
        refine ⟨_, rfl, _, rfl, d, _, rfl, DGet.t hd5 hp5, _, rfl, ?_⟩
        by_cases c : aft r m ∈ (nl1 T r (nl T R W i) j).map (·.1)
        · obtain ⟨v, hv, -⟩ := wk5.some c
          rw [hv]
          have e : put1 r (lookW (nl T R W i) r) m j (nl1 T r (nl T R W i) j) = nl1 T r (nl T R W i) j := by unfold put1; rw [if_pos c]
          refine iteF ⟨G5, kvs3, ys3, _, _, _, rfl, S5, gf5, hf5, hd5, ?_, ?_⟩
          · rw [stepj, e]; exact wk5
          · rw [stepj, e]; exact dy5
        · rw [wk5.none c]
          have rkj : r ∈ (nl1 T r (nl T R W i) j).map (·.1) := nl1_sub rki j
          obtain ⟨v, hv, dv⟩ := wk5.some rkj
          have ew : lookW (nl1 T r (nl T R W i) j) r = lookW (nl T R W i) r := by rw [eYj]; exact look_ext rki
          have ew2 : lookW (nl T R W i) r = lookW W r := by rw [eYi]; exact look_ext rk
          rw [ew] at dv
          obtain ⟨w0, rfl, hw0⟩ := rows_ref dv
          have lw := lwd _ (look_mem rk)
          have ha5 : H5 a = some (.tup ((keyL r).map kV)) := by rw [keyL_kV]; exact S5.gh _ _ (S5.gg _ _ ha)
          refine iteT ⟨_, rfl, _, rfl, d, _, rfl, DGet.t hd5 ha5 |> (hv ▸ ·), _, rfl, Nat.succ_le_of_lt (Nat.lt_of_lt_of_le (show 0 < 2 by decide) (by decide)), fun q0 H6 n6 => ?_⟩
          obtain ⟨G6, s6, g6, k6, -⟩ := (Stq.refl s5.gh).know2 n6
          refine cat_row (ws := lookW (nl T R W i) r) (i := ((j : Nat) : Int)) s6.gh (s6.gg _ _ hw0) k6 (by rw [ew2]; exact Nat.le_trans lw (by decide)) fun p7 G7 H7 s7 k7 => ?_
          have S7 := S5.q (s6.trans s7)
          have hd7 : H7 d = some (.dT kvs3) := (s6.trans s7).hh _ _ hd5
          have hf7 : H7 f = some (.lst ys3) := (s6.trans s7).hh _ _ hf5
          have hp7 : H7 p = some (.tup ((keyL (aft r m)).map kV)) := (s6.trans s7).hh _ _ hp5
          have gd7 : G7 d = none := S7.gd gd hd
          have gf7 : G7 f = none := (s6.trans s7).nw2 hf5 gf5
          refine ⟨_, rfl, _, rfl, d, _, rfl, DPut.t hd7 hp7 (Nat.lt_of_le_of_lt lkj (by decide)), ?_⟩
          have S8 := S7.putS gd7 rfl (o := .dT (putK kvs3 (keyL (aft r m)) (.ref p7))) rfl
          have hf8 : upd H7 d (.dT (putK kvs3 (keyL (aft r m)) (.ref p7))) f = some (.lst ys3) := by rw [upd_ne nfd]; exact hf7
          refine ⟨_, rfl, .inl ⟨rfl, _, .of hf8⟩, _, rfl, f, _, _, rfl, rfl, hf8, Nat.lt_of_le_of_lt lyj (by decide), fun H9 e9 => ?_⟩
          have S9 := S8.mut gf7 ff e9
          have wk7 := wk5.up (s6.trans s7).gg
          have dy7 := dy5.up (s6.trans s7).gg
          have en : put1 r (lookW (nl T R W i) r) m j (nl1 T r (nl T R W i) j) = nl1 T r (nl T R W i) j ++ [(aft r m, lookW (nl T R W i) r ++ [((j : Nat) : Int)])] := by unfold put1; rw [if_neg c]
          refine ⟨G7, _, _, _, _, _, rfl, S9, gf7, upd_at e9, upd_else e9 upd_same (Ne.symm nfd), ?_, ?_⟩
          · rw [stepj, en, putK_new _ (wk5.none c)]
            exact wk7.app (.tup k7 (DaAll.ints _))
          · rw [stepj, put1_fnd extj c, List.map_append]
            exact dy7.append (.one (.tup ((s6.trans s7).gg _ _ hp) (DaAll.ints _)))
      · rintro σ' H3 ⟨G3, kvs3, ys3, y5, y6, y7, rfl, s3, gf3, hf3, hd3, wk3, dy3⟩
        rw [lt'] at wk3 dy3
        exact ⟨G3, kvs3, ys3, _, _, _, _, rfl, s3, gf3, hf3, hd3, by rw [step]; exact wk3, by rw [step]; exact dy3⟩
    · refine .inr ⟨_, rfl, t, ts, rfl, .inr hlt, for_enumT (K := K) (a := t) (xs := ts) (fun j σ' H' => ∃ (G' : Hp) (kvs' : List (List L2.Key × V)) (ys : List V) (y5 y6 y7 : Option V), σ' = [some (.ref l), some (.ref t), some (.ref d), some (.ref f), some (.ref a), y5, y6, y7] ∧ Stp d G H G' H' ∧ G' f = none ∧ H' f = some (.lst ys) ∧ H' d = some (.dT kvs') ∧
        Wds G' kvs' (nl1 T r (nl T R W i) j) ∧ DaAll G' ys ((fnd W (nl1 T r (nl T R W i) j)).map rowD)) ?_ ?_ ?_ ?_⟩
      · exact ⟨G2, kvs2, ys, y5, y6, y7, rfl, s2, gf2, hf2, hd2, wk2, dy2⟩
      · rintro j σ' H' - ⟨G', kvs', ys, y5, y6, y7, rfl, s3, -⟩
        exact .inr hlt
      · rintro j x T_ σ' H3 H4 hxj ⟨G3, kvs3, ys3, y5, y6, y7, rfl, s3, gf3, hf3, hd3, wk3, dy3⟩ nT
        obtain ⟨e, he, hdm⟩ := dt.get hxj
        rw [List.getElem?_map] at he
        obtain ⟨m, hm, rfl⟩ := Option.map_eq_some_iff.mp he
        obtain ⟨b, rfl, hb⟩ := rows_ref hdm
        have mvm := mvT m (List.mem_of_getElem? hm)
        have jlt := (List.getElem?_eq_some_iff.mp hm).1
        have stepj := nl1_step (r := r) (W := nl T R W i) hm
        obtain ⟨Yj, eYj⟩ := nl1_ext T r (nl T R W i) j
        have len_j := nl1_len T r (nl T R W i) j
        have extj : ∃ Y, nl1 T r (nl T R W i) j = W ++ Y := ⟨Yi ++ Yj, by rw [eYj, eYi, List.append_assoc]⟩
        have lyj : ys3.length ≤ 4000 := by
          have h1 := dy3.length
          have h2 := fnd_len extj
          rw [List.length_map] at h1
          omega
        have lkj : kvs3.length ≤ 4000 := by
          have := Paired.length wk3
          omega
        have s4 : Stp d G H G3 H4 := s3.q (Stq.refl s3.gh |>.loc2 nT).1
        refine ⟨T_, _, rfl, .of nT.at, rfl, _, _, rfl, _, _, rfl, rfl, ?_⟩
        refine ⟨_, rfl, _, rfl, G3, b, a, m, r, n, rfl, s4.gh, s3.gg _ _ hb, s3.gg _ _ ha, mvm, rin, by omega, fun p G5 H5 s5 hp => ?_⟩
        have S5 := s4.q s5
        have gd5 : G5 d = none := S5.gd gd hd
        have hf5 : H5 f = some (.lst ys3) := s5.hh _ _ (nT.else hf3)
        have hd5 : H5 d = some (.dT kvs3) := s5.hh _ _ (nT.else hd3)
        have gf5 : G5 f = none := s5.nw2 (nT.else hf3) gf3
        have wk5 := wk3.up s5.gg
        have dy5 := dy3.up s5.gg
        have hp5 : H5 p = some (.tup ((keyL (aft r m)).map kV)) := by rw [keyL_kV]; exact s5.gh _ _ hp
        refine ⟨_, rfl, _, rfl, d, _, rfl, DGet.t hd5 hp5, _, rfl, ?_⟩
        by_cases c : aft r m ∈ (nl1 T r (nl T R W i) j).map (·.1)
        · obtain ⟨v, hv, -⟩ := wk5.some c
          rw [hv]
          have e : put1 r (lookW (nl T R W i) r) m j (nl1 T r (nl T R W i) j) = nl1 T r (nl T R W i) j := by unfold put1; rw [if_pos c]
          refine iteF ⟨G5, kvs3, ys3, _, _, _, rfl, S5, gf5, hf5, hd5, ?_, ?_⟩
          · rw [stepj, e]; exact wk5
          · rw [stepj, e]; exact dy5
        · rw [wk5.none c]
          have rkj : r ∈ (nl1 T r (nl T R W i) j).map (·.1) := nl1_sub rki j
          obtain ⟨v, hv, dv⟩ := wk5.some rkj
          have ew : lookW (nl1 T r (nl T R W i) j) r = lookW (nl T R W i) r := by rw [eYj]; exact look_ext rki
          have ew2 : lookW (nl T R W i) r = lookW W r := by rw [eYi]; exact look_ext rk
          rw [ew] at dv
          obtain ⟨w0, rfl, hw0⟩ := rows_ref dv
          have lw := lwd _ (look_mem rk)
          have ha5 : H5 a = some (.tup ((keyL r).map kV)) := by rw [keyL_kV]; exact S5.gh _ _ (S5.gg _ _ ha)
          refine iteT ⟨_, rfl, _, rfl, d, _, rfl, DGet.t hd5 ha5 |> (hv ▸ ·), _, rfl, Nat.succ_le_of_lt (Nat.lt_of_lt_of_le (show 0 < 2 by decide) (by decide)), fun q0 H6 n6 => ?_⟩
          obtain ⟨G6, s6, g6, k6, -⟩ := (Stq.refl s5.gh).know2 n6
          refine cat_row (ws := lookW (nl T R W i) r) (i := ((j : Nat) : Int)) s6.gh (s6.gg _ _ hw0) k6 (by rw [ew2]; exact Nat.le_trans lw (by decide)) fun p7 G7 H7 s7 k7 => ?_
          have S7 := S5.q (s6.trans s7)
          have hd7 : H7 d = some (.dT kvs3) := (s6.trans s7).hh _ _ hd5
          have hf7 : H7 f = some (.lst ys3) := (s6.trans s7).hh _ _ hf5
          have hp7 : H7 p = some (.tup ((keyL (aft r m)).map kV)) := (s6.trans s7).hh _ _ hp5
          have gd7 : G7 d = none := S7.gd gd hd
          have gf7 : G7 f = none := (s6.trans s7).nw2 hf5 gf5
          refine ⟨_, rfl, _, rfl, d, _, rfl, DPut.t hd7 hp7 (Nat.lt_of_le_of_lt lkj (by decide)), ?_⟩
          have S8 := S7.putS gd7 rfl (o := .dT (putK kvs3 (keyL (aft r m)) (.ref p7))) rfl
          have hf8 : upd H7 d (.dT (putK kvs3 (keyL (aft r m)) (.ref p7))) f = some (.lst ys3) := by rw [upd_ne nfd]; exact hf7
          refine ⟨_, rfl, .inl ⟨rfl, _, .of hf8⟩, _, rfl, f, _, _, rfl, rfl, hf8, Nat.lt_of_le_of_lt lyj (by decide), fun H9 e9 => ?_⟩
          have S9 := S8.mut gf7 ff e9
          have wk7 := wk5.up (s6.trans s7).gg
          have dy7 := dy5.up (s6.trans s7).gg
          have en : put1 r (lookW (nl T R W i) r) m j (nl1 T r (nl T R W i) j) = nl1 T r (nl T R W i) j ++ [(aft r m, lookW (nl T R W i) r ++ [((j : Nat) : Int)])] := by unfold put1; rw [if_neg c]
          refine ⟨G7, _, _, _, _, _, rfl, S9, gf7, upd_at e9, upd_else e9 upd_same (Ne.symm nfd), ?_, ?_⟩
          · rw [stepj, en, putK_new _ (wk5.none c)]
            exact wk7.app (.tup k7 (DaAll.ints _))
          · rw [stepj, put1_fnd extj c, List.map_append]
            exact dy7.append (.one (.tup ((s6.trans s7).gg _ _ hp) (DaAll.ints _)))
      · rintro σ' H3 ⟨G3, kvs3, ys3, y5, y6, y7, rfl, s3, gf3, hf3, hd3, wk3, dy3⟩
        rw [lt'] at wk3 dy3
        exact ⟨G3, kvs3, ys3, _, _, _, _, rfl, s3, gf3, hf3, hd3, by rw [step]; exact wk3, by rw [step]; exact dy3⟩
  · rintro σ' H2 ⟨G2, kvs2, ys, y4, y5, y6, y7, rfl, s2, gf2, hf2, hd2, wk2, dy2⟩
    rw [lx] at wk2 dy2
    exact ⟨_, rfl, q f G2 H2 kvs2 ys s2 ff gf2 hf2 hd2 wk2 dy2⟩


def spBest (K : PySem.W.Frag) (DT : Addr) : Sp := fun vs H Q E => ∃ (G : Hp) (a t : Addr) (r : List Int) (ts : List V) (T : List (List Int)) (n : Int), vs = [.ref a, .ref t] ∧ Same G H ∧ G a = some (.tup (r.map V.int)) ∧ HasS K H t ts ∧ DaAll G ts (T.map rowD) ∧ AllMv n T ∧ T.length ≤ 8 ∧ RowIn n r ∧ r.length ≤ 100 ∧
  (∀ (d : Addr) (G' H' : Hp) (kvs : List (List L2.Key × V)) (W : WL) (k : Nat), Stq G H G' H' → H d = none → G' d = none → H' d = some (.dT kvs) → Wds G' kvs W → lay T r k = (W, []) → (∀ j, j < k → (lay T r j).2 ≠ []) → W.length ≤ 400 → Q (.ref d) H') ∧
  ((∀ L : List (List Int), (∀ w, Rch T r w → w ∈ L) → 400 < L.length) → Errs E DT [(("limit" : Str), .int 400), (("what" : Str), .str "made")] H)
theorem ok_best {DT : Addr} (Z : Zs mg) (D : Ds K mg) (m_TooMany : Xm P w K mg base "TooMany" DT ["what", "limit"]) (c__next_layer : Cal P w K mg base "_next_layer" 2 ["layer", "told", "words"] (spNext K)) : CalX P w K mg base "best_words" 3 ["row", "told"] (spBest K DT) := by
  refine Def.calX D.d_best_words sc_best_words (fun vs H Q E h => ?_) (fun f cdv A outer s H vs Q E hr h => ?_)
  · obtain ⟨G, a, t, r, ts, T, n, rfl, gh, ha, hlt, dt, mvT, lT, rin, rl, q1, q2⟩ := h
    rfl
  obtain ⟨G, a, t, r, ts, T, n, rfl, gh, ha, hlt, dt, mvT, lT, rin, rl, q1, q2⟩ := h
  refine ⟨_, (pss_cons (ps_set (i := 2) sc_best_words.nd rfl (Or.inl rfl) (pe_dispT1 (hu_of hr) (pv 0) (pe_tupN pa_nil)))
      (pss_cons (ps_set (i := 3) sc_best_words.nd rfl (Or.inl rfl) (pe_lstN (pa_cons (pv 0) pa_nil)))
      (pss_cons (ps_while (passes_of rfl) (pt_truth (pv 3) (by intro _; rfl)) (pss_cons (ps_set (i := 3) sc_best_words.nd rfl (Or.inl rfl) (pe_cal c__next_layer (hr.mono (by first | decide | omega)) (by rfl) (pa_cons (pv 3) (pa_cons (pv 1) (pa_cons (pv 2) pa_nil)))))
      (pss_one (ps_if (pt_cmp (pc_gt (pe_callB call_len_dT (by rfl) Z.z_len (by decide +kernel) (pa_cons (pv 2) pa_nil)) (pe_globI (by rfl) Z.c_MOST_MADE)) (nomark _)) (pss_one (L2N.ps_raise rfl (L2N.takes_of rfl rfl rfl rfl) (pmk_x m_TooMany (hr.mono (by first | decide | omega)) (by rfl) (pa_cons pe_str (pa_cons (pe_globI (by rfl) Z.c_MOST_MADE) pa_nil))))) pss_nil))))
      (pss_one (ps_ret (pv 2)))))), ?_⟩
  have haH := gh _ _ ha
  refine fun d hd => ⟨_, rfl, Nat.zero_le _, fun e H2 n2 => ?_⟩
  obtain ⟨s1, gd, h1, fd⟩ := (Stq.refl gh).loc2 (p := d) (o := .dT []) ⟨hd, rfl⟩
  obtain ⟨G2, s2, g2, k2, o2⟩ := s1.know2 n2
  have ne_de : d ≠ e := fun z => by have := n2.fr; rw [← z, upd_same] at this; cases this
  have gd2 : G2 d = none := by rw [o2 d ne_de]; exact gd
  have ha2 : H2 a = some (.tup ((keyL r).map kV)) := by rw [keyL_kV]; exact s2.gh _ _ (g2 _ _ ha)
  refine ⟨n2.else h1, a, keyL r, rfl, ha2, ?_⟩
  have s3 := s2.mut gd2 fd (o := .dT [(keyL r, V.ref e)]) rfl
  have hd3 : upd H2 d (.dT [(keyL r, V.ref e)]) d = some (.dT [(keyL r, V.ref e)]) := upd_same
  generalize upd H2 d (.dT [(keyL r, V.ref e)]) = H3 at s3 hd3 ⊢
  refine ⟨_, rfl, Nat.succ_le_of_lt (Nat.lt_of_lt_of_le (show 0 < 2 by decide) (by decide)), fun l H4 n4 => ?_⟩
  obtain ⟨s4, gl, hl, fl⟩ := s3.loc2 n4
  have hd4 := n4.else hd3
  have wk0 : Wds G2 [(keyL r, V.ref e)] (lay T r 0).1 := .cons ⟨rfl, .tup k2 .nil⟩ .nil
  have dl0 : DaAll G2 [V.ref a] ((lay T r 0).2.map rowD) := .cons (.tup (g2 _ _ ha) (DaAll.ints r)) .nil
  refine ⟨fun m σ' H' => ∃ (k : Nat) (G' : Hp) (l : Addr) (kvs : List (List L2.Key × V)) (xs : List V), m = 2 * (401 - (lay T r k).1.length) + (if (lay T r k).2 = [] then 0 else 1) ∧ σ' = [some (.ref a), some (.ref t), some (.ref d), some (.ref l)] ∧ Stq G H G' H' ∧ G' d = none ∧ H' d = some (.dT kvs) ∧ Wds G' kvs (lay T r k).1 ∧
    H' l = some (.lst xs) ∧ DaAll G' xs ((lay T r k).2.map rowD) ∧ (lay T r k).1.length ≤ 400 ∧ ∀ j, j < k → (lay T r j).2 ≠ [], ⟨_, 0, G2, l, _, _, rfl, rfl, s4, gd2, hd4, wk0, hl, dl0, by show 1 ≤ 400; decide, fun j hj => absurd hj (Nat.not_lt_zero j)⟩, ?_⟩
  rintro m σ' H5 ⟨k, G5, l, kvs, xs, rfl, rfl, s5, gd5, hd5, wk5, hl5, dl5, l400, prev⟩
  have I := lay_ok T r k prev
  have lx := dl5.length
  rw [List.length_map] at lx
  refine ⟨_, rfl, !xs.isEmpty, .inl ⟨xs, .of hl5, rfl⟩, ?_⟩
  by_cases c : (lay T r k).2 = []
  · have : xs = [] := List.eq_nil_of_length_eq_zero (by rw [lx, c]; rfl)
    subst this
    refine iteF ⟨_, rfl, ?_⟩
    exact q1 d G5 H5 kvs (lay T r k).1 k s5 hd gd5 hd5 wk5 (Prod.ext rfl c) prev l400
  · have nx : xs.isEmpty = false := by
      cases xs with
      | nil => exact absurd (List.eq_nil_of_length_eq_zero lx.symm) c
      | cons _ _ => rfl
    rw [nx]
    refine iteT ⟨fun σ' H' => ∃ m', m' < 2 * (401 - (lay T r k).1.length) + (if (lay T r k).2 = [] then 0 else 1) ∧ ∃ (k : Nat) (G' : Hp) (l : Addr) (kvs : List (List L2.Key × V)) (xs : List V), m' = 2 * (401 - (lay T r k).1.length) + (if (lay T r k).2 = [] then 0 else 1) ∧ σ' = [some (.ref a), some (.ref t), some (.ref d), some (.ref l)] ∧ Stq G H G' H' ∧ G' d = none ∧ H' d = some (.dT kvs) ∧ Wds G' kvs (lay T r k).1 ∧
      H' l = some (.lst xs) ∧ DaAll G' xs ((lay T r k).2.map rowD) ∧ (lay T r k).1.length ≤ 400 ∧ ∀ j, j < k → (lay T r j).2 ≠ [], fun σ' H' z => z, ?_⟩
    rw [if_neg c]
    have kk := I.kL c
    have hlt5 : HasS K H5 t ts := HasS.up s5.hh hlt
    refine ⟨_, rfl, _, rfl, _, rfl, G5, l, t, d, xs, ts, (lay T r k).2, T, n, kvs, (lay T r k).1, rfl, s5.gh, hl5, dl5, hlt5, dt.up s5.gg, mvT, lT, Nat.le_trans I.lL l400, fun x hx => ?_, gd5, hd5, wk5, l400, fun p hp => Nat.le_trans (I.wl p hp) (by omega), fun f G6 H6 kvs6 ys s6 ff gf hf6 hd6 wk6 dy6 => ?_⟩
    · have := (I.rch x (I.sub x hx)).row mvT rin
      exact ⟨this.1, by omega, I.sub x hx⟩
    have S6 := s5.stp s6 hd
    have gd6 : G6 d = none := s6.gd gd5 hd5
    have next : lay T r (k + 1) = (nl T (lay T r k).2 (lay T r k).1 (lay T r k).2.length, fnd (lay T r k).1 (nl T (lay T r k).2 (lay T r k).1 (lay T r k).2.length)) := rfl
    have ln := fnd_len (nl_ext T (lay T r k).2 (lay T r k).1 (lay T r k).2.length)
    have prev' : ∀ j, j < k + 1 → (lay T r j).2 ≠ [] := fun j hj => by
      rcases Nat.lt_or_ge j k with z | z
      · exact prev j z
      · have : j = k := by omega
        subst this
        exact c
    have wkl := Paired.length wk6
    refine ⟨_, rfl, d, _, rfl, hd6, _, _, rfl, rfl, _, rfl, ite2 (fun c2 => ?_) (fun c2 => ?_)⟩
    · have c2 : 400 < ((kvs6.length : Nat) : Int) := dec_of c2
      refine ini_end rfl (by show 2 ≤ 1000; decide) fun dd hdd => q2 (fun L hL => ?_) dd _ (S6.hh.trans (same_put (Same.refl _) hdd)) upd_same
      have I2 := lay_ok T r (k + 1) prev'
      have := len_sub I2.nd fun w hw => hL w (I2.rch w hw)
      rw [List.length_map, next] at this
      show 400 < L.length
      have e : (nl T (lay T r k).2 (lay T r k).1 (lay T r k).2.length).length ≤ L.length := this
      omega
    · have c2 : ¬ 400 < ((kvs6.length : Nat) : Int) := dec_not c2
      refine ⟨_, ?_, k + 1, G6, f, kvs6, ys, rfl, rfl, S6, gd6, hd6, wk6, hf6, dy6, ?_, prev'⟩
      · rw [next]
        show 2 * (401 - (nl T (lay T r k).2 (lay T r k).1 (lay T r k).2.length).length) + (if fnd (lay T r k).1 (nl T (lay T r k).2 (lay T r k).1 (lay T r k).2.length) = [] then 0 else 1) < _
        by_cases z : fnd (lay T r k).1 (nl T (lay T r k).2 (lay T r k).1 (lay T r k).2.length) = []
        · rw [if_pos z]
          omega
        · rw [if_neg z]
          have := List.length_pos_iff.mpr z
          omega
      · rw [next]
        show (nl T (lay T r k).2 (lay T r k).1 (lay T r k).2.length).length ≤ 400
        omega


def numErr (E : XK) (DB : Addr) (v : V) (H : Hp) : Prop := Errs E DB [(("high" : Str), .int 12), (("low" : Str), .int 0), (("value" : Str), v)] H
/-- what comes of points and told moves that are good -/
def MadeTo (G H : Hp) (n : Int) (T : List (List Int)) (DT : Addr) (Q : Addr → Hp → Prop) (E : XK) : Prop :=
  (∀ (p : Addr) (G' H' : Hp) (ys : List V) (L : List (List Int)), Stq G H G' H' → H p = none → G' p = none → H' p = some (.lst ys) → DaAll G' ys (L.map rowD) → Grp n T L → L.length ≤ 400 → Q p H') ∧
  ((∀ L : List (List Int), (∀ w, Mk' n T w → w ∈ L) → 400 < L.length) → Errs E DT [(("limit" : Str), .int 400), (("what" : Str), .str "made")] H)
/-- points, told moves: refused in this order, or good -/
def Judge (G H : Hp) (v : V) (dv : PyData) (ds : List PyData) (DB DN DT : Addr) (good : Int → List (List Int) → Prop) (E : XK) : Prop :=
  (isNum dv 0 12 = false → numErr E DB v H) ∧
  ∀ n : Int, dv = .int n → v = .int n → 0 ≤ n → n ≤ 12 → (8 < ds.length → Errs E DT [(("limit" : Str), .int 8), (("what" : Str), .str "told")] H) ∧ (ds.length ≤ 8 → ∀ i : Nat, badAt n ds i → Errs E DN [(("index" : Str), .int i)] H) ∧
    (ds.length ≤ 8 → ∀ T : List (List Int), ds = T.map rowD → AllMv n T → good n T)
def spMakeAll (K : PySem.W.Frag) (DB DN DT : Addr) : Sp := fun vs H Q E => ∃ (G : Hp) (v : V) (dv : PyData) (a : Addr) (xs : List V) (ds : List PyData), vs = [v, .ref a] ∧ Same G H ∧ Da G v dv ∧ HasS K H a xs ∧ DaAll G xs ds ∧ szL ds ≤ 900000 ∧
  Judge G H v dv ds DB DN DT (fun n T => MadeTo G H n T DT (fun p H' => Q (.ref p) H') E) E
theorem ok_make_all {DB DN DT : Addr} (Z : Zs mg) (D : Ds K mg) (c_check_points : CalX P w K mg base "check_points" 4 ["value"] (spCheckPts DB)) (c_check_moves : CalX P w K mg base "check_moves" 4 ["points", "moves", "what", "limit"] (spCheckMoves K DN DT)) (c_still_move : CalX P w K mg base "still_move" 5 ["points"] (spStill DB)) (c_best_words : CalX P w K mg base "best_words" 3 ["row", "told"] (spBest K DT)) : CalX P w K mg base "make_all" 6 ["points", "moves"] (spMakeAll K DB DN DT) := by
  refine DefD.calX D.d_make_all sc_make_all (fun vs H Q E h => ?_) (fun f cdv A outer s H vs Q E hr h => ?_)
  · obtain ⟨G, v, dv, a, xs, ds, rfl, gh, dd, hl, dx, sz, j1, j2⟩ := h
    rfl
  obtain ⟨G, v, dv, a, xs, ds, rfl, gh, dd, hl, dx, sz, j1, j2⟩ := h
  refine ⟨_, (pss_cons (ps_expr (pe_calX c_check_points (L2N.takes_of rfl rfl rfl rfl) (hr.mono (by first | decide | omega)) (by rfl) (pa_cons (pv 0) pa_nil)))
      (pss_cons (ps_expr (pe_calX c_check_moves (L2N.takes_of rfl rfl rfl rfl) (hr.mono (by first | decide | omega)) (by rfl) (pa_cons (pv 0) (pa_cons (pv 1) (pa_cons pe_str (pa_cons (pe_globI (by rfl) Z.c_MOST_TOLD) pa_nil))))))
      (pss_one (ps_ret (pe_callB (call_sortDT (by rfl)) (by rfl) Z.z_sorted (by decide +kernel) (pa_cons (pe_calX c_best_words (L2N.takes_of rfl rfl rfl rfl) (hr.mono (by first | decide | omega)) (by rfl) (pa_cons (pe_calX c_still_move (L2N.takes_of rfl rfl rfl rfl) (hr.mono (by first | decide | omega)) (by rfl) (pa_cons (pv 0) pa_nil)) (pa_cons (pv 1) pa_nil))) pa_nil)))))), ?_⟩
  refine ⟨_, rfl, v, dv, rfl, dd.up gh, fun e => ?_, j1⟩
  obtain ⟨n, rfl, n0, n12⟩ := num_int e
  have ev : v = .int n := by cases dd; rfl
  subst ev
  obtain ⟨k1, k2, k3⟩ := j2 n rfl rfl n0 n12
  refine ⟨_, rfl, _, rfl, G, a, xs, ds, n, "told", 8, rfl, gh, hl, dx, sz, fun c => k1 (by omega), fun c i b => k2 (by omega) i b, fun c all_ H1 s1 => ?_⟩
  obtain ⟨T, rfl, mvT⟩ := all_rows all_
  rw [List.length_map] at c
  obtain ⟨m1, m2⟩ := k3 (by rw [List.length_map]; omega) T rfl mvT
  have S1 := (Stq.refl gh).pure s1
  refine ⟨_, rfl, n, rfl, n0, n12, fun p H2 n2 => ?_⟩
  obtain ⟨G2, S2, g2, k2', o2⟩ := S1.know2 n2
  have hl2 : HasS K H2 a xs := HasS.up n2.same (HasS.up s1 hl)
  refine ⟨_, rfl, G2, p, a, rngI n, xs, T, n, rfl, S2.gh, k2', hl2, dx.up g2, mvT, by omega, rng_mv.row, by rw [rngI_len]; omega, fun d G3 H3 kvs W k S3 fd gd3 hd3 wk hlay prev lW => ?_, fun h => (m2 h).up S2.hh⟩
  have I : LayOk T (rngI n) W [] k := by
    have := lay_ok T (rngI n) k prev
    rw [hlay] at this
    exact this
  have keys := lay_end I
  have S3' := S2.trans S3
  refine ⟨d, kvs, W.map (·.1), rfl, hd3, wk.keys, fun h2 l hl e => ?_, fun ys Ms q H4 dy pm so n4 => ?_⟩
  · subst e
    have := ((keys []).mp hl).row mvT rng_mv.row
    have z : (rngI n).length = 0 := this.2.symm
    rw [rngI_len] at z
    have all0 : ∀ w ∈ W.map (·.1), w ∈ [([] : List Int)] := fun w hw => by
      have := ((keys w).mp hw).row mvT rng_mv.row
      rw [rngI_len, z] at this
      rw [List.eq_nil_of_length_eq_zero this.2]
      exact List.mem_singleton.mpr rfl
    have := len_sub I.nd all0
    simp at this h2
    omega
  · obtain ⟨s4, gq, hq, fq⟩ := S3'.loc2 n4
    have dy4 := rows_full s4.gh (dy.up n4.same)
    have gq4 := full_else hq rfl gq
    have lM : Ms.length ≤ 400 := by
      have := pm.length_eq
      rw [List.length_map] at this
      omega
    exact m1 q (fullG G3 H4) H4 ys Ms s4.full fq gq4 hq dy4 (.of_perm I.nd keys pm so) lM
/-! ### worlds -/
def wf (ml : Addr) (n : Int) (tl : Addr) : List (Str × V) := putF "_told" (.ref tl) (putF "_points" (.int n) (putF "_made" (.ref ml) []))
theorem wf_eq (ml : Addr) (n : Int) (tl : Addr) : wf ml n tl = [(("_made" : Str), V.ref ml), (("_points" : Str), V.int n), (("_told" : Str), V.ref tl)] := by
  unfold wf
  show putF "_told" (.ref tl) (if ("_made" : Str) = "_points" then _ else _) = _
  rw [if_neg (by decide)]
  show (if ("_made" : Str) = "_told" then _ else (("_made" : Str), V.ref ml) :: (if ("_points" : Str) = "_told" then _ else _)) = _
  rw [if_neg (by decide), if_neg (by decide)]
  rfl
theorem wf_made (ml : Addr) (n : Int) (tl : Addr) : (wf ml n tl).lookup ("_made" : Str) = some (.ref ml) := by rw [wf_eq]; rfl
theorem wf_points (ml : Addr) (n : Int) (tl : Addr) : (wf ml n tl).lookup ("_points" : Str) = some (.int n) := by rw [wf_eq]; rfl
theorem wf_told (ml : Addr) (n : Int) (tl : Addr) : (wf ml n tl).lookup ("_told" : Str) = some (.ref tl) := by rw [wf_eq]; rfl
/-- a world stands at x -/
def WAt (C : Addr) (G : Hp) (x : Addr) (n : Int) (T L : List (List Int)) : Prop := ∃ (dx ml tl : Addr) (ms ts : List V), G x = some (.ins C dx (wf ml n tl)) ∧ G ml = some (.lst ms) ∧ DaAll G ms (L.map rowD) ∧ G tl = some (.lst ts) ∧ DaAll G ts (T.map rowD)
theorem WAt.up {C : Addr} {G G' : Hp} {x : Addr} {n : Int} {T L : List (List Int)} (h : WAt C G x n T L) (g : Same G G') : WAt C G' x n T L := by
  obtain ⟨dx, ml, tl, ms, ts, h1, h2, h3, h4, h5⟩ := h
  exact ⟨dx, ml, tl, ms, ts, g _ _ h1, g _ _ h2, h3.up g, g _ _ h4, h5.up g⟩
structure WOk (n : Int) (T L : List (List Int)) : Prop where
  n0 : 0 ≤ n
  n12 : n ≤ 12
  mv : AllMv n T
  lT : T.length ≤ 8
  lL : L.length ≤ 400
  grp : Grp n T L
/-- the object's own heap: what stood before it was made; x new -/
def spInit (K : PySem.W.Frag) (C DB DN DT : Addr) : Sp := fun vs H Q E => ∃ (G : Hp) (x dx : Addr) (v : V) (dv : PyData) (a : Addr) (xs : List V) (ds : List PyData), vs = [.ref x, v, .ref a] ∧ Same G H ∧ G x = none ∧ H x = some (.ins C dx []) ∧ Da G v dv ∧ HasS K H a xs ∧ DaAll G xs ds ∧ szL ds ≤ 900000 ∧
  Judge G H v dv ds DB DN DT (fun n T => (∀ (G' H' : Hp), Stp x G H G' H' → ∀ (ml tl : Addr) (ms ts : List V) (L : List (List Int)), G' x = none → H' x = some (.ins C dx (wf ml n tl)) → G' ml = some (.lst ms) → DaAll G' ms (L.map rowD) → G' tl = some (.lst ts) → DaAll G' ts (T.map rowD) → WOk n T L → Q .non H') ∧
    ((∀ L : List (List Int), (∀ w, Mk' n T w → w ∈ L) → 400 < L.length) → Errs E DT [(("limit" : Str), .int 400), (("what" : Str), .str "made")] H)) E
theorem ok_init {CW DB DN DT : Addr} (Z : Zs mg) (D : Ds K mg) (W : Dw K mg CW) (c_make_all : CalX P w K mg base "make_all" 6 ["points", "moves"] (spMakeAll K DB DN DT)) : CalM P w K mg base CW "__init__" 7 ["self", "points", "moves"] (spInit K CW DB DN DT) := by
  refine MDef.calM W.d_World___init__ sc_World___init__ (fun vs H Q E h => ?_) (fun f cdv A outer s H vs Q E hr h => ?_)
  · obtain ⟨G, x, dx, v, dv, a, xs, ds, rfl, gh, gx, hx, dd, hl, dxs, sz, j1, j2⟩ := h
    rfl
  obtain ⟨G, x, dx, v, dv, a, xs, ds, rfl, gh, gx, hx, dd, hl, dxs, sz, j1, j2⟩ := h
  refine ⟨_, (pss_cons (ps_fld (pv 0) (pe_calX c_make_all (L2N.takes_of rfl rfl rfl rfl) (hr.mono (by first | decide | omega)) (by rfl) (pa_cons (pv 1) (pa_cons (pv 2) pa_nil))) rfl)
      (pss_cons (ps_fld (pv 0) (pv 1) rfl)
      (pss_one (ps_fld (pv 0) (pe_callTy call_listN (by rfl) Z.z_list (by decide +kernel) (pa_cons (pv 2) pa_nil)) rfl)))), ?_⟩
  have nax : HasL H a xs → a ≠ x := fun h => h.elim (fun h => ne_of h hx (by intro z; cases z)) fun h => ne_of h hx (by intro z; cases z)
  refine ⟨_, rfl, _, rfl, G, v, dv, a, xs, ds, rfl, gh, dd, hl, dxs, sz, j1, fun n e1 e2 n0 n12 => ?_⟩
  subst e1 e2
  obtain ⟨k1, k2, k3⟩ := j2 n rfl rfl n0 n12
  refine ⟨k1, k2, fun l8 T eT mvT => ?_⟩
  obtain ⟨m1, m2⟩ := k3 l8 T eT mvT
  refine ⟨fun ml G1 H1 ys L s1 fml gml hml dy grp lL => ?_, m2⟩
  subst eT
  rw [List.length_map] at l8
  have hx1 := s1.hh _ _ hx
  have gx1 := s1.nw2 hx gx
  have nmx : ml ≠ x := fun e => by rw [e, hx] at fml; cases fml
  refine ⟨_, rfl, x, CW, dx, _, rfl, hx1, W.wc.cl, W.n_made, by show 0 < 1000; decide, ?_⟩
  have P1 : Stp x G H G1 (upd H1 x (.ins CW dx (putF "_made" (.ref ml) []))) := s1.p.putS gx1 rfl rfl
  refine ⟨_, rfl, _, rfl, x, CW, dx, _, rfl, upd_same, W.wc.cl, W.n_points, by show 1 < 1000; decide, ?_⟩
  have P2 := P1.putS gx1 (o := .ins CW dx (putF "_points" (.int n) (putF "_made" (.ref ml) []))) rfl rfl
  have hl2 : HasS K (upd (upd H1 x (.ins CW dx (putF "_made" (.ref ml) []))) x (.ins CW dx (putF "_points" (.int n) (putF "_made" (.ref ml) [])))) a xs := hl.imp (fun h => h.imp (P2.hh _ _ (nax h)) (P2.hh _ _ (nax h))) id
  have hml2 : (upd (upd H1 x (.ins CW dx (putF "_made" (.ref ml) []))) x (.ins CW dx (putF "_points" (.int n) (putF "_made" (.ref ml) [])))) ml = some (.lst ys) := by rw [upd_ne nmx, upd_ne nmx]; exact hml
  have hx2 : (upd (upd H1 x (.ins CW dx (putF "_made" (.ref ml) []))) x (.ins CW dx (putF "_points" (.int n) (putF "_made" (.ref ml) [])))) x = some (.ins CW dx (putF "_points" (.int n) (putF "_made" (.ref ml) []))) := upd_same
  generalize (upd (upd H1 x (.ins CW dx (putF "_made" (.ref ml) []))) x (.ins CW dx (putF "_points" (.int n) (putF "_made" (.ref ml) [])))) = H2 at P2 hl2 hml2 hx2 ⊢
  refine ⟨_, rfl, a, xs, rfl, hl2.len, fun tl H3 n3 => ?_⟩
  have ntx : tl ≠ x := fun e => by have := n3.fr; rw [e, hx2] at this; cases this
  have P3 : Stp x G H G1 H3 := P2.q (Stq.loc P2.gh n3).1
  have gtl : G1 tl = none := P2.gh.free n3.fr
  have ftl : H tl = none := by
    cases e : H tl with
    | none => rfl
    | some o =>
      have := P2.hh tl o ntx e
      rw [n3.fr] at this
      cases this
  have hml3 := n3.else hml2
  have hx3 := n3.else hx2
  refine ⟨_, rfl, x, CW, dx, _, rfl, hx3, W.wc.cl, W.n_told, by show 2 < 1000; decide, ?_⟩
  have P4 := P3.putS gx1 (o := .ins CW dx (wf ml n tl)) rfl rfl
  have hml4 : upd H3 x (.ins CW dx (wf ml n tl)) ml = some (.lst ys) := by rw [upd_ne nmx]; exact hml3
  have htl4 : upd H3 x (.ins CW dx (wf ml n tl)) tl = some (.lst xs) := by rw [upd_ne ntx]; exact n3.at
  have hx4 : upd H3 x (.ins CW dx (wf ml n tl)) x = some (.ins CW dx (wf ml n tl)) := upd_same
  obtain ⟨G5, P5, g5, km, o5⟩ := P4.frz gml fml hml4
  have ntm : tl ≠ ml := fun e => by have := n3.fr; rw [e, hml2] at this; cases this
  obtain ⟨G6, P6, g6, kt, o6⟩ := P5.frz (by rw [o5 tl ntm]; exact gtl) ftl htl4
  have gx6 : G6 x = none := by rw [o6 x (Ne.symm ntx), o5 x (Ne.symm nmx)]; exact gx1
  exact m1 G6 _ P6 ml tl ys xs L gx6 hx4 (g6 _ _ km) ((dy.up g5).up g6) kt (((dxs.up s1.gg).up g5).up g6) ⟨n0, n12, mvT, l8, lL, grp⟩


def spPoints (C : Addr) : Sp := fun vs H Q _ => ∃ (G : Hp) (x : Addr) (n : Int) (T L : List (List Int)), vs = [.ref x] ∧ Same G H ∧ WAt C G x n T L ∧ Q (.int n) H
theorem ok_points {CW : Addr} (Z : Zs mg) (D : Ds K mg) (W : Dw K mg CW) : CalP P w K mg base CW "points" 1 ["self"] (spPoints CW) := by
  refine PDef.calP W.d_World_points sc_World_points (fun vs H Q E h => ?_) (fun f cdv A outer s H vs Q E hr h => ?_)
  · obtain ⟨G, x, n, T, L, rfl, gh, ⟨dx, ml, tl, ms, ts, h1, h2, h3, h4, h5⟩, q⟩ := h
    rfl
  obtain ⟨G, x, n, T, L, rfl, gh, ⟨dx, ml, tl, ms, ts, h1, h2, h3, h4, h5⟩, q⟩ := h
  refine ⟨_, (pss_one (ps_ret (pe_fld (pv 0) rfl))), ?_⟩
  exact ⟨_, rfl, x, CW, dx, _, _, rfl, gh _ _ h1, W.wc.cl, W.n_points, wf_points _ _ _, q⟩
def spTold (C : Addr) : Sp := fun vs H Q _ => ∃ (G : Hp) (x : Addr) (n : Int) (T L : List (List Int)), vs = [.ref x] ∧ Same G H ∧ WAt C G x n T L ∧ ∀ (p : Addr) (ts : List V) (H' : Hp), DaAll G ts (T.map rowD) → New H p (.lst ts) H' → Q (.ref p) H'
theorem ok_wtold {CW : Addr} (Z : Zs mg) (D : Ds K mg) (W : Dw K mg CW) : CalP P w K mg base CW "told" 1 ["self"] (spTold CW) := by
  refine PDef.calP W.d_World_told sc_World_told (fun vs H Q E h => ?_) (fun f cdv A outer s H vs Q E hr h => ?_)
  · obtain ⟨G, x, n, T, L, rfl, gh, ⟨dx, ml, tl, ms, ts, h1, h2, h3, h4, h5⟩, q⟩ := h
    rfl
  obtain ⟨G, x, n, T, L, rfl, gh, ⟨dx, ml, tl, ms, ts, h1, h2, h3, h4, h5⟩, q⟩ := h
  refine ⟨_, (pss_one (ps_ret (pe_callTy call_listN (by rfl) Z.z_list (by decide +kernel) (pa_cons (pe_fld (pv 0) rfl) pa_nil)))), ?_⟩
  exact ⟨_, rfl, x, CW, dx, _, _, rfl, gh _ _ h1, W.wc.cl, W.n_told, wf_told _ _ _, tl, ts, rfl, .inl (.of (gh _ _ h4)), fun p H' n' => q p ts H' h5 n'⟩
def spMade (C : Addr) : Sp := fun vs H Q _ => ∃ (G : Hp) (x : Addr) (n : Int) (T L : List (List Int)), vs = [.ref x] ∧ Same G H ∧ WAt C G x n T L ∧ ∀ (p : Addr) (ms : List V) (H' : Hp), DaAll G ms (L.map rowD) → New H p (.lst ms) H' → Q (.ref p) H'
theorem ok_wmade {CW : Addr} (Z : Zs mg) (D : Ds K mg) (W : Dw K mg CW) : CalP P w K mg base CW "made" 1 ["self"] (spMade CW) := by
  refine PDef.calP W.d_World_made sc_World_made (fun vs H Q E h => ?_) (fun f cdv A outer s H vs Q E hr h => ?_)
  · obtain ⟨G, x, n, T, L, rfl, gh, ⟨dx, ml, tl, ms, ts, h1, h2, h3, h4, h5⟩, q⟩ := h
    rfl
  obtain ⟨G, x, n, T, L, rfl, gh, ⟨dx, ml, tl, ms, ts, h1, h2, h3, h4, h5⟩, q⟩ := h
  refine ⟨_, (pss_one (ps_ret (pe_callTy call_listN (by rfl) Z.z_list (by decide +kernel) (pa_cons (pe_fld (pv 0) rfl) pa_nil)))), ?_⟩
  exact ⟨_, rfl, x, CW, dx, _, _, rfl, gh _ _ h1, W.wc.cl, W.n_made, wf_made _ _ _, ml, ms, rfl, .inl (.of (gh _ _ h2)), fun p H' n' => q p ms H' h3 n'⟩
def spLenW (C : Addr) : Sp := fun vs H Q _ => ∃ (G : Hp) (x : Addr) (n : Int) (T L : List (List Int)), vs = [.ref x] ∧ Same G H ∧ WAt C G x n T L ∧ Q (.int (L.length : Nat)) H
theorem ok_wlen {CW : Addr} (Z : Zs mg) (D : Ds K mg) (W : Dw K mg CW) : CalM P w K mg base CW "__len__" 1 ["self"] (spLenW CW) := by
  refine MDef.calM W.d_World___len__ sc_World___len__ (fun vs H Q E h => ?_) (fun f cdv A outer s H vs Q E hr h => ?_)
  · obtain ⟨G, x, n, T, L, rfl, gh, ⟨dx, ml, tl, ms, ts, h1, h2, h3, h4, h5⟩, q⟩ := h
    rfl
  obtain ⟨G, x, n, T, L, rfl, gh, ⟨dx, ml, tl, ms, ts, h1, h2, h3, h4, h5⟩, q⟩ := h
  refine ⟨_, (pss_one (ps_ret (pe_callB call_len_seq (by rfl) Z.z_len (by decide +kernel) (pa_cons (pe_fld (pv 0) rfl) pa_nil)))), ?_⟩
  refine ⟨_, rfl, x, CW, dx, _, _, rfl, gh _ _ h1, W.wc.cl, W.n_made, wf_made _ _ _, ml, ms, rfl, .inl (.of (gh _ _ h2)), ?_⟩
  have := h3.length
  rw [List.length_map] at this
  rw [this]
  exact q
def spEqW (C : Addr) : Sp := fun vs H Q _ => ∃ (G : Hp) (x y : Addr) (n m : Int) (T L U M : List (List Int)), vs = [.ref x, .ref y] ∧ Same G H ∧ WAt C G x n T L ∧ WAt C G y m U M ∧ ∀ b : Bool, (b = true ↔ n = m ∧ L = M) → Q (.bl b) H
theorem ok_weq {CW : Addr} (Z : Zs mg) (D : Ds K mg) (W : Dw K mg CW) : CalM P w K mg base CW "__eq__" 1 ["self", "other"] (spEqW CW) := by
  refine MDef.calM W.d_World___eq__ sc_World___eq__ (fun vs H Q E h => ?_) (fun f cdv A outer s H vs Q E hr h => ?_)
  · obtain ⟨G, x, y, n, m, T, L, U, M, rfl, gh, ⟨dx, ml, tl, ms, ts, h1, h2, h3, h4, h5⟩, ⟨dx', ml', tl', ms', ts', h1', h2', h3', h4', h5'⟩, q⟩ := h
    rfl
  obtain ⟨G, x, y, n, m, T, L, U, M, rfl, gh, ⟨dx, ml, tl, ms, ts, h1, h2, h3, h4, h5⟩, ⟨dx', ml', tl', ms', ts', h1', h2', h3', h4', h5'⟩, q⟩ := h
  refine ⟨_, (pss_cons (ps_if (pt_not (pt_val (pe_callB call_isi (by rfl) Z.z_isinstance (by decide +kernel) (pa_cons (pv 1) (pa_cons (pe_cls (by rfl) W.wc.gC) pa_nil))))) (pss_one (ps_ret pe_bl)) pss_nil)
      (pss_one (ps_ret (pe_and (pe_cmp (pc_eqI (pe_fld (pv 0) rfl) (pe_fld (pv 1) rfl)) (nomark _)) (pe_one (pe_cmpR (op_eqR hr.units) (pe_fld (pv 0) rfl) (pe_fld (pv 1) rfl) (nomark _))))))), ?_⟩
  refine ⟨_, rfl, _, _, _, _, true, rfl, .own CW, W.wc.ty (gh _ _ h1'), kit_self, _, rfl, iteF ?_⟩
  refine ⟨_, rfl, x, CW, dx, _, _, rfl, gh _ _ h1, W.wc.cl, W.n_points, wf_points _ _ _, _, rfl, y, CW, dx', _, _, rfl, gh _ _ h1', W.wc.cl, W.n_points, wf_points _ _ _, _, _, rfl, rfl, _, rfl, ite2 (fun c => ?_) (fun c => ?_)⟩
  · have c : n = m := dec_of c
    refine ⟨_, rfl, x, CW, dx, _, _, rfl, gh _ _ h1, W.wc.cl, W.n_made, wf_made _ _ _, _, rfl, y, CW, dx', _, _, rfl, gh _ _ h1', W.wc.cl, W.n_made, wf_made _ _ _, ml, ml', ms, ms', L, M, rfl, rfl, .of (gh _ _ h2), .of (gh _ _ h2'), h3.up gh, h3'.up gh, ?_⟩
    refine q _ ⟨fun e => ⟨c, of_decide_eq_true e⟩, fun e => decide_eq_true e.2⟩
  · have c : ¬ n = m := dec_not c
    exact q false ⟨(fun e => by cases e), fun e => absurd e.1 c⟩


def spGroup : Sp := fun vs H Q _ => ∃ (G : Hp) (a : Addr) (ts : List V) (T : List (List Int)) (n most : Int), vs = [.int n, .ref a, .int most] ∧ Same G H ∧ 0 ≤ n ∧ n ≤ 12 ∧ H a = some (.lst ts) ∧ DaAll G ts (T.map rowD) ∧ AllMv n T ∧ T.length ≤ 1000 ∧ 1 ≤ most ∧ most ≤ 1000 ∧
  (∀ (p : Addr) (G' H' : Hp) (ys : List V) (L : List (List Int)), Stq G H G' H' → H p = none → G' p = none → H' p = some (.lst ys) → DaAll G' ys (L.map rowD) → Grp n T L → ((L.length : Nat) : Int) ≤ most → Q (.ref p) H') ∧
  ((∀ L : List (List Int), (∀ w, Mk' n T w → w ∈ L) → most < (L.length : Nat)) → ∀ H', Same H H' → Q .non H')
theorem ok_group (Z : Zs mg) (D : Ds K mg) (c__law_after : Cal P w K mg base "_law_after" 1 ["first", "second"] spAfter) : Cal P w K mg base "_law_group" 2 ["points", "told", "most"] spGroup := by
  refine Def.cal D.d_law_group sc_law_group (fun vs H Q E h => ?_) (fun f cdv A outer s H vs Q E hr h => ?_)
  · obtain ⟨G, a, ts, T, n, most, rfl, gh, n0, n12, ha, dt, mvT, lT, m1, m2, q1, q2⟩ := h
    rfl
  obtain ⟨G, a, ts, T, n, most, rfl, gh, n0, n12, ha, dt, mvT, lT, m1, m2, q1, q2⟩ := h
  refine ⟨_, (pss_cons (ps_set (i := 3) sc_law_group.nd rfl (Or.inl rfl) (pe_tupRgN rfl (by rfl) Z.z_tuple (prg_1 (by rfl) Z.z_range (pv 0))))
      (pss_cons (ps_set (i := 4) sc_law_group.nd rfl (Or.inl rfl) (pe_lstN (pa_cons (pv 3) pa_nil)))
      (pss_cons (ps_set (i := 5) sc_law_group.nd rfl (Or.inl rfl) (pe_dispT1 (hu_of hr) (pv 3) pe_bl))
      (pss_cons (ps_set (i := 6) sc_law_group.nd rfl (Or.inl rfl) pe_int)
      (pss_cons (ps_while PassesOwn.never (pt_cmp (pc_lt (pv 6) (pe_callB call_len_seq (by rfl) Z.z_len (by decide +kernel) (pa_cons (pv 4) pa_nil))) (nomark _)) (pss_cons (ps_for PassesOwn.never rfl (pi_list (pv 1)) (pg_name (i := 7) sc_law_group.nd rfl (Or.inl rfl)) (pss_cons (ps_set (i := 8) sc_law_group.nd rfl (Or.inl rfl) (pe_cal c__law_after (hr.mono (by first | decide | omega)) (by rfl) (pa_cons (pe_ix ix_list (pv 4) (pv 6) (fun _ _ => rfl)) (pa_cons (pv 7) pa_nil))))
      (pss_one (ps_if (pt_cmp (pc_dnotin (hu_of hr) (pv 8) (pv 5))) (pss_cons (ps_if (pt_cmp (pc_ge (pe_callB call_len_seq (by rfl) Z.z_len (by decide +kernel) (pa_cons (pv 4) pa_nil)) (pv 2)) (nomark _)) (pss_one (ps_ret pe_non)) pss_nil)
      (pss_cons (ps_dput (hu_of hr) (pv 5) (pv 8) pe_bl rfl)
      (pss_one (ps_expr (pe_bm PySem.F.plainAttrs_list PySem.F.slot_list_append PySem.F.type_list_append mt_appendN (pv 4) (pa_cons (pv 8) pa_nil)))))) pss_nil))))
      (pss_one (ps_set (i := 6) sc_law_group.nd rfl (Or.inl rfl) (pe_op op_add (pv 6) pe_int)))))
      (pss_one (ps_ret (pe_callB call_sortR (by rfl) Z.z_sorted (by decide +kernel) (pa_cons (pv 4) pa_nil))))))))), ?_⟩
  have lt := dt.length
  rw [List.length_map] at lt
  refine ⟨_, rfl, n, rfl, .of_le (by decide) (by omega) (by decide) (by omega), fun p H1 n1 => ?_⟩
  rw [rgV_rngI] at n1
  obtain ⟨G1, s1, g1, k1, -⟩ := (Stq.refl gh).know2 n1
  refine ⟨_, rfl, Nat.succ_le_of_lt (Nat.lt_of_lt_of_le (show 0 < 2 by decide) (by decide)), fun qa H2 n2 => ?_⟩
  obtain ⟨s2, gq, hq, fq⟩ := s1.loc2 n2
  refine fun d hd => ⟨_, rfl, ?_⟩
  obtain ⟨s3, gd, h3, fd⟩ := s2.loc2 (p := d) (o := .dT []) ⟨hd, rfl⟩
  have hp3 : upd H2 d (.dT []) p = some (.tup ((keyL (rngI n)).map kV)) := by rw [keyL_kV]; exact s3.gh _ _ k1
  have nqd : qa ≠ d := fun e => by rw [← e, hq] at hd; cases hd
  refine ⟨h3, p, keyL (rngI n), rfl, hp3, ?_⟩
  have s4 := s3.mut gd fd (o := .dT [(keyL (rngI n), V.bl true)]) rfl
  have hd4 : upd (upd H2 d (.dT [])) d (.dT [(keyL (rngI n), V.bl true)]) d = some (.dT [(keyL (rngI n), V.bl true)]) := upd_same
  have hq4 : upd (upd H2 d (.dT [])) d (.dT [(keyL (rngI n), V.bl true)]) qa = some (.lst [V.ref p]) := by rw [upd_ne nqd, upd_ne nqd]; exact hq
  generalize upd (upd H2 d (.dT [])) d (.dT [(keyL (rngI n), V.bl true)]) = H4 at s4 hd4 hq4 ⊢
  refine ⟨fun m σ' H' => ∃ (at_ : Nat) (G' : Hp) (Qs : List (List Int)) (kvs : List (List L2.Key × V)) (ys : List V) (y7 y8 : Option V), m = most.toNat - at_ ∧ σ' = [some (.int n), some (.ref a), some (.int most), some (.ref p), some (.ref qa), some (.ref d), some (.int (at_ : Nat)), y7, y8] ∧ Stq G H G' H' ∧ G' qa = none ∧ G' d = none ∧
    H' qa = some (.lst ys) ∧ H' d = some (.dT kvs) ∧ DaAll G' ys (Qs.map rowD) ∧ kvs.map (·.1) = Qs.map keyL ∧ QOk T (rngI n) Qs at_ 0 ∧ ((Qs.length : Nat) : Int) ≤ most, ⟨_, 0, G1, [rngI n], _, _, none, none, rfl, rfl, s4, gq, gd, hq4, hd4, .cons (.tup k1 (DaAll.ints _)) .nil, rfl, .start _ _, by show ((1 : Nat) : Int) ≤ most; omega⟩, ?_⟩
  rintro m σ' H5 ⟨at_, G5, Qs, kvs, ys, y7, y8, rfl, rfl, s5, gq5, gd5, hq5, hd5, dy5, ek, ok, lm⟩
  have ly := dy5.length
  rw [List.length_map] at ly
  refine ⟨_, rfl, _, rfl, qa, _, rfl, .inl (.of hq5), _, _, rfl, rfl, _, rfl, ite2 (fun c => ?_) (fun c => ?_)⟩
  · have c : ((at_ : Nat) : Int) < ((ys.length : Nat) : Int) := dec_of c
    have atl : at_ < Qs.length := by omega
    obtain ⟨x, hx⟩ : ∃ x, Qs[at_]? = some x := ⟨_, List.getElem?_eq_getElem atl⟩
    refine ⟨fun σ' H' => ∃ m', m' < most.toNat - at_ ∧ ∃ (at_ : Nat) (G' : Hp) (Qs : List (List Int)) (kvs : List (List L2.Key × V)) (ys : List V) (y7 y8 : Option V), m' = most.toNat - at_ ∧ σ' = [some (.int n), some (.ref a), some (.int most), some (.ref p), some (.ref qa), some (.ref d), some (.int (at_ : Nat)), y7, y8] ∧ Stq G H G' H' ∧ G' qa = none ∧ G' d = none ∧
      H' qa = some (.lst ys) ∧ H' d = some (.dT kvs) ∧ DaAll G' ys (Qs.map rowD) ∧ kvs.map (·.1) = Qs.map keyL ∧ QOk T (rngI n) Qs at_ 0 ∧ ((Qs.length : Nat) : Int) ≤ most, fun σ' H' z => z, ?_⟩
    refine ⟨_, rfl, a, rfl, ⟨_, .of (s5.hh _ _ ha)⟩, for_list (K := K) (a := a) (xs := ts) (fun j σ' H' => ∃ (G' : Hp) (Qs : List (List Int)) (kvs : List (List L2.Key × V)) (ys : List V) (y7 y8 : Option V), σ' = [some (.int n), some (.ref a), some (.int most), some (.ref p), some (.ref qa), some (.ref d), some (.int (at_ : Nat)), y7, y8] ∧ Stq G H G' H' ∧ G' qa = none ∧ G' d = none ∧
      H' qa = some (.lst ys) ∧ H' d = some (.dT kvs) ∧ DaAll G' ys (Qs.map rowD) ∧ kvs.map (·.1) = Qs.map keyL ∧ QOk T (rngI n) Qs at_ j ∧ ((Qs.length : Nat) : Int) ≤ most ∧ at_ < Qs.length) ?_ ?_ ?_ ?_⟩
    · exact ⟨G5, Qs, kvs, ys, y7, y8, rfl, s5, gq5, gd5, hq5, hd5, dy5, ek, ok, lm, atl⟩
    · rintro j σ' H' - ⟨G', Qs, kvs, ys, y7, y8, rfl, s6, -⟩
      exact .of (s6.hh _ _ ha)
    · rintro j y σ' H6 hy ⟨G6, Qs, kvs, ys, y7, y8, rfl, s6, gq6, gd6, hq6, hd6, dy6, ek, ok, lm, atl⟩
      obtain ⟨e, he, hde⟩ := dt.get hy
      rw [List.getElem?_map] at he
      obtain ⟨m, hm, rfl⟩ := Option.map_eq_some_iff.mp he
      obtain ⟨b, rfl, hb⟩ := rows_ref hde
      obtain ⟨x, hx⟩ : ∃ x, Qs[at_]? = some x := ⟨_, List.getElem?_eq_getElem atl⟩
      have lyj := dy6.length
      rw [List.length_map] at lyj
      obtain ⟨v, hv⟩ : ∃ v, ys[at_]? = some v := ⟨_, List.getElem?_eq_getElem (by omega)⟩
      obtain ⟨e2, he2, hdx⟩ := dy6.get hv
      rw [List.getElem?_map, hx] at he2
      cases he2
      obtain ⟨c2, rfl, hc2⟩ := rows_ref hdx
      have xmv := made_mv n0 mvT (ok.rch x (List.mem_of_getElem? hx))
      have mvm := mvT m (List.mem_of_getElem? hm)
      refine ⟨_, rfl, _, rfl, qa, _, _, _, rfl, rfl, .of hq6, atI_nat hv, _, rfl, G6, c2, b, x, m, n, rfl, s6.gh, hc2, s6.gg _ _ hb, mvm, xmv.row, by have := xmv.len; omega, fun p7 G7 H7 s7 k7 => ?_⟩
      have S7 := s6.trans s7
      have hd7 := s7.hh _ _ hd6
      have hq7 := s7.hh _ _ hq6
      have gd7 := s7.nw2 hd6 gd6
      have gq7 := s7.nw2 hq6 gq6
      have dy7 := dy6.up s7.gg
      have hp7 : H7 p7 = some (.tup ((keyL (aft x m)).map kV)) := by rw [keyL_kV]; exact s7.gh _ _ k7
      refine ⟨_, rfl, _, rfl, d, _, rfl, DGet.t hd7 hp7, _, rfl, ?_⟩
      rw [val_some ek]
      by_cases c : aft x m ∈ Qs
      · rw [decide_eq_true c]
        exact iteF ⟨G7, Qs, kvs, ys, _, _, rfl, S7, gq7, gd7, hq7, hd7, dy7, ek, ok.same hx hm c, lm, atl⟩
      · rw [decide_eq_false c]
        refine iteT ⟨_, rfl, qa, _, rfl, .inl (.of hq7), _, rfl, _, _, rfl, rfl, _, rfl, ite2 (fun c3 => ?_) (fun c3 => ?_)⟩
        · have c3 : most ≤ ((ys.length : Nat) : Int) := dec_of c3
          refine q2 (fun L hL => ?_) H7 S7.hh
          have ok2 := ok.app hx hm c
          have := len_sub ok2.nd fun w hw => hL w (ok2.rch w hw)
          rw [List.length_append] at this
          have e1 : ([aft x m] : List (List Int)).length = 1 := rfl
          omega
        · have c3 : ¬ most ≤ ((ys.length : Nat) : Int) := dec_not c3
          have lkv : kvs.length = Qs.length := by
            have := congrArg List.length ek
            rwa [List.length_map, List.length_map] at this
          refine ⟨_, rfl, _, rfl, d, _, rfl, DPut.t hd7 hp7 (Nat.lt_of_le_of_lt (show kvs.length ≤ 1000 by omega) (by decide)), ?_⟩
          have nqd : qa ≠ d := ne_of hq7 hd7 (by intro z; cases z)
          have S8 := S7.mut gd7 fd (o := .dT (putK kvs (keyL (aft x m)) (.bl true))) rfl
          have hq8 : upd H7 d (.dT (putK kvs (keyL (aft x m)) (.bl true))) qa = some (.lst ys) := by rw [upd_ne nqd]; exact hq7
          refine ⟨_, rfl, .inl ⟨rfl, _, .of hq8⟩, _, rfl, qa, _, _, rfl, rfl, hq8, Nat.lt_of_le_of_lt (show ys.length ≤ 1000 by omega) (by decide), fun H9 e9 => ?_⟩
          refine ⟨G7, Qs ++ [aft x m], _, _, _, _, rfl, S8.mut gq7 fq e9, gq7, gd7, upd_at e9, upd_else e9 upd_same (Ne.symm nqd), ?_, ?_, ok.app hx hm c, ?_, ?_⟩
          · rw [List.map_append]
            exact dy7.append (.one (.tup k7 (DaAll.ints _)))
          · rw [putK_new _ (val_none ek c), List.map_append, List.map_append, ek]
            rfl
          · rw [List.length_append]
            show ((Qs.length + 1 : Nat) : Int) ≤ most
            omega
          · rw [List.length_append]
            omega
    · rintro σ' H6 ⟨G6, Qs, kvs, ys, y7, y8, rfl, s6, gq6, gd6, hq6, hd6, dy6, ek, ok, lm, atl⟩
      rw [lt] at ok
      refine ⟨_, rfl, _, _, rfl, rfl, _, ?_, at_ + 1, G6, Qs, kvs, ys, _, _, rfl, rfl, s6, gq6, gd6, hq6, hd6, dy6, ek, ok.next, lm⟩
      omega
  · have c : ¬ ((at_ : Nat) : Int) < ((ys.length : Nat) : Int) := dec_not c
    have keys := ok.end_ (by omega)
    refine ⟨_, rfl, qa, ys, Qs, rfl, .of hq5, dy5.up s5.gh, fun h2 l hl e => ?_, fun zs Ms r H6 dz pm so n6 => ?_⟩
    · subst e
      have := ((keys []).mp hl).row mvT rng_mv.row
      have z : (rngI n).length = 0 := this.2.symm
      rw [rngI_len] at z
      have all0 : ∀ w ∈ Qs, w ∈ [([] : List Int)] := fun w hw => by
        have := ((keys w).mp hw).row mvT rng_mv.row
        rw [rngI_len, z] at this
        rw [List.eq_nil_of_length_eq_zero this.2]
        exact List.mem_singleton.mpr rfl
      have := len_sub ok.nd all0
      simp at this
      omega
    · obtain ⟨s6, gr, hr6, fr⟩ := s5.loc2 n6
      have lM := pm.length_eq
      exact q1 r (fullG G5 H6) H6 zs Ms s6.full fr (full_else hr6 rfl gr) hr6 (rows_full s6.gh (dz.up n6.same)) (.of_perm ok.nd keys pm so) (by omega)


theorem AllMv.nil' {n : Int} : AllMv n [] := fun m hm => by cases hm
theorem AllMv.cons' {n : Int} {m : List Int} {T : List (List Int)} (h : IsMv m n) (t : AllMv n T) : AllMv n (m :: T) := fun x hx => (List.mem_cons.mp hx).elim (fun e => e ▸ h) (t x)
theorem AllMv.app' {n : Int} {T U : List (List Int)} (h : AllMv n T) (t : AllMv n U) : AllMv n (T ++ U) := fun x hx => (List.mem_append.mp hx).elim (h x) (t x)
def Tld (S : Sr) (G H : Hp) (p : Addr) (n : Int) (T : List (List Int)) (H' : Hp) : Prop := ∃ (G' : Hp) (q : Addr) (ts : List V), Go S G H G' H' ∧ G' p = none ∧ G' q = none ∧ H p = none ∧ H q = none ∧ H' p = some (.lst [.int n, .ref q]) ∧ H' q = some (.lst ts) ∧ DaAll G' ts (T.map rowD) ∧ AllMv n T ∧ 0 ≤ n ∧ n ≤ 12 ∧ T.length ≤ 4
theorem Tld.mk {S : Sr} {G H G1 H1 : Hp} {p q : Addr} {n : Int} {T : List (List Int)} {ts : List V} (s : Go S G H G1 H1) (gp : G1 p = none) (gq : G1 q = none) (fp : H p = none) (fq : H q = none) (hp : H1 p = some (.lst [.int n, .ref q])) (hq : H1 q = some (.lst ts)) (dt : DaAll H1 ts (T.map rowD)) (mv : AllMv n T) (n0 : 0 ≤ n) (n12 : n ≤ 12) (l : T.length ≤ 4) : Tld S G H p n T H1 :=
  ⟨fullG G1 H1, q, ts, s.full, full_else hp rfl gp, full_else hq rfl gq, fp, fq, hp, hq, rows_full s.gh dt, mv, n0, n12, l⟩
theorem Tld.back {S : Sr} {G H H1 H2 : Hp} {p : Addr} {n : Int} {T : List (List Int)} (t : Tld S G H1 p n T H2) (s1 : Go S G H G H1) : Tld S G H p n T H2 := by
  obtain ⟨G1, q, ts, s, gp, gq, fp, fq, r⟩ := t
  exact ⟨G1, q, ts, s1.trans s, gp, gq, s1.fresh fp, s1.fresh fq, r⟩
theorem rep_one (m : Nat) (v : V) : (List.replicate m [v]).flatten = List.replicate m v := by
  induction m with
  | zero => rfl
  | succ m ih => rw [List.replicate_succ, List.flatten_cons, ih]; rfl
theorem AllMv.rep {n : Int} {ns : List Int} (h : IsMv ns n) (m : Nat) : AllMv n (List.replicate m ns) := fun x hx => by rw [List.eq_of_mem_replicate hx]; exact h
def spCut : Sp := fun vs H Q _ => ∃ (G : Hp) (a : Addr) (n most : Int) (ts : List V) (T : List (List Int)), vs = [.int n, .ref a, .int most] ∧ Same G H ∧ 0 ≤ n ∧ n ≤ 12 ∧ H a = some (.lst ts) ∧ DaAll G ts (T.map rowD) ∧ AllMv n T ∧ T.length ≤ 100 ∧ 1 ≤ most ∧ most ≤ 1000 ∧
  ∀ (p k m : Addr) (ks ms : List V) (U L : List (List Int)) (G' H' : Hp), Stq G H G' H' → H p = none → H k = none → H m = none → G' p = none → G' k = none → G' m = none → k ≠ m → p ≠ k → p ≠ m → H' p = some (.lst [.ref k, .ref m]) → H' k = some (.lst ks) → H' m = some (.lst ms) →
    DaAll G' ks (U.map rowD) → DaAll G' ms (L.map rowD) → AllMv n U → U.length ≤ T.length → Grp n U L → ((L.length : Nat) : Int) ≤ most → Q (.ref p) H'
theorem ok_cut (Z : Zs mg) (D : Ds K mg) (c__law_group : Cal P w K mg base "_law_group" 2 ["points", "told", "most"] spGroup) : Cal P w K mg base "_law_cut" 3 ["points", "told", "most"] spCut := by
  refine Def.cal D.d_law_cut sc_law_cut (fun vs H Q E h => ?_) (fun f cdv A outer s H vs Q E hr h => ?_)
  · obtain ⟨G, a, n, most, ts, T, rfl, gh, n0, n12, ha, dT, mvT, lT, o1, o2, q⟩ := h
    rfl
  obtain ⟨G, a, n, most, ts, T, rfl, gh, n0, n12, ha, dT, mvT, lT, o1, o2, q⟩ := h
  refine ⟨_, (pss_cons (ps_set (i := 3) sc_law_cut.nd rfl (Or.inl rfl) (pe_lstN pa_nil))
      (pss_cons (ps_set (i := 4) sc_law_cut.nd rfl (Or.inl rfl) (pe_lstN (pa_cons (pe_tupRgN rfl (by rfl) Z.z_tuple (prg_1 (by rfl) Z.z_range (pv 0))) pa_nil)))
      (pss_cons (ps_for PassesOwn.never rfl (pi_list (pv 1)) (pg_name (i := 5) sc_law_cut.nd rfl (Or.inl rfl)) (pss_cons (ps_set (i := 6) sc_law_cut.nd rfl (Or.inl rfl) (pe_cal c__law_group (hr.mono (by first | decide | omega)) (by rfl) (pa_cons (pv 0) (pa_cons (pe_op op_catN (pv 3) (pe_lstN (pa_cons (pv 5) pa_nil))) (pa_cons (pv 2) pa_nil)))))
      (pss_one (ps_if (pt_cmpR op_notN (pv 6) pe_non (nomark _)) (pss_cons (ps_expr (pe_bm PySem.F.plainAttrs_list PySem.F.slot_list_append PySem.F.type_list_append mt_appendN (pv 3) (pa_cons (pv 5) pa_nil)))
      (pss_one (ps_set (i := 4) sc_law_cut.nd rfl (Or.inl rfl) (pv 6)))) pss_nil))))
      (pss_one (ps_ret (pe_lstN (pa_cons (pv 3) (pa_cons (pv 4) pa_nil)))))))), ?_⟩
  have lts := dT.length
  rw [List.length_map] at lts
  refine ⟨by show 0 ≤ sizeLine; decide, fun kp H8 n8 => ?_⟩
  obtain ⟨s8, gk, hk, fk⟩ := (Stq.refl gh).loc2 n8
  refine ⟨_, rfl, n, rfl, .of_le (by decide) (by omega) (by decide) (by omega), fun st H9 n9 => ?_⟩
  rw [rgV_rngI] at n9
  obtain ⟨G9, s9, g9, k9, o9⟩ := s8.know2 n9
  refine ⟨by show 1 ≤ sizeLine; decide, fun mp HA nA => ?_⟩
  obtain ⟨sA, gm, hm, fm⟩ := s9.loc2 nA
  have hkA := nA.else (n9.else hk)
  have nkm : kp ≠ mp := fun z => by rw [z] at hk; have := n9.else hk; rw [nA.fr] at this; cases this
  have gkA : G9 kp = none := by
    rw [o9 kp fun z => by rw [z, n9.fr] at hk; cases hk]
    exact gk
  have dTA := dT.up g9
  refine ⟨_, rfl, a, rfl, ⟨_, .of (sA.hh _ _ ha)⟩, for_list (K := K) (a := a) (xs := ts) (fun i σ' H' => ∃ (G' : Hp) (mp : Addr) (ks ms : List V) (U L : List (List Int)) (y5 y6 : Option V), σ' = [some (.int n), some (.ref a), some (.int most), some (.ref kp), some (.ref mp), y5, y6] ∧ Stq G H G' H' ∧ Same G9 G' ∧
    G' kp = none ∧ H' kp = some (.lst ks) ∧ DaAll G' ks (U.map rowD) ∧ AllMv n U ∧ U.length ≤ i ∧ G' mp = none ∧ H mp = none ∧ kp ≠ mp ∧ H' mp = some (.lst ms) ∧ DaAll G' ms (L.map rowD) ∧ Grp n U L ∧ ((L.length : Nat) : Int) ≤ most) ?_ ?_ ?_ ?_⟩
  · exact ⟨G9, mp, [], _, [], [rngI n], none, none, rfl, sA, Same.refl _, gkA, hkA, .nil, .nil', Nat.le_refl _, gm, fm, nkm, hm, .cons (.tup k9 (DaAll.ints _)) .nil, .none, by show ((1 : Nat) : Int) ≤ most; omega⟩
  · rintro i σ' H' - ⟨G', mp, ks, ms, U, L, y5, y6, rfl, sB, -⟩
    exact .of (sB.hh _ _ ha)
  · rintro i y σ' HB hy ⟨GB, mp, ks, ms, U, L, y5, y6, rfl, sB, gg, gkB, hkB, dU, mvU, lU, gmB, fmB, nkm, hmB, dL, grp, lL⟩
    obtain ⟨e, he, hde⟩ := dTA.get hy
    rw [List.getElem?_map] at he
    obtain ⟨v, hv, rfl⟩ := Option.map_eq_some_iff.mp he
    obtain ⟨c, rfl, hc⟩ := rows_ref hde
    have ilt := (List.getElem?_eq_some_iff.mp hv).1
    have mvv := mvT v (List.mem_of_getElem? hv)
    have lks := dU.length
    rw [List.length_map] at lks
    refine ⟨_, rfl, _, rfl, _, rfl, by show 1 ≤ sizeLine; decide, fun e1 HC nC => ?_⟩
    have sC := (sB.loc2 nC).1
    refine ⟨kp, e1, ks, [.ref c], rfl, rfl, nC.else hkB, nC.at, ?_, fun r HD nD => ?_⟩
    · show ks.length + 1 ≤ sizeLine
      exact Nat.le_trans (show _ ≤ 101 by omega) (by decide)
    obtain ⟨sD, grD, hrD, frD⟩ := sC.loc2 nD
    have hkD := nD.else (nC.else hkB)
    have hmD := nD.else (nC.else hmB)
    have mv2 := mvU.app' (.cons' mvv .nil')
    refine ⟨_, rfl, GB, r, ks ++ [.ref c], U ++ [v], n, most, rfl, sD.gh, n0, n12, hrD, ?_, mv2, ?_, o1, by omega, fun p7 G7 H7 ys LL s7 f7 g7 h7 dy gM lM => ?_, fun no H7 s7 => ?_⟩
    · rw [List.map_append]
      exact dU.append (.one (hde.up gg))
    · rw [List.length_append]
      show U.length + 1 ≤ 1000
      omega
    · have gk7 := s7.nw2 hkD gkB
      have hk7 := s7.hh _ _ hkD
      have nkp : kp ≠ p7 := fun z => by rw [z, f7] at hkD; cases hkD
      refine ⟨_, rfl, rfl, _, rfl, iteBT (by simp) ⟨_, rfl, .inl ⟨rfl, _, .of hk7⟩, _, rfl, kp, ks, _, rfl, rfl, hk7, lt (by omega), fun HE eE => ⟨_, rfl, ?_⟩⟩⟩
      refine ⟨G7, p7, ks ++ [.ref c], ys, U ++ [v], LL, _, _, rfl, (sD.trans s7).mut gk7 fk eE, gg.trans s7.gg, gk7, upd_at eE, ?_, mv2, by rw [List.length_append]; show U.length + 1 ≤ i + 1; omega, g7, sD.hh.free f7, nkp, upd_else eE h7 (Ne.symm nkp), dy, gM, by omega⟩
      rw [List.map_append]
      exact (dU.append (.one (hde.up gg))).up s7.gg
    · refine ⟨_, rfl, rfl, _, rfl, iteBF (by simp) ?_⟩
      exact ⟨GB, mp, ks, ms, U, L, _, _, rfl, sD.pure s7, gg, gkB, s7 _ _ hkD, dU, mvU, by omega, gmB, fmB, nkm, s7 _ _ hmD, dL, grp, lL⟩
  rintro σ' HB ⟨GB, mp, ks, ms, U, L, y5, y6, rfl, sB, gg, gkB, hkB, dU, mvU, lU, gmB, fmB, nkm, hmB, dL, grp, lL⟩
  refine ⟨_, rfl, _, rfl, by show 2 ≤ sizeLine; decide, fun r HD nD => ?_⟩
  obtain ⟨sD, gr, hr, fr⟩ := sB.loc2 nD
  exact q r kp mp ks ms U L GB HD sD fr fk fmB gr gkB gmB nkm (fun z => by rw [← z, nD.fr] at hkB; cases hkB) (fun z => by rw [← z, nD.fr] at hmB; cases hmB) hr (nD.else hkB) (nD.else hmB) dU dL mvU (by omega) grp lL


/-- v is no number from lo to hi -/
structure BadN (G : Hp) (lo hi : Int) (v : V) (d : PyData) : Prop where
  da : Da G v d
  no : isNum d lo hi = false
  sz : szD d ≤ 10
theorem BadN.up {G G' : Hp} {lo hi : Int} {v : V} {d : PyData} (b : BadN G lo hi v d) (g : Same G G') : BadN G' lo hi v d := ⟨b.da.up g, b.no, b.sz⟩
theorem no_num {lo hi i : Int} (h : i < lo ∨ hi < i) : isNum (.int i) lo hi = false := by
  show (decide (lo ≤ i) && decide (i ≤ hi)) = false
  rcases h with h | h
  · rw [decide_eq_false (by omega)]
    rfl
  · rw [decide_eq_false (p := i ≤ hi) (by omega), Bool.and_false]
theorem BadN.int {G : Hp} {lo hi i : Int} (h : i < lo ∨ hi < i) : BadN G lo hi (.int i) (.int i) := ⟨.int i, no_num h, by show 1 ≤ 10; decide⟩
def spBadNum : Sp := fun vs H Q _ => ∃ (S : Sr) (G : Hp) (lo hi : Int), vs = [.ref S.a, .int lo, .int hi, .bl true] ∧ Wd S G H ∧ -1000 ≤ lo ∧ lo ≤ 1000 ∧ lo - 1 ≤ hi ∧ hi ≤ 1000 ∧ szD (PyData.str (Str.ofString (toString lo))) ≤ 10 ∧ ∀ (v : V) (d : PyData) (G' H' : Hp), Go S G H G' H' → BadN G' lo hi v d → Q v H'
theorem ok_bad_number (Z : Zs mg) (D : Ds K mg) (c__law_take : Cal P w K mg base "_law_take" 2 ["store", "many"] spTake) (c__law_pick : Cal P w K mg base "_law_pick" 3 ["store", "things"] spPick) : Cal P w K mg base "_law_bad_number" 4 ["store", "low", "high", "nothing"] spBadNum := by
  refine Def.cal D.d_law_bad_number sc_law_bad_number (fun vs H Q E h => ?_) (fun f cdv A outer s H vs Q E hr h => ?_)
  · obtain ⟨S, G, lo, hi, rfl, wd, l0, l1, l2, l3, sz0, q⟩ := h
    rfl
  obtain ⟨S, G, lo, hi, rfl, wd, l0, l1, l2, l3, sz0, q⟩ := h
  refine ⟨_, (pss_cons (ps_set (i := 4) sc_law_bad_number.nd rfl (Or.inl rfl) (pe_cal c__law_take (hr.mono (by first | decide | omega)) (by rfl) (pa_cons (pv 0) (pa_cons pe_int pa_nil))))
      (pss_cons (ps_if (pt_cmp (pc_lt (pv 4) pe_int) (nomark _)) (pss_one (ps_ret (pe_op op_sub (pv 1) pe_int))) pss_nil)
      (pss_cons (ps_if (pt_cmp (pc_lt (pv 4) pe_int) (nomark _)) (pss_one (ps_ret (pe_op op_add (pv 2) pe_int))) pss_nil)
      (pss_cons (ps_if (pt_cmp (pc_eqI (pv 4) pe_int) (nomark _)) (pss_one (ps_ret (pe_op op_sub (pe_op op_sub (pv 1) pe_int) (pe_cal c__law_take (hr.mono (by first | decide | omega)) (by rfl) (pa_cons (pv 0) (pa_cons pe_int pa_nil)))))) pss_nil)
      (Evl.pss_cut (ps_if (pt_cmp (pc_eqI (pv 4) pe_int) (nomark _)) (pss_one (ps_ret (pe_op op_add (pe_op op_add (pv 2) pe_int) (pe_cal c__law_take (hr.mono (by first | decide | omega)) (by rfl) (pa_cons (pv 0) (pa_cons pe_int pa_nil)))))) pss_nil)
      (pss_cons (ps_if (pt_cmp (pc_eqI (pv 4) pe_int) (nomark _)) (pss_one (ps_ret (pe_cal c__law_pick (hr.mono (by first | decide | omega)) (by rfl) (pa_cons (pv 0) (pa_cons (pe_lstN (pa_cons (pe_op op_add (pv 2) (pe_op op_pow pe_int pe_int)) (pa_cons (pe_op op_sub (pv 1) (pe_op op_pow pe_int pe_int)) pa_nil))) pa_nil))))) pss_nil)
      (pss_cons (ps_if (pt_cmp (pc_lt (pv 4) pe_int) (nomark _)) (pss_one (ps_ret (pe_cmp (pc_eqI (pv 4) pe_int) (nomark _)))) pss_nil)
      (pss_cons (ps_if (pt_cmp (pc_eqI (pv 4) pe_int) (nomark _)) (pss_one (ps_ret (pe_cal c__law_pick (hr.mono (by first | decide | omega)) (by rfl) (pa_cons (pv 0) (pa_cons (pe_lstN (pa_cons pe_str (pa_cons (pe_callTy call_str_int (by rfl) Z.z_str (by decide +kernel) (pa_cons (pv 1) pa_nil)) (pa_cons pe_str pa_nil)))) pa_nil))))) pss_nil)
      (pss_cons (ps_if (PW.pt (pw_and (pt_cmp (pc_eqI (pv 4) pe_int) (nomark _)) (pw_and1 (pt_truth (pv 3) (by intro _; rfl))))) (pss_one (ps_ret pe_non)) pss_nil)
      (pss_one (ps_ret (pe_cal c__law_pick (hr.mono (by first | decide | omega)) (by rfl) (pa_cons (pv 0) (pa_cons (pe_lstN (pa_cons (pe_tupN pa_nil) (pa_cons (pe_tupN (pa_cons (pv 1) pa_nil)) (pa_cons (pe_lstN (pa_cons (pv 1) pa_nil)) (pa_cons (pe_lstN pa_nil) (pa_cons (pe_tupN (pa_cons (pe_tupN (pa_cons (pv 1) pa_nil)) (pa_cons pe_non pa_nil))) pa_nil)))))) pa_nil)))))))))))))), ?_⟩
  refine ⟨_, rfl, S, G, 12, rfl, wd, by omega, fun pk H1 a0 a1 s1 => ?_⟩
  refine ⟨_, rfl, _, _, rfl, rfl, _, rfl, ite2 (fun c => ?_) (fun c => ?_)⟩
  · exact ⟨_, rfl, _, _, rfl, rfl, q _ _ G H1 s1 (.int (by omega))⟩
  refine ⟨_, rfl, _, _, rfl, rfl, _, rfl, ite2 (fun c => ?_) (fun c => ?_)⟩
  · exact ⟨_, rfl, _, _, rfl, rfl, q _ _ G H1 s1 (.int (by omega))⟩
  refine ⟨_, rfl, _, _, rfl, rfl, _, rfl, ite2 (fun c => ?_) (fun c => ?_)⟩
  · refine ⟨_, rfl, _, _, rfl, rfl, _, rfl, S, G, 1000, rfl, s1.wd, by omega, fun a H2 b0 b1 s2 => ⟨_, _, rfl, rfl, ?_⟩⟩
    exact q _ _ G H2 (s1.trans s2) (.int (by omega))
  refine ⟨fun σ' H' => σ' = [some (.ref S.a), some (.int lo), some (.int hi), some (.bl true), some (.int pk)] ∧ Go S G H G H', ?_, ?_⟩
  · refine ⟨_, rfl, _, _, rfl, rfl, _, rfl, ite2 (fun c => ?_) (fun c => ⟨rfl, s1⟩)⟩
    refine ⟨_, rfl, _, _, rfl, rfl, _, rfl, S, G, 1000000, rfl, s1.wd, by omega, fun a H2 b0 b1 s2 => ⟨_, _, rfl, rfl, ?_⟩⟩
    exact q _ _ G H2 (s1.trans s2) (.int (by omega))
  rintro σ' H2 ⟨rfl, s1⟩
  have ten : (10 : Int) ^ (29 : Int).toNat = 100000000000000000000000000000 := by decide +kernel
  refine ⟨_, rfl, _, _, rfl, rfl, _, rfl, ite2 (fun c => ?_) (fun c => ?_)⟩
  · refine ⟨_, rfl, _, rfl, _, _, rfl, rfl, ⟨by decide, by decide, by decide⟩, _, _, rfl, rfl, _, rfl, _, _, rfl, rfl, ⟨by decide, by decide, by decide⟩, _, _, rfl, rfl, by show 2 ≤ sizeLine; decide, fun r HA nA => ?_⟩
    obtain ⟨sA, gA, hA, fA⟩ := s1.loc nA
    refine ⟨S, G, .ref r, _, rfl, sA.wd, .inl ⟨r, rfl, sA.ns fA, hA⟩, by show 0 < 2; decide, by show 2 < 1000000; decide, fun x HB hx sB => ?_⟩
    have bad : ∃ d, BadN G lo hi x d := by
      simp only [List.mem_cons, List.not_mem_nil, or_false] at hx
      rcases hx with rfl | rfl
      · exact ⟨_, .int (by rw [ten]; omega)⟩
      · exact ⟨_, .int (by rw [ten]; omega)⟩
    obtain ⟨d, bd⟩ := bad
    exact q x d G HB (sA.trans sB) bd
  refine ⟨_, rfl, _, _, rfl, rfl, _, rfl, ite2 (fun c => ?_) (fun c => ?_)⟩
  · exact ⟨_, rfl, _, _, rfl, rfl, q _ _ G H2 s1 ⟨.bl _, rfl, by show 1 ≤ 10; decide⟩⟩
  refine ⟨_, rfl, _, _, rfl, rfl, _, rfl, ite2 (fun c => ?_) (fun c => ?_)⟩
  · refine ⟨_, rfl, _, rfl, _, rfl, by have := Nat.log2_le_self lo.natAbs; omega, by show 3 ≤ sizeLine; decide, fun r HA nA => ?_⟩
    obtain ⟨sA, gA, hA, fA⟩ := s1.loc nA
    refine ⟨S, G, .ref r, _, rfl, sA.wd, .inl ⟨r, rfl, sA.ns fA, hA⟩, by show 0 < 3; decide, by show 3 < 1000000; decide, fun x HB hx sB => ?_⟩
    have bad : ∃ d, BadN G lo hi x d := by
      simp only [List.mem_cons, List.not_mem_nil, or_false] at hx
      rcases hx with rfl | rfl | rfl
      · exact ⟨_, .str _, rfl, by decide⟩
      · exact ⟨_, .str _, rfl, sz0⟩
      · exact ⟨_, .str _, rfl, by decide⟩
    obtain ⟨d, bd⟩ := bad
    exact q x d G HB (sA.trans sB) bd
  refine ⟨_, rfl, _, _, rfl, rfl, _, rfl, ite2 (fun c => ?_) (fun c => ?_)⟩
  · exact ⟨_, rfl, true, rfl, iteT (q _ _ G H2 s1 ⟨.non, rfl, by decide⟩)⟩
  refine iteF ?_
  refine ⟨_, rfl, by show 0 ≤ sizeLine; decide, fun t1 H5 n5 => ⟨_, rfl, by show 1 ≤ sizeLine; decide, fun t2 H6 n6 => ⟨_, rfl, by show 1 ≤ sizeLine; decide, fun l1 H7 n7 => ⟨by show 0 ≤ sizeLine; decide, fun l2 H8 n8 => ⟨_, rfl, by show 1 ≤ sizeLine; decide, fun t3 H9 n9 => ⟨by show 2 ≤ sizeLine; decide, fun t4 HA nA => ⟨by show 5 ≤ sizeLine; decide, fun r HB nB => ?_⟩⟩⟩⟩⟩⟩⟩
  obtain ⟨G5, s5, g5, k5, -⟩ := s1.know n5
  obtain ⟨G6, s6, g6, k6, -⟩ := s5.know n6
  obtain ⟨G7, s7, g7, k7, -⟩ := s6.know n7
  obtain ⟨G8, s8, g8, k8, -⟩ := s7.know n8
  obtain ⟨G9, s9, g9, k9, -⟩ := s8.know n9
  obtain ⟨GA, sA, gA, kA, -⟩ := s9.know nA
  obtain ⟨sB, gB, hB, fB⟩ := sA.loc nB
  refine ⟨S, GA, .ref r, _, rfl, sB.wd, .inl ⟨r, rfl, sB.ns fB, hB⟩, by show 0 < 5; decide, by show 5 < 1000000; decide, fun x HC hx sC => ?_⟩
  have bad : ∃ d, BadN GA lo hi x d := by
    simp only [List.mem_cons, List.not_mem_nil, or_false] at hx
    rcases hx with rfl | rfl | rfl | rfl | rfl
    · exact ⟨.tuple [], .tup (gA _ _ (g9 _ _ (g8 _ _ (g7 _ _ (g6 _ _ k5))))) .nil, rfl, by decide⟩
    · exact ⟨.tuple [.int lo], .tup (gA _ _ (g9 _ _ (g8 _ _ (g7 _ _ k6)))) (.cons (.int lo) .nil), rfl, by show 2 ≤ 10; decide⟩
    · exact ⟨.list [.int lo], .lst (gA _ _ (g9 _ _ (g8 _ _ k7))) (.cons (.int lo) .nil), rfl, by show 2 ≤ 10; decide⟩
    · exact ⟨.list [], .lst (gA _ _ (g9 _ _ k8)) .nil, rfl, by decide⟩
    · exact ⟨.tuple [.tuple [.int lo], .none], .tup kA (.cons (.tup (gA _ _ k9) (.cons (.int lo) .nil)) (.cons .non .nil)), rfl, by show 4 ≤ 10; decide⟩
  obtain ⟨d, bd⟩ := bad
  exact q x d GA HC (sB.trans sC) bd
/-- an exception at p, and what is due for it -/
def ErrDue (K : PySem.W.Frag) (mg : Str → Option Value) (G : Hp) (C : Addr) (fs : List (Str × V)) (due : PyData) : Prop := ∃ (k : Nat) (nm : Str), Es K mg k nm C ∧
  ((k = 0 ∧ ∃ (v : V) (dv : PyData) (lo hi : Int), PySem.W.findIn K (.ref C) "value" = some none ∧ PySem.W.findIn K (.ref C) "low" = some none ∧ PySem.W.findIn K (.ref C) "high" = some none ∧ fs.lookup ("value" : Str) = some v ∧ fs.lookup ("low" : Str) = some (.int lo) ∧ fs.lookup ("high" : Str) = some (.int hi) ∧ Da G v dv ∧ due = .tuple [.str "BadNumber", dv, .int lo, .int hi]) ∨
   (k = 2 ∧ ∃ (i : Int), PySem.W.findIn K (.ref C) "index" = some none ∧ fs.lookup ("index" : Str) = some (.int i) ∧ due = .tuple [.str "NotAMove", .int i]) ∨
   (k = 3 ∧ ∃ (what : Str) (lim : Int), PySem.W.findIn K (.ref C) "what" = some none ∧ PySem.W.findIn K (.ref C) "limit" = some none ∧ fs.lookup ("what" : Str) = some (.str what) ∧ fs.lookup ("limit" : Str) = some (.int lim) ∧ due = .tuple [.str "TooMany", .str what, .int lim]))
theorem ErrDue.up {G G' : Hp} {C : Addr} {fs : List (Str × V)} {due : PyData} (e : ErrDue K mg G C fs due) (g : Same G G') : ErrDue K mg G' C fs due := by
  obtain ⟨k, nm, es, h⟩ := e
  refine ⟨k, nm, es, h.imp (fun h => ?_) id⟩
  obtain ⟨e, v, dv, lo, hi, a, b, c, d, e1, f, h, i⟩ := h
  exact ⟨e, v, dv, lo, hi, a, b, c, d, e1, f, h.up g, i⟩
def spRef3 (K : PySem.W.Frag) (mg : Str → Option Value) : SpH := fun p vs H Q _ => ∃ (G : Hp) (C d : Addr) (fs : List (Str × V)) (w : V) (due : PyData), vs = [.ref p.1, w] ∧ Same G H ∧ ErrAt C d fs H p ∧ ErrDue K mg G C fs due ∧ Da G w due ∧ szD due ≤ 100000 ∧ ∀ H', Same H H' → Q (.bl true) H'
theorem ok_ref3_h (Z : Zs mg) (D : Ds K mg) (c__law_alone_h : CalE P w K mg base "_law_alone" 1 ["error"] (spAlone K mg)) (c__law_same_h : CalE P w K mg base "_law_same" 2 ["actual", "due"] (fun _ => spSame)) : CalE P w K mg base "_law_refusal" 3 ["error", "due"] (spRef3 K mg) := by
  refine Def.calE D.d_law_refusal sc_law_refusal (fun p vs H Q E h => ?_) (fun f cdv A outer s H vs Q E p hot hr h => ?_)
  · obtain ⟨G, C, d, fs, w, due, rfl, gh, er, is, hw, sz, q⟩ := h
    rfl
  obtain ⟨G, C, d, fs, w, due, rfl, gh, er, is, hw, sz, q⟩ := h
  obtain ⟨k, nm, es, cases_⟩ := id is
  have ec := es.ec
  obtain ⟨C_BadNumber, g_BadNumber, t_BadNumber⟩ := es.i_BadNumber
  obtain ⟨C_NotAMove, g_NotAMove, t_NotAMove⟩ := es.i_NotAMove
  obtain ⟨C_TooMany, g_TooMany, t_TooMany⟩ := es.i_TooMany
  refine ⟨_, (pss_cons (ps_set (i := 2) sc_law_refusal.nd rfl (Or.inl rfl) pe_non)
      (Evl.pss_cut (ps_if (pt_val (pe_callB (call_isErr (d := d) ec List.mem_cons_self) (by rfl) Z.z_isinstance (by decide +kernel) (pa_cons (pv 0) (pa_cons (pe_cls (by rfl) g_BadNumber) pa_nil)))) (pss_one (ps_set (i := 2) sc_law_refusal.nd rfl (Or.inl rfl) (pe_tupN (pa_cons pe_str (pa_cons (pe_errG (d := d) ec List.mem_cons_self (pv 0)) (pa_cons (pe_errG (d := d) ec List.mem_cons_self (pv 0)) (pa_cons (pe_errG (d := d) ec List.mem_cons_self (pv 0)) pa_nil))))))) pss_nil)
      (Evl.pss_cut (ps_if (pt_val (pe_callB (call_isErr (d := d) ec List.mem_cons_self) (by rfl) Z.z_isinstance (by decide +kernel) (pa_cons (pv 0) (pa_cons (pe_cls (by rfl) g_NotAMove) pa_nil)))) (pss_one (ps_set (i := 2) sc_law_refusal.nd rfl (Or.inl rfl) (pe_tupN (pa_cons pe_str (pa_cons (pe_errG (d := d) ec List.mem_cons_self (pv 0)) pa_nil))))) pss_nil)
      (Evl.pss_cut (ps_if (pt_val (pe_callB (call_isErr (d := d) ec List.mem_cons_self) (by rfl) Z.z_isinstance (by decide +kernel) (pa_cons (pv 0) (pa_cons (pe_cls (by rfl) g_TooMany) pa_nil)))) (pss_one (ps_set (i := 2) sc_law_refusal.nd rfl (Or.inl rfl) (pe_tupN (pa_cons pe_str (pa_cons (pe_errG (d := d) ec List.mem_cons_self (pv 0)) (pa_cons (pe_errG (d := d) ec List.mem_cons_self (pv 0)) pa_nil)))))) pss_nil)
      (pss_one (ps_ret (pe_and (pe_cmpR op_notN (pv 1) pe_non (nomark _)) (pe_and (pe_calE c__law_alone_h (hr.mono (by first | decide | omega)) hot List.mem_cons_self (by rfl) (pa_cons (pv 0) pa_nil)) (pe_one (pe_calE c__law_same_h (hr.mono (by first | decide | omega)) hot List.mem_cons_self (by rfl) (pa_cons (pv 2) (pa_cons (pv 1) pa_nil)))))))))))), ?_⟩
  rcases cases_ with ⟨rfl, v, dv, lo, hi, nf_value, nf_low, nf_high, l1, l2, l3, hv, rfl⟩ | ⟨rfl, ix, nf_index, l1, rfl⟩ | ⟨rfl, what, lim, nf_what, nf_limit, l1, l2, rfl⟩
  · refine ⟨fun σ' H' => ∃ t, σ' = [some (.ref p.1), some w, some (.ref t)] ∧ Same H H' ∧ ∃ G', Same G G' ∧ Same G' H' ∧ Da G' (.ref t) (.tuple [.str "BadNumber", dv, .int lo, .int hi]), ?_, ?_⟩
    · refine ⟨_, rfl, .ref C_BadNumber, .ref C_BadNumber, _, fs, rfl, fun u r => r, t_BadNumber, er, _, rfl, iteBT rfl ⟨_, rfl, rfl, nf_value, fs, _, er, l1, _, rfl, rfl, nf_low, fs, _, er, l2, _, rfl, rfl, nf_high, fs, _, er, l3, by show 4 ≤ sizeLine; decide, fun t H1 n1 => ?_⟩⟩
      obtain ⟨G1, s1, g1, k1, -⟩ := (Stq.refl gh).know2 n1
      exact ⟨t, rfl, n1.same, G1, s1.gg, s1.gh, .tup k1 (.cons (.str _) (.cons (hv.up s1.gg) (.cons (.int _) (.cons (.int _) .nil))))⟩
    rintro σ' H1 ⟨t, rfl, s1, G1, g1, gh1, dt⟩
    refine ⟨fun σ' H' => ∃ t, σ' = [some (.ref p.1), some w, some (.ref t)] ∧ Same H H' ∧ ∃ G', Same G G' ∧ Same G' H' ∧ Da G' (.ref t) (.tuple [.str "BadNumber", dv, .int lo, .int hi]), ?_, ?_⟩
    · refine ⟨_, rfl, .ref C_NotAMove, .ref C_NotAMove, _, fs, rfl, fun u r => r, t_NotAMove, (er.same s1), _, rfl, iteBF rfl ⟨t, rfl, s1, G1, g1, gh1, dt⟩⟩
    rintro σ' H1 ⟨t, rfl, s1, G1, g1, gh1, dt⟩
    refine ⟨fun σ' H' => ∃ t, σ' = [some (.ref p.1), some w, some (.ref t)] ∧ Same H H' ∧ ∃ G', Same G G' ∧ Same G' H' ∧ Da G' (.ref t) (.tuple [.str "BadNumber", dv, .int lo, .int hi]), ?_, ?_⟩
    · refine ⟨_, rfl, .ref C_TooMany, .ref C_TooMany, _, fs, rfl, fun u r => r, t_TooMany, (er.same s1), _, rfl, iteBF rfl ⟨t, rfl, s1, G1, g1, gh1, dt⟩⟩
    rintro σ' H1 ⟨t, rfl, s1, G1, g1, gh1, dt⟩
    have hw1 := hw.up g1
    refine ⟨_, rfl, rfl, _, rfl, iteBT ?_ ⟨_, rfl, 0, nm, C, d, fs, rfl, es, er.same s1, fun H2 s2 => ⟨_, rfl, iteT ?_⟩⟩⟩
    · cases hw
      rfl
    refine ⟨_, rfl, _, rfl, G1, _, w, _, _, rfl, gh1.trans s2, dt, hw1, by omega, by omega, fun H3 s3 => ?_⟩
    have e := sameD_self _ _ hw1
    rw [e]
    exact q H3 ((s1.trans s2).trans s3)
  · refine ⟨fun σ' H' => σ' = [some (.ref p.1), some w, some .non] ∧ H' = H, ?_, ?_⟩
    · refine ⟨_, rfl, .ref C_BadNumber, .ref C_BadNumber, _, fs, rfl, fun u r => r, t_BadNumber, er, _, rfl, iteBF rfl ⟨rfl, rfl⟩⟩
    rintro σ' H1 ⟨rfl, rfl⟩
    refine ⟨fun σ' H' => ∃ t, σ' = [some (.ref p.1), some w, some (.ref t)] ∧ Same H1 H' ∧ ∃ G', Same G G' ∧ Same G' H' ∧ Da G' (.ref t) (.tuple [.str "NotAMove", .int ix]), ?_, ?_⟩
    · refine ⟨_, rfl, .ref C_NotAMove, .ref C_NotAMove, _, fs, rfl, fun u r => r, t_NotAMove, er, _, rfl, iteBT rfl ⟨_, rfl, rfl, nf_index, fs, _, er, l1, by show 2 ≤ sizeLine; decide, fun t H1 n1 => ?_⟩⟩
      obtain ⟨G1, s1, g1, k1, -⟩ := (Stq.refl gh).know2 n1
      exact ⟨t, rfl, n1.same, G1, s1.gg, s1.gh, .tup k1 (.cons (.str _) (.cons (.int _) .nil))⟩
    rintro σ' H2 ⟨t, rfl, s1, G1, g1, gh1, dt⟩
    refine ⟨fun σ' H' => ∃ t, σ' = [some (.ref p.1), some w, some (.ref t)] ∧ Same H1 H' ∧ ∃ G', Same G G' ∧ Same G' H' ∧ Da G' (.ref t) (.tuple [.str "NotAMove", .int ix]), ?_, ?_⟩
    · refine ⟨_, rfl, .ref C_TooMany, .ref C_TooMany, _, fs, rfl, fun u r => r, t_TooMany, (er.same s1), _, rfl, iteBF rfl ⟨t, rfl, s1, G1, g1, gh1, dt⟩⟩
    rintro σ' H3 ⟨t, rfl, s1, G1, g1, gh1, dt⟩
    have hw1 := hw.up g1
    refine ⟨_, rfl, rfl, _, rfl, iteBT ?_ ⟨_, rfl, 2, nm, C, d, fs, rfl, es, er.same s1, fun H4 s2 => ⟨_, rfl, iteT ?_⟩⟩⟩
    · cases hw
      rfl
    refine ⟨_, rfl, _, rfl, G1, _, w, _, _, rfl, gh1.trans s2, dt, hw1, by omega, by omega, fun H5 s3 => ?_⟩
    have e := sameD_self _ _ hw1
    rw [e]
    exact q H5 ((s1.trans s2).trans s3)
  · refine ⟨fun σ' H' => σ' = [some (.ref p.1), some w, some .non] ∧ H' = H, ?_, ?_⟩
    · refine ⟨_, rfl, .ref C_BadNumber, .ref C_BadNumber, _, fs, rfl, fun u r => r, t_BadNumber, er, _, rfl, iteBF rfl ⟨rfl, rfl⟩⟩
    rintro σ' H1 ⟨rfl, rfl⟩
    refine ⟨fun σ' H' => σ' = [some (.ref p.1), some w, some .non] ∧ H' = H1, ?_, ?_⟩
    · refine ⟨_, rfl, .ref C_NotAMove, .ref C_NotAMove, _, fs, rfl, fun u r => r, t_NotAMove, er, _, rfl, iteBF rfl ⟨rfl, rfl⟩⟩
    rintro σ' H2 ⟨rfl, rfl⟩
    refine ⟨fun σ' H' => ∃ t, σ' = [some (.ref p.1), some w, some (.ref t)] ∧ Same H2 H' ∧ ∃ G', Same G G' ∧ Same G' H' ∧ Da G' (.ref t) (.tuple [.str "TooMany", .str what, .int lim]), ?_, ?_⟩
    · refine ⟨_, rfl, .ref C_TooMany, .ref C_TooMany, _, fs, rfl, fun u r => r, t_TooMany, er, _, rfl, iteBT rfl ⟨_, rfl, rfl, nf_what, fs, _, er, l1, _, rfl, rfl, nf_limit, fs, _, er, l2, by show 3 ≤ sizeLine; decide, fun t H1 n1 => ?_⟩⟩
      obtain ⟨G1, s1, g1, k1, -⟩ := (Stq.refl gh).know2 n1
      exact ⟨t, rfl, n1.same, G1, s1.gg, s1.gh, .tup k1 (.cons (.str _) (.cons (.str _) (.cons (.int _) .nil)))⟩
    rintro σ' H3 ⟨t, rfl, s1, G1, g1, gh1, dt⟩
    have hw1 := hw.up g1
    refine ⟨_, rfl, rfl, _, rfl, iteBT ?_ ⟨_, rfl, 3, nm, C, d, fs, rfl, es, er.same s1, fun H4 s2 => ⟨_, rfl, iteT ?_⟩⟩⟩
    · cases hw
      rfl
    refine ⟨_, rfl, _, rfl, G1, _, w, _, _, rfl, gh1.trans s2, dt, hw1, by omega, by omega, fun H5 s3 => ?_⟩
    have e := sameD_self _ _ hw1
    rw [e]
    exact q H5 ((s1.trans s2).trans s3)


/-- what one more known object leaves alone -/
structure Lv (G1 H1 G2 H2 : Hp) : Prop where
  g : Same G1 G2
  h : Same H1 H2
  n : ∀ z, G1 z = none → H1 z ≠ none → G2 z = none
theorem Lv.rfl' {G H : Hp} : Lv G H G H := ⟨Same.refl _, Same.refl _, fun _ h _ => h⟩
theorem Lv.trans {G1 H1 G2 H2 G3 H3 : Hp} (a : Lv G1 H1 G2 H2) (b : Lv G2 H2 G3 H3) : Lv G1 H1 G3 H3 := ⟨a.g.trans b.g, a.h.trans b.h, fun z h1 h2 => b.n z (a.n z h1 h2) fun e => by
  obtain ⟨o, ho⟩ := Option.ne_none_iff_exists'.mp h2
  rw [a.h _ _ ho] at e
  cases e⟩
theorem Go.knowL {S : Sr} {G H G1 H1 H2 : Hp} {p : Addr} {xs : List V} (s : Go S G H G1 H1) (n : New H1 p (.tup xs) H2) : ∃ G2, Go S G H G2 H2 ∧ Lv G1 H1 G2 H2 ∧ G2 p = some (.tup xs) := by
  obtain ⟨G2, s2, g2, k2, o2⟩ := s.know n
  refine ⟨G2, s2, ⟨g2, n.same, fun z h1 h2 => ?_⟩, k2⟩
  rw [o2 z fun e => h2 (by rw [e]; exact n.fr)]
  exact h1
theorem cat_ok {K : PySem.W.Frag} {S : Sr} {G H G1 H1 : Hp} {a b : Addr} {ns : List Int} {y : Int} {Q : VK} (s : Go S G H G1 H1) (ha : G1 a = some (.tup (ns.map V.int))) (hb : G1 b = some (.tup [.int y])) (l : ns.length ≤ 100) (q : ∀ (p : Addr) (G2 H2 : Hp), Go S G H G2 H2 → Lv G1 H1 G2 H2 → G2 p = some (.tup ((ns ++ [y]).map V.int)) → Q (.ref p) H2) : rCatA K (.ref a) (.ref b) H1 Q := by
  refine ⟨a, b, _, _, rfl, rfl, .of (s.gh _ _ ha), .of (s.gh _ _ hb), ?_, fun e => ?_, fun _ e => absurd e (by simp), fun n1 _ p hp => ?_⟩
  · rw [List.length_map]
    exact Nat.le_trans (show _ ≤ 101 by show ns.length + 1 ≤ 101; omega) (by decide)
  · have : ns = [] := List.map_eq_nil_iff.mp e
    subst this
    exact q b G1 H1 s .rfl' hb
  · have n2 : New H1 p (.tup (ns.map V.int ++ [.int y])) (upd H1 p (.tup (ns.map V.int ++ [.int y]))) := ⟨hp, rfl⟩
    obtain ⟨G2, s2, g2, k2⟩ := s.knowL n2
    rw [show ns.map V.int ++ [V.int y] = (ns ++ [y]).map V.int by rw [List.map_append]; rfl] at k2
    exact q p G2 _ s2 g2 k2
theorem slI_ok {K : PySem.W.Frag} {S : Sr} {G H G1 H1 : Hp} {a : Addr} {ns : List Int} {lo hi : Option Int} {Q : VK} (s : Go S G H G1 H1) (ha : G1 a = some (.tup (ns.map V.int))) (q : ∀ (p : Addr) (ms : List Int) (G2 H2 : Hp), Go S G H G2 H2 → Lv G1 H1 G2 H2 → G2 p = some (.tup (ms.map V.int)) → ms.length ≤ ns.length → Q (.ref p) H2) : rSlA K (.ref a) lo hi H1 Q := by
  refine ⟨a, ns.map V.int, rfl, .of (s.gh _ _ ha), fun _ => q a ns G1 H1 s .rfl' ha (Nat.le_refl _), fun _ p hp => ?_⟩
  obtain ⟨G2, s2, g2, k2⟩ := s.knowL (⟨hp, rfl⟩ : New H1 p (.tup (cutV (ns.map V.int) lo hi)) _)
  have e2 : cutV (ns.map V.int) lo hi = ((ns.drop (HT.sIx (ns.map V.int).length 0 lo)).take (HT.sIx (ns.map V.int).length (ns.map V.int).length hi - HT.sIx (ns.map V.int).length 0 lo)).map V.int := by
    rw [List.map_take, List.map_drop]
    rfl
  rw [e2] at k2
  exact q p _ G2 _ s2 g2 k2 (by rw [List.length_take, List.length_drop]; omega)
theorem Lv.put {G1 H1 G2 H2 : Hp} {z : Addr} {o : HO} (v : Lv G1 H1 G2 H2) (hz : H1 z = none) : Lv G1 H1 G2 (upd H2 z o) := ⟨v.g, fun a u e => by rw [upd_ne (fun c => by rw [c, hz] at e; cases e)]; exact v.h a u e, v.n⟩


def spNoMove : Sp := fun vs H Q _ => ∃ (S : Sr) (G : Hp) (n : Int), vs = [.ref S.a, .int n] ∧ Wd S G H ∧ 0 ≤ n ∧ n ≤ 12 ∧ ∀ (v : V) (d : PyData) (G' H' : Hp), Go S G H G' H' → Da G' v d → szD d ≤ 40 → Q v H'
theorem ok_no_move (Z : Zs mg) (D : Ds K mg) (c__law_pick : Cal P w K mg base "_law_pick" 3 ["store", "things"] spPick) (c__law_move : Cal P w K mg base "_law_move" 4 ["store", "points"] spMove) : Cal P w K mg base "_law_no_move" 5 ["store", "points"] spNoMove := by
  refine Def.cal D.d_law_no_move sc_law_no_move (fun vs H Q E h => ?_) (fun f cdv A outer s H vs Q E hr h => ?_)
  · obtain ⟨S, G, n, rfl, wd, n0, n12, q⟩ := h
    rfl
  obtain ⟨S, G, n, rfl, wd, n0, n12, q⟩ := h
  refine ⟨_, (pss_cons (ps_set (i := 2) sc_law_no_move.nd rfl (Or.inl rfl) (pe_cal c__law_move (hr.mono (by first | decide | omega)) (by rfl) (pa_cons (pv 0) (pa_cons (pv 1) pa_nil))))
      (pss_cons (ps_set (i := 3) sc_law_no_move.nd rfl (Or.inl rfl) (pe_lstN (pa_cons pe_non (pa_cons pe_bl (pa_cons pe_int (pa_cons pe_str (pa_cons (pe_callTy call_listN (by rfl) Z.z_list (by decide +kernel) (pa_cons (pv 2) pa_nil)) (pa_cons (pe_tupRgN rfl (by rfl) Z.z_tuple (prg_1 (by rfl) Z.z_range (pe_op op_add (pv 1) pe_int))) (pa_cons (pe_op op_catA (pv 2) (pe_tupN (pa_cons pe_int pa_nil))) (pa_cons (pe_op op_catA (pv 2) (pe_tupN (pa_cons (pv 1) pa_nil))) (pa_cons (pe_tupN (pa_cons (pv 2) (pa_cons (pv 2) pa_nil))) pa_nil)))))))))))
      (Evl.pss_cut (ps_if (pt_cmp (pc_gt (pv 1) pe_int) (nomark _)) (pss_cons (ps_set (i := 3) sc_law_no_move.nd rfl (Or.inl rfl) (pe_op op_catN (pv 3) (pe_lstN (pa_cons (pe_slice sl_tupA (pv 2) (po_some pe_int) po_none) (pa_cons (pe_callTy call_tupleN (by rfl) Z.z_tuple (by decide +kernel) (pa_cons (pe_lc (own := [("p", 4)]) (g := gName 4) (tt := tYes) (by rfl) sc_law_no_move.nd (pi_tup (pv 2)) (blkOk_by (N := ["store", "points", "move", "wrong", "p"]) (sc := defScope s_law_no_move) (by decide +kernel)) (fun _ _ _ _ _ => pg_name (i := 4) sc_law_no_move.nd rfl (Or.inl rfl)) (fun _ _ _ _ _ => pts_nil) (fun _ _ _ _ _ => (pe_op op_add (pv 4) pe_int))) pa_nil)) (pa_cons (pe_callTy call_tupleN (by rfl) Z.z_tuple (by decide +kernel) (pa_cons (pe_lc (own := [("p", 4)]) (g := gName 4) (tt := tYes) (by rfl) sc_law_no_move.nd (pi_tup (pv 2)) (blkOk_by (N := ["store", "points", "move", "wrong", "p"]) (sc := defScope s_law_no_move) (by decide +kernel)) (fun _ _ _ _ _ => pg_name (i := 4) sc_law_no_move.nd rfl (Or.inl rfl)) (fun _ _ _ _ _ => pts_nil) (fun _ _ _ _ _ => (pe_op op_sub (pv 4) (pv 1)))) pa_nil)) (pa_cons (pe_op op_catA (pe_slice sl_tupA (pv 2) (po_some pe_int) po_none) (pe_tupN (pa_cons pe_int pa_nil))) pa_nil)))))))
      (pss_one (ps_set (i := 3) sc_law_no_move.nd rfl (Or.inl rfl) (pe_op op_catN (pv 3) (pe_lstN (pa_cons (pe_callTy call_tupleN (by rfl) Z.z_tuple (by decide +kernel) (pa_cons (pe_lc (own := [("p", 4)]) (g := gName 4) (tt := tYes) (by rfl) sc_law_no_move.nd (pi_tup (pv 2)) (blkOk_by (N := ["store", "points", "move", "wrong", "p"]) (sc := defScope s_law_no_move) (by decide +kernel)) (fun _ _ _ _ _ => pg_name (i := 4) sc_law_no_move.nd rfl (Or.inl rfl)) (fun _ _ _ _ _ => pts_nil) (fun _ _ _ _ _ => (pe_cal c__law_pick (hr.mono (by first | decide | omega)) (by rfl) (pa_cons (pv 0) (pa_cons (pe_lstN (pa_cons (pe_cmp (pc_eqI (pv 4) pe_int) (nomark _)) (pa_cons (pe_cmp (pc_gt (pv 4) pe_int) (nomark _)) pa_nil))) pa_nil))))) pa_nil)) (pa_cons (pe_op op_catA (pe_slice sl_tupA (pv 2) po_none (po_some (pe_un un_neg pe_int))) (pe_tupN (pa_cons (pe_op op_pow pe_int pe_int) pa_nil))) pa_nil))))))) pss_nil)
      (pss_one (ps_ret (pe_cal c__law_pick (hr.mono (by first | decide | omega)) (by rfl) (pa_cons (pv 0) (pa_cons (pv 3) pa_nil)))))))), ?_⟩
  refine ⟨_, rfl, _, rfl, S, G, n, rfl, wd, n0, by omega, fun m ms G1 H1 s1 km mv => ?_⟩
  have lm := mv.len
  refine ⟨_, rfl, m, _, rfl, .inr (.of (s1.gh _ _ km)), fun la H2 n2 => ?_⟩
  obtain ⟨G2, s2, g2, k2, -⟩ := s1.know n2
  refine ⟨_, rfl, _, _, rfl, rfl, n + 1, rfl, .of_le (by decide) (by omega) (by decide) (by omega), fun tb H3 n3 => ?_⟩
  rw [rgV_rngI] at n3
  obtain ⟨G3, s3, g3, k3, -⟩ := s2.know n3
  have km3 := g3 _ _ (g2 _ _ km)
  refine ⟨_, rfl, by show 1 ≤ sizeLine; decide, fun tc H4 n4 => ?_⟩
  obtain ⟨G4, s4, g4, k4, -⟩ := s3.know n4
  refine cat_ok s4 (g4 _ _ km3) k4 (by omega) fun td G5 H5 s5 v5 k5 => ?_
  have g5 := v5.g
  refine ⟨_, rfl, _, rfl, by show 1 ≤ sizeLine; decide, fun te H6 n6 => ?_⟩
  obtain ⟨G6, s6, g6, k6, -⟩ := s5.know n6
  refine cat_ok s6 (g6 _ _ (g5 _ _ (g4 _ _ km3))) k6 (by omega) fun tf G7 H7 s7 v7 k7 => ?_
  have g7 := v7.g
  refine ⟨_, rfl, _, rfl, by show 2 ≤ sizeLine; decide, fun tg H8 n8 => ⟨by show 9 ≤ sizeLine; decide, fun l H9 n9 => ?_⟩⟩
  obtain ⟨G8, s8, g8, k8, -⟩ := s7.know n8
  obtain ⟨s9, gl, hl, fl⟩ := s8.loc n9
  have g48 := g5.trans (g6.trans (g7.trans g8))
  have km8 := g48 _ _ (g4 _ _ km3)
  have dints : ∀ {G : Hp} {b : Addr} {ks : List Int}, G b = some (.tup (ks.map V.int)) → Da G (.ref b) (rowD ks) := fun h => .tup h (DaAll.ints _)
  have sz : ∀ ks : List Int, ks.length ≤ 14 → szD (rowD ks) ≤ 40 := fun ks h => by
    rw [show szD (rowD ks) = 1 + ks.length from sz_ints ks]
    omega
  have dl : Da G8 (.ref la) (.list (ms.map PyData.int)) := .lst (g48 _ _ (g4 _ _ (g3 _ _ k2))) (DaAll.ints _)
  have szs : ∀ d ∈ [PyData.none, .bool true, .int 0, .str "()", .list (ms.map PyData.int), rowD (rngI (n + 1)), rowD (ms ++ [0]), rowD (ms ++ [n]), .tuple [rowD ms, rowD ms]], szD d ≤ 40 := fun d hd => by
    have e1 : szD (rowD ms) = 1 + ms.length := sz_ints ms
    have e2 : szD (.list (ms.map PyData.int)) = 1 + ms.length := e1
    simp only [List.mem_cons, List.not_mem_nil, or_false] at hd
    rcases hd with rfl | rfl | rfl | rfl | rfl | rfl | rfl | rfl | rfl
    · decide
    · decide
    · decide
    · decide
    · omega
    · exact sz _ (by rw [rngI_len]; omega)
    · exact sz _ (by rw [List.length_append]; show _ + 1 ≤ 14; omega)
    · exact sz _ (by rw [List.length_append]; show _ + 1 ≤ 14; omega)
    · show 1 + (szD (rowD ms) + (szD (rowD ms) + 0)) ≤ 40
      omega
  refine ⟨fun σ' H' => ∃ (G' : Hp) (l : Addr) (xs : List V) (ds : List PyData) (y4 : Option V), σ' = [some (.ref S.a), some (.int n), some (.ref m), some (.ref l), y4] ∧ Go S G H G' H' ∧ G' l = none ∧ H l = none ∧ H' l = some (.lst xs) ∧ DaAll G' xs ds ∧ (∀ d ∈ ds, szD d ≤ 40) ∧ 0 < xs.length ∧ xs.length ≤ 100, ?_, ?_⟩
  · refine ⟨_, rfl, _, _, rfl, rfl, _, rfl, ite2 (fun c => ?_) (fun c => ?_)⟩
    · refine ⟨_, rfl, _, rfl, _, rfl, ?_⟩
      dsimp only [tNoPart]
      refine slI_ok s9 km8 fun ta m1 GA HA sA vA kA lA => ?_
      have hlA := vA.h _ _ hl
      have glA := vA.n _ gl (by rw [hl]; exact Option.some_ne_none _)
      refine ⟨_, rfl, m, rfl, ⟨_, .of (sA.gh _ _ (vA.g _ _ km8))⟩, fun z hz => ?_⟩
      refine lc_tup (xs := ms.map V.int) (fun i H' => Go S G H GA H' ∧ Lv G8 H9 GA H' ∧ GA z = none ∧ H z = none ∧ H9 z = none ∧ H' z = some (.lst (((ms.take i).map fun p => p + 1).map V.int))) ?_ ?_ ?_ ?_
      · obtain ⟨sz', gz, hz2, fz⟩ := sA.loc (p := z) (o := .lst []) ⟨hz, rfl⟩
        have z9 := vA.h.free hz
        exact ⟨sz', vA.put z9, gz, fz, z9, hz2⟩
      · rintro i H' - ⟨sx, vx, -⟩
        exact .of (sx.gh _ _ (vx.g _ _ km8))
      · rintro i y HX hy ⟨sx, vx, gz, fz, z9, hzx⟩
        obtain ⟨e, he, rfl⟩ := map_at hy
        have ilt := (List.getElem?_eq_some_iff.mp he).1
        refine ⟨rfl, yesT ⟨_, rfl, _, _, rfl, rfl, _, hzx, by rw [List.length_map, List.length_map, List.length_take]; exact lt (by omega), sx.mut gz fz rfl, vx.put z9, gz, fz, z9, ?_⟩⟩
        rw [upd_same, List.take_add_one, he, List.map_append, List.map_append]
        rfl
      rintro HX ⟨sx, vx, gz, fz, z9, hzx⟩
      rw [List.length_map, List.take_length] at hzx
      refine ⟨z, _, rfl, .of hzx, fun tu HB nB => ?_⟩
      obtain ⟨GB, sB, wB, kB⟩ := sx.knowL nB
      have vB := vx.trans wB
      refine ⟨_, rfl, m, rfl, ⟨_, .of (sB.gh _ _ (vB.g _ _ km8))⟩, fun z hz => ?_⟩
      refine lc_tup (xs := ms.map V.int) (fun i H' => Go S G H GB H' ∧ Lv G8 H9 GB H' ∧ GB z = none ∧ H z = none ∧ H9 z = none ∧ H' z = some (.lst (((ms.take i).map fun p => p - n).map V.int))) ?_ ?_ ?_ ?_
      · obtain ⟨sz', gz, hz2, fz⟩ := sB.loc (p := z) (o := .lst []) ⟨hz, rfl⟩
        have z9 := vB.h.free hz
        exact ⟨sz', vB.put z9, gz, fz, z9, hz2⟩
      · rintro i H' - ⟨sx, vx, -⟩
        exact .of (sx.gh _ _ (vx.g _ _ km8))
      · rintro i y HX hy ⟨sx, vx, gz, fz, z9, hzx⟩
        obtain ⟨e, he, rfl⟩ := map_at hy
        have ilt := (List.getElem?_eq_some_iff.mp he).1
        refine ⟨rfl, yesT ⟨_, rfl, _, rfl, _, _, rfl, rfl, _, hzx, by rw [List.length_map, List.length_map, List.length_take]; exact lt (by omega), sx.mut gz fz rfl, vx.put z9, gz, fz, z9, ?_⟩⟩
        rw [upd_same, List.take_add_one, he, List.map_append, List.map_append]
        rfl
      rintro HX ⟨sx, vx, gz, fz, z9, hzx⟩
      rw [List.length_map, List.take_length] at hzx
      refine ⟨z, _, rfl, .of hzx, fun tv HC nC => ?_⟩
      obtain ⟨GC, sC, wC, kC⟩ := sx.knowL nC
      have vC := vx.trans wC
      refine ⟨_, rfl, _, rfl, ?_⟩
      dsimp only [tNoPart]
      refine slI_ok sC (vC.g _ _ km8) fun tw m2 GD HD sD wD kD lD => ?_
      have vD := vC.trans wD
      refine ⟨by show 1 ≤ sizeLine; decide, fun tx HE nE => ?_⟩
      obtain ⟨GE, sE, wE, kE⟩ := sD.knowL nE
      have vE := vD.trans wE
      refine cat_ok sE (wE.g _ _ kD) kE (by omega) fun ty GF HF sF wF kF => ?_
      have vF := vE.trans wF
      refine ⟨by show 4 ≤ sizeLine; decide, fun l2 HG nG => ?_⟩
      obtain ⟨sG, -, hG, -⟩ := sF.loc nG
      have hlG := nG.else (vF.h _ _ hl)
      refine ⟨l, l2, _, _, rfl, rfl, hlG, hG, by show 13 ≤ sizeLine; decide, fun l3 HI nI => ?_⟩
      obtain ⟨sI, gl3, hl3, fl3⟩ := sG.loc nI
      have km9 := vF.g _ _ km8
      have sz0 : ∀ d ∈ ([] : List PyData), szD d ≤ 1 := fun d hd => by cases hd
      refine ⟨_, rfl, _, rfl, m, rfl, ⟨_, .of (sI.gh _ _ km9)⟩, fun z hz => ?_⟩
      have nz3 : z ≠ l3 := fun e => by rw [e, hl3] at hz; cases hz
      generalize e3 : [V.non, V.bl true, V.int 0, V.str (Str.ofString "()"), V.ref la, V.ref tb, V.ref td, V.ref tf, V.ref tg] ++ [V.ref ta, V.ref tu, V.ref tv, V.ref ty] = xs3 at hl3
      refine lc_tup (xs := ms.map V.int) (fun i H' => ∃ (G' : Hp) (zs : List V) (ds : List PyData), Go S G H G' H' ∧ Same GF G' ∧ G' l3 = none ∧ H' l3 = some (.lst xs3) ∧ G' z = none ∧ H z = none ∧ H' z = some (.lst zs) ∧ DaAll G' zs ds ∧ (∀ d ∈ ds, szD d ≤ 1) ∧ zs.length = i) ?_ ?_ ?_ ?_
      · obtain ⟨sz', gz, hz2, fz⟩ := sI.loc (p := z) (o := .lst []) ⟨hz, rfl⟩
        exact ⟨GF, [], [], sz', Same.refl _, gl3, by rw [upd_ne (Ne.symm nz3)]; exact hl3, gz, fz, hz2, .nil, sz0, rfl⟩
      · rintro i H' - ⟨G', zs, ds, sx, gx, -⟩
        exact .of (sx.gh _ _ (gx _ _ km9))
      · rintro i y HX hy ⟨GX, zs, ds, sx, gx, gl3X, hl3X, gz, fz, hzx, dz, sz1, lz⟩
        obtain ⟨e, he, rfl⟩ := map_at hy
        have ilt := (List.getElem?_eq_some_iff.mp he).1
        refine ⟨rfl, yesT ⟨_, rfl, _, rfl, _, _, rfl, rfl, _, rfl, _, _, rfl, rfl, by show 2 ≤ sizeLine; decide, fun r HY nY => ?_⟩⟩
        obtain ⟨sY, gr, hr2, fr⟩ := sx.loc nY
        refine ⟨S, GX, .ref r, _, rfl, sY.wd, .inl ⟨r, rfl, sY.ns fr, hr2⟩, by show 0 < 2; decide, by show 2 < 1000000; decide, fun x HZ hx sZ => ?_⟩
        have bx : ∃ b : Bool, x = .bl b := by
          simp only [List.mem_cons, List.not_mem_nil, or_false] at hx
          rcases hx with h | h <;> exact ⟨_, h⟩
        obtain ⟨b0, rfl⟩ := bx
        have SZ := sY.trans sZ
        have hzZ := sZ.hh (nY.else hzx) (sY.ns fz)
        have hlZ := sZ.hh (nY.else hl3X) (sY.ns fl3)
        refine ⟨zs, hzZ, lt (by omega), GX, _, ds ++ [.bool b0], SZ.mut gz fz rfl, gx, gl3X, by rw [upd_ne (Ne.symm nz3)]; exact hlZ, gz, fz, upd_same, dz.append (.one (.bl _)), fun d hd => ?_, by rw [List.length_append, lz]; rfl⟩
        rcases List.mem_append.mp hd with h | h
        · exact sz1 d h
        · rw [List.mem_singleton.mp h]; exact Nat.le_refl 1
      rintro HX ⟨GX, zs, ds, sx, gx, gl3X, hl3X, gz, fz, hzx, dz, sz1, lz⟩
      rw [List.length_map] at lz
      refine ⟨z, _, rfl, .of hzx, fun tz HY nY => ?_⟩
      obtain ⟨GY, sY, wY, kY⟩ := sx.knowL nY
      refine ⟨_, rfl, _, rfl, _, rfl, ?_⟩
      refine slI_ok sY (wY.g _ _ (gx _ _ km9)) fun t1 m3 GZ HZ sZ wZ kZ lZ => ?_
      refine ⟨_, _, rfl, rfl, ⟨by decide, by decide, by decide⟩, by show 1 ≤ sizeLine; decide, fun t2 HU nU => ?_⟩
      obtain ⟨GU, sU, wU, kU⟩ := sZ.knowL nU
      refine cat_ok sU (wU.g _ _ kZ) kU (by omega) fun t3 GV HV sV wV kV => ?_
      have vV := wY.trans (wZ.trans (wU.trans wV))
      refine ⟨by show 2 ≤ sizeLine; decide, fun l4 HW nW => ?_⟩
      obtain ⟨sW, -, hW, -⟩ := sV.loc nW
      have hl3W := nW.else (vV.h _ _ hl3X)
      have l13 : xs3.length = 13 := by rw [← e3]; rfl
      refine ⟨l3, l4, _, _, rfl, rfl, hl3W, hW, ?_, fun l5 HQ nQ => ?_⟩
      · show xs3.length + 2 ≤ sizeLine
        rw [l13]; decide
      obtain ⟨sQ, g5, h5, f5⟩ := sW.loc nQ
      have gg := gx.trans vV.g
      have gF8 := vF.g.trans gg
      refine ⟨GV, l5, _, ([PyData.none, .bool true, .int 0, .str "()", .list (ms.map PyData.int), rowD (rngI (n + 1)), rowD (ms ++ [0]), rowD (ms ++ [n]), .tuple [rowD ms, rowD ms]] ++ [rowD m1, rowD (ms.map fun p => p + 1), rowD (ms.map fun p => p - n), rowD (m2 ++ [12])]) ++ [.tuple ds, rowD (m3 ++ [(10 : Int) ^ (29 : Int).toNat])], _, rfl, sQ, g5, f5, h5, ?_, fun d hd => ?_, ?_, ?_⟩
      · rw [← e3]
        have a8 : DaAll G8 [V.non, V.bl true, V.int 0, V.str (Str.ofString "()"), V.ref la, V.ref tb, V.ref td, V.ref tf, V.ref tg] _ := .cons .non (.cons (.bl _) (.cons (.int _) (.cons (.str _) (.cons dl (.cons (dints (g48 _ _ (g4 _ _ k3))) (.cons (dints (g8 _ _ (g7 _ _ (g6 _ _ k5)))) (.cons (dints (g8 _ _ k7)) (.cons (.tup k8 (.cons (dints km8) (.cons (dints km8) .nil))) .nil))))))))
        have gBC := wC.g.trans (wD.g.trans (wE.g.trans wF.g))
        have aF : DaAll GF [V.ref ta, V.ref tu, V.ref tv, V.ref ty] _ := .cons (dints ((wB.g.trans gBC) _ _ kA)) (.cons (dints (gBC _ _ kB)) (.cons (dints ((wD.g.trans (wE.g.trans wF.g)) _ _ kC)) (.cons (dints kF) .nil)))
        exact ((a8.up gF8).append (aF.up gg)).append (.cons (.tup ((wZ.trans (wU.trans wV)).g _ _ kY) (dz.up vV.g)) (.cons (dints kV) .nil))
      · rcases List.mem_append.mp hd with h | h
        · rcases List.mem_append.mp h with h | h
          · exact szs d h
          · simp only [List.mem_cons, List.not_mem_nil, or_false] at h
            rcases h with rfl | rfl | rfl | rfl
            · exact sz _ (by omega)
            · exact sz _ (by rw [List.length_map]; omega)
            · exact sz _ (by rw [List.length_map]; omega)
            · exact sz _ (by rw [List.length_append]; show _ + 1 ≤ 14; omega)
        · simp only [List.mem_cons, List.not_mem_nil, or_false] at h
          rcases h with rfl | rfl
          · have h1 : ∀ ds : List PyData, (∀ d ∈ ds, szD d ≤ 1) → szL ds ≤ ds.length := fun ds => by
              induction ds with
              | nil => intro _; exact Nat.le_refl _
              | cons a r ih =>
                intro h
                have h1 := ih fun x hx => h x (List.mem_cons_of_mem _ hx)
                have h2 := h a List.mem_cons_self
                show szD a + szL r ≤ r.length + 1
                omega
            have h2 := h1 ds sz1
            have h3 := dz.length
            show 1 + szL ds ≤ 40
            omega
          · exact sz _ (by rw [List.length_append]; show _ + 1 ≤ 14; omega)
      · rw [List.length_append, l13]; show 0 < 13 + 2; decide
      · rw [List.length_append, l13]; show 13 + 2 ≤ 100; decide
    · refine ⟨G8, l, _, [.none, .bool true, .int 0, .str "()", .list (ms.map PyData.int), rowD (rngI (n + 1)), rowD (ms ++ [0]), rowD (ms ++ [n]), .tuple [rowD ms, rowD ms]], _, rfl, s9, gl, fl, hl, ?_, ?_, by show 0 < 9; decide, by show 9 ≤ 100; decide⟩
      · exact .cons .non (.cons (.bl _) (.cons (.int _) (.cons (.str _) (.cons dl (.cons (dints (g48 _ _ (g4 _ _ k3))) (.cons (dints (g8 _ _ (g7 _ _ (g6 _ _ k5)))) (.cons (dints (g8 _ _ k7)) (.cons (.tup k8 (.cons (dints km8) (.cons (dints km8) .nil))) .nil))))))))
      · exact szs
  rintro σ' HA ⟨GA, lA, xs, ds, y4, rfl, sA, gA, fA, hA, dA, szA, l0, l1⟩
  refine ⟨_, rfl, _, rfl, S, GA, .ref lA, xs, rfl, sA.wd, .inl ⟨lA, rfl, sA.ns fA, hA⟩, by omega, by omega, fun x HB hx sB => ?_⟩
  obtain ⟨j, hj⟩ := List.getElem?_of_mem hx
  obtain ⟨d, hd, dd⟩ := dA.get hj
  exact q x d GA HB (sA.trans sB) dd (szA d (List.mem_of_getElem? hd))


def spGroupS (K : PySem.W.Frag) : Sp := fun vs H Q _ => ∃ (G : Hp) (a : Addr) (ts : List V) (T : List (List Int)) (n most : Int), vs = [.int n, .ref a, .int most] ∧ Same G H ∧ 0 ≤ n ∧ n ≤ 12 ∧ HasS K H a ts ∧ DaAll G ts (T.map rowD) ∧ AllMv n T ∧ T.length ≤ 1000 ∧ 1 ≤ most ∧ most ≤ 1000 ∧
  (∀ (p : Addr) (G' H' : Hp) (ys : List V) (L : List (List Int)), Stq G H G' H' → H p = none → G' p = none → H' p = some (.lst ys) → DaAll G' ys (L.map rowD) → Grp n T L → ((L.length : Nat) : Int) ≤ most → Q (.ref p) H') ∧
  ((∀ L : List (List Int), (∀ w, Mk' n T w → w ∈ L) → most < (L.length : Nat)) → ∀ H', Same H H' → Q .non H')
theorem ok_group__s (Z : Zs mg) (D : Ds K mg) (c__law_after : Cal P w K mg base "_law_after" 1 ["first", "second"] spAfter) : Cal P w K mg base "_law_group" 2 ["points", "told", "most"] (spGroupS K) := by
  refine Def.cal D.d_law_group sc_law_group (fun vs H Q E h => ?_) (fun f cdv A outer s H vs Q E hr h => ?_)
  · obtain ⟨G, a, ts, T, n, most, rfl, gh, n0, n12, ha, dt, mvT, lT, m1, m2, q1, q2⟩ := h
    rfl
  obtain ⟨G, a, ts, T, n, most, rfl, gh, n0, n12, ha, dt, mvT, lT, m1, m2, q1, q2⟩ := h
  refine ⟨_, (pss_cons (ps_set (i := 3) sc_law_group.nd rfl (Or.inl rfl) (pe_tupRgN rfl (by rfl) Z.z_tuple (prg_1 (by rfl) Z.z_range (pv 0))))
      (pss_cons (ps_set (i := 4) sc_law_group.nd rfl (Or.inl rfl) (pe_lstN (pa_cons (pv 3) pa_nil)))
      (pss_cons (ps_set (i := 5) sc_law_group.nd rfl (Or.inl rfl) (pe_dispT1 (hu_of hr) (pv 3) pe_bl))
      (pss_cons (ps_set (i := 6) sc_law_group.nd rfl (Or.inl rfl) pe_int)
      (pss_cons (ps_while PassesOwn.never (pt_cmp (pc_lt (pv 6) (pe_callB call_len_seq (by rfl) Z.z_len (by decide +kernel) (pa_cons (pv 4) pa_nil))) (nomark _)) (pss_cons (ps_for PassesOwn.never rfl (pi_or (pi_list (pv 1)) (pi_tup (pv 1))) (pg_name (i := 7) sc_law_group.nd rfl (Or.inl rfl)) (pss_cons (ps_set (i := 8) sc_law_group.nd rfl (Or.inl rfl) (pe_cal c__law_after (hr.mono (by first | decide | omega)) (by rfl) (pa_cons (pe_ix ix_list (pv 4) (pv 6) (fun _ _ => rfl)) (pa_cons (pv 7) pa_nil))))
      (pss_one (ps_if (pt_cmp (pc_dnotin (hu_of hr) (pv 8) (pv 5))) (pss_cons (ps_if (pt_cmp (pc_ge (pe_callB call_len_seq (by rfl) Z.z_len (by decide +kernel) (pa_cons (pv 4) pa_nil)) (pv 2)) (nomark _)) (pss_one (ps_ret pe_non)) pss_nil)
      (pss_cons (ps_dput (hu_of hr) (pv 5) (pv 8) pe_bl rfl)
      (pss_one (ps_expr (pe_bm PySem.F.plainAttrs_list PySem.F.slot_list_append PySem.F.type_list_append mt_appendN (pv 4) (pa_cons (pv 8) pa_nil)))))) pss_nil))))
      (pss_one (ps_set (i := 6) sc_law_group.nd rfl (Or.inl rfl) (pe_op op_add (pv 6) pe_int)))))
      (pss_one (ps_ret (pe_callB call_sortR (by rfl) Z.z_sorted (by decide +kernel) (pa_cons (pv 4) pa_nil))))))))), ?_⟩
  have lt := dt.length
  rw [List.length_map] at lt
  refine ⟨_, rfl, n, rfl, .of_le (by decide) (by omega) (by decide) (by omega), fun p H1 n1 => ?_⟩
  rw [rgV_rngI] at n1
  obtain ⟨G1, s1, g1, k1, -⟩ := (Stq.refl gh).know2 n1
  refine ⟨_, rfl, Nat.succ_le_of_lt (Nat.lt_of_lt_of_le (show 0 < 2 by decide) (by decide)), fun qa H2 n2 => ?_⟩
  obtain ⟨s2, gq, hq, fq⟩ := s1.loc2 n2
  refine fun d hd => ⟨_, rfl, ?_⟩
  obtain ⟨s3, gd, h3, fd⟩ := s2.loc2 (p := d) (o := .dT []) ⟨hd, rfl⟩
  have hp3 : upd H2 d (.dT []) p = some (.tup ((keyL (rngI n)).map kV)) := by rw [keyL_kV]; exact s3.gh _ _ k1
  have nqd : qa ≠ d := fun e => by rw [← e, hq] at hd; cases hd
  refine ⟨h3, p, keyL (rngI n), rfl, hp3, ?_⟩
  have s4 := s3.mut gd fd (o := .dT [(keyL (rngI n), V.bl true)]) rfl
  have hd4 : upd (upd H2 d (.dT [])) d (.dT [(keyL (rngI n), V.bl true)]) d = some (.dT [(keyL (rngI n), V.bl true)]) := upd_same
  have hq4 : upd (upd H2 d (.dT [])) d (.dT [(keyL (rngI n), V.bl true)]) qa = some (.lst [V.ref p]) := by rw [upd_ne nqd, upd_ne nqd]; exact hq
  generalize upd (upd H2 d (.dT [])) d (.dT [(keyL (rngI n), V.bl true)]) = H4 at s4 hd4 hq4 ⊢
  refine ⟨fun m σ' H' => ∃ (at_ : Nat) (G' : Hp) (Qs : List (List Int)) (kvs : List (List L2.Key × V)) (ys : List V) (y7 y8 : Option V), m = most.toNat - at_ ∧ σ' = [some (.int n), some (.ref a), some (.int most), some (.ref p), some (.ref qa), some (.ref d), some (.int (at_ : Nat)), y7, y8] ∧ Stq G H G' H' ∧ G' qa = none ∧ G' d = none ∧
    H' qa = some (.lst ys) ∧ H' d = some (.dT kvs) ∧ DaAll G' ys (Qs.map rowD) ∧ kvs.map (·.1) = Qs.map keyL ∧ QOk T (rngI n) Qs at_ 0 ∧ ((Qs.length : Nat) : Int) ≤ most, ⟨_, 0, G1, [rngI n], _, _, none, none, rfl, rfl, s4, gq, gd, hq4, hd4, .cons (.tup k1 (DaAll.ints _)) .nil, rfl, .start _ _, by show ((1 : Nat) : Int) ≤ most; omega⟩, ?_⟩
  rintro m σ' H5 ⟨at_, G5, Qs, kvs, ys, y7, y8, rfl, rfl, s5, gq5, gd5, hq5, hd5, dy5, ek, ok, lm⟩
  have ly := dy5.length
  rw [List.length_map] at ly
  refine ⟨_, rfl, _, rfl, qa, _, rfl, .inl (.of hq5), _, _, rfl, rfl, _, rfl, ite2 (fun c => ?_) (fun c => ?_)⟩
  · have c : ((at_ : Nat) : Int) < ((ys.length : Nat) : Int) := dec_of c
    have atl : at_ < Qs.length := by omega
    obtain ⟨x, hx⟩ : ∃ x, Qs[at_]? = some x := ⟨_, List.getElem?_eq_getElem atl⟩
    refine ⟨fun σ' H' => ∃ m', m' < most.toNat - at_ ∧ ∃ (at_ : Nat) (G' : Hp) (Qs : List (List Int)) (kvs : List (List L2.Key × V)) (ys : List V) (y7 y8 : Option V), m' = most.toNat - at_ ∧ σ' = [some (.int n), some (.ref a), some (.int most), some (.ref p), some (.ref qa), some (.ref d), some (.int (at_ : Nat)), y7, y8] ∧ Stq G H G' H' ∧ G' qa = none ∧ G' d = none ∧
      H' qa = some (.lst ys) ∧ H' d = some (.dT kvs) ∧ DaAll G' ys (Qs.map rowD) ∧ kvs.map (·.1) = Qs.map keyL ∧ QOk T (rngI n) Qs at_ 0 ∧ ((Qs.length : Nat) : Int) ≤ most, fun σ' H' z => z, ?_⟩
    rcases ha with (ha | ha) | ha
    · refine .inl ⟨_, rfl, a, rfl, ⟨_, .of (s5.hh _ _ ha)⟩, for_list (K := K) (a := a) (xs := ts) (fun j σ' H' => ∃ (G' : Hp) (Qs : List (List Int)) (kvs : List (List L2.Key × V)) (ys : List V) (y7 y8 : Option V), σ' = [some (.int n), some (.ref a), some (.int most), some (.ref p), some (.ref qa), some (.ref d), some (.int (at_ : Nat)), y7, y8] ∧ Stq G H G' H' ∧ G' qa = none ∧ G' d = none ∧
        H' qa = some (.lst ys) ∧ H' d = some (.dT kvs) ∧ DaAll G' ys (Qs.map rowD) ∧ kvs.map (·.1) = Qs.map keyL ∧ QOk T (rngI n) Qs at_ j ∧ ((Qs.length : Nat) : Int) ≤ most ∧ at_ < Qs.length) ?_ ?_ ?_ ?_⟩
      · exact ⟨G5, Qs, kvs, ys, y7, y8, rfl, s5, gq5, gd5, hq5, hd5, dy5, ek, ok, lm, atl⟩
      · rintro j σ' H' - ⟨G', Qs, kvs, ys, y7, y8, rfl, s6, -⟩
        exact .of (s6.hh _ _ ha)
      · rintro j y σ' H6 hy ⟨G6, Qs, kvs, ys, y7, y8, rfl, s6, gq6, gd6, hq6, hd6, dy6, ek, ok, lm, atl⟩
        obtain ⟨e, he, hde⟩ := dt.get hy
        rw [List.getElem?_map] at he
        obtain ⟨m, hm, rfl⟩ := Option.map_eq_some_iff.mp he
        obtain ⟨b, rfl, hb⟩ := rows_ref hde
        obtain ⟨x, hx⟩ : ∃ x, Qs[at_]? = some x := ⟨_, List.getElem?_eq_getElem atl⟩
        have lyj := dy6.length
        rw [List.length_map] at lyj
        obtain ⟨v, hv⟩ : ∃ v, ys[at_]? = some v := ⟨_, List.getElem?_eq_getElem (by omega)⟩
        obtain ⟨e2, he2, hdx⟩ := dy6.get hv
        rw [List.getElem?_map, hx] at he2
        cases he2
        obtain ⟨c2, rfl, hc2⟩ := rows_ref hdx
        have xmv := made_mv n0 mvT (ok.rch x (List.mem_of_getElem? hx))
        have mvm := mvT m (List.mem_of_getElem? hm)
        refine ⟨_, rfl, _, rfl, qa, _, _, _, rfl, rfl, .of hq6, atI_nat hv, _, rfl, G6, c2, b, x, m, n, rfl, s6.gh, hc2, s6.gg _ _ hb, mvm, xmv.row, by have := xmv.len; omega, fun p7 G7 H7 s7 k7 => ?_⟩
        have S7 := s6.trans s7
        have hd7 := s7.hh _ _ hd6
        have hq7 := s7.hh _ _ hq6
        have gd7 := s7.nw2 hd6 gd6
        have gq7 := s7.nw2 hq6 gq6
        have dy7 := dy6.up s7.gg
        have hp7 : H7 p7 = some (.tup ((keyL (aft x m)).map kV)) := by rw [keyL_kV]; exact s7.gh _ _ k7
        refine ⟨_, rfl, _, rfl, d, _, rfl, DGet.t hd7 hp7, _, rfl, ?_⟩
        rw [val_some ek]
        by_cases c : aft x m ∈ Qs
        · rw [decide_eq_true c]
          exact iteF ⟨G7, Qs, kvs, ys, _, _, rfl, S7, gq7, gd7, hq7, hd7, dy7, ek, ok.same hx hm c, lm, atl⟩
        · rw [decide_eq_false c]
          refine iteT ⟨_, rfl, qa, _, rfl, .inl (.of hq7), _, rfl, _, _, rfl, rfl, _, rfl, ite2 (fun c3 => ?_) (fun c3 => ?_)⟩
          · have c3 : most ≤ ((ys.length : Nat) : Int) := dec_of c3
            refine q2 (fun L hL => ?_) H7 S7.hh
            have ok2 := ok.app hx hm c
            have := len_sub ok2.nd fun w hw => hL w (ok2.rch w hw)
            rw [List.length_append] at this
            have e1 : ([aft x m] : List (List Int)).length = 1 := rfl
            omega
          · have c3 : ¬ most ≤ ((ys.length : Nat) : Int) := dec_not c3
            have lkv : kvs.length = Qs.length := by
              have := congrArg List.length ek
              rwa [List.length_map, List.length_map] at this
            refine ⟨_, rfl, _, rfl, d, _, rfl, DPut.t hd7 hp7 (Nat.lt_of_le_of_lt (show kvs.length ≤ 1000 by omega) (by decide)), ?_⟩
            have nqd : qa ≠ d := ne_of hq7 hd7 (by intro z; cases z)
            have S8 := S7.mut gd7 fd (o := .dT (putK kvs (keyL (aft x m)) (.bl true))) rfl
            have hq8 : upd H7 d (.dT (putK kvs (keyL (aft x m)) (.bl true))) qa = some (.lst ys) := by rw [upd_ne nqd]; exact hq7
            refine ⟨_, rfl, .inl ⟨rfl, _, .of hq8⟩, _, rfl, qa, _, _, rfl, rfl, hq8, Nat.lt_of_le_of_lt (show ys.length ≤ 1000 by omega) (by decide), fun H9 e9 => ?_⟩
            refine ⟨G7, Qs ++ [aft x m], _, _, _, _, rfl, S8.mut gq7 fq e9, gq7, gd7, upd_at e9, upd_else e9 upd_same (Ne.symm nqd), ?_, ?_, ok.app hx hm c, ?_, ?_⟩
            · rw [List.map_append]
              exact dy7.append (.one (.tup k7 (DaAll.ints _)))
            · rw [putK_new _ (val_none ek c), List.map_append, List.map_append, ek]
              rfl
            · rw [List.length_append]
              show ((Qs.length + 1 : Nat) : Int) ≤ most
              omega
            · rw [List.length_append]
              omega
      · rintro σ' H6 ⟨G6, Qs, kvs, ys, y7, y8, rfl, s6, gq6, gd6, hq6, hd6, dy6, ek, ok, lm, atl⟩
        rw [lt] at ok
        refine ⟨_, rfl, _, _, rfl, rfl, _, ?_, at_ + 1, G6, Qs, kvs, ys, _, _, rfl, rfl, s6, gq6, gd6, hq6, hd6, dy6, ek, ok.next, lm⟩
        omega
    · refine .inr ⟨_, rfl, a, rfl, ⟨_, .of (s5.hh _ _ ha)⟩, for_tup (K := K) (a := a) (xs := ts) (fun j σ' H' => ∃ (G' : Hp) (Qs : List (List Int)) (kvs : List (List L2.Key × V)) (ys : List V) (y7 y8 : Option V), σ' = [some (.int n), some (.ref a), some (.int most), some (.ref p), some (.ref qa), some (.ref d), some (.int (at_ : Nat)), y7, y8] ∧ Stq G H G' H' ∧ G' qa = none ∧ G' d = none ∧
        H' qa = some (.lst ys) ∧ H' d = some (.dT kvs) ∧ DaAll G' ys (Qs.map rowD) ∧ kvs.map (·.1) = Qs.map keyL ∧ QOk T (rngI n) Qs at_ j ∧ ((Qs.length : Nat) : Int) ≤ most ∧ at_ < Qs.length) ?_ ?_ ?_ ?_⟩
      · exact ⟨G5, Qs, kvs, ys, y7, y8, rfl, s5, gq5, gd5, hq5, hd5, dy5, ek, ok, lm, atl⟩
      · rintro j σ' H' - ⟨G', Qs, kvs, ys, y7, y8, rfl, s6, -⟩
        exact .of (s6.hh _ _ ha)
      · rintro j y σ' H6 hy ⟨G6, Qs, kvs, ys, y7, y8, rfl, s6, gq6, gd6, hq6, hd6, dy6, ek, ok, lm, atl⟩
        obtain ⟨e, he, hde⟩ := dt.get hy
        rw [List.getElem?_map] at he
        obtain ⟨m, hm, rfl⟩ := Option.map_eq_some_iff.mp he
        obtain ⟨b, rfl, hb⟩ := rows_ref hde
        obtain ⟨x, hx⟩ : ∃ x, Qs[at_]? = some x := ⟨_, List.getElem?_eq_getElem atl⟩
        have lyj := dy6.length
        rw [List.length_map] at lyj
        obtain ⟨v, hv⟩ : ∃ v, ys[at_]? = some v := ⟨_, List.getElem?_eq_getElem (by omega)⟩
        obtain ⟨e2, he2, hdx⟩ := dy6.get hv
        rw [List.getElem?_map, hx] at he2
        cases he2
        obtain ⟨c2, rfl, hc2⟩ := rows_ref hdx
        have xmv := made_mv n0 mvT (ok.rch x (List.mem_of_getElem? hx))
        have mvm := mvT m (List.mem_of_getElem? hm)
        refine ⟨_, rfl, _, rfl, qa, _, _, _, rfl, rfl, .of hq6, atI_nat hv, _, rfl, G6, c2, b, x, m, n, rfl, s6.gh, hc2, s6.gg _ _ hb, mvm, xmv.row, by have := xmv.len; omega, fun p7 G7 H7 s7 k7 => ?_⟩
        have S7 := s6.trans s7
        have hd7 := s7.hh _ _ hd6
        have hq7 := s7.hh _ _ hq6
        have gd7 := s7.nw2 hd6 gd6
        have gq7 := s7.nw2 hq6 gq6
        have dy7 := dy6.up s7.gg
        have hp7 : H7 p7 = some (.tup ((keyL (aft x m)).map kV)) := by rw [keyL_kV]; exact s7.gh _ _ k7
        refine ⟨_, rfl, _, rfl, d, _, rfl, DGet.t hd7 hp7, _, rfl, ?_⟩
        rw [val_some ek]
        by_cases c : aft x m ∈ Qs
        · rw [decide_eq_true c]
          exact iteF ⟨G7, Qs, kvs, ys, _, _, rfl, S7, gq7, gd7, hq7, hd7, dy7, ek, ok.same hx hm c, lm, atl⟩
        · rw [decide_eq_false c]
          refine iteT ⟨_, rfl, qa, _, rfl, .inl (.of hq7), _, rfl, _, _, rfl, rfl, _, rfl, ite2 (fun c3 => ?_) (fun c3 => ?_)⟩
          · have c3 : most ≤ ((ys.length : Nat) : Int) := dec_of c3
            refine q2 (fun L hL => ?_) H7 S7.hh
            have ok2 := ok.app hx hm c
            have := len_sub ok2.nd fun w hw => hL w (ok2.rch w hw)
            rw [List.length_append] at this
            have e1 : ([aft x m] : List (List Int)).length = 1 := rfl
            omega
          · have c3 : ¬ most ≤ ((ys.length : Nat) : Int) := dec_not c3
            have lkv : kvs.length = Qs.length := by
              have := congrArg List.length ek
              rwa [List.length_map, List.length_map] at this
            refine ⟨_, rfl, _, rfl, d, _, rfl, DPut.t hd7 hp7 (Nat.lt_of_le_of_lt (show kvs.length ≤ 1000 by omega) (by decide)), ?_⟩
            have nqd : qa ≠ d := ne_of hq7 hd7 (by intro z; cases z)
            have S8 := S7.mut gd7 fd (o := .dT (putK kvs (keyL (aft x m)) (.bl true))) rfl
            have hq8 : upd H7 d (.dT (putK kvs (keyL (aft x m)) (.bl true))) qa = some (.lst ys) := by rw [upd_ne nqd]; exact hq7
            refine ⟨_, rfl, .inl ⟨rfl, _, .of hq8⟩, _, rfl, qa, _, _, rfl, rfl, hq8, Nat.lt_of_le_of_lt (show ys.length ≤ 1000 by omega) (by decide), fun H9 e9 => ?_⟩
            refine ⟨G7, Qs ++ [aft x m], _, _, _, _, rfl, S8.mut gq7 fq e9, gq7, gd7, upd_at e9, upd_else e9 upd_same (Ne.symm nqd), ?_, ?_, ok.app hx hm c, ?_, ?_⟩
            · rw [List.map_append]
              exact dy7.append (.one (.tup k7 (DaAll.ints _)))
            · rw [putK_new _ (val_none ek c), List.map_append, List.map_append, ek]
              rfl
            · rw [List.length_append]
              show ((Qs.length + 1 : Nat) : Int) ≤ most
              omega
            · rw [List.length_append]
              omega
      · rintro σ' H6 ⟨G6, Qs, kvs, ys, y7, y8, rfl, s6, gq6, gd6, hq6, hd6, dy6, ek, ok, lm, atl⟩
        rw [lt] at ok
        refine ⟨_, rfl, _, _, rfl, rfl, _, ?_, at_ + 1, G6, Qs, kvs, ys, _, _, rfl, rfl, s6, gq6, gd6, hq6, hd6, dy6, ek, ok.next, lm⟩
        omega
    · refine .inr ⟨_, rfl, a, rfl, ⟨_, .inr ha⟩, for_tup (K := K) (a := a) (xs := ts) (fun j σ' H' => ∃ (G' : Hp) (Qs : List (List Int)) (kvs : List (List L2.Key × V)) (ys : List V) (y7 y8 : Option V), σ' = [some (.int n), some (.ref a), some (.int most), some (.ref p), some (.ref qa), some (.ref d), some (.int (at_ : Nat)), y7, y8] ∧ Stq G H G' H' ∧ G' qa = none ∧ G' d = none ∧
        H' qa = some (.lst ys) ∧ H' d = some (.dT kvs) ∧ DaAll G' ys (Qs.map rowD) ∧ kvs.map (·.1) = Qs.map keyL ∧ QOk T (rngI n) Qs at_ j ∧ ((Qs.length : Nat) : Int) ≤ most ∧ at_ < Qs.length) ?_ ?_ ?_ ?_⟩
      · exact ⟨G5, Qs, kvs, ys, y7, y8, rfl, s5, gq5, gd5, hq5, hd5, dy5, ek, ok, lm, atl⟩
      · rintro j σ' H' - ⟨G', Qs, kvs, ys, y7, y8, rfl, s6, -⟩
        exact .inr ha
      · rintro j y σ' H6 hy ⟨G6, Qs, kvs, ys, y7, y8, rfl, s6, gq6, gd6, hq6, hd6, dy6, ek, ok, lm, atl⟩
        obtain ⟨e, he, hde⟩ := dt.get hy
        rw [List.getElem?_map] at he
        obtain ⟨m, hm, rfl⟩ := Option.map_eq_some_iff.mp he
        obtain ⟨b, rfl, hb⟩ := rows_ref hde
        obtain ⟨x, hx⟩ : ∃ x, Qs[at_]? = some x := ⟨_, List.getElem?_eq_getElem atl⟩
        have lyj := dy6.length
        rw [List.length_map] at lyj
        obtain ⟨v, hv⟩ : ∃ v, ys[at_]? = some v := ⟨_, List.getElem?_eq_getElem (by omega)⟩
        obtain ⟨e2, he2, hdx⟩ := dy6.get hv
        rw [List.getElem?_map, hx] at he2
        cases he2
        obtain ⟨c2, rfl, hc2⟩ := rows_ref hdx
        have xmv := made_mv n0 mvT (ok.rch x (List.mem_of_getElem? hx))
        have mvm := mvT m (List.mem_of_getElem? hm)
        refine ⟨_, rfl, _, rfl, qa, _, _, _, rfl, rfl, .of hq6, atI_nat hv, _, rfl, G6, c2, b, x, m, n, rfl, s6.gh, hc2, s6.gg _ _ hb, mvm, xmv.row, by have := xmv.len; omega, fun p7 G7 H7 s7 k7 => ?_⟩
        have S7 := s6.trans s7
        have hd7 := s7.hh _ _ hd6
        have hq7 := s7.hh _ _ hq6
        have gd7 := s7.nw2 hd6 gd6
        have gq7 := s7.nw2 hq6 gq6
        have dy7 := dy6.up s7.gg
        have hp7 : H7 p7 = some (.tup ((keyL (aft x m)).map kV)) := by rw [keyL_kV]; exact s7.gh _ _ k7
        refine ⟨_, rfl, _, rfl, d, _, rfl, DGet.t hd7 hp7, _, rfl, ?_⟩
        rw [val_some ek]
        by_cases c : aft x m ∈ Qs
        · rw [decide_eq_true c]
          exact iteF ⟨G7, Qs, kvs, ys, _, _, rfl, S7, gq7, gd7, hq7, hd7, dy7, ek, ok.same hx hm c, lm, atl⟩
        · rw [decide_eq_false c]
          refine iteT ⟨_, rfl, qa, _, rfl, .inl (.of hq7), _, rfl, _, _, rfl, rfl, _, rfl, ite2 (fun c3 => ?_) (fun c3 => ?_)⟩
          · have c3 : most ≤ ((ys.length : Nat) : Int) := dec_of c3
            refine q2 (fun L hL => ?_) H7 S7.hh
            have ok2 := ok.app hx hm c
            have := len_sub ok2.nd fun w hw => hL w (ok2.rch w hw)
            rw [List.length_append] at this
            have e1 : ([aft x m] : List (List Int)).length = 1 := rfl
            omega
          · have c3 : ¬ most ≤ ((ys.length : Nat) : Int) := dec_not c3
            have lkv : kvs.length = Qs.length := by
              have := congrArg List.length ek
              rwa [List.length_map, List.length_map] at this
            refine ⟨_, rfl, _, rfl, d, _, rfl, DPut.t hd7 hp7 (Nat.lt_of_le_of_lt (show kvs.length ≤ 1000 by omega) (by decide)), ?_⟩
            have nqd : qa ≠ d := ne_of hq7 hd7 (by intro z; cases z)
            have S8 := S7.mut gd7 fd (o := .dT (putK kvs (keyL (aft x m)) (.bl true))) rfl
            have hq8 : upd H7 d (.dT (putK kvs (keyL (aft x m)) (.bl true))) qa = some (.lst ys) := by rw [upd_ne nqd]; exact hq7
            refine ⟨_, rfl, .inl ⟨rfl, _, .of hq8⟩, _, rfl, qa, _, _, rfl, rfl, hq8, Nat.lt_of_le_of_lt (show ys.length ≤ 1000 by omega) (by decide), fun H9 e9 => ?_⟩
            refine ⟨G7, Qs ++ [aft x m], _, _, _, _, rfl, S8.mut gq7 fq e9, gq7, gd7, upd_at e9, upd_else e9 upd_same (Ne.symm nqd), ?_, ?_, ok.app hx hm c, ?_, ?_⟩
            · rw [List.map_append]
              exact dy7.append (.one (.tup k7 (DaAll.ints _)))
            · rw [putK_new _ (val_none ek c), List.map_append, List.map_append, ek]
              rfl
            · rw [List.length_append]
              show ((Qs.length + 1 : Nat) : Int) ≤ most
              omega
            · rw [List.length_append]
              omega
      · rintro σ' H6 ⟨G6, Qs, kvs, ys, y7, y8, rfl, s6, gq6, gd6, hq6, hd6, dy6, ek, ok, lm, atl⟩
        rw [lt] at ok
        refine ⟨_, rfl, _, _, rfl, rfl, _, ?_, at_ + 1, G6, Qs, kvs, ys, _, _, rfl, rfl, s6, gq6, gd6, hq6, hd6, dy6, ek, ok.next, lm⟩
        omega
  · have c : ¬ ((at_ : Nat) : Int) < ((ys.length : Nat) : Int) := dec_not c
    have keys := ok.end_ (by omega)
    refine ⟨_, rfl, qa, ys, Qs, rfl, .of hq5, dy5.up s5.gh, fun h2 l hl e => ?_, fun zs Ms r H6 dz pm so n6 => ?_⟩
    · subst e
      have := ((keys []).mp hl).row mvT rng_mv.row
      have z : (rngI n).length = 0 := this.2.symm
      rw [rngI_len] at z
      have all0 : ∀ w ∈ Qs, w ∈ [([] : List Int)] := fun w hw => by
        have := ((keys w).mp hw).row mvT rng_mv.row
        rw [rngI_len, z] at this
        rw [List.eq_nil_of_length_eq_zero this.2]
        exact List.mem_singleton.mpr rfl
      have := len_sub ok.nd all0
      simp at this
      omega
    · obtain ⟨s6, gr, hr6, fr⟩ := s5.loc2 n6
      have lM := pm.length_eq
      exact q1 r (fullG G5 H6) H6 zs Ms s6.full fr (full_else hr6 rfl gr) hr6 (rows_full s6.gh (dz.up n6.same)) (.of_perm ok.nd keys pm so) (by omega)


theorem fits_mvOn {n : Int} (n0 : 0 ≤ n) (n12 : n ≤ 12) (d : PyData) : fitsB n d = mvOn n d := by
  cases d with
  | tuple ds =>
    show ((decide (ds.length ≤ 12) && mvOn ds.length (.tuple ds)) && (decide (n < 0) || decide ((ds.length : Int) = n))) = mvOn n (.tuple ds)
    rw [decide_eq_false (show ¬ n < 0 by omega), Bool.false_or]
    by_cases e : (ds.length : Int) = n
    · subst e
      rw [decide_eq_true (show ds.length ≤ 12 by omega), decide_eq_true rfl, Bool.true_and, Bool.and_true]
    · rw [decide_eq_false e, Bool.and_false]
      show false = (decide _ && _)
      rw [decide_eq_false e]
      rfl
  | _ => rfl
/-- what is due where points or told moves are refused -/
def RefW (dv : PyData) (ds : List PyData) (due : PyData) : Prop :=
  (isNum dv 0 12 = false ∧ due = .tuple [.str "BadNumber", dv, .int 0, .int 12]) ∨ ∃ n : Int, dv = .int n ∧ 0 ≤ n ∧ n ≤ 12 ∧
    ((8 < ds.length ∧ due = .tuple [.str "TooMany", .str "told", .int 8]) ∨ (ds.length ≤ 8 ∧ ((∃ i : Nat, badAt n ds i ∧ due = .tuple [.str "NotAMove", .int i]) ∨
      ∃ T : List (List Int), ds = T.map rowD ∧ AllMv n T ∧ (∀ L : List (List Int), (∀ w, Mk' n T w → w ∈ L) → 400 < L.length) ∧ due = .tuple [.str "TooMany", .str "made", .int 400])))
/-- what _law_due tells: refused, or the made moves -/
def Outc (G : Hp) (dv : PyData) (ds : List PyData) (x0 x1 : V) : Prop :=
  (∃ due, RefW dv ds due ∧ Da G x0 due ∧ x1 = .non) ∨
  ∃ (n : Int) (T L : List (List Int)) (p : Addr) (ys : List V), dv = .int n ∧ 0 ≤ n ∧ n ≤ 12 ∧ ds = T.map rowD ∧ AllMv n T ∧ T.length ≤ 8 ∧ Grp n T L ∧ L.length ≤ 400 ∧ x0 = .non ∧ x1 = .ref p ∧ G p = some (.lst ys) ∧ DaAll G ys (L.map rowD)
def spDueW (K : PySem.W.Frag) : Sp := fun vs H Q _ => ∃ (G : Hp) (v : V) (dv : PyData) (a : Addr) (xs : List V) (ds : List PyData), vs = [v, .ref a] ∧ Same G H ∧ Da G v dv ∧ HasS K H a xs ∧ DaAll G xs ds ∧ szL ds ≤ 900000 ∧ ds.length ≤ 1000 ∧
  ∀ (r : Addr) (x0 x1 : V) (G' H' : Hp), Stq G H G' H' → G' r = some (.lst [x0, x1]) → Outc G' dv ds x0 x1 → Q (.ref r) H'
theorem ok_dueW (Z : Zs mg) (D : Ds K mg) (c__law_is_whole : Cal P w K mg base "_law_is_whole" 1 ["value"] spIsWhole) (c__law_move_fits : Cal P w K mg base "_law_move_fits" 2 ["value", "points"] spFits) (c__law_group__s : Cal P w K mg base "_law_group" 2 ["points", "told", "most"] (spGroupS K)) : Cal P w K mg base "_law_due" 3 ["points", "moves"] (spDueW K) := by
  refine Def.cal D.d_law_due sc_law_due (fun vs H Q E h => ?_) (fun f cdv A outer s H vs Q E hr h => ?_)
  · obtain ⟨G, v, dv, a, xs, ds, rfl, gh, hv, hl, dx, sz, l1000, q⟩ := h
    rfl
  obtain ⟨G, v, dv, a, xs, ds, rfl, gh, hv, hl, dx, sz, l1000, q⟩ := h
  refine ⟨_, (pss_cons (ps_if (PW.pt (pw_or (pt_not (pt_val (pe_cal c__law_is_whole (hr.mono (by first | decide | omega)) (by rfl) (pa_cons (pv 0) pa_nil)))) (pw_or (pt_cmp (pc_lt (pv 0) pe_int) (nomark _)) (pw_or1 (pt_cmp (pc_gt (pv 0) pe_int) (nomark _)))))) (pss_one (ps_ret (pe_lstN (pa_cons (pe_tupN (pa_cons pe_str (pa_cons (pv 0) (pa_cons pe_int (pa_cons pe_int pa_nil))))) (pa_cons pe_non pa_nil))))) pss_nil)
      (pss_cons (ps_if (pt_cmp (pc_gt (pe_callB call_len (by rfl) Z.z_len (by decide +kernel) (pa_cons (pv 1) pa_nil)) pe_int) (nomark _)) (pss_one (ps_ret (pe_lstN (pa_cons (pe_tupN (pa_cons pe_str (pa_cons pe_str (pa_cons pe_int pa_nil)))) (pa_cons pe_non pa_nil))))) pss_nil)
      (Evl.pss_cut (ps_for PassesOwn.never rfl (pi_range1 (by rfl) Z.z_range (pa_cons (pe_callB call_len (by rfl) Z.z_len (by decide +kernel) (pa_cons (pv 1) pa_nil)) pa_nil)) (pg_name (i := 2) sc_law_due.nd rfl (Or.inl rfl)) (pss_one (ps_if (pt_not (pt_val (pe_cal c__law_move_fits (hr.mono (by first | decide | omega)) (by rfl) (pa_cons (pe_ix ix_seq (pv 1) (pv 2) (fun _ _ => rfl)) (pa_cons (pv 0) pa_nil))))) (pss_one (ps_ret (pe_lstN (pa_cons (pe_tupN (pa_cons pe_str (pa_cons (pv 2) pa_nil))) (pa_cons pe_non pa_nil))))) pss_nil)))
      (pss_cons (ps_set (i := 3) sc_law_due.nd rfl (Or.inl rfl) (pe_cal c__law_group__s (hr.mono (by first | decide | omega)) (by rfl) (pa_cons (pv 0) (pa_cons (pv 1) (pa_cons pe_int pa_nil)))))
      (pss_cons (ps_if (pt_cmpR op_isN (pv 3) pe_non (nomark _)) (pss_one (ps_ret (pe_lstN (pa_cons (pe_tupN (pa_cons pe_str (pa_cons pe_str (pa_cons pe_int pa_nil)))) (pa_cons pe_non pa_nil))))) pss_nil)
      (pss_one (ps_ret (pe_lstN (pa_cons pe_non (pa_cons (pv 3) pa_nil)))))))))), ?_⟩
  have lx := dx.length
  have refused : ∀ {due : PyData} {t r : Addr} {ts : List V} {G1 H1 H2 H3 : Hp}, Stq G H G1 H1 → New H1 t (.tup ts) H2 → New H2 r (.lst [.ref t, .non]) H3 → RefW dv ds due → (∀ G', Same G1 G' → G' t = some (.tup ts) → Da G' (.ref t) due) → Q (.ref r) H3 := fun {due t r ts G1 H1 H2 H3} s1 n2 n3 rw_ dd => by
    obtain ⟨G2, s2, g2, k2, -⟩ := s1.know2 n2
    obtain ⟨G3, s3, g3, k3, -⟩ := s2.know2 n3
    exact q r _ _ G3 H3 s3 k3 (.inl ⟨due, rw_, dd G3 (g2.trans g3) (g3 _ _ k2), rfl⟩)
  have bad0 : ∀ {H1 : Hp}, isNum dv 0 12 = false → Same H H1 → ∀ (t : Addr) (H2 : Hp), New H1 t (.tup [.str "BadNumber", v, .int 0, .int 12]) H2 → ∀ (r : Addr) (H3 : Hp), New H2 r (.lst [.ref t, .non]) H3 → Q (.ref r) H3 := fun {H1} no s1 t H2 n2 r H3 n3 =>
    refused ((Stq.refl gh).pure s1) n2 n3 (.inl ⟨no, rfl⟩) fun G' g k => .tup k (.cons (.str _) (.cons (hv.up g) (.cons (.int _) (.cons (.int _) .nil))))
  refine ⟨_, rfl, v, dv, rfl, hv.up gh, _, rfl, ?_⟩
  cases e : isI dv with
  | false =>
    have no : isNum dv 0 12 = false := by
      cases dv with
      | int i => cases e
      | _ => rfl
    refine iteT ?_
    exact ⟨_, rfl, by show 4 ≤ sizeLine; decide, fun t H2 n2 => ⟨by show 2 ≤ sizeLine; decide, fun r H3 n3 => bad0 no (Same.refl _) t H2 n2 r H3 n3⟩⟩
  | true =>
    obtain ⟨n, rfl⟩ : ∃ n, dv = .int n := by
      cases dv with
      | int i => exact ⟨i, rfl⟩
      | _ => cases e
    cases hv
    refine iteF ?_
    have nno : (n < 0 ∨ 12 < n) → isNum (.int n) 0 12 = false := fun h => by
      show (decide (0 ≤ n) && decide (n ≤ 12)) = false
      rcases h with h | h
      · rw [decide_eq_false (show ¬ 0 ≤ n by omega)]; rfl
      · rw [decide_eq_false (show ¬ n ≤ 12 by omega), Bool.and_false]
    by_cases c0 : n < 0
    · refine ⟨_, rfl, _, _, rfl, rfl, _, rfl, iteDT c0 (iteT ?_)⟩
      exact ⟨_, rfl, by show 4 ≤ sizeLine; decide, fun t H2 n2 => ⟨by show 2 ≤ sizeLine; decide, fun r H3 n3 => bad0 (nno (.inl c0)) (Same.refl _) t H2 n2 r H3 n3⟩⟩
    refine ⟨_, rfl, _, _, rfl, rfl, _, rfl, iteDF c0 ?_⟩
    by_cases c1 : 12 < n
    · refine ⟨_, rfl, _, _, rfl, rfl, _, rfl, iteDT c1 ?_⟩
      exact ⟨_, rfl, by show 4 ≤ sizeLine; decide, fun t H2 n2 => ⟨by show 2 ≤ sizeLine; decide, fun r H3 n3 => bad0 (nno (.inr c1)) (Same.refl _) t H2 n2 r H3 n3⟩⟩
    refine ⟨_, rfl, _, _, rfl, rfl, _, rfl, iteDF c1 ?_⟩
    have n0 : 0 ≤ n := by omega
    have n12 : n ≤ 12 := by omega
    refine ⟨_, rfl, _, xs.length, rfl, HasS.lenV hl, _, _, rfl, rfl, _, rfl, ite2 (fun c => ?_) (fun c => ?_)⟩
    · have c : (8 : Int) < ((xs.length : Nat) : Int) := dec_of c
      refine ⟨by show 3 ≤ sizeLine; decide, fun t H2 n2 => ⟨by show 2 ≤ sizeLine; decide, fun r H3 n3 => ?_⟩⟩
      exact refused (Stq.refl gh) n2 n3 (.inr ⟨n, rfl, n0, n12, .inl ⟨by omega, rfl⟩⟩) fun G' g k => .tup k (.cons (.str _) (.cons (.str _) (.cons (.int _) .nil)))
    have c : ¬ (8 : Int) < ((xs.length : Nat) : Int) := dec_not c
    have l8 : ds.length ≤ 8 := by omega
    refine ⟨fun σ' H' => ∃ y2 : Option V, σ' = [some (.int n), some (.ref a), y2, none] ∧ Same H H' ∧ ∀ d ∈ ds, mvOn n d = true, ?_, ?_⟩
    · refine ⟨_, rfl, _, xs.length, rfl, HasS.lenV hl, _, rfl, by omega, by omega, for_range (lo := 0) (n := ((xs.length : Nat) : Int).toNat) (fun i σ' H' => ∃ y2 : Option V, σ' = [some (.int n), some (.ref a), y2, none] ∧ Same H H' ∧ ∀ (j : Nat) d, j < i → ds[j]? = some d → mvOn n d = true) ?_ ?_ ?_⟩
      · exact ⟨_, rfl, Same.refl _, fun j d hj => absurd hj (Nat.not_lt_zero j)⟩
      · rintro i σ' H2 hi ⟨y2, rfl, s2, okd⟩
        have ilt : i < xs.length := by omega
        obtain ⟨x, hx⟩ : ∃ x, xs[i]? = some x := ⟨_, List.getElem?_eq_getElem ilt⟩
        obtain ⟨d, hd, dd⟩ := dx.get hx
        have zd := szL_get hd
        have at_ : atI xs (0 + (i : Int)) = some x := by rw [Int.zero_add]; exact atI_nat hx
        have ixs : ∀ {R : VK}, R x H2 → rIx K (.ref a) (.int (0 + (i : Int))) H2 R := fun r => (HasS.up s2 hl).len.imp (fun h => ⟨a, xs, _, x, rfl, rfl, h, at_, r⟩) fun h => .inl ⟨a, xs, _, x, rfl, rfl, h, at_, r⟩
        refine ⟨_, rfl, _, rfl, ixs ?_⟩
        refine ⟨_, rfl, G, x, d, n, rfl, gh.trans s2, dd, by omega, fun H3 s3 => ⟨_, rfl, ?_⟩⟩
        rw [fits_mvOn n0 n12]
        cases ok : mvOn n d with
        | true =>
          refine iteF ⟨_, rfl, s2.trans s3, fun j d' hj hd' => ?_⟩
          rcases Nat.lt_or_ge j i with z | z
          · exact okd j d' z hd'
          · have : j = i := by omega
            subst this
            rw [hd] at hd'
            cases hd'
            exact ok
        | false =>
          refine iteT ⟨_, rfl, by show 2 ≤ sizeLine; decide, fun t H4 n4 => ⟨by show 2 ≤ sizeLine; decide, fun r H5 n5 => ?_⟩⟩
          refine refused (due := .tuple [.str "NotAMove", .int (i : Nat)]) ((Stq.refl gh).pure (s2.trans s3)) n4 n5 (.inr ⟨n, rfl, n0, n12, .inr ⟨l8, .inl ⟨i, ⟨⟨d, hd, ok⟩, okd⟩, rfl⟩⟩⟩) fun G' g k => .tup k (.cons (.str _) (.cons ?_ .nil))
          rw [Int.zero_add]
          exact .int _
      · rintro σ' H2 ⟨y2, rfl, s2, okd⟩
        refine ⟨_, rfl, s2, fun d hd => ?_⟩
        obtain ⟨j, hj⟩ := List.getElem?_of_mem hd
        exact okd j d (by have := (List.getElem?_eq_some_iff.mp hj).1; omega) hj
    rintro σ' H2 ⟨y2, rfl, s2, okd⟩
    obtain ⟨T, rfl, mvT⟩ := all_rows okd
    rw [List.length_map] at l8 lx l1000
    refine ⟨_, rfl, _, rfl, G, a, xs, T, n, 400, rfl, gh.trans s2, n0, n12, HasS.up s2 hl, dx, mvT, by omega, by omega, by omega, fun p G3 H3 ys L s3 fp gp hp dy gM lM => ?_, fun no H3 s3 => ?_⟩
    · obtain ⟨G4, s4, g4, k4, -⟩ := (((Stq.refl gh).pure s2).trans s3).frz gp (s2.free fp) hp
      refine ⟨_, rfl, rfl, _, rfl, iteBF (by simp) ?_⟩
      refine ⟨_, rfl, by show 2 ≤ sizeLine; decide, fun r H5 n5 => ?_⟩
      obtain ⟨G5, s5, g5, k5, -⟩ := s4.know2 n5
      exact q r _ _ G5 H5 s5 k5 (.inr ⟨n, T, L, p, ys, rfl, n0, n12, rfl, mvT, by omega, gM, by omega, rfl, rfl, g5 _ _ k4, (dy.up g4).up g5⟩)
    · refine ⟨_, rfl, rfl, _, rfl, iteBT (by simp) ?_⟩
      refine ⟨by show 3 ≤ sizeLine; decide, fun t H4 n4 => ⟨by show 2 ≤ sizeLine; decide, fun r H5 n5 => ?_⟩⟩
      exact refused ((Stq.refl gh).pure (s2.trans s3)) n4 n5 (.inr ⟨n, rfl, n0, n12, .inr ⟨by rw [List.length_map]; exact l8, .inr ⟨T, rfl, mvT, fun L hL => by have := no L hL; omega, rfl⟩⟩⟩) fun G' g k => .tup k (.cons (.str _) (.cons (.str _) (.cons (.int _) .nil)))


theorem isNum_12 {n : Int} (n0 : 0 ≤ n) (n12 : n ≤ 12) : isNum (.int n) 0 12 = true := by
  show (decide (0 ≤ n) && decide (n ≤ 12)) = true
  rw [Bool.and_eq_true]
  exact ⟨decide_eq_true n0, decide_eq_true n12⟩
theorem no_badAt {n : Int} (n0 : 0 ≤ n) {T : List (List Int)} (mv : AllMv n T) {i : Nat} (b : badAt n (T.map rowD) i) : False := by
  obtain ⟨⟨d, hd, no⟩, -⟩ := b
  rw [List.getElem?_map] at hd
  obtain ⟨m, hm, rfl⟩ := Option.map_eq_some_iff.mp hd
  rw [mvOn_of n0 (mv m (List.mem_of_getElem? hm))] at no
  cases no
theorem badAt_uniq {n : Int} {ds : List PyData} {i j : Nat} (a : badAt n ds i) (b : badAt n ds j) : i = j := by
  obtain ⟨⟨d, hd, d0⟩, a2⟩ := a
  obtain ⟨⟨e, he, e0⟩, b2⟩ := b
  rcases Nat.lt_trichotomy i j with z | z | z
  · have := b2 i d z hd
    rw [d0] at this
    cases this
  · exact z
  · have := a2 j e z he
    rw [e0] at this
    cases this
/-- the errors of these classes, as the program makes them -/
structure Erc (K : PySem.W.Frag) (mg : Str → Option Value) (DB DN DT : Addr) : Prop where
  b : Es K mg 0 "BadNumber" DB
  b1 : PySem.W.findIn K (.ref DB) "value" = some none
  b2 : PySem.W.findIn K (.ref DB) "low" = some none
  b3 : PySem.W.findIn K (.ref DB) "high" = some none
  n : Es K mg 2 "NotAMove" DN
  n1 : PySem.W.findIn K (.ref DN) "index" = some none
  t : Es K mg 3 "TooMany" DT
  t1 : PySem.W.findIn K (.ref DT) "what" = some none
  t2 : PySem.W.findIn K (.ref DT) "limit" = some none
/-- what is due comes: each refusal as an error of its class -/
theorem judge_due {K : PySem.W.Frag} {mg : Str → Option Value} {G H : Hp} {v : V} {dv : PyData} {ds : List PyData} {DB DN DT : Addr} {E : XK} {x0 x1 : V} {P : Int → List (List Int) → Prop} (er : Erc K mg DB DN DT) (hv : Da G v dv) (o : Outc G dv ds x0 x1)
    (bad : ∀ (C : Addr) (fs : List (Str × V)) (due : PyData), ErrDue K mg G C fs due → RefW dv ds due → Da G x0 due → x1 = .non → Errs E C fs H)
    (good : ∀ n T, dv = .int n → 0 ≤ n → n ≤ 12 → ds = T.map rowD → AllMv n T → T.length ≤ 8 → P n T) : Judge G H v dv ds DB DN DT P E := by
  refine ⟨fun no => ?_, fun n e ev n0 n12 => ⟨fun c => ?_, fun c i b => ?_, fun c T eT mv => good n T e n0 n12 eT mv ?_⟩⟩
  · rcases o with ⟨due, rw_, d0, e1⟩ | ⟨n, T, L, p, ys, e, n0, n12, -⟩
    · refine bad DB _ due ?_ rw_ d0 e1
      rcases rw_ with ⟨-, e⟩ | ⟨n, e, n0, n12, -⟩
      · exact ⟨0, "BadNumber", er.b, .inl ⟨rfl, v, dv, 0, 12, er.b1, er.b2, er.b3, rfl, rfl, rfl, hv, e⟩⟩
      · rw [e, isNum_12 n0 n12] at no
        cases no
    · rw [e, isNum_12 n0 n12] at no
      cases no
  · subst e
    rcases o with ⟨due, rw_, d0, e1⟩ | ⟨m, T, L, p, ys, -, -, -, eT, -, l8, -⟩
    · refine bad DT _ due ?_ rw_ d0 e1
      rcases rw_ with ⟨no, -⟩ | ⟨m, e, -, -, ⟨-, e2⟩ | ⟨c2, -⟩⟩
      · rw [isNum_12 n0 n12] at no
        cases no
      · exact ⟨3, "TooMany", er.t, .inr (.inr ⟨rfl, "told", 8, er.t1, er.t2, rfl, rfl, e2⟩)⟩
      · omega
    · rw [eT, List.length_map] at c
      omega
  · subst e
    rcases o with ⟨due, rw_, d0, e1⟩ | ⟨m, T, L, p, ys, e, -, -, eT, mv, -⟩
    · refine bad DN _ due ?_ rw_ d0 e1
      rcases rw_ with ⟨no, -⟩ | ⟨m, e, -, -, ⟨c2, -⟩ | ⟨-, ⟨j, b2, e2⟩ | ⟨T, eT, mv, -⟩⟩⟩
      · rw [isNum_12 n0 n12] at no
        cases no
      · omega
      · cases e
        have := badAt_uniq b b2
        subst this
        exact ⟨2, "NotAMove", er.n, .inr (.inl ⟨rfl, _, er.n1, rfl, e2⟩)⟩
      · cases e
        subst eT
        exact (no_badAt n0 mv b).elim
    · cases e
      subst eT
      exact (no_badAt n0 mv b).elim
  · rw [eT, List.length_map] at c
    exact c


theorem sz_due {dv : PyData} {ds : List PyData} {due : PyData} (z : szD dv ≤ 10) (r : RefW dv ds due) : szD due ≤ 100000 := by
  have w1 : szD (.str "BadNumber") ≤ 100 := by decide
  have w2 : szD (.str "TooMany") ≤ 100 := by decide
  have w3 : szD (.str "told") ≤ 100 := by decide
  have w4 : szD (.str "made") ≤ 100 := by decide
  have w5 : szD (.str "NotAMove") ≤ 100 := by decide
  rcases r with ⟨-, rfl⟩ | ⟨n, -, -, -, ⟨-, rfl⟩ | ⟨-, ⟨i, -, rfl⟩ | ⟨T, -, -, -, rfl⟩⟩⟩
  · show 1 + (szD (.str "BadNumber") + (szD dv + (1 + (1 + 0)))) ≤ _
    omega
  · show 1 + (szD (.str "TooMany") + (szD (.str "told") + (1 + 0))) ≤ _
    omega
  · show 1 + (szD (.str "NotAMove") + (1 + 0)) ≤ _
    omega
  · show 1 + (szD (.str "TooMany") + (szD (.str "made") + (1 + 0))) ≤ _
    omega
theorem same_ok {v u : V} {d : PyData} {H : Hp} {Q : VK} {E : XK} (hv : Da H v d) (hu : Da H u d) (sz : szD d ≤ 1900000) (q : ∀ H', Same H H' → Q (.bl true) H') : spSame [v, u] H Q E :=
  ⟨H, v, u, d, d, rfl, Same.refl _, hv, hu, sz, sz, fun H' s => by rw [sameD_self d v hv]; exact q H' s⟩
def spMadeW (K : PySem.W.Frag) : Sp := fun vs H Q _ => ∃ (G : Hp) (v : V) (dv : PyData) (a r : Addr) (xs : List V) (ds : List PyData) (x0 x1 : V), vs = [v, .ref a, .ref r] ∧ Same G H ∧ Da G v dv ∧ HasS K H a xs ∧ DaAll G xs ds ∧ szL ds ≤ 900000 ∧ szD dv ≤ 10 ∧ G r = some (.lst [x0, x1]) ∧ Outc G dv ds x0 x1 ∧
  ∀ (G' H' : Hp), Stq G H G' H' → Q (.bl true) H'
theorem ok_madeW {DB DN DT : Addr} (Z : Zs mg) (D : Ds K mg) (er : Erc K mg DB DN DT) (c_make_all : CalX P w K mg base "make_all" 6 ["points", "moves"] (spMakeAll K DB DN DT)) (c__law_same : Cal P w K mg base "_law_same" 2 ["actual", "due"] spSame) (c__law_refusal_h : CalE P w K mg base "_law_refusal" 3 ["error", "due"] (spRef3 K mg)) : Cal P w K mg base "_law_made" 7 ["points", "moves", "due"] (spMadeW K) := by
  obtain ⟨CH, g_HeldorderError, ex0⟩ := er.b.hH
  refine Def.cal D.d_law_made sc_law_made (fun vs H Q E h => ?_) (fun f cdv A outer s H vs Q E hr h => ?_)
  · obtain ⟨G, v, dv, a, r, xs, ds, x0, x1, rfl, gh, hv, hl, dx, sz, zv, hr2, out, q⟩ := h
    rfl
  obtain ⟨G, v, dv, a, r, xs, ds, x0, x1, rfl, gh, hv, hl, dx, sz, zv, hr2, out, q⟩ := h
  refine ⟨_, (pss_cons (ps_try_E (i := 4) rfl rfl sc_law_made.nd rfl rfl ⟨rfl, by decide, .inl g_HeldorderError⟩ nothing_taken (fun Wx pn xe tk po => (pss_one (ps_set (i := 3) sc_law_made.nd rfl (Or.inl rfl) (pe_calX c_make_all tk (hr.mono (by first | decide | omega)) (by rfl) (pa_cons (pv 0) (pa_cons (pv 1) pa_nil)))))) (fun a oe cls d pn hz hf => (pss_one (ps_ret (pe_calE c__law_refusal_h (room_suite (hr.mono (by first | decide | omega)) _) (suite_hot hz hf) List.mem_cons_self (by rfl) (pa_cons (pv 4) (pa_cons (pe_ix (ix_listK (K := K) rfl) (pv 2) pe_int (fun _ _ => rfl)) pa_nil)))))))
      (pss_one (ps_ret (pe_and (pe_cmpR op_isN (pe_ix (ix_listK (K := K) rfl) (pv 2) pe_int (fun _ _ => rfl)) pe_non (nomark _)) (pe_one (pe_cal c__law_same (hr.mono (by first | decide | omega)) (by rfl) (pa_cons (pv 3) (pa_cons (pe_ix ix_list (pv 2) pe_int (fun _ _ => rfl)) pa_nil)))))))), ?_⟩
  refine ⟨_, rfl, _, rfl, G, v, dv, a, xs, ds, rfl, gh, hv, hl, dx, sz, judge_due er hv out (fun C fs due is rw_ d0 e1 d1 H1 s1 h1 => ?_) fun n T e n0 n12 eT mv l8 => ?_⟩
  · obtain ⟨k, nm, es, -⟩ := id is
    obtain ⟨CH', g', ex1⟩ := es.hH
    obtain rfl : CH = CH' := by
      rw [g_HeldorderError] at g'
      cases g'
      rfl
    refine ⟨true, ex1, fun _ a1 ha1 => fun oe1 hz1 hf1 => ?_, fun z => nomatch z⟩
    have g1 := gh.trans s1
    exact ⟨_, rfl, _, rfl, r, _, 0, _, rfl, rfl, .of (g1 _ _ hr2), rfl, G, C, d1, fs, x0, due, rfl, g1, suite_err hz1 hf1 h1, is, d0, sz_due zv rw_, fun H2 s2 => q G H2 ((Stq.refl gh).pure (s1.trans s2))⟩
  · refine ⟨fun p G1 H1 ys L s1 fp gp hp dy gM lM => ?_, fun no d1 H1 s1 h1 => ?_⟩
    · rcases out with ⟨due, rw_, d0, e1⟩ | ⟨m, T2, L2, p2, ys2, e2, -, -, eT2, -, -, gM2, lM2, rfl, rfl, kp2, dL2⟩
      · exfalso
        subst e eT
        rcases rw_ with ⟨no, -⟩ | ⟨m, em, -, -, ⟨c, -⟩ | ⟨-, ⟨i, b, -⟩ | ⟨T2, eT2, -, no, -⟩⟩⟩
        · rw [isNum_12 n0 n12] at no
          cases no
        · rw [List.length_map] at c
          omega
        · cases em
          exact no_badAt n0 mv b
        · cases em
          have := rows_inj eT2
          subst this
          have := no L fun w hw => (gM.mem w).mpr hw
          omega
      · subst e eT
        cases e2
        have := rows_inj eT2
        subst this
        have := gM.uniq gM2
        subst this
        have mvL : AllMv n L := fun w hw => made_mv n0 mv ((gM.mem w).mp hw)
        have zL := sz_rows n12 mvL
        have szL_ : szD (.list (L.map rowD)) ≤ 1900000 := by show 1 + szL (L.map rowD) ≤ _; omega
        have hr1 := s1.gh _ _ (s1.gg _ _ hr2)
        refine ⟨_, rfl, r, _, 0, _, rfl, rfl, .of hr1, rfl, rfl, true, rfl, iteT ?_⟩
        refine ⟨_, rfl, _, rfl, r, _, 1, _, rfl, rfl, .of hr1, rfl, ?_⟩
        dsimp only [tNil]
        exact same_ok (.lst hp (dy.up s1.gh)) (.lst (s1.gh _ _ (s1.gg _ _ kp2)) ((dL2.up s1.gg).up s1.gh)) szL_ fun H2 s2 => q G1 H2 (s1.pure s2)
    · rcases out with ⟨due, rw_, d0, e1⟩ | ⟨m, T2, L2, p2, ys2, e2, -, -, eT2, -, -, gM2, lM2, -⟩
      · subst e eT
        have is : ErrDue K mg G DT [(("limit" : Str), .int 400), (("what" : Str), .str "made")] due := by
          rcases rw_ with ⟨c, -⟩ | ⟨m, em, -, -, ⟨c, -⟩ | ⟨-, ⟨i, b, -⟩ | ⟨T2, eT2, -, -, e3⟩⟩⟩
          · rw [isNum_12 n0 n12] at c
            cases c
          · rw [List.length_map] at c
            omega
          · cases em
            exact (no_badAt n0 mv b).elim
          · exact ⟨3, "TooMany", er.t, .inr (.inr ⟨rfl, "made", 400, er.t1, er.t2, rfl, rfl, e3⟩)⟩
        obtain ⟨CH', g', ex1⟩ := er.t.hH
        obtain rfl : CH = CH' := by
          rw [g_HeldorderError] at g'
          cases g'
          rfl
        refine ⟨true, ex1, fun _ a1 ha1 => fun oe1 hz1 hf1 => ?_, fun z => nomatch z⟩
        have g1 := gh.trans s1
        exact ⟨_, rfl, _, rfl, r, _, 0, _, rfl, rfl, .of (g1 _ _ hr2), rfl, G, DT, d1, _, x0, due, rfl, g1, suite_err hz1 hf1 h1, is, d0, sz_due zv rw_, fun H2 s2 => q G H2 ((Stq.refl gh).pure (s1.trans s2))⟩
      · exfalso
        subst e eT
        cases e2
        have := rows_inj eT2
        subst this
        have := no L2 fun w hw => (gM2.mem w).mpr hw
        omega


def spWorldW (K : PySem.W.Frag) : Sp := fun vs H Q _ => ∃ (G : Hp) (v : V) (dv : PyData) (a r : Addr) (xs : List V) (ds : List PyData) (x0 x1 : V), vs = [v, .ref a, .ref r] ∧ Same G H ∧ Da G v dv ∧ HasS K H a xs ∧ DaAll G xs ds ∧ szL ds ≤ 900000 ∧ szD dv ≤ 10 ∧ G r = some (.lst [x0, x1]) ∧ Outc G dv ds x0 x1 ∧
  ∀ (G' H' : Hp), Stq G H G' H' → Q (.bl true) H'
theorem ok_worldW {CW DB DN DT : Addr} (Z : Zs mg) (D : Ds K mg) (W : Dw K mg CW) (er : Erc K mg DB DN DT) (c_World___init__ : CalM P w K mg base CW "__init__" 7 ["self", "points", "moves"] (spInit K CW DB DN DT)) (c_World_points : CalP P w K mg base CW "points" 1 ["self"] (spPoints CW)) (c_World_told : CalP P w K mg base CW "told" 1 ["self"] (spTold CW)) (c_World___len__ : CalM P w K mg base CW "__len__" 1 ["self"] (spLenW CW)) (c__law_same : Cal P w K mg base "_law_same" 2 ["actual", "due"] spSame) (c__law_refusal_h : CalE P w K mg base "_law_refusal" 3 ["error", "due"] (spRef3 K mg)) : Cal P w K mg base "_law_world_made" 9 ["points", "moves", "due"] (spWorldW K) := by
  obtain ⟨CH, g_HeldorderError, ex0⟩ := er.b.hH
  refine Def.cal D.d_law_world_made sc_law_world_made (fun vs H Q E h => ?_) (fun f cdv A outer s H vs Q E hr h => ?_)
  · obtain ⟨G, v, dv, a, r, xs, ds, x0, x1, rfl, gh, hv, hl, dx, sz, zv, hr2, out, q⟩ := h
    rfl
  obtain ⟨G, v, dv, a, r, xs, ds, x0, x1, rfl, gh, hv, hl, dx, sz, zv, hr2, out, q⟩ := h
  refine ⟨_, (pss_cons (ps_try_E (i := 4) rfl rfl sc_law_world_made.nd rfl rfl ⟨rfl, by decide, .inl g_HeldorderError⟩ nothing_taken (fun Wx pn xe tk po => (pss_one (ps_set (i := 3) sc_law_world_made.nd rfl (Or.inl rfl) (pe_makeX W.wc c_World___init__ tk (hr.mono (by first | decide | omega)) (by rfl) (pa_cons (pv 0) (pa_cons (pv 1) pa_nil)))))) (fun a oe cls d pn hz hf => (pss_one (ps_ret (pe_calE c__law_refusal_h (room_suite (hr.mono (by first | decide | omega)) _) (suite_hot hz hf) List.mem_cons_self (by rfl) (pa_cons (pv 4) (pa_cons (pe_ix (ix_listK (K := K) rfl) (pv 2) pe_int (fun _ _ => rfl)) pa_nil)))))))
      (pss_cons (ps_if (PW.pt (pw_or (pt_cmpR op_notN (pe_ix (ix_listK (K := K) rfl) (pv 2) pe_int (fun _ _ => rfl)) pe_non (nomark _)) (pw_or (pt_not (pt_val (pe_cal c__law_same (hr.mono (by first | decide | omega)) (by rfl) (pa_cons (pe_propQ W.wc c_World_points (hr.mono (by first | decide | omega)) (pv 3)) (pa_cons (pv 0) pa_nil))))) (pw_or1 (pt_not (pt_val (pe_cal c__law_same (hr.mono (by first | decide | omega)) (by rfl) (pa_cons (pe_propQ W.wc c_World_told (hr.mono (by first | decide | omega)) (pv 3)) (pa_cons (pe_callTy call_listN (by rfl) Z.z_list (by decide +kernel) (pa_cons (pv 1) pa_nil)) pa_nil))))))))) (pss_one (ps_ret pe_bl)) pss_nil)
      (pss_one (ps_ret (pe_cal c__law_same (hr.mono (by first | decide | omega)) (by rfl) (pa_cons (pe_callB (call_lenW c_World___len__ (hr.mono (by first | decide | omega))) (by rfl) Z.z_len (by decide +kernel) (pa_cons (pv 3) pa_nil)) (pa_cons (pe_callB call_len (by rfl) Z.z_len (by decide +kernel) (pa_cons (pe_ix ix_list (pv 2) pe_int (fun _ _ => rfl)) pa_nil)) pa_nil))))))), ?_⟩
  refine ⟨_, rfl, _, rfl, fun o d fo fd ne => ?_⟩
  have n1 : New H d (.own o) (upd H d (.own o)) := ⟨fd, rfl⟩
  have fo1 : (upd H d (.own o)) o = none := by rw [upd_ne (Ne.symm ne)]; exact fo
  have n2 : New (upd H d (.own o)) o (.ins CW d []) (upd (upd H d (.own o)) o (.ins CW d [])) := ⟨fo1, rfl⟩
  obtain ⟨s1, -, -, -⟩ := (Stq.refl gh).loc2 n1
  obtain ⟨s2, go, ho, -⟩ := s1.loc2 n2
  refine ⟨G, o, d, v, dv, a, xs, ds, rfl, s2.gh, go, ho, hv, HasS.up s2.hh hl, dx, sz, judge_due er hv out (fun C fs due is rw_ d0 e1 d1 H1 t1 h1 => ?_) fun n T e n0 n12 eT mv l8 => ?_⟩
  · obtain ⟨k, nm, es, -⟩ := id is
    obtain ⟨CH', g', ex1⟩ := es.hH
    obtain rfl : CH = CH' := by
      rw [g_HeldorderError] at g'
      cases g'
      rfl
    refine ⟨true, ex1, fun _ a1 ha1 => fun oe1 hz1 hf1 => ?_, fun z => nomatch z⟩
    have g1 := s2.gh.trans t1
    exact ⟨_, rfl, _, rfl, r, _, 0, _, rfl, rfl, .of (g1 _ _ hr2), rfl, G, C, d1, fs, x0, due, rfl, g1, suite_err hz1 hf1 h1, is, d0, sz_due zv rw_, fun H2 s3 => q G H2 (s2.pure (t1.trans s3))⟩
  · refine ⟨fun G1 H1 P ml tl ms ts M gx' hx' hm dM ht dt ok => ?_, fun no d1 H1 t1 h1 => ?_⟩
    · have S := s2.stp P fo
      obtain ⟨G2, S2, g2, kx, -⟩ := S.frz gx' fo hx'
      have wat : WAt CW G2 o n T M := ⟨d, ml, tl, ms, ts, kx, g2 _ _ hm, dM.up g2, g2 _ _ ht, dt.up g2⟩
      rcases out with ⟨due, rw_, d0, e1⟩ | ⟨m, T2, L2, p2, ys2, e2, -, -, eT2, -, -, gM2, lM2, rfl, rfl, kp2, dL2⟩
      · exfalso
        subst e eT
        rcases rw_ with ⟨no, -⟩ | ⟨m, em, -, -, ⟨c, -⟩ | ⟨-, ⟨i, b, -⟩ | ⟨T2, eT2, -, no, -⟩⟩⟩
        · rw [isNum_12 n0 n12] at no
          cases no
        · rw [List.length_map] at c
          omega
        · cases em
          exact no_badAt n0 mv b
        · cases em
          have := rows_inj eT2
          subst this
          have := no M fun w hw => (ok.grp.mem w).mpr hw
          have := ok.lL
          omega
      · subst e eT
        cases e2
        have := rows_inj eT2
        subst this
        have := ok.grp.uniq gM2
        subst this
        cases hv
        have hr1 := S2.gh _ _ (S2.gg _ _ hr2)
        have hx2 := S2.gh _ _ kx
        refine ⟨rfl, ?_⟩
        refine ⟨_, rfl, r, _, 0, _, rfl, rfl, .of hr1, rfl, rfl, _, rfl, iteBF (by simp) ?_⟩
        refine ⟨_, rfl, o, d, _, rfl, hx2, G2, o, n, T, M, rfl, S2.gh, wat, _, rfl, ?_⟩
        dsimp only [tNil]
        refine same_ok (.int n) (.int n) (by show 1 ≤ 1900000; decide) fun H3 s3 => ⟨_, rfl, iteBF rfl ?_⟩
        have S3 := S2.pure s3
        refine ⟨_, rfl, o, d, _, rfl, S3.gh _ _ kx, G2, o, n, T, M, rfl, S3.gh, wat, fun pk ws H4 dw n4 => ?_⟩
        obtain ⟨S4, -, hk4, -⟩ := S3.loc2 n4
        refine ⟨_, rfl, a, _, rfl, (HasS.up S4.hh hl).len, fun pl H5 n5 => ?_⟩
        obtain ⟨S5, -, hl5, -⟩ := S4.loc2 n5
        have mvT : AllMv n T := mv
        have zT := sz_rows n12 mvT
        have lT := ok.lT
        have szT : szD (.list (T.map rowD)) ≤ 1900000 := by show 1 + szL (T.map rowD) ≤ _; omega
        dsimp only [tNil]
        refine same_ok (.lst (n5.else hk4) (dw.up S5.gh)) (.lst hl5 ((dx.up S2.gg).up S5.gh)) szT fun H6 s6 => ⟨_, rfl, iteBF rfl ?_⟩
        have S6 := S5.pure s6
        have lM := ok.lL
        have ly2 := dL2.length
        rw [List.length_map] at ly2
        refine ⟨_, rfl, o, d, _, rfl, S6.gh _ _ kx, G2, o, n, T, M, rfl, S6.gh, wat, ?_⟩
        refine ⟨_, rfl, by omega, by omega, ?_⟩
        refine ⟨_, rfl, r, _, 1, _, rfl, rfl, .of (S6.gh _ _ (S6.gg _ _ hr2)), rfl, _, ys2.length, rfl, .inl ⟨ys2, .of (S6.gh _ _ (S6.gg _ _ kp2)), rfl⟩, ?_⟩
        rw [ly2]
        dsimp only [tNil]
        exact same_ok (.int _) (.int _) (by show 1 ≤ 1900000; decide) fun H7 s7 => q G2 H7 (S6.pure s7)
    · rcases out with ⟨due, rw_, d0, e1⟩ | ⟨m, T2, L2, p2, ys2, e2, -, -, eT2, -, -, gM2, lM2, -⟩
      · subst e eT
        have is : ErrDue K mg G DT [(("limit" : Str), .int 400), (("what" : Str), .str "made")] due := by
          rcases rw_ with ⟨c, -⟩ | ⟨m, em, -, -, ⟨c, -⟩ | ⟨-, ⟨i, b, -⟩ | ⟨T2, eT2, -, -, e3⟩⟩⟩
          · rw [isNum_12 n0 n12] at c
            cases c
          · rw [List.length_map] at c
            omega
          · cases em
            exact (no_badAt n0 mv b).elim
          · exact ⟨3, "TooMany", er.t, .inr (.inr ⟨rfl, "made", 400, er.t1, er.t2, rfl, rfl, e3⟩)⟩
        obtain ⟨CH', g', ex1⟩ := er.t.hH
        obtain rfl : CH = CH' := by
          rw [g_HeldorderError] at g'
          cases g'
          rfl
        refine ⟨true, ex1, fun _ a1 ha1 => fun oe1 hz1 hf1 => ?_, fun z => nomatch z⟩
        have g1 := s2.gh.trans t1
        exact ⟨_, rfl, _, rfl, r, _, 0, _, rfl, rfl, .of (g1 _ _ hr2), rfl, G, DT, d1, _, x0, due, rfl, g1, suite_err hz1 hf1 h1, is, d0, sz_due zv rw_, fun H2 s3 => q G H2 (s2.pure (t1.trans s3))⟩
      · exfalso
        subst e eT
        cases e2
        have := rows_inj eT2
        subst this
        have := no L2 fun w hw => (gM2.mem w).mpr hw
        omega


theorem Outc.up {G G' : Hp} {dv : PyData} {ds : List PyData} {x0 x1 : V} (o : Outc G dv ds x0 x1) (g : Same G G') : Outc G' dv ds x0 x1 := by
  rcases o with ⟨due, r, d, e⟩ | ⟨n, T, L, p, ys, a1, a2, a3, a4, a5, a6, a7, a8, a9, b1, b2, b3⟩
  · exact .inl ⟨due, r, d.up g, e⟩
  · exact .inr ⟨n, T, L, p, ys, a1, a2, a3, a4, a5, a6, a7, a8, a9, b1, g _ _ b2, b3.up g⟩
/-- the points and the told moves are judged as they are due -/
def spFairW (K : PySem.W.Frag) : Sp := fun vs H Q _ => ∃ (v : V) (dv dm : PyData) (a : Addr) (xs : List V) (ds : List PyData), vs = [v, .ref a] ∧ Da H v dv ∧ HasS K H a xs ∧ DaAll H xs ds ∧ Da H (.ref a) dm ∧ szL ds ≤ 100000 ∧ szD dm ≤ 100000 ∧ ds.length ≤ 1000 ∧ szD dv ≤ 10 ∧ ∀ H', Same H H' → Q (.bl true) H'
theorem ok_fairW (Z : Zs mg) (D : Ds K mg) (c__law_same : Cal P w K mg base "_law_same" 2 ["actual", "due"] spSame) (c__law_frozen : Cal P w K mg base "_law_frozen" 9 ["value", "deep"] (spFrozen 9)) (c__law_due : Cal P w K mg base "_law_due" 3 ["points", "moves"] (spDueW K)) (c__law_made : Cal P w K mg base "_law_made" 7 ["points", "moves", "due"] (spMadeW K)) (c__law_world_made : Cal P w K mg base "_law_world_made" 9 ["points", "moves", "due"] (spWorldW K)) : Cal P w K mg base "_law_fair" 10 ["points", "moves"] (spFairW K) := by
  refine Def.cal D.d_law_fair sc_law_fair (fun vs H Q E h => ?_) (fun f cdv A outer s H vs Q E hr h => ?_)
  · obtain ⟨v, dv, dm, a, xs, ds, rfl, hv, hl, dx, hm, sz, zm, l1000, zv, q⟩ := h
    rfl
  obtain ⟨v, dv, dm, a, xs, ds, rfl, hv, hl, dx, hm, sz, zm, l1000, zv, q⟩ := h
  refine ⟨_, (pss_cons (ps_set (i := 2) sc_law_fair.nd rfl (Or.inl rfl) (pe_cal c__law_frozen (hr.mono (by first | decide | omega)) (by rfl) (pa_cons (pv 1) (pa_cons pe_int pa_nil))))
      (pss_cons (ps_set (i := 3) sc_law_fair.nd rfl (Or.inl rfl) (pe_cal c__law_due (hr.mono (by first | decide | omega)) (by rfl) (pa_cons (pv 0) (pa_cons (pv 1) pa_nil))))
      (pss_cons (ps_if (PW.pt (pw_or (pt_not (pt_val (pe_cal c__law_made (hr.mono (by first | decide | omega)) (by rfl) (pa_cons (pv 0) (pa_cons (pv 1) (pa_cons (pv 3) pa_nil)))))) (pw_or1 (pt_not (pt_val (pe_cal c__law_world_made (hr.mono (by first | decide | omega)) (by rfl) (pa_cons (pv 0) (pa_cons (pv 1) (pa_cons (pv 3) pa_nil))))))))) (pss_one (ps_ret pe_bl)) pss_nil)
      (pss_one (ps_ret (pe_cal c__law_same (hr.mono (by first | decide | omega)) (by rfl) (pa_cons (pe_cal c__law_frozen (hr.mono (by first | decide | omega)) (by rfl) (pa_cons (pv 1) (pa_cons pe_int pa_nil))) (pa_cons (pv 2) pa_nil)))))))), ?_⟩
  refine ⟨_, rfl, H, .ref a, dm, 8, rfl, Same.refl _, hm, by omega, by omega, by omega, fun b G1 H1 s1 d1 => ?_⟩
  refine ⟨_, rfl, _, rfl, G1, v, dv, a, xs, ds, rfl, s1.gh, hv.up s1.gg, HasS.up s1.hh hl, dx.up s1.gg, by omega, l1000, fun r x0 x1 G2 H2 s2 kr out => ?_⟩
  have S2 := s1.trans s2
  refine ⟨_, rfl, _, rfl, _, rfl, G2, v, dv, a, r, xs, ds, x0, x1, rfl, S2.gh, hv.up S2.gg, HasS.up S2.hh hl, dx.up S2.gg, by omega, zv, kr, out, fun G3 H3 s3 => ⟨_, rfl, iteBF rfl ?_⟩⟩
  have S3 := S2.trans s3
  refine ⟨_, rfl, _, rfl, _, rfl, G3, v, dv, a, r, xs, ds, x0, x1, rfl, S3.gh, hv.up S3.gg, HasS.up S3.hh hl, dx.up S3.gg, by omega, zv, s3.gg _ _ kr, out.up s3.gg, fun G4 H4 s4 => ⟨_, rfl, iteBF rfl ?_⟩⟩
  have S4 := S3.trans s4
  refine ⟨_, rfl, G4, .ref a, dm, 8, rfl, S4.gh, hm.up S4.gg, by omega, by omega, by omega, fun c G5 H5 s5 d5 => ?_⟩
  have z8 := frz_sz 8 dm
  refine ⟨_, rfl, ?_⟩
  dsimp only [tNil]
  refine same_ok (d5.up s5.gh) (((((d1.up s2.gg).up s3.gg).up s4.gg).up s5.gg).up s5.gh) (by show szD (frz 8 dm) ≤ 1900000; omega) fun H6 s6 => ?_
  exact q H6 ((S4.trans s5).hh.trans s6)


def limW0 : List (List Int) := [[0, 2, 4, 1, 3, 5, 6, 7, 8, 9], [1, 2, 3, 4, 0, 5, 6, 7, 8, 9], [0, 1, 2, 3, 4, 5, 7, 9, 6, 8], [0, 1, 2, 3, 4, 6, 7, 8, 9, 5]]
theorem limW0_mv : AllMv 10 limW0 := (AllMv.cons' (by unfold IsMv; decide +kernel) (AllMv.cons' (by unfold IsMv; decide +kernel) (AllMv.cons' (by unfold IsMv; decide +kernel) (AllMv.cons' (by unfold IsMv; decide +kernel) AllMv.nil'))))
def limW1 : List (List Int) := [[1, 0, 2, 3, 4, 5, 6, 7, 8, 9, 10], [0, 2, 1, 3, 4, 5, 6, 7, 8, 9, 10], [0, 1, 2, 4, 3, 5, 6, 7, 8, 9, 10], [0, 1, 2, 3, 5, 4, 6, 7, 8, 9, 10], [0, 1, 2, 3, 4, 5, 7, 6, 8, 9, 10], [0, 1, 2, 3, 4, 5, 6, 8, 7, 9, 10], [0, 1, 2, 3, 4, 5, 6, 7, 8, 10, 9]]
theorem limW1_mv : AllMv 11 limW1 := (AllMv.cons' (by unfold IsMv; decide +kernel) (AllMv.cons' (by unfold IsMv; decide +kernel) (AllMv.cons' (by unfold IsMv; decide +kernel) (AllMv.cons' (by unfold IsMv; decide +kernel) (AllMv.cons' (by unfold IsMv; decide +kernel) (AllMv.cons' (by unfold IsMv; decide +kernel) (AllMv.cons' (by unfold IsMv; decide +kernel) AllMv.nil')))))))
def limW2 : List (List Int) := [[1, 2, 3, 4, 5, 6, 0, 7, 8, 9, 10, 11], [0, 1, 2, 3, 4, 5, 6, 8, 9, 7, 10, 11], [0, 1, 2, 3, 4, 5, 6, 8, 9, 10, 11, 7]]
theorem limW2_mv : AllMv 12 limW2 := (AllMv.cons' (by unfold IsMv; decide +kernel) (AllMv.cons' (by unfold IsMv; decide +kernel) (AllMv.cons' (by unfold IsMv; decide +kernel) AllMv.nil')))
def spLimit3 : Sp := fun vs H Q _ => ∃ (G : Hp) (k : Int), vs = [.int k] ∧ 0 ≤ k ∧ k < 3 ∧ Same G H ∧ ∀ (p b : Addr) (n m : Int) (T : List (List Int)) (ts : List V) (G' H' : Hp), Stq G H G' H' → H p = none → H b = none → G' p = none → G' b = none → b ≠ p → H' p = some (.lst [.int n, .ref b, .int m]) → H' b = some (.lst ts) → DaAll G' ts (T.map rowD) → AllMv n T → 0 ≤ n → n ≤ 12 → T.length ≤ 8 → Q (.ref p) H'
theorem ok_limit3 (Z : Zs mg) (D : Ds K mg) : Cal P w K mg base "_law_limit_world" 1 ["which"] spLimit3 := by
  refine Def.cal D.d_law_limit_world sc_law_limit_world (fun vs H Q E h => ?_) (fun f cdv A outer s H vs Q E hr h => ?_)
  · obtain ⟨G, k, rfl, k0, k3, gh, q⟩ := h
    rfl
  obtain ⟨G, k, rfl, k0, k3, gh, q⟩ := h
  refine ⟨_, (pss_cons (ps_if (pt_cmp (pc_eqI (pv 0) pe_int) (nomark _)) (pss_one (ps_ret (pe_lstN (pa_cons pe_int (pa_cons (pe_lstN (pa_cons (pe_tupN (pa_cons pe_int (pa_cons pe_int (pa_cons pe_int (pa_cons pe_int (pa_cons pe_int (pa_cons pe_int (pa_cons pe_int (pa_cons pe_int (pa_cons pe_int (pa_cons pe_int pa_nil))))))))))) (pa_cons (pe_tupN (pa_cons pe_int (pa_cons pe_int (pa_cons pe_int (pa_cons pe_int (pa_cons pe_int (pa_cons pe_int (pa_cons pe_int (pa_cons pe_int (pa_cons pe_int (pa_cons pe_int pa_nil))))))))))) (pa_cons (pe_tupN (pa_cons pe_int (pa_cons pe_int (pa_cons pe_int (pa_cons pe_int (pa_cons pe_int (pa_cons pe_int (pa_cons pe_int (pa_cons pe_int (pa_cons pe_int (pa_cons pe_int pa_nil))))))))))) (pa_cons (pe_tupN (pa_cons pe_int (pa_cons pe_int (pa_cons pe_int (pa_cons pe_int (pa_cons pe_int (pa_cons pe_int (pa_cons pe_int (pa_cons pe_int (pa_cons pe_int (pa_cons pe_int pa_nil))))))))))) pa_nil))))) (pa_cons pe_int pa_nil)))))) pss_nil)
      (pss_cons (ps_if (pt_cmp (pc_eqI (pv 0) pe_int) (nomark _)) (pss_one (ps_ret (pe_lstN (pa_cons pe_int (pa_cons (pe_lstN (pa_cons (pe_tupN (pa_cons pe_int (pa_cons pe_int (pa_cons pe_int (pa_cons pe_int (pa_cons pe_int (pa_cons pe_int (pa_cons pe_int (pa_cons pe_int (pa_cons pe_int (pa_cons pe_int (pa_cons pe_int pa_nil)))))))))))) (pa_cons (pe_tupN (pa_cons pe_int (pa_cons pe_int (pa_cons pe_int (pa_cons pe_int (pa_cons pe_int (pa_cons pe_int (pa_cons pe_int (pa_cons pe_int (pa_cons pe_int (pa_cons pe_int (pa_cons pe_int pa_nil)))))))))))) (pa_cons (pe_tupN (pa_cons pe_int (pa_cons pe_int (pa_cons pe_int (pa_cons pe_int (pa_cons pe_int (pa_cons pe_int (pa_cons pe_int (pa_cons pe_int (pa_cons pe_int (pa_cons pe_int (pa_cons pe_int pa_nil)))))))))))) (pa_cons (pe_tupN (pa_cons pe_int (pa_cons pe_int (pa_cons pe_int (pa_cons pe_int (pa_cons pe_int (pa_cons pe_int (pa_cons pe_int (pa_cons pe_int (pa_cons pe_int (pa_cons pe_int (pa_cons pe_int pa_nil)))))))))))) (pa_cons (pe_tupN (pa_cons pe_int (pa_cons pe_int (pa_cons pe_int (pa_cons pe_int (pa_cons pe_int (pa_cons pe_int (pa_cons pe_int (pa_cons pe_int (pa_cons pe_int (pa_cons pe_int (pa_cons pe_int pa_nil)))))))))))) (pa_cons (pe_tupN (pa_cons pe_int (pa_cons pe_int (pa_cons pe_int (pa_cons pe_int (pa_cons pe_int (pa_cons pe_int (pa_cons pe_int (pa_cons pe_int (pa_cons pe_int (pa_cons pe_int (pa_cons pe_int pa_nil)))))))))))) (pa_cons (pe_tupN (pa_cons pe_int (pa_cons pe_int (pa_cons pe_int (pa_cons pe_int (pa_cons pe_int (pa_cons pe_int (pa_cons pe_int (pa_cons pe_int (pa_cons pe_int (pa_cons pe_int (pa_cons pe_int pa_nil)))))))))))) pa_nil)))))))) (pa_cons pe_int pa_nil)))))) pss_nil)
      (pss_cons (ps_if (pt_cmp (pc_eqI (pv 0) pe_int) (nomark _)) (pss_one (ps_ret (pe_lstN (pa_cons pe_int (pa_cons (pe_lstN (pa_cons (pe_tupN (pa_cons pe_int (pa_cons pe_int (pa_cons pe_int (pa_cons pe_int (pa_cons pe_int (pa_cons pe_int (pa_cons pe_int (pa_cons pe_int (pa_cons pe_int (pa_cons pe_int (pa_cons pe_int (pa_cons pe_int pa_nil))))))))))))) (pa_cons (pe_tupN (pa_cons pe_int (pa_cons pe_int (pa_cons pe_int (pa_cons pe_int (pa_cons pe_int (pa_cons pe_int (pa_cons pe_int (pa_cons pe_int (pa_cons pe_int (pa_cons pe_int (pa_cons pe_int (pa_cons pe_int pa_nil))))))))))))) (pa_cons (pe_tupN (pa_cons pe_int (pa_cons pe_int (pa_cons pe_int (pa_cons pe_int (pa_cons pe_int (pa_cons pe_int (pa_cons pe_int (pa_cons pe_int (pa_cons pe_int (pa_cons pe_int (pa_cons pe_int (pa_cons pe_int pa_nil))))))))))))) pa_nil)))) (pa_cons pe_int pa_nil)))))) pss_nil)
      (pss_one (ps_ret (pe_lstN (pa_cons pe_int (pa_cons (pe_lstN (pa_cons (pe_tupN (pa_cons pe_int (pa_cons pe_int (pa_cons pe_int (pa_cons pe_int (pa_cons pe_int (pa_cons pe_int (pa_cons pe_int (pa_cons pe_int (pa_cons pe_int (pa_cons pe_int (pa_cons pe_int (pa_cons pe_int pa_nil))))))))))))) (pa_cons (pe_tupN (pa_cons pe_int (pa_cons pe_int (pa_cons pe_int (pa_cons pe_int (pa_cons pe_int (pa_cons pe_int (pa_cons pe_int (pa_cons pe_int (pa_cons pe_int (pa_cons pe_int (pa_cons pe_int (pa_cons pe_int pa_nil))))))))))))) (pa_cons (pe_tupN (pa_cons pe_int (pa_cons pe_int (pa_cons pe_int (pa_cons pe_int (pa_cons pe_int (pa_cons pe_int (pa_cons pe_int (pa_cons pe_int (pa_cons pe_int (pa_cons pe_int (pa_cons pe_int (pa_cons pe_int pa_nil))))))))))))) (pa_cons (pe_tupN (pa_cons pe_int (pa_cons pe_int (pa_cons pe_int (pa_cons pe_int (pa_cons pe_int (pa_cons pe_int (pa_cons pe_int (pa_cons pe_int (pa_cons pe_int (pa_cons pe_int (pa_cons pe_int (pa_cons pe_int pa_nil))))))))))))) (pa_cons (pe_tupN (pa_cons pe_int (pa_cons pe_int (pa_cons pe_int (pa_cons pe_int (pa_cons pe_int (pa_cons pe_int (pa_cons pe_int (pa_cons pe_int (pa_cons pe_int (pa_cons pe_int (pa_cons pe_int (pa_cons pe_int pa_nil))))))))))))) (pa_cons (pe_tupN (pa_cons pe_int (pa_cons pe_int (pa_cons pe_int (pa_cons pe_int (pa_cons pe_int (pa_cons pe_int (pa_cons pe_int (pa_cons pe_int (pa_cons pe_int (pa_cons pe_int (pa_cons pe_int (pa_cons pe_int pa_nil))))))))))))) pa_nil))))))) (pa_cons pe_int pa_nil))))))))), ?_⟩
  have row : ∀ {p : Addr} {ns : List Int} {Ha Hb : Hp}, New Ha p (.tup (ns.map V.int)) Hb → Da Hb (.ref p) (rowD ns) := fun n => .tup n.at (DaAll.ints _)
  rcases (show k = 0 ∨ k = 1 ∨ k = 2 by omega) with rfl | rfl | rfl
  · refine ⟨_, rfl, _, _, rfl, rfl, _, rfl, iteDT rfl ?_⟩
    refine ⟨(by show 10 ≤ sizeLine; decide), fun a0 Ha0 na0 => ⟨(by show 10 ≤ sizeLine; decide), fun a1 Ha1 na1 => ⟨(by show 10 ≤ sizeLine; decide), fun a2 Ha2 na2 => ⟨(by show 10 ≤ sizeLine; decide), fun a3 Ha3 na3 => ⟨(by show 4 ≤ sizeLine; decide), fun b Hb nb => ⟨(by show 3 ≤ sizeLine; decide), fun p Hz np => ?_⟩⟩⟩⟩⟩⟩
    have s0 := (Stq.refl gh)
    have s1 := (s0.loc2 na0).1
    have s2 := (s1.loc2 na1).1
    have s3 := (s2.loc2 na2).1
    have s4 := (s3.loc2 na3).1
    have dt : DaAll Ha3 _ (limW0.map rowD) := (.cons ((((row na0).up na1.same).up na2.same).up na3.same) (.cons (((row na1).up na2.same).up na3.same) (.cons ((row na2).up na3.same) (.cons (row na3) .nil))))
    obtain ⟨s8, gb, hb, fb⟩ := s4.loc2 nb
    obtain ⟨s9, gp, hp, fp⟩ := s8.loc2 np
    have nbp : b ≠ p := fun e => by rw [e, np.fr] at hb; cases hb
    have hb := np.else hb
    exact q p b 10 400 limW0 _ (fullG G Hz) Hz s9.full fp fb (full_else hp rfl gp) (full_else hb rfl gb) nbp hp hb (rows_full s9.gh (dt.up (nb.same.trans np.same))) limW0_mv (by decide) (by decide) (by decide)
  · refine ⟨_, rfl, _, _, rfl, rfl, _, rfl, iteDF (by decide) ?_⟩
    refine ⟨_, rfl, _, _, rfl, rfl, _, rfl, iteDT rfl ?_⟩
    refine ⟨(by show 11 ≤ sizeLine; decide), fun a0 Ha0 na0 => ⟨(by show 11 ≤ sizeLine; decide), fun a1 Ha1 na1 => ⟨(by show 11 ≤ sizeLine; decide), fun a2 Ha2 na2 => ⟨(by show 11 ≤ sizeLine; decide), fun a3 Ha3 na3 => ⟨(by show 11 ≤ sizeLine; decide), fun a4 Ha4 na4 => ⟨(by show 11 ≤ sizeLine; decide), fun a5 Ha5 na5 => ⟨(by show 11 ≤ sizeLine; decide), fun a6 Ha6 na6 => ⟨(by show 7 ≤ sizeLine; decide), fun b Hb nb => ⟨(by show 3 ≤ sizeLine; decide), fun p Hz np => ?_⟩⟩⟩⟩⟩⟩⟩⟩⟩
    have s0 := (Stq.refl gh)
    have s1 := (s0.loc2 na0).1
    have s2 := (s1.loc2 na1).1
    have s3 := (s2.loc2 na2).1
    have s4 := (s3.loc2 na3).1
    have s5 := (s4.loc2 na4).1
    have s6 := (s5.loc2 na5).1
    have s7 := (s6.loc2 na6).1
    have dt : DaAll Ha6 _ (limW1.map rowD) := (.cons (((((((row na0).up na1.same).up na2.same).up na3.same).up na4.same).up na5.same).up na6.same) (.cons ((((((row na1).up na2.same).up na3.same).up na4.same).up na5.same).up na6.same) (.cons (((((row na2).up na3.same).up na4.same).up na5.same).up na6.same) (.cons ((((row na3).up na4.same).up na5.same).up na6.same) (.cons (((row na4).up na5.same).up na6.same) (.cons ((row na5).up na6.same) (.cons (row na6) .nil)))))))
    obtain ⟨s8, gb, hb, fb⟩ := s7.loc2 nb
    obtain ⟨s9, gp, hp, fp⟩ := s8.loc2 np
    have nbp : b ≠ p := fun e => by rw [e, np.fr] at hb; cases hb
    have hb := np.else hb
    exact q p b 11 432 limW1 _ (fullG G Hz) Hz s9.full fp fb (full_else hp rfl gp) (full_else hb rfl gb) nbp hp hb (rows_full s9.gh (dt.up (nb.same.trans np.same))) limW1_mv (by decide) (by decide) (by decide)
  · refine ⟨_, rfl, _, _, rfl, rfl, _, rfl, iteDF (by decide) ?_⟩
    refine ⟨_, rfl, _, _, rfl, rfl, _, rfl, iteDF (by decide) ?_⟩
    refine ⟨_, rfl, _, _, rfl, rfl, _, rfl, iteDT rfl ?_⟩
    refine ⟨(by show 12 ≤ sizeLine; decide), fun a0 Ha0 na0 => ⟨(by show 12 ≤ sizeLine; decide), fun a1 Ha1 na1 => ⟨(by show 12 ≤ sizeLine; decide), fun a2 Ha2 na2 => ⟨(by show 3 ≤ sizeLine; decide), fun b Hb nb => ⟨(by show 3 ≤ sizeLine; decide), fun p Hz np => ?_⟩⟩⟩⟩⟩
    have s0 := (Stq.refl gh)
    have s1 := (s0.loc2 na0).1
    have s2 := (s1.loc2 na1).1
    have s3 := (s2.loc2 na2).1
    have dt : DaAll Ha2 _ (limW2.map rowD) := (.cons (((row na0).up na1.same).up na2.same) (.cons ((row na1).up na2.same) (.cons (row na2) .nil)))
    obtain ⟨s8, gb, hb, fb⟩ := s3.loc2 nb
    obtain ⟨s9, gp, hp, fp⟩ := s8.loc2 np
    have nbp : b ≠ p := fun e => by rw [e, np.fr] at hb; cases hb
    have hb := np.else hb
    exact q p b 12 420 limW2 _ (fullG G Hz) Hz s9.full fp fb (full_else hp rfl gp) (full_else hb rfl gb) nbp hp hb (rows_full s9.gh (dt.up (nb.same.trans np.same))) limW2_mv (by decide) (by decide) (by decide)


/-- drawn points and told moves, known -/
def FrzT (G : Hp) (p : Addr) (n : Int) (T : List (List Int)) : Prop := ∃ (b : Addr) (ts : List V), G p = some (.lst [.int n, .ref b]) ∧ G b = some (.lst ts) ∧ DaAll G ts (T.map rowD) ∧ AllMv n T ∧ 0 ≤ n ∧ n ≤ 12 ∧ T.length ≤ 8
theorem frzT_mk {S : Sr} {G H G1 H1 H2 : Hp} {b p : Addr} {n : Int} {T : List (List Int)} {ts : List V} (s : Go S G H G1 H1) (gb : G1 b = none) (fb : H b = none) (hb : H1 b = some (.lst ts)) (n2 : New H1 p (.lst [.int n, .ref b]) H2) (dT : DaAll G1 ts (T.map rowD)) (mv : AllMv n T) (n0 : 0 ≤ n) (n12 : n ≤ 12) (l8 : T.length ≤ 8) : ∃ G2, Go S G H G2 H2 ∧ FrzT G2 p n T := by
  obtain ⟨G2, s2, g2, k2, -⟩ := s.frz gb fb hb
  obtain ⟨G3, s3, g3, k3, -⟩ := s2.know n2
  exact ⟨G3, s3, b, ts, k3, g3 _ _ k2, (dT.up g2).up g3, mv, n0, n12, l8⟩
def spToldM : Sp := fun vs H Q _ => ∃ (S : Sr) (G : Hp), vs = [.ref S.a] ∧ Wd S G H ∧ ∀ (p : Addr) (n : Int) (T : List (List Int)) (G' H' : Hp), Go S G H G' H' → FrzT G' p n T → Q (.ref p) H'
theorem tup_rows {n : Int} {G : Hp} : ∀ {xs : List V}, (∀ x ∈ xs, ∃ p ms, x = .ref p ∧ G p = some (.tup (ms.map V.int)) ∧ IsMv ms n) → ∃ T : List (List Int), DaAll G xs (T.map rowD) ∧ AllMv n T ∧ T.length = xs.length
  | [], _ => ⟨[], .nil, .nil', rfl⟩
  | x :: xs, h => by
    obtain ⟨p, ms, rfl, hp, mv⟩ := h x List.mem_cons_self
    obtain ⟨T, d, m, l⟩ := tup_rows fun y hy => h y (List.mem_cons_of_mem _ hy)
    exact ⟨ms :: T, .cons (.tup hp (DaAll.ints _)) d, .cons' mv m, by rw [List.length_cons, List.length_cons, l]⟩
theorem ok_told_moves (Z : Zs mg) (D : Ds K mg) (c__law_take : Cal P w K mg base "_law_take" 2 ["store", "many"] spTake) (c__law_place : Cal P w K mg base "_law_place" 3 ["store", "size"] spPlace) (c__law_move : Cal P w K mg base "_law_move" 4 ["store", "points"] spMove) (c__law_drawn : Cal P w K mg base "_law_drawn" 3 ["store", "things", "many"] spDrawn) (c__law_renamed : Cal P w K mg base "_law_renamed" 1 ["move", "by"] spRenamed) (c__law_limit_world : Cal P w K mg base "_law_limit_world" 1 ["which"] spLimit3) (c__law_cut : Cal P w K mg base "_law_cut" 3 ["points", "told", "most"] spCut) (c__law_block_moves : Cal P w K mg base "_law_block_moves" 3 ["store", "points"] spBlocks) : Cal P w K mg base "_law_told_moves" 5 ["store"] spToldM := by
  refine Def.cal D.d_law_told_moves sc_law_told_moves (fun vs H Q E h => ?_) (fun f cdv A outer s H vs Q E hr h => ?_)
  · obtain ⟨S, G, rfl, wd, q⟩ := h
    rfl
  obtain ⟨S, G, rfl, wd, q⟩ := h
  refine ⟨_, (pss_cons (ps_set (i := 1) sc_law_told_moves.nd rfl (Or.inl rfl) (pe_cal c__law_take (hr.mono (by first | decide | omega)) (by rfl) (pa_cons (pv 0) (pa_cons pe_int pa_nil))))
      (Evl.pss_cut (ps_if (PW.pt (pw_and (pt_cmp (pc_eqI (pv 1) pe_int) (nomark _)) (pw_and1 (pt_cmp (pc_eqI (pe_cal c__law_take (hr.mono (by first | decide | omega)) (by rfl) (pa_cons (pv 0) (pa_cons pe_int pa_nil))) pe_int) (nomark _))))) (pss_cons (ps_set (i := 2) sc_law_told_moves.nd rfl (Or.inl rfl) (pe_cal c__law_limit_world (hr.mono (by first | decide | omega)) (by rfl) (pa_cons (pe_cal c__law_take (hr.mono (by first | decide | omega)) (by rfl) (pa_cons (pv 0) (pa_cons pe_int pa_nil))) pa_nil)))
      (pss_cons (ps_set (i := 3) sc_law_told_moves.nd rfl (Or.inr rfl) (pe_callTy call_tupleN (by rfl) Z.z_tuple (by decide +kernel) (pa_cons (pe_cal c__law_drawn (hr.mono (by first | decide | omega)) (by rfl) (pa_cons (pv 0) (pa_cons (pe_listRgN rfl (by rfl) Z.z_list (prg_1 (by rfl) Z.z_range (pe_ix ix_list (pv 2) pe_int (fun _ _ => rfl)))) (pa_cons (pe_ix ix_list (pv 2) pe_int (fun _ _ => rfl)) pa_nil)))) pa_nil)))
      (pss_one (ps_ret (pe_lstN (pa_cons (pe_ix ix_list (pv 2) pe_int (fun _ _ => rfl)) (pa_cons (pe_lc (own := [("move", 7)]) (g := gName 7) (tt := tYes) (by rfl) sc_law_told_moves.nd (pi_list (pe_ix ix_list (pv 2) pe_int (fun _ _ => rfl))) (blkOk_by (N := ["store", "pick", "limit", "by", "points", "told", "k", "move"]) (sc := defScope s_law_told_moves) (by decide +kernel)) (fun _ _ _ _ _ => pg_name (i := 7) sc_law_told_moves.nd rfl (Or.inl rfl)) (fun _ _ _ _ _ => pts_nil) (fun _ _ _ _ _ => (pe_cal c__law_renamed (hr.mono (by first | decide | omega)) (by rfl) (pa_cons (pv 7) (pa_cons (pv 3) pa_nil))))) pa_nil))))))) pss_nil)
      (pss_cons (ps_set (i := 4) sc_law_told_moves.nd rfl (Or.inr rfl) (pe_op op_add pe_int (pe_cal c__law_take (hr.mono (by first | decide | omega)) (by rfl) (pa_cons (pv 0) (pa_cons pe_int pa_nil)))))
      (Evl.pss_cut (ps_if (pt_cmp (pc_eqI (pe_cal c__law_take (hr.mono (by first | decide | omega)) (by rfl) (pa_cons (pv 0) (pa_cons pe_int pa_nil))) pe_int) (nomark _)) (pss_one (ps_set (i := 4) sc_law_told_moves.nd rfl (Or.inr rfl) (pe_cal c__law_place (hr.mono (by first | decide | omega)) (by rfl) (pa_cons (pv 0) (pa_cons pe_int pa_nil))))) pss_nil)
      (pss_cons (ps_if (pt_cmp (pc_lt (pv 1) pe_int) (nomark _)) (pss_cons (ps_set (i := 5) sc_law_told_moves.nd rfl (Or.inl rfl) (pe_ix ix_list (pe_cal c__law_cut (hr.mono (by first | decide | omega)) (by rfl) (pa_cons (pv 4) (pa_cons (pe_cal c__law_block_moves (hr.mono (by first | decide | omega)) (by rfl) (pa_cons (pv 0) (pa_cons (pv 4) pa_nil))) (pa_cons (pe_op op_add pe_int (pe_op op_mul pe_int (pe_callTy call_int1 (by rfl) Z.z_int (by decide +kernel) (pa_cons (pe_cmp (pc_eqI (pv 1) pe_int) (nomark _)) pa_nil)))) pa_nil)))) pe_int (fun _ _ => rfl)))
      (pss_one (ps_ret (pe_lstN (pa_cons (pv 4) (pa_cons (pv 5) pa_nil)))))) pss_nil)
      (pss_one (ps_ret (pe_lstN (pa_cons (pv 4) (pa_cons (pe_lc (own := [("k", 6)]) (g := gName 6) (tt := tYes) (by rfl) sc_law_told_moves.nd (pi_range1 (by rfl) Z.z_range (pa_cons (pe_cal c__law_take (hr.mono (by first | decide | omega)) (by rfl) (pa_cons (pv 0) (pa_cons pe_int pa_nil))) pa_nil)) (blkOk_by (N := ["store", "pick", "limit", "by", "points", "told", "k", "move"]) (sc := defScope s_law_told_moves) (by decide +kernel)) (fun _ _ _ _ _ => pg_name (i := 6) sc_law_told_moves.nd rfl (Or.inl rfl)) (fun _ _ _ _ _ => pts_nil) (fun _ _ _ _ _ => (pe_cal c__law_move (hr.mono (by first | decide | omega)) (by rfl) (pa_cons (pv 0) (pa_cons (pv 4) pa_nil))))) pa_nil)))))))))), ?_⟩
  refine ⟨_, rfl, S, G, 8, rfl, wd, by omega, fun pk H1 a0 a1 s1 => ?_⟩
  refine ⟨fun σ' H' => σ' = [some (.ref S.a), some (.int pk), none, none, none, none, none, none] ∧ Go S G H G H', ?_, ?_⟩
  · refine ⟨_, rfl, _, _, rfl, rfl, _, rfl, ite2 (fun c => ?_) (fun c => iteF ⟨rfl, s1⟩)⟩
    refine ⟨_, rfl, S, G, 8, rfl, s1.wd, by omega, fun d2 H2 b0 b1 s2 => ⟨_, _, rfl, rfl, _, rfl, ite2 (fun c => ?_) (fun c => ⟨rfl, s1.trans s2⟩)⟩⟩
    have s2 := s1.trans s2
    refine ⟨_, rfl, S, G, 3, rfl, s2.wd, by omega, fun k H3 k0 k1 s3 => ?_⟩
    have s3 := s2.trans s3
    refine ⟨G, k, rfl, k0, by omega, s3.gh, fun p b n m T ts G4 H4 s4 fp fb gp gb nbp hp hb dT mv n0 n12 l8 => ?_⟩
    have S4 := s3.q s4
    obtain ⟨G5, S5, g5, kp, o5⟩ := S4.frz gp (s3.fresh fp) hp
    obtain ⟨G6, S6, g6, kb, -⟩ := S5.frz (by rw [o5 b nbp]; exact gb) (s3.fresh fb) hb
    have kp := g6 _ _ kp
    have dT := (dT.up g5).up g6
    refine ⟨_, rfl, _, rfl, p, _, 0, _, rfl, rfl, .of (S6.gh _ _ kp), rfl, n, rfl, .of_le (by decide) (by omega) (by decide) (by omega), fun l H8 n8 => ?_⟩
    rw [rgV_rngI] at n8
    obtain ⟨s8, gl, hl, fl⟩ := S6.loc n8
    refine ⟨_, rfl, p, _, 0, _, rfl, rfl, .of (s8.gh _ _ kp), rfl, S, G6, l, _, n, rfl, s8.wd, .inl hl, by rw [List.length_map, rngI_len]; omega, by omega, by omega, fun r ys rest H9 s9 gr fr hr pm0 hy => ?_⟩
    obtain ⟨rs, ms, rfl, rfl, pm⟩ := perm_ints pm0
    rw [List.length_map, List.length_map, rngI_len] at hy
    have pl := pm.length_eq
    rw [List.length_append, rngI_len] at pl
    have e : ms = [] := List.eq_nil_of_length_eq_zero (by omega)
    subst e
    rw [List.append_nil] at pm
    refine ⟨r, _, rfl, .of hr, fun by_ HA nA => ?_⟩
    obtain ⟨GA, sA, gA, kA, -⟩ := (s8.trans s9).know nA
    have kp := gA _ _ kp
    have kb := gA _ _ kb
    have dT := dT.up gA
    refine ⟨_, rfl, p, _, 0, _, rfl, rfl, .of (sA.gh _ _ kp), rfl, ?_⟩
    refine ⟨_, rfl, p, _, 1, _, rfl, rfl, .of (sA.gh _ _ kp), rfl, b, rfl, ⟨_, .of (sA.gh _ _ kb)⟩, fun x hx => ?_⟩
    refine lc_list (xs := ts) (fun i H' => ∃ (G' : Hp) (zs : List V) (U : List (List Int)), Go S G H G' H' ∧ Same GA G' ∧ G' x = none ∧ H x = none ∧ H' x = some (.lst zs) ∧ DaAll G' zs (U.map rowD) ∧ AllMv n U ∧ U.length = i) ?_ ?_ ?_ ?_
    · obtain ⟨sx, gx, hx2, fx⟩ := sA.loc (p := x) (o := .lst []) ⟨hx, rfl⟩
      exact ⟨GA, [], [], sx, Same.refl _, gx, fx, hx2, .nil, .nil', rfl⟩
    · rintro i H' - ⟨G', zs, U, sB, gg, -⟩
      exact .of (sB.gh _ _ (gg _ _ kb))
    · rintro i y HB hy ⟨GB, zs, U, sB, gg, gx, fx, hxB, dU, mvU, lU⟩
      obtain ⟨e, he, hde⟩ := dT.get hy
      rw [List.getElem?_map] at he
      obtain ⟨v, hv, rfl⟩ := Option.map_eq_some_iff.mp he
      obtain ⟨c, rfl, hc⟩ := rows_ref hde
      have ilt := (List.getElem?_eq_some_iff.mp hv).1
      refine ⟨rfl, yesT ⟨_, rfl, _, rfl, GB, c, by_, v, rs, n, rfl, sB.gh, gg _ _ hc, gg _ _ kA, mv v (List.mem_of_getElem? hv), pm, n0, by omega, fun p7 ms G7 H7 s7 k7 mv7 => ?_⟩⟩
      have S7 := sB.q s7
      have h7 := s7.hh _ _ hxB
      have g7 := s7.nw2 hxB gx
      have lz := dU.length
      rw [List.length_map] at lz
      refine ⟨zs, h7, lt (by omega), G7, zs ++ [.ref p7], U ++ [ms], S7.mut g7 fx rfl, gg.trans s7.gg, g7, fx, upd_same, ?_, mvU.app' (.cons' mv7 .nil'), by rw [List.length_append, lU]; rfl⟩
      rw [List.map_append]
      exact (dU.up s7.gg).append (.one (.tup k7 (DaAll.ints _)))
    · rintro HB ⟨GB, zs, U, sB, gg, gx, fx, hxB, dU, mvU, lU⟩
      have lt6 := dT.length
      rw [List.length_map] at lt6
      refine ⟨by show 2 ≤ sizeLine; decide, fun r2 H7 n7 => ?_⟩
      obtain ⟨G7, s7, f7⟩ := frzT_mk sB gx fx hxB n7 dU mvU n0 n12 (by omega)
      exact q r2 n U G7 H7 s7 f7
  rintro σ' H2 ⟨rfl, s2⟩
  clear s1
  refine ⟨_, rfl, S, G, 6, rfl, s2.wd, by omega, fun d2 H3 b0 b1 s3 => ⟨_, _, rfl, rfl, ?_⟩⟩
  have s3 := s2.trans s3
  refine ⟨fun σ' H' => ∃ m : Int, 0 ≤ m ∧ m ≤ 12 ∧ σ' = [some (.ref S.a), some (.int pk), none, none, some (.int m), none, none, none] ∧ Go S G H G H', ?_, ?_⟩
  · refine ⟨_, rfl, S, G, 8, rfl, s3.wd, by omega, fun d3 H4 c0 c1 s4 => ⟨_, _, rfl, rfl, _, rfl, ite2 (fun c => ?_) (fun c => ⟨2 + d2, by omega, by omega, rfl, s3.trans s4⟩)⟩⟩
    exact ⟨_, rfl, S, G, 13, rfl, (s3.trans s4).wd, by omega, by omega, fun d H5 e0 e1 s5 => ⟨d, by omega, by omega, rfl, (s3.trans s4).trans s5⟩⟩
  rintro σ' H4 ⟨n, n0, n12, rfl, s4⟩
  refine ⟨_, rfl, _, _, rfl, rfl, _, rfl, ite2 (fun c => ?_) (fun c => ?_)⟩
  · refine ⟨_, rfl, _, rfl, _, rfl, S, G, n, rfl, s4.wd, n0, n12, fun l xs G5 H5 s5 fl gl hl _ l4 all_ => ?_⟩
    obtain ⟨T, dT, mvT, lT⟩ := tup_rows all_
    refine ⟨_, rfl, _, _, rfl, rfl, .inr ⟨_, rfl, _, _, rfl, rfl, .inl ⟨by decide, by decide⟩, _, _, rfl, rfl, ?_⟩⟩
    have mo : 0 ≤ (if decide (pk = 1) = true then (1 : Int) else 0) ∧ (if decide (pk = 1) = true then (1 : Int) else 0) ≤ 1 := by split <;> omega
    have S5 := s4.trans s5
    refine ⟨G5, l, n, _, xs, T, rfl, S5.gh, n0, n12, hl, dT, mvT, by omega, by omega, by omega, fun p k m ks ms U L G6 H6 s6 fp fk fm gp gk gm nkm npk npm hp hk hm dk dm mvU lU grp lL => ?_⟩
    refine ⟨p, _, 0, _, rfl, rfl, .of hp, rfl, ?_⟩
    refine ⟨_, rfl, _, rfl, by show 2 ≤ sizeLine; decide, fun r H7 n7 => ?_⟩
    obtain ⟨G7, s7, f7⟩ := frzT_mk (S5.q s6) gk (S5.fresh fk) hk n7 dk mvU n0 n12 (by omega)
    exact q r n U G7 H7 s7 f7
  · refine ⟨_, rfl, _, rfl, S, G, 5, rfl, s4.wd, by omega, fun d H5 e0 e1 s5 => ?_⟩
    have s5 := s4.trans s5
    refine ⟨d, rfl, by omega, by omega, fun l hl => ?_⟩
    refine lc_range (lo := 0) (n := d.toNat) (fun i H' => ∃ (G' : Hp) (zs : List V) (T : List (List Int)), Go S G H G' H' ∧ G' l = none ∧ H l = none ∧ H' l = some (.lst zs) ∧ DaAll G' zs (T.map rowD) ∧ AllMv n T ∧ T.length = i) ?_ ?_ ?_
    · obtain ⟨s6, gl, h6, fl⟩ := s5.loc (p := l) (o := .lst []) ⟨hl, rfl⟩
      exact ⟨G, [], [], s6, gl, fl, h6, .nil, .nil', rfl⟩
    · rintro i H6 hi ⟨G6, zs, T, s6, gl, fl, h6, dT, mvT, lT⟩
      have lz := dT.length
      rw [List.length_map] at lz
      refine ⟨rfl, yesT ⟨_, rfl, _, rfl, S, G6, n, rfl, s6.wd, n0, by omega, fun p ms G7 H7 s7 k7 mv => ?_⟩⟩
      have h7 := s7.hh h6 (s6.ns fl)
      have gl7 := s7.nw h6 gl
      refine ⟨zs, h7, lt (by omega), G7, zs ++ [.ref p], T ++ [ms], (s6.trans s7).mut gl7 fl rfl, gl7, fl, upd_same, ?_, mvT.app' (.cons' mv .nil'), by rw [List.length_append, lT]; rfl⟩
      rw [List.map_append]
      exact (dT.up s7.gg).append (.one (.tup k7 (DaAll.ints _)))
    · rintro H6 ⟨G6, zs, T, s6, gl, fl, h6, dT, mvT, lT⟩
      refine ⟨by show 2 ≤ sizeLine; decide, fun r H7 n7 => ?_⟩
      obtain ⟨G7, s7, f7⟩ := frzT_mk s6 gl fl h6 n7 dT mvT n0 n12 (by omega)
      exact q r n T G7 H7 s7 f7


def spMoreW : Sp := fun vs H Q _ => ∃ (S : Sr) (G : Hp) (n : Int) (b : Addr) (ts : List V) (T : List (List Int)), vs = [.ref S.a, .int n, .ref b] ∧ Wd S G H ∧ 0 ≤ n ∧ n ≤ 12 ∧ G b = some (.lst ts) ∧ DaAll G ts (T.map rowD) ∧ AllMv n T ∧ T.length ≤ 8 ∧
  ∀ (l : Addr) (xs : List V) (ds : List PyData) (G' H' : Hp), Go S G H G' H' → G' l = none → H l = none → H' l = some (.lst xs) → DaAll G' xs ds → (∀ d ∈ ds, szD d ≤ 40) → ds.length ≤ 12 → Q (.ref l) H'
theorem row_sz40 {n : Int} {w : List Int} (n12 : n ≤ 12) (mv : IsMv w n) : szD (rowD w) ≤ 40 := by
  have l := mv.len
  rw [show szD (rowD w) = 1 + w.length from sz_ints w]
  omega
theorem DaAll.ins {G : Hp} {xs : List V} {ds : List PyData} {v : V} {d : PyData} (h : DaAll G xs ds) (k : Da G v d) (i : Nat) : DaAll G (xs.take i ++ [v] ++ xs.drop i) (ds.take i ++ [d] ++ ds.drop i) := ((h.take i).append (.one k)).append (h.drop i)
theorem ins_all {p : PyData → Prop} {ds : List PyData} {d : PyData} (h : ∀ e ∈ ds, p e) (k : p d) (i : Nat) : ∀ e ∈ ds.take i ++ [d] ++ ds.drop i, p e := fun e he => by
  rcases List.mem_append.mp he with he | he
  · rcases List.mem_append.mp he with he | he
    · exact h e (List.mem_of_mem_take he)
    · rw [List.mem_singleton.mp he]; exact k
  · exact h e (List.mem_of_mem_drop he)
theorem ins_len {α : Type} (ds : List α) (d : α) (i : Nat) : (ds.take i ++ [d] ++ ds.drop i).length = ds.length + 1 := by
  rw [List.length_append, List.length_append, List.length_take, List.length_drop]
  show min i ds.length + 1 + (ds.length - i) = ds.length + 1
  omega
/-- the list as it grows -/
def MoreAt (S : Sr) (G H G0 : Hp) (l : Addr) (ds : List PyData) (H' : Hp) : Prop := ∃ (G' : Hp) (xs : List V), Go S G H G' H' ∧ Same G0 G' ∧ G' l = none ∧ H l = none ∧ H' l = some (.lst xs) ∧ DaAll G' xs ds ∧ ∀ d ∈ ds, szD d ≤ 40
theorem ok_more (Z : Zs mg) (D : Ds K mg) (c__law_take : Cal P w K mg base "_law_take" 2 ["store", "many"] spTake) (c__law_place : Cal P w K mg base "_law_place" 3 ["store", "size"] spPlace) (c__law_pick : Cal P w K mg base "_law_pick" 3 ["store", "things"] spPick) (c__law_no_move : Cal P w K mg base "_law_no_move" 5 ["store", "points"] spNoMove) : Cal P w K mg base "_law_more" 6 ["store", "points", "told"] spMoreW := by
  refine Def.cal D.d_law_more sc_law_more (fun vs H Q E h => ?_) (fun f cdv A outer s H vs Q E hr h => ?_)
  · obtain ⟨S, G, n, b, ts, T, rfl, wd, n0, n12, gb, dT, mvT, lT, q⟩ := h
    rfl
  obtain ⟨S, G, n, b, ts, T, rfl, wd, n0, n12, gb, dT, mvT, lT, q⟩ := h
  refine ⟨_, (pss_cons (ps_set (i := 3) sc_law_more.nd rfl (Or.inl rfl) (pe_callTy call_listN (by rfl) Z.z_list (by decide +kernel) (pa_cons (pv 2) pa_nil)))
      (pss_cons (ps_set (i := 4) sc_law_more.nd rfl (Or.inl rfl) (pe_cal c__law_take (hr.mono (by first | decide | omega)) (by rfl) (pa_cons (pv 0) (pa_cons pe_int pa_nil))))
      (pss_cons (ps_set (i := 5) sc_law_more.nd rfl (Or.inl rfl) (pe_tupRgN rfl (by rfl) Z.z_tuple (prg_1 (by rfl) Z.z_range (pv 1))))
      (Evl.pss_cut (ps_if (pt_cmp (pc_eqI (pv 4) pe_int) (nomark _)) (pss_cons (ps_set (i := 6) sc_law_more.nd rfl (Or.inl rfl) (pe_op op_sub (pe_op op_add pe_int (pe_cal c__law_take (hr.mono (by first | decide | omega)) (by rfl) (pa_cons (pv 0) (pa_cons pe_int pa_nil)))) (pe_callB call_len_seq (by rfl) Z.z_len (by decide +kernel) (pa_cons (pv 3) pa_nil))))
      (pss_one (ps_for PassesOwn.never rfl (pi_range1 (by rfl) Z.z_range (pa_cons (pv 6) pa_nil)) (pg_name (i := 7) sc_law_more.nd rfl (Or.inl rfl)) (pss_one (ps_expr (pe_bm PySem.F.plainAttrs_list PySem.F.slot_list_insert PySem.F.type_list_insert mt_insertN (pv 3) (pa_cons (pe_cal c__law_place (hr.mono (by first | decide | omega)) (by rfl) (pa_cons (pv 0) (pa_cons (pe_op op_add (pe_callB call_len_seq (by rfl) Z.z_len (by decide +kernel) (pa_cons (pv 3) pa_nil)) pe_int) pa_nil))) (pa_cons (pe_cal c__law_pick (hr.mono (by first | decide | omega)) (by rfl) (pa_cons (pv 0) (pa_cons (pe_op op_catN (pv 2) (pe_lstN (pa_cons (pv 5) pa_nil))) pa_nil))) pa_nil)))))))) pss_nil)
      (Evl.pss_cut (ps_if (pt_cmp (pc_gt (pv 4) pe_int) (nomark _)) (pss_one (ps_expr (pe_bm PySem.F.plainAttrs_list PySem.F.slot_list_insert PySem.F.type_list_insert mt_insertN (pv 3) (pa_cons (pe_cal c__law_place (hr.mono (by first | decide | omega)) (by rfl) (pa_cons (pv 0) (pa_cons (pe_op op_add (pe_callB call_len_seq (by rfl) Z.z_len (by decide +kernel) (pa_cons (pv 3) pa_nil)) pe_int) pa_nil))) (pa_cons (pe_cal c__law_no_move (hr.mono (by first | decide | omega)) (by rfl) (pa_cons (pv 0) (pa_cons (pv 1) pa_nil))) pa_nil))))) pss_nil)
      (Evl.pss_cut (ps_if (pt_cmp (pc_eqI (pv 4) pe_int) (nomark _)) (pss_one (ps_set (i := 3) sc_law_more.nd rfl (Or.inl rfl) (pe_op op_catN (pv 3) (pe_op op_repL (pe_lstN (pa_cons (pe_cal c__law_pick (hr.mono (by first | decide | omega)) (by rfl) (pa_cons (pv 0) (pa_cons (pe_lstN (pa_cons (pv 5) (pa_cons (pe_ix ix_list (pv 3) pe_int (fun _ _ => rfl)) (pa_cons (pe_ix ix_list (pv 3) (pe_un un_neg pe_int) (fun _ _ => rfl)) pa_nil)))) pa_nil))) pa_nil)) (pe_op op_add (pe_op op_sub pe_int (pe_callB call_len_seq (by rfl) Z.z_len (by decide +kernel) (pa_cons (pv 3) pa_nil))) (pe_cal c__law_take (hr.mono (by first | decide | omega)) (by rfl) (pa_cons (pv 0) (pa_cons pe_int pa_nil)))))))) pss_nil)
      (Evl.pss_cut (ps_if (pt_cmp (pc_eqI (pv 4) pe_int) (nomark _)) (pss_one (ps_expr (pe_bm PySem.F.plainAttrs_list PySem.F.slot_list_append PySem.F.type_list_append mt_appendN (pv 3) (pa_cons (pe_cal c__law_no_move (hr.mono (by first | decide | omega)) (by rfl) (pa_cons (pv 0) (pa_cons (pv 1) pa_nil))) pa_nil)))) pss_nil)
      (pss_one (ps_ret (pv 3)))))))))), ?_⟩
  have lt' := dT.length
  rw [List.length_map] at lt'
  have z40 : ∀ d ∈ T.map rowD, szD d ≤ 40 := fun d hd => by
    obtain ⟨w, hw, rfl⟩ := List.mem_map.mp hd
    exact row_sz40 n12 (mvT w hw)
  refine ⟨_, rfl, b, _, rfl, .inl (.of (wd.gh _ _ gb)), fun l H1 n1 => ?_⟩
  obtain ⟨s1, gl, hl, fl⟩ := (Go.refl wd).loc n1
  refine ⟨_, rfl, S, G, 6, rfl, s1.wd, by omega, fun pk H2 p0 p1 s2 => ?_⟩
  have s2' := s1.trans s2
  have hl2 := s2.hh hl (s1.ns fl)
  clear s2
  refine ⟨_, rfl, n, rfl, .of_le (by decide) (by omega) (by decide) (by omega), fun st H3 n3 => ?_⟩
  rw [rgV_rngI] at n3
  obtain ⟨G3, s3, g3, kst, o3⟩ := s2'.know n3
  have hl3 := n3.else hl2
  have gl3 : G3 l = none := by
    rw [o3 l fun e => by rw [e, n3.fr] at hl2; cases hl2]
    exact gl
  have m3 : MoreAt S G H G3 l (T.map rowD) H3 := ⟨G3, ts, s3, Same.refl _, gl3, fl, hl3, dT.up g3, z40⟩
  clear s1 s2' hl hl2 gl gl3 hl3 n1 n3 o3 s3
  have st40 : szD (rowD (rngI n)) ≤ 40 := row_sz40 n12 rngI_mv
  refine ⟨fun σ' H' => ∃ (y6 y7 : Option V) (ds : List PyData), σ' = [some (.ref S.a), some (.int n), some (.ref b), some (.ref l), some (.int pk), some (.ref st), y6, y7] ∧ MoreAt S G H G3 l ds H' ∧ ds.length ≤ 9 ∧ (¬ pk = 0 → ds.length ≤ 8), ?_, ?_⟩
  · refine ⟨_, rfl, _, _, rfl, rfl, _, rfl, ite2 (fun c => ?_) (fun c => ⟨_, _, _, rfl, m3, by rw [List.length_map]; omega, fun _ => by rw [List.length_map]; omega⟩)⟩
    obtain ⟨G4, xs, s4, g4, gl4, -, hl4, dx4, z4⟩ := m3
    refine ⟨_, rfl, S, G4, 2, rfl, s4.wd, by omega, fun u H5 u0 u1 s5 => ⟨_, _, rfl, rfl, ?_⟩⟩
    have hl5 := s5.hh hl4 (s4.ns fl)
    have lx4 := dx4.length
    rw [List.length_map] at lx4
    refine ⟨_, rfl, l, _, rfl, .inl (.of hl5), _, _, rfl, rfl, ?_⟩
    have s5 := s4.trans s5
    refine ⟨_, rfl, _, rfl, by omega, by omega, for_range (lo := 0) (n := (8 + u - ((xs.length : Nat) : Int)).toNat) (fun i σ' H' => ∃ (y7 : Option V) (ds : List PyData), σ' = [some (.ref S.a), some (.int n), some (.ref b), some (.ref l), some (.int pk), some (.ref st), some (.int (8 + u - ((xs.length : Nat) : Int))), y7] ∧ MoreAt S G H G3 l ds H' ∧ ds.length = xs.length + i) ?_ ?_ ?_⟩
    · exact ⟨_, _, rfl, ⟨G4, xs, s5, g4, gl4, fl, hl5, dx4, z4⟩, by rw [List.length_map]; omega⟩
    · rintro i σ' H6 hi ⟨y7, ds, rfl, ⟨G6, ys, s6, g6, gl6, -, hl6, dx6, z6⟩, ld⟩
      have ly := dx6.length
      refine ⟨_, rfl, .inl ⟨rfl, _, .of hl6⟩, _, rfl, _, rfl, l, _, rfl, .inl (.of hl6), _, _, rfl, rfl, S, G6, _, rfl, s6.wd, by omega, by omega, fun at_ H7 a0 a1 s7 => ?_⟩
      have S7 := s6.trans s7
      have hl7 := s7.hh hl6 (s6.ns fl)
      refine ⟨_, rfl, _, rfl, _, rfl, by show 1 ≤ sizeLine; decide, fun z H8 n8 => ?_⟩
      obtain ⟨S8, gz, hz, fz⟩ := S7.loc n8
      refine ⟨b, z, _, _, rfl, rfl, S8.gh _ _ (g6 _ _ (g3 _ _ gb)), hz, Nat.le_trans (show _ ≤ 100 by show ts.length + 1 ≤ 100; omega) (by decide), fun r H9 n9 => ?_⟩
      obtain ⟨S9, gr, hr, fr⟩ := S8.loc n9
      refine ⟨S, G6, .ref r, _, rfl, S9.wd, .inl ⟨r, rfl, S9.ns fr, hr⟩, by rw [List.length_append]; show 0 < _ + 1; omega, by rw [List.length_append]; show _ + 1 < 1000000; omega, fun x HA hx sA => ?_⟩
      have SA := S9.trans sA
      have hlA := sA.hh (n9.else (n8.else hl7)) (S9.ns fl)
      obtain ⟨d, dd, zd⟩ : ∃ d, Da G6 x d ∧ szD d ≤ 40 := by
        rcases List.mem_append.mp hx with hx | hx
        · obtain ⟨j, hj⟩ := List.getElem?_of_mem hx
          obtain ⟨d, hd, dd⟩ := (dT.up (g3.trans g6)).get hj
          exact ⟨d, dd, z40 d (List.mem_of_getElem? hd)⟩
        · rw [List.mem_singleton.mp hx]
          exact ⟨_, .tup (g6 _ _ kst) (DaAll.ints _), st40⟩
      refine ⟨l, ys, at_, x, rfl, rfl, hlA, lt (by omega), a0, by omega, fun HB eB => ?_⟩
      refine ⟨_, _, rfl, ⟨G6, _, SA.mut gl6 fl eB, g6, gl6, fl, upd_at eB, dx6.ins dd _, ins_all z6 zd _⟩, by rw [ins_len, ld]; rfl⟩
    · rintro σ' H6 ⟨y7, ds, rfl, m6, ld⟩
      exact ⟨_, _, ds, rfl, m6, by omega, fun h => absurd (dec_of c) h⟩
  clear m3
  rintro σ' H4 ⟨y6, y7, ds, rfl, m4, l9, l8⟩
  have move1 : ∀ {H5 : Hp} {ds : List PyData} {Q : VK}, MoreAt S G H G3 l ds H5 → (∀ (G5 : Hp) (ys : List V), Go S G H G5 H5 → Same G3 G5 → G5 l = none → H5 l = some (.lst ys) → DaAll G5 ys ds → True) → True := fun _ _ => trivial
  clear move1
  refine ⟨fun σ' H' => ∃ (ds : List PyData), σ' = [some (.ref S.a), some (.int n), some (.ref b), some (.ref l), some (.int pk), some (.ref st), y6, y7] ∧ MoreAt S G H G3 l ds H' ∧ ds.length ≤ 9 ∧ (1 < pk → 0 < ds.length), ?_, ?_⟩
  · refine ⟨_, rfl, _, _, rfl, rfl, _, rfl, ite2 (fun c => ?_) (fun c => ⟨_, rfl, m4, l9, fun h => absurd h (dec_not c)⟩)⟩
    have c : 1 < pk := dec_of c
    have l8 := l8 (by omega)
    obtain ⟨G6, ys, s6, g6, gl6, -, hl6, dx6, z6⟩ := m4
    have ly := dx6.length
    refine ⟨_, rfl, .inl ⟨rfl, _, .of hl6⟩, _, rfl, _, rfl, l, _, rfl, .inl (.of hl6), _, _, rfl, rfl, S, G6, _, rfl, s6.wd, by omega, by omega, fun at_ H7 a0 a1 s7 => ?_⟩
    have S7 := s6.trans s7
    have hl7 := s7.hh hl6 (s6.ns fl)
    refine ⟨_, rfl, _, rfl, S, G6, n, rfl, S7.wd, n0, n12, fun x d G8 H8 s8 dd zd => ?_⟩
    have hl8 := s8.hh hl7 (S7.ns fl)
    have gl8 := s8.nw hl7 gl6
    refine ⟨l, ys, at_, x, rfl, rfl, hl8, lt (by omega), a0, by omega, fun HB eB => ?_⟩
    exact ⟨_, rfl, ⟨G8, _, (S7.trans s8).mut gl8 fl eB, g6.trans s8.gg, gl8, fl, upd_at eB, (dx6.up s8.gg).ins dd _, ins_all z6 zd _⟩, by rw [ins_len]; omega, fun _ => by rw [ins_len]; omega⟩
  clear m4 l9 l8 ds
  rintro σ' H5 ⟨ds, rfl, m5, l9, l0⟩
  refine ⟨fun σ' H' => ∃ (l' : Addr) (ds : List PyData), σ' = [some (.ref S.a), some (.int n), some (.ref b), some (.ref l'), some (.int pk), some (.ref st), y6, y7] ∧ MoreAt S G H G3 l' ds H' ∧ ds.length ≤ 11, ?_, ?_⟩
  · refine ⟨_, rfl, _, _, rfl, rfl, _, rfl, ite2 (fun c => ?_) (fun c => ⟨_, _, rfl, m5, by omega⟩)⟩
    have c : pk = 4 := dec_of c
    have l0 := l0 (by omega)
    obtain ⟨G6, ys, s6, g6, gl6, -, hl6, dx6, z6⟩ := m5
    have ly := dx6.length
    have ne : ys ≠ [] := fun e => by rw [e] at ly; have : (0 : Nat) = ds.length := ly; omega
    obtain ⟨v0, e0, m0⟩ : ∃ v, atI ys 0 = some v ∧ v ∈ ys := by
      cases ys with
      | nil => exact absurd rfl ne
      | cons v vs => exact ⟨v, atI_nat (j := 0) rfl, List.mem_cons_self⟩
    obtain ⟨v1, e1, m1⟩ : ∃ v, atI ys (-1) = some v ∧ v ∈ ys := by
      have q := atI_last ys.dropLast (ys.getLast ne)
      rw [List.dropLast_concat_getLast ne] at q
      exact ⟨_, q, List.getLast_mem ne⟩
    refine ⟨_, rfl, _, rfl, _, rfl, _, rfl, l, _, 0, _, rfl, rfl, .of hl6, e0, _, rfl, _, rfl, l, _, -1, _, rfl, rfl, .of hl6, e1, by show 3 ≤ sizeLine; decide, fun z H7 n7 => ?_⟩
    obtain ⟨S7, gz, hz, fz⟩ := s6.loc n7
    refine ⟨S, G6, .ref z, _, rfl, S7.wd, .inl ⟨z, rfl, S7.ns fz, hz⟩, by show 0 < 3; decide, by show 3 < 1000000; decide, fun x H8 hx s8 => ?_⟩
    have S8 := S7.trans s8
    have hl8 := s8.hh (n7.else hl6) (S7.ns fl)
    obtain ⟨d, dd, zd⟩ : ∃ d, Da G6 x d ∧ szD d ≤ 40 := by
      have of_mem : ∀ v ∈ ys, ∃ d, Da G6 v d ∧ szD d ≤ 40 := fun v hv => by
        obtain ⟨j, hj⟩ := List.getElem?_of_mem hv
        obtain ⟨d, hd, dd⟩ := dx6.get hj
        exact ⟨d, dd, z6 d (List.mem_of_getElem? hd)⟩
      simp only [List.mem_cons, List.not_mem_nil, or_false] at hx
      rcases hx with rfl | rfl | rfl
      · exact ⟨_, .tup (g6 _ _ kst) (DaAll.ints _), st40⟩
      · exact of_mem _ m0
      · exact of_mem _ m1
    refine ⟨by show 1 ≤ sizeLine; decide, fun y H9 n9 => ?_⟩
    obtain ⟨S9, gy, hy, fy⟩ := S8.loc n9
    have hl9 := n9.else hl8
    refine ⟨_, rfl, l, _, rfl, .inl (.of hl9), _, _, rfl, rfl, _, rfl, S, G6, 3, rfl, S9.wd, by omega, fun k HA k0 k1 sA => ⟨_, _, rfl, rfl, ?_⟩⟩
    have SA := S9.trans sA
    have hlA := sA.hh hl9 (S9.ns fl)
    have hyA := sA.hh hy (S9.ns fy)
    refine ⟨y, _, _, rfl, rfl, hyA, by omega, by omega, Nat.le_trans (show _ ≤ 100 by show 1 * _ ≤ 100; omega) (by decide), fun r HB nB => ?_⟩
    obtain ⟨SB, gr, hr, fr⟩ := SA.loc nB
    rw [rep_one] at hr
    refine ⟨l, r, _, _, rfl, rfl, nB.else hlA, hr, Nat.le_trans (show _ ≤ 100 by rw [List.length_replicate]; omega) (by decide), fun l2 HC nC => ?_⟩
    obtain ⟨SC, gl2, hl2, fl2⟩ := SB.loc nC
    have rep : ∀ k : Nat, DaAll G6 (List.replicate k x) (List.replicate k d) := fun k => by
      induction k with
      | zero => exact .nil
      | succ k ih => exact .cons dd ih
    refine ⟨l2, ds ++ List.replicate (9 - ((ys.length : Nat) : Int) + k).toNat d, rfl, ⟨G6, _, SC, g6, gl2, fl2, hl2, dx6.append (rep _), fun e he => ?_⟩, ?_⟩
    · rcases List.mem_append.mp he with he | he
      · exact z6 e he
      · rw [List.eq_of_mem_replicate he]; exact zd
    · rw [List.length_append, List.length_replicate]
      omega
  clear m5 l9 l0 ds fl
  rintro σ' H6 ⟨l, ds, rfl, m6, l11⟩
  refine ⟨fun σ' H' => ∃ (ds : List PyData), σ' = [some (.ref S.a), some (.int n), some (.ref b), some (.ref l), some (.int pk), some (.ref st), y6, y7] ∧ MoreAt S G H G3 l ds H' ∧ ds.length ≤ 12, ?_, ?_⟩
  · refine ⟨_, rfl, _, _, rfl, rfl, _, rfl, ite2 (fun c => ?_) (fun c => ⟨_, rfl, m6, by omega⟩)⟩
    obtain ⟨G6, ys, s6, g6, gl6, fl, hl6, dx6, z6⟩ := m6
    have ly := dx6.length
    refine ⟨_, rfl, .inl ⟨rfl, _, .of hl6⟩, _, rfl, _, rfl, S, G6, n, rfl, s6.wd, n0, n12, fun x d G8 H8 s8 dd zd => ?_⟩
    have hl8 := s8.hh hl6 (s6.ns fl)
    have gl8 := s8.nw hl6 gl6
    refine ⟨l, ys, x, rfl, rfl, hl8, lt (by omega), fun HB eB => ?_⟩
    refine ⟨_, rfl, ⟨G8, _, (s6.trans s8).mut gl8 fl eB, g6.trans s8.gg, gl8, fl, upd_at eB, (dx6.up s8.gg).append (.one dd), fun e he => ?_⟩, by rw [List.length_append]; show _ + 1 ≤ 12; omega⟩
    rcases List.mem_append.mp he with he | he
    · exact z6 e he
    · rw [List.mem_singleton.mp he]; exact zd
  clear m6 l11 ds
  rintro σ' H7 ⟨ds, rfl, ⟨G7, xs, s7, g7, gl7, fl, hl7, dx, z7⟩, l12⟩
  exact ⟨_, rfl, q l xs ds G7 H7 s7 gl7 fl hl7 dx z7 l12⟩


theorem szL_le40 : ∀ {ds : List PyData}, (∀ d ∈ ds, szD d ≤ 40) → szL ds ≤ 40 * ds.length
  | [], _ => Nat.le_refl _
  | d :: ds, h => by
    have h1 := szL_le40 fun x hx => h x (List.mem_cons_of_mem d hx)
    have h2 := h d List.mem_cons_self
    show szD d + szL ds ≤ 40 * (ds.length + 1)
    omega
theorem fairL {H : Hp} {Q : VK} {E : XK} {v : V} {dv : PyData} {a : Addr} {t : Bool} {xs : List V} {ds : List PyData} (hv : Da H v dv) (ha : H a = some (if t then HO.tup xs else HO.lst xs)) (dx : DaAll H xs ds) (z : ∀ d ∈ ds, szD d ≤ 40) (l : ds.length ≤ 12) (zv : szD dv ≤ 10) (q : ∀ H', Same H H' → Q (.bl true) H') : spFairW K [v, .ref a] H Q E := by
  have zz := szL_le40 z
  exact ⟨v, dv, _, a, xs, ds, rfl, hv, .inl (hasL_if ha), dx, .of_if ha dx, by omega, by rw [sz_if]; omega, by omega, zv, q⟩
theorem ok_law {f : Addr} {fd : FuncData} (Z : Zs mg) (D : Ds K mg) (F : Fun K "law" "law" s_law f fd) (c__law_store : Cal P w K mg base "_law_store" 1 ["script"] (spStore K)) (c__law_told_moves : Cal P w K mg base "_law_told_moves" 5 ["store"] spToldM) (c__law_more : Cal P w K mg base "_law_more" 6 ["store", "points", "told"] spMoreW) (c__law_bad_number : Cal P w K mg base "_law_bad_number" 4 ["store", "low", "high", "nothing"] spBadNum) (c__law_either : Cal P w K mg base "_law_either" 3 ["store", "entries"] spEither) (c__law_fair : Cal P w K mg base "_law_fair" 10 ["points", "moves"] (spFairW K)) (c__law_move_fits : Cal P w K mg base "_law_move_fits" 2 ["value", "points"] spFits) (c__law_same : Cal P w K mg base "_law_same" 2 ["actual", "due"] spSame) : FnOk P w K mg base CX0 11 f fd ["script"] (spLaw K) := by
  refine F.ok sc_law (fun vs H Q E h => ?_) (fun cdv A outer s H vs Q E hr h => ?_)
  · obtain ⟨a, ns, rfl, _⟩ := h
    rfl
  obtain ⟨a, ns, rfl, hS, hn, q⟩ := h
  refine ⟨_, (pss_cons (ps_set (i := 1) sc_law.nd rfl (Or.inl rfl) (pe_cal c__law_store (hr.mono (by first | decide | omega)) (by rfl) (pa_cons (pv 0) pa_nil)))
      (pss_cons (ps_set (i := 2) sc_law.nd rfl (Or.inl rfl) (pe_cal c__law_told_moves (hr.mono (by first | decide | omega)) (by rfl) (pa_cons (pv 1) pa_nil)))
      (pss_cons (ps_set (i := 3) sc_law.nd rfl (Or.inl rfl) (pe_ix ix_list (pv 2) pe_int (fun _ _ => rfl)))
      (pss_cons (ps_set (i := 4) sc_law.nd rfl (Or.inl rfl) (pe_ix ix_list (pv 2) pe_int (fun _ _ => rfl)))
      (pss_cons (ps_set (i := 5) sc_law.nd rfl (Or.inl rfl) (pe_cal c__law_more (hr.mono (by first | decide | omega)) (by rfl) (pa_cons (pv 1) (pa_cons (pv 3) (pa_cons (pv 4) pa_nil)))))
      (pss_cons (ps_set (i := 6) sc_law.nd rfl (Or.inl rfl) (pe_cal c__law_bad_number (hr.mono (by first | decide | omega)) (by rfl) (pa_cons (pv 1) (pa_cons pe_int (pa_cons pe_int (pa_cons pe_bl pa_nil))))))
      (pss_cons (ps_if (PW.pt (pw_or (pt_not (pt_val (pe_cal c__law_fair (hr.mono (by first | decide | omega)) (by rfl) (pa_cons (pv 3) (pa_cons (pe_cal c__law_either (hr.mono (by first | decide | omega)) (by rfl) (pa_cons (pv 1) (pa_cons (pv 4) pa_nil))) pa_nil))))) (pw_or1 (pt_not (pt_val (pe_cal c__law_fair (hr.mono (by first | decide | omega)) (by rfl) (pa_cons (pv 6) (pa_cons (pe_cal c__law_either (hr.mono (by first | decide | omega)) (by rfl) (pa_cons (pv 1) (pa_cons (pv 5) pa_nil))) pa_nil)))))))) (pss_one (ps_ret pe_bl)) pss_nil)
      (pss_cons (ps_if (PW.pt (pw_or (pt_not (pt_val (pe_cal c__law_fair (hr.mono (by first | decide | omega)) (by rfl) (pa_cons (pv 3) (pa_cons (pv 5) pa_nil))))) (pw_or1 (pt_not (pt_val (pe_cal c__law_fair (hr.mono (by first | decide | omega)) (by rfl) (pa_cons (pv 6) (pa_cons (pv 4) pa_nil)))))))) (pss_one (ps_ret pe_bl)) pss_nil)
      (pss_cons (ps_set (i := 7) sc_law.nd rfl (Or.inl rfl) (pe_callB call_len_seq (by rfl) Z.z_len (by decide +kernel) (pa_cons (pv 5) pa_nil)))
      (pss_cons (ps_for PassesOwn.never rfl (pi_range1 (by rfl) Z.z_range (pa_cons (pv 7) pa_nil)) (pg_name (i := 8) sc_law.nd rfl (Or.inl rfl)) (pss_one (ps_if (pt_not (pt_val (pe_cal c__law_move_fits (hr.mono (by first | decide | omega)) (by rfl) (pa_cons (pe_ix ix_list (pv 5) (pv 8) (fun _ _ => rfl)) (pa_cons (pv 3) pa_nil))))) (pss_one (ps_asg (pe_tupRgN rfl (by rfl) Z.z_tuple (prg_1 (by rfl) Z.z_range (pv 3))) (pg_sub (pv 5) (pv 8) set_listN))) pss_nil)))
      (pss_cons (ps_if (pt_not (pt_val (pe_cal c__law_fair (hr.mono (by first | decide | omega)) (by rfl) (pa_cons (pv 3) (pa_cons (pv 5) pa_nil))))) (pss_one (ps_ret pe_bl)) pss_nil)
      (pss_cons (ps_for PassesOwn.never rfl (pi_range2 (by rfl) Z.z_range (pa_cons pe_int (pa_cons (pv 7) pa_nil))) (pg_name (i := 8) sc_law.nd rfl (Or.inl rfl)) (pss_one (ps_expr (pe_bm0 PySem.F.plainAttrs_list PySem.F.slot_list_pop PySem.F.type_list_pop mt_popN (pv 5)))))
      (pss_cons (ps_if (PW.pt (pw_and (pt_cmp (pc_gt (pv 7) pe_int) (nomark _)) (pw_and1 (pt_not (pt_val (pe_cal c__law_fair (hr.mono (by first | decide | omega)) (by rfl) (pa_cons (pv 3) (pa_cons (pe_cal c__law_either (hr.mono (by first | decide | omega)) (by rfl) (pa_cons (pv 1) (pa_cons (pv 5) pa_nil))) pa_nil)))))))) (pss_one (ps_ret pe_bl)) pss_nil)
      (pss_one (ps_ret (pe_cal c__law_same (hr.mono (by first | decide | omega)) (by rfl) (pa_cons (pe_lstN (pa_cons (pe_globI (by rfl) Z.c_MOST_TOLD) (pa_cons (pe_globI (by rfl) Z.c_MOST_MADE) pa_nil))) (pa_cons (pe_lstN (pa_cons pe_int (pa_cons pe_int pa_nil))) pa_nil)))))))))))))))))), ?_⟩
  refine ⟨_, rfl, a, ns, rfl, hS, hn, fun S H1 w1 => ?_⟩
  refine ⟨_, rfl, S, H, rfl, w1, fun p n T G2 H2 s2 f2 => ?_⟩
  obtain ⟨b, ts, kp, kb, dT, mvT, n0, n12, l8⟩ := f2
  refine ⟨_, rfl, p, _, 0, _, rfl, rfl, .of (s2.gh _ _ kp), rfl, ?_⟩
  refine ⟨_, rfl, p, _, 1, _, rfl, rfl, .of (s2.gh _ _ kp), rfl, ?_⟩
  refine ⟨_, rfl, _, rfl, _, rfl, S, G2, n, b, ts, T, rfl, s2.wd, n0, n12, kb, dT, mvT, l8, fun l xs ds G3 H3 s3 gl fl hl dx z40 l12 => ?_⟩
  have S3 := s2.trans s3
  have kb := s3.gg _ _ kb
  have dT := dT.up s3.gg
  have fl := s2.fresh fl
  have zT : ∀ d ∈ T.map rowD, szD d ≤ 40 := fun d hd => by
    obtain ⟨w, hw, rfl⟩ := List.mem_map.mp hd
    exact row_sz40 n12 (mvT w hw)
  have lT : (T.map rowD).length ≤ 12 := by rw [List.length_map]; omega
  clear s2 s3 kp
  refine ⟨_, rfl, S, G3, 0, 12, rfl, S3.wd, by decide, by decide, by decide, by decide, by decide, fun v dv G4 H4 s4 bad => ?_⟩
  have S4 := S3.trans s4
  have kb := s4.gg _ _ kb
  have dT := dT.up s4.gg
  have dx := dx.up s4.gg
  have gl := s4.nw hl gl
  have hl := s4.hh hl (S3.ns fl)
  clear s4 S3
  have lx := dx.length
  have one : szD (.int n) ≤ 10 := by show 1 ≤ 10; decide
  refine ⟨_, rfl, _, rfl, _, rfl, S, G4, b, ts, rfl, S4.wd, S4.wd.ne kb, S4.gh _ _ kb, fun p5 t5 H5 s5 g5 f5 h5 => ?_⟩
  have S5 := S4.trans s5
  have hl5 := s5.hh hl (S4.ns fl)
  dsimp only [tNil]
  refine fairL (.int n) h5 (dT.up S5.gh) zT lT one fun H6 s6 => ⟨_, rfl, iteBF rfl ?_⟩
  have S6 := S5.pure s6
  have hl6 := s6 _ _ hl5
  refine ⟨_, rfl, _, rfl, _, rfl, S, G4, l, xs, rfl, S6.wd, S6.ns fl, hl6, fun p7 t7 H7 s7 g7 f7 h7 => ?_⟩
  have S7 := S6.trans s7
  have hl7 := s7.hh hl6 (S6.ns fl)
  dsimp only [tNil]
  refine fairL (bad.da.up S7.gh) h7 (dx.up S7.gh) z40 l12 bad.sz fun H8 s8 => ⟨_, rfl, iteBF rfl ?_⟩
  have S8 := S7.pure s8
  have hl8 := s8 _ _ hl7
  refine ⟨_, rfl, _, rfl, ?_⟩
  dsimp only [tNil]
  refine fairL (t := false) (.int n) hl8 (dx.up S8.gh) z40 l12 one fun H9 s9 => ⟨_, rfl, iteBF rfl ?_⟩
  have S9 := S8.pure s9
  have hl9 := s9 _ _ hl8
  refine ⟨_, rfl, _, rfl, ?_⟩
  dsimp only [tNil]
  refine fairL (t := false) (bad.da.up S9.gh) (S9.gh _ _ kb) (dT.up S9.gh) zT lT bad.sz fun HA sA => ⟨_, rfl, iteBF rfl ?_⟩
  have SA := S9.pure sA
  have hlA := sA _ _ hl9
  clear S4 s5 S5 s6 S6 s7 S7 s8 S8 s9 S9 sA hl hl5 hl6 hl7 hl8 hl9 g5 f5 h5 g7 f7 h7
  refine ⟨_, rfl, l, _, rfl, .inl (.of hlA), ?_⟩
  refine ⟨_, rfl, _, rfl, by omega, by omega, for_range (lo := 0) (n := ((xs.length : Nat) : Int).toNat) (fun i σ' H' => ∃ (y8 : Option V) (G' : Hp) (ys : List V) (es : List PyData), σ' = [some (.ref a), some (.ref S.a), some (.ref p), some (.int n), some (.ref b), some (.ref l), some v, some (.int ((xs.length : Nat) : Int)), y8] ∧ Go S H H1 G' H' ∧ G' l = none ∧ H' l = some (.lst ys) ∧ DaAll G' ys es ∧ (∀ d ∈ es, szD d ≤ 40) ∧ es.length = xs.length) ?_ ?_ ?_⟩
  · exact ⟨_, G4, xs, ds, rfl, SA, gl, hlA, dx, z40, by omega⟩
  · rintro i σ' H' hi ⟨y8, G', ys, es, rfl, s', gl', hl', de, ze, le⟩
    have ly := de.length
    obtain ⟨x, hx⟩ : ∃ x, ys[i]? = some x := ⟨_, List.getElem?_eq_getElem (by omega)⟩
    obtain ⟨d, hd, dd⟩ := de.get hx
    have zd := ze d (List.mem_of_getElem? hd)
    have at_ : atI ys (0 + (i : Int)) = some x := by rw [Int.zero_add]; exact atI_nat hx
    refine ⟨_, rfl, _, rfl, ?_⟩
    refine ⟨l, _, _, _, rfl, rfl, .of hl', at_, _, rfl, G', x, d, n, rfl, s'.gh, dd, by omega, fun H2 s2 => ⟨_, rfl, ?_⟩⟩
    have S2 := s'.pure s2
    have hl2 := s2 _ _ hl'
    cases fitsB n d with
    | true => exact iteF ⟨_, G', ys, es, rfl, S2, gl', hl2, de, ze, le⟩
    | false =>
      refine iteT ⟨_, rfl, n, rfl, .of_le (by decide) (by omega) (by decide) (by omega), fun st H3 n3 => ?_⟩
      rw [rgV_rngI] at n3
      obtain ⟨G3, S3, g3, k3, o3⟩ := S2.know n3
      have hl3 := n3.else hl2
      have gl3 : G3 l = none := by
        rw [o3 l fun e => by rw [e, n3.fr] at hl2; cases hl2]
        exact gl'
      refine ⟨_, rfl, _, rfl, l, ys, i, rfl, by rw [Int.zero_add], hl3, by omega, fun H4 e4 => ?_⟩
      refine ⟨_, G3, _, _, rfl, S3.mut gl3 fl e4, gl3, upd_at e4, (de.up g3).set (.tup k3 (DaAll.ints _)) i, fun e he => ?_, by rw [List.length_set]; exact le⟩
      rcases List.mem_or_eq_of_mem_set he with he | rfl
      · exact ze e he
      · exact row_sz40 n12 rngI_mv
  rintro σ' H' ⟨y8, G', ys, es, rfl, s', gl', hl', de, ze, le⟩
  have ly := de.length
  refine ⟨_, rfl, _, rfl, ?_⟩
  dsimp only [tNil]
  refine fairL (t := false) (.int n) hl' (de.up s'.gh) ze (by omega) one fun HB sB => ⟨_, rfl, iteBF rfl ?_⟩
  have SB := s'.pure sB
  have hlB := sB _ _ hl'
  refine ⟨_, rfl, 8, _, rfl, ⟨by omega, by omega, by omega, by omega⟩, for_range (lo := 8) (n := (((xs.length : Nat) : Int) - 8).toNat) (fun i σ' H' => ∃ (y8 : Option V) (ys : List V) (es : List PyData), σ' = [some (.ref a), some (.ref S.a), some (.ref p), some (.int n), some (.ref b), some (.ref l), some v, some (.int ((xs.length : Nat) : Int)), y8] ∧ Go S H H1 G' H' ∧ H' l = some (.lst ys) ∧ DaAll G' ys es ∧ (∀ d ∈ es, szD d ≤ 40) ∧ es.length + i = xs.length) ?_ ?_ ?_⟩
  · exact ⟨_, ys, es, rfl, SB, hlB, de, ze, by omega⟩
  · rintro i σ' H2 hi ⟨y8, ys, es, rfl, s2, hl2, de, ze, le⟩
    have ly := de.length
    obtain ⟨x, hx⟩ : ∃ x, ys[ys.length - 1]? = some x := ⟨_, List.getElem?_eq_getElem (by omega)⟩
    refine ⟨_, rfl, .inl ⟨rfl, _, .of hl2⟩, l, ys, x, rfl, rfl, hl2, hx, fun H3 e3 => ?_⟩
    refine ⟨_, ys.dropLast, es.dropLast, rfl, s2.mut gl' fl e3, upd_at e3, ?_, fun e he => ze e (List.dropLast_subset _ he), by rw [List.length_dropLast]; omega⟩
    rw [List.dropLast_eq_take, List.dropLast_eq_take, ly]
    exact de.take _
  clear ze de le ly hl' hlB SB sB s' es ys y8
  rintro σ' H2 ⟨y8, ys, es, rfl, s2, hl2, de, ze, le⟩
  have ly := de.length
  have same2 : ∀ {Ha Hb Hc : Hp} {l1 l2 : Addr}, New Ha l1 (.lst [.int 8, .int 400]) Hb → New Hb l2 (.lst [.int 8, .int 400]) Hc → spSame [.ref l1, .ref l2] Hc Q E := fun n1 n2 => same_ok (d := .list [.int 8, .int 400]) (.lst (n2.else n1.at) (.cons (.int _) (.cons (.int _) .nil))) (.lst n2.at (.cons (.int _) (.cons (.int _) .nil))) (by decide) fun H' _ => q H'
  refine ⟨_, rfl, _, _, rfl, rfl, _, rfl, ite2 (fun c => ?_) (fun c => ?_)⟩
  · refine ⟨_, rfl, _, rfl, _, rfl, S, G', l, ys, rfl, s2.wd, s2.ns fl, hl2, fun p7 t7 H7 s7 g7 f7 h7 => ?_⟩
    have S7 := s2.trans s7
    dsimp only [tNil]
    refine fairL (.int n) h7 (de.up S7.gh) ze (by omega) one fun H8 s8 => ⟨_, rfl, iteBF rfl ?_⟩
    exact ⟨by show 2 ≤ sizeLine; decide, fun l1 Ha na => ⟨by show 2 ≤ sizeLine; decide, fun l2 Hb nb => same2 na nb⟩⟩
  · exact ⟨by show 2 ≤ sizeLine; decide, fun l1 Ha na => ⟨by show 2 ≤ sizeLine; decide, fun l2 Hb nb => same2 na nb⟩⟩

end
theorem w_Z {P : Program} {w : World} {K : PySem.W.Frag} {h : Heap} {mg : Str → Option Value} (X : K.In h) (G : h.Ns mainGlobals mg) (c : SaysW faL fnL exL K) : Zs mg := ⟨He.free_ok X G (c.fact 1 (f := .free "ValueError") rfl),
    He.free_ok X G (c.fact 2 (f := .free "isinstance") rfl),
    He.free_ok X G (c.fact 3 (f := .free "int") rfl),
    He.free_ok X G (c.fact 4 (f := .free "bool") rfl),
    He.free_ok X G (c.fact 5 (f := .free "str") rfl),
    He.free_ok X G (c.fact 6 (f := .free "tuple") rfl),
    He.free_ok X G (c.fact 7 (f := .free "list") rfl),
    He.free_ok X G (c.fact 8 (f := .free "len") rfl),
    He.free_ok X G (c.fact 9 (f := .free "range") rfl),
    He.free_ok X G (c.fact 10 (f := .free "all") rfl),
    He.free_ok X G (c.fact 11 (f := .free "sorted") rfl),
    He.free_ok X G (c.fact 12 (f := .free "min") rfl),
    He.free_ok X G (c.fact 13 (f := .free "enumerate") rfl),
    He.free_ok X G (c.fact 14 (f := .free "iter") rfl),
    He.int_ok X G (c.fact 15 (f := .int "MOST_POINTS" 12) rfl),
    He.int_ok X G (c.fact 16 (f := .int "MOST_TOLD" 8) rfl),
    He.int_ok X G (c.fact 17 (f := .int "MOST_MADE" 400) rfl)⟩
theorem w_D {P : Program} {w : World} {K : PySem.W.Frag} {h : Heap} {mg : Str → Option Value} (X : K.In h) (G : h.Ns mainGlobals mg) (c : SaysW faL fnL exL K) : Ds K mg := ⟨def_w X G (c.def_ 1 (d := dFn "is_number" s_is_number) rfl) (c.fact 18 (f := .glo "is_number") rfl) (fun _ _ _ _ _ _ us hl => match us, hl with | [_, _, _], _ => rfl),
    def_w X G (c.def_ 2 (d := dFn "is_point" s_is_point) rfl) (c.fact 19 (f := .glo "is_point") rfl) (fun _ _ _ _ _ _ us hl => match us, hl with | [_, _], _ => rfl),
    def_w X G (c.def_ 3 (d := dFn "is_move_on" s_is_move_on) rfl) (c.fact 20 (f := .glo "is_move_on") rfl) (fun _ _ _ _ _ _ us hl => match us, hl with | [_, _], _ => rfl),
    def_w X G (c.def_ 4 (d := dFn "check_number" s_check_number) rfl) (c.fact 21 (f := .glo "check_number") rfl) (fun _ _ _ _ _ _ us hl => match us, hl with | [_, _, _], _ => rfl),
    def_w X G (c.def_ 5 (d := dFn "check_points" s_check_points) rfl) (c.fact 22 (f := .glo "check_points") rfl) (fun _ _ _ _ _ _ us hl => match us, hl with | [_], _ => rfl),
    def_w X G (c.def_ 6 (d := dFn "check_moves" s_check_moves) rfl) (c.fact 23 (f := .glo "check_moves") rfl) (fun _ _ _ _ _ _ us hl => match us, hl with | [_, _, _, _], _ => rfl),
    def_w X G (c.def_ 7 (d := dFn "carry" s_carry) rfl) (c.fact 24 (f := .glo "carry") rfl) (fun _ _ _ _ _ _ us hl => match us, hl with | [_, _], _ => rfl),
    def_w X G (c.def_ 8 (d := dFn "still_move" s_still_move) rfl) (c.fact 25 (f := .glo "still_move") rfl) (fun _ _ _ _ _ _ us hl => match us, hl with | [_], _ => rfl),
    def_w X G (c.def_ 9 (d := dFn "best_words" s_best_words) rfl) (c.fact 26 (f := .glo "best_words") rfl) (fun _ _ _ _ _ _ us hl => match us, hl with | [_, _], _ => rfl),
    defD_w X G (c.def_ 10 (d := dFnD "make_all" s_make_all) rfl) (c.fact 27 (f := .glo "make_all") rfl) (fun _ _ _ _ _ _ _ us its hl h1 => match us, hl, its, h1 with | [_, _], _, [_], _ => ⟨_, rfl, rfl⟩),
    def_w X G (c.def_ 11 (d := dFn "_next_layer" s_next_layer) rfl) (c.fact 28 (f := .glo "_next_layer") rfl) (fun _ _ _ _ _ _ us hl => match us, hl with | [_, _, _], _ => rfl),
    def_w X G (c.def_ 12 (d := dFn "_law_store" s_law_store) rfl) (c.fact 29 (f := .glo "_law_store") rfl) (fun _ _ _ _ _ _ us hl => match us, hl with | [_], _ => rfl),
    def_w X G (c.def_ 13 (d := dFn "_law_mixed" s_law_mixed) rfl) (c.fact 30 (f := .glo "_law_mixed") rfl) (fun _ _ _ _ _ _ us hl => match us, hl with | [_, _], _ => rfl),
    def_w X G (c.def_ 14 (d := dFn "_law_take" s_law_take) rfl) (c.fact 31 (f := .glo "_law_take") rfl) (fun _ _ _ _ _ _ us hl => match us, hl with | [_, _], _ => rfl),
    def_w X G (c.def_ 15 (d := dFn "_law_pick" s_law_pick) rfl) (c.fact 32 (f := .glo "_law_pick") rfl) (fun _ _ _ _ _ _ us hl => match us, hl with | [_, _], _ => rfl),
    def_w X G (c.def_ 16 (d := dFn "_law_place" s_law_place) rfl) (c.fact 33 (f := .glo "_law_place") rfl) (fun _ _ _ _ _ _ us hl => match us, hl with | [_, _], _ => rfl),
    def_w X G (c.def_ 17 (d := dFn "_law_drawn" s_law_drawn) rfl) (c.fact 34 (f := .glo "_law_drawn") rfl) (fun _ _ _ _ _ _ us hl => match us, hl with | [_, _, _], _ => rfl),
    def_w X G (c.def_ 18 (d := dFn "_law_either" s_law_either) rfl) (c.fact 35 (f := .glo "_law_either") rfl) (fun _ _ _ _ _ _ us hl => match us, hl with | [_, _], _ => rfl),
    def_w X G (c.def_ 19 (d := dFn "_law_bad_number" s_law_bad_number) rfl) (c.fact 36 (f := .glo "_law_bad_number") rfl) (fun _ _ _ _ _ _ us hl => match us, hl with | [_, _, _, _], _ => rfl),
    def_w X G (c.def_ 20 (d := dFn "_law_is_whole" s_law_is_whole) rfl) (c.fact 37 (f := .glo "_law_is_whole") rfl) (fun _ _ _ _ _ _ us hl => match us, hl with | [_], _ => rfl),
    def_w X G (c.def_ 21 (d := dFn "_law_same" s_law_same) rfl) (c.fact 38 (f := .glo "_law_same") rfl) (fun _ _ _ _ _ _ us hl => match us, hl with | [_, _], _ => rfl),
    def_w X G (c.def_ 22 (d := dFn "_law_frozen" s_law_frozen) rfl) (c.fact 39 (f := .glo "_law_frozen") rfl) (fun _ _ _ _ _ _ us hl => match us, hl with | [_, _], _ => rfl),
    def_w X G (c.def_ 23 (d := dFn "_law_after" s_law_after) rfl) (c.fact 40 (f := .glo "_law_after") rfl) (fun _ _ _ _ _ _ us hl => match us, hl with | [_, _], _ => rfl),
    def_w X G (c.def_ 24 (d := dFn "_law_renamed" s_law_renamed) rfl) (c.fact 41 (f := .glo "_law_renamed") rfl) (fun _ _ _ _ _ _ us hl => match us, hl with | [_, _], _ => rfl),
    def_w X G (c.def_ 25 (d := dFn "_law_move" s_law_move) rfl) (c.fact 42 (f := .glo "_law_move") rfl) (fun _ _ _ _ _ _ us hl => match us, hl with | [_, _], _ => rfl),
    def_w X G (c.def_ 26 (d := dFn "_law_move_fits" s_law_move_fits) rfl) (c.fact 43 (f := .glo "_law_move_fits") rfl) (fun _ _ _ _ _ _ us hl => match us, hl with | [_, _], _ => rfl),
    def_w X G (c.def_ 27 (d := dFn "_law_group" s_law_group) rfl) (c.fact 44 (f := .glo "_law_group") rfl) (fun _ _ _ _ _ _ us hl => match us, hl with | [_, _, _], _ => rfl),
    def_w X G (c.def_ 28 (d := dFn "_law_cut" s_law_cut) rfl) (c.fact 45 (f := .glo "_law_cut") rfl) (fun _ _ _ _ _ _ us hl => match us, hl with | [_, _, _], _ => rfl),
    def_w X G (c.def_ 29 (d := dFn "_law_block_moves" s_law_block_moves) rfl) (c.fact 46 (f := .glo "_law_block_moves") rfl) (fun _ _ _ _ _ _ us hl => match us, hl with | [_, _], _ => rfl),
    def_w X G (c.def_ 30 (d := dFn "_law_limit_world" s_law_limit_world) rfl) (c.fact 47 (f := .glo "_law_limit_world") rfl) (fun _ _ _ _ _ _ us hl => match us, hl with | [_], _ => rfl),
    def_w X G (c.def_ 31 (d := dFn "_law_alone" s_law_alone) rfl) (c.fact 48 (f := .glo "_law_alone") rfl) (fun _ _ _ _ _ _ us hl => match us, hl with | [_], _ => rfl),
    def_w X G (c.def_ 32 (d := dFn "_law_refusal" s_law_refusal) rfl) (c.fact 49 (f := .glo "_law_refusal") rfl) (fun _ _ _ _ _ _ us hl => match us, hl with | [_, _], _ => rfl),
    def_w X G (c.def_ 33 (d := dFn "_law_no_move" s_law_no_move) rfl) (c.fact 50 (f := .glo "_law_no_move") rfl) (fun _ _ _ _ _ _ us hl => match us, hl with | [_, _], _ => rfl),
    def_w X G (c.def_ 34 (d := dFn "_law_due" s_law_due) rfl) (c.fact 51 (f := .glo "_law_due") rfl) (fun _ _ _ _ _ _ us hl => match us, hl with | [_, _], _ => rfl),
    def_w X G (c.def_ 35 (d := dFn "_law_made" s_law_made) rfl) (c.fact 52 (f := .glo "_law_made") rfl) (fun _ _ _ _ _ _ us hl => match us, hl with | [_, _, _], _ => rfl),
    def_w X G (c.def_ 36 (d := dFn "_law_world_made" s_law_world_made) rfl) (c.fact 53 (f := .glo "_law_world_made") rfl) (fun _ _ _ _ _ _ us hl => match us, hl with | [_, _, _], _ => rfl),
    def_w X G (c.def_ 37 (d := dFn "_law_fair" s_law_fair) rfl) (c.fact 54 (f := .glo "_law_fair") rfl) (fun _ _ _ _ _ _ us hl => match us, hl with | [_, _], _ => rfl),
    def_w X G (c.def_ 38 (d := dFn "_law_told_moves" s_law_told_moves) rfl) (c.fact 55 (f := .glo "_law_told_moves") rfl) (fun _ _ _ _ _ _ us hl => match us, hl with | [_], _ => rfl),
    def_w X G (c.def_ 39 (d := dFn "_law_more" s_law_more) rfl) (c.fact 56 (f := .glo "_law_more") rfl) (fun _ _ _ _ _ _ us hl => match us, hl with | [_, _, _], _ => rfl)⟩
theorem w_W {P : Program} {w : World} {K : PySem.W.Frag} {h : Heap} {mg : Str → Option Value} (X : K.In h) (G : h.Ns mainGlobals mg) (c : SaysW faL fnL exL K) : Dw K mg (He.ga K "World") := ⟨wc_w X G (c.fact 57 (f := .glo "World") rfl) (c.more 0 (f := wcB "World") rfl),
    He.noat_ok (c.fact 58 (f := .noat "World" "_made") rfl),
    He.noat_ok (c.fact 59 (f := .noat "World" "_points") rfl),
    He.noat_ok (c.fact 60 (f := .noat "World" "_told") rfl),
    mdefD_w (c.def_ 40 (d := dMeD "World" "__init__" "World.__init__" s_World___init__) rfl) (c.fact 61 (f := .meth "World" "__init__") rfl) (fun _ _ _ _ _ _ _ us its hl h1 => match us, hl, its, h1 with | [_, _, _], _, [_], _ => ⟨_, rfl, rfl⟩),
    pdef_w (c.def_ 41 (d := dPr "World" "points" "World.points" s_World_points) rfl) (c.more 1 (f := prB "World" "points") rfl) (fun _ _ _ _ _ _ us hl => match us, hl with | [_], _ => rfl),
    pdef_w (c.def_ 42 (d := dPr "World" "told" "World.told" s_World_told) rfl) (c.more 2 (f := prB "World" "told") rfl) (fun _ _ _ _ _ _ us hl => match us, hl with | [_], _ => rfl),
    pdef_w (c.def_ 43 (d := dPr "World" "made" "World.made" s_World_made) rfl) (c.more 3 (f := prB "World" "made") rfl) (fun _ _ _ _ _ _ us hl => match us, hl with | [_], _ => rfl),
    mdef_w (c.def_ 44 (d := dMe "World" "__len__" "World.__len__" s_World___len__) rfl) (c.fact 62 (f := .meth "World" "__len__") rfl) (fun _ _ _ _ _ _ us hl => match us, hl with | [_], _ => rfl),
    mdef_w (c.def_ 45 (d := dMe "World" "__iter__" "World.__iter__" s_World___iter__) rfl) (c.fact 63 (f := .meth "World" "__iter__") rfl) (fun _ _ _ _ _ _ us hl => match us, hl with | [_], _ => rfl),
    mdef_w (c.def_ 46 (d := dMe "World" "__contains__" "World.__contains__" s_World___contains__) rfl) (c.fact 64 (f := .meth "World" "__contains__") rfl) (fun _ _ _ _ _ _ us hl => match us, hl with | [_, _], _ => rfl),
    mdef_w (c.def_ 47 (d := dMe "World" "__eq__" "World.__eq__" s_World___eq__) rfl) (c.fact 65 (f := .meth "World" "__eq__") rfl) (fun _ _ _ _ _ _ us hl => match us, hl with | [_, _], _ => rfl)⟩
theorem w_ec_BadNumber {P : Program} {w : World} {K : PySem.W.Frag} {h : Heap} {mg : Str → Option Value} (X : K.In h) (G : h.Ns mainGlobals mg) (c : SaysW faL fnL exL K) : Ec K mg "BadNumber" (He.ga K "BadNumber") := ec_w X G (c.fact 66 (f := .glo "BadNumber") rfl) (c.more 4 (f := ecB "BadNumber") rfl)
theorem w_es_BadNumber {P : Program} {w : World} {K : PySem.W.Frag} {h : Heap} {mg : Str → Option Value} (X : K.In h) (G : h.Ns mainGlobals mg) (c : SaysW faL fnL exL K) : Es K mg 0 "BadNumber" (He.ga K "BadNumber") := ⟨(w_ec_BadNumber (P := P) (w := w) X G c), by decide, is_w X G (c.fact 66 (f := .glo "BadNumber") rfl) (c.more 5 (f := isB "BadNumber" "BadNumber" true) rfl),
    is_w X G (c.fact 67 (f := .glo "NotAPoint") rfl) (c.more 6 (f := isB "BadNumber" "NotAPoint" false) rfl),
    is_w X G (c.fact 68 (f := .glo "NotAMove") rfl) (c.more 7 (f := isB "BadNumber" "NotAMove" false) rfl),
    is_w X G (c.fact 69 (f := .glo "TooMany") rfl) (c.more 8 (f := isB "BadNumber" "TooMany" false) rfl),
    is_w X G (c.fact 70 (f := .glo "UnlikeSizes") rfl) (c.more 9 (f := isB "BadNumber" "UnlikeSizes" false) rfl),
    is_w X G (c.fact 71 (f := .glo "RepeatedPoint") rfl) (c.more 10 (f := isB "BadNumber" "RepeatedPoint" false) rfl),
    is_w X G (c.fact 72 (f := .glo "BadText") rfl) (c.more 11 (f := isB "BadNumber" "BadText" false) rfl),
    is_w X G (c.fact 73 (f := .glo "NotMade") rfl) (c.more 12 (f := isB "BadNumber" "NotMade" false) rfl),
    is_w X G (c.fact 74 (f := .glo "NotTight") rfl) (c.more 13 (f := isB "BadNumber" "NotTight" false) rfl),
    is_w X G (c.fact 75 (f := .glo "NotFull") rfl) (c.more 14 (f := isB "BadNumber" "NotFull" false) rfl),
    is_w X G (c.fact 76 (f := .glo "NotAFailing") rfl) (c.more 15 (f := isB "BadNumber" "NotAFailing" false) rfl),
    is_w X G (c.fact 77 (f := .glo "NotNeighbours") rfl) (c.more 16 (f := isB "BadNumber" "NotNeighbours" false) rfl),
    is_w X G (c.fact 78 (f := .glo "NotShorter") rfl) (c.more 17 (f := isB "BadNumber" "NotShorter" false) rfl),
    is_w X G (c.fact 79 (f := .glo "SameLength") rfl) (c.more 18 (f := isB "BadNumber" "SameLength" false) rfl),
    is_w X G (c.fact 80 (f := .glo "NoSuchLength") rfl) (c.more 19 (f := isB "BadNumber" "NoSuchLength" false) rfl),
    is_w X G (c.fact 81 (f := .glo "NotAnOrder") rfl) (c.more 20 (f := isB "BadNumber" "NotAnOrder" false) rfl),
    is_w X G (c.fact 82 (f := .glo "NotAChain") rfl) (c.more 21 (f := isB "BadNumber" "NotAChain" false) rfl),
    is_w X G (c.fact 83 (f := .glo "NotABase") rfl) (c.more 22 (f := isB "BadNumber" "NotABase" false) rfl),
    is_w X G (c.fact 84 (f := .glo "NotInside") rfl) (c.more 23 (f := isB "BadNumber" "NotInside" false) rfl),
    is_w X G (c.fact 85 (f := .glo "OrderMatters") rfl) (c.more 24 (f := isB "BadNumber" "OrderMatters" false) rfl),
    is_w X G (c.fact 86 (f := .glo "FullLot") rfl) (c.more 25 (f := isB "BadNumber" "FullLot" false) rfl),
    is_w X G (c.fact 87 (f := .glo "NotAWord") rfl) (c.more 26 (f := isB "BadNumber" "NotAWord" false) rfl),
    is_w X G (c.fact 88 (f := .glo "NotAColumn") rfl) (c.more 27 (f := isB "BadNumber" "NotAColumn" false) rfl),
    is_w X G (c.fact 89 (f := .glo "NotACount") rfl) (c.more 28 (f := isB "BadNumber" "NotACount" false) rfl),
    is_w X G (c.fact 90 (f := .glo "GameOver") rfl) (c.more 29 (f := isB "BadNumber" "GameOver" false) rfl),
    is_w X G (c.fact 91 (f := .glo "NotAllowed") rfl) (c.more 30 (f := isB "BadNumber" "NotAllowed" false) rfl),
    is_w X G (c.fact 92 (f := .glo "NothingToUndo") rfl) (c.more 31 (f := isB "BadNumber" "NothingToUndo" false) rfl),
    is_w X G (c.fact 93 (f := .glo "NothingToRedo") rfl) (c.more 32 (f := isB "BadNumber" "NothingToRedo" false) rfl),
    is_w X G (c.fact 94 (f := .glo "NothingKept") rfl) (c.more 33 (f := isB "BadNumber" "NothingKept" false) rfl),
    is_w X G (c.fact 95 (f := .glo "BadEdit") rfl) (c.more 34 (f := isB "BadNumber" "BadEdit" false) rfl),
    is_w X G (c.fact 96 (f := .glo "UnknownName") rfl) (c.more 35 (f := isB "BadNumber" "UnknownName" false) rfl),
    is_w X G (c.fact 97 (f := .glo "NotAPaper") rfl) (c.more 36 (f := isB "BadNumber" "NotAPaper" false) rfl),
    is_w X G (c.fact 98 (f := .glo "HeldorderError") rfl) (c.more 37 (f := isB "BadNumber" "HeldorderError" true) rfl),
    hn_w X G (c.fact 98 (f := .glo "HeldorderError") rfl) (c.more 38 (f := hnB "BadNumber" "HeldorderError" true) rfl),
    of_decide_eq_true (c.more 39 (f := ivB "BadNumber") rfl)⟩
theorem w_ec_NotAMove {P : Program} {w : World} {K : PySem.W.Frag} {h : Heap} {mg : Str → Option Value} (X : K.In h) (G : h.Ns mainGlobals mg) (c : SaysW faL fnL exL K) : Ec K mg "NotAMove" (He.ga K "NotAMove") := ec_w X G (c.fact 68 (f := .glo "NotAMove") rfl) (c.more 41 (f := ecB "NotAMove") rfl)
theorem w_es_NotAMove {P : Program} {w : World} {K : PySem.W.Frag} {h : Heap} {mg : Str → Option Value} (X : K.In h) (G : h.Ns mainGlobals mg) (c : SaysW faL fnL exL K) : Es K mg 2 "NotAMove" (He.ga K "NotAMove") := ⟨(w_ec_NotAMove (P := P) (w := w) X G c), by decide, is_w X G (c.fact 66 (f := .glo "BadNumber") rfl) (c.more 42 (f := isB "NotAMove" "BadNumber" false) rfl),
    is_w X G (c.fact 67 (f := .glo "NotAPoint") rfl) (c.more 43 (f := isB "NotAMove" "NotAPoint" false) rfl),
    is_w X G (c.fact 68 (f := .glo "NotAMove") rfl) (c.more 44 (f := isB "NotAMove" "NotAMove" true) rfl),
    is_w X G (c.fact 69 (f := .glo "TooMany") rfl) (c.more 45 (f := isB "NotAMove" "TooMany" false) rfl),
    is_w X G (c.fact 70 (f := .glo "UnlikeSizes") rfl) (c.more 46 (f := isB "NotAMove" "UnlikeSizes" false) rfl),
    is_w X G (c.fact 71 (f := .glo "RepeatedPoint") rfl) (c.more 47 (f := isB "NotAMove" "RepeatedPoint" false) rfl),
    is_w X G (c.fact 72 (f := .glo "BadText") rfl) (c.more 48 (f := isB "NotAMove" "BadText" false) rfl),
    is_w X G (c.fact 73 (f := .glo "NotMade") rfl) (c.more 49 (f := isB "NotAMove" "NotMade" false) rfl),
    is_w X G (c.fact 74 (f := .glo "NotTight") rfl) (c.more 50 (f := isB "NotAMove" "NotTight" false) rfl),
    is_w X G (c.fact 75 (f := .glo "NotFull") rfl) (c.more 51 (f := isB "NotAMove" "NotFull" false) rfl),
    is_w X G (c.fact 76 (f := .glo "NotAFailing") rfl) (c.more 52 (f := isB "NotAMove" "NotAFailing" false) rfl),
    is_w X G (c.fact 77 (f := .glo "NotNeighbours") rfl) (c.more 53 (f := isB "NotAMove" "NotNeighbours" false) rfl),
    is_w X G (c.fact 78 (f := .glo "NotShorter") rfl) (c.more 54 (f := isB "NotAMove" "NotShorter" false) rfl),
    is_w X G (c.fact 79 (f := .glo "SameLength") rfl) (c.more 55 (f := isB "NotAMove" "SameLength" false) rfl),
    is_w X G (c.fact 80 (f := .glo "NoSuchLength") rfl) (c.more 56 (f := isB "NotAMove" "NoSuchLength" false) rfl),
    is_w X G (c.fact 81 (f := .glo "NotAnOrder") rfl) (c.more 57 (f := isB "NotAMove" "NotAnOrder" false) rfl),
    is_w X G (c.fact 82 (f := .glo "NotAChain") rfl) (c.more 58 (f := isB "NotAMove" "NotAChain" false) rfl),
    is_w X G (c.fact 83 (f := .glo "NotABase") rfl) (c.more 59 (f := isB "NotAMove" "NotABase" false) rfl),
    is_w X G (c.fact 84 (f := .glo "NotInside") rfl) (c.more 60 (f := isB "NotAMove" "NotInside" false) rfl),
    is_w X G (c.fact 85 (f := .glo "OrderMatters") rfl) (c.more 61 (f := isB "NotAMove" "OrderMatters" false) rfl),
    is_w X G (c.fact 86 (f := .glo "FullLot") rfl) (c.more 62 (f := isB "NotAMove" "FullLot" false) rfl),
    is_w X G (c.fact 87 (f := .glo "NotAWord") rfl) (c.more 63 (f := isB "NotAMove" "NotAWord" false) rfl),
    is_w X G (c.fact 88 (f := .glo "NotAColumn") rfl) (c.more 64 (f := isB "NotAMove" "NotAColumn" false) rfl),
    is_w X G (c.fact 89 (f := .glo "NotACount") rfl) (c.more 65 (f := isB "NotAMove" "NotACount" false) rfl),
    is_w X G (c.fact 90 (f := .glo "GameOver") rfl) (c.more 66 (f := isB "NotAMove" "GameOver" false) rfl),
    is_w X G (c.fact 91 (f := .glo "NotAllowed") rfl) (c.more 67 (f := isB "NotAMove" "NotAllowed" false) rfl),
    is_w X G (c.fact 92 (f := .glo "NothingToUndo") rfl) (c.more 68 (f := isB "NotAMove" "NothingToUndo" false) rfl),
    is_w X G (c.fact 93 (f := .glo "NothingToRedo") rfl) (c.more 69 (f := isB "NotAMove" "NothingToRedo" false) rfl),
    is_w X G (c.fact 94 (f := .glo "NothingKept") rfl) (c.more 70 (f := isB "NotAMove" "NothingKept" false) rfl),
    is_w X G (c.fact 95 (f := .glo "BadEdit") rfl) (c.more 71 (f := isB "NotAMove" "BadEdit" false) rfl),
    is_w X G (c.fact 96 (f := .glo "UnknownName") rfl) (c.more 72 (f := isB "NotAMove" "UnknownName" false) rfl),
    is_w X G (c.fact 97 (f := .glo "NotAPaper") rfl) (c.more 73 (f := isB "NotAMove" "NotAPaper" false) rfl),
    is_w X G (c.fact 98 (f := .glo "HeldorderError") rfl) (c.more 74 (f := isB "NotAMove" "HeldorderError" true) rfl),
    hn_w X G (c.fact 98 (f := .glo "HeldorderError") rfl) (c.more 75 (f := hnB "NotAMove" "HeldorderError" true) rfl),
    of_decide_eq_true (c.more 76 (f := ivB "NotAMove") rfl)⟩
theorem w_ec_TooMany {P : Program} {w : World} {K : PySem.W.Frag} {h : Heap} {mg : Str → Option Value} (X : K.In h) (G : h.Ns mainGlobals mg) (c : SaysW faL fnL exL K) : Ec K mg "TooMany" (He.ga K "TooMany") := ec_w X G (c.fact 69 (f := .glo "TooMany") rfl) (c.more 78 (f := ecB "TooMany") rfl)
theorem w_es_TooMany {P : Program} {w : World} {K : PySem.W.Frag} {h : Heap} {mg : Str → Option Value} (X : K.In h) (G : h.Ns mainGlobals mg) (c : SaysW faL fnL exL K) : Es K mg 3 "TooMany" (He.ga K "TooMany") := ⟨(w_ec_TooMany (P := P) (w := w) X G c), by decide, is_w X G (c.fact 66 (f := .glo "BadNumber") rfl) (c.more 79 (f := isB "TooMany" "BadNumber" false) rfl),
    is_w X G (c.fact 67 (f := .glo "NotAPoint") rfl) (c.more 80 (f := isB "TooMany" "NotAPoint" false) rfl),
    is_w X G (c.fact 68 (f := .glo "NotAMove") rfl) (c.more 81 (f := isB "TooMany" "NotAMove" false) rfl),
    is_w X G (c.fact 69 (f := .glo "TooMany") rfl) (c.more 82 (f := isB "TooMany" "TooMany" true) rfl),
    is_w X G (c.fact 70 (f := .glo "UnlikeSizes") rfl) (c.more 83 (f := isB "TooMany" "UnlikeSizes" false) rfl),
    is_w X G (c.fact 71 (f := .glo "RepeatedPoint") rfl) (c.more 84 (f := isB "TooMany" "RepeatedPoint" false) rfl),
    is_w X G (c.fact 72 (f := .glo "BadText") rfl) (c.more 85 (f := isB "TooMany" "BadText" false) rfl),
    is_w X G (c.fact 73 (f := .glo "NotMade") rfl) (c.more 86 (f := isB "TooMany" "NotMade" false) rfl),
    is_w X G (c.fact 74 (f := .glo "NotTight") rfl) (c.more 87 (f := isB "TooMany" "NotTight" false) rfl),
    is_w X G (c.fact 75 (f := .glo "NotFull") rfl) (c.more 88 (f := isB "TooMany" "NotFull" false) rfl),
    is_w X G (c.fact 76 (f := .glo "NotAFailing") rfl) (c.more 89 (f := isB "TooMany" "NotAFailing" false) rfl),
    is_w X G (c.fact 77 (f := .glo "NotNeighbours") rfl) (c.more 90 (f := isB "TooMany" "NotNeighbours" false) rfl),
    is_w X G (c.fact 78 (f := .glo "NotShorter") rfl) (c.more 91 (f := isB "TooMany" "NotShorter" false) rfl),
    is_w X G (c.fact 79 (f := .glo "SameLength") rfl) (c.more 92 (f := isB "TooMany" "SameLength" false) rfl),
    is_w X G (c.fact 80 (f := .glo "NoSuchLength") rfl) (c.more 93 (f := isB "TooMany" "NoSuchLength" false) rfl),
    is_w X G (c.fact 81 (f := .glo "NotAnOrder") rfl) (c.more 94 (f := isB "TooMany" "NotAnOrder" false) rfl),
    is_w X G (c.fact 82 (f := .glo "NotAChain") rfl) (c.more 95 (f := isB "TooMany" "NotAChain" false) rfl),
    is_w X G (c.fact 83 (f := .glo "NotABase") rfl) (c.more 96 (f := isB "TooMany" "NotABase" false) rfl),
    is_w X G (c.fact 84 (f := .glo "NotInside") rfl) (c.more 97 (f := isB "TooMany" "NotInside" false) rfl),
    is_w X G (c.fact 85 (f := .glo "OrderMatters") rfl) (c.more 98 (f := isB "TooMany" "OrderMatters" false) rfl),
    is_w X G (c.fact 86 (f := .glo "FullLot") rfl) (c.more 99 (f := isB "TooMany" "FullLot" false) rfl),
    is_w X G (c.fact 87 (f := .glo "NotAWord") rfl) (c.more 100 (f := isB "TooMany" "NotAWord" false) rfl),
    is_w X G (c.fact 88 (f := .glo "NotAColumn") rfl) (c.more 101 (f := isB "TooMany" "NotAColumn" false) rfl),
    is_w X G (c.fact 89 (f := .glo "NotACount") rfl) (c.more 102 (f := isB "TooMany" "NotACount" false) rfl),
    is_w X G (c.fact 90 (f := .glo "GameOver") rfl) (c.more 103 (f := isB "TooMany" "GameOver" false) rfl),
    is_w X G (c.fact 91 (f := .glo "NotAllowed") rfl) (c.more 104 (f := isB "TooMany" "NotAllowed" false) rfl),
    is_w X G (c.fact 92 (f := .glo "NothingToUndo") rfl) (c.more 105 (f := isB "TooMany" "NothingToUndo" false) rfl),
    is_w X G (c.fact 93 (f := .glo "NothingToRedo") rfl) (c.more 106 (f := isB "TooMany" "NothingToRedo" false) rfl),
    is_w X G (c.fact 94 (f := .glo "NothingKept") rfl) (c.more 107 (f := isB "TooMany" "NothingKept" false) rfl),
    is_w X G (c.fact 95 (f := .glo "BadEdit") rfl) (c.more 108 (f := isB "TooMany" "BadEdit" false) rfl),
    is_w X G (c.fact 96 (f := .glo "UnknownName") rfl) (c.more 109 (f := isB "TooMany" "UnknownName" false) rfl),
    is_w X G (c.fact 97 (f := .glo "NotAPaper") rfl) (c.more 110 (f := isB "TooMany" "NotAPaper" false) rfl),
    is_w X G (c.fact 98 (f := .glo "HeldorderError") rfl) (c.more 111 (f := isB "TooMany" "HeldorderError" true) rfl),
    hn_w X G (c.fact 98 (f := .glo "HeldorderError") rfl) (c.more 112 (f := hnB "TooMany" "HeldorderError" true) rfl),
    of_decide_eq_true (c.more 113 (f := ivB "TooMany") rfl)⟩
theorem all_w {P : Program} {w : World} {K : PySem.W.Frag} {h : Heap} {mg : Str → Option Value} {f : Addr} (X : K.In h) (G : h.Ns mainGlobals mg) (hfa : mg ("law" : Str) = some (.ref f)) (c : SaysW faL fnL exL K) :
    ∃ fd : FuncData, (∀ (s : Shared) (v : Value), BindsTo s fd ⟨[v], []⟩ [("script", v)]) ∧ ∀ base : Heap, K.In base → base.Ns mainGlobals mg → FnOk P w K mg base CX0 11 f fd ["script"] (spLaw K) := by
  obtain ⟨fd, F⟩ := (c.def_ 0 (d := dFn "law" s_law) rfl)
  have e := hfa.symm.trans (He.glo_ok X G (c.fact 0 (f := .glo "law") rfl))
  cases e
  have b := FunD.bindsA (ps := ["script"]) F fun _ _ _ _ _ _ us hl => match us, hl with | [_], _ => rfl
  refine ⟨fd, fun s v => b s [v] rfl, fun base _ _ => ?_⟩
  have Z : Zs mg := w_Z (P := P) (w := w) X G c
  have D : Ds K mg := w_D (P := P) (w := w) X G c
  have W : Dw K mg (He.ga K "World") := w_W (P := P) (w := w) X G c
  have ec_BadNumber : Ec K mg "BadNumber" (He.ga K "BadNumber") := w_ec_BadNumber (P := P) (w := w) X G c
  have es_BadNumber : Es K mg 0 "BadNumber" (He.ga K "BadNumber") := w_es_BadNumber (P := P) (w := w) X G c
  have nf_BadNumber_value := xi_no (c.more 40 (f := xiB "BadNumber" ["value", "low", "high"]) rfl) (f := "value") (by simp)
  have nf_BadNumber_low := xi_no (c.more 40 (f := xiB "BadNumber" ["value", "low", "high"]) rfl) (f := "low") (by simp)
  have nf_BadNumber_high := xi_no (c.more 40 (f := xiB "BadNumber" ["value", "low", "high"]) rfl) (f := "high") (by simp)
  obtain ⟨fd_BadNumber, F_BadNumber⟩ := (c.def_ 48 (d := dMe "BadNumber" "__init__" "BadNumber.__init__" s_ini_BadNumber) rfl)
  have F_BadNumber : FunD K "__init__" "BadNumber.__init__" (defArgs s_ini_BadNumber) (defBody s_ini_BadNumber) (defScope s_ini_BadNumber) [] [] (He.ma K (He.ga K "BadNumber") "__init__") fd_BadNumber := F_BadNumber
  have bi_BadNumber := bindsM (ps := ["self", "value", "low", "high"]) (fun _ _ _ _ _ _ us hl => match us, hl with | [_, _, _, _], _ => rfl) F_BadNumber
  have m_BadNumber : Xm P w K mg base "BadNumber" (He.ga K "BadNumber") ["value", "low", "high"] := xm_w ec_BadNumber (c.more 40 (f := xiB "BadNumber" ["value", "low", "high"]) rfl) (ini3 sc_ini_BadNumber ⟨_, _, _, _, _, _, _, _, _, _, _, _, rfl⟩ ec_BadNumber.ox rfl rfl (by decide) (by decide) nf_BadNumber_value rfl (by decide) (by decide) nf_BadNumber_low rfl (by decide) (by decide) nf_BadNumber_high (He5.fun_of F_BadNumber)) bi_BadNumber
  have ec_NotAMove : Ec K mg "NotAMove" (He.ga K "NotAMove") := w_ec_NotAMove (P := P) (w := w) X G c
  have es_NotAMove : Es K mg 2 "NotAMove" (He.ga K "NotAMove") := w_es_NotAMove (P := P) (w := w) X G c
  have nf_NotAMove_index := xi_no (c.more 77 (f := xiB "NotAMove" ["index"]) rfl) (f := "index") (by simp)
  obtain ⟨fd_NotAMove, F_NotAMove⟩ := (c.def_ 49 (d := dMe "NotAMove" "__init__" "NotAMove.__init__" s_ini_NotAMove) rfl)
  have F_NotAMove : FunD K "__init__" "NotAMove.__init__" (defArgs s_ini_NotAMove) (defBody s_ini_NotAMove) (defScope s_ini_NotAMove) [] [] (He.ma K (He.ga K "NotAMove") "__init__") fd_NotAMove := F_NotAMove
  have bi_NotAMove := bindsM (ps := ["self", "index"]) (fun _ _ _ _ _ _ us hl => match us, hl with | [_, _], _ => rfl) F_NotAMove
  have m_NotAMove : Xm P w K mg base "NotAMove" (He.ga K "NotAMove") ["index"] := xm_w ec_NotAMove (c.more 77 (f := xiB "NotAMove" ["index"]) rfl) (ini1 sc_ini_NotAMove ⟨_, _, _, _, rfl⟩ ec_NotAMove.ox rfl rfl (by decide) (by decide) nf_NotAMove_index (He5.fun_of F_NotAMove)) bi_NotAMove
  have ec_TooMany : Ec K mg "TooMany" (He.ga K "TooMany") := w_ec_TooMany (P := P) (w := w) X G c
  have es_TooMany : Es K mg 3 "TooMany" (He.ga K "TooMany") := w_es_TooMany (P := P) (w := w) X G c
  have nf_TooMany_what := xi_no (c.more 114 (f := xiB "TooMany" ["what", "limit"]) rfl) (f := "what") (by simp)
  have nf_TooMany_limit := xi_no (c.more 114 (f := xiB "TooMany" ["what", "limit"]) rfl) (f := "limit") (by simp)
  obtain ⟨fd_TooMany, F_TooMany⟩ := (c.def_ 50 (d := dMe "TooMany" "__init__" "TooMany.__init__" s_ini_TooMany) rfl)
  have F_TooMany : FunD K "__init__" "TooMany.__init__" (defArgs s_ini_TooMany) (defBody s_ini_TooMany) (defScope s_ini_TooMany) [] [] (He.ma K (He.ga K "TooMany") "__init__") fd_TooMany := F_TooMany
  have bi_TooMany := bindsM (ps := ["self", "what", "limit"]) (fun _ _ _ _ _ _ us hl => match us, hl with | [_, _, _], _ => rfl) F_TooMany
  have m_TooMany : Xm P w K mg base "TooMany" (He.ga K "TooMany") ["what", "limit"] := xm_w ec_TooMany (c.more 114 (f := xiB "TooMany" ["what", "limit"]) rfl) (ini2 sc_ini_TooMany ⟨_, _, _, _, _, _, _, _, rfl⟩ ec_TooMany.ox rfl rfl (by decide) (by decide) nf_TooMany_what rfl (by decide) (by decide) nf_TooMany_limit (He5.fun_of F_TooMany)) bi_TooMany
  have c__law_mixed := ok_mixed (P := P) (w := w) (K := K) (mg := mg) (base := base) Z D
  have c__law_take := ok_take (P := P) (w := w) (K := K) (mg := mg) (base := base) Z D c__law_mixed
  have c__law_pick := ok_pick (P := P) (w := w) (K := K) (mg := mg) (base := base) Z D c__law_take
  have c__law_place := ok_place (P := P) (w := w) (K := K) (mg := mg) (base := base) Z D c__law_take
  have c__law_drawn := ok_drawn (P := P) (w := w) (K := K) (mg := mg) (base := base) Z D c__law_take
  have c__law_either := ok_either (P := P) (w := w) (K := K) (mg := mg) (base := base) Z D c__law_take
  have c__law_is_whole := ok_is_whole (P := P) (w := w) (K := K) (mg := mg) (base := base) Z D
  have c__law_same := ok_same (P := P) (w := w) (K := K) (mg := mg) (base := base) Z D c__law_is_whole
  have c__law_is_whole_h := ok_is_whole_h (P := P) (w := w) (K := K) (mg := mg) (base := base) Z D
  have c__law_same_h := ok_same_h (P := P) (w := w) (K := K) (mg := mg) (base := base) Z D c__law_is_whole_h
  have c_is_number := ok_is_number (P := P) (w := w) (K := K) (mg := mg) (base := base) Z D
  have c_is_point := ok_is_point (P := P) (w := w) (K := K) (mg := mg) (base := base) Z D c_is_number
  have c_is_move_on := ok_is_move_on (P := P) (w := w) (K := K) (mg := mg) (base := base) Z D c_is_point
  have c__law_move := ok_move (P := P) (w := w) (K := K) (mg := mg) (base := base) Z D c__law_take c__law_drawn
  have c__law_store := ok_store (P := P) (w := w) (K := K) (mg := mg) (base := base) Z D
  have c__law_alone_h := ok_alone_h (P := P) (w := w) (K := K) (mg := mg) (base := base) Z D
  have c__law_move_fits := ok_move_fits (P := P) (w := w) (K := K) (mg := mg) (base := base) Z D c__law_is_whole
  have c__law_renamed := ok_renamed (P := P) (w := w) (K := K) (mg := mg) (base := base) Z D
  have c__law_block_moves := ok_block_moves (P := P) (w := w) (K := K) (mg := mg) (base := base) Z D c__law_take
  have c_carry__w := ok_carry__w (P := P) (w := w) (K := K) (mg := mg) (base := base) Z D
  have c_carry := ok_carry (P := P) (w := w) (K := K) (mg := mg) (base := base) Z D c_carry__w
  have c__law_after := ok_after (P := P) (w := w) (K := K) (mg := mg) (base := base) Z D
  have c_check_number := ok_check_number (P := P) (w := w) (K := K) (mg := mg) (base := base) Z D m_BadNumber c_is_number
  have c_check_points := ok_check_points (P := P) (w := w) (K := K) (mg := mg) (base := base) Z D c_check_number
  have c_check_moves := ok_check_moves (P := P) (w := w) (K := K) (mg := mg) (base := base) Z D m_NotAMove m_TooMany c_is_move_on
  have c_still_move := ok_still (P := P) (w := w) (K := K) (mg := mg) (base := base) Z D c_check_points
  have c__next_layer := ok_next (P := P) (w := w) (K := K) (mg := mg) (base := base) Z D c_carry
  have c_best_words := ok_best (P := P) (w := w) (K := K) (mg := mg) (base := base) Z D m_TooMany c__next_layer
  have c_make_all := ok_make_all (P := P) (w := w) (K := K) (mg := mg) (base := base) Z D c_check_points c_check_moves c_still_move c_best_words
  have c_World___init__ := ok_init (P := P) (w := w) (K := K) (mg := mg) (base := base) Z D W c_make_all
  have c_World_points := ok_points (P := P) (w := w) (K := K) (mg := mg) (base := base) Z D W
  have c_World_told := ok_wtold (P := P) (w := w) (K := K) (mg := mg) (base := base) Z D W
  have c_World_made := ok_wmade (P := P) (w := w) (K := K) (mg := mg) (base := base) Z D W
  have c_World___len__ := ok_wlen (P := P) (w := w) (K := K) (mg := mg) (base := base) Z D W
  have c_World___eq__ := ok_weq (P := P) (w := w) (K := K) (mg := mg) (base := base) Z D W
  have c__law_group := ok_group (P := P) (w := w) (K := K) (mg := mg) (base := base) Z D c__law_after
  have c__law_cut := ok_cut (P := P) (w := w) (K := K) (mg := mg) (base := base) Z D c__law_group
  have c__law_bad_number := ok_bad_number (P := P) (w := w) (K := K) (mg := mg) (base := base) Z D c__law_take c__law_pick
  have c__law_refusal_h := ok_ref3_h (P := P) (w := w) (K := K) (mg := mg) (base := base) Z D c__law_alone_h c__law_same_h
  have c__law_no_move := ok_no_move (P := P) (w := w) (K := K) (mg := mg) (base := base) Z D c__law_pick c__law_move
  have c__law_group__s := ok_group__s (P := P) (w := w) (K := K) (mg := mg) (base := base) Z D c__law_after
  have c__law_due := ok_dueW (P := P) (w := w) (K := K) (mg := mg) (base := base) Z D c__law_is_whole c__law_move_fits c__law_group__s
  have c__law_made := ok_madeW (P := P) (w := w) (K := K) (mg := mg) (base := base) Z D (Erc.mk es_BadNumber nf_BadNumber_value nf_BadNumber_low nf_BadNumber_high es_NotAMove nf_NotAMove_index es_TooMany nf_TooMany_what nf_TooMany_limit) c_make_all c__law_same c__law_refusal_h
  have c__law_world_made := ok_worldW (P := P) (w := w) (K := K) (mg := mg) (base := base) Z D W (Erc.mk es_BadNumber nf_BadNumber_value nf_BadNumber_low nf_BadNumber_high es_NotAMove nf_NotAMove_index es_TooMany nf_TooMany_what nf_TooMany_limit) c_World___init__ c_World_points c_World_told c_World___len__ c__law_same c__law_refusal_h
  have c__law_limit_world := ok_limit3 (P := P) (w := w) (K := K) (mg := mg) (base := base) Z D
  have c__law_told_moves := ok_told_moves (P := P) (w := w) (K := K) (mg := mg) (base := base) Z D c__law_take c__law_place c__law_move c__law_drawn c__law_renamed c__law_limit_world c__law_cut c__law_block_moves
  have c__law_more := ok_more (P := P) (w := w) (K := K) (mg := mg) (base := base) Z D c__law_take c__law_place c__law_pick c__law_no_move
  have c__law_frozen := ok_frozen (P := P) (w := w) (K := K) (mg := mg) (base := base) Z D 9
  have c__law_fair := ok_fairW (P := P) (w := w) (K := K) (mg := mg) (base := base) Z D c__law_same c__law_frozen c__law_due c__law_made c__law_world_made
  exact ok_law Z D (He5.fun_of F) c__law_store c__law_told_moves c__law_more c__law_bad_number c__law_either c__law_fair c__law_move_fits c__law_same
end Hd
open PySem PySem.W PySem.Calls PyProof.Rows
set_option maxHeartbeats 0 in
theorem PySem.Challenge.cw_heldorder_k09_worlds_refused_holds : PySem.Challenge.rw_heldorder_k09_worlds_refused.Holds := by
  w_on; o_law
  refine HandSHeadRun.head_any (r := OpenLaw.row PySem.Challenge.rw_heldorder_k09_worlds_refused) (q := view (OpenLaw.row PySem.Challenge.rw_heldorder_k09_worlds_refused).prog [81]) (H := Hd.hkL) (ob := Hd.obL) (M := 12000) (loose := Hd.looseL) (d := HandSHeadRun.topDef (OpenLaw.row PySem.Challenge.rw_heldorder_k09_worlds_refused).prog 81) (kwd := []) Hd.obL_eq
    (by kernel_rfl) (fun s => by kernel_rfl) Hd.runL (by kernel_rfl) (by kernel_rfl) (by kernel_rfl) (by rfl) (by first | assumption | decide +kernel) (by decide +kernel) ⟨rfl, rfl, rfl, rfl, rfl, by decide +kernel⟩ ?hw ?hc
  case hw => w_witness2
  case hc =>
    refine L2.walk_ofE (l := PySem.Challenge.rw_heldorder_k09_worlds_refused) (n := 63) (k := 11) (x := "script") (CX := L2.CX0) rfl (by decide) (by kernel_rfl) ⟨rfl, by decide, by decide⟩ ?F (fun _ _ _ _ z => z)
    intro w mg fa h Y G hmg0
    obtain ⟨K, KX, c⟩ := Y
    have hmg : mg ("law" : PySem.Str) = some (.ref fa) := by
      have e : (HandSHeadRun.topDef (OpenLaw.row PySem.Challenge.rw_heldorder_k09_worlds_refused).prog 81).name = ("law" : PySem.Str) := by kernel_rfl
      rw [← e]
      exact hmg0
    obtain ⟨fd, hb, hF⟩ := Hd.all_w (P := (PySem.Challenge.rw_heldorder_k09_worlds_refused).prog) (w := w) KX G hmg c
    exact ⟨K, fd, Hd.spLaw K, KX, hb, fun H a ns hl _ hS => Hd.spLaw_of hl hS, hF⟩
