import PyProof.Rows.All
import Wide.All
import OpenK.AllK
import Wide.FinOn
import HandS.ForMost
import HandS.IsInst
import HandS.Conv
import HandS.SortInts
import HandS.Style
import HandS.TupAny
import HandS.Deep
import HandS.TupMul
import HandS.More
import HandS.Evl
import KE.KEqSeq
import HandS.HotCalls
import HandS.ExcCtx
import HandS.ExcInit
import HandS.ExcInitHot
import HandS.ExcField
import HandS.ExcIs
import HandS.RaiseFrom
import KE.KExcIs
import KE.GoesMore
import HandS.SetFor
import HandS.ExcValue
import HandS.Strs
import HandS.TupLen
import HandS.NamedTupSort
import KE.KDictSum
import HandS.Property
import HandS.Defaults
import HandS.OwnEq
import HandS.HeadNt
import HandS.Head0
import HandS.Head1
import HandS.Head2
import HandS.HeadEnd
import HandS.IterVal
import HandS.IterNext
import HandS.TupLe
import PyProof.Rows.ReprR
import PyProof.ReprLen
import HandS.SetBool
import HandS.Flow
import PyProof.InstNe
import HandS.DictComp
import PyProof.SumWalkG
import HandS.WideBits
import HandS.Iter
import HandS.DictTup
import KE.KDictWalk
import PySem.Challenge.RW_heldorder_k56_every_order_is_tight_if_le
set_option Elab.async false
set_option linter.all false
set_option maxRecDepth 100000
set_option maxHeartbeats 4000000
namespace Hd
open PySem PySem.Spec PyProof.Rows L2

/-! ### defs of the text, promises of callees -/
def Def (K : PySem.W.Frag) (mg : Str → Option Value) (x : Str) (st : Stmt) (ps : List Str) : Prop :=
  ∃ f fd, Fun K x x st f fd ∧ mg x = some (.ref f) ∧ Binds K fd ps []
def Cal (P : Program) (w : World) (K : PySem.W.Frag) (mg : Str → Option Value) (base : Heap) (x : Str) (k : Nat) (ps : List Str) (sp : Sp) : Prop :=
  ∃ f fd, FnOk P w K mg base CX0 k f fd ps sp ∧ mg x = some (.ref f) ∧ PySem.W.keepIn K (.ref f) = true ∧ Binds K fd ps []
section
variable {P : Program} {w : World} {K : PySem.W.Frag} {mg : Str → Option Value} {base : Heap} {x : Str} {st : Stmt} {ps N : List Str} {k : Nat} {sp : Sp}
theorem Def.cal (D : Def K mg x st ps) (S : FnScope N ps (defScope st)) (len : ∀ vs H Q E, sp vs H Q E → vs.length = ps.length)
    (hbody : ∀ (f : Addr) (cdv : Value) (A : Around) (outer : List Env) (s : Shared) (H : Hp) (vs : List V) (Q : VK) (E : XK), Room k (A.deeper (envOfC x (defScope st) s.heap.objs.size f cdv)) → sp vs H Q E →
      ∃ t, PSs (cxOf CX0 P w K mg base N x (defScope st) f cdv A outer s H E).nox (defBody st) t ∧ t { nx := fun _ H' => Q .non H', rt := Q } (start N vs) H) : Cal P w K mg base x (k + 1) ps sp := by
  obtain ⟨f, fd, F, g, b⟩ := D
  exact ⟨f, fd, F.ok S len (fun cdv A outer s H vs Q E hr h => hbody f cdv A outer s H vs Q E hr h), g, F.kp, b⟩
end
section
variable {X : Cx} {x : Str} {p pos : Pos} {e : Expr} {es : List Expr} {k : Nat} {ps : List Str} {sp : Sp} {t : TA}
theorem pe_cal (C : Cal X.prog X.w X.K X.mg X.base x k ps sp) (hr : Room k X.A) (hg : Gl X x) (ha : PA X (e :: es) t) (hdb : (x == ("__debug__" : Str)) = false := by decide)
    (he : starEach (e :: es) X.env = (false, eval e X.env) :: starEach es X.env := by rfl) (hpl : (backTo pos (starEach es X.env)).any (·.1) = false := by rfl) :
    PE X (.Call (.Name x p) (e :: es) [] pos) (tCall sp [] E0 t) := by
  obtain ⟨f, fd, F, g, kp, b⟩ := C
  exact pe_call F hr hg g kp b .nil pass0 ha hdb he hpl
end
section
variable {X : Cx}
theorem pe_globI {x : Str} {n : Int} {pos : Pos} (hg : Gl X x) (hm : ∃ t, X.mg x = some (.int n t)) (hd : (x == ("__debug__" : Str)) = false := by decide) : PE X (.Name x pos) (tC (.int n)) := by
  obtain ⟨t, h⟩ := hm
  exact pe_glob hg h ⟨t, rfl⟩ hd
end
/-! ### nested data that stands in a part of the heap -/
mutual
inductive Da (H : Hp) : V → PyData → Prop
  | non : Da H .non .none
  | bl (b : Bool) : Da H (.bl b) (.bool b)
  | int (i : Int) : Da H (.int i) (.int i)
  | str (x : Str) : Da H (.str x) (.str x)
  | lst {a : Addr} {xs : List V} {ds : List PyData} : H a = some (.lst xs) → DaAll H xs ds → Da H (.ref a) (.list ds)
  | tup {a : Addr} {xs : List V} {ds : List PyData} : H a = some (.tup xs) → DaAll H xs ds → Da H (.ref a) (.tuple ds)
inductive DaAll (H : Hp) : List V → List PyData → Prop
  | nil : DaAll H [] []
  | cons {v : V} {vs : List V} {d : PyData} {ds : List PyData} : Da H v d → DaAll H vs ds → DaAll H (v :: vs) (d :: ds)
end
mutual
theorem Da.mono {H H' : Hp} (g : Same H H') : ∀ (d : PyData) (v : V), Da H v d → Da H' v d
  | .none, _, h => by cases h; exact .non
  | .bool b, _, h => by cases h; exact .bl b
  | .int b, _, h => by cases h; exact .int b
  | .str b, _, h => by cases h; exact .str b
  | .list ds, _, h => by
    cases h with
    | lst a b => exact .lst (g _ _ a) (DaAll.mono g ds _ b)
  | .tuple ds, _, h => by
    cases h with
    | tup a b => exact .tup (g _ _ a) (DaAll.mono g ds _ b)
  | .dict _, _, h => by cases h
theorem DaAll.mono {H H' : Hp} (g : Same H H') : ∀ (ds : List PyData) (vs : List V), DaAll H vs ds → DaAll H' vs ds
  | [], _, h => by cases h; exact .nil
  | d :: ds, _, h => by
    cases h with
    | cons a b => exact .cons (Da.mono g d _ a) (DaAll.mono g ds _ b)
end
theorem Da.up {H H' : Hp} (g : Same H H') {v : V} {d : PyData} (h : Da H v d) : Da H' v d := Da.mono g d v h
theorem DaAll.up {H H' : Hp} (g : Same H H') {v : List V} {d : List PyData} (h : DaAll H v d) : DaAll H' v d := DaAll.mono g d v h
mutual
theorem Da.dp {K : PySem.W.Frag} {H : Hp} : ∀ (d : PyData) (v : V), Da H v d → Dp K H v d
  | .none, _, h => by cases h; exact .non
  | .bool b, _, h => by cases h; exact .bl b
  | .int b, _, h => by cases h; exact .int b
  | .str b, _, h => by cases h; exact .str b
  | .list ds, _, h => by
    cases h with
    | lst a b => exact .lst (.inl (.inl a)) (DaAll.dp ds _ b)
  | .tuple ds, _, h => by
    cases h with
    | tup a b => exact .tup (.inl (.inl a)) (DaAll.dp ds _ b)
  | .dict _, _, h => by cases h
theorem DaAll.dp {K : PySem.W.Frag} {H : Hp} : ∀ (ds : List PyData) (vs : List V), DaAll H vs ds → DpAll K H vs ds
  | [], _, h => by cases h; exact .nil
  | d :: ds, _, h => by
    cases h with
    | cons a b => exact .cons (Da.dp d _ a) (DaAll.dp ds _ b)
end
theorem DaAll.length {H : Hp} : ∀ {ds : List PyData} {vs : List V}, DaAll H vs ds → vs.length = ds.length
  | [], _, h => by cases h; rfl
  | d :: ds, _, h => by
    cases h with
    | cons a b => rw [List.length_cons, List.length_cons, DaAll.length b]
theorem DaAll.get {H : Hp} : ∀ {ds : List PyData} {vs : List V} {i : Nat} {v : V}, DaAll H vs ds → vs[i]? = some v → ∃ d, ds[i]? = some d ∧ Da H v d
  | [], _, i, v, h, e => by cases h; simp at e
  | d :: ds, _, 0, v, h, e => by
    cases h with
    | cons a b =>
      have e' := Option.some.inj e
      subst e'
      exact ⟨d, rfl, a⟩
  | d :: ds, _, i + 1, v, h, e => by
    cases h with
    | cons a b => exact DaAll.get (i := i) b e
/-- isinstance of nested data -/
def tyD : PyData → String
  | .none => "NoneType"
  | .bool _ => "bool"
  | .int _ => "int"
  | .str _ => "str"
  | .list _ => "list"
  | .tuple _ => "tuple"
  | .dict _ => "dict"
theorem Da.ty {K : PySem.W.Frag} {G H : Hp} (g : Same G H) {v : V} {d : PyData} (h : Da G v d) : TyX K H v (.type (tyD d)) := by
  cases h with
  | non => exact .base .non
  | bl b => exact .base (.bl b)
  | int b => exact .base (.int b)
  | str b => exact .base (.str b)
  | lst a b => exact .base (.lst (g _ _ a))
  | tup a b => exact .base (.tup (g _ _ a))
def isI : PyData → Bool
  | .int _ => true
  | _ => false
/-- isinstance(x, T) for T of int, bool, tuple, list, str: the answer -/
def instB (d : PyData) (T : String) : Bool := tyD d == T || (T == "int" && tyD d == "bool")
theorem kit_da {K : PySem.W.Frag} {H : Hp} {v : V} {d : PyData} (h : Da H v d) {T : String} (hT : T = "int" ∨ T = "bool" ∨ T = "tuple" ∨ T = "list" ∨ T = "str") : PySem.W.kitOne K (.type (tyD d)) (.type T) = some (instB d T) := by
  refine kit_ty ?_
  have e : tyD d = "NoneType" ∨ tyD d = "bool" ∨ tyD d = "int" ∨ tyD d = "str" ∨ tyD d = "list" ∨ tyD d = "tuple" := by
    cases h with
    | non => exact .inl rfl
    | bl b => exact .inr (.inl rfl)
    | int b => exact .inr (.inr (.inl rfl))
    | str b => exact .inr (.inr (.inr (.inl rfl)))
    | lst a b => exact .inr (.inr (.inr (.inr (.inl rfl))))
    | tup a b => exact .inr (.inr (.inr (.inr (.inr rfl))))
  unfold instB
  rcases hT with rfl | rfl | rfl | rfl | rfl <;> rcases e with e | e | e | e | e | e <;> rw [e] <;> decide +kernel
theorem rIsi_da {K : PySem.W.Frag} {G H : Hp} {Q : VK} (g : Same G H) {v : V} {d : PyData} (h : Da G v d) {T : String} (hT : T = "int" ∨ T = "bool" ∨ T = "tuple" ∨ T = "list" ∨ T = "str") (q : Q (.bl (instB d T)) H) : rIsi K [v, .ty T] H Q :=
  ⟨v, .ty T, _, _, instB d T, rfl, ClsV.ty T, h.ty g, kit_da h hT, q⟩
end Hd

namespace Hd
open PySem PySem.Spec PyProof.Rows L2
/-! ### heaps: what changed -/
/-- a new object o at p -/
structure New (H : Hp) (p : Addr) (o : HO) (H' : Hp) : Prop where
  fr : H p = none
  eq : H' = upd H p o
theorem New.at {H H' : Hp} {p : Addr} {o : HO} (n : New H p o H') : H' p = some o := by rw [n.eq]; exact upd_same
theorem New.same {H H' : Hp} {p : Addr} {o : HO} (n : New H p o H') : Same H H' := fun b u e => by
  rw [n.eq, upd_ne (ne_of_none e n.fr)]
  exact e
theorem New.ne {H H' : Hp} {p a : Addr} {o : HO} (n : New H p o H') (h : H a ≠ none) : a ≠ p := fun e => h (by rw [e]; exact n.fr)
/-- a tuple: it never changes, so it may be known at any time -/
def isT : HO → Bool
  | .tup _ => true
  | _ => false
/-- G is the part of the heap H that no longer changes; from (G, H) to (G', H'): all of G kept, only new objects known, all objects of H but that at S kept -/
structure Stp (S : Addr) (G H G' H' : Hp) : Prop where
  gg : Same G G'
  gh : Same G' H'
  nw : ∀ b o, H b = some o → isT o = false → G b = none → G' b = none
  hh : ∀ b o, b ≠ S → H b = some o → H' b = some o
  al : ∀ b o, H b = some o → ∃ o', H' b = some o' ∧ (isT o = false → isT o' = false)
structure Stq (G H G' H' : Hp) : Prop where
  gg : Same G G'
  gh : Same G' H'
  nw : ∀ b o, H b = some o → isT o = false → G b = none → G' b = none
  hh : Same H H'
theorem ne_none {H : Hp} {b : Addr} {o : HO} (h : H b = some o) : H b ≠ none := by rw [h]; intro z; cases z
theorem Stq.al {G H G' H' : Hp} (s : Stq G H G' H') : ∀ b o, H b = some o → ∃ o', H' b = some o' ∧ (isT o = false → isT o' = false) := fun b o h => ⟨o, s.hh _ _ h, id⟩
theorem Stp.refl {S : Addr} {G H : Hp} (g : Same G H) : Stp S G H G H := ⟨Same.refl _, g, fun _ _ _ _ h => h, fun _ _ _ h => h, fun _ o h => ⟨o, h, id⟩⟩
theorem Stq.refl {G H : Hp} (g : Same G H) : Stq G H G H := ⟨Same.refl _, g, fun _ _ _ _ h => h, Same.refl _⟩
theorem Stp.trans {S : Addr} {G H G1 H1 G2 H2 : Hp} (a : Stp S G H G1 H1) (b : Stp S G1 H1 G2 H2) : Stp S G H G2 H2 :=
  ⟨a.gg.trans b.gg, b.gh, fun c o h t g => by
    obtain ⟨o1, h1, k⟩ := a.al c o h
    exact b.nw c o1 h1 (k t) (a.nw c o h t g), fun c o n h => b.hh c o n (a.hh c o n h), fun c o h => by
    obtain ⟨o1, h1, k⟩ := a.al c o h
    obtain ⟨o2, h2, k2⟩ := b.al c o1 h1
    exact ⟨o2, h2, fun t => k2 (k t)⟩⟩
theorem Stq.trans {G H G1 H1 G2 H2 : Hp} (a : Stq G H G1 H1) (b : Stq G1 H1 G2 H2) : Stq G H G2 H2 :=
  ⟨a.gg.trans b.gg, b.gh, fun c o h t g => b.nw c o (a.hh c o h) t (a.nw c o h t g), a.hh.trans b.hh⟩
theorem Stq.p {S : Addr} {G H G' H' : Hp} (s : Stq G H G' H') : Stp S G H G' H' := ⟨s.gg, s.gh, s.nw, fun b o _ h => s.hh b o h, s.al⟩
theorem Stp.q {S : Addr} {G H G1 H1 G2 H2 : Hp} (a : Stp S G H G1 H1) (b : Stq G1 H1 G2 H2) : Stp S G H G2 H2 := a.trans b.p
/-- a new object, known -/
theorem same_upd {G H : Hp} (g : Same G H) {p : Addr} {o : HO} (h : H p = none) : Same (upd G p o) (L2.upd H p o) := fun b u e => by
  by_cases hb : b = p
  · subst hb
    rw [upd_same] at e
    rw [upd_same]
    exact e
  · rw [upd_ne hb] at e
    rw [upd_ne hb]
    exact g _ _ e
theorem Stq.know {G H H' : Hp} {p : Addr} {o : HO} (g : Same G H) (n : New H p o H') : ∃ G', Stq G H G' H' ∧ G' p = some o ∧ ∀ b, b ≠ p → G' b = G b := by
  refine ⟨upd G p o, ⟨fun b u e => ?_, ?_, fun b o' h _ e => ?_, n.same⟩, upd_same, fun b h => upd_ne h⟩
  · rw [upd_ne (ne_of_none (g _ _ e) n.fr)]
    exact e
  · rw [n.eq]
    exact same_upd g n.fr
  · rw [upd_ne (n.ne (ne_none h))]
    exact e
/-- a new object, not (yet) known: it may change -/
theorem Stq.loc {G H H' : Hp} {p : Addr} {o : HO} (g : Same G H) (n : New H p o H') : Stq G H G H' ∧ G p = none ∧ H' p = some o :=
  ⟨⟨Same.refl _, g.trans n.same, fun _ _ _ _ h => h, n.same⟩, g.free n.fr, n.at⟩
/-- it has changed -/
theorem Stp.mut {S : Addr} {G0 H0 G H H' : Hp} (s : Stp S G0 H0 G H) {l : Addr} {o : HO} (g : G l = none) (f : H0 l = none) (e : H' = upd H l o) : Stp S G0 H0 G H' := by
  subst e
  refine ⟨s.gg, fun b u h => ?_, s.nw, fun b u n h => ?_, fun b u h => ?_⟩
  · rw [upd_ne (ne_of_none h g)]
    exact s.gh _ _ h
  · rw [upd_ne (ne_of_none h f)]
    exact s.hh b u n h
  · rw [upd_ne (ne_of_none h f)]
    exact s.al b u h
theorem Stq.mut {G0 H0 G H H' : Hp} (s : Stq G0 H0 G H) {l : Addr} {o : HO} (g : G l = none) (f : H0 l = none) (e : H' = upd H l o) : Stq G0 H0 G H' := by
  subst e
  refine ⟨s.gg, fun b u h => ?_, s.nw, fun b u h => ?_⟩
  · rw [upd_ne (ne_of_none h g)]
    exact s.gh _ _ h
  · rw [upd_ne (ne_of_none h f)]
    exact s.hh b u h
/-- it is known from now on -/
theorem Stp.frz {S : Addr} {G0 H0 G H : Hp} (s : Stp S G0 H0 G H) {l : Addr} {o : HO} (g : G l = none) (f : H0 l = none) (h : H l = some o) : ∃ G', Stp S G0 H0 G' H ∧ Same G G' ∧ G' l = some o ∧ ∀ b, b ≠ l → G' b = G b := by
  have gn : Same G (upd G l o) := fun b u e => by
    rw [upd_ne (ne_of_none e g)]
    exact e
  refine ⟨upd G l o, ⟨s.gg.trans gn, fun b u e => ?_, fun b u hb t e => ?_, s.hh, s.al⟩, gn, upd_same, fun b h => upd_ne h⟩
  · by_cases q : b = l
    · subst q
      rw [upd_same] at e
      rw [h]
      exact e
    · rw [upd_ne q] at e
      exact s.gh _ _ e
  · rw [upd_ne (ne_of_none hb f)]
    exact s.nw b u hb t e
theorem Stq.frz {G0 H0 G H : Hp} (s : Stq G0 H0 G H) {l : Addr} {o : HO} (g : G l = none) (f : H0 l = none) (h : H l = some o) : ∃ G', Stq G0 H0 G' H ∧ Same G G' ∧ G' l = some o ∧ ∀ b, b ≠ l → G' b = G b := by
  have gn : Same G (upd G l o) := fun b u e => by
    rw [upd_ne (ne_of_none e g)]
    exact e
  refine ⟨upd G l o, ⟨s.gg.trans gn, fun b u e => ?_, fun b u hb t e => ?_, s.hh⟩, gn, upd_same, fun b h => upd_ne h⟩
  · by_cases q : b = l
    · subst q
      rw [upd_same] at e
      rw [h]
      exact e
    · rw [upd_ne q] at e
      exact s.gh _ _ e
  · rw [upd_ne (ne_of_none hb f)]
    exact s.nw b u hb t e
/-! ### readings in a form of our own -/
section
variable {X : Cx} {e : Expr} {t t' : TE}
theorem PE.mono (h : PE X e t) (m : ∀ σ H Q, t' σ H Q → t σ H Q) : PE X e t' := ⟨fun pins s σ H Q I q => h.run pins s σ H Q I (m σ H Q q)⟩
theorem PT.mono {t t' : TT} (h : PT X e t) (m : ∀ σ H Q, t' σ H Q → t σ H Q) : PT X e t' := ⟨fun pins s σ H Q I q => h.run pins s σ H Q I (m σ H Q q)⟩
theorem callR_mono {f : Value} {r r' : List V → Hp → VK → Prop} (h : CallR X f r) (m : ∀ xs H Q, r' xs H Q → r xs H Q) : CallR X f r' := fun pins s σ H xs us Q I rv q => h pins s σ H xs us Q I rv (m _ _ _ q)
theorem opR_mono {f : Value → Value → Sem Value} {r r' : R2} (h : OpR X f r) (m : ∀ x y H Q, r' x y H Q → r x y H Q) : OpR X f r' := fun pins s σ H x y v u Q I rx ry q => h pins s σ H x y v u Q I rx ry (m _ _ _ _ q)
theorem mtR_mono {id : String} {r r' : V → List V → Hp → VK → Prop} (h : MtR X id r) (m : ∀ x xs H Q, r' x xs H Q → r x xs H Q) : MtR X id r' := fun pins s σ H x xs v us Q I rx rxs q => h pins s σ H x xs v us Q I rx rxs (m _ _ _ _ q)
theorem slR_mono {r r' : V → Option Int → Option Int → Hp → VK → Prop} (h : SlR X r) (m : ∀ x a b H Q, r' x a b H Q → r x a b H Q) : SlR X r' := fun pins s σ H x v vl vu lo hi sl Q I rx hs pl pu q => h pins s σ H x v vl vu lo hi sl Q I rx hs pl pu (m _ _ _ _ _ q)
end
section
variable {X : Cx}
def rLstN (t : TA) : TE := fun σ H Q => t σ H fun xs H1 => xs.length ≤ sizeLine ∧ ∀ p H2, New H1 p (.lst xs) H2 → Q (.ref p) H2
def rTupN (t : TA) : TE := fun σ H Q => t σ H fun xs H1 => xs.length ≤ sizeLine ∧ ∀ p H2, New H1 p (.tup xs) H2 → Q (.ref p) H2
theorem newAll {H : Hp} {o : HO} {K : Addr → Hp → Prop} : (∀ p H2, New H p o H2 → K p H2) ↔ ∀ p, H p = none → K p (upd H p o) :=
  ⟨fun h p e => h p _ ⟨e, rfl⟩, fun h p H2 n => by rw [n.eq]; exact h p n.fr⟩
theorem rLstN_eq (t : TA) : rLstN t = tLst t := funext fun σ => funext fun H => funext fun Q =>
  congrArg (t σ H) (funext fun xs => funext fun H1 => propext (and_congr_right fun _ => newAll (K := fun p H2 => Q (.ref p) H2)))
theorem rTupN_eq (t : TA) : rTupN t = tTup t := funext fun σ => funext fun H => funext fun Q =>
  congrArg (t σ H) (funext fun xs => funext fun H1 => propext (and_congr_right fun _ => newAll (K := fun p H2 => Q (.ref p) H2)))
theorem pe_lstN {es : List Expr} {t : TA} {pos : Pos} (h : PA X es t) : PE X (.List es pos) (rLstN t) := by
  rw [rLstN_eq]
  exact pe_lst h
theorem pe_tupN {es : List Expr} {t : TA} {x1 : Nat} {pos : Pos} (h : PA X es t) : PE X (.Tuple es x1 pos) (rTupN t) := by
  rw [rTupN_eq]
  exact pe_tup h
/-- list(xs), of a list or tuple -/
def rListN (K : PySem.W.Frag) : List V → Hp → VK → Prop := fun xs H Q => ∃ p ys, xs = [.ref p] ∧ (SqL K H p ys ∨ SqT K H p ys) ∧ ∀ l H2, New H l (.lst ys) H2 → Q (.ref l) H2
theorem call_listN : CallR X (.type "list") (rListN X.K) := callR_mono call_list_of fun xs H Q h => by
  obtain ⟨p, ys, e, h, q⟩ := h
  exact ⟨p, ys, e, h, fun l hl => q l _ ⟨hl, rfl⟩⟩
/-- tuple(xs), of a list -/
def rTupleN (K : PySem.W.Frag) : List V → Hp → VK → Prop := fun xs H Q => ∃ p ys, xs = [.ref p] ∧ SqL K H p ys ∧ ∀ l H2, New H l (.tup ys) H2 → Q (.ref l) H2
theorem call_tupleN : CallR X (.type "tuple") (rTupleN X.K) := callR_mono call_tuple_of fun xs H Q h => by
  obtain ⟨p, ys, e, h, q⟩ := h
  exact ⟨p, ys, e, .inl ⟨h, fun l hl => q l _ ⟨hl, rfl⟩⟩⟩
/-- list(range(..)) -/
def tLstRgN (te : L2.St → Hp → (Int → Int → Hp → Prop) → Prop) : TE := fun σ H Q => te σ H fun a b H1 => RgOk a b ∧ ∀ q H2, New H1 q (.lst (rgV a b)) H2 → Q (.ref q) H2
def tTupRgN (te : L2.St → Hp → (Int → Int → Hp → Prop) → Prop) : TE := fun σ H Q => te σ H fun a b H1 => RgOk a b ∧ ∀ q H2, New H1 q (.tup (rgV a b)) H2 → Q (.ref q) H2
/-- xs[a:b] of a list -/
def rSlLN (K : PySem.W.Frag) : V → Option Int → Option Int → Hp → VK → Prop := fun x lo hi H Q => ∃ a xs, x = .ref a ∧ SqL K H a xs ∧ ∀ p H2, New H p (.lst (cutV xs lo hi)) H2 → Q (.ref p) H2
theorem sl_listN : SlR X (rSlLN X.K) := slR_mono sl_list fun x lo hi H Q h => by
  obtain ⟨a, xs, e, h, q⟩ := h
  exact ⟨a, xs, e, h, fun p hp => q p _ ⟨hp, rfl⟩⟩
/-- methods that change a list -/
def rAppendN : V → List V → Hp → VK → Prop := fun x vs H Q => ∃ l xs y, x = .ref l ∧ vs = [y] ∧ H l = some (.lst xs) ∧ xs.length < sizeLine ∧ ∀ H2, H2 = upd H l (.lst (xs ++ [y])) → Q .non H2
theorem mt_appendN : MtR X "list.append" rAppendN := mtR_mono mt_append fun x xs H Q h => by
  obtain ⟨l, zs, y, e1, e2, h, z, q⟩ := h
  exact ⟨l, zs, y, e1, e2, h, z, q _ rfl⟩
/-- xs.pop(i), 0 ≤ i < len(xs) -/
def rPopAtN : V → List V → Hp → VK → Prop := fun x vs H Q => ∃ l xs i k y, x = .ref l ∧ vs = [.int i] ∧ H l = some (.lst xs) ∧ i = ((k : Nat) : Int) ∧ k < 2 ^ 63 ∧ xs[k]? = some y ∧ ∀ H2, H2 = upd H l (.lst (xs.eraseIdx k)) → Q y H2
theorem seqIndex_nat {n k : Nat} (h : k < n) : seqIndex? (k : Int) n = some k := by
  have := ixN_seq (n := n) (i := (k : Int)) (j := k) (by
    unfold ixN
    rw [if_pos (by omega), if_pos (by omega)]
    rfl)
  exact this.1
theorem mt_popAtN : MtR X "list.pop" rPopAtN := mtR_mono mt_popAt fun x xs H Q h => by
  obtain ⟨l, zs, i, k, y, e1, e2, h, rfl, b, z, q⟩ := h
  exact ⟨l, zs, _, k, y, e1, e2, h, by omega, by omega, seqIndex_nat (List.getElem?_eq_some_iff.mp z).1, z, q _ rfl⟩
def rInsertN : V → List V → Hp → VK → Prop := fun x vs H Q => ∃ (l : Addr) (xs : List V) (i : Int) (y : V), x = .ref l ∧ vs = [.int i, y] ∧ H l = some (.lst xs) ∧ xs.length < sizeLine ∧ 0 ≤ i ∧ i < 2 ^ 63 ∧
    ∀ H2, H2 = upd H l (.lst (xs.take i.toNat ++ [y] ++ xs.drop i.toNat)) → Q .non H2
theorem mt_insertN : MtR X "list.insert" rInsertN := mtR_mono mt_insert fun x xs H Q h => by
  obtain ⟨l, zs, i, y, e1, e2, h, z, a, b, q⟩ := h
  exact ⟨l, zs, i, y, e1, e2, h, z, a, b, q _ rfl⟩
def rSetN : V → V → V → Hp → (Hp → Prop) → Prop := fun o i v H Q => ∃ p xs k, o = .ref p ∧ i = .int ((k : Nat) : Int) ∧ H p = some (.lst xs) ∧ k < xs.length ∧ ∀ H2, H2 = upd H p (.lst (xs.set k v)) → Q H2
theorem ixN_of {n k : Nat} (h : k < n) : ixN n (k : Int) = some k := by
  unfold ixN
  rw [if_pos (by omega), if_pos (by omega)]
  rfl
theorem set_listN : PSet X rSetN := fun pins s σ H o i v uo ui uv Q I ro ri rv h => by
  obtain ⟨p, xs, k, e1, e2, h, z, q⟩ := h
  exact set_list pins s σ H o i v uo ui uv Q I ro ri rv ⟨p, xs, _, k, e1, e2, h, ixN_of z, q _ rfl⟩
/-- xs + ys of two lists -/
def rCatN : R2 := fun x y H Q => ∃ l b xs zs, x = .ref l ∧ y = .ref b ∧ H l = some (.lst xs) ∧ H b = some (.lst zs) ∧ xs.length + zs.length ≤ sizeLine ∧ ∀ p H2, New H p (.lst (xs ++ zs)) H2 → Q (.ref p) H2
theorem op_catN : OpR X (binaryOp .Add) rCatN := opR_mono op_cat fun x y H Q h => by
  obtain ⟨l, b, xs, zs, e1, e2, h1, h2, z, q⟩ := h
  exact ⟨l, b, xs, zs, e1, e2, h1, h2, z, fun p hp => q p _ ⟨hp, rfl⟩⟩
/-- isinstance(x, T) of nested data -/
def okT (T : String) : Prop := T = "int" ∨ T = "bool" ∨ T = "tuple" ∨ T = "list" ∨ T = "str"
theorem ok_int : okT "int" := .inl rfl
theorem ok_bool : okT "bool" := .inr (.inl rfl)
theorem ok_tuple : okT "tuple" := .inr (.inr (.inl rfl))
theorem ok_list : okT "list" := .inr (.inr (.inr (.inl rfl)))
theorem ok_str : okT "str" := .inr (.inr (.inr (.inr rfl)))
def rIsD : List V → Hp → VK → Prop := fun xs H Q => ∃ v d T, xs = [v, .ty T] ∧ Da H v d ∧ okT T ∧ Q (.bl (instB d T)) H
theorem call_isD : CallR X (.builtin "isinstance") rIsD := callR_mono call_isi fun xs H Q h => by
  obtain ⟨v, d, T, rfl, hd, hT, q⟩ := h
  exact rIsi_da (Same.refl H) hd hT q
theorem kitAny_two {K : PySem.W.Frag} {t a b : Value} {x y : Bool} (h1 : PySem.W.kitOne K t a = some x) (h2 : PySem.W.kitOne K t b = some y) : PySem.W.kitAny K t [a, b] = some (x || y) := by
  unfold PySem.W.kitAny
  rw [h1]
  cases x with
  | true => rfl
  | false =>
    show PySem.W.kitAny K t [b] = some y
    unfold PySem.W.kitAny
    rw [h2]
    cases y <;> rfl
/-- isinstance(x, (list, tuple)) -/
def rIsD2 : List V → Hp → VK → Prop := fun xs H Q => ∃ v d tp, xs = [v, .ref tp] ∧ H tp = some (.tup [.ty "list", .ty "tuple"]) ∧ Da H v d ∧ Q (.bl (instB d "list" || instB d "tuple")) H
theorem call_isD2 : CallR X (.builtin "isinstance") rIsD2 := callR_mono call_isiT fun xs H Q h => by
  obtain ⟨v, d, tp, rfl, ht, hd, q⟩ := h
  refine ⟨v, tp, _, _, [.type "list", .type "tuple"], _, rfl, ht, .cons (.ty _) (.cons (.ty _) .nil), hd.ty (Same.refl H), kitAny_two (kit_da hd (.inr (.inr (.inr (.inl rfl))))) (kit_da hd (.inr (.inr (.inl rfl)))), q⟩
section
variable {e : Expr} {te : L2.St → Hp → (Int → Int → Hp → Prop) → Prop}
theorem lstRg_eq (te : L2.St → Hp → (Int → Int → Hp → Prop) → Prop) : tLstRgN te = tLstRg te := funext fun σ => funext fun H => funext fun Q =>
  congrArg (te σ H) (funext fun a => funext fun b => funext fun H1 => propext (and_congr_right fun _ => newAll (K := fun p H2 => Q (.ref p) H2)))
theorem tupRg_eq (te : L2.St → Hp → (Int → Int → Hp → Prop) → Prop) : tTupRgN te = tTupRg te := funext fun σ => funext fun H => funext fun Q =>
  congrArg (te σ H) (funext fun a => funext fun b => funext fun H1 => propext (and_congr_right fun _ => newAll (K := fun p H2 => Q (.ref p) H2)))
theorem pe_listRgN {p pos : Pos} (hc : X.calm = true) (hg : Gl X "list") (hm : X.mg "list" = none) (he : PRg X e te) (na : starEach [e] X.env = (false, eval e X.env) :: starEach [] X.env := by rfl) :
    PE X (.Call (.Name "list" p) [e] [] pos) (tLstRgN te) := by
  rw [lstRg_eq]
  exact pe_listRg hc hg hm he na
theorem pe_tupRgN {p pos : Pos} (hc : X.calm = true) (hg : Gl X "tuple") (hm : X.mg "tuple" = none) (he : PRg X e te) (na : starEach [e] X.env = (false, eval e X.env) :: starEach [] X.env := by rfl) :
    PE X (.Call (.Name "tuple" p) [e] [] pos) (tTupRgN te) := by
  rw [tupRg_eq]
  exact pe_tupRg hc hg hm he na
end
/-- is, is not: nested data against True, False -/
def rIsBD : R2 := fun x y H Q => ∃ d b, Da H x d ∧ y = .bl b ∧ Q (.bl (decide (x = .bl b))) H
theorem plain_bl {H : Hp} {x : V} {d : PyData} {v : Value} {b : Bool} (h : Da H x d) (r : RelV x v) : plainIs v (.bool b) = true := by
  cases h with
  | non => cases r; rfl
  | bl c => cases r; rfl
  | int i => obtain ⟨t, rfl⟩ := r; rfl
  | str i => obtain ⟨t, rfl⟩ := r; rfl
  | lst a c => cases r; rfl
  | tup a c => cases r; rfl
theorem rel_bl {H : Hp} {x : V} {d : PyData} {v : Value} {b : Bool} (h : Da H x d) (r : RelV x v) : v = .bool b ↔ x = .bl b := by
  cases h with
  | non => cases r; exact ⟨(fun z => nomatch z), (fun z => nomatch z)⟩
  | bl c => cases r; exact ⟨fun z => by cases z; rfl, fun z => by cases z; rfl⟩
  | int i => obtain ⟨t, rfl⟩ := r; exact ⟨(fun z => nomatch z), (fun z => nomatch z)⟩
  | str i => obtain ⟨t, rfl⟩ := r; exact ⟨(fun z => nomatch z), (fun z => nomatch z)⟩
  | lst a c => cases r; exact ⟨(fun z => nomatch z), (fun z => nomatch z)⟩
  | tup a c => cases r; exact ⟨(fun z => nomatch z), (fun z => nomatch z)⟩
theorem op_isBD : OpR X (compareOp .Is) rIsBD := by
  intro pins s σ H x y v u Q I rx ry h
  obtain ⟨d, b, hd, rfl, q⟩ := h
  cases (show u = Value.bool b from ry)
  have q' : Q (.bl (decide (x = .bl b))) H := q
  by_cases e : x = .bl b
  · have ev := (rel_bl hd rx).mpr e
    subst ev
    rw [decide_eq_true e] at q'
    exact wpAny_is_self (by rfl) ⟨.bl true, H, I, rfl, q'⟩
  · rw [decide_eq_false e] at q'
    exact wpAny_is_other (plain_bl hd rx) (fun z => e ((rel_bl hd rx).mp z)) ⟨.bl false, H, I, rfl, q'⟩
/-! ### sorted of a tuple of ints -/
section
variable {prog : Program} {w : World} {A : Around} {E : Value → Shared → Prop} {s : Shared}
/-- what is collected of a tuple: a new list, its items -/
theorem collect_tup {t : Addr} {us : List Value} {R : List Value → Shared → Prop} (ht : IsTup s.heap t us.toArray) (small : us.length ≤ sizeLine)
    (done : R us { s with heap := (s.heap.push (seqObj "list" #[] 0)).update s.heap.objs.size (Obj.mapSeq (· ++ us.toArray)) }) : wpAny (model prog w) A (collect (.ref t)) R E s := by
  obtain ⟨ob, at0, cls0, ep, dat⟩ := id ht
  have at1 : (s.heap.push (seqObj "list" #[] 0)).get? t = some ob := Heap.get?_push_of_some _ at0
  have mine : (s.heap.push (seqObj "list" #[] 0)).get? s.heap.objs.size = some (seqObj "list" #[] 0) := Heap.get?_push_size _ rfl
  unfold collect
  refine wpAny_bind (wpAny_runValue (codeAny_builtin entry_proto_collect' ?a))
  show wpAny _ _ (do again (.builtin "list.__iadd__" ⟨[← newList [], .ref t], []⟩)) _ _ s
  refine wpAny_bind (wpAny_newList (wpAny_pure ⟨Code.quiet_builtin _ (by decide +kernel), codeAny_builtin entry_list_iadd' ?b⟩))
  show wpAny _ _ (Builtin.List.listExtendWith (.ref s.heap.objs.size) (.ref t) (.ref s.heap.objs.size)) _ _ { s with heap := _ }
  unfold Builtin.List.listExtendWith
  refine wpAny_bind (wpAny_typeOf (T := "tuple") ⟨ob, at1, cls0⟩ ?c)
  rw [if_pos (by rw [(rfl : (Value.type "tuple" == Value.type "tuple") = true)]; simp)]
  refine wpAny_bind (listItems_at at1 dat (wpAny_bind (listItems_at (xs := #[]) (n := 0) mine rfl ?d)))
  rw [if_neg (by simp)]
  have room : ((#[] : Array Value) ++ us.toArray).size ≤ sizeLine + 1 := by
    rw [Array.size_append, List.size_toArray]
    exact Nat.le_succ_of_le (by simpa using small)
  refine wpAny_bind (listUpdate_at (xs := #[]) (n := 0) mine rfl (wpAny_pure ?e) (Nat.zero_le _) room)
  show wpAny (model prog w) A (do match (← load s.heap.objs.size).data with | .seq xs _ => pure xs.toList | _ => unsupported "internal:collect") R E { s with heap := _ }
  refine wpAny_bind (wpAny_load (get?_update_seq mine _) ?f)
  have same : ((#[] : Array Value) ++ us.toArray).toList = us := by simp
  show wpAny _ _ (pure ((#[] : Array Value) ++ us.toArray).toList) R E _
  rw [same]
  exact wpAny_pure done
open SrtO in
/-- sorted of a tuple: its items in a new list, in order -/
theorem sorted_tup {t : Addr} {us : List Value} {lt : Value → Value → Bool} {R : Value → Shared → Prop} (O : Swo lt) (ht : IsTup s.heap t us.toArray) (small : us.length ≤ sizeLine)
    (cmp : 2 ≤ us.length → ∀ (g : Heap) (b : Addr), g.get? b = some (seqObj "list" us.toArray 0) → (∀ c o, s.heap.get? c = some o → c ≠ b ∧ g.get? c = some o) → SortableO prog w A.in1.in1 { s with heap := g } b us lt)
    (done : ∀ os : List Value, Srtd lt os → Stb lt os us → R (.ref (s.heap.objs.size + 1)) { s with heap := sortedAll s.heap us os.toArray }) : wpAny (model prog w) A (call (.builtin "sorted") [.ref t]) R E s := by
  refine Calls.call_function_entry kind_sorted plain_sorted entry_sorted (args_sorted1 _) ?_
  unfold Builtin.«sorted»
  refine wpAny_bind (m := checkCount "sorted" 1 1 _) (wpAny_pure (wpAny_bind (collect_tup ht small (wpAny_bind (wpAny_newList ?_ small)))))
  have len1 : ((s.heap.push (seqObj "list" #[] 0)).update s.heap.objs.size (Obj.mapSeq (· ++ us.toArray))).objs.size = s.heap.objs.size + 1 := by rw [Heap.size_update, size_push']
  have here : (((s.heap.push (seqObj "list" #[] 0)).update s.heap.objs.size (Obj.mapSeq (· ++ us.toArray))).push (seqObj "list" us.toArray 0)).get? (s.heap.objs.size + 1) = some (seqObj "list" us.toArray 0) := len1 ▸ Heap.get?_push_size _ rfl
  have old : ∀ c o, s.heap.get? c = some o → c ≠ s.heap.objs.size + 1 ∧ (((s.heap.push (seqObj "list" #[] 0)).update s.heap.objs.size (Obj.mapSeq (· ++ us.toArray))).push (seqObj "list" us.toArray 0)).get? c = some o := by
    intro c o hc
    have below := Heap.lt_size hc
    have k : ((s.heap.push (seqObj "list" #[] 0)).update s.heap.objs.size (Obj.mapSeq (· ++ us.toArray))).get? c = some o :=
      (Heap.get?_update_ne _ _ _ _ (Nat.ne_of_lt below)).trans (Heap.get?_push_of_some _ hc)
    exact ⟨Nat.ne_of_lt (Nat.lt_succ_of_lt below), Heap.get?_push_of_some _ k⟩
  show wpAny _ _ _ _ _ { s with heap := ((s.heap.push (seqObj "list" #[] 0)).update s.heap.objs.size (Obj.mapSeq (· ++ us.toArray))).push (seqObj "list" us.toArray 0) }
  rw [len1]
  refine wpAny_bind (wpAny_holding (wpAny_call_entry slot_list_sort ⟨_, here, rfl⟩ entry_list_sort ?_ (args_list_sort _)))
  exact list_sort_ord O here small (fun two => cmp two _ _ here old) fun os h1 h2 => ⟨_, rfl, wpAny_pure ⟨_, rfl, done os h1 h2⟩⟩
end
/-- sorted(t), t a tuple of ints -/
def rSortT (K : PySem.W.Frag) : List V → Hp → VK → Prop := fun vs H Q => ∃ (a : Addr) (ns : List Int), vs = [V.ref a] ∧ SqT K H a (ns.map V.int) ∧
  ∀ (ns' : List Int) (p : Addr) (H2 : Hp), ns'.Perm ns → ns'.Pairwise (· ≤ ·) → New H p (.lst (ns'.map V.int)) H2 → Q (.ref p) H2
theorem call_sortT : CallR X (.builtin "sorted") (rSortT X.K) := by
  intro pins s σ H vs us Q I r h
  obtain ⟨a, ns, rfl, hs, q⟩ := h
  obtain ⟨its, rv, hl, hz⟩ := I.tuple hs
  rw [Vals.ref1 r]
  have hi := rv.ints
  refine sorted_tup SrtO.swo_int hl (by rw [← rv.length]; exact hz) (fun h2 h₁ a' _ _ => SrtO.ints_sortable hi h2) fun out h1 h2 => ?_
  obtain ⟨k1, k2, k3⟩ := SrtO.ints_out hi h1 h2
  obtain ⟨ep, he'⟩ := PyProof.Rows.sortedAll_at s.heap its out.toArray
  have hlen : ((out.map SrtO.iv).map V.int).length ≤ sizeLine := by
    rw [List.length_map, k2.length_eq]
    rw [List.length_map] at hz
    exact hz
  exact ⟨.ref _, upd H (s.heap.objs.size + 1) (.lst ((out.map SrtO.iv).map V.int)), I.laid (t' := s.toks) (fun _ _ => PyProof.Rows.sortedAll_old) (Nat.le_succ _) ⟨hlen, out, ep, vals_of_ints k1, he'⟩, rfl, q _ _ _ k2 k3 ⟨I.hok.fresh (Nat.le_succ _), rfl⟩⟩
end
end Hd

namespace Hd
open PySem PySem.Spec PyProof.Rows L2
/-! ### the store of draws -/
structure Sr where
  a : Addr
  c : Addr
  ns : List Int
def StOk (S : Sr) (H : Hp) : Prop := ∃ i1 i2 i3 i4 i5 i6 : Int, H S.a = some (.lst [.ref S.c, .int i1, .int i2, .int i3, .int i4, .int i5, .int i6]) ∧ H S.c = some (.lst (S.ns.map V.int)) ∧ 0 ≤ i1
theorem StOk.ca {S : Sr} {H : Hp} (h : StOk S H) : S.c ≠ S.a := by
  obtain ⟨i1, i2, i3, i4, i5, i6, h1, h2, _⟩ := h
  intro e
  rw [e, h1] at h2
  have := HO.lst.inj (Option.some.inj h2)
  cases hn : S.ns with
  | nil => rw [hn] at this; cases this
  | cons x r => rw [hn] at this; cases this
structure Wd (S : Sr) (G H : Hp) : Prop where
  gh : Same G H
  gs : G S.a = none
  st : StOk S H
structure Go (S : Sr) (G H G' H' : Hp) : Prop where
  s : Stp S.a G H G' H'
  w0 : Wd S G H
  st : StOk S H'
section
variable {S : Sr} {G H G1 H1 G2 H2 : Hp}
theorem StOk.na (h : StOk S H) : H S.a ≠ none := by
  obtain ⟨i1, i2, i3, i4, i5, i6, h1, h2, _⟩ := h
  exact ne_none h1
theorem StOk.nc (h : StOk S H) : H S.c ≠ none := by
  obtain ⟨i1, i2, i3, i4, i5, i6, h1, h2, _⟩ := h
  exact ne_none h2
theorem StOk.up (h : StOk S H) (g : Same H H1) : StOk S H1 := by
  obtain ⟨i1, i2, i3, i4, i5, i6, h1, h2, z⟩ := h
  exact ⟨i1, i2, i3, i4, i5, i6, g _ _ h1, g _ _ h2, z⟩
theorem Go.wd (s : Go S G H G1 H1) : Wd S G1 H1 := ⟨s.s.gh, by
  obtain ⟨i1, i2, i3, i4, i5, i6, h1, h2, _⟩ := s.w0.st
  exact s.s.nw _ _ h1 rfl s.w0.gs, s.st⟩
theorem Go.refl (w : Wd S G H) : Go S G H G H := ⟨.refl w.gh, w, w.st⟩
theorem Go.trans (a : Go S G H G1 H1) (b : Go S G1 H1 G2 H2) : Go S G H G2 H2 := ⟨a.s.trans b.s, a.w0, b.st⟩
theorem Go.q (a : Go S G H G1 H1) (b : Stq G1 H1 G2 H2) : Go S G H G2 H2 := ⟨a.s.q b, a.w0, a.st.up b.hh⟩
theorem Go.gg (a : Go S G H G1 H1) : Same G G1 := a.s.gg
theorem Go.gh (a : Go S G H G1 H1) : Same G1 H1 := a.s.gh
theorem Go.hh (a : Go S G H G1 H1) {b : Addr} {o : HO} (h : H b = some o) (n : b ≠ S.a) : H1 b = some o := a.s.hh b o n h
theorem Go.nw (a : Go S G H G1 H1) {b : Addr} {o : HO} (h : H b = some o) (g : G b = none) (t : isT o = false := by rfl) : G1 b = none := a.s.nw b o h t g
theorem Go.know {p : Addr} {o : HO} (a : Go S G H G1 H1) (n : New H1 p o H2) : ∃ G2, Go S G H G2 H2 ∧ Same G1 G2 ∧ G2 p = some o ∧ ∀ b, b ≠ p → G2 b = G1 b := by
  obtain ⟨G2, s, e, k⟩ := Stq.know a.gh n
  exact ⟨G2, a.q s, s.gg, e, k⟩
theorem Go.fresh {p : Addr} (a : Go S G H G1 H1) (n : H1 p = none) : H p = none := by
  cases e : H p with
  | none => rfl
  | some o =>
    obtain ⟨o', h, _⟩ := a.s.al p o e
    rw [n] at h
    cases h
theorem Go.loc {p : Addr} {o : HO} (a : Go S G H G1 H1) (n : New H1 p o H2) : Go S G H G1 H2 ∧ G1 p = none ∧ H2 p = some o ∧ H p = none := by
  obtain ⟨s, g, e⟩ := Stq.loc a.gh n
  exact ⟨a.q s, g, e, a.fresh n.fr⟩
theorem Go.mut {l : Addr} {o : HO} (a : Go S G H G1 H1) (g : G1 l = none) (f : H l = none) (e : H2 = upd H1 l o) : Go S G H G1 H2 := by
  refine ⟨a.s.mut g f e, a.w0, ?_⟩
  have n1 : S.a ≠ l := fun q => a.w0.st.na (by rw [q]; exact f)
  have n2 : S.c ≠ l := fun q => a.w0.st.nc (by rw [q]; exact f)
  subst e
  obtain ⟨i1, i2, i3, i4, i5, i6, h1, h2, z⟩ := a.st
  exact ⟨i1, i2, i3, i4, i5, i6, by rw [upd_ne n1]; exact h1, by rw [upd_ne n2]; exact h2, z⟩
theorem Go.put {i1 i2 i3 i4 i5 i6 : Int} (a : Go S G H G1 H1) (e : H2 = upd H1 S.a (.lst [.ref S.c, .int i1, .int i2, .int i3, .int i4, .int i5, .int i6])) (z : 0 ≤ i1) : Go S G H G1 H2 := by
  have gs := a.wd.gs
  subst e
  refine ⟨⟨a.s.gg, fun b u h => ?_, a.s.nw, fun b u n h => ?_, fun b u h => ?_⟩, a.w0, ?_⟩
  · rw [upd_ne (ne_of_none h gs)]
    exact a.s.gh _ _ h
  · rw [upd_ne n]
    exact a.s.hh b u n h
  · by_cases q : b = S.a
    · rw [q, upd_same]
      exact ⟨_, rfl, fun _ => rfl⟩
    · rw [upd_ne q]
      exact a.s.al b u h
  · obtain ⟨j1, j2, j3, j4, j5, j6, h1, h2, _⟩ := a.st
    exact ⟨i1, i2, i3, i4, i5, i6, upd_same, by rw [upd_ne a.st.ca]; exact h2, z⟩
theorem Go.frz {l : Addr} {o : HO} (a : Go S G H G1 H1) (g : G1 l = none) (f : H l = none) (h : H1 l = some o) : ∃ G2, Go S G H G2 H1 ∧ Same G1 G2 ∧ G2 l = some o ∧ ∀ b, b ≠ l → G2 b = G1 b := by
  obtain ⟨G2, s, e, k, u⟩ := a.s.frz (l := l) g f h
  exact ⟨G2, ⟨s, a.w0, a.st⟩, e, k, u⟩
theorem Go.ns (a : Go S G H G1 H1) {l : Addr} (f : H l = none) : l ≠ S.a := fun q => a.w0.st.na (by rw [← q]; exact f)
theorem Wd.ne (w : Wd S G H) {b : Addr} {o : HO} (h : G b = some o) : b ≠ S.a := fun q => by
  rw [q, w.gs] at h
  cases h
end
theorem upd_at {H H2 : Hp} {l : Addr} {o : HO} (e : H2 = upd H l o) : H2 l = some o := by rw [e]; exact upd_same
theorem upd_else {H H2 : Hp} {l b : Addr} {o u : HO} (e : H2 = upd H l o) (h : H b = some u) (n : b ≠ l) : H2 b = some u := by rw [e, upd_ne n]; exact h
theorem New.else {H H2 : Hp} {p b : Addr} {o u : HO} (n : New H p o H2) (h : H b = some u) : H2 b = some u := n.same _ _ h
theorem dec_of {p : Prop} [Decidable p] (h : decide p = true) : p := of_decide_eq_true h
theorem dec_not {p : Prop} [Decidable p] (h : ¬ decide p = true) : ¬ p := fun q => h (decide_eq_true q)
/-! ### promises of the draws -/
def spMixed : Sp := fun vs H Q _ => ∃ a b : Int, vs = [.int a, .int b] ∧ ∀ r : Int, Q (.int r) H
def spTake : Sp := fun vs H Q _ => ∃ (S : Sr) (G : Hp) (n : Int), vs = [.ref S.a, .int n] ∧ Wd S G H ∧ n < 1073741824 ∧ ∀ (d : Int) (H' : Hp), 0 ≤ d → (d < n ∨ (n < 1 ∧ d = 0)) → Go S G H G H' → Q (.int d) H'
/-- a sequence of known items -/
def SeqV (H : Hp) (S : Sr) (v : V) (xs : List V) : Prop :=
  (∃ a, v = .ref a ∧ a ≠ S.a ∧ H a = some (.lst xs)) ∨ (∃ a, v = .ref a ∧ a ≠ S.a ∧ H a = some (.tup xs)) ∨ ∃ z : Str, v = .str z ∧ z.length ≤ 1000000 ∧ xs = z.cps.toList.map fun c => V.str ⟨#[c]⟩
def spPick : Sp := fun vs H Q _ => ∃ (S : Sr) (G : Hp) (v : V) (xs : List V), vs = [.ref S.a, v] ∧ Wd S G H ∧ SeqV H S v xs ∧ 0 < xs.length ∧ xs.length < 1000000 ∧ ∀ (x : V) (H' : Hp), x ∈ xs → Go S G H G H' → Q x H'
def spPlace : Sp := fun vs H Q _ => ∃ (S : Sr) (G : Hp) (n : Int), vs = [.ref S.a, .int n] ∧ Wd S G H ∧ 1 ≤ n ∧ n < 1073741824 ∧ ∀ (d : Int) (H' : Hp), 0 ≤ d → d < n → Go S G H G H' → Q (.int d) H'
end Hd

namespace Hd
open PySem PySem.Spec PyProof.Rows L2
theorem at_int {xs : List V} {d : Int} (h0 : 0 ≤ d) (h1 : d < (xs.length : Nat)) : ∃ x, xs[d.toNat]? = some x ∧ atI xs d = some x ∧ x ∈ xs := by
  have k : d.toNat < xs.length := by omega
  have e : xs[d.toNat]? = some xs[d.toNat] := List.getElem?_eq_getElem k
  refine ⟨xs[d.toNat], e, ?_, List.getElem_mem k⟩
  have q := atI_nat e
  rwa [show ((d.toNat : Nat) : Int) = d by omega] at q
theorem at_str {z : Str} {d : Int} (h0 : 0 ≤ d) (h1 : d < (z.length : Nat)) : ∃ c, atI z.cps.toList d = some c ∧ z.cps.toList[d.toNat]? = some c := by
  have hl : z.cps.toList.length = z.length := Array.length_toList
  have k : d.toNat < z.cps.toList.length := by omega
  have e : z.cps.toList[d.toNat]? = some z.cps.toList[d.toNat] := List.getElem?_eq_getElem k
  refine ⟨_, ?_, e⟩
  have q := atI_nat e
  rwa [show ((d.toNat : Nat) : Int) = d by omega] at q
theorem ln {n : Nat} (h : n ≤ 1000000) : n ≤ sizeLine := Nat.le_trans h (by decide)
theorem lt {n : Nat} (h : n < 1000000) : n < sizeLine := Nat.lt_of_lt_of_le h (by decide)
theorem perm_erase {α : Type} : ∀ {xs : List α} {i : Nat} {x : α}, xs[i]? = some x → xs.Perm (x :: xs.eraseIdx i)
  | [], i, x, h => by simp at h
  | a :: xs, 0, x, h => by
    have e := Option.some.inj h
    subst e
    exact .refl _
  | a :: xs, i + 1, x, h => ((perm_erase (xs := xs) (i := i) h).cons a).trans (.swap _ _ _)
/-! ### sizes of nested data -/
mutual
def szD : PyData → Nat
  | .list ds => 1 + szL ds
  | .tuple ds => 1 + szL ds
  | .str x => 1 + x.length
  | _ => 1
def szL : List PyData → Nat
  | [] => 0
  | d :: ds => szD d + szL ds
end
theorem szD_pos : ∀ d, 1 ≤ szD d
  | .none => Nat.le_refl _
  | .bool _ => Nat.le_refl _
  | .int _ => Nat.le_refl _
  | .str _ => by unfold szD; omega
  | .list ds => by unfold szD; omega
  | .tuple ds => by unfold szD; omega
  | .dict _ => Nat.le_refl _
theorem szL_len : ∀ (a : List PyData), a.length ≤ szL a
  | [] => Nat.zero_le _
  | d :: a => by
    have := szL_len a
    have := szD_pos d
    show a.length + 1 ≤ szD d + szL a
    omega
theorem szL_get : ∀ {a : List PyData} {i : Nat} {d : PyData}, a[i]? = some d → szD d ≤ szL a
  | [], i, d, h => by simp at h
  | x :: a, 0, d, h => by
    have e := Option.some.inj h
    subst e
    show szD _ ≤ szD _ + szL a
    omega
  | x :: a, i + 1, d, h => by
    have := szL_get (a := a) (i := i) h
    show szD d ≤ szD x + szL a
    omega
/-! ### lists of nested data -/
section
variable {G : Hp}
theorem DaAll.append : ∀ {vs ws : List V} {ds es : List PyData}, DaAll G vs ds → DaAll G ws es → DaAll G (vs ++ ws) (ds ++ es)
  | [], ws, _, es, h, k => by cases h; exact k
  | v :: vs, ws, _, es, h, k => by
    cases h with
    | cons a b => exact .cons a (DaAll.append b k)
theorem DaAll.take : ∀ (n : Nat) {vs : List V} {ds : List PyData}, DaAll G vs ds → DaAll G (vs.take n) (ds.take n)
  | 0, _, _, h => by
    rw [List.take_zero, List.take_zero]
    exact .nil
  | n + 1, [], _, h => by cases h; exact .nil
  | n + 1, v :: vs, _, h => by
    cases h with
    | cons a b => exact .cons a (DaAll.take n b)
theorem DaAll.drop : ∀ (n : Nat) {vs : List V} {ds : List PyData}, DaAll G vs ds → DaAll G (vs.drop n) (ds.drop n)
  | 0, _, _, h => h
  | n + 1, [], _, h => by cases h; exact .nil
  | n + 1, v :: vs, _, h => by
    cases h with
    | cons a b => exact DaAll.drop n b
theorem DaAll.set {v : V} {d : PyData} (k : Da G v d) : ∀ (n : Nat) {vs : List V} {ds : List PyData}, DaAll G vs ds → DaAll G (vs.set n v) (ds.set n d)
  | _, [], _, h => by cases h; exact .nil
  | 0, _ :: _, _, h => by
    cases h with
    | cons a b => exact .cons k b
  | n + 1, _ :: _, _, h => by
    cases h with
    | cons a b => exact .cons a (DaAll.set k n b)
theorem DaAll.one {v : V} {d : PyData} (k : Da G v d) : DaAll G [v] [d] := .cons k .nil
theorem DaAll.ints : ∀ (ns : List Int), DaAll G (ns.map V.int) (ns.map PyData.int)
  | [] => .nil
  | n :: ns => .cons (.int n) (DaAll.ints ns)
theorem DaAll.reverse {vs : List V} {ds : List PyData} (h : DaAll G vs ds) : DaAll G vs.reverse ds.reverse := by
  induction vs generalizing ds with
  | nil => cases h; exact .nil
  | cons v vs ih =>
    cases h with
    | cons a b =>
      rw [List.reverse_cons, List.reverse_cons]
      exact (ih b).append (.one a)
end
theorem szL_ints : ∀ (ns : List Int), szL (ns.map PyData.int) = ns.length
  | [] => rfl
  | n :: ns => by
    show 1 + szL (ns.map PyData.int) = ns.length + 1
    rw [szL_ints ns]
    omega
/-! ### leaves -/
inductive Leaf : V → PyData → Prop
  | non : Leaf .non .none
  | bl (b : Bool) : Leaf (.bl b) (.bool b)
  | int (i : Int) : Leaf (.int i) (.int i)
  | str (x : Str) : x.length ≤ 100 → Leaf (.str x) (.str x)
theorem Leaf.da {G : Hp} {v : V} {d : PyData} (h : Leaf v d) : Da G v d := by
  cases h with
  | non => exact .non
  | bl b => exact .bl b
  | int i => exact .int i
  | str x _ => exact .str x
theorem Leaf.sz {v : V} {d : PyData} (h : Leaf v d) : szD d ≤ 101 := by
  cases h with
  | str x hx => unfold szD; omega
  | _ => show 1 ≤ 101; decide
/-! ### texts -/
theorem yesT {σ : L2.St} {H : Hp} {A B : Hp → Prop} (h : A H) : tYes σ H (fun b H3 => if b = true then A H3 else B H3) := iteT (B := B H) h
theorem Da.of_if {G : Hp} {p : Addr} {b : Bool} {xs : List V} {ds : List PyData} (h : G p = some (if b then HO.tup xs else HO.lst xs)) (k : DaAll G xs ds) : Da G (.ref p) (if b then .tuple ds else .list ds) := by
  cases b with
  | true => exact .tup h k
  | false => exact .lst h k
/-! ### promises -/
abbrev HasL (H : Hp) (a : Addr) (xs : List V) : Prop := H a = some (.lst xs) ∨ H a = some (.tup xs)
theorem HasL.len {K : PySem.W.Frag} {H : Hp} {a : Addr} {xs : List V} (h : HasL H a xs) : SqL K H a xs ∨ SqT K H a xs := h.elim (fun h => .inl (.of h)) (fun h => .inr (.of h))
def spDrawn : Sp := fun vs H Q _ => ∃ (S : Sr) (G : Hp) (a : Addr) (xs : List V) (n : Int), vs = [.ref S.a, .ref a, .int n] ∧ Wd S G H ∧ HasL H a xs ∧ xs.length ≤ 100000 ∧ 0 ≤ n ∧ n ≤ 100000 ∧
  ∀ (l : Addr) (ys rest : List V) (H' : Hp), Go S G H G H' → G l = none → H l = none → H' l = some (.lst ys) → (ys ++ rest).Perm xs → ys.length = min n.toNat xs.length → Q (.ref l) H'
def spEither : Sp := fun vs H Q _ => ∃ (S : Sr) (G : Hp) (a : Addr) (xs : List V), vs = [.ref S.a, .ref a] ∧ Wd S G H ∧ a ≠ S.a ∧ H a = some (.lst xs) ∧
  ∀ (p : Addr) (b : Bool) (H' : Hp), Go S G H G H' → G p = none → H p = none → H' p = some (if b then .tup xs else .lst xs) → Q (.ref p) H'
/-- a tuple of whole numbers, a move on n points -/
def IsMv (ns : List Int) (n : Int) : Prop := ns.Perm ((List.range n.toNat).map fun (i : Nat) => (i : Int))
def spMove : Sp := fun vs H Q _ => ∃ (S : Sr) (G : Hp) (n : Int), vs = [.ref S.a, .int n] ∧ Wd S G H ∧ 0 ≤ n ∧ n ≤ 10000 ∧
  ∀ (p : Addr) (ns : List Int) (G' H' : Hp), Go S G H G' H' → G' p = some (.tup (ns.map V.int)) → IsMv ns n → Q (.ref p) H'
end Hd

namespace Hd
open PySem PySem.Spec PyProof.Rows L2
/-! ### equal data -/
mutual
def sameD : PyData → PyData → Bool
  | .none, .none => true
  | .bool a, .bool b => decide (a = b)
  | .int a, .int b => decide (a = b)
  | .str a, .str b => decide (a = b)
  | .list a, .list b => sameL a b
  | .tuple a, .tuple b => sameL a b
  | _, _ => false
def sameL : List PyData → List PyData → Bool
  | [], [] => true
  | x :: a, y :: b => sameD x y && sameL a b
  | _, _ => false
end
def noDict : PyData → Bool
  | .dict _ => false
  | _ => true
mutual
theorem sameD_self {G : Hp} : ∀ (d : PyData) (v : V), Da G v d → sameD d d = true
  | .none, _, _ => rfl
  | .bool a, _, _ => decide_eq_true rfl
  | .int a, _, _ => decide_eq_true rfl
  | .str a, _, _ => decide_eq_true rfl
  | .list a, _, h => by
    cases h with
    | lst h1 h2 => exact sameL_self a _ h2
  | .tuple a, _, h => by
    cases h with
    | tup h1 h2 => exact sameL_self a _ h2
  | .dict _, _, h => by cases h
theorem sameL_self {G : Hp} : ∀ (ds : List PyData) (vs : List V), DaAll G vs ds → sameL ds ds = true
  | [], _, _ => rfl
  | d :: ds, _, h => by
    cases h with
    | cons a b =>
      show (sameD d d && sameL ds ds) = true
      rw [sameD_self d _ a, sameL_self ds _ b]
      rfl
end
section
variable {G : Hp} {v w : V} {d e : PyData}
end
theorem ib_none_int  : instB PyData.none "int" = false := by simp [instB, tyD]
theorem ib_none_tuple  : instB PyData.none "tuple" = false := by simp [instB, tyD]
theorem ib_none_list  : instB PyData.none "list" = false := by simp [instB, tyD]
theorem ib_bool_int (x : Bool) : instB (.bool x) "int" = true := by simp [instB, tyD]
theorem ib_bool_bool (x : Bool) : instB (.bool x) "bool" = true := by simp [instB, tyD]
theorem ib_bool_tuple (x : Bool) : instB (.bool x) "tuple" = false := by simp [instB, tyD]
theorem ib_bool_list (x : Bool) : instB (.bool x) "list" = false := by simp [instB, tyD]
theorem ib_int_int (x : Int) : instB (.int x) "int" = true := by simp [instB, tyD]
theorem ib_int_bool (x : Int) : instB (.int x) "bool" = false := by simp [instB, tyD]
theorem ib_int_tuple (x : Int) : instB (.int x) "tuple" = false := by simp [instB, tyD]
theorem ib_int_list (x : Int) : instB (.int x) "list" = false := by simp [instB, tyD]
theorem ib_str_int (x : Str) : instB (.str x) "int" = false := by simp [instB, tyD]
theorem ib_str_tuple (x : Str) : instB (.str x) "tuple" = false := by simp [instB, tyD]
theorem ib_str_list (x : Str) : instB (.str x) "list" = false := by simp [instB, tyD]
theorem ib_str_str (x : Str) : instB (.str x) "str" = true := by simp [instB, tyD]
theorem ib_list_int (x : List PyData) : instB (.list x) "int" = false := by simp [instB, tyD]
theorem ib_list_tuple (x : List PyData) : instB (.list x) "tuple" = false := by simp [instB, tyD]
theorem ib_list_list (x : List PyData) : instB (.list x) "list" = true := by simp [instB, tyD]
theorem ib_tuple_int (x : List PyData) : instB (.tuple x) "int" = false := by simp [instB, tyD]
theorem ib_tuple_tuple (x : List PyData) : instB (.tuple x) "tuple" = true := by simp [instB, tyD]
theorem ib_tuple_list (x : List PyData) : instB (.tuple x) "list" = false := by simp [instB, tyD]
theorem iteDT {c A B : Prop} [Decidable c] (h : c) (k : A) : if decide c = true then A else B := by rw [decide_eq_true h]; exact iteT k
theorem iteDF {c A B : Prop} [Decidable c] (h : ¬ c) (k : B) : if decide c = true then A else B := by rw [decide_eq_false h]; exact iteF k
theorem iteBT {b : Bool} {A B : Prop} (h : b = true) (k : A) : if b = true then A else B := by rw [h]; exact iteT k
theorem iteBF {b : Bool} {A B : Prop} (h : b = false) (k : B) : if b = true then A else B := by rw [h]; exact iteF k
theorem nd_of {p : Prop} [Decidable p] (h : (!decide p) = true) : ¬ p := fun q => by rw [decide_eq_true q] at h; cases h
theorem nd_not {p : Prop} [Decidable p] (h : ¬ (!decide p) = true) : p := by
  by_cases q : p
  · exact q
  · rw [decide_eq_false q] at h
    exact absurd rfl h
theorem rIx_of {K : PySem.W.Frag} {H : Hp} {Q : VK} {a : Addr} {xs : List V} {i : Int} {x : V} (h : HasL H a xs) (e : atI xs i = some x) (q : Q x H) : rIx K (.ref a) (.int i) H Q :=
  h.elim (fun h => .inl ⟨a, xs, i, x, rfl, rfl, .of h, e, q⟩) (fun h => .inr (.inl ⟨a, xs, i, x, rfl, rfl, .of h, e, q⟩))
theorem HasL.lenV {K : PySem.W.Frag} {H : Hp} {a : Addr} {xs : List V} (h : HasL H a xs) : LenV K (.ref a) H xs.length := h.elim (fun h => .inl ⟨xs, .of h, rfl⟩) (fun h => .inr ⟨xs, .of h, rfl⟩)
theorem HasL.up {H H' : Hp} {a : Addr} {xs : List V} (h : HasL H a xs) (g : Same H H') : HasL H' a xs := h.elim (fun h => .inl (g _ _ h)) (fun h => .inr (g _ _ h))
theorem at_nat {xs : List V} {i : Nat} (h : i < xs.length) : ∃ x, xs[i]? = some x ∧ atI xs (0 + (i : Int)) = some x := by
  have e : xs[i]? = some xs[i] := List.getElem?_eq_getElem h
  refine ⟨xs[i], e, ?_⟩
  rw [Int.zero_add]
  exact atI_nat e
def sqD (t : Bool) (ds : List PyData) : PyData := if t then .tuple ds else .list ds
theorem sqD_sz (t : Bool) (ds : List PyData) : szD (sqD t ds) = 1 + szL ds := by cases t <;> rfl
theorem Da.kind {G : Hp} {v : V} {d : PyData} (h : Da G v d) : (v = .non ∧ d = .none) ∨ (∃ b, v = .bl b ∧ d = .bool b) ∨ (∃ i, v = .int i ∧ d = .int i) ∨ (∃ x, v = .str x ∧ d = .str x) ∨
    ∃ a xs ds t, v = .ref a ∧ HasL G a xs ∧ (t = true → G a = some (.tup xs)) ∧ (t = false → G a = some (.lst xs)) ∧ DaAll G xs ds ∧ d = sqD t ds := by
  cases h with
  | non => exact .inl ⟨rfl, rfl⟩
  | bl b => exact .inr (.inl ⟨b, rfl, rfl⟩)
  | int i => exact .inr (.inr (.inl ⟨i, rfl, rfl⟩))
  | str x => exact .inr (.inr (.inr (.inl ⟨x, rfl, rfl⟩)))
  | lst a b => exact .inr (.inr (.inr (.inr ⟨_, _, _, false, rfl, .inl a, (fun z => nomatch z), fun _ => a, b, rfl⟩)))
  | tup a b => exact .inr (.inr (.inr (.inr ⟨_, _, _, true, rfl, .inr a, fun _ => a, (fun z => nomatch z), b, rfl⟩)))
/-- pairs that are still to be compared -/
structure Pr where
  a : Addr
  v : V
  w : V
  d : PyData
  e : PyData
def PairAt (G H : Hp) (x : Pr) : Prop := H x.a = some (.tup [x.v, x.w]) ∧ Da G x.v x.d ∧ Da G x.w x.e
theorem PairAt.new {G H H' : Hp} {x : Pr} {p : Addr} {o : HO} (h : PairAt G H x) (n : New H p o H') : PairAt G H' x := ⟨n.else h.1, h.2⟩
theorem PairAt.put {G H H' : Hp} {x : Pr} {l : Addr} {xs ys : List V} (h : PairAt G H x) (hl : H l = some (.lst xs)) (e : H' = upd H l (.lst ys)) : PairAt G H' x := ⟨upd_else e h.1 (ne_of h.1 hl (by intro z; cases z)), h.2⟩
def spIsWhole : Sp := fun vs H Q _ => ∃ (v : V) (d : PyData), vs = [v] ∧ Da H v d ∧ Q (.bl (isI d)) H
theorem isI_inst (d : PyData) (h : noDict d = true) : (instB d "int" && !instB d "bool") = isI d := by
  cases d <;> first | rfl | cases h | decide +kernel
theorem Da.nd {G : Hp} {v : V} {d : PyData} (h : Da G v d) : noDict d = true := by cases h <;> rfl
end Hd

namespace Hd
open PySem PySem.Spec PyProof.Rows L2
/-! ### == of lists of ints -/
theorem DpAll.ints {K : PySem.W.Frag} {H : Hp} : ∀ (ns : List Int), DpAll K H (ns.map V.int) (ns.map PyData.int)
  | [] => .nil
  | n :: ns => .cons (.int n) (DpAll.ints ns)
theorem eqv_ints : ∀ (ns ms : List Int), PyData.eqvAll (ns.map PyData.int) (ms.map PyData.int) = decide (ns = ms)
  | [], [] => rfl
  | [], _ :: _ => rfl
  | _ :: _, [] => rfl
  | a :: ns, b :: ms => by
    show (PyData.eqv (.int a) (.int b) && PyData.eqvAll (ns.map PyData.int) (ms.map PyData.int)) = _
    rw [eqv_ints ns ms]
    show ((a == b) && decide (ns = ms)) = decide (a :: ns = b :: ms)
    by_cases h : a = b
    · subst h
      by_cases k : ns = ms
      · subst k; simp
      · simp [k]
    · simp [h]
def rEqLI (K : PySem.W.Frag) : R2 := fun x y H Q => ∃ (a b : Addr) (ns ms : List Int), x = .ref a ∧ y = .ref b ∧ SqL K H a (ns.map V.int) ∧ SqL K H b (ms.map V.int) ∧ Q (.bl (decide (ns = ms))) H
theorem op_eqLI {X : Cx} (hu : X.A.units + 64 < cLine) : OpR X (compareOp .Eq) (rEqLI X.K) := opR_mono (op_eqD hu) fun x y H Q h => by
  obtain ⟨a, b, ns, ms, rfl, rfl, ha, hb, q⟩ := h
  refine ⟨.list (ns.map .int), .list (ms.map .int), .lst ha (DpAll.ints ns), .lst hb (DpAll.ints ms), PySem.W.ke_shaped_ints ns, PySem.W.ke_shaped_ints ms, ?_⟩
  rw [PyData.eqv, eqv_ints]
  exact q
/-! ### steps without a store -/
section
variable {G H G1 H1 H2 : Hp} {p l : Addr} {o : HO}
theorem Stq.loc2 (s : Stq G H G1 H1) (n : New H1 p o H2) : Stq G H G1 H2 ∧ G1 p = none ∧ H2 p = some o ∧ H p = none :=
  ⟨s.trans (Stq.loc s.gh n).1, (Stq.loc s.gh n).2.1, n.at, s.hh.free n.fr⟩
theorem Stq.know2 (s : Stq G H G1 H1) (n : New H1 p o H2) : ∃ G2, Stq G H G2 H2 ∧ Same G1 G2 ∧ G2 p = some o ∧ ∀ b, b ≠ p → G2 b = G1 b := by
  obtain ⟨G2, t, e, k⟩ := Stq.know s.gh n
  exact ⟨G2, s.trans t, t.gg, e, k⟩
theorem Stq.nw2 (s : Stq G H G1 H1) {b : Addr} {u : HO} (h : H b = some u) (g : G b = none) (t : isT u = false := by rfl) : G1 b = none := s.nw b u h t g
end
/-! ### what frozen says -/
def frz : Nat → PyData → PyData
  | k + 1, .list ds => .tuple [.str "list", .tuple (ds.map (frz k))]
  | k + 1, .tuple ds => .tuple [.str "tuple", .tuple (ds.map (frz k))]
  | _, d => d
/-! ### what counted says -/
/-! ### what is_move says -/
def isNum (d : PyData) (lo hi : Int) : Bool := match d with
  | .int i => decide (lo ≤ i) && decide (i ≤ hi)
  | _ => false
def intsOf : List PyData → List Int
  | [] => []
  | .int i :: r => i :: intsOf r
  | _ :: r => intsOf r
def mvOn (n : Int) : PyData → Bool
  | .tuple ds => decide (((ds.length : Nat) : Int) = n) && (ds.all (fun d => isNum d 0 (n - 1)) && decide ((intsOf ds).Perm ((List.range n.toNat).map fun (i : Nat) => (i : Int))))
  | _ => false
def spIsNum : Sp := fun vs H Q _ => ∃ v d lo hi, vs = [v, .int lo, .int hi] ∧ Da H v d ∧ Q (.bl (isNum d lo hi)) H
def spIsPoint : Sp := fun vs H Q _ => ∃ v d n, vs = [.int n, v] ∧ Da H v d ∧ Q (.bl (isNum d 0 (n - 1))) H
def spIsMoveOn : Sp := fun vs H Q _ => ∃ (G : Hp) (v : V) (d : PyData) (n : Int), vs = [.int n, v] ∧ Same G H ∧ Da G v d ∧ szD d ≤ 1000000 ∧ ∀ H', Same H H' → Q (.bl (mvOn n d)) H'
end Hd

namespace Hd
open PySem PySem.Spec PyProof.Rows L2
def rngI (n : Int) : List Int := (List.range n.toNat).map fun (i : Nat) => (i : Int)
theorem rngI_len (n : Int) : (rngI n).length = n.toNat := by unfold rngI; rw [List.length_map, List.length_range]
theorem rngI_mem {n k : Int} : k ∈ rngI n ↔ 0 ≤ k ∧ k < n := by
  unfold rngI
  rw [List.mem_map]
  constructor
  · rintro ⟨i, hi, rfl⟩
    have := List.mem_range.mp hi
    omega
  · intro h
    exact ⟨k.toNat, List.mem_range.mpr (by omega), by omega⟩
theorem rngI_nodup (n : Int) : (rngI n).Nodup := by
  unfold rngI
  exact List.Pairwise.map (R := (· ≠ ·)) _ (fun a b h e => h (by omega)) List.nodup_range
theorem rngI_sorted (n : Int) : (rngI n).Pairwise (· ≤ ·) := by
  unfold rngI
  exact List.Pairwise.map (R := (· < ·)) _ (fun a b h => by omega) List.pairwise_lt_range
theorem rgV_rngI (n : Int) : rgV 0 n = (rngI n).map V.int := by
  unfold rgV rngI
  rw [List.map_map, Int.sub_zero]
  refine List.map_congr_left fun i _ => ?_
  show V.int (0 + (i : Int)) = V.int (i : Int)
  rw [Int.zero_add]
theorem perm_of_subset : ∀ {S L : List Int}, S.Nodup → (∀ x ∈ S, x ∈ L) → L.length ≤ S.length → L.Perm S
  | [], L, _, _, h => by
    rw [List.eq_nil_of_length_eq_zero (Nat.le_zero.mp h)]
  | a :: S, L, nd, hs, hl => by
    have ha := hs a List.mem_cons_self
    have nd2 := List.nodup_cons.mp nd
    have p := List.perm_cons_erase ha
    have hl2 := p.length_eq
    rw [List.length_cons] at hl2 hl
    refine p.trans (List.Perm.cons a (perm_of_subset nd2.2 (fun x hx => ?_) (by omega)))
    refine (List.mem_erase_of_ne (show x ≠ a from fun e => nd2.1 (e ▸ hx))).mpr (hs x (List.mem_cons_of_mem _ hx))
theorem ints_isNum {ds : List PyData} {lo hi : Int} (h : ds.all (fun d => isNum d lo hi) = true) : ds = (intsOf ds).map PyData.int := by
  induction ds with
  | nil => rfl
  | cons d r ih =>
    rw [List.all_cons, Bool.and_eq_true] at h
    cases d with
    | int i =>
      show PyData.int i :: r = PyData.int i :: (intsOf r).map PyData.int
      rw [← ih h.2]
    | _ => cases h.1
theorem vals_int {G : Hp} : ∀ {xs : List V} {ns : List Int}, DaAll G xs (ns.map PyData.int) → xs = ns.map V.int
  | [], [], _ => rfl
  | [], _ :: _, h => by cases h
  | _ :: _, [], h => by cases h
  | x :: xs, n :: ns, h => by
    cases h with
    | cons a b =>
      cases a
      rw [vals_int (ns := ns) b]
      rfl
end Hd

namespace L2
open PySem PySem.Spec PyProof.Rows
end L2
namespace Hd
open PySem PySem.Spec PyProof.Rows L2
/-! ### xs[::-1] -/
section
variable {X : Cx}
end
end Hd

namespace Hd
open PySem PySem.Spec PyProof.Rows L2
/-! ### moves -/
theorem isMv_of {ns : List Int} {n : Int} (h0 : 0 ≤ n) (hl : ns.length = n.toNat) (h : ∀ x, 0 ≤ x → x < n → x ∈ ns) : IsMv ns n :=
  perm_of_subset (rngI_nodup n) (fun x hx => h x (rngI_mem.mp hx).1 (rngI_mem.mp hx).2) (by rw [hl]; exact Nat.le_of_eq (rngI_len n).symm)
theorem IsMv.len {ns : List Int} {n : Int} (h : IsMv ns n) : ns.length = n.toNat := by
  have := List.Perm.length_eq h
  rwa [show ((List.range n.toNat).map fun (i : Nat) => (i : Int)) = rngI n from rfl, rngI_len] at this
theorem IsMv.mem {ns : List Int} {n : Int} (h : IsMv ns n) {x : Int} : x ∈ ns ↔ 0 ≤ x ∧ x < n := (List.Perm.mem_iff h).trans rngI_mem
theorem IsMv.nodup {ns : List Int} {n : Int} (h : IsMv ns n) : ns.Nodup := (List.Perm.nodup_iff h).mpr (rngI_nodup n)
def intV : V → Int
  | .int i => i
  | _ => 0
theorem map_intV (ns : List Int) : (ns.map V.int).map intV = ns := by
  rw [List.map_map]
  exact List.map_id'' (fun _ => rfl) _
/-- a part of a list of ints is a list of ints -/
theorem perm_ints {ys rest : List V} {ns : List Int} (h : (ys ++ rest).Perm (ns.map V.int)) : ∃ (rs ms : List Int), ys = rs.map V.int ∧ rest = ms.map V.int ∧ (rs ++ ms).Perm ns := by
  have all : ∀ v ∈ ys ++ rest, ∃ i, v = V.int i := fun v hv => by
    obtain ⟨i, _, e⟩ := List.mem_map.mp (h.mem_iff.mp hv)
    exact ⟨i, e.symm⟩
  have one : ∀ zs : List V, (∀ v ∈ zs, ∃ i, v = V.int i) → zs = (zs.map intV).map V.int := fun zs hz => by
    induction zs with
    | nil => rfl
    | cons v r ih =>
      obtain ⟨i, rfl⟩ := hz v List.mem_cons_self
      rw [List.map_cons, List.map_cons, ← ih fun w hw => hz w (List.mem_cons_of_mem _ hw)]
      rfl
  refine ⟨ys.map intV, rest.map intV, one _ fun v hv => all v (List.mem_append_left _ hv), one _ fun v hv => all v (List.mem_append_right _ hv), ?_⟩
  have := h.map intV
  rwa [map_intV, List.map_append] at this
theorem atI_ints {ns : List Int} {d : Int} (h0 : 0 ≤ d) (h1 : d < (ns.length : Nat)) : ∃ n, ns[d.toNat]? = some n ∧ atI (ns.map V.int) d = some (.int n) ∧ n ∈ ns := by
  obtain ⟨x, e, f, _⟩ := at_int (xs := ns.map V.int) h0 (by rw [List.length_map]; exact h1)
  rw [List.getElem?_map] at e
  cases g : ns[d.toNat]? with
  | none => rw [g] at e; cases e
  | some n =>
    rw [g] at e
    cases e
    exact ⟨n, rfl, f, List.mem_of_getElem? g⟩
/-- the ring of the points rs on n points, the first i of them set -/
def Ring (n : Nat) (rs : List Int) (i : Nat) (L : List Int) : Prop :=
  L.length = n ∧ (∀ j r, j < i → rs[j]? = some r → ∃ t, rs[(j + 1) % rs.length]? = some t ∧ L[r.toNat]? = some t) ∧
    ∀ x : Nat, x < n → (∀ j, j < i → rs[j]? ≠ some (x : Int)) → L[x]? = some (x : Int)
theorem Ring.start (n : Int) (rs : List Int) : Ring n.toNat rs 0 (rngI n) := by
  refine ⟨rngI_len n, fun j r h => absurd h (Nat.not_lt_zero _), fun x hx _ => ?_⟩
  unfold rngI
  rw [List.getElem?_map, List.getElem?_range hx]
  rfl
theorem Ring.step {n : Nat} {rs : List Int} {i : Nat} {L : List Int} {r t : Int} (h : Ring n rs i L) (nd : rs.Nodup) (hb : ∀ x ∈ rs, 0 ≤ x ∧ x < (n : Int)) (hr : rs[i]? = some r) (ht : rs[(i + 1) % rs.length]? = some t) : Ring n rs (i + 1) (L.set r.toNat t) := by
  obtain ⟨h1, h2, h3⟩ := h
  have br := hb r (List.mem_of_getElem? hr)
  refine ⟨by rw [List.length_set]; exact h1, fun j q hj hq => ?_, fun x hx hno => ?_⟩
  · by_cases e : j = i
    · subst e
      rw [hr] at hq
      cases hq
      exact ⟨t, ht, List.getElem?_set_self (by omega)⟩
    · obtain ⟨u, f1, f2⟩ := h2 j q (by omega) hq
      refine ⟨u, f1, ?_⟩
      have bq := hb q (List.mem_of_getElem? hq)
      have ne : r ≠ q := fun z => by
        subst z
        obtain ⟨a1, a2⟩ := List.getElem?_eq_some_iff.mp hr
        obtain ⟨b1, b2⟩ := List.getElem?_eq_some_iff.mp hq
        exact e ((List.getElem_inj nd).mp (b2.trans a2.symm))
      rw [List.getElem?_set_ne (by omega)]
      exact f2
  · have ne : (x : Int) ≠ r := fun z => hno i (by omega) (by rw [z]; exact hr)
    rw [List.getElem?_set_ne (by omega)]
    exact h3 x hx fun j hj => hno j (by omega)
theorem Ring.mv {n : Int} {rs L : List Int} (h0 : 0 ≤ n) (h : Ring n.toNat rs rs.length L) (hb : ∀ x ∈ rs, 0 ≤ x ∧ x < n) : IsMv L n := by
  obtain ⟨h1, h2, h3⟩ := h
  refine isMv_of h0 h1 fun x x0 x1 => ?_
  by_cases hx : x ∈ rs
  · obtain ⟨k, hk⟩ := List.getElem?_of_mem hx
    have kl := (List.getElem?_eq_some_iff.mp hk).1
    -- the one in front of it
    have : ∃ j, j < rs.length ∧ (j + 1) % rs.length = k := by
      by_cases k0 : k = 0
      · exact ⟨rs.length - 1, by omega, by rw [k0, Nat.sub_add_cancel (by omega), Nat.mod_self]⟩
      · exact ⟨k - 1, by omega, by rw [Nat.sub_add_cancel (by omega)]; exact Nat.mod_eq_of_lt kl⟩
    obtain ⟨j, jl, je⟩ := this
    obtain ⟨t, f1, f2⟩ := h2 j rs[j] jl (List.getElem?_eq_getElem jl)
    rw [je, hk] at f1
    cases f1
    exact List.mem_of_getElem? f2
  · have := h3 x.toNat (by omega) fun j hj e => by
      rw [show ((x.toNat : Nat) : Int) = x by omega] at e
      exact hx (List.mem_of_getElem? e)
    rw [show ((x.toNat : Nat) : Int) = x by omega] at this
    exact List.mem_of_getElem? this
theorem flat_ints (ns : List Int) : (ns.map V.int).all flatV = true := List.all_eq_true.mpr fun v hv => by
  obtain ⟨i, _, rfl⟩ := List.mem_map.mp hv
  rfl
theorem DaAll.erase {G : Hp} {vs : List V} {ds : List PyData} (n : Nat) (h : DaAll G vs ds) : DaAll G (vs.eraseIdx n) (ds.eraseIdx n) := by
  rw [List.eraseIdx_eq_take_drop_succ, List.eraseIdx_eq_take_drop_succ]
  exact (h.take n).append (h.drop (n + 1))
end Hd

namespace Hd
open PySem PySem.Spec PyProof.Rows L2
/-- a value without parts -/
def Flat (v : V) (d : PyData) : Prop := (v = .non ∧ d = .none) ∨ (∃ b, v = .bl b ∧ d = .bool b) ∨ (∃ i, v = .int i ∧ d = .int i) ∨ ∃ x, v = .str x ∧ d = .str x
theorem Flat.da {G : Hp} {v : V} {d : PyData} (h : Flat v d) : Da G v d := by
  rcases h with ⟨rfl, rfl⟩ | ⟨b, rfl, rfl⟩ | ⟨i, rfl, rfl⟩ | ⟨x, rfl, rfl⟩
  · exact .non
  · exact .bl b
  · exact .int i
  · exact .str x
def cutD (ds : List PyData) (lo hi : Option Int) : List PyData := (ds.drop (HT.sIx ds.length 0 lo)).take (HT.sIx ds.length ds.length hi - HT.sIx ds.length 0 lo)
theorem DaAll.cut {G : Hp} {xs : List V} {ds : List PyData} (h : DaAll G xs ds) (lo hi : Option Int) : DaAll G (cutV xs lo hi) (cutD ds lo hi) := by
  unfold cutV cutD
  rw [h.length]
  exact (h.drop _).take _
/-- a container on the way down: its object, its items, their data, its kind, the place that is gone to; and the tuple that keeps it -/
structure Pth where
  tp : Addr
  a : Addr
  xs : List V
  ds : List PyData
  t : Bool
  i : Nat
def PthAt (G : Hp) (p : Pth) : Prop := G p.tp = some (.tup [.ref p.a, .int (p.i : Int)]) ∧ G p.a = some (if p.t then .tup p.xs else .lst p.xs) ∧ DaAll G p.xs p.ds ∧ p.i < p.xs.length
theorem PthAt.up {G G' : Hp} {p : Pth} (h : PthAt G p) (g : Same G G') : PthAt G' p := ⟨g _ _ h.1, g _ _ h.2.1, h.2.2.1.up g, h.2.2.2⟩
theorem Da.kind2 {G : Hp} {v : V} {d : PyData} (h : Da G v d) : (Flat v d ∧ instB d "list" = false ∧ instB d "tuple" = false) ∨ ∃ a xs ds t, v = .ref a ∧ G a = some (if t then HO.tup xs else HO.lst xs) ∧ DaAll G xs ds ∧ d = sqD t ds := by
  cases h with
  | non => exact .inl ⟨.inl ⟨rfl, rfl⟩, ib_none_list, ib_none_tuple⟩
  | bl b => exact .inl ⟨.inr (.inl ⟨b, rfl, rfl⟩), ib_bool_list b, ib_bool_tuple b⟩
  | int i => exact .inl ⟨.inr (.inr (.inl ⟨i, rfl, rfl⟩)), ib_int_list i, ib_int_tuple i⟩
  | str x => exact .inl ⟨.inr (.inr (.inr ⟨x, rfl, rfl⟩)), ib_str_list x, ib_str_tuple x⟩
  | lst a b => exact .inr ⟨_, _, _, false, rfl, a, b, rfl⟩
  | tup a b => exact .inr ⟨_, _, _, true, rfl, a, b, rfl⟩
theorem Da.ints {G : Hp} {p : Addr} {ns : List Int} (h : G p = some (.tup (ns.map V.int))) : Da G (.ref p) (.tuple (ns.map PyData.int)) := .tup h (DaAll.ints ns)
theorem sz_ints (ns : List Int) : szD (.tuple (ns.map PyData.int)) = 1 + ns.length := by
  show 1 + szL _ = _
  rw [szL_ints]
theorem Go.pure {S : Sr} {G H G1 H1 H2 : Hp} (a : Go S G H G1 H1) (g : Same H1 H2) : Go S G H G1 H2 := a.q ⟨Same.refl _, a.gh.trans g, fun _ _ _ _ h => h, g⟩
theorem intsOf_map : ∀ ns : List Int, intsOf (ns.map PyData.int) = ns
  | [] => rfl
  | n :: r => by
    show n :: intsOf (r.map PyData.int) = n :: r
    rw [intsOf_map r]
def spStore (K : PySem.W.Frag) : Sp := fun vs H Q _ => ∃ (a : Addr) (ns : List Int), vs = [.ref a] ∧ SqL K H a (ns.map V.int) ∧ ns.length ≤ 63 ∧ ∀ (S : Sr) (H' : Hp), Wd S H H' → Q (.ref S.a) H'
def spLaw (K : PySem.W.Frag) : Sp := fun vs H Q _ => ∃ (a : Addr) (ns : List Int), vs = [.ref a] ∧ SqL K H a (ns.map V.int) ∧ ns.length ≤ 63 ∧ ∀ H', Q (.bl true) H'
theorem spLaw_of {K : PySem.W.Frag} {H : Hp} {a : Addr} {ns : List Int} (hl : ns.length ≤ 63) (hS : SqL K H a (ns.map V.int)) : spLaw K [.ref a] H (fun v _ => v = .bl true) fun _ _ _ => False := ⟨a, ns, rfl, hS, hl, fun _ => rfl⟩
theorem cut_all {xs : List V} {n : Nat} (h : xs.length ≤ n) : cutV xs none (some (n : Int)) = xs := by
  unfold cutV
  rw [show HT.sIx xs.length xs.length (some (n : Int)) = min n xs.length from HT.sIx_nat xs.length xs.length n, HT.sIx_none, List.drop_zero, Nat.sub_zero, Nat.min_eq_right h]
  exact List.take_length
end Hd

namespace Hd
open PySem PySem.Spec PyProof.Rows L2

/-! ### the end of a walk while an exception is handled -/
section
variable {prog : Program} {w : World} {A : Around} {s : Shared}
theorem stop_raised {α : Type} {x1 : Addr} {Q : α → Shared → Prop} {E : Value → Shared → Prop} (hot : HotX.HotAt A x1 s.heap)
    (out : ∀ (a : Addr) (o : Obj) (g : Heap), g.get? a = some o → o.cls = .type "StopIteration" → (∀ b u, s.heap.get? b = some u → g.get? b = some u) → E (.ref a) { s with heap := g }) :
    wpAny (model prog w) A (newExc (.type "StopIteration") [] >>= fun e => (raiseNew e : Sem α)) Q E s := by
  obtain ⟨hd, o1, v1, g1, k1, c1⟩ := hot
  have up : ∀ {b : Addr} {u : Obj} {t r : Obj}, s.heap.get? b = some u → ((s.heap.push t).push r).get? b = some u := fun z => Heap.get?_push_of_some _ (Heap.get?_push_of_some _ z)
  apply wpAny_bind
  simp only [newExc, newTuple]
  apply wpAny_bind
  apply wpAny_newObj_type
  · apply wpAny_bind (m := firstArgMember _ _)
    refine wpAny_of_eq (a := Value.none) (by first | rfl | (simp only [firstArgMember]; rfl)) ?_
    apply wpAny_newObj_type
    · refine HotX.raiseNew_hot ⟨hd, o1, v1, up g1, k1, c1⟩ (Nat.ne_of_lt (Heap.lt_size (Heap.get?_push_of_some _ g1))) (Heap.get?_push_size _ rfl) rfl (by first | (simp; done) | (simp; omega)) ?_
      refine out _ _ _ (Heap.get?_update_self _ (Heap.get?_push_size _ rfl) rfl) rfl fun b u z => ?_
      rw [Heap.get?_update_other _ _ (Nat.ne_of_gt (Heap.lt_size (Heap.get?_push_of_some _ z)))]
      exact up z
    · size_fits
  · size_fits
theorem upd_hot {x1 it : Addr} {g : Obj → Obj} (n : x1 ≠ it) (c : HotX.HotAt A x1 s.heap) : HotX.HotAt A x1 (s.heap.update it g) := by
  obtain ⟨hd, o1, v1, g1, r⟩ := c
  exact ⟨hd, o1, v1, (Heap.get?_update_other _ _ (Ne.symm n)).trans g1, r⟩
theorem listEnd_hot {it l x1 : Addr} {i : Nat} {items : Array Value} {Q : Option Value → Shared → Prop} {E : Value → Shared → Prop} (hot : HotX.HotAt A x1 s.heap) (n : x1 ≠ it) (hit : s.heap.IsListIter it l i)
    (hl : s.heap.IsList l items) (hx : items[i]? = none) (hQ : ∀ g, Heap.ExtBut it s.heap g → Q none { s with heap := g }) : wpAny (model prog w) A (pyNext (.ref it)) Q E s := by
  have T := Heap.IsListIter.typeIs hit
  obtain ⟨oi, gi, ci, di⟩ := hit
  obtain ⟨ol, gl, cl, nl, dl⟩ := hl
  unfold pyNext
  apply wpAny_bind
  apply wpAny_attempt
  refine wpAny_callSpecial?_slot (name := Str.ofString "__next__") T slot_listiter_next ?_
  refine wpAny_call_entry slot_listiter_next T entry_listiter_next ?_ (args_listiter_next _)
  change wpAny _ _ (field (Value.ref it) 0 >>= _) _ _ _
  refine wpAny_bind (wpAny_field gi di (x := Value.ref l) rfl ?_)
  change wpAny _ _ (ite ((Value.ref l == Value.none) = true) _ _) _ _ _
  rw [if_neg (show ¬((Value.ref l == Value.none) = true) from fun z => Bool.noConfusion z)]
  change wpAny _ _ (field (Value.ref it) 1 >>= _) _ _ _
  refine wpAny_bind (wpAny_field gi di (x := Value.int i 0) rfl ?_)
  change wpAny _ _ (seqItems? (Value.ref l) >>= _) _ _ _
  refine wpAny_bind (wpAny_seqItems gl dl ?_)
  simp only [hx, Int.toNat_natCast]
  refine wpAny_bind (wpAny_rule (wpAny_bind (wpAny_setField gi di (by simp) ?_)))
  refine stop_raised (upd_hot (g := _) n hot : HotX.HotAt A x1 _) fun a o g go co k => ?_
  refine wpAny_bind (wpAny_isInstance (b := true) (T := "StopIteration") ⟨o, go, co⟩ isSubtype_stop (wpAny_pure (hQ g fun b u hb z => ?_)))
  exact k b u ((Heap.get?_update_other _ _ (Ne.symm hb)).trans z)
end
/-! ### walks over lists and tuples there -/
section
variable {P : Program} {w : World} {K : PySem.W.Frag} {tg : Expr}
theorem HotC.out {X : Cx} {pins : List (Addr × Obj)} {σ : L2.St} {H : Hp} {s : Shared} {b : Addr} (c : L2H.HotC X) (I : Inv X pins σ H s) (f : FpOk X pins H b) : ∃ x1, HotX.HotAt X.A x1 s.heap ∧ x1 ≠ b := by
  obtain ⟨p, ⟨hd, v1, k1, c1⟩, m⟩ := c
  obtain ⟨-, -, -, -, -, f5⟩ := f
  exact ⟨p.1, ⟨hd, p.2, v1, (I.pin p (List.mem_append_left _ m)).1, k1, c1⟩, f5 p (List.mem_append_left _ m)⟩
theorem walk_list (a it : Addr) : L2H.TurnH P w K tg (Itl K a) [it] it (fun i h => h.IsListIter it a i) := by
  constructor
  case mem => exact List.mem_singleton.mpr rfl
  case obj =>
    intro i h st b hb
    obtain rfl := List.mem_singleton.mp hb
    obtain ⟨o, e, -, d⟩ := st
    exact ⟨o, e, fun v z => Data.noConfusion (d.symm.trans z)⟩
  case keep => exact fun i h h' st k => st.at fun o e => k it (List.mem_singleton.mpr rfl) o e
  case self => exact fun A i s Q E st q => wpAny_pyIter_listiter st q
  case item =>
    rintro X rfl rfl rfl hc i pins s σ H E I fp st ⟨xs, x, sq, at_⟩
    obtain ⟨vs, rv, pl, -⟩ := I.list sq
    obtain ⟨u, hu, ru⟩ := rv.get at_
    obtain ⟨f0, f1, f2, f3, f4, f5⟩ := fp it (List.mem_singleton.mpr rfl)
    refine wpAny_pyNext_list_item st pl.isList (x := u) (by simpa using hu) fun g sg keep => ⟨u, rfl, ?_⟩
    have J : Inv X pins σ H { s with heap := g } := I.turned (t' := s.toks) (fun b o n z => (keep.2 b n).trans z) f0 f1 f3 f4 f5
    obtain ⟨o, e, c, d⟩ := id sg
    refine go_of (s := { s with heap := g }) e c d (by decide) ⟨x, H, J, ru, ⟨rfl, fun ys hy => ?_⟩, sg, fun b hb => (fp b hb).1⟩
    rw [I.list_inj hy sq]
    exact at_
  case done =>
    rintro X rfl rfl rfl hc i pins s σ H E I fp st ⟨xs, sq, le⟩
    obtain ⟨vs, rv, pl, -⟩ := I.list sq
    obtain ⟨x1, hot, ne⟩ := HotC.out hc I (fp it (List.mem_singleton.mpr rfl))
    obtain ⟨f0, f1, f2, f3, f4, f5⟩ := fp it (List.mem_singleton.mpr rfl)
    have hl := rv.length
    exact listEnd_hot hot ne st pl.isList (by simp; omega) fun g eb => ⟨rfl, I.turned (t' := s.toks) (fun b o n z => eb b o n z) f0 f1 f3 f4 f5⟩
end
section
variable {X : Cx} {tg l : Expr} {tl : TE}
theorem new_fp {pins : List (Addr × Obj)} {σ : L2.St} {H : Hp} {s : Shared} (I : Inv X pins σ H s) : ∀ b ∈ [s.heap.objs.size], FpOk X pins H b := fun b hb => by
  obtain rfl := List.mem_singleton.mp hb
  exact I.fpOk (Nat.le_refl _) (I.hok.fresh (Nat.le_refl _))
theorem ih_list (hl : PE X l tl) : L2H.PIH X tg l (iList X.K tl) := by
  constructor
  intro pins s σ H R I h
  apply thn (hl.run pins s σ H _ I h)
  rintro v s1 ⟨x, H1, I1, r1, a, rfl, ⟨xs, sq⟩, q⟩
  cases r1
  obtain ⟨vs, rv, pl, -⟩ := I1.list sq
  exact wpAny_pyIter_list pl.isList ⟨_, _, _, _, H1, rfl, I1.kept (t' := s1.toks) fun b o z => Heap.get?_push_of_some _ z, walk_list a _, ⟨_, Heap.get?_push_size _ rfl, rfl, rfl⟩, new_fp I1, q⟩
end
/-! ### comprehensions there -/
/-- a block's context that keeps what is pinned -/
abbrev blkH (X : Cx) (s : Shared) (H : Hp) (scope : Scope) (cenv : Env) (fp : List Addr) : Cx := (X.blk s H scope cenv fp).tr X.pn fun _ _ => False
section
variable {X : Cx} {pins : List (Addr × Obj)} {σ : L2.St} {H : Hp} {s : Shared}
theorem start_blkH {scope : Scope} {own : List (Str × Nat)} {fp : List Addr} {h' : Heap} (I : Inv X pins σ H s) (ce : Env) (cL : ce.locals = s.heap.objs.size) (k : ∀ b o, s.heap.get? b = some o → h'.get? b = some o)
    (J : Inv (X.blk s H scope ce fp) [] (wipe σ (own.map (·.2))) H { s with heap := h' }) : Inv (blkH X s H scope ce fp) [] (wipe σ (own.map (·.2))) H { s with heap := h' } := by
  refine Inv.toTry (X := X.blk s H scope ce fp) (pins := X.pn) (J.pins_of fun p hp => ?_) _
  obtain ⟨e, n, ne, nf, d⟩ := I.pin p (List.mem_append_left _ hp)
  refine ⟨k _ _ e, n, fun z => ?_, fun m => ?_, d⟩
  · have z' : p.1 = s.heap.objs.size := z.trans cL
    exact absurd (Heap.lt_size e) (by rw [z']; exact Nat.lt_irrefl _)
  · exact (List.mem_cons.mp (I.stkSub p.1 m)).elim ne nf
theorem pe_lcH {elt tg iter : Expr} {ifs : List Expr} {scope : Scope} {own : List (Str × Nat)} {pos : Pos} {wi : TI} {g : TG} {tt : TT} {te : TE} (hc : L2H.HotC X) (hN : X.N.Nodup) (hi : L2H.PIH X tg iter wi) (ok : BlkOk X.N X.env.scope scope own)
    (hg : ∀ (s : Shared) (H : Hp) (C : Addr) (cl : List (Str × Addr)) (fp : List Addr), PG (blkH X s H scope (compEnvC scope cl C X.env) fp) tg g)
    (ht : ∀ (s : Shared) (H : Hp) (C : Addr) (cl : List (Str × Addr)) (fp : List Addr), PTs (blkH X s H scope (compEnvC scope cl C X.env) fp) ifs tt)
    (he : ∀ (s : Shared) (H : Hp) (C : Addr) (cl : List (Str × Addr)) (fp : List Addr), PE (blkH X s H scope (compEnvC scope cl C X.env) fp) elt te) (hs : ∀ x, foldedSetIterable iter X.env x = pure x := by intro _; rfl) :
    PE X (.ListComp elt [⟨tg, iter, ifs, 0⟩] scope pos) (tLc wi g tt te (own.map (·.2))) := by
  constructor
  intro pins s σ H Q I h
  rw [eval_ListComp]
  have cells : ∀ y ∈ scope.names, y.2 = .free → ∃ c, X.env.cells.lookup y.1 = some c := fun y hy e => I.ok.has _ (ok.free y hy e)
  refine wpAny_comprehension_free (use := none) rfl hs (closure_ok cells) ok.kind (fun y hy e => (ok.uniq y hy).trans (congrArg some e)) (thn (hi.run pins s σ H _ I h) fun xv s1 hx => thn hx fun itv s2 h2 => ?_)
  obtain ⟨it, fp, tn, J, H2, rfl, I2, T, st2, f2, q⟩ := h2
  refine wpAny_newObj_type (newEnv_comp ?_) (by show 0 ≤ sizeLine; decide)
  obtain ⟨W, ⟨m0, w0⟩, turn⟩ := q s2.heap.objs.size (I2.hok.fresh (Nat.le_refl _))
  have up3 : ∀ b o, s2.heap.get? b = some o → (s2.heap.push { cls := .type "list", data := .seq ([] : List Value).toArray }).get? b = some o := fun b o e => Heap.get?_push_of_some _ e
  have I3 : Inv X pins σ (upd H2 s2.heap.objs.size (.lst [])) { s2 with heap := s2.heap.push { cls := .type "list", data := .seq ([] : List Value).toArray } } :=
    I2.laid (t' := s2.toks) up3 (Nat.le_refl _) ⟨Nat.zero_le _, [], 0, .nil, Heap.get?_push_size _ rfl⟩
  have f3 : ∀ b ∈ fp, FpOk X pins (upd H2 s2.heap.objs.size (.lst [])) b ∧ b < (s2.heap.push { cls := .type "list", data := .seq ([] : List Value).toArray }).objs.size := fun b hb => by
    obtain ⟨o, e, -⟩ := T.obj _ _ st2 b hb
    have lt := Heap.lt_size e
    refine ⟨⟨(upd_ne (Nat.ne_of_lt lt)).trans (f2 b hb).1, (f2 b hb).2⟩, ?_⟩
    rw [Heap.size_push]
    exact Nat.lt_succ_of_lt lt
  have nf3 : ∀ b ∈ fp, (upd H2 s2.heap.objs.size (.lst [])) b = none := fun b hb => (f3 b hb).1.1
  have st3 := T.keep _ _ _ st2 fun b _ o e => up3 b o e
  generalize hD : s2.heap.objs.size = D at *
  generalize hs3 : ({ s2 with heap := s2.heap.push { cls := .type "list", data := .seq ([] : List Value).toArray } } : Shared) = s3 at *
  have hh3 : s2.heap.push { cls := .type "list", data := .seq ([] : List Value).toArray } = s3.heap := by rw [← hs3]
  rw [hh3] at f3 st3
  have k4 : ∀ b o, s3.heap.get? b = some o → (pushCells (s3.heap.push { cls := .type "dict", data := .dict #[] }) scope.names).get? b = some o := fun b o e => pushCells_keeps _ _ _ _ (Heap.get?_push_of_some _ e)
  have J4 := block_start I3 ok hN f3
  generalize hcl : cellsFrom (s3.heap.objs.size + 1) scope.names (cloFrom X.env.cells scope.names []) = cl at J4
  have G := hg s3 (upd H2 D (.lst [])) s3.heap.objs.size cl fp
  have TT := ht s3 (upd H2 D (.lst [])) s3.heap.objs.size cl fp
  have EE := he s3 (upd H2 D (.lst [])) s3.heap.objs.size cl fp
  have I4 := start_blkH I3 (compEnvC scope cl s3.heap.objs.size X.env) rfl k4 J4
  have st4 := T.keep _ _ _ st3 fun b _ o e => k4 b o e
  have hotB : L2H.HotC (blkH X s3 (upd H2 D (.lst [])) scope (compEnvC scope cl s3.heap.objs.size X.env) fp) := hc
  change codeAny _ X.A (Code.compStart (.ListComp elt [⟨tg, iter, ifs, 0⟩] scope pos) 0 (Value.ref it) (Value.ref D) (compEnvC scope cl s3.heap.objs.size X.env))
    (compPost (model X.prog X.w) X.A X.xe none (EP X pins σ Q) (Value.ref D) s3.heap.objs.size) _
  generalize hce : compEnvC scope cl s3.heap.objs.size X.env = ce at *
  have eL : ce.locals = s3.heap.objs.size := by rw [← hce]; rfl
  generalize hs4 : ({ s3 with heap := pushCells (s3.heap.push { cls := .type "dict", data := .dict #[] }) scope.names } : Shared) = s4 at *
  have e4 : pushCells (s3.heap.push { cls := .type "dict", data := .dict #[] }) scope.names = s4.heap := by rw [← hs4]
  rw [e4] at st4
  generalize hH3 : upd H2 D (.lst []) = H3 at *
  have vs := own.map (·.2)
  have still : ∀ {τ : L2.St} {g : Hp} {z : Shared}, Inv (blkH X s3 H3 scope ce fp) [] τ g z → (∀ b ∈ fp, g b = none) → ∀ b ∈ fp, FpOk (blkH X s3 H3 scope ce fp) [] g b := fun {τ g z} J hn b hb =>
    ⟨hn b hb, (J.ok.exf b hb).1, J.ok.exfs b hb, .inl hb, fun x c e => (J.ok.exf b hb).2 x c e, fun p hp => (f3 b hb).1.2.2.2.2.2 p (List.mem_append_left _ (by rw [List.append_nil] at hp; exact hp))⟩
  have body : codeAny (model X.prog X.w) X.A (Code.compLoop (.ListComp elt [⟨tg, iter, ifs, 0⟩] scope pos) 0 (Value.ref it) (Value.ref D) ce) (compPost (model X.prog X.w) X.A X.xe none (EP X pins σ Q) (Value.ref D) s3.heap.objs.size) s4 := by
    refine compLoop_any (fun n z => ∃ i g, Inv (blkH X s3 H3 scope ce fp) [] (wipe σ (own.map (·.2))) g z ∧ tn i z.heap ∧ (∀ b ∈ fp, g b = none) ∧ W i n g) ?_ m0 ⟨0, H3, I4, st4, nf3, w0⟩
    rintro n s5 ⟨i, H5, I5, st5, n5, w5⟩
    obtain ⟨stop, qq⟩ | ⟨go, Nx, hNx, step⟩ := turn i n H5 w5
    · refine thnF (T.done (blkH X s3 H3 scope ce fp) rfl rfl rfl hotB i [] s5 _ H5 (fun _ _ => False) I5 (still I5 n5) st5 stop) ?_
      rintro _ s6 ⟨rfl, I6⟩
      have I7 : Inv X pins σ H5 s6 := I3.call' (ch := fp) I6.os I6.base I6.hok I6.bare fun b hb => ⟨(f3 b hb).1.2.2.2.1, (f3 b hb).1.2.1, (f3 b hb).1.2.2.2.2⟩
      have n6 : H5 s3.heap.objs.size = none := by
        rw [← eL]
        exact I6.free
      obtain ⟨m, hn, -⟩ := I6.loc
      obtain ⟨f0, f1, f2', f4, f5, f6⟩ := I3.fpOk (Nat.le_refl _) n6
      refine ⟨m, by rw [← eL]; exact hn, fun g sb => ⟨.ref D, H5, ?_, rfl, qq⟩⟩
      exact I7.turned (t' := s6.toks) (fun b o nb e => (sb.2 b nb).trans e) f0 f1 f4 f5 f6
    · refine thnF (T.item (blkH X s3 H3 scope ce fp) rfl rfl rfl hotB i [] s5 _ H5 (fun _ _ => False) I5 (still I5 n5) st5 go) ?_
      rintro _ s6 ⟨u, rfl, h6⟩
      refine thnF h6 ?_
      rintro - s7 ⟨x, H7, I7, r7, y7, st7, n7⟩
      have K7 := I7.pinned (still I7 n7) (T.obj _ _ st7)
      refine thnF (G.run _ s7 _ H7 x u _ K7 r7 (step x H7 y7)) ?_
      rintro - s8 ⟨σ8, H8, I8, w8, q8⟩
      have pinned : ∀ {z : Shared} {g : Hp}, Inv (blkH X s3 H3 scope ce fp) ([] ++ pinsAt fp s7.heap) σ8 g z → ∀ b ∈ fp, ∀ o, s7.heap.get? b = some o → z.heap.get? b = some o ∧ g b = none := fun {z g} J b hb o e => by
        have at_ := J.pin (b, o) (List.mem_append_right _ (List.mem_append_right _ (mem_pinsAt hb e)))
        exact ⟨at_.1, at_.2.1⟩
      have again : ∀ {z : Shared} {g : Hp}, Inv (blkH X s3 H3 scope ce fp) ([] ++ pinsAt fp s7.heap) σ8 g z → Nx g → ∃ m, m < n ∧ ∃ i g, Inv (blkH X s3 H3 scope ce fp) [] (wipe σ (own.map (·.2))) g z ∧ tn i z.heap ∧ (∀ b ∈ fp, g b = none) ∧ W i m g := by
        intro z g J nx
        obtain ⟨m', lt, w'⟩ := hNx g nx
        have len : (wipe σ (own.map (·.2))).length = σ8.length := by rw [← w8, wipe_length]
        refine ⟨m', lt, i + 1, g, J.unpinned.weak len (fun j v e => ?_), T.keep _ _ _ st7 fun b hb o e => (pinned J b hb o e).1, fun b hb => ?_, w'⟩
        · exact (wipe_some (w8 ▸ e)).1
        · obtain ⟨o, e, -⟩ := T.obj _ _ st7 b hb
          exact (pinned J b hb o e).2
      refine thnF (TT.run _ s8 σ8 H8 _ I8 q8) ?_
      rintro b s9 ⟨H9, I9, q9⟩
      cases b
      · exact again I9 q9
      · refine thnF (EE.run _ s9 σ8 H9 _ I9 q9) ?_
        rintro z s10 ⟨y, H10, I10, r10, acc, at_, lt, nx⟩
        exact app_ok (X := blkH X s3 H3 scope ce fp) I10 at_ lt r10 fun s11 I11 => again I11 nx
  exact codeAny_compStart_list body (T.self X.A 0 _ _ _ st4 body)
end
end Hd

namespace Hd
open PySem PySem.Spec PyProof.Rows L2

/-! ### own exception classes -/
/-- what the written part tells of such a class: x its name, D its place -/
structure Ec (K : PySem.W.Frag) (mg : Str → Option Value) (x : Str) (D : Addr) : Prop where
  gC : mg x = some (.ref D)
  ox : OexC K D
  xf : XfC K D
  ca : PySem.W.findIn K (.ref D) "__class__" = some (some (.builtin "object.__class__"))
  sg : PySem.W.specialIn K (.builtin "object.__class__") "__get__" = some (some (.builtin "getset_descriptor.__get__"))
  tk : PySem.W.takesIn K (.builtin "object.__class__") = some true
  mo : PySem.W.mroIn K D (.type "object") = some true
  ic : PySem.W.isClsIn K D = true
/-- the class named x answers b to isinstance of an instance of the class at D -/
def Isx (K : PySem.W.Frag) (mg : Str → Option Value) (D : Addr) (x : Str) (b : Bool) : Prop := ∃ C : Addr, mg x = some (.ref C) ∧ PySem.W.kitOne K (.ref D) (.ref C) = some b
/-- an exception at p of the class at D, its attributes fs standing at d -/
structure ErrAt (D d : Addr) (fs : List (Str × V)) (H : Hp) (p : Addr × Obj) : Prop where
  cls : p.2.cls = .ref D
  dict : p.2.dict = some d
  data : ∃ vs, p.2.data = .fields vs
  at_ : H d = some (.xd fs)
theorem ErrAt.up {D d : Addr} {fs : List (Str × V)} {H H' : Hp} {p : Addr × Obj} (e : ErrAt D d fs H p) (h : H' d = H d) : ErrAt D d fs H' p := ⟨e.cls, e.dict, e.data, h.trans e.at_⟩
section
variable {X : Cx} {p : Addr × Obj} {D d : Addr} {fs : List (Str × V)}
theorem ErrAt.inst {pins : List (Addr × Obj)} {σ : L2.St} {H : Hp} {s : Shared} (e : ErrAt D d fs H p) (hp : p ∈ X.pn) (I : Inv X pins σ H s) : ∃ od mA, PySem.W.InstAt s.heap p.1 p.2 D (some od) ∧ s.heap.Ns1 d mA ∧ (∀ f, RelO (fs.lookup f) (mA f)) ∧ ∀ n, PySem.W.lookIn n od = some (mA n) := by
  have at_ : ObjOk X.prog X.w H s.heap d (.xd fs) := I.hok d _ e.at_
  obtain ⟨mA, hns, hr⟩ := at_
  obtain ⟨od, ho, hl⟩ := lookIn_ns hns
  obtain ⟨vs, dv⟩ := e.data
  refine ⟨od, mA, ⟨(I.pin p (List.mem_append_left _ hp)).1, e.cls, ?_, ?_⟩, hns, hr, hl⟩
  · unfold PySem.W.notCls
    rw [dv] <;> rfl
  · rw [e.dict]
    exact ho
/-- isinstance of it -/
def rIsErr (K : PySem.W.Frag) (p : Addr × Obj) (D d : Addr) : List V → Hp → VK → Prop := fun xs H Q => ∃ (c : V) (cv : Value) (b : Bool) (fs : List (Str × V)), xs = [.ref p.1, c] ∧ (∀ u, RelV c u → u = cv) ∧ PySem.W.kitOne K (.ref D) cv = some b ∧ ErrAt D d fs H p ∧ Q (.bl b) H
theorem call_isErr {x : Str} (T : Ec X.K X.mg x D) (hp : p ∈ X.pn) : CallR X (.builtin "isinstance") (rIsErr X.K p D d) := by
  rintro pins s σ H xs us Q I r ⟨c, cv, b, fs, rfl, hcv, e, at_, q⟩
  cases r with
  | cons r1 rr =>
    cases rr with
    | cons r2 rr =>
      cases rr
      cases r1
      obtain rfl := hcv _ r2
      obtain ⟨od, mA, J, -⟩ := at_.inst hp I
      have kit := PySem.W.kitx_exc (x := p.1) (ox := p.2) (od := some od) T.ic T.xf.ga T.xf.gg T.xf.exC T.ca T.sg T.tk T.mo
      exact PySem.W.kia_one kit I.kIn J e (fun z => nomatch z) fun tk => ⟨.bl b, H, I.kept (t' := tk) fun _ _ z => z, rfl, q⟩
end
/-! ### defs called while an exception is handled; their promise may speak of that exception -/
abbrev SpH := Addr × Obj → Sp
structure FnE (P : Program) (w : World) (K : PySem.W.Frag) (mg : Str → Option Value) (base : Heap) (k : Nat) (f : Addr) (fd : FuncData) (ps : List Str) (sp : SpH) : Prop where
  len : ∀ p vs H Q E, sp p vs H Q E → vs.length = ps.length
  go : ∀ (A : Around) (outer : List Env) (s : Shared) (H : Hp) (args : Args) (us : List Value) (vs : List V) (Q : VK) (E : XK) (p : Addr × Obj), L2H.RoomH k A → L2H.Hot1 A p → L2H.PinOk outer H s p → Env0 P w K mg base A outer s H → BindsTo s fd args (ps.zip us) →
    Vals vs us → sp p vs H Q E → codeAny (model P w) A (.call (.ref f) args) (CR CX0 outer P w H s Q E) s
def CalE (P : Program) (w : World) (K : PySem.W.Frag) (mg : Str → Option Value) (base : Heap) (x : Str) (k : Nat) (ps : List Str) (sp : SpH) : Prop :=
  ∃ f fd, FnE P w K mg base k f fd ps sp ∧ mg x = some (.ref f) ∧ PySem.W.keepIn K (.ref f) = true ∧ Binds K fd ps []
section
variable {P : Program} {w : World} {K : PySem.W.Frag} {mg : Str → Option Value} {base : Heap} {x : Str} {st : Stmt} {ps N : List Str} {k : Nat} {sp : SpH}
theorem Def.calE (D : Def K mg x st ps) (S : FnScope N ps (defScope st)) (len : ∀ p vs H Q E, sp p vs H Q E → vs.length = ps.length)
    (hbody : ∀ (f : Addr) (cdv : Value) (A : Around) (outer : List Env) (s : Shared) (H : Hp) (vs : List V) (Q : VK) (E : XK) (p : Addr × Obj), L2H.Hot1 A p → L2H.RoomH k (A.deeper (envOfC x (defScope st) s.heap.objs.size f cdv)) → sp p vs H Q E →
      ∃ t, PSs (L2H.cxH CX0 P w K mg base N x (defScope st) f cdv A outer s H E p).nox (defBody st) t ∧ t { nx := fun _ H' => Q .non H', rt := Q } (start N vs) H) : CalE P w K mg base x (k + 1) ps sp := by
  obtain ⟨f, fd, F, g, b⟩ := D
  refine ⟨f, fd, ⟨len, ?_⟩, g, F.kp, b⟩
  obtain ⟨oc, od, kV, doc, pm, an, cdv, ct, osl, rfl, lk, hcd⟩ := F.ex
  intro A outer s H args us vs Q E p hr hot pin e0 hb r hsp
  have KX : K.In s.heap := e0.mod.kin.keeps fun b o e => (e0.bs b o e).1
  have free : s.heap.NoLimit := e0.mod.nolimit.keeps fun b o e => (e0.bs b o e).1
  have kinds : ∀ y ∈ ps.zip us, (defScope st).names.lookup y.1 = some .local ∨ ((defScope st).names.lookup y.1 = some .cell ∧ ((cellsFrom (s.heap.objs.size + 1) (defScope st).names []).lookup y.1).isSome = true) := fun ⟨n, v⟩ hy =>
    (S.par n (List.of_mem_zip hy).1).imp id fun q => ⟨q, PySem.W.cellsFrom_some _ _ _ (.inl q)⟩
  apply codeAny_call_function hr.depth (KX _ _ lk) rfl S.co S.gen rfl (PySem.W.codeRec_of KX hcd) (hb _ _ _ _ _)
  refine wpAny_newFunctionEnv_cells S.kind kinds ?_
  rintro env rfl s1 x
  refine ⟨free.keeps x.toInCall.keep, codeAny_func ?_⟩
  obtain ⟨t, ht, hq⟩ := hbody f cdv A outer s H vs Q E p hot (hr.deeper _) hsp
  have I := L2H.inv_startH (CX := CX0) (E := E) S pin e0 (len _ _ _ _ _ hsp) r x
  refine wpAny_mono (ht.nox.run [] s1 (start N vs) H _ I hq) ?_ fun e s' hs => hs
  intro fl s' hs
  cases fl
  · obtain ⟨σ', H', J, q⟩ := hs
    exact ⟨V.non, H', J.os, J.bare, J.base, J.hok, rfl, q⟩
  · obtain ⟨_, _, _, q⟩ := hs
    exact q.elim
  · obtain ⟨_, _, _, q⟩ := hs
    exact q.elim
  · obtain ⟨v, σ', H', J, rv, q⟩ := hs
    exact ⟨v, H', J.os, J.bare, J.base, J.hok, rv, q⟩
end
section
variable {X : Cx} {x : Str} {q pos : Pos} {e : Expr} {es : List Expr} {k : Nat} {ps : List Str} {sp : SpH} {t : TA} {p : Addr × Obj}
theorem pe_calE (C : CalE X.prog X.w X.K X.mg X.base x k ps sp) (hr : L2H.RoomH k X.A) (hot : L2H.Hot1 X.A p) (hp : p ∈ X.pn) (hg : Gl X x) (ha : PA X (e :: es) t) (hdb : (x == ("__debug__" : Str)) = false := by decide)
    (he : starEach (e :: es) X.env = (false, eval e X.env) :: starEach es X.env := by rfl) (hpl : (backTo pos (starEach es X.env)).any (·.1) = false := by rfl) :
    PE X (.Call (.Name x q) (e :: es) [] pos) (tCall (sp p) [] E0 t) := by
  obtain ⟨f, fd, F, g, kp, b⟩ := C
  constructor
  intro pins s σ H Q I h
  apply wpAny_Call_Name_kw (ld_glob I hg g _ hdb)
  refine PySem.W.callWith_K (h₀ := X.base) I.ok.mod.kin kp (thn (ha.run pos pins s σ H _ I h) ?_) he hpl
  rintro us s1 ⟨vs, H1, I1, r, sq⟩
  rw [List.append_nil] at sq
  refine ⟨I1.kIn, wpAny_call ?_⟩
  have ln : us.length = ps.length := r.length.symm.trans (F.len _ _ _ _ _ sq)
  have bd := b s1 us I1.kIn ((congrArg List.length (List.append_nil us)).trans ln)
  rw [List.append_nil] at bd
  obtain ⟨p1, p2, p3, p4, p5⟩ := I1.pin p (List.mem_append_left _ hp)
  have pin : L2H.PinOk X.stack H1 s1 p := ⟨p1, p2, fun m => (List.mem_cons.mp (I1.stkSub p.1 m)).elim p3 p4, p5⟩
  refine codeAny_mono (F.go X.A X.stack s1 H1 ⟨us, []⟩ us vs Q E0 p hr hot pin I1.env0 bd r sq) ?_
  intro res s' hq
  cases res with
  | error _ => exact hq.elim
  | ok fl =>
    cases fl
    · exact hq.elim
    · exact hq.elim
    · exact hq.elim
    · exact I1.after hq
end
end Hd

namespace Hd
open PySem PySem.Spec PyProof.Rows L2

/-! ### defs that may raise -/
theorem nothing_out {X : Cx} : Passes (L2N.CX X.prog X.w) X E0 := by
  rintro pins σ H s e s' I ⟨_, _, _, _, _, _, _, _, _, _, _, _, z⟩
  exact z.elim
theorem nothing_taken {X : Cx} : L2N.Takes X (fun _ _ _ _ => False) := by
  rintro u s' ⟨_, _, _, _, _, _, _, _, _, _, _, _, _, _, _, _, z⟩
  exact z.elim
def CalX (P : Program) (w : World) (K : PySem.W.Frag) (mg : Str → Option Value) (base : Heap) (x : Str) (k : Nat) (ps : List Str) (sp : Sp) : Prop :=
  ∃ f fd, FnOk P w K mg base (L2N.CX P w) k f fd ps sp ∧ mg x = some (.ref f) ∧ PySem.W.keepIn K (.ref f) = true ∧ Binds K fd ps []
section
variable {P : Program} {w : World} {K : PySem.W.Frag} {mg : Str → Option Value} {base : Heap} {x : Str} {st : Stmt} {ps N : List Str} {k : Nat} {sp : Sp}
theorem Def.calX (D : Def K mg x st ps) (S : FnScope N ps (defScope st)) (len : ∀ vs H Q E, sp vs H Q E → vs.length = ps.length)
    (hbody : ∀ (f : Addr) (cdv : Value) (A : Around) (outer : List Env) (s : Shared) (H : Hp) (vs : List V) (Q : VK) (E : XK), Room k (A.deeper (envOfC x (defScope st) s.heap.objs.size f cdv)) → sp vs H Q E →
      ∃ t, PSs (cxOf (L2N.CX P w) P w K mg base N x (defScope st) f cdv A outer s H E) (defBody st) t ∧ t { nx := fun _ H' => Q .non H', rt := Q } (start N vs) H) : CalX P w K mg base x (k + 1) ps sp := by
  obtain ⟨f, fd, F, g, b⟩ := D
  have kp := F.kp
  obtain ⟨oc, od, kV, doc, pm, an, cdv, ct, osl, rfl, lk, hcd⟩ := F.ex
  exact ⟨f, _, fn_of lk hcd S len fun A outer s H vs Q E hr h => hbody f cdv A outer s H vs Q E hr h, g, kp, b⟩
end
section
variable {X : Cx} {x : Str} {p pos : Pos} {e : Expr} {es : List Expr} {k : Nat} {ps : List Str} {sp : Sp} {t : TA}
/-- within a try, or in a def that lets it out -/
theorem pe_calX {W : WX} (C : CalX X.prog X.w X.K X.mg X.base x k ps sp) (tk : L2N.Takes X W) (hr : Room k X.A) (hg : Gl X x) (ha : PA X (e :: es) t) (hdb : (x == ("__debug__" : Str)) = false := by decide)
    (he : starEach (e :: es) X.env = (false, eval e X.env) :: starEach es X.env := by rfl) (hpl : (backTo pos (starEach es X.env)).any (·.1) = false := by rfl) :
    PE X (.Call (.Name x p) (e :: es) [] pos) (tCallS sp (WE W) t) := by
  obtain ⟨f, fd, F, g, kp, b⟩ := C
  exact pe_callS F hr hg g kp b (fun σ => L2N.passAt tk σ) ha hdb he hpl
/-- where it is known that nothing is raised -/
theorem pe_calQ (C : CalX X.prog X.w X.K X.mg X.base x k ps sp) (hr : Room k X.A) (hg : Gl X x) (ha : PA X (e :: es) t) (hdb : (x == ("__debug__" : Str)) = false := by decide)
    (he : starEach (e :: es) X.env = (false, eval e X.env) :: starEach es X.env := by rfl) (hpl : (backTo pos (starEach es X.env)).any (·.1) = false := by rfl) :
    PE X (.Call (.Name x p) (e :: es) [] pos) (tCall sp [] E0 t) := by
  obtain ⟨f, fd, F, g, kp, b⟩ := C
  exact pe_call F hr hg g kp b .nil nothing_out ha hdb he hpl
end
/-! ### own exceptions made where nothing is handled -/
section
variable {X : Cx} {C fI : Addr} {k : Nat} {fd : FuncData} {ps : List Str} {sp : Sp} {e : Expr} {es : List Expr} {ta : TA} {p pos : Pos} {x : Str}
theorem mk_calm (T : OexC X.K C) (iC : PySem.W.findIn X.K (.ref C) "__init__" = some (some (.ref fI))) (tI : PySem.W.typeIn X.K (.ref fI) = some (.type "function")) (F1 : FnOk X.prog X.w X.K X.mg X.base CX0 k fI fd ps sp) (hr : Room (k + 1) X.A)
    (hb : Binds X.K fd ps []) (hg : Gl X x) (hm : X.mg x = some (.ref C)) (ha : PA X (e :: es) ta) (hdb : (x == ("__debug__" : Str)) = false := by decide)
    (he : starEach (e :: es) X.env = (false, eval e X.env) :: starEach es X.env := by rfl) (hpl : (backTo pos (starEach es X.env)).any (·.1) = false := by rfl) : L2N.PMk X (.Call (.Name x p) (e :: es) [] pos) (tMkO C sp [] ta) := by
  rintro pins s σ H Q I h
  obtain ⟨nm, q, N, bs, bm, sn, sub, ab, col, dd, k0, k1, k2, k3, k5, hC, hbm⟩ := T.cls
  apply wpAny_Call_Name_kw (ld_glob I hg hm _ hdb)
  refine PySem.W.callWith_K (h₀ := X.base) I.ok.mod.kin T.kC (thn (ha.run pos pins s σ H _ I h) ?_) he hpl
  rintro us ⟨hp, g, dr, tk, os⟩ ⟨vs, H1, I1, r1, hz, q1⟩
  refine ⟨I1.kIn, ?_⟩
  change wpAny _ _ (call (.ref C) us) _ _ _
  generalize hn : hp.objs.size + 1 = a
  have big : hp.objs.size ≤ a := by omega
  have new : H1 a = none := I1.hok.fresh big
  have sq := q1 a new
  rw [List.append_nil] at sq
  have up : ∀ b o, hp.get? b = some o → ((hp.push (PySem.W.kdv_tup us)).push (PySem.HandSPX.excO C hp.objs.size)).get? b = some o := fun b o z => Heap.get?_push_of_some _ (Heap.get?_push_of_some _ z)
  have at_ : ((hp.push (PySem.W.kdv_tup us)).push (PySem.HandSPX.excO C hp.objs.size)).get? a = some (PySem.HandSPX.excO C hp.objs.size) := by subst hn; heap_get
  have I2 : Inv X pins σ (upd H1 a (exo a C none)) ⟨(hp.push (PySem.W.kdv_tup us)).push (PySem.HandSPX.excO C hp.objs.size), g, dr, tk, os⟩ := I1.laid (t' := tk) up big (exo_ok at_)
  have r2 : Vals (V.ref a :: vs) (Value.ref a :: us) := .cons rfl r1
  have ln : (Value.ref a :: us).length = ps.length := r2.length.symm.trans (F1.len _ _ _ _ sq)
  have bd := hb ⟨(hp.push (PySem.W.kdv_tup us)).push (PySem.HandSPX.excO C hp.objs.size), g, dr, tk, os⟩ (Value.ref a :: us) I2.kIn ((congrArg List.length (List.append_nil _)).trans ln)
  rw [List.append_nil] at bd
  have few : us.length ≤ sizeLine := by
    have := r1.length
    rw [sizeLine_eq]
    omega
  subst hn
  refine wpAny_call (PySem.HandSPX.call_own F.excBase_ValueError (fun Y => PySem.HandSPX.refsVE_contains Y bm hbm) (I1.kIn _ _ hC) (PySem.W.looks_findIn I1.kIn iC) (fun self => PySem.W.bind_fn I1.kIn self tI) few ?_)
  refine codeAny_mono (F1.run _ X.stack _ _ ⟨_, []⟩ _ _ _ (fun _ _ _ => False) (hr.make C us []) (I2.env0.make C us []) bd r2 sq) ?_
  intro res s' hq
  cases res with
  | error _ => exact hq.elim
  | ok fl =>
    cases fl
    · exact hq.elim
    · exact hq.elim
    · exact hq.elim
    · obtain ⟨v, H2, os2, bare2, un2, hok2, rv, rfl, d, fs, ea, ed, hd1, q2⟩ := hq
      obtain ⟨h2, g2, d2, t2, os'⟩ := s'
      obtain ⟨t0, G, J, kG, ge, hoe, na⟩ := mk_end0 (d2 := d2) (t2 := t2) I1 big up un2 hok2 os2 bare2 ea ed hd1
      refine ⟨rv, _, _, _, ⟨G, g2, d2, t2, os'⟩, _, .ref C, some d, rfl, J, kG, ge, hoe, ⟨rfl, rfl, ?_⟩, rfl, rfl, na, rfl, bare2, raises_own T.exC T.tyC, q2⟩
      intro vs hv
      cases hv
      rfl
end
/-! ### __init__ that keeps its arguments, one after the other -/
def clsB (s : Stmt) : List Stmt := match s with
  | .ClassDef _ _ _ b _ _ _ _ _ _ _ => b
  | _ => []
/-- the class named x at D, and its __init__ -/
structure Xc (K : PySem.W.Frag) (mg : Str → Option Value) (x q : Str) (st : Stmt) (ps : List Str) (D : Addr) : Prop where
  ec : Ec K mg x D
  ini : ∃ fI fd, PySem.W.findIn K (.ref D) "__init__" = some (some (.ref fI)) ∧ PySem.W.typeIn K (.ref fI) = some (.type "function") ∧ Fun K "__init__" q st fI fd ∧ Binds K fd ps []
  no : ∀ f ∈ ps.tail, PySem.W.findIn K (.ref D) f = some none
section
variable {X : Cx} {K : PySem.W.Frag} {mg : Str → Option Value} {x q f g : Str} {st : Stmt} {D : Addr} {P : Program} {w : World} {base : Heap} {e : Expr} {es : List Expr} {ta : TA} {p pos : Pos}
def spIni (D : Addr) (gs : List Str) : Sp := fun vs H Q _ => ∃ (a : Addr) (us : List V), vs = .ref a :: us ∧ us.length = gs.length ∧ H a = some (exo a D none) ∧ ∀ dx, H dx = none → dx ≠ a → Q .non (upd (upd H dx (exd dx ((gs.zip us).reverse))) a (exo a D (some dx)))
theorem ini_end {gs : List Str} {us : List V} {H1 : Hp} {Q : XK} {E : XK} (h1 : us.length = gs.length) (hl : us.length ≤ 1000) (q : ∀ d, H1 d = none → Q (.ref D) (some d) (upd H1 d (.xd ((gs.zip us).reverse)))) :
    us.length ≤ 1000 ∧ ∀ a, H1 a = none → spIni D gs (.ref a :: (us ++ [])) (upd H1 a (exo a D none)) (fun v H2 => v = .non ∧ ∃ (d : Addr) (fs : List (Str × V)), H2 a = some (exo a D (some d)) ∧ H2 d = some (exd d fs) ∧ H1 d = none ∧ Q (.ref D) (some d) (upd (del H2 a) d (.xd fs))) E := by
  refine ⟨hl, fun a ha => ⟨a, us, by rw [List.append_nil], h1, upd_same, fun dx hdx ne => ⟨rfl, dx, _, upd_same, (upd_ne ne).trans upd_same, ?_, ?_⟩⟩⟩
  · rw [upd_ne ne] at hdx
    exact hdx
  · rw [upd_ne ne] at hdx
    have e : upd (del (upd (upd (upd H1 a (exo a D none)) dx (exd dx ((gs.zip us).reverse))) a (exo a D (some dx))) a) dx (.xd ((gs.zip us).reverse)) = upd H1 dx (.xd ((gs.zip us).reverse)) := by
      funext b
      by_cases h : b = dx
      · rw [h, upd_same, upd_same]
      · rw [upd_ne h, upd_ne h]
        by_cases k : b = a
        · rw [k, del_same, ha]
        · rw [del_ne k, upd_ne k, upd_ne h, upd_ne k]
    rw [e]
    exact q dx hdx
theorem ini1 {f : Str} (S : FnScope ["self", f] ["self", f] (defScope st)) (hb : ∃ p00 p01 p02 p03, defBody st = [.Assign [.Attribute (.Name "self" p00) f p01] (.Name f p02) p03])
    (T : OexC K D) (vs0 : (defScope st).names.lookup ("self" : Str) = some NameKind.local) (vf : (defScope st).names.lookup f = some NameKind.local) (df : (f == ("__debug__" : Str)) = false) (cf : (f == ("__classdict__" : Str)) = false) (nof : PySem.W.findIn K (.ref D) f = some none)
    {fI : Addr} {fd : FuncData} (F : Fun K "__init__" q st fI fd) : FnOk P w K mg base CX0 1 fI fd ["self", f] (spIni D [f]) := by
  obtain ⟨p00, p01, p02, p03, hb⟩ := hb
  refine F.ok S ?_ ?_
  · rintro vs H Q E ⟨a, us, rfl, l, -⟩
    rw [List.length_cons, l] <;> rfl
  · rintro cdv A outer s H vs Q E hr ⟨a, us, rfl, l, ea, q⟩
    obtain ⟨u, rfl⟩ : ∃ u, us = [u] := by
      match us, l with
      | [u], _ => exact ⟨u, rfl⟩
    rw [hb]
    refine ⟨_, (pss_one (ps_ost (pv 0 rfl (.inl vs0)) (pv 1 rfl (.inl vf) df cf))), ?_⟩
    exact ⟨_, rfl, _, rfl, a, D, rfl, T, nof, .inl ⟨ea, fun dx n ne => q dx n ne⟩⟩
theorem ini2 {f g : Str} (S : FnScope ["self", f, g] ["self", f, g] (defScope st)) (hb : ∃ p00 p01 p02 p03 p10 p11 p12 p13, defBody st = [.Assign [.Attribute (.Name "self" p00) f p01] (.Name f p02) p03, .Assign [.Attribute (.Name "self" p10) g p11] (.Name g p12) p13])
    (T : OexC K D) (vs0 : (defScope st).names.lookup ("self" : Str) = some NameKind.local) (vf : (defScope st).names.lookup f = some NameKind.local) (df : (f == ("__debug__" : Str)) = false) (cf : (f == ("__classdict__" : Str)) = false) (nof : PySem.W.findIn K (.ref D) f = some none) (vg : (defScope st).names.lookup g = some NameKind.local) (dg : (g == ("__debug__" : Str)) = false) (cg : (g == ("__classdict__" : Str)) = false) (nog : PySem.W.findIn K (.ref D) g = some none)
    {fI : Addr} {fd : FuncData} (F : Fun K "__init__" q st fI fd) : FnOk P w K mg base CX0 1 fI fd ["self", f, g] (spIni D [f, g]) := by
  obtain ⟨p00, p01, p02, p03, p10, p11, p12, p13, hb⟩ := hb
  refine F.ok S ?_ ?_
  · rintro vs H Q E ⟨a, us, rfl, l, -⟩
    rw [List.length_cons, l] <;> rfl
  · rintro cdv A outer s H vs Q E hr ⟨a, us, rfl, l, ea, q⟩
    obtain ⟨u, v, rfl⟩ : ∃ u v, us = [u, v] := by
      match us, l with
      | [u, v], _ => exact ⟨u, v, rfl⟩
    rw [hb]
    refine ⟨_, (pss_cons (ps_ost (pv 0 rfl (.inl vs0)) (pv 1 rfl (.inl vf) df cf)) (pss_one (ps_ost (pv 0 rfl (.inl vs0)) (pv 2 rfl (.inl vg) dg cg)))), ?_⟩
    refine ⟨_, rfl, _, rfl, a, D, rfl, T, nof, .inl ⟨ea, fun dx n ne => ?_⟩⟩
    refine ⟨_, rfl, _, rfl, a, D, rfl, T, nog, .inr ⟨dx, _, upd_same, (upd_ne ne).trans upd_same, (by simp), ?_⟩⟩
    have r := q dx n ne
    have e : upd (upd (upd H dx (exd dx [(f, u)])) a (exo a D (some dx))) dx (exd dx [(g, v), (f, u)]) = upd (upd H dx (exd dx [(g, v), (f, u)])) a (exo a D (some dx)) := by
      funext b
      by_cases h : b = dx
      · rw [h, upd_same, upd_ne ne, upd_same]
      · by_cases k : b = a
        · simp only [k, upd_same, upd_ne (Ne.symm ne)]
        · simp only [upd_ne h, upd_ne k]
    show Q .non (upd (upd (upd H dx (exd dx [(f, u)])) a (exo a D (some dx))) dx (exd dx [(g, v), (f, u)]))
    rw [e]
    exact r
theorem ini3 {f g k : Str} (S : FnScope ["self", f, g, k] ["self", f, g, k] (defScope st)) (hb : ∃ p00 p01 p02 p03 p10 p11 p12 p13 p20 p21 p22 p23, defBody st = [.Assign [.Attribute (.Name "self" p00) f p01] (.Name f p02) p03, .Assign [.Attribute (.Name "self" p10) g p11] (.Name g p12) p13, .Assign [.Attribute (.Name "self" p20) k p21] (.Name k p22) p23])
    (T : OexC K D) (vs0 : (defScope st).names.lookup ("self" : Str) = some NameKind.local) (vf : (defScope st).names.lookup f = some NameKind.local) (df : (f == ("__debug__" : Str)) = false) (cf : (f == ("__classdict__" : Str)) = false) (nof : PySem.W.findIn K (.ref D) f = some none) (vg : (defScope st).names.lookup g = some NameKind.local) (dg : (g == ("__debug__" : Str)) = false) (cg : (g == ("__classdict__" : Str)) = false) (nog : PySem.W.findIn K (.ref D) g = some none) (vk : (defScope st).names.lookup k = some NameKind.local) (dk : (k == ("__debug__" : Str)) = false) (ck : (k == ("__classdict__" : Str)) = false) (nok : PySem.W.findIn K (.ref D) k = some none)
    {fI : Addr} {fd : FuncData} (F : Fun K "__init__" q st fI fd) : FnOk P w K mg base CX0 1 fI fd ["self", f, g, k] (spIni D [f, g, k]) := by
  obtain ⟨p00, p01, p02, p03, p10, p11, p12, p13, p20, p21, p22, p23, hb⟩ := hb
  refine F.ok S ?_ ?_
  · rintro vs H Q E ⟨a, us, rfl, l, -⟩
    rw [List.length_cons, l] <;> rfl
  · rintro cdv A outer s H vs Q E hr ⟨a, us, rfl, l, ea, q⟩
    obtain ⟨u, v, z, rfl⟩ : ∃ u v z, us = [u, v, z] := by
      match us, l with
      | [u, v, z], _ => exact ⟨u, v, z, rfl⟩
    rw [hb]
    refine ⟨_, (pss_cons (ps_ost (pv 0 rfl (.inl vs0)) (pv 1 rfl (.inl vf) df cf)) (pss_cons (ps_ost (pv 0 rfl (.inl vs0)) (pv 2 rfl (.inl vg) dg cg)) (pss_one (ps_ost (pv 0 rfl (.inl vs0)) (pv 3 rfl (.inl vk) dk ck))))), ?_⟩
    refine ⟨_, rfl, _, rfl, a, D, rfl, T, nof, .inl ⟨ea, fun dx n ne => ?_⟩⟩
    refine ⟨_, rfl, _, rfl, a, D, rfl, T, nog, .inr ⟨dx, _, upd_same, (upd_ne ne).trans upd_same, (by simp), ?_⟩⟩
    refine ⟨_, rfl, _, rfl, a, D, rfl, T, nok, .inr ⟨dx, _, (upd_ne (Ne.symm ne)).trans upd_same, upd_same, (by simp), ?_⟩⟩
    have r := q dx n ne
    have e : upd (upd (upd (upd H dx (exd dx [(f, u)])) a (exo a D (some dx))) dx (exd dx [(g, v), (f, u)])) dx (exd dx [(k, z), (g, v), (f, u)]) = upd (upd H dx (exd dx [(k, z), (g, v), (f, u)])) a (exo a D (some dx)) := by
      funext b
      by_cases h : b = dx
      · rw [h, upd_same, upd_ne ne, upd_same]
      · by_cases k : b = a
        · simp only [k, upd_same, upd_ne (Ne.symm ne)]
        · simp only [upd_ne h, upd_ne k]
    show Q .non (upd (upd (upd (upd H dx (exd dx [(f, u)])) a (exo a D (some dx))) dx (exd dx [(g, v), (f, u)])) dx (exd dx [(k, z), (g, v), (f, u)]))
    rw [e]
    exact r
end
end Hd

namespace Hd
open PySem PySem.Spec PyProof.Rows L2

/-- the class named x at D, made from the arguments gs -/
def Xm (P : Program) (w : World) (K : PySem.W.Frag) (mg : Str → Option Value) (base : Heap) (x : Str) (D : Addr) (gs : List Str) : Prop :=
  Ec K mg x D ∧ (∀ f ∈ gs, PySem.W.findIn K (.ref D) f = some none) ∧ ∃ fI fd, PySem.W.findIn K (.ref D) "__init__" = some (some (.ref fI)) ∧ PySem.W.typeIn K (.ref fI) = some (.type "function") ∧ FnOk P w K mg base CX0 1 fI fd ("self" :: gs) (spIni D gs) ∧ Binds K fd ("self" :: gs) []
section
variable {X : Cx} {x : Str} {D : Addr} {gs : List Str} {e : Expr} {es : List Expr} {ta : TA} {p pos : Pos}
theorem pmk_x (M : Xm X.prog X.w X.K X.mg X.base x D gs) (hr : Room 2 X.A) (hg : Gl X x) (ha : PA X (e :: es) ta) (hdb : (x == ("__debug__" : Str)) = false := by decide)
    (he : starEach (e :: es) X.env = (false, eval e X.env) :: starEach es X.env := by rfl) (hpl : (backTo pos (starEach es X.env)).any (·.1) = false := by rfl) : L2N.PMk X (.Call (.Name x p) (e :: es) [] pos) (tMkO D (spIni D gs) [] ta) := by
  obtain ⟨T, no, fI, fd, iC, tI, F1, bd⟩ := M
  exact mk_calm T.ox iC tI F1 hr bd hg T.gC ha hdb he hpl
end
/-- an except clause's name: the base class, and that it takes the class at D -/
def Hnd (K : PySem.W.Frag) (mg : Str → Option Value) (x : Str) (D : Addr) (b : Bool) : Prop := ∃ C : Addr, mg x = some (.ref C) ∧ PySem.W.exmOne K (.ref D) (.ref C) = some b
/-- an except suite, whatever the exception's object is -/
def tSuite (t : Addr → Obj → Value → Option Addr → TS) (a : Addr) (cls : Value) (d : Option Addr) : TS := fun D σ H => ∀ oe, L2N.Zn cls d oe → (∃ vs, oe.data = .fields vs) → t a oe cls d D σ H
theorem suite_of {X : Cx} {a : Addr} {oe : Obj} {cls : Value} {d : Option Addr} {pn : List (Addr × Obj)} {b : List Stmt} {t : Addr → Obj → Value → Option Addr → TS} (hz : L2N.Zn cls d oe) (hf : ∃ vs, oe.data = .fields vs)
    (h : PSs (X.suite a ((a, oe) :: pn)) b (t a oe cls d)) : PSs (X.suite a ((a, oe) :: pn)) b (tSuite t a cls d) := ⟨fun pins s σ H D I q => h.run pins s σ H D I (q oe hz hf)⟩
theorem ps_try_E {X : Cx} {x n : Str} {c : Value} {i : Nat} {body suite : List Stmt} {b₀ : Stmt} {np pos pos' : Pos} {tb : WX → TS} {t : Addr → Obj → Value → Option Addr → TS} {Wout : WX} (hs : X.stack = X.env :: X.outer) (hf : X.env.frame = some X.env.locals) (hN : X.N.Nodup)
    (hi : X.N[i]? = some n) (hln : X.env.kindOf n = some .local) (hc : Names X x c) (tk : L2N.Takes X Wout)
    (hb : ∀ (W : WX) (pn : List (Addr × Obj)) (xe : Value → Shared → Prop), L2N.Takes (X.tr pn xe) W → PassesOwn (model X.prog X.w) X.A X.env xe → PSs (X.tr pn xe) body (tb W))
    (hsu : ∀ (a : Addr) (oe : Obj) (cls : Value) (d : Option Addr) (pn : List (Addr × Obj)), L2N.Zn cls d oe → (∃ vs, oe.data = .fields vs) → PSs (X.suite a ((a, oe) :: pn)) (b₀ :: suite) (t a oe cls d)) :
    PS X (.Try body [.ExceptHandler (some (.Name x np)) (some n) (b₀ :: suite) pos'] [] [] pos) (fun D σ H => tb (wAs X.K c i (tSuite t) Wout D) D σ H) :=
  L2N.ps_try_as hs hf hN hi hln hc tk hb fun a oe cls d pn hz h => suite_of hz h (hsu a oe cls d pn hz h)
theorem suite_hot {X : Cx} {a : Addr} {oe : Obj} {cls : Value} {d : Option Addr} {pn : List (Addr × Obj)} (hz : L2N.Zn cls d oe) (hf : ∃ vs, oe.data = .fields vs) : L2H.Hot1 (X.suite a ((a, oe) :: pn)).A (a, oe) := by
  obtain ⟨vs, hd⟩ := hf
  exact ⟨rfl, vs, hd, hz.2.2 vs hd⟩
theorem suite_err {a D d : Addr} {oe : Obj} {fs : List (Str × V)} {H : Hp} (hz : L2N.Zn (.ref D) (some d) oe) (hf : ∃ vs, oe.data = .fields vs) (h : H d = some (.xd fs)) : ErrAt D d fs H (a, oe) := ⟨hz.1, hz.2.1, hf, h⟩
theorem room_suite {k : Nat} {A : Around} (r : Room k A) (h : Option Value) : L2H.RoomH k (A.mark h) := L2H.roomH_mark r h
theorem hot_in {X : Cx} {p : Addr × Obj} (h : L2H.Hot1 X.A p) (m : p ∈ X.pn) : L2H.HotC X := ⟨p, h, m⟩
theorem pe_cls {X : Cx} {x : Str} {C : Addr} {pos : Pos} (hg : Gl X x) (h : X.mg x = some (.ref C)) (hd : (x == ("__debug__" : Str)) = false := by decide) : PE X (.Name x pos) (tC (.ref C)) := pe_glob hg h rfl hd
end Hd

namespace Hd
open PySem PySem.Spec PyProof.Rows L2

/-! ### enumerate(tuple) -/
def Ete (K : PySem.W.Frag) (a : Addr) : It where
  go := fun i H => ∃ (xs : List V) (x : V), SqT K H a xs ∧ xs[i]? = some x
  yld := fun i H v H' => ∃ T x, v = .ref T ∧ New H T (.tup [.int (i : Nat), x]) H' ∧ ∀ xs, SqT K H a xs → xs[i]? = some x
  stop := fun i H => ∃ xs : List V, SqT K H a xs ∧ xs.length ≤ i
def iEnumT (K : PySem.W.Frag) (ta : TA) : TI := fun σ H R => ta σ H fun vs H1 => ∃ a xs, vs = [.ref a] ∧ SqT K H1 a xs ∧ R (Ete K a) H1
set_option maxHeartbeats 8000000 in
theorem enum_new {v : Value} {o : Obj} {C : Heap → Prop} (B : Begins v o C) :
    Meets (Builtin.«enumerate.__new__» ⟨[.type "enumerate", v], []⟩) (fun _ R s => C s.heap ∧ R (.ok (.ret (.ref (s.heap.push o).objs.size)))
      { s with heap := (s.heap.push o).push { cls := .type "enumerate", data := .fields #[.none, .bool false, .ref s.heap.objs.size, rawInt 0, .none, .none] } }) :=
  .of_wp fun prog w A R s q => by
    obtain ⟨heap, gens, dr, toks, os⟩ := s
    obtain ⟨st, q⟩ := q
    have isE := sub_enumerate
    have begin_ : ∀ {A' : Around} {E' : Value → Shared → Prop} {Q' : Value → Shared → Prop}, Q' (.ref heap.objs.size) ⟨heap.push o, gens, dr, toks, os⟩ → wpAny (model prog w) A' (pyIter v) Q' E' ⟨heap, gens, dr, toks, os⟩ := fun z =>
      B.iter prog w _ _ ⟨heap, gens, dr, toks, os⟩ _ st z
    wp_walk using begin_
    refine wpAny_stack_any fun frames => wpAny_pure ?_
    split
    next c _ _ _ _ _ =>
      by_cases hc : (c == Value.type "enumerate") = true
      · simp only [hc]
        wp_walk using begin_
        exact ⟨_, rfl, q⟩
      · simp only [hc]
        wp_walk using begin_
        exact ⟨_, rfl, q⟩
    next =>
      wp_walk using begin_
      exact ⟨_, rfl, q⟩
theorem enum_call {prog : Program} {w : World} {A : Around} {E : Value → Shared → Prop} {s : Shared} {v : Value} {o : Obj} {C : Heap → Prop} {Q : Value → Shared → Prop} (B : Begins v o C) (st : C s.heap)
    (q : ∀ g, IsEnum g (s.heap.objs.size + 1) s.heap.objs.size 0 .none → g.get? s.heap.objs.size = some o → (∀ b u, s.heap.get? b = some u → g.get? b = some u) → Q (.ref (s.heap.objs.size + 1)) { s with heap := g }) :
    wpAny (model prog w) A (call (.type "enumerate") [v]) Q E s := by
  have sz : (s.heap.push o).objs.size = s.heap.objs.size + 1 := Heap.size_push ..
  have at1 : IsEnum ((s.heap.push o).push { cls := .type "enumerate", data := .fields #[.none, .bool false, .ref s.heap.objs.size, rawInt 0, .none, .none] }) (s.heap.objs.size + 1) s.heap.objs.size 0 .none := sz ▸ Heap.get?_push_size (s.heap.push o) rfl
  apply callType_new F.called_enumerate (by decide) (F.typeCall_enumerate_1 _) (F.newCall_enumerate_1 _) (fun obj => F.args_object_init_2 obj _) F.entry_enumerate_new (enum_new B)
  refine ⟨st, ?_⟩
  rw [sz]
  exact ⟨⟨_, at1, rfl⟩, q _ at1 (Heap.get?_push_of_some _ (Heap.get?_push_size _ B.free)) fun b u z => Heap.get?_push_of_some _ (Heap.get?_push_of_some _ z)⟩
section
variable {P : Program} {w : World} {K : PySem.W.Frag} {elts : List Expr} {kk : Nat} {tpos : Pos}
theorem two_of {b e it : Addr} (h : b ∈ [e, it]) : b = e ∨ b = it := by simpa using h
theorem walk_enumT (a e it : Addr) : Turn P w K (.Tuple elts kk tpos) (Ete K a) [e, it] e (fun i h => (∃ old, IsEnum h e it ((i : Nat) : Int) old) ∧ h.IsTupleIter it a i ∧ e ≠ it) := by
  constructor
  case mem => exact List.mem_cons_self
  case obj =>
    rintro i h ⟨⟨old, he⟩, ⟨o, ho, hc, hd⟩, -⟩ b hb
    obtain rfl | rfl := two_of hb
    · exact ⟨_, he, fun v q => nomatch q⟩
    · exact ⟨o, ho, fun v q => Data.noConfusion (hd.symm.trans q)⟩
  case keep =>
    rintro i h h' ⟨⟨old, he⟩, hi, ne⟩ k
    exact ⟨⟨old, k e List.mem_cons_self _ he⟩, hi.at fun o q => k it (List.mem_cons_of_mem _ List.mem_cons_self) o q, ne⟩
  case self => exact fun A i s Q E st q => st.1.elim fun _ he => wpAny_pyIter_enum he q
  case item =>
    rintro X rfl rfl rfl hc i pins s σ H E I fp ⟨⟨old, he⟩, hit, ne⟩ ⟨xs, x, sq, at_⟩
    obtain ⟨vs, rv, pl, -⟩ := I.tuple sq
    have isT : s.heap.IsTuple a vs.toArray := pl
    obtain ⟨u, hu, ru⟩ := rv.get at_
    have lt1 : e < s.heap.objs.size := Heap.lt_size he
    have lt2 : it < s.heap.objs.size := by
      obtain ⟨_, q, -⟩ := hit
      exact Heap.lt_size q
    have nai : a ≠ it := fun z => by
      subst z
      obtain ⟨o1, q1, c1, -⟩ := hit
      obtain ⟨o2, q2, c2, -⟩ := isT
      rw [q1] at q2
      cases q2
      rw [c1] at c2
      exact absurd (Value.type.inj c2) (by decide)
    have nae : e ≠ a := fun z => by
      subst z
      obtain ⟨o2, q2, c2, -⟩ := isT
      have q1 : s.heap.get? e = some _ := he
      rw [q1] at q2
      cases q2
      exact absurd (Value.type.inj c2) (by decide)
    have hi : i < vs.toArray.size := by
      have := (List.getElem?_eq_some_iff.mp hu).1
      simpa using this
    refine wpAny_pyNext_enum_itemD (Draws.tuple (A := X.A.in1) (I.ok.hd hc) it a nai vs.toArray) he ⟨hit, isT⟩ hi ne (fun z => ?_) ?_
    · rcases two_of z with z | z
      · exact ne z
      · exact nae z
    rintro y g tk py out ⟨hit', -⟩ gT hz keep
    have ey : y = u := by
      have := py.symm.trans ((by simpa using hu) : vs.toArray[i]? = some u)
      exact Option.some.inj this
    subst ey
    refine ⟨_, rfl, wpAny_letOwnedTupleGo_enum (s := { s with heap := g, toks := tk + 1 }) out fun g2 he2 sb => ?_⟩
    have gT2 : g2.get? s.heap.objs.size = some { cls := .type "tuple", data := .seq #[.int i tk, y] } := (sb.2 _ (Nat.ne_of_gt lt1)).trans gT
    have okT : ObjOk X.prog X.w (upd H s.heap.objs.size (.tup [.int (i : Nat), x])) g2 s.heap.objs.size (.tup [.int (i : Nat), x]) := ⟨by show 2 ≤ sizeLine; decide, [.int i tk, y], .cons ⟨_, rfl⟩ (.cons ru .nil), ⟨_, gT2, rfl, _, rfl⟩⟩
    have J : Inv X pins σ (upd H s.heap.objs.size (.tup [.int (i : Nat), x])) { s with heap := g2, toks := tk + 1 } :=
      I.turnedNew (ch := [e, it]) (fun b o hb q => (sb.2 b fun z => hb (by simp [z])).trans (keep b o (fun z => hb (by simp [z])) (fun z => hb (by simp [z])) q)) fp (Nat.le_refl _) okT
    refine ⟨.ref s.heap.objs.size, _, J, rfl, ⟨_, x, rfl, ⟨I.hok.fresh (Nat.le_refl _), rfl⟩, fun ys hy => ?_⟩, ⟨⟨y, ?_⟩, hit'.at fun o q => (sb.2 it (Ne.symm ne)).trans q, ne⟩, fun b hb => ?_⟩
    · rw [I.tuple_inj hy sq]
      exact at_
    · have e1 : ((i + 1 : Nat) : Int) = (i : Int) + 1 := rfl
      rw [e1]
      exact he2
    · have lt : b < s.heap.objs.size := by
        obtain rfl | rfl := two_of hb
        · exact lt1
        · exact lt2
      exact (upd_ne (Nat.ne_of_lt lt)).trans (fp b hb).1
  case done =>
    rintro X rfl rfl rfl hc i pins s σ H E I fp ⟨⟨old, he⟩, hit, ne⟩ ⟨xs, sq, hle⟩
    obtain ⟨vs, rv, pl, -⟩ := I.tuple sq
    have isT : s.heap.IsTuple a vs.toArray := pl
    have hl := rv.length
    have past : vs.toArray[i]? = none := by simp; omega
    obtain ⟨f0, f1, f2, f3, f4, f5⟩ := fp it (List.mem_cons_of_mem _ List.mem_cons_self)
    have D0 : Draws X.prog X.w X.A.in1 it [it, a] 0 (fun _ _ => True) (fun j h => h.IsTupleIter it a (i + j) ∧ h.IsTuple a vs.toArray) := {
      live := fun _ _ st => st.1.elim fun o q => ⟨o, q.1⟩
      frame := fun _ _ _ st hk => ⟨st.1.at fun o e => hk it (by simp) o e, st.2.at fun o e => hk a (by simp) o e⟩
      item := fun j _ _ _ z => absurd z (Nat.not_lt_zero j)
      done := fun s Q E st hE => wpAny_nextOf_tuple_end (show X.A.in1.handled = none from I.ok.hd hc) st.1 st.2 past hE }
    exact wpAny_pyNext_enum_endD D0 he ⟨hit, isT⟩ fun g eb => ⟨rfl, I.turned (t' := s.toks) (fun b o hb q => eb b o hb q) f0 f1 f3 f4 f5⟩
end
theorem pi_enumT {X : Cx} {e : Expr} {ta : TA} {p pos tpos : Pos} {elts : List Expr} {kk : Nat} (hg : Gl X "enumerate") (hm : X.mg "enumerate" = none) (ha : PA X [e] ta) (hs : starEach [e] X.env = [(false, eval e X.env)] := by rfl) :
    PI X (.Tuple elts kk tpos) (.Call (.Name "enumerate" p) [e] [] pos) (iEnumT X.K ta) := by
  constructor
  intro pins s σ H R I h
  apply Call_ (ld_blt I hg hm boot_enumerate _)
  refine PyProof.Rows.callWith_type1 (thn (ha.run pos pins s σ H _ I h) ?_) hs rfl
  rintro us s1 ⟨vs, H1, I1, r1, a, xs, rfl, sq, q⟩
  cases r1 with
  | cons r rr =>
    cases rr
    cases r
    obtain ⟨its, rv, pl, -⟩ := I1.tuple sq
    refine enum_call (begins_tuple a its.toArray) (show s1.heap.IsTuple a its.toArray from pl) fun g he hit hk => wpAny_pyIter_enum he ?_
    have I2 : Inv X pins σ H1 { s1 with heap := g } := I1.kept (t' := s1.toks) hk
    refine ⟨_, _, _, _, H1, rfl, I2, walk_enumT a (s1.heap.objs.size + 1) s1.heap.objs.size, ⟨⟨.none, he⟩, ⟨_, hit, rfl, rfl⟩, Nat.succ_ne_self _⟩, fun b hb => ?_, q⟩
    have big : s1.heap.objs.size ≤ b := by
      obtain rfl | rfl := two_of hb
      · exact Nat.le_add_right _ _
      · exact Nat.le_refl _
    exact I1.fpOk big (I1.hok.fresh big)
/-! ### min(tuple of ints) -/
/-- a comprehension over enumerate(tuple); the block leaves the tuple as it is -/
theorem lc_enumT {K : PySem.W.Frag} {a : Addr} {xs : List V} {g : TG} {tt : TT} {te : TE} {vs : List Nat} {σ : L2.St} {H1 : Hp} {D : Addr} {Qd : Hp → Prop} (Pv : Nat → Hp → Prop) (h0 : Pv 0 (upd H1 D (.lst []))) (hl : ∀ i H, Pv i H → SqT K H a xs)
    (hs : ∀ i x T H H', xs[i]? = some x → Pv i H → New H T (.tup [.int (i : Nat), x]) H' → g (.ref T) (wipe σ vs) H' fun σ2 H2 => wipe σ2 vs = wipe σ vs ∧ tt σ2 H2 fun b H3 =>
      if b = true then te σ2 H3 fun y H4 => ∃ acc, H4 D = some (.lst acc) ∧ acc.length < sizeLine ∧ Pv (i + 1) (upd H4 D (.lst (acc ++ [y]))) else Pv (i + 1) H3) (hd : ∀ H, Pv xs.length H → Qd H) :
    ∃ W : Nat → Nat → Hp → Prop, (∃ m, W 0 m (upd H1 D (.lst []))) ∧ ∀ i m H, W i m H → ((Ete K a).stop i H ∧ Qd H) ∨ ((Ete K a).go i H ∧ ∃ Nx : Hp → Prop, (∀ H', Nx H' → ∃ m', m' < m ∧ W (i + 1) m' H') ∧
      ∀ x H', (Ete K a).yld i H x H' → g x (wipe σ vs) H' fun σ2 H2 => wipe σ2 vs = wipe σ vs ∧ tt σ2 H2 fun b H3 => if b = true then te σ2 H3 fun y H4 => ∃ acc, H4 D = some (.lst acc) ∧ acc.length < sizeLine ∧ Nx (upd H4 D (.lst (acc ++ [y]))) else Nx H3) := by
  refine ⟨fun i m H => i + m = xs.length ∧ Pv i H, ⟨xs.length, Nat.zero_add _, h0⟩, ?_⟩
  rintro i m H ⟨e, p⟩
  have sq := hl i H p
  rcases Nat.eq_zero_or_pos m with rfl | pos
  · refine .inl ⟨⟨xs, sq, by omega⟩, hd H ?_⟩
    rw [← e]
    exact p
  · have lt : i < xs.length := by omega
    refine .inr ⟨⟨xs, xs[i], sq, List.getElem?_eq_getElem lt⟩, Pv (i + 1), fun H' p' => ⟨m - 1, by omega, by omega, p'⟩, ?_⟩
    rintro v H' ⟨T, x, rfl, n, at_⟩
    exact hs i x T H H' (at_ xs sq) p n
/-! ### rules whose reading names the written part, for the block of a comprehension -/
section
variable {X : Cx} {K : PySem.W.Frag} (hk : X.K = K)
include hk
theorem ix_tupK : IxR X (rIxT K) := hk ▸ ix_tup
theorem ix_listK : IxR X (rIxL K) := hk ▸ ix_list
theorem ix_seqK : IxR X (rIx K) := hk ▸ ix_seq
theorem op_notIn_seqK : OpR X (compareOp .NotIn) (rIn K true) := hk ▸ op_notIn_seq
theorem call_len_seqK : CallR X (.builtin "len") (fun xs H Q => ∃ p ys, xs = [.ref p] ∧ (SqL K H p ys ∨ SqT K H p ys) ∧ Q (.int ys.length) H) := by
  subst hk
  exact call_len_seq
end
end Hd

namespace Hd
open PySem PySem.Spec PyProof.Rows L2

/-! ### the cycles of a move -/
def stp (ns : List Int) (p : Int) : Int := (ns[p.toNat]?).getD 0
def itn (ns : List Int) : Nat → Int → Int
  | 0, s => s
  | k + 1, s => stp ns (itn ns k s)
def inR (n p : Int) : Prop := 0 ≤ p ∧ p < n
section
variable {ns : List Int} {n : Int} (h : IsMv ns n)
include h
theorem stp_at {p : Int} (hp : inR n p) : ns[p.toNat]? = some (stp ns p) ∧ inR n (stp ns p) := by
  have l := h.len
  have lt : p.toNat < ns.length := by have := hp.1; have := hp.2; omega
  have e : ns[p.toNat]? = some ns[p.toNat] := List.getElem?_eq_getElem lt
  have es : stp ns p = ns[p.toNat] := by unfold stp; rw [e]; rfl
  refine ⟨by rw [es]; exact e, ?_⟩
  rw [es]
  exact h.mem.mp (List.getElem_mem lt)
theorem stp_inj {p q : Int} (hp : inR n p) (hq : inR n q) (e : stp ns p = stp ns q) : p = q := by
  have l := h.len
  have lp : p.toNat < ns.length := by have := hp.1; have := hp.2; omega
  have lq : q.toNat < ns.length := by have := hq.1; have := hq.2; omega
  have ep : ns[p.toNat] = ns[q.toNat] := by
    have a := (stp_at h hp).1
    have b := (stp_at h hq).1
    rw [List.getElem?_eq_getElem lp] at a
    rw [List.getElem?_eq_getElem lq] at b
    exact (Option.some.inj a).trans (e.trans (Option.some.inj b).symm)
  have nd := List.pairwise_iff_getElem.mp h.nodup
  have := hp.1; have := hq.1
  rcases Nat.lt_trichotomy p.toNat q.toNat with z | z | z
  · exact absurd ep (nd _ _ lp lq z)
  · omega
  · exact absurd ep.symm (nd _ _ lq lp z)
end
def IsPer (ns : List Int) (s : Int) (m : Nat) : Prop := 1 ≤ m ∧ itn ns m s = s ∧ ∀ k, 1 ≤ k → k < m → itn ns k s ≠ s
theorem IsPer.uniq {ns : List Int} {s : Int} {a b : Nat} (x : IsPer ns s a) (y : IsPer ns s b) : a = b := by
  rcases Nat.lt_trichotomy a b with l | l | l
  · exact absurd x.2.1 (y.2.2 a x.1 l)
  · exact l
  · exact absurd y.2.1 (x.2.2 b y.1 l)
section
variable {ns : List Int} {n : Int} (h : IsMv ns n)
include h
end
end Hd

namespace Hd
open PySem PySem.Spec PyProof.Rows L2

def pts (f : Nat → Bool) (n : Nat) : List Int := ((List.range n).filter f).map fun (j : Nat) => (j : Int)
theorem pts_step (f : Nat → Bool) (i : Nat) : pts f (i + 1) = pts f i ++ if f i then [(i : Int)] else [] := by
  unfold pts
  rw [List.range_succ, List.filter_append, List.map_append]
  congr 1
  cases e : f i <;> simp [e]
theorem pts_len (f : Nat → Bool) (n : Nat) : (pts f n).length ≤ n := by
  unfold pts
  rw [List.length_map]
  exact Nat.le_trans (List.length_filter_le ..) (by rw [List.length_range]; exact Nat.le_refl _)
theorem pts_mem {f : Nat → Bool} {n : Nat} {x : Int} : x ∈ pts f n ↔ 0 ≤ x ∧ x.toNat < n ∧ f x.toNat = true := by
  unfold pts
  rw [List.mem_map]
  constructor
  · rintro ⟨j, hj, rfl⟩
    obtain ⟨h1, h2⟩ := List.mem_filter.mp hj
    exact ⟨by omega, List.mem_range.mp h1, h2⟩
  · rintro ⟨h0, h1, h2⟩
    exact ⟨x.toNat, List.mem_filter.mpr ⟨List.mem_range.mpr h1, h2⟩, by omega⟩
theorem pts_sorted (f : Nat → Bool) (n : Nat) : (pts f n).Pairwise (· < ·) := by
  unfold pts
  rw [List.pairwise_map]
  refine List.Pairwise.imp (R := (· < ·)) (fun {a b} hab => ?_) (List.Pairwise.filter _ List.pairwise_lt_range)
  omega
section
variable {ns : List Int} {n : Int} (h : IsMv ns n)
include h
end
theorem ErrAt.new {D d p' : Addr} {fs : List (Str × V)} {H H' : Hp} {p : Addr × Obj} {o : HO} (e : ErrAt D d fs H p) (n : New H p' o H') : ErrAt D d fs H' p := ⟨e.cls, e.dict, e.data, n.else e.at_⟩
theorem ErrAt.same {D d : Addr} {fs : List (Str × V)} {H H' : Hp} {p : Addr × Obj} (e : ErrAt D d fs H p) (s : Same H H') : ErrAt D d fs H' p := ⟨e.cls, e.dict, e.data, s _ _ e.at_⟩
theorem same_put {H H' : Hp} {l : Addr} {o : HO} (s : Same H H') (h : H l = none) : Same H (upd H' l o) := fun b u e => by
  rw [upd_ne fun z => by rw [z, h] at e; cases e]
  exact s _ _ e
theorem map_at {ns : List Int} {i : Nat} {x : V} (h : (ns.map V.int)[i]? = some x) : ∃ m, ns[i]? = some m ∧ x = .int m := by
  rw [List.getElem?_map] at h
  obtain ⟨m, hm, e⟩ := Option.map_eq_some_iff.mp h
  exact ⟨m, hm, e.symm⟩
/-- an error of the class at D with these attributes leaves -/
def Errs (E : XK) (D : Addr) (fs : List (Str × V)) (H : Hp) : Prop := ∀ (d : Addr) (H' : Hp), Same H H' → H' d = some (.xd fs) → E (.ref D) (some d) H'
theorem Errs.up {E : XK} {D : Addr} {fs : List (Str × V)} {H H' : Hp} (e : Errs E D fs H) (s : Same H H') : Errs E D fs H' := fun d H2 s2 h => e d H2 (s.trans s2) h
end Hd
namespace Hd
open PySem PySem.Spec PyProof.Rows L2
theorem inV_ints (p : Int) (ns : List Int) : inV (.int p) (ns.map V.int) = decide (p ∈ ns) := by
  induction ns with
  | nil => rfl
  | cons a r ih =>
    have e : eqV (.int a) (.int p) = decide (a = p) := by
      show (a == p) = _
      by_cases c : a = p <;> simp [c]
    show (eqV (.int a) (.int p) || inV (.int p) (r.map V.int)) = _
    rw [ih, e]
    by_cases c : a = p
    · simp [c]
    · have c2 : p ≠ a := fun z => c z.symm
      simp [c, c2]
section
variable {ns : List Int} {n : Int} (h : IsMv ns n)
include h
end
theorem Stq.pure {G H G1 H1 H2 : Hp} (s : Stq G H G1 H1) (g : Same H1 H2) : Stq G H G1 H2 := ⟨s.gg, s.gh.trans g, s.nw, s.hh.trans g⟩
def rRepL : R2 := fun x y H Q => ∃ l k xs, x = .ref l ∧ y = .int k ∧ H l = some (.lst xs) ∧ -(2 ^ 63) ≤ k ∧ k < 2 ^ 63 ∧ xs.length * k.toNat ≤ sizeLine ∧ ∀ p H2, New H p (.lst (List.replicate k.toNat xs).flatten) H2 → Q (.ref p) H2
theorem op_repL {X : Cx} : OpR X (binaryOp .Mult) rRepL := opR_mono op_rep fun x y H Q h => by
  obtain ⟨l, k, xs, e1, e2, h1, z1, z2, z3, q⟩ := h
  exact ⟨l, k, xs, e1, e2, h1, z1, z2, z3, fun p hp => q p _ ⟨hp, rfl⟩⟩
theorem stp_nat {ns : List Int} {n : Int} (h : IsMv ns n) {k : Nat} (hk : (k : Int) < n) : ns[k]? = some (stp ns k) ∧ inR n (stp ns k) := stp_at h (p := (k : Int)) ⟨by omega, hk⟩
theorem renamed_mv {ns bs L : List Int} {n : Int} (n0 : 0 ≤ n) (hn : IsMv ns n) (hb : IsMv bs n) (hl : L.length = n.toNat) (h : ∀ k : Nat, (k : Int) < n → L[(stp bs k).toNat]? = some (stp bs (stp ns k))) : IsMv L n := by
  refine isMv_of n0 hl fun x x0 x1 => ?_
  obtain ⟨y, hy⟩ := List.getElem?_of_mem (hb.mem.mpr ⟨x0, x1⟩)
  have ly := hb.len
  have yl := (List.getElem?_eq_some_iff.mp hy).1
  obtain ⟨k, hk⟩ := List.getElem?_of_mem ((hn.mem (x := (y : Int))).mpr ⟨by omega, by omega⟩)
  have lk := hn.len
  have kl := (List.getElem?_eq_some_iff.mp hk).1
  have ek : stp ns k = y := Option.some.inj ((stp_nat hn (by omega)).1.symm.trans hk)
  have ey : stp bs (y : Int) = x := Option.some.inj ((stp_nat hb (by omega)).1.symm.trans hy)
  have := h k (by omega)
  rw [ek, ey] at this
  exact List.mem_of_getElem? this
theorem sgn_mv {n s g : Int} (h0 : 0 < n) (hg : g = 1 ∨ g = -1) : IsMv ((List.range n.toNat).map fun (k : Nat) => (g * (k : Int) + s) % n) n := by
  refine isMv_of (by omega) (by rw [List.length_map, List.length_range]) fun x x0 x1 => ?_
  have back : ∀ y : Int, ∃ k : Nat, (k : Int) < n ∧ ∃ q : Int, (k : Int) = y + n * q := fun y => by
    have a := Int.emod_nonneg y (show n ≠ 0 by omega)
    have b := Int.emod_lt_of_pos y h0
    refine ⟨(y % n).toNat, by omega, -(y / n), ?_⟩
    have := Int.emod_add_mul_ediv y n
    rw [Int.toNat_of_nonneg a, Int.mul_neg]
    omega
  rcases hg with rfl | rfl
  · obtain ⟨k, kn, q, e⟩ := back (x - s)
    refine List.mem_map.mpr ⟨k, List.mem_range.mpr (by omega), ?_⟩
    rw [Int.one_mul, e, show x - s + n * q + s = x + n * q by omega, Int.add_mul_emod_self_left]
    exact Int.emod_eq_of_lt x0 x1
  · obtain ⟨k, kn, q, e⟩ := back (s - x)
    refine List.mem_map.mpr ⟨k, List.mem_range.mpr (by omega), ?_⟩
    have : (-1) * (k : Int) + s = x + n * (-q) := by rw [e, Int.mul_neg]; omega
    rw [this, Int.add_mul_emod_self_left]
    exact Int.emod_eq_of_lt x0 x1
theorem app_mv {L B : List Int} {t m : Int} (t0 : 0 ≤ t) (m0 : 0 ≤ m) (hl : IsMv L t) (hb : IsMv B m) : IsMv (L ++ B.map (t + ·)) (t + m) := by
  refine isMv_of (by omega) (by rw [List.length_append, List.length_map, hl.len, hb.len]; omega) fun x x0 x1 => ?_
  by_cases c : x < t
  · exact List.mem_append_left _ (hl.mem.mpr ⟨x0, c⟩)
  · exact List.mem_append_right _ (List.mem_map.mpr ⟨x - t, hb.mem.mpr ⟨by omega, by omega⟩, by omega⟩)
end Hd

namespace Hd
open PySem PySem.Spec PyProof.Rows L2
/-! ### the facts of the head, put together -/
section
variable {K : PySem.W.Frag} {h : Heap} {mg : Str → Option Value} {x : Str} {D C CH : Addr}
end
end Hd

namespace Hd
open PySem PySem.Spec PyProof.Rows L2
/-! ### exceptions held as values -/
/-- at a: a new exception of the class at D, its attributes fs at d -/
structure MkX (H H' : Hp) (a d D : Addr) (fs : List (Str × V)) : Prop where
  na : H a = none
  nd : H d = none
  ne : d ≠ a
  at_ : H' a = some (exo a D (some d))
  dc : H' d = some (exd d fs)
  old : ∀ b, b ≠ a → b ≠ d → H' b = H b
theorem MkX.same {H H' : Hp} {a d D : Addr} {fs : List (Str × V)} (m : MkX H H' a d D fs) : Same H H' := fun b u e => by
  rw [m.old b (fun z => by rw [z, m.na] at e; cases e) fun z => by rw [z, m.nd] at e; cases e]
  exact e
section
variable {X : Cx} {x : Str} {D : Addr} {gs : List Str} {e : Expr} {es : List Expr} {ta : TA} {p pos : Pos}
end
/-- what isinstance wants of a class of exceptions -/
structure EcI (K : PySem.W.Frag) (D : Addr) : Prop where
  ga : PySem.W.findIn K (.ref D) "__getattribute__" = some (some (.builtin "BaseException.__getattribute__"))
  gg : PySem.W.findIn K (.ref D) "__getattr__" = some none
  ex : PySem.W.subIn K (.ref D) (.type "BaseException") = some true
  ca : PySem.W.findIn K (.ref D) "__class__" = some (some (.builtin "object.__class__"))
  sg : PySem.W.specialIn K (.builtin "object.__class__") "__get__" = some (some (.builtin "getset_descriptor.__get__"))
  tk : PySem.W.takesIn K (.builtin "object.__class__") = some true
  mo : PySem.W.mroIn K D (.type "object") = some true
  ic : PySem.W.isClsIn K D = true
theorem Ec.i {K : PySem.W.Frag} {mg : Str → Option Value} {x : Str} {D : Addr} (e : Ec K mg x D) : EcI K D := ⟨e.xf.ga, e.xf.gg, e.xf.exC, e.ca, e.sg, e.tk, e.mo, e.ic⟩
/-- an exception of the class at D stands at a -/
def ErV (H : Hp) (a D : Addr) : Prop := (∃ d fs, H a = some (exo a D (some d)) ∧ H d = some (exd d fs)) ∨ H a = some (ExO (.ref D) a)
theorem ErV.up {H H' : Hp} {a D : Addr} (e : ErV H a D) (s : Same H H') : ErV H' a D := e.imp (fun ⟨d, fs, h1, h2⟩ => ⟨d, fs, s _ _ h1, s _ _ h2⟩) (fun h => s _ _ h)
section
variable {X : Cx} {D a d : Addr}
theorem ErV.inst {pins : List (Addr × Obj)} {σ : L2.St} {H : Hp} {s : Shared} (e : ErV H a D) (I : Inv X pins σ H s) : ∃ oe od, PySem.W.InstAt s.heap a oe D od := by
  rcases e with ⟨d, fs, h1, h2⟩ | h1
  · obtain ⟨t1, ho⟩ := exo_at I.hok h1
    obtain ⟨mA, ⟨o, es, ep, hd, hr⟩, -⟩ := exd_at I.hok h2
    exact ⟨_, some o, ho, rfl, rfl, hd⟩
  · have z : ObjOk X.prog X.w H s.heap a (.ext fun h => ∃ (oe : Obj) (vs : Array Value), h.get? a = some oe ∧ Zc (.ref D) none oe ∧ oe.data = .fields vs ∧ vs[1]? = some .none ∧ vs[2]? = some .none ∧ 4 < vs.size) := I.hok a _ h1
    obtain ⟨⟨oe, vs, ho, hz, hd, -⟩, -, -⟩ := z
    refine ⟨oe, none, ho, hz.1, ?_, ?_⟩
    · unfold PySem.W.notCls
      rw [hd] <;> rfl
    · rw [hz.2]
      trivial
end
end Hd

namespace Hd
open PySem PySem.Spec PyProof.Rows L2
/-! ### moves done one after the other -/
def aft (ns ms : List Int) : List Int := ns.map (stp ms)
theorem aft_len (ns ms : List Int) : (aft ns ms).length = ns.length := List.length_map ..
section
variable {ns ms : List Int} {n : Int} (hn : IsMv ns n) (hm : IsMv ms n)
include hn
theorem stp_aft {p : Int} (hp : inR n p) : stp (aft ns ms) p = stp ms (stp ns p) := by
  have e := (stp_at hn hp).1
  show ((ns.map (stp ms))[p.toNat]?).getD 0 = _
  rw [List.getElem?_map, e]
  rfl
theorem mv_ext {L : List Int} (hl : L.length = n.toNat) (h : ∀ k : Nat, (k : Int) < n → L[k]? = some (stp ns k)) : L = ns := by
  refine List.ext_getElem? fun k => ?_
  have ln := hn.len
  by_cases c : (k : Int) < n
  · rw [h k c, (stp_nat hn c).1]
  · rw [List.getElem?_eq_none (by omega), List.getElem?_eq_none (by omega)]
include hm
theorem aft_mv (n0 : 0 ≤ n) : IsMv (aft ns ms) n := by
  refine isMv_of n0 (by rw [aft_len]; exact hn.len) fun x x0 x1 => ?_
  obtain ⟨y, hy⟩ := List.getElem?_of_mem (hm.mem.mpr ⟨x0, x1⟩)
  have ly := hm.len
  have yl := (List.getElem?_eq_some_iff.mp hy).1
  have iy : inR n (y : Int) := ⟨by omega, by omega⟩
  refine List.mem_map.mpr ⟨(y : Int), hn.mem.mpr iy, ?_⟩
  exact Option.some.inj ((stp_nat hm iy.2).1.symm.trans hy)
end
theorem aft_assoc {a b c : List Int} {n : Int} (ha : IsMv a n) (hb : IsMv b n) : aft (aft a b) c = aft a (aft b c) := by
  unfold aft
  rw [List.map_map]
  refine List.map_congr_left fun x hx => ?_
  exact (stp_aft (ms := c) hb (ha.mem.mp hx)).symm
/-- ms undoes ns -/
def Undo (n : Int) (ns ms : List Int) : Prop := ∀ p, inR n p → stp ns (stp ms p) = p
theorem stp_rng {n p : Int} (h : inR n p) : stp (rngI n) p = p := by
  show ((rngI n)[p.toNat]?).getD 0 = p
  unfold rngI
  rw [List.getElem?_map, List.getElem?_range (by have := h.1; have := h.2; omega)]
  show ((p.toNat : Nat) : Int) = p
  have := h.1
  omega
theorem rng_mv {n : Int} : IsMv (rngI n) n := .refl _
section
variable {ns ms : List Int} {n : Int} (hn : IsMv ns n) (hm : IsMv ms n) (u : Undo n ns ms)
include hn hm u
end
/-! ### tuple.index of ints -/
end Hd

namespace Hd
open PySem PySem.Spec PyProof.Rows L2
/-! ### sorted of tuples of ints, any number of them -/
def rowD (r : List Int) : PyData := .tuple (r.map PyData.int)
section
variable {prog : Program} {w : World} {A : Around} {E : Value → Shared → Prop} {s : Shared}
theorem lex_go {b fin : Bool} {Q : Bool → Shared → Prop} {xs ys : List Value} {ns ms : List Int} (i : Nat) (hx : IntsAre xs ns) (hy : IntsAre ys ms) (hf : fin = decide (ns.length < ms.length)) (h : Q (HT.lexLt ns ms) s) : PySem.W.KatLex prog w A b fin Q (xs.zip ys) i s := by
  induction hx generalizing ys ms i with
  | nil =>
    cases hy with
    | nil =>
      rw [HT.lexLt_nil_nil] at h
      have : fin = false := by rw [hf]; rfl
      rw [List.zip_nil_left, this]
      exact PySem.W.kat_nil h
    | cons q u hy =>
      rw [HT.lexLt_nil_cons] at h
      have : fin = true := by rw [hf]; exact decide_eq_true (by simp)
      rw [List.zip_nil_left, this]
      exact PySem.W.kat_nil h
  | @cons p t xs ns hx ih =>
    cases hy with
    | nil =>
      rw [HT.lexLt_cons_nil] at h
      have : fin = false := by rw [hf]; exact decide_eq_false (by simp)
      rw [List.zip_nil_right, this]
      exact PySem.W.kat_nil h
    | @cons q u ys ms hy =>
      show PySem.W.KatLex prog w A b fin Q ((Value.int p t, Value.int q u) :: xs.zip ys) i s
      rw [HT.lexLt_cons] at h
      refine PySem.W.kat_cons (wpAny_eqBool_int ?_)
      by_cases e : p = q
      · subst e
        rw [beq_self_eq_true]
        rw [if_pos rfl] at h
        have hf' : fin = decide (ns.length < ms.length) := by
          rw [hf]
          refine decide_eq_decide.mpr ?_
          simp
        exact PySem.W.kat_yes (ih (i + 1) hy hf' h)
      · rw [show (p == q) = false from beq_eq_false_iff_ne.mpr e]
        rw [if_neg e] at h
        exact PySem.W.kat_no (TS.oneLt_ints _ h)
theorem firsts_tups {h : Heap} {k : Value → List Int} : ∀ vs : List Value, (∀ v ∈ vs, TS.TupInts h v (k v)) → (∀ v ∈ vs, k v ≠ []) → ∃ fs, PySem.W.KatTups h vs fs ∧ fs.length = vs.length ∧ ∀ f, f ∈ fs → ∃ n t, f = Value.int n t
  | [], _, _ => ⟨[], PySem.W.KatTups.nil, rfl, fun f hf => by simp at hf⟩
  | v :: vs, x, d => by
    obtain ⟨fs, c, hl, hi⟩ := firsts_tups vs (fun u hu => x u (List.mem_cons_of_mem _ hu)) fun u hu => d u (List.mem_cons_of_mem _ hu)
    have hn := d v List.mem_cons_self
    obtain ⟨a, xs, rfl, ⟨o, ho, hc, n, hdt⟩, i⟩ := x v List.mem_cons_self
    obtain ⟨y, ys, e⟩ : ∃ y ys, xs.toList = y :: ys := by
      cases q : xs.toList with
      | nil =>
        rw [q] at i
        have l := i.length
        rw [List.length_nil] at l
        exact absurd (List.eq_nil_of_length_eq_zero l.symm) hn
      | cons y ys => exact ⟨y, ys, rfl⟩
    obtain ⟨m, t, hy⟩ := i.all y (by rw [e]; exact List.mem_cons_self ..)
    refine ⟨y :: fs, PySem.W.KatTups.cons ho hc hdt ?_ c, by simp [hl], ?_⟩
    · have z := congrArg (fun l : List Value => l[0]?) e
      simpa using z
    · intro f hf
      rcases List.mem_cons.mp hf with rfl | hf
      · exact ⟨m, t, hy⟩
      · exact hi f hf
theorem tups_sortable {a : Addr} {vs : List Value} {k : Value → List Int} (h2 : 2 ≤ vs.length) (hd : ∀ v ∈ vs, k v ≠ []) (hp : ∀ v ∈ vs, TS.TupInts s.heap v (k v)) (ha : ∀ o, s.heap.get? a = some o → o.cls ≠ .type "tuple") :
    SrtO.SortableO prog w A s a vs fun v u => HT.lexLt (k v) (k u) := by
  intro h' keep
  have hp' : ∀ v ∈ vs, TS.TupInts h' v (k v) := fun v hm => (hp v hm).keeps fun b o e c => keep b o (fun z => by subst z; exact ha o e c) e
  obtain ⟨fs, h1, h3, h4⟩ := firsts_tups vs hp' hd
  refine ⟨tuples' true, fun Q E hq => ?_, ?_⟩
  · refine PySem.W.kat_kind (T := .type "int") h1 (by omega) (fun f hm => ?_) (by rfl) ?_
    · obtain ⟨x, t, rfl⟩ := h4 f hm
      exact PySem.W.Looks.now
    · have e : (Value.type "int" != Value.type "tuple") = true := by first | decide +kernel | rfl | decide
      rw [e]
      exact hq
  · intro p q hm hm'
    show wpAny (model prog w) A (keyLt' (tuples' true) p.1 q.1) (fun r s' => s' = { s with heap := h' } ∧ r = HT.lexLt (k p.1) (k q.1)) (fun _ _ => False) { s with heap := h' }
    obtain ⟨a1, xs, e1, ⟨o, ho, hc, n, hdt⟩, i1⟩ := hp' _ hm
    obtain ⟨a2, ys, e2, ⟨o', ho', hc', n', hdt'⟩, i2⟩ := hp' _ hm'
    generalize k p.1 = ns at i1 ⊢
    generalize k q.1 = ms at i2 ⊢
    rw [e1, e2]
    refine PySem.W.kat_lt ho hdt ho' hdt' (lex_go 0 i1 i2 ?_ ⟨rfl, rfl⟩)
    have l1 := i1.length
    have l2 := i2.length
    rw [Array.length_toList] at l1 l2
    rw [l1, l2]
end
/-- the ints of the tuple that the heap tells of -/
def kH (H : Hp) : V → List Int
  | .ref a => match H a with
    | some (.tup xs) => xs.map intV
    | _ => []
  | _ => []
theorem kH_row {H : Hp} {v : V} {r : List Int} (h : Da H v (rowD r)) : kH H v = r := by
  unfold rowD at h
  cases h with
  | tup ha dx =>
    obtain rfl := vals_int dx
    simp only [kH, ha]
    exact map_intV r
theorem kH_da {H : Hp} {v : V} {r : List Int} (h : Da H v (rowD r)) : Da H v (rowD (kH H v)) := by rw [kH_row h]; exact h
theorem rows_kH {H : Hp} : ∀ {xs : List V} {Ls : List (List Int)}, DaAll H xs (Ls.map rowD) → Ls = xs.map (kH H)
  | _, [], .nil => rfl
  | _, r :: Ls, .cons h t => by
    rw [List.map_cons, kH_row h, ← rows_kH t]
theorem rows_mem {H : Hp} : ∀ {xs : List V} {Ls : List (List Int)}, DaAll H xs (Ls.map rowD) → ∀ x ∈ xs, Da H x (rowD (kH H x))
  | _, [], .nil, x, hx => by cases hx
  | _, r :: Ls, .cons h t, x, hx => by
    rcases List.mem_cons.mp hx with rfl | hx
    · exact kH_da h
    · exact rows_mem t x hx
theorem rows_of {H : Hp} : ∀ {xs : List V}, (∀ x ∈ xs, Da H x (rowD (kH H x))) → DaAll H xs ((xs.map (kH H)).map rowD)
  | [], _ => .nil
  | x :: xs, h => .cons (h x List.mem_cons_self) (rows_of fun y hy => h y (List.mem_cons_of_mem _ hy))
theorem rows_ref {H : Hp} {x : V} {r : List Int} (h : Da H x (rowD r)) : ∃ t, x = .ref t ∧ H t = some (.tup (r.map V.int)) := by
  unfold rowD at h
  cases h with
  | tup ha dx =>
    obtain rfl := vals_int dx
    exact ⟨_, rfl, ha⟩
/-- sorted of rows: what comes of it -/
def SortedTo (H : Hp) (xs : List V) (Ls : List (List Int)) (Q : VK) : Prop := ∀ (ys : List V) (Ms : List (List Int)) (p : Addr) (H2 : Hp), DaAll H ys (Ms.map rowD) → Ms.Perm Ls → Ms.Pairwise (fun x y => HT.lexLt y x = false) → New H p (.lst ys) H2 → Q (.ref p) H2
def rSortR (K : PySem.W.Frag) : List V → Hp → VK → Prop := fun vs H Q => ∃ (a : Addr) (xs : List V) (Ls : List (List Int)), vs = [V.ref a] ∧ (SqL K H a xs) ∧ DaAll H xs (Ls.map rowD) ∧ (2 ≤ Ls.length → ∀ l ∈ Ls, l ≠ []) ∧ SortedTo H xs Ls Q
section
variable {X : Cx}
theorem tup_raw {pins : List (Addr × Obj)} {σ : L2.St} {H : Hp} {s : Shared} (I : Inv X pins σ H s) {t : Addr} {ns : List Int} (h : H t = some (.tup (ns.map V.int))) : TS.TupInts s.heap (.ref t) ns := by
  obtain ⟨_, its, rv, o, ho, hc, n, hd⟩ := I.hok t _ h
  exact ⟨t, its.toArray, rfl, ⟨o, ho, hc, n, hd⟩, rv.ints⟩
theorem call_sortR : CallR X (.builtin "sorted") (rSortR X.K) := by
  intro pins s σ H vs us Q I r h
  obtain ⟨a, xs, Ls, rfl, hs, hx, ne, q⟩ := h
  obtain ⟨its, rv, hl, hz⟩ := I.list hs
  rw [Vals.ref1 r]
  have hm := rows_mem hx
  obtain ⟨e1, e2⟩ := refs_back rv fun x m => by
    obtain ⟨t, e, _⟩ := rows_ref (hm x m)
    exact ⟨t, e⟩
  have eL := rows_kH hx
  have lL : Ls.length = its.length := by rw [eL, List.length_map, e1, List.length_map]
  have keys : ∀ v ∈ its, Da H (backV v) (rowD (kH H (backV v))) := fun v hv => hm _ (by rw [e1]; exact List.mem_map.mpr ⟨_, hv, rfl⟩)
  refine SrtO.sorted_ord (NtL.swo_lexL fun u => kH H (backV u)) hl.isList (by rw [← rv.length]; exact hz) (fun h2 h₁ b ha kk => ?_) fun out h1 h2 => ?_
  · refine tups_sortable (s := { s with heap := h₁ }) h2 (fun v hv => ?_) (fun v hv => ?_) fun o e => ?_
    · refine ne (by omega) _ ?_
      rw [eL, e1, List.map_map]
      exact List.mem_map.mpr ⟨v, hv, rfl⟩
    · obtain ⟨t, e, ht⟩ := rows_ref (keys v hv)
      obtain ⟨c, rfl⟩ := e2 v hv
      cases e
      exact (tup_raw I ht).keeps fun b o e _ => (kk b o e).2
    · have e' : some o = some (seqObj "list" its.toArray 0) := e.symm.trans ha
      cases e'
      intro c
      exact absurd (Value.type.inj c) (by decide)
  · have h3 : ∀ u ∈ out, ∃ a, u = Value.ref a := fun u hu => e2 u (h2.perm.mem_iff.mp hu)
    obtain ⟨n, hn⟩ := PyProof.Rows.sortedAll_at s.heap its out.toArray
    have pm : (out.map backV).Perm xs := by rw [e1]; exact h2.perm.map _
    have hlen : (out.map backV).length ≤ sizeLine := by rw [pm.length_eq]; exact hz
    refine ⟨.ref _, upd H (s.heap.objs.size + 1) (.lst (out.map backV)), I.laid (t' := s.toks) (fun _ _ => PyProof.Rows.sortedAll_old) (Nat.le_succ _) ⟨hlen, out, n, vals_back h3, hn⟩, rfl, q (out.map backV) ((out.map backV).map (kH H)) _ _ (rows_of fun x hx' => hm x (pm.mem_iff.mp hx')) ?_ ?_ ⟨I.hok.fresh (Nat.le_succ _), rfl⟩⟩
    · rw [eL]
      exact pm.map _
    · rw [List.map_map]
      exact List.pairwise_map.mpr h1
/-- sorted of a dict with such keys -/
def keyL (r : List Int) : List L2.Key := r.map Sum.inl
theorem keyL_kV (r : List Int) : (keyL r).map kV = r.map V.int := by
  unfold keyL
  rw [List.map_map]
  rfl
theorem keyL_inj {a b : List Int} (e : keyL a = keyL b) : a = b := by
  have := congrArg (List.map kV) e
  rw [keyL_kV, keyL_kV] at this
  have z := congrArg (List.map intV) this
  rwa [map_intV, map_intV] at z
def rSortDT : List V → Hp → VK → Prop := fun vs H Q => ∃ (a : Addr) (kvs : List (List L2.Key × V)) (Ls : List (List Int)), vs = [V.ref a] ∧ H a = some (.dT kvs) ∧ kvs.map (·.1) = Ls.map keyL ∧ (2 ≤ Ls.length → ∀ l ∈ Ls, l ≠ []) ∧
  ∀ (ys : List V) (Ms : List (List Int)) (p : Addr) (H2 : Hp), DaAll H ys (Ms.map rowD) → Ms.Perm Ls → Ms.Pairwise (fun x y => HT.lexLt y x = false) → New H p (.lst ys) H2 → Q (.ref p) H2
theorem keys_rows {H : Hp} : ∀ {kvs : List (List L2.Key × V)} {xs : List (List L2.Key × Addr × Value)} {Ls : List (List Int)}, KT H kvs xs → kvs.map (·.1) = Ls.map keyL → DaAll H (xs.map fun x => V.ref x.2.1) (Ls.map rowD)
  | _, _, [], .nil, _ => .nil
  | _, _, _ :: _, .nil, e => by cases e
  | _, _, [], .cons _ _, e => by cases e
  | _, _, r :: Ls, .cons h t, e => by
    rw [List.map_cons, List.map_cons] at e
    injection e with e1 e2
    refine .cons ?_ (keys_rows t e2)
    refine .tup (xs := r.map V.int) ?_ (DaAll.ints r)
    rw [h.2.1, e1, keyL_kV]
theorem call_sortDT (hc : X.calm = true) : CallR X (.builtin "sorted") rSortDT := by
  intro pins s σ H vs us Q I r h
  obtain ⟨d, kvs, Ls, rfl, hd, ek, ne, q⟩ := h
  obtain ⟨u, rfl, rx⟩ := r.one
  cases rx
  obtain ⟨z, hs, ks, pr, o, es, ep, ho, hx, hdt, he, hn⟩ := (show ObjOk X.prog X.w H s.heap d (.dT kvs) from I.hok d _ hd)
  have l1 : es.size = ks.length := size_of_entries he
  have l2 : kvs.length = ks.length := Paired.length pr
  have hr := keys_rows pr ek
  have hm := rows_mem hr
  have eL := rows_kH hr
  refine Calls.call_function_entry kind_sorted plain_sorted entry_sorted (args_sorted1 _) ?_
  unfold Builtin.«sorted»
  refine wpAny_bind (m := checkCount "sorted" 1 1 _) (wpAny_pure ?_)
  refine wpAny_bind (PySem.W.kdu_collect (kdl_raw hs hx hdt) (I.ok.hd hc) ho (by omega) fun h' tk acc kp it => ?_)
  have ea : acc.toList = ks.map fun x => Value.ref x.2.1 := by
    have hl : acc.toList.length = ks.length := by rw [Array.length_toList, it.1]; exact l1
    apply List.ext_getElem?
    intro j
    rw [List.getElem?_map]
    cases hj : acc.toList[j]? with
    | none =>
      have h1 := List.getElem?_eq_none_iff.mp hj
      rw [List.getElem?_eq_none (by omega)]
      all_goals rfl
    | some v =>
      obtain ⟨en, hen, hv⟩ := it.2 j v (by rw [← Array.getElem?_toList]; exact hj)
      have qe := entry_at he j
      rw [hen] at qe
      cases hb : ks[j]? with
      | none =>
        rw [hb] at qe
        exact nomatch (show some en = none from qe)
      | some b =>
        rw [hb] at qe
        have e2 : en = entryOfKey (tupleKind (mixKind X.prog X.w)) b := Option.some.inj qe
        rw [hv, e2]
        all_goals rfl
  generalize eits : acc.toList = its at ea ⊢
  have ex : (ks.map fun x => V.ref x.2.1) = its.map backV := by
    rw [ea, List.map_map]
    rfl
  have e2 : ∀ u ∈ its, ∃ a, u = Value.ref a := fun u hu => by
    rw [ea] at hu
    obtain ⟨x, _, rfl⟩ := List.mem_map.mp hu
    exact ⟨_, rfl⟩
  have li : its.length = ks.length := by rw [ea, List.length_map]
  have lL : Ls.length = its.length := by rw [eL, List.length_map, List.length_map, li]
  have I1 : Inv X pins σ H { s with heap := h', toks := tk } := I.kept kp
  refine wpAny_bind (wpAny_newList ?_ (by omega))
  have here : (h'.push (seqObj "list" its.toArray 0)).get? h'.objs.size = some (seqObj "list" its.toArray 0) := Heap.get?_push_size _ rfl
  show wpAny _ _ _ _ _ { s with heap := h'.push (seqObj "list" its.toArray 0), toks := tk }
  have keys : ∀ v ∈ its, Da H (backV v) (rowD (kH H (backV v))) := fun v hv => hm _ (by rw [ex]; exact List.mem_map.mpr ⟨_, hv, rfl⟩)
  refine wpAny_bind (wpAny_holding (wpAny_call_entry slot_list_sort ⟨_, here, rfl⟩ entry_list_sort
    (SrtO.list_sort_ord (s := { s with heap := h'.push (seqObj "list" its.toArray 0), toks := tk }) (NtL.swo_lexL fun u => kH H (backV u)) here (by omega) (fun h2 => ?_) fun out h1 h2 => ⟨_, rfl, ?_⟩) (args_list_sort _)))
  · refine tups_sortable h2 (fun v hv => ?_) (fun v hv => ?_) fun o e => ?_
    · refine ne (by omega) _ ?_
      rw [eL, ex, List.map_map]
      exact List.mem_map.mpr ⟨v, hv, rfl⟩
    · obtain ⟨t, e, ht⟩ := rows_ref (keys v hv)
      obtain ⟨c, rfl⟩ := e2 v hv
      cases e
      exact (tup_raw I1 ht).keeps fun b o e _ => Heap.get?_push_of_some _ e
    · have e' : some o = some (seqObj "list" its.toArray 0) := e.symm.trans here
      cases e'
      intro c
      exact absurd (Value.type.inj c) (by decide)
  · have h3 : ∀ u ∈ out, ∃ a, u = Value.ref a := fun u hu => e2 u (h2.perm.mem_iff.mp hu)
    obtain ⟨n, hn⟩ := PyProof.Rows.sortedHeap_at (vs := its) (out := out.toArray) here
    have pm : (out.map backV).Perm (ks.map fun x => V.ref x.2.1) := by rw [ex]; exact h2.perm.map _
    have hlen : (out.map backV).length ≤ sizeLine := by rw [pm.length_eq, List.length_map]; omega
    refine wpAny_pure ⟨_, rfl, ⟨.ref _, upd H h'.objs.size (.lst (out.map backV)), I1.laid (t' := tk) (fun b o e => ?_) (Nat.le_refl _) ⟨hlen, out, n, vals_back h3, hn⟩, rfl, q (out.map backV) ((out.map backV).map (kH H)) _ _ (rows_of fun x hx' => hm x (pm.mem_iff.mp hx')) ?_ ?_ ⟨I1.hok.fresh (Nat.le_refl _), rfl⟩⟩⟩
    · have lt := Heap.lt_size e
      rw [PyProof.Rows.sortedHeap_old (Nat.ne_of_lt lt) (by rw [size_push']; exact Nat.lt_succ_of_lt lt)]
      exact Heap.get?_push_of_some _ e
    · rw [eL]
      exact pm.map _
    · rw [List.map_map]
      exact List.pairwise_map.mpr h1
end
end Hd

namespace Hd
open PySem PySem.Spec PyProof.Rows L2
/-! ### rows reached by doing moves in turn -/
inductive Rch (T : List (List Int)) (r : List Int) : List Int → Prop
  | base : Rch T r r
  | step {w m : List Int} : Rch T r w → m ∈ T → Rch T r (aft w m)
def AllMv (n : Int) (T : List (List Int)) : Prop := ∀ m ∈ T, IsMv m n
def RowIn (n : Int) (w : List Int) : Prop := ∀ p ∈ w, inR n p
theorem RowIn.aft {n : Int} {w m : List Int} (h : RowIn n w) (hm : IsMv m n) : RowIn n (aft w m) := fun p hp => by
  obtain ⟨q, hq, rfl⟩ := List.mem_map.mp hp
  exact (stp_at hm (h q hq)).2
theorem IsMv.row {n : Int} {m : List Int} (h : IsMv m n) : RowIn n m := fun p hp => h.mem.mp hp
section
variable {n : Int} {T : List (List Int)} {r : List Int}
theorem Rch.row (hT : AllMv n T) (h : RowIn n r) {w : List Int} (c : Rch T r w) : RowIn n w ∧ w.length = r.length := by
  induction c with
  | base => exact ⟨h, rfl⟩
  | step _ hm ih => exact ⟨ih.1.aft (hT _ hm), by rw [aft_len]; exact ih.2⟩
theorem Rch.mono {T' : List (List Int)} (h : ∀ m ∈ T, m ∈ T') {w : List Int} (c : Rch T r w) : Rch T' r w := by
  induction c with
  | base => exact .base
  | step _ hm ih => exact .step ih (h _ hm)
end
abbrev Mk' (n : Int) (T : List (List Int)) (w : List Int) : Prop := Rch T (rngI n) w
theorem aft_rng {w : List Int} {n : Int} (h : RowIn n w) : aft w (rngI n) = w := by
  unfold aft
  have : w.map (stp (rngI n)) = w.map id := List.map_congr_left fun x hx => stp_rng (h x hx)
  rw [this, List.map_id]
theorem rng_aft {m : List Int} {n : Int} (h : IsMv m n) : aft (rngI n) m = m := by
  refine mv_ext h (by rw [aft_len, rngI_len]) fun k kn => ?_
  unfold aft rngI
  rw [List.map_map, List.getElem?_map, List.getElem?_range (by omega)]
  rfl
section
variable {n : Int} {T : List (List Int)}
theorem made_mv (n0 : 0 ≤ n) (hT : AllMv n T) {w : List Int} (c : Mk' n T w) : IsMv w n := by
  induction c with
  | base => exact rng_mv
  | step _ hm ih => exact aft_mv ih (hT _ hm) n0
theorem made_told (hT : AllMv n T) {m : List Int} (h : m ∈ T) : Mk' n T m := by
  have := Rch.step (Rch.base (T := T) (r := rngI n)) h
  rwa [rng_aft (hT _ h)] at this
theorem made_comp (n0 : 0 ≤ n) (hT : AllMv n T) {a b : List Int} (ca : Mk' n T a) (cb : Mk' n T b) : Mk' n T (aft a b) := by
  induction cb with
  | base => rw [aft_rng (made_mv n0 hT ca).row]; exact ca
  | @step w m cw hm ih =>
    rw [← aft_assoc (made_mv n0 hT ca) (made_mv n0 hT cw)]
    exact .step ih hm
theorem made_sub {T' : List (List Int)} (n0 : 0 ≤ n) (hT : AllMv n T) (h : ∀ m ∈ T', Mk' n T m) {w : List Int} (c : Mk' n T' w) : Mk' n T w := by
  induction c with
  | base => exact .base
  | step _ hm ih => exact made_comp n0 hT ih (h _ hm)
end
/-! ### lists in order -/
theorem lex_irr (xs : List Int) : HT.lexLt xs xs = false := by
  cases e : HT.lexLt xs xs with
  | false => rfl
  | true => rw [NtL.lex_asym xs xs e] at e; cases e
theorem lex_tri : ∀ xs ys : List Int, HT.lexLt xs ys = false → HT.lexLt ys xs = false → xs = ys
  | [], [], _, _ => rfl
  | [], y :: ys, h, _ => by rw [HT.lexLt_nil_cons] at h; cases h
  | x :: xs, [], _, h => by rw [HT.lexLt_nil_cons] at h; cases h
  | x :: xs, y :: ys, h1, h2 => by
    rw [HT.lexLt_cons] at h1 h2
    by_cases e : x = y
    · subst e
      rw [if_pos rfl] at h1 h2
      rw [lex_tri xs ys h1 h2]
    · rw [if_neg e] at h1
      rw [if_neg (Ne.symm e)] at h2
      have a := of_decide_eq_false h1
      have b := of_decide_eq_false h2
      omega
/-- ascending, no two alike -/
def Asc (L : List (List Int)) : Prop := L.Pairwise fun x y => HT.lexLt x y = true
theorem asc_of : ∀ {L : List (List Int)}, L.Pairwise (fun x y => HT.lexLt y x = false) → L.Nodup → Asc L
  | [], _, _ => .nil
  | x :: L, h, nd => by
    obtain ⟨h1, h2⟩ := List.pairwise_cons.mp h
    obtain ⟨n1, n2⟩ := List.nodup_cons.mp nd
    refine List.pairwise_cons.mpr ⟨fun y hy => ?_, asc_of h2 n2⟩
    cases e : HT.lexLt x y with
    | true => rfl
    | false => exact absurd (lex_tri _ _ e (h1 y hy) ▸ hy) n1
theorem Asc.nodup {L : List (List Int)} (h : Asc L) : L.Nodup := List.Pairwise.imp (fun {a b} (e : HT.lexLt a b = true) z => by rw [z, lex_irr] at e; cases e) h
theorem asc_eq : ∀ {L M : List (List Int)}, Asc L → Asc M → (∀ x, x ∈ L ↔ x ∈ M) → L = M
  | [], [], _, _, _ => rfl
  | [], y :: M, _, _, h => absurd ((h y).mpr List.mem_cons_self) (by simp)
  | x :: L, [], _, _, h => absurd ((h x).mp List.mem_cons_self) (by simp)
  | x :: L, y :: M, hl, hm, h => by
    obtain ⟨l1, l2⟩ := List.pairwise_cons.mp hl
    obtain ⟨m1, m2⟩ := List.pairwise_cons.mp hm
    have e : x = y := by
      rcases List.mem_cons.mp ((h x).mp List.mem_cons_self) with e | hx
      · exact e
      · rcases List.mem_cons.mp ((h y).mpr List.mem_cons_self) with e | hy
        · exact e.symm
        · have a := m1 x hx
          have b := l1 y hy
          rw [NtL.lex_asym _ _ a] at b
          cases b
    subst e
    have nx : x ∉ L := fun z => by have := l1 x z; rw [lex_irr] at this; cases this
    have ny : x ∉ M := fun z => by have := m1 x z; rw [lex_irr] at this; cases this
    rw [asc_eq l2 m2 fun z => ?_]
    constructor
    · intro hz
      rcases List.mem_cons.mp ((h z).mp (List.mem_cons_of_mem _ hz)) with e | k
      · rw [e] at hz; exact absurd hz nx
      · exact k
    · intro hz
      rcases List.mem_cons.mp ((h z).mpr (List.mem_cons_of_mem _ hz)) with e | k
      · rw [e] at hz; exact absurd hz ny
      · exact k
/-- L: all that is made, in order -/
structure Grp (n : Int) (T L : List (List Int)) : Prop where
  asc : Asc L
  mem : ∀ w, w ∈ L ↔ Mk' n T w
theorem Grp.uniq {n : Int} {T L M : List (List Int)} (a : Grp n T L) (b : Grp n T M) : L = M := asc_eq a.asc b.asc fun x => (a.mem x).trans (b.mem x).symm
theorem Grp.of_perm {n : Int} {T L Ks : List (List Int)} (nd : Ks.Nodup) (mem : ∀ w, w ∈ Ks ↔ Mk' n T w) (pm : L.Perm Ks) (so : L.Pairwise fun x y => HT.lexLt y x = false) : Grp n T L := ⟨asc_of so ((List.Perm.nodup_iff pm).mpr nd), fun w => (List.Perm.mem_iff pm).trans (mem w)⟩
theorem Grp.like {n : Int} {T T' L : List (List Int)} (n0 : 0 ≤ n) (hT : AllMv n T) (hT' : AllMv n T') (h : ∀ m ∈ T, Mk' n T' m) (h' : ∀ m ∈ T', Mk' n T m) (g : Grp n T L) : Grp n T' L := ⟨g.asc, fun w => (g.mem w).trans ⟨made_sub n0 hT' h, made_sub n0 hT h'⟩⟩
theorem Grp.still {n : Int} {T L : List (List Int)} (g : Grp n T L) : rngI n ∈ L := (g.mem _).mpr .base
theorem Grp.none {n : Int} : Grp n [] [rngI n] := ⟨List.pairwise_singleton _ _, fun w => ⟨fun h => by rw [List.mem_singleton.mp h]; exact .base, fun h => by
  cases h with
  | base => exact List.mem_singleton.mpr rfl
  | step _ hm => cases hm⟩⟩
theorem len_sub : ∀ {K L : List (List Int)}, K.Nodup → (∀ w ∈ K, w ∈ L) → K.length ≤ L.length
  | [], L, _, _ => Nat.zero_le _
  | x :: K, L, nd, h => by
    obtain ⟨n1, n2⟩ := List.nodup_cons.mp nd
    have hx := h x List.mem_cons_self
    have := len_sub (K := K) (L := L.erase x) n2 fun w hw => (List.mem_erase_of_ne fun e => n1 (by rw [← e]; exact hw)).mpr (h w (List.mem_cons_of_mem _ hw))
    rw [List.length_erase_of_mem hx] at this
    have := List.length_pos_of_mem hx
    rw [List.length_cons]
    omega
/-- closed under the moves: then it is all that is reached -/
theorem rch_all {T : List (List Int)} {r : List Int} {K : List (List Int)} (hb : r ∈ K) (hc : ∀ w ∈ K, ∀ m ∈ T, aft w m ∈ K) {w : List Int} (c : Rch T r w) : w ∈ K := by
  induction c with
  | base => exact hb
  | step _ hm ih => exact hc _ ih _ hm
end Hd

namespace Hd
open PySem PySem.Spec PyProof.Rows L2
/-! ### a walk that is one of two -/
def iOr (a b : TI) : TI := fun σ H R => a σ H R ∨ b σ H R
theorem pi_or {X : Cx} {tg e : Expr} {a b : TI} (ha : PI X tg e a) (hb : PI X tg e b) : PI X tg e (iOr a b) := ⟨fun pins s σ H R I h => h.elim (fun h => ha.run pins s σ H R I h) fun h => hb.run pins s σ H R I h⟩
/-- a for over enumerate(tuple) -/
theorem for_enumT {K : PySem.W.Frag} {a : Addr} {xs : List V} {g : TG} {tb : TS} {D : Ends} {σ : L2.St} {H : Hp} (Pv : Nat → L2.St → Hp → Prop) (h0 : Pv 0 σ H) (hl : ∀ i σ H, i ≤ xs.length → Pv i σ H → SqT K H a xs)
    (hs : ∀ i x T σ H H', xs[i]? = some x → Pv i σ H → New H T (.tup [.int (i : Nat), x]) H' → g (.ref T) σ H' fun σ2 H2 => tb { D with nx := Pv (i + 1), ct := Pv (i + 1), bk := D.nx } σ2 H2) (hd : ∀ σ H, Pv xs.length σ H → D.nx σ H) :
    ∃ W : Nat → Nat → L2.St → Hp → Prop, (∃ m, W 0 m σ H) ∧ ∀ i m σ H, W i m σ H →
      ((Ete K a).stop i H ∧ D.nx σ H) ∨ ((Ete K a).go i H ∧ ∃ N : L2.St → Hp → Prop, (∀ σ' H', N σ' H' → ∃ m', m' < m ∧ W (i + 1) m' σ' H') ∧ ∀ x H', (Ete K a).yld i H x H' → g x σ H' fun σ2 H2 => tb { D with nx := N, ct := N, bk := D.nx } σ2 H2) := by
  refine ⟨fun i m σ H => m = xs.length - i ∧ i ≤ xs.length ∧ Pv i σ H, ⟨xs.length, by simp, Nat.zero_le _, h0⟩, ?_⟩
  rintro i m σ H ⟨rfl, hi, p⟩
  have q := hl i σ H hi p
  by_cases hlt : i < xs.length
  · refine .inr ⟨⟨xs, xs[i], q, List.getElem?_eq_getElem hlt⟩, Pv (i + 1), fun σ' H' p' => ⟨xs.length - (i + 1), by omega, rfl, hlt, p'⟩, ?_⟩
    rintro v H' ⟨T, x, rfl, nT, k⟩
    exact hs i x T σ H H' (k xs q) p nT
  · have e : i = xs.length := by omega
    subst e
    exact .inl ⟨⟨xs, q, Nat.le_refl _⟩, hd σ H p⟩
theorem for_enumL {K : PySem.W.Frag} {a : Addr} {xs : List V} {g : TG} {tb : TS} {D : Ends} {σ : L2.St} {H : Hp} (Pv : Nat → L2.St → Hp → Prop) (h0 : Pv 0 σ H) (hl : ∀ i σ H, i ≤ xs.length → Pv i σ H → SqL K H a xs)
    (hs : ∀ i x T σ H H', xs[i]? = some x → Pv i σ H → New H T (.tup [.int (i : Nat), x]) H' → g (.ref T) σ H' fun σ2 H2 => tb { D with nx := Pv (i + 1), ct := Pv (i + 1), bk := D.nx } σ2 H2) (hd : ∀ σ H, Pv xs.length σ H → D.nx σ H) :
    ∃ W : Nat → Nat → L2.St → Hp → Prop, (∃ m, W 0 m σ H) ∧ ∀ i m σ H, W i m σ H →
      ((Ite K a).stop i H ∧ D.nx σ H) ∨ ((Ite K a).go i H ∧ ∃ N : L2.St → Hp → Prop, (∀ σ' H', N σ' H' → ∃ m', m' < m ∧ W (i + 1) m' σ' H') ∧ ∀ x H', (Ite K a).yld i H x H' → g x σ H' fun σ2 H2 => tb { D with nx := N, ct := N, bk := D.nx } σ2 H2) := by
  refine ⟨fun i m σ H => m = xs.length - i ∧ i ≤ xs.length ∧ Pv i σ H, ⟨xs.length, by simp, Nat.zero_le _, h0⟩, ?_⟩
  rintro i m σ H ⟨rfl, hi, p⟩
  have q := hl i σ H hi p
  by_cases hlt : i < xs.length
  · refine .inr ⟨⟨xs, xs[i], q, List.getElem?_eq_getElem hlt⟩, Pv (i + 1), fun σ' H' p' => ⟨xs.length - (i + 1), by omega, rfl, hlt, p'⟩, ?_⟩
    rintro v H' ⟨T, x, rfl, nT, eT, k⟩
    exact hs i x T σ H H' (k xs q) p ⟨nT, eT⟩
  · have e : i = xs.length := by omega
    subst e
    exact .inl ⟨⟨xs, q, Nat.le_refl _⟩, hd σ H p⟩
/-! ### defs with defaults, all arguments given -/
def DefD (K : PySem.W.Frag) (mg : Str → Option Value) (x : Str) (st : Stmt) (ps : List Str) : Prop :=
  ∃ f fd dvs, FunD K x x (defArgs st) (defBody st) (defScope st) dvs [] f fd ∧ mg x = some (.ref f) ∧ Binds K fd ps []
section
variable {P : Program} {w : World} {K : PySem.W.Frag} {mg : Str → Option Value} {base : Heap} {x : Str} {st : Stmt} {ps N : List Str} {k : Nat} {sp : Sp}
theorem DefD.calX (D : DefD K mg x st ps) (S : FnScope N ps (defScope st)) (len : ∀ vs H Q E, sp vs H Q E → vs.length = ps.length)
    (hbody : ∀ (f : Addr) (cdv : Value) (A : Around) (outer : List Env) (s : Shared) (H : Hp) (vs : List V) (Q : VK) (E : XK), Room k (A.deeper (envOfC x (defScope st) s.heap.objs.size f cdv)) → sp vs H Q E →
      ∃ t, PSs (cxOf (L2N.CX P w) P w K mg base N x (defScope st) f cdv A outer s H E) (defBody st) t ∧ t { nx := fun _ H' => Q .non H', rt := Q } (start N vs) H) : CalX P w K mg base x (k + 1) ps sp := by
  obtain ⟨f, fd, dvs, F, g, b⟩ := D
  exact ⟨f, fd, F.ok S len fun cdv A outer s H vs Q E hr h => hbody f cdv A outer s H vs Q E hr h, g, F.kp, b⟩
end
theorem bindsD {K : PySem.W.Frag} {x qual : Str} {st : Stmt} {v : V} {f : Addr} {fd : FuncData} {ps : List Str} (F : FunD K x qual (defArgs st) (defBody st) (defScope st) [v] [] f fd)
    (h : ∀ (T : Addr) (kV doc pm : Value) (an : Option Addr) (cdv ct : Value) (us its : List Value), us.length = ps.length → its.length = 1 →
      ∃ k, bindArgs (PySem.W.fnOf x qual (defArgs st) (defBody st) (defScope st) (.ref T) kV doc pm an cdv ct) ⟨us, []⟩ = seqItems? (.ref T) >>= k ∧ k (some its.toArray) = pure (ps.zip (us ++ its.drop 1))) : Binds K fd ps [] := by
  obtain ⟨ds, hv, b⟩ := F.binds1 ps.length 1 (by simp) (by simp) (fun T kV doc pm an cdv ct us its l1 l2 => h T kV doc pm an cdv ct us its l1 l2)
  cases hv
  exact b
/-! ### methods that may raise -/
def CalM (P : Program) (w : World) (K : PySem.W.Frag) (mg : Str → Option Value) (base : Heap) (C : Addr) (m : Str) (k : Nat) (ps : List Str) (sp : Sp) : Prop :=
  ∃ f fd, FnOk P w K mg base (L2N.CX P w) k f fd ps sp ∧ PySem.W.findIn K (.ref C) m = some (some (.ref f)) ∧ PySem.W.isFn K (.ref f) = true ∧ PySem.W.keepIn K (.ref f) = true ∧ Binds K fd ps []
def CalP (P : Program) (w : World) (K : PySem.W.Frag) (mg : Str → Option Value) (base : Heap) (C : Addr) (m : Str) (k : Nat) (ps : List Str) (sp : Sp) : Prop :=
  ∃ p f fd, PropOf K C m p f ∧ FnOk P w K mg base (L2N.CX P w) k f fd ps sp ∧ Binds K fd ps []
/-- a method as it stands behind the top -/
def MDef (K : PySem.W.Frag) (C : Addr) (m qual : Str) (st : Stmt) (ps : List Str) : Prop :=
  ∃ f fd dvs, FunD K m qual (defArgs st) (defBody st) (defScope st) dvs [] f fd ∧ PySem.W.findIn K (.ref C) m = some (some (.ref f)) ∧ PySem.W.isFn K (.ref f) = true ∧ Binds K fd ps []
def PDef (K : PySem.W.Frag) (C : Addr) (m qual : Str) (st : Stmt) (ps : List Str) : Prop :=
  ∃ p f fd dvs, FunD K m qual (defArgs st) (defBody st) (defScope st) dvs [] f fd ∧ PropOf K C m p f ∧ Binds K fd ps []
theorem Fun.D {K : PySem.W.Frag} {x qual : Str} {st : Stmt} {f : Addr} {fd : FuncData} (F : Fun K x qual st f fd) : FunD K x qual (defArgs st) (defBody st) (defScope st) [] [] f fd := by
  obtain ⟨oc, od, kV, doc, pm, an, cdv, ct, osl, rfl, lk, hcd⟩ := F.ex
  exact ⟨⟨oc, od, .none, kV, doc, pm, an, cdv, ct, osl, rfl, lk, hcd, .inl ⟨rfl, rfl⟩, .inl rfl⟩, F.kp⟩
section
variable {P : Program} {w : World} {K : PySem.W.Frag} {mg : Str → Option Value} {base : Heap} {C : Addr} {m qual : Str} {st : Stmt} {ps N : List Str} {k : Nat} {sp : Sp}
theorem MDef.calM (D : MDef K C m qual st ps) (S : FnScope N ps (defScope st)) (len : ∀ vs H Q E, sp vs H Q E → vs.length = ps.length)
    (hbody : ∀ (f : Addr) (cdv : Value) (A : Around) (outer : List Env) (s : Shared) (H : Hp) (vs : List V) (Q : VK) (E : XK), Room k (A.deeper (envOfC qual (defScope st) s.heap.objs.size f cdv)) → sp vs H Q E →
      ∃ t, PSs (cxOf (L2N.CX P w) P w K mg base N qual (defScope st) f cdv A outer s H E) (defBody st) t ∧ t { nx := fun _ H' => Q .non H', rt := Q } (start N vs) H) : CalM P w K mg base C m (k + 1) ps sp := by
  obtain ⟨f, fd, dvs, F, g, isf, b⟩ := D
  exact ⟨f, fd, F.ok S len fun cdv A outer s H vs Q E hr h => hbody f cdv A outer s H vs Q E hr h, g, isf, F.kp, b⟩
theorem PDef.calP (D : PDef K C m qual st ps) (S : FnScope N ps (defScope st)) (len : ∀ vs H Q E, sp vs H Q E → vs.length = ps.length)
    (hbody : ∀ (f : Addr) (cdv : Value) (A : Around) (outer : List Env) (s : Shared) (H : Hp) (vs : List V) (Q : VK) (E : XK), Room k (A.deeper (envOfC qual (defScope st) s.heap.objs.size f cdv)) → sp vs H Q E →
      ∃ t, PSs (cxOf (L2N.CX P w) P w K mg base N qual (defScope st) f cdv A outer s H E) (defBody st) t ∧ t { nx := fun _ H' => Q .non H', rt := Q } (start N vs) H) : CalP P w K mg base C m (k + 1) ps sp := by
  obtain ⟨p, f, fd, dvs, F, hp, b⟩ := D
  exact ⟨p, f, fd, hp, F.ok S len fun cdv A outer s H vs Q E hr h => hbody f cdv A outer s H vs Q E hr h, b⟩
end
structure WCls (K : PySem.W.Frag) (mg : Str → Option Value) (x : Str) (C : Addr) : Prop where
  cl : Cls K C
  gC : mg x = some (.ref C)
  mks : PySem.W.makesIn K C = true
  kp : PySem.W.keepIn K (.ref C) = true
  ca : PySem.W.findIn K (.ref C) "__class__" = some (some (.builtin "object.__class__"))
  sg : PySem.W.specialIn K (.builtin "object.__class__") "__get__" = some (some (.builtin "getset_descriptor.__get__"))
  tk : PySem.W.takesIn K (.builtin "object.__class__") = some true
  mo : PySem.W.mroIn K C (.type "object") = some true
theorem kit_self {K : PySem.W.Frag} {C : Addr} : PySem.W.kitOne K (.ref C) (.ref C) = some true := by
  unfold PySem.W.kitOne
  split
  · rfl
  · rename_i e
    exact absurd (by simp) e
section
variable {X : Cx} {C : Addr} {m x : Str} {k : Nat} {ps : List Str} {sp : Sp} {e : Expr} {es : List Expr} {te : TE} {t : TA} {p pos : Pos}
theorem WCls.ty (c : WCls X.K X.mg x C) {H : Hp} {a dx : Addr} {fs : List (Str × V)} (h : H a = some (.ins C dx fs)) : TyX X.K H (.ref a) (.ref C) := .base (.ins h c.cl c.ca c.sg c.tk c.mo)
/-- C(e, ..) where it is known that nothing is raised -/
theorem pe_makeQ (W : WCls X.K X.mg x C) (M : CalM X.prog X.w X.K X.mg X.base C "__init__" k ps sp) (hr : Room (k + 1) X.A) (hg : Gl X x) (ha : PA X (e :: es) t) (hdb : (x == ("__debug__" : Str)) = false := by decide)
    (he : starEach (e :: es) X.env = (false, eval e X.env) :: starEach es X.env := by rfl) (hpl : (backTo pos (starEach es X.env)).any (·.1) = false := by rfl) : PE X (.Call (.Name x p) (e :: es) [] pos) (tMake C sp [] E0 t) := by
  obtain ⟨f, fd, F, hf, isf, kf, b⟩ := M
  exact pe_make ⟨W.mks, hf, isf, W.kp⟩ F hr hg W.gC b .nil nothing_out ha hdb he hpl
theorem pe_propQ (W : WCls X.K X.mg x C) (M : CalP X.prog X.w X.K X.mg X.base C m k ps sp) (hr : Room (k + 1) X.A) (he : PE X e te) (hab : attributeBase e m X.env (eval e X.env) = eval e X.env := by rfl) : PE X (.Attribute e m pos) (tProp C sp [] E0 te) := by
  obtain ⟨q, f, fd, hp, F, b⟩ := M
  exact pe_prop he W.cl hp F hr b .nil nothing_out hab
end
/-! ### {k: v}, k a tuple -/
def tDispT1 (tk tv : TE) : TE := fun σ H Q => ∀ p, H p = none → tk σ (upd H p (.dT [])) fun x H1 => tv σ H1 fun y H2 => H2 p = some (.dT []) ∧ ∃ (b : Addr) (k : List L2.Key), x = .ref b ∧ H2 b = some (.tup (k.map kV)) ∧ Q (.ref p) (upd H2 p (.dT [(k, y)]))
theorem pe_dispT1 {X : Cx} {ke ve : Expr} {tk tv : TE} {pos : Pos} (hu : X.A.units + 1 < cLine) (hk : PE X ke tk) (hv : PE X ve tv) : PE X (.Dict [some ke] [ve] pos) (tDispT1 tk tv) := by
  refine ⟨fun pins s σ H Q I q => ?_⟩
  have hn := I.hok.fresh (Nat.le_refl s.heap.objs.size)
  have I1 := I.laid (a := s.heap.objs.size) (o := .dT []) (h' := s.heap.push { cls := .type "dict", data := .dict #[] }) (t' := s.toks) (fun _ _ q => Heap.get?_push_of_some _ q) (Nat.le_refl _) (dt_empty s.heap I.big)
  refine wpAny_Dict_any rfl rfl (by simp) (by simp) (thn ((pps_cons hk hv pps_nil).run pins _ σ _ (fun ps H2 => match ps with
    | [(x, y)] => H2 s.heap.objs.size = some (.dT []) ∧ ∃ (b : Addr) (k : List L2.Key), x = .ref b ∧ H2 b = some (.tup (k.map kV)) ∧ Q (.ref s.heap.objs.size) (upd H2 s.heap.objs.size (.dT [(k, y)]))
    | _ => False) I1 (q _ hn)) fun vs s2 z => ?_)
  obtain ⟨ps, H2, I2, rel, z⟩ := z
  match ps, z, rel with
  | [(x, y)], ⟨e, b, k, ex, eb, q2⟩, .cons ⟨rx, ry⟩ .nil =>
    subst ex
    rename_i pr
    obtain ⟨u, r⟩ := pr
    cases (show u = Value.ref b from rx)
    obtain ⟨z, hd, xs, rel, dd⟩ := dt_of I2.hok e
    cases rel
    show wpAny _ _ (forIn [(Value.ref b, r)] PUnit.unit _) _ _ _
    rw [List.forIn_cons]
    refine wpAny_bind (wpAny_bind (wpAny_dictSet_heap (hsz := Nat.zero_le _) (knd := tupleKind (mixKind X.prog X.w)) (show X.A.units < cLine by omega) (key_of I2.hok eb) dd fun h' dd' hs => wpAny_pure ?_))
    dsimp only
    rw [List.forIn_nil]
    refine wpAny_pure ⟨.ref s.heap.objs.size, _, ?_, rfl, q2⟩
    obtain ⟨o, es, ep, hq, h2, h3, h4, _, h5⟩ := dd'
    have nb : b ≠ s.heap.objs.size := ne_of eb e (fun z => nomatch z)
    refine d_write I2 (by rw [e]; trivial) hs ⟨o, hq⟩ ⟨(by show 1 ≤ sizeLine; decide), hd, [(k, b, r)], .cons ⟨rfl, ?_, ry⟩ .nil, o, es, ep, hq, h2, h3, h4, h5⟩
    rw [upd_ne nb]
    exact eb
end Hd

namespace Hd
open PySem PySem.Spec PyProof.Rows L2
/-! ### rows reached, layer by layer, each with its word -/
abbrev WL := List (List Int × List Int)
def lookW (W : WL) (r : List Int) : List Int := ((W.find? fun p => decide (p.1 = r)).map (·.2)).getD []
def put1 (r wd m : List Int) (i : Int) (W : WL) : WL := if aft r m ∈ W.map (·.1) then W else W ++ [(aft r m, wd ++ [i])]
def nl1 (T : List (List Int)) (r : List Int) (W : WL) : Nat → WL
  | 0 => W
  | k + 1 => match T[k]? with
    | some m => put1 r (lookW W r) m (k : Int) (nl1 T r W k)
    | none => nl1 T r W k
def nl (T R : List (List Int)) (W : WL) : Nat → WL
  | 0 => W
  | i + 1 => match R[i]? with
    | some r => nl1 T r (nl T R W i) T.length
    | none => nl T R W i
theorem put1_ext (r wd m : List Int) (i : Int) (W : WL) : ∃ Y, put1 r wd m i W = W ++ Y := by
  unfold put1
  by_cases c : aft r m ∈ W.map (·.1)
  · rw [if_pos c]; exact ⟨[], by simp⟩
  · rw [if_neg c]; exact ⟨_, rfl⟩
theorem nl1_ext (T : List (List Int)) (r : List Int) (W : WL) : ∀ k, ∃ Y, nl1 T r W k = W ++ Y
  | 0 => ⟨[], by simp [nl1]⟩
  | k + 1 => by
    obtain ⟨Y, e⟩ := nl1_ext T r W k
    unfold nl1
    cases h : T[k]? with
    | none => exact ⟨Y, e⟩
    | some m =>
      obtain ⟨Y2, e2⟩ := put1_ext r (lookW W r) m k (nl1 T r W k)
      exact ⟨Y ++ Y2, by show put1 _ _ _ _ _ = _; rw [e2, e, List.append_assoc]⟩
theorem nl_ext (T R : List (List Int)) (W : WL) : ∀ k, ∃ Y, nl T R W k = W ++ Y
  | 0 => ⟨[], by simp [nl]⟩
  | k + 1 => by
    obtain ⟨Y, e⟩ := nl_ext T R W k
    unfold nl
    cases h : R[k]? with
    | none => exact ⟨Y, e⟩
    | some r =>
      obtain ⟨Y2, e2⟩ := nl1_ext T r (nl T R W k) T.length
      exact ⟨Y ++ Y2, by show nl1 _ _ _ _ = _; rw [e2, e, List.append_assoc]⟩
/-- the rows that are new since W -/
def fnd (W W' : WL) : List (List Int) := (W'.drop W.length).map (·.1)
theorem fnd_app (W Y : WL) : fnd W (W ++ Y) = Y.map (·.1) := by unfold fnd; rw [List.drop_left]
theorem fnd_self (W : WL) : fnd W W = [] := by unfold fnd; rw [List.drop_length]; rfl
theorem fnd_keys {W W' : WL} (h : ∃ Y, W' = W ++ Y) : W'.map (·.1) = W.map (·.1) ++ fnd W W' := by
  obtain ⟨Y, rfl⟩ := h
  rw [fnd_app, List.map_append]
theorem fnd_len {W W' : WL} (h : ∃ Y, W' = W ++ Y) : W'.length = W.length + (fnd W W').length := by
  obtain ⟨Y, rfl⟩ := h
  rw [fnd_app, List.length_append, List.length_map]
theorem put1_fnd {W W' : WL} (h : ∃ Y, W' = W ++ Y) {r wd m : List Int} {i : Int} (c : aft r m ∉ W'.map (·.1)) : fnd W (put1 r wd m i W') = fnd W W' ++ [aft r m] := by
  obtain ⟨Y, rfl⟩ := h
  unfold put1
  rw [if_neg c, List.append_assoc, fnd_app, fnd_app, List.map_append]
  rfl
/-- an invariant of single steps -/
theorem nl1_ind {T : List (List Int)} {r : List Int} {W : WL} (Pv : WL → Prop) (h0 : Pv W) (hs : ∀ (W' : WL) (m : List Int) (i : Nat), T[i]? = some m → Pv W' → Pv (put1 r (lookW W r) m i W')) : ∀ k, Pv (nl1 T r W k)
  | 0 => h0
  | k + 1 => by
    unfold nl1
    cases h : T[k]? with
    | none => exact nl1_ind Pv h0 hs k
    | some m => exact hs _ m k h (nl1_ind Pv h0 hs k)
theorem nl_ind {T R : List (List Int)} {W : WL} (Pv : WL → Prop) (h0 : Pv W) (hs : ∀ (W' : WL) (r : List Int), r ∈ R → (∃ Y, W' = W ++ Y) → Pv W' → ∀ k, Pv (nl1 T r W' k)) : ∀ k, Pv (nl T R W k)
  | 0 => h0
  | k + 1 => by
    unfold nl
    cases h : R[k]? with
    | none => exact nl_ind Pv h0 hs k
    | some r => exact hs _ r (List.mem_of_getElem? h) (nl_ext T R W k) (nl_ind Pv h0 hs k) _
theorem put1_mem {r wd m : List Int} {i : Int} {W : WL} : aft r m ∈ (put1 r wd m i W).map (·.1) := by
  unfold put1
  by_cases c : aft r m ∈ W.map (·.1)
  · rw [if_pos c]; exact c
  · rw [if_neg c, List.map_append]; exact List.mem_append_right _ (by simp)
theorem put1_nodup {r wd m : List Int} {i : Int} {W : WL} (h : (W.map (·.1)).Nodup) : ((put1 r wd m i W).map (·.1)).Nodup := by
  unfold put1
  by_cases c : aft r m ∈ W.map (·.1)
  · rw [if_pos c]; exact h
  · rw [if_neg c, List.map_append]
    refine List.nodup_append.mpr ⟨h, List.pairwise_singleton _ _, fun a ha b hb e => ?_⟩
    rw [List.mem_singleton.mp hb] at e
    rw [e] at ha
    exact c ha
theorem put1_sub {r wd m : List Int} {i : Int} {W : WL} {x : List Int} (h : x ∈ W.map (·.1)) : x ∈ (put1 r wd m i W).map (·.1) := by
  obtain ⟨Y, e⟩ := put1_ext r wd m i W
  rw [e, List.map_append]
  exact List.mem_append_left _ h
theorem nl1_sub {T : List (List Int)} {r : List Int} {W : WL} {x : List Int} (h : x ∈ W.map (·.1)) (k : Nat) : x ∈ (nl1 T r W k).map (·.1) := by
  obtain ⟨Y, e⟩ := nl1_ext T r W k
  rw [e, List.map_append]
  exact List.mem_append_left _ h
theorem nl_sub {T R : List (List Int)} {W : WL} {x : List Int} (h : x ∈ W.map (·.1)) (k : Nat) : x ∈ (nl T R W k).map (·.1) := by
  obtain ⟨Y, e⟩ := nl_ext T R W k
  rw [e, List.map_append]
  exact List.mem_append_left _ h
theorem nl1_nodup {T : List (List Int)} {r : List Int} {W : WL} (h : (W.map (·.1)).Nodup) (k : Nat) : ((nl1 T r W k).map (·.1)).Nodup := nl1_ind (fun W' => (W'.map (·.1)).Nodup) h (fun _ _ _ _ z => put1_nodup z) k
theorem nl_nodup {T R : List (List Int)} {W : WL} (h : (W.map (·.1)).Nodup) (k : Nat) : ((nl T R W k).map (·.1)).Nodup := nl_ind (fun W' => (W'.map (·.1)).Nodup) h (fun _ _ _ _ z => nl1_nodup z) k
theorem nl1_all {T : List (List Int)} {r : List Int} {W : WL} : ∀ (k i : Nat) (m : List Int), i < k → T[i]? = some m → aft r m ∈ (nl1 T r W k).map (·.1)
  | k + 1, i, m, hi, hm => by
    unfold nl1
    rcases Nat.lt_or_ge i k with z | z
    · have := nl1_all (r := r) (W := W) k i m z hm
      cases h : T[k]? with
      | none => exact this
      | some m' => exact put1_sub this
    · have : i = k := by omega
      subst this
      rw [hm]
      exact put1_mem
theorem nl_all {T R : List (List Int)} {W : WL} : ∀ (k : Nat) (r m : List Int), (∃ i, i < k ∧ R[i]? = some r) → m ∈ T → aft r m ∈ (nl T R W k).map (·.1)
  | k + 1, r, m, ⟨i, hi, hr⟩, hm => by
    unfold nl
    rcases Nat.lt_or_ge i k with z | z
    · have := nl_all (T := T) (R := R) (W := W) k r m ⟨i, z, hr⟩ hm
      cases h : R[k]? with
      | none => exact this
      | some r' => exact nl1_sub this _
    · have : i = k := by omega
      subst this
      rw [hr]
      obtain ⟨j, hj⟩ := List.getElem?_of_mem hm
      exact nl1_all _ j m (List.getElem?_eq_some_iff.mp hj).1 hj
theorem nl_from {T R : List (List Int)} {W : WL} (c : List Int → Prop) (h : ∀ x ∈ W.map (·.1), c x) (hs : ∀ r ∈ R, ∀ m ∈ T, c (aft r m)) (k : Nat) : ∀ x ∈ (nl T R W k).map (·.1), c x := by
  refine nl_ind (fun W' => ∀ x ∈ W'.map (·.1), c x) h (fun W' r hr _ z k => nl1_ind (fun W' => ∀ x ∈ W'.map (·.1), c x) z (fun W2 m i hm z2 x hx => ?_) k) k
  unfold put1 at hx
  by_cases q : aft r m ∈ W2.map (·.1)
  · rw [if_pos q] at hx
    exact z2 x hx
  · rw [if_neg q, List.map_append] at hx
    rcases List.mem_append.mp hx with y | y
    · exact z2 x y
    · rw [show x = aft r m by simpa using y]
      exact hs r hr m (List.mem_of_getElem? hm)
theorem look_mem {W : WL} {r : List Int} (h : r ∈ W.map (·.1)) : (r, lookW W r) ∈ W := by
  unfold lookW
  cases e : W.find? fun p => decide (p.1 = r) with
  | none =>
    obtain ⟨p, hp, rfl⟩ := List.mem_map.mp h
    have := List.find?_eq_none.mp e p hp
    simp at this
  | some p =>
    have h1 := List.mem_of_find?_eq_some e
    have h2 := List.find?_some e
    have h2 : p.1 = r := of_decide_eq_true h2
    rw [← h2]
    exact h1
theorem nl_words {T R : List (List Int)} {W : WL} {B : Nat} (h : ∀ p ∈ W, p.2.length ≤ B + 1) (h' : ∀ r ∈ R, r ∈ W.map (·.1)) (hb : ∀ p ∈ W, p.2.length ≤ B) (nd : (W.map (·.1)).Nodup) (k : Nat) : ∀ p ∈ nl T R W k, p.2.length ≤ B + 1 := by
  have look_ext : ∀ {Y : WL} {r : List Int}, r ∈ W.map (·.1) → lookW (W ++ Y) r = lookW W r := fun {Y r} hr => by
    unfold lookW
    rw [List.find?_append]
    cases e : W.find? fun p => decide (p.1 = r) with
    | some p => rfl
    | none =>
      obtain ⟨p, hp, rfl⟩ := List.mem_map.mp hr
      have := List.find?_eq_none.mp e p hp
      simp at this
  refine nl_ind (fun W' => ∀ p ∈ W', p.2.length ≤ B + 1) h (fun W' r hr ⟨Y, eW⟩ z k => nl1_ind (fun W' => ∀ p ∈ W', p.2.length ≤ B + 1) z (fun W2 m i hm z2 p hp => ?_) k) k
  unfold put1 at hp
  by_cases q : aft r m ∈ W2.map (·.1)
  · rw [if_pos q] at hp
    exact z2 p hp
  · rw [if_neg q] at hp
    rcases List.mem_append.mp hp with y | y
    · exact z2 p y
    · rw [List.mem_singleton.mp y, eW, look_ext (h' r hr)]
      have := hb _ (look_mem (h' r hr))
      simpa using this
theorem put1_len (r wd m : List Int) (i : Int) (W : WL) : (put1 r wd m i W).length ≤ W.length + 1 := by
  unfold put1
  by_cases c : aft r m ∈ W.map (·.1)
  · rw [if_pos c]; omega
  · rw [if_neg c, List.length_append]; exact Nat.le_refl _
theorem nl1_len (T : List (List Int)) (r : List Int) (W : WL) : ∀ k, (nl1 T r W k).length ≤ W.length + k
  | 0 => Nat.le_refl _
  | k + 1 => by
    have h := nl1_len T r W k
    unfold nl1
    cases e : T[k]? with
    | none => exact Nat.le_succ_of_le h
    | some m =>
      have := put1_len r (lookW W r) m k (nl1 T r W k)
      show (put1 _ _ _ _ _).length ≤ _
      omega
theorem nl_len (T R : List (List Int)) (W : WL) : ∀ k, (nl T R W k).length ≤ W.length + k * T.length
  | 0 => by simp [nl]
  | k + 1 => by
    have h := nl_len T R W k
    unfold nl
    rw [Nat.succ_mul]
    cases e : R[k]? with
    | none => exact Nat.le_trans h (by omega)
    | some r =>
      have := nl1_len T r (nl T R W k) T.length
      show (nl1 _ _ _ _).length ≤ _
      omega
theorem nl1_step {T : List (List Int)} {r : List Int} {W : WL} {j : Nat} {m : List Int} (h : T[j]? = some m) : nl1 T r W (j + 1) = put1 r (lookW W r) m j (nl1 T r W j) := by
  show (match T[j]? with | some m => _ | none => _) = _
  rw [h]
theorem nl_step {T R : List (List Int)} {W : WL} {i : Nat} {r : List Int} (h : R[i]? = some r) : nl T R W (i + 1) = nl1 T r (nl T R W i) T.length := by
  show (match R[i]? with | some m => _ | none => _) = _
  rw [h]
/-! ### all layers -/
def lay (T : List (List Int)) (r : List Int) : Nat → WL × List (List Int)
  | 0 => ([(r, [])], [r])
  | k + 1 => (nl T (lay T r k).2 (lay T r k).1 (lay T r k).2.length, fnd (lay T r k).1 (nl T (lay T r k).2 (lay T r k).1 (lay T r k).2.length))
structure LayOk (T : List (List Int)) (r : List Int) (W : WL) (L : List (List Int)) (k : Nat) : Prop where
  nd : (W.map (·.1)).Nodup
  rch : ∀ x ∈ W.map (·.1), Rch T r x
  base : r ∈ W.map (·.1)
  sub : ∀ x ∈ L, x ∈ W.map (·.1)
  clo : ∀ x ∈ W.map (·.1), x ∉ L → ∀ m ∈ T, aft x m ∈ W.map (·.1)
  wl : ∀ p ∈ W, p.2.length ≤ k
  kl : k ≤ W.length
  kL : L ≠ [] → k + 1 ≤ W.length
  lL : L.length ≤ W.length
theorem lay_ok (T : List (List Int)) (r : List Int) : ∀ k, (∀ j, j < k → (lay T r j).2 ≠ []) → LayOk T r (lay T r k).1 (lay T r k).2 k
  | 0, _ => ⟨by simp [lay], fun x hx => by rw [show x = r by simpa [lay] using hx]; exact .base, by simp [lay], fun x hx => hx, fun x hx hn => absurd (by simpa [lay] using hx) (by simpa [lay] using hn), fun p hp => by rw [show p = (r, []) by simpa [lay] using hp]; exact Nat.le_refl _, Nat.zero_le _, fun _ => by simp [lay], by simp [lay]⟩
  | k + 1, hj => by
    have I := lay_ok T r k fun j h => hj j (by omega)
    have ne := hj k (by omega)
    have hk := I.kL ne
    generalize hW : (lay T r k).1 = W at I hk
    generalize hL : (lay T r k).2 = L at I ne
    have ext := nl_ext T L W L.length
    have ln := fnd_len ext
    show LayOk T r (nl T (lay T r k).2 (lay T r k).1 (lay T r k).2.length) (fnd (lay T r k).1 (nl T (lay T r k).2 (lay T r k).1 (lay T r k).2.length)) (k + 1)
    rw [hW, hL]
    have keys := fnd_keys ext
    refine ⟨nl_nodup I.nd _, nl_from (Rch T r) I.rch (fun x hx m hm => .step (I.rch x (I.sub x hx)) hm) _, nl_sub I.base _, fun x hx => by rw [keys]; exact List.mem_append_right _ hx, fun x hx hn m hm => ?_, ?_, by omega, fun z => ?_, by omega⟩
    · rw [keys] at hx
      rcases List.mem_append.mp hx with y | y
      · by_cases c : x ∈ L
        · obtain ⟨i, hi⟩ := List.getElem?_of_mem c
          exact nl_all _ x m ⟨i, (List.getElem?_eq_some_iff.mp hi).1, hi⟩ hm
        · exact nl_sub (I.clo x y c m hm) _
      · exact absurd y hn
    · exact nl_words (fun p hp => Nat.le_succ_of_le (I.wl p hp)) I.sub I.wl I.nd _
    · have := List.length_pos_iff.mpr z
      omega
theorem lay_end {T : List (List Int)} {r : List Int} {W : WL} {k : Nat} (h : LayOk T r W [] k) (x : List Int) : x ∈ W.map (·.1) ↔ Rch T r x := ⟨h.rch x, fun c => rch_all h.base (fun w hw m hm => h.clo w hw (by simp) m hm) c⟩
/-! ### the dict that holds them -/
abbrev Wds (G : Hp) : List (List L2.Key × V) → WL → Prop := Paired fun p q => p.1 = keyL q.1 ∧ Da G p.2 (rowD q.2)
theorem Wds.up {G G' : Hp} (g : Same G G') {kvs : List (List L2.Key × V)} {W : WL} (h : Wds G kvs W) : Wds G' kvs W := by
  induction h with
  | nil => exact .nil
  | cons a t ih => exact .cons ⟨a.1, a.2.up g⟩ ih
theorem Wds.keys {G : Hp} {kvs : List (List L2.Key × V)} {W : WL} (h : Wds G kvs W) : kvs.map (·.1) = (W.map (·.1)).map keyL := by
  induction h with
  | nil => rfl
  | cons a t ih => rw [List.map_cons, List.map_cons, List.map_cons, a.1, ih]
theorem Wds.none {G : Hp} {kvs : List (List L2.Key × V)} {W : WL} (h : Wds G kvs W) {r : List Int} (n : r ∉ W.map (·.1)) : valV kvs (keyL r) = Option.none := by
  induction h with
  | nil => rfl
  | @cons p q ps qs a t ih =>
    rw [List.map_cons, List.mem_cons, not_or] at n
    rw [valV_neg (fun e => n.1 (keyL_inj (e.symm.trans a.1))), ih n.2]
theorem Wds.some {G : Hp} {kvs : List (List L2.Key × V)} {W : WL} (h : Wds G kvs W) {r : List Int} (n : r ∈ W.map (·.1)) : ∃ v, valV kvs (keyL r) = Option.some v ∧ Da G v (rowD (lookW W r)) := by
  induction h with
  | nil => cases n
  | @cons p q ps qs a t ih =>
    by_cases e : q.1 = r
    · refine ⟨p.2, valV_pos (by rw [a.1, e]), ?_⟩
      have : lookW (q :: qs) r = q.2 := by
        unfold lookW
        rw [List.find?_cons_of_pos (by exact decide_eq_true e)]
        rfl
      rw [this]
      exact a.2
    · rw [List.map_cons, List.mem_cons] at n
      obtain ⟨v, h1, h2⟩ := ih (n.resolve_left fun z => e z.symm)
      refine ⟨v, by rw [valV_neg (fun z => e (keyL_inj (a.1.symm.trans z))), h1], ?_⟩
      have : lookW (q :: qs) r = lookW qs r := by
        unfold lookW
        rw [List.find?_cons_of_neg (by exact fun z => e (of_decide_eq_true z))]
      rw [this]
      exact h2
theorem Wds.app {G : Hp} {kvs : List (List L2.Key × V)} {W : WL} (h : Wds G kvs W) {r wd : List Int} {v : V} (hv : Da G v (rowD wd)) : Wds G (kvs ++ [(keyL r, v)]) (W ++ [(r, wd)]) := by
  induction h with
  | nil => exact .cons ⟨rfl, hv⟩ .nil
  | cons a t ih => exact .cons a ih
theorem look_ext {W Y : WL} {r : List Int} (hr : r ∈ W.map (·.1)) : lookW (W ++ Y) r = lookW W r := by
  unfold lookW
  rw [List.find?_append]
  cases e : W.find? fun p => decide (p.1 = r) with
  | some p => rfl
  | none =>
    obtain ⟨p, hp, rfl⟩ := List.mem_map.mp hr
    have := List.find?_eq_none.mp e p hp
    simp at this
theorem Stp.putS {S : Addr} {G0 H0 G H H' : Hp} (s : Stp S G0 H0 G H) {o : HO} (g : G S = none) (t : isT o = false) (e : H' = upd H S o) : Stp S G0 H0 G H' := by
  subst e
  have gs : Same G (upd H S o) := fun b u z => by
    rw [upd_ne fun q => by rw [q, g] at z; cases z]
    exact s.gh b u z
  refine ⟨s.gg, gs, s.nw, fun b u n hb => ?_, fun b u hb => ?_⟩
  · rw [upd_ne n]
    exact s.hh b u n hb
  · by_cases c : b = S
    · rw [c, upd_same]
      exact ⟨o, rfl, fun _ => t⟩
    · rw [upd_ne c]
      exact s.al b u hb
theorem cat_row {K : PySem.W.Frag} {G H : Hp} {Q : VK} {a b : Addr} {ws : List Int} {i : Int} (g : Same G H) (ha : G a = some (.tup (ws.map V.int))) (hb : G b = some (.tup [.int i])) (hz : ws.length ≤ 100000)
    (q : ∀ (p : Addr) (G' H' : Hp), Stq G H G' H' → G' p = some (.tup ((ws ++ [i]).map V.int)) → Q (.ref p) H') : rCatA K (.ref a) (.ref b) H Q := by
  refine ⟨a, b, _, _, rfl, rfl, .of (g _ _ ha), .of (g _ _ hb), ?_, fun e => ?_, (fun _ e => by cases e), fun h1 _ p hp => ?_⟩
  · rw [List.length_map]
    show ws.length + 1 ≤ sizeLine
    exact Nat.le_trans (show _ ≤ 100001 by omega) (by decide)
  · have : ws = [] := by simpa using e
    subst this
    exact q b G H (Stq.refl g) hb
  · obtain ⟨G', s, e, _⟩ := Stq.know g (⟨hp, rfl⟩ : New H p _ _)
    refine q p G' _ s ?_
    rw [e, List.map_append]
    rfl
theorem Stp.gd {S : Addr} {G0 H0 G H : Hp} (s : Stp S G0 H0 G H) {o : HO} (g : G0 S = none) (h : H0 S = some o) (t : isT o = false := by rfl) : G S = none := s.nw S o h t g
theorem Stq.stp {S : Addr} {G H G1 H1 G2 H2 : Hp} (a : Stq G H G1 H1) (b : Stp S G1 H1 G2 H2) (f : H S = none) : Stq G H G2 H2 :=
  ⟨fun c u z => b.gg _ _ (a.gg _ _ z), b.gh, fun c o h t z => b.nw c o (a.hh c o h) t (a.nw c o h t z), fun c u z => b.hh c u (fun e => by rw [e, f] at z; cases z) (a.hh c u z)⟩
/-! ### all tuples that stand may be known -/
def fullG (G H : Hp) : Hp := fun b => match G b with
  | some o => some o
  | none => match H b with
    | some (.tup xs) => some (.tup xs)
    | _ => none
theorem full_same {G H : Hp} : Same G (fullG G H) := fun b u e => by unfold fullG; rw [e]
theorem full_up {G H : Hp} (g : Same G H) : Same (fullG G H) H := fun b u e => by
  unfold fullG at e
  cases h : G b with
  | some o =>
    rw [h] at e
    cases e
    exact g _ _ h
  | none =>
    rw [h] at e
    cases h2 : H b with
    | none => rw [h2] at e; cases e
    | some o =>
      rw [h2] at e
      cases o with
      | tup xs => exact e
      | _ => cases e
theorem full_tup {G H : Hp} (g : Same G H) {b : Addr} {xs : List V} (h : H b = some (.tup xs)) : fullG G H b = some (.tup xs) := by
  unfold fullG
  cases e : G b with
  | some o =>
    have := g _ _ e
    rw [h] at this
    exact this.symm
  | none =>
    show (match H b with | some (.tup xs) => some (HO.tup xs) | _ => none) = _
    rw [h]
theorem full_else {G H : Hp} {b : Addr} {o : HO} (h : H b = some o) (t : isT o = false) (g : G b = none) : fullG G H b = none := by
  unfold fullG
  rw [g]
  show (match H b with | some (.tup xs) => some (HO.tup xs) | _ => none) = _
  rw [h]
  cases o with
  | tup xs => cases t
  | _ => rfl
theorem Stq.full {G H G1 H1 : Hp} (s : Stq G H G1 H1) : Stq G H (fullG G1 H1) H1 :=
  ⟨s.gg.trans full_same, full_up s.gh, fun b o h t g => full_else (s.hh _ _ h) t (s.nw b o h t g), s.hh⟩
theorem Stp.full {S : Addr} {G H G1 H1 : Hp} (s : Stp S G H G1 H1) : Stp S G H (fullG G1 H1) H1 :=
  ⟨s.gg.trans full_same, full_up s.gh, fun b o h t g => by
    obtain ⟨o', h', k⟩ := s.al b o h
    exact full_else h' (k t) (s.nw b o h t g), s.hh, s.al⟩
theorem Go.full {S : Sr} {G H G1 H1 : Hp} (a : Go S G H G1 H1) : Go S G H (fullG G1 H1) H1 := ⟨a.s.full, a.w0, a.st⟩
theorem rows_full {G H : Hp} (g : Same G H) : ∀ {xs : List V} {Ls : List (List Int)}, DaAll H xs (Ls.map rowD) → DaAll (fullG G H) xs (Ls.map rowD)
  | _, [], .nil => .nil
  | _, r :: Ls, .cons h t => by
    refine .cons ?_ (rows_full g t)
    obtain ⟨a, rfl, ha⟩ := rows_ref h
    exact .tup (full_tup g ha) (DaAll.ints r)
/-! ### what is a move on n points -/
theorem mvOn_row {n : Int} {d : PyData} (h : mvOn n d = true) : ∃ m, d = rowD m ∧ IsMv m n := by
  cases d with
  | tuple ds =>
    have h : (decide (((ds.length : Nat) : Int) = n) && (ds.all (fun d => isNum d 0 (n - 1)) && decide ((intsOf ds).Perm (rngI n)))) = true := h
    rw [Bool.and_eq_true, Bool.and_eq_true] at h
    exact ⟨intsOf ds, by unfold rowD; rw [← ints_isNum h.2.1], (of_decide_eq_true h.2.2 : (intsOf ds).Perm (rngI n))⟩
  | _ => cases h
theorem mvOn_of {n : Int} {m : List Int} (h0 : 0 ≤ n) (h : IsMv m n) : mvOn n (rowD m) = true := by
  show (decide ((((m.map PyData.int).length : Nat) : Int) = n) && ((m.map PyData.int).all (fun d => isNum d 0 (n - 1)) && decide ((intsOf (m.map PyData.int)).Perm (rngI n)))) = true
  rw [Bool.and_eq_true, Bool.and_eq_true]
  refine ⟨decide_eq_true ?_, List.all_eq_true.mpr fun d hd => ?_, decide_eq_true ?_⟩
  · rw [List.length_map, h.len]
    omega
  · obtain ⟨x, hx, rfl⟩ := List.mem_map.mp hd
    have := h.mem.mp hx
    show (decide (0 ≤ x) && decide (x ≤ n - 1)) = true
    rw [decide_eq_true this.1, decide_eq_true (show x ≤ n - 1 by omega)]
    rfl
  · rw [intsOf_map]
    exact h
theorem all_rows {n : Int} : ∀ {ds : List PyData}, (∀ d ∈ ds, mvOn n d = true) → ∃ T, ds = T.map rowD ∧ AllMv n T
  | [], _ => ⟨[], rfl, fun m hm => by cases hm⟩
  | d :: ds, h => by
    obtain ⟨m, rfl, hm⟩ := mvOn_row (h d List.mem_cons_self)
    obtain ⟨T, rfl, hT⟩ := all_rows fun e he => h e (List.mem_cons_of_mem _ he)
    refine ⟨m :: T, rfl, fun x hx => ?_⟩
    rcases List.mem_cons.mp hx with rfl | hx
    · exact hm
    · exact hT x hx
theorem rowD_inj {a b : List Int} (e : rowD a = rowD b) : a = b := by
  have := congrArg intsOf (PyData.tuple.inj e)
  rwa [intsOf_map, intsOf_map] at this
theorem rows_inj {A B : List (List Int)} (e : A.map rowD = B.map rowD) : A = B := by
  induction A generalizing B with
  | nil => cases B with
    | nil => rfl
    | cons _ _ => cases e
  | cons a A ih => cases B with
    | nil => cases e
    | cons b B =>
      rw [List.map_cons, List.map_cons] at e
      injection e with e1 e2
      rw [rowD_inj e1, ih e2]
theorem num_int {d : PyData} {lo hi : Int} (h : isNum d lo hi = true) : ∃ i, d = .int i ∧ lo ≤ i ∧ i ≤ hi := by
  cases d with
  | int i =>
    have h : (decide (lo ≤ i) && decide (i ≤ hi)) = true := h
    rw [Bool.and_eq_true] at h
    exact ⟨i, rfl, of_decide_eq_true h.1, of_decide_eq_true h.2⟩
  | _ => cases h
/-! ### lists of rows compared -/
theorem ints_lay : ∀ ns : List Int, PyData.canLayAll0 (ns.map PyData.int) = true
  | [] => by simp [PyData.canLayAll0]
  | z :: zs => by simp [PyData.canLayAll0, PyData.canLay0, ints_lay zs]
theorem ints_depth : ∀ ns : List Int, PyData.depthAll (ns.map PyData.int) = 0
  | [] => by simp [PyData.depthAll]
  | z :: zs => by simp [PyData.depthAll, PyData.depth, ints_depth zs]
theorem row_lay (r : List Int) : (rowD r).canLay0 = true := by simp only [rowD, PyData.canLay0]; exact ints_lay r
theorem row_depth (r : List Int) : (rowD r).depth ≤ 1 := by simp only [rowD, PyData.depth, ints_depth]; omega
theorem rows_lay : ∀ rs : List (List Int), PyData.canLayAll0 (rs.map rowD) = true
  | [] => by simp [PyData.canLayAll0]
  | z :: zs => by simp [PyData.canLayAll0, row_lay z, rows_lay zs]
theorem rows_depth : ∀ rs : List (List Int), PyData.depthAll (rs.map rowD) ≤ 1
  | [] => by simp [PyData.depthAll]
  | z :: zs => by
    have h1 := rows_depth zs
    have h2 := row_depth z
    simp only [List.map_cons, PyData.depthAll]
    omega
theorem row_shaped (r : List Int) : SeqAt.shaped (rowD r) = true := by
  have h := row_depth r
  show ((rowD r).canLay0 && decide ((rowD r).depth ≤ 64)) = true
  rw [Bool.and_eq_true]
  exact ⟨row_lay r, decide_eq_true (by omega)⟩
theorem rows_shaped (rs : List (List Int)) : SeqAt.shaped (.list (rs.map rowD)) = true := by
  have h1 := rows_depth rs
  have h2 : PyData.depth (.list (rs.map rowD)) ≤ 64 := by
    simp only [PyData.depth]
    omega
  show (PyData.canLay0 (.list (rs.map rowD)) && decide (PyData.depth (.list (rs.map rowD)) ≤ 64)) = true
  rw [Bool.and_eq_true]
  exact ⟨by simp only [PyData.canLay0]; exact rows_lay rs, decide_eq_true h2⟩
theorem row_eqv (a b : List Int) : PyData.eqv (rowD a) (rowD b) = decide (a = b) := by
  show PyData.eqv (.tuple (a.map PyData.int)) (.tuple (b.map PyData.int)) = _
  rw [PyData.eqv, eqv_ints]
theorem rows_eqv : ∀ A B : List (List Int), PyData.eqvAll (A.map rowD) (B.map rowD) = decide (A = B)
  | [], [] => rfl
  | [], _ :: _ => rfl
  | _ :: _, [] => rfl
  | a :: A, b :: B => by
    show (PyData.eqv (rowD a) (rowD b) && PyData.eqvAll (A.map rowD) (B.map rowD)) = _
    rw [rows_eqv A B, row_eqv]
    by_cases h : a = b
    · subst h
      by_cases k : A = B
      · subst k; simp
      · simp [k]
    · simp [h]
def rEqR (K : PySem.W.Frag) : R2 := fun x y H Q => ∃ (a b : Addr) (xs ys : List V) (A B : List (List Int)), x = .ref a ∧ y = .ref b ∧ SqL K H a xs ∧ SqL K H b ys ∧ DaAll H xs (A.map rowD) ∧ DaAll H ys (B.map rowD) ∧ Q (.bl (decide (A = B))) H
theorem op_eqR {X : Cx} (hu : X.A.units + 64 < cLine) : OpR X (compareOp .Eq) (rEqR X.K) := opR_mono (op_eqD hu) fun x y H Q h => by
  obtain ⟨a, b, xs, ys, A, B, rfl, rfl, ha, hb, da, db, q⟩ := h
  refine ⟨.list (A.map rowD), .list (B.map rowD), .lst ha da.dp, .lst hb db.dp, rows_shaped A, rows_shaped B, ?_⟩
  rw [PyData.eqv, rows_eqv]
  exact q
theorem cut_to {xs : List V} {n : Nat} (h : n ≤ xs.length) : cutV xs none (some (n : Int)) = xs.take n := by
  unfold cutV
  rw [show HT.sIx xs.length xs.length (some (n : Int)) = min n xs.length from HT.sIx_nat xs.length xs.length n, HT.sIx_none, List.drop_zero, Nat.sub_zero, Nat.min_eq_left h]
theorem DaAll.rows_take {G : Hp} (i : Nat) {xs : List V} {Ls : List (List Int)} (h : DaAll G xs (Ls.map rowD)) : DaAll G (xs.take i) ((Ls.take i).map rowD) := by
  rw [List.map_take]
  exact h.take i
/-! ### needless moves -/
theorem sl_listNK {X : Cx} {K : PySem.W.Frag} (hk : X.K = K) : SlR X (rSlLN K) := hk ▸ sl_listN
/-! ### rows reached, one queue -/
structure QOk (T : List (List Int)) (r : List Int) (Qs : List (List Int)) (at_ j : Nat) : Prop where
  nd : Qs.Nodup
  rch : ∀ x ∈ Qs, Rch T r x
  base : r ∈ Qs
  done : ∀ (i : Nat) (x m : List Int), i < at_ → Qs[i]? = some x → m ∈ T → aft x m ∈ Qs
  cur : ∀ (x : List Int) (k : Nat) (m : List Int), Qs[at_]? = some x → k < j → T[k]? = some m → aft x m ∈ Qs
theorem QOk.same {T : List (List Int)} {r : List Int} {Qs : List (List Int)} {at_ j : Nat} {x m : List Int} (h : QOk T r Qs at_ j) (hx : Qs[at_]? = some x) (hm : T[j]? = some m) (c : aft x m ∈ Qs) : QOk T r Qs at_ (j + 1) :=
  ⟨h.nd, h.rch, h.base, h.done, fun y k m' hy hk hm' => by
    rcases Nat.lt_or_ge k j with z | z
    · exact h.cur y k m' hy z hm'
    · have : k = j := by omega
      subst this
      rw [hx] at hy
      rw [hm] at hm'
      cases hy
      cases hm'
      exact c⟩
theorem QOk.app {T : List (List Int)} {r : List Int} {Qs : List (List Int)} {at_ j : Nat} {x m : List Int} (h : QOk T r Qs at_ j) (hx : Qs[at_]? = some x) (hm : T[j]? = some m) (c : aft x m ∉ Qs) : QOk T r (Qs ++ [aft x m]) at_ (j + 1) := by
  have lt := (List.getElem?_eq_some_iff.mp hx).1
  have old : ∀ {i : Nat} {y : List Int}, i ≤ at_ → (Qs ++ [aft x m])[i]? = some y → Qs[i]? = some y := fun {i y} hi e => by
    rwa [List.getElem?_append_left (by omega)] at e
  refine ⟨List.nodup_append.mpr ⟨h.nd, List.pairwise_singleton _ _, fun a ha b hb e => ?_⟩, fun y hy => ?_, List.mem_append_left _ h.base, fun i y m' hi hy hm' => List.mem_append_left _ (h.done i y m' hi (old (by omega) hy) hm'), fun y k m' hy hk hm' => ?_⟩
  · rw [List.mem_singleton.mp hb] at e
    rw [e] at ha
    exact c ha
  · rcases List.mem_append.mp hy with z | z
    · exact h.rch y z
    · rw [List.mem_singleton.mp z]
      exact .step (h.rch x (List.mem_of_getElem? hx)) (List.mem_of_getElem? hm)
  · have hy := old (Nat.le_refl _) hy
    rcases Nat.lt_or_ge k j with z | z
    · exact List.mem_append_left _ (h.cur y k m' hy z hm')
    · have : k = j := by omega
      subst this
      rw [hx] at hy
      rw [hm] at hm'
      cases hy
      cases hm'
      exact List.mem_append_right _ (List.mem_singleton.mpr rfl)
theorem QOk.next {T : List (List Int)} {r : List Int} {Qs : List (List Int)} {at_ : Nat} (h : QOk T r Qs at_ T.length) : QOk T r Qs (at_ + 1) 0 :=
  ⟨h.nd, h.rch, h.base, fun i x m hi hx hm => by
    rcases Nat.lt_or_ge i at_ with z | z
    · exact h.done i x m z hx hm
    · have : i = at_ := by omega
      subst this
      obtain ⟨k, hk⟩ := List.getElem?_of_mem hm
      exact h.cur x k m hx (List.getElem?_eq_some_iff.mp hk).1 hk, fun x k m _ hk => absurd hk (Nat.not_lt_zero k)⟩
theorem QOk.end_ {T : List (List Int)} {r : List Int} {Qs : List (List Int)} {at_ j : Nat} (h : QOk T r Qs at_ j) (le : Qs.length ≤ at_) (w : List Int) : w ∈ Qs ↔ Rch T r w :=
  ⟨h.rch w, fun c => rch_all h.base (fun x hx m hm => by
    obtain ⟨i, hi⟩ := List.getElem?_of_mem hx
    exact h.done i x m (Nat.lt_of_lt_of_le (List.getElem?_eq_some_iff.mp hi).1 le) hi hm) c⟩
theorem QOk.start (T : List (List Int)) (r : List Int) : QOk T r [r] 0 0 := ⟨List.pairwise_singleton _ _, fun x hx => by rw [List.mem_singleton.mp hx]; exact .base, List.mem_singleton.mpr rfl, fun i _ _ hi => absurd hi (Nat.not_lt_zero i), fun _ k _ _ hk => absurd hk (Nat.not_lt_zero k)⟩
theorem val_some {kvs : List (List L2.Key × V)} : ∀ {Ks : List (List Int)}, kvs.map (·.1) = Ks.map keyL → ∀ r, (valV kvs (keyL r)).isSome = decide (r ∈ Ks) := by
  induction kvs with
  | nil =>
    intro Ks e r
    cases Ks with
    | nil => simp [valV_nil]
    | cons _ _ => cases e
  | cons p kvs ih =>
    intro Ks e r
    cases Ks with
    | nil => cases e
    | cons k Ks =>
      rw [List.map_cons, List.map_cons] at e
      injection e with e1 e2
      by_cases h : k = r
      · rw [valV_pos (by rw [e1, h])]
        simp [h]
      · rw [valV_neg (fun z => h (keyL_inj (e1.symm.trans z))), ih e2 r]
        have : ¬ r = k := fun z => h z.symm
        simp [this]
theorem val_none {kvs : List (List L2.Key × V)} {Ks : List (List Int)} (e : kvs.map (·.1) = Ks.map keyL) {r : List Int} (h : r ∉ Ks) : valV kvs (keyL r) = none := by
  have := val_some e r
  rw [decide_eq_false h] at this
  cases z : valV kvs (keyL r) with
  | none => rfl
  | some _ => rw [z] at this; cases this
end Hd

namespace Hd
open PySem PySem.Spec PyProof.Rows L2
/-! ### what the top leaves, by facts -/
def obsW (fa : List He.Fa) (fn : List He5.DefA) (ex : List (PySem.W.Frag → Bool)) (K : PySem.W.Frag) : He.AlD := (((fa.all fun f => f.ok K) && fn.all fun d => d.ok K) && ex.all fun e => e K, fn.map fun d => He5.fnA K (d.at_ K))
def SaysW (fa : List He.Fa) (fn : List He5.DefA) (ex : List (PySem.W.Frag → Bool)) (K : PySem.W.Frag) : Prop := obsW fa fn ex K = He5.valA fn
def kidsW (g : Addr → Option Obj) (a : Addr) : List Addr := match g a with
  | some o => He.refsO o
  | none => []
/-- what is told of: the module's names; their code and defaults; what their classes hold -/
def asW (g : Addr → Option Obj) : List Addr := mainGlobals :: (kidsW g mainGlobals).flatMap fun a => match g a with
  | some ⟨_, _, .cls cd, _⟩ => a :: cd.ns :: (kidsW g cd.ns).flatMap fun b => b :: (kidsW g b).flatMap fun c => c :: (kidsW g c).flatMap fun d => d :: kidsW g d
  | some ⟨_, _, .func _, _⟩ => a :: (kidsW g a).flatMap fun c => c :: kidsW g c
  | _ => [a]
def obsWG (fa : List He.Fa) (fn : List He5.DefA) (ex : List (PySem.W.Frag → Bool)) (g : Addr → Option Obj) : He.AlD := obsW fa fn ex (He.frG g (asW g))
def hookW (fa : List He.Fa) (fn : List He5.DefA) (ex : List (PySem.W.Frag → Bool)) : PySem.W.Hook where
  α := He.AlD
  obs := fun s => obsWG fa fn ex s.heap.get?
  val := fun _ => He5.valA fn
  says := fun _ h => ∃ K : PySem.W.Frag, K.In h ∧ SaysW fa fn ex K
  of := fun _ _ e => ⟨_, He.frG_in, e⟩
  keeps := fun _ _ _ ⟨K, hK, c⟩ k => ⟨K, PySem.W.Frag.In.keeps hK k, c⟩
theorem obsWG_eq {fa : List He.Fa} {fn : List He5.DefA} {ex : List (PySem.W.Frag → Bool)} {g : Addr → Option Obj} {s : Shared} (h : ∀ a, g a = s.heap.get? a) : obsWG fa fn ex g = (hookW fa fn ex).obs s := by
  have e : g = s.heap.get? := funext h
  rw [e] <;> rfl
section
variable {fa : List He.Fa} {fn : List He5.DefA} {ex : List (PySem.W.Frag → Bool)} {K : PySem.W.Frag}
theorem SaysW.bools (c : SaysW fa fn ex K) : ((fa.all fun f => f.ok K) = true ∧ (fn.all fun d => d.ok K) = true) ∧ (ex.all fun e => e K) = true := by
  have := congrArg (fun z : He.AlD => z.1) c
  have h : (((fa.all fun f => f.ok K) && fn.all fun d => d.ok K) && ex.all fun e => e K) = true := this
  rw [Bool.and_eq_true, Bool.and_eq_true] at h
  exact h
theorem SaysW.fact (c : SaysW fa fn ex K) (i : Nat) {f : He.Fa} (h : fa[i]? = some f := by rfl) : f.ok K = true := List.all_eq_true.mp c.bools.1.1 f (List.mem_of_getElem? h)
theorem SaysW.more (c : SaysW fa fn ex K) (i : Nat) {f : PySem.W.Frag → Bool} (h : ex[i]? = some f := by rfl) : f K = true := List.all_eq_true.mp c.bools.2 f (List.mem_of_getElem? h)
theorem SaysW.def_ (c : SaysW fa fn ex K) (i : Nat) {d : He5.DefA} (h : fn[i]? = some d := by rfl) : ∃ fd, FunD K d.name d.qual d.params d.body d.scope (d.dvs K) (d.kws K) (d.at_ K) fd := by
  have e : fn.map (fun d => He5.fnA K (d.at_ K)) = fn.map He5.DefA.val := congrArg (fun z : He.AlD => z.2) c
  have e2 : (fn.map fun d => He5.fnA K (d.at_ K))[i]? = (fn.map He5.DefA.val)[i]? := by rw [e]
  rw [List.getElem?_map, List.getElem?_map, h] at e2
  exact He5.DefA.funD (Option.some.inj e2) (List.all_eq_true.mp c.bools.1.2 d (List.mem_of_getElem? h))
end
/-- defs -/
abbrev dFn (x : Str) (st : Stmt) : He5.DefA := ⟨fun K => He.ga K x, x, x, defArgs st, defBody st, defScope st, [], []⟩
abbrev dFnD (x : Str) (st : Stmt) : He5.DefA := ⟨fun K => He.ga K x, x, x, defArgs st, defBody st, defScope st, [.adr (He.dflAt (x, none) 0)], []⟩
abbrev dMe (x m q : Str) (st : Stmt) : He5.DefA := ⟨fun K => He.ma K (He.ga K x) m, m, q, defArgs st, defBody st, defScope st, [], []⟩
abbrev dMeD (x m q : Str) (st : Stmt) : He5.DefA := ⟨fun K => He.ma K (He.ga K x) m, m, q, defArgs st, defBody st, defScope st, [.adr (He.dflAt (x, some m) 0)], []⟩
def pgA (x m : Str) (K : PySem.W.Frag) : Addr := match PySem.W.recIn K (He.ma K (He.ga K x) m) "property" with
  | some (.ref g :: _) => g
  | _ => 0
abbrev dPr (x m q : Str) (st : Stmt) : He5.DefA := ⟨pgA x m, m, q, defArgs st, defBody st, defScope st, [], []⟩
section
variable {K : PySem.W.Frag} {h : Heap} {mg : Str → Option Value} {x m q : Str} {st : Stmt} {ps : List Str}
theorem def_w (X : K.In h) (G : h.Ns mainGlobals mg) (F : ∃ fd, FunD K x x (defArgs st) (defBody st) (defScope st) [] [] (He.ga K x) fd) (g : (He.Fa.glo x).ok K = true)
    (hb : ∀ (kV doc pm : Value) (an : Option Addr) (cdv ct : Value) (us : List Value), us.length = ps.length → bindArgs (PySem.W.fnOf x x (defArgs st) (defBody st) (defScope st) .none kV doc pm an cdv ct) ⟨us, []⟩ = pure (ps.zip us)) : Def K mg x st ps := by
  obtain ⟨fd, F⟩ := F
  exact ⟨_, fd, He5.fun_of F, He.glo_ok X G g, FunD.bindsN F hb⟩
theorem defD_w {v : V} (X : K.In h) (G : h.Ns mainGlobals mg) (F : ∃ fd, FunD K x x (defArgs st) (defBody st) (defScope st) [v] [] (He.ga K x) fd) (g : (He.Fa.glo x).ok K = true)
    (hb : ∀ (T : Addr) (kV doc pm : Value) (an : Option Addr) (cdv ct : Value) (us its : List Value), us.length = ps.length → its.length = 1 →
      ∃ k, bindArgs (PySem.W.fnOf x x (defArgs st) (defBody st) (defScope st) (.ref T) kV doc pm an cdv ct) ⟨us, []⟩ = seqItems? (.ref T) >>= k ∧ k (some its.toArray) = pure (ps.zip (us ++ its.drop 1))) : DefD K mg x st ps := by
  obtain ⟨fd, F⟩ := F
  exact ⟨_, fd, _, F, He.glo_ok X G g, bindsD F hb⟩
theorem bindsM (hb : ∀ (kV doc pm : Value) (an : Option Addr) (cdv ct : Value) (us : List Value), us.length = ps.length → bindArgs (PySem.W.fnOf m q (defArgs st) (defBody st) (defScope st) .none kV doc pm an cdv ct) ⟨us, []⟩ = pure (ps.zip us)) {f : Addr} {fd : FuncData}
    (F : FunD K m q (defArgs st) (defBody st) (defScope st) [] [] f fd) : Binds K fd ps [] := FunD.bindsN F hb
theorem mdef_w (F : ∃ fd, FunD K m q (defArgs st) (defBody st) (defScope st) [] [] (He.ma K (He.ga K x) m) fd) (g : (He.Fa.meth x m).ok K = true)
    (hb : ∀ (kV doc pm : Value) (an : Option Addr) (cdv ct : Value) (us : List Value), us.length = ps.length → bindArgs (PySem.W.fnOf m q (defArgs st) (defBody st) (defScope st) .none kV doc pm an cdv ct) ⟨us, []⟩ = pure (ps.zip us)) : MDef K (He.ga K x) m q st ps := by
  obtain ⟨fd, F⟩ := F
  have M := He.meth_ok g
  exact ⟨_, fd, _, F, M.at_, M.fn, bindsM hb F⟩
theorem mdefD_w {v : V} (F : ∃ fd, FunD K m q (defArgs st) (defBody st) (defScope st) [v] [] (He.ma K (He.ga K x) m) fd) (g : (He.Fa.meth x m).ok K = true)
    (hb : ∀ (T : Addr) (kV doc pm : Value) (an : Option Addr) (cdv ct : Value) (us its : List Value), us.length = ps.length → its.length = 1 →
      ∃ k, bindArgs (PySem.W.fnOf m q (defArgs st) (defBody st) (defScope st) (.ref T) kV doc pm an cdv ct) ⟨us, []⟩ = seqItems? (.ref T) >>= k ∧ k (some its.toArray) = pure (ps.zip (us ++ its.drop 1))) : MDef K (He.ga K x) m q st ps := by
  obtain ⟨fd, F⟩ := F
  have M := He.meth_ok g
  exact ⟨_, fd, _, F, M.at_, M.fn, bindsD F hb⟩
/-- a property -/
def prB (x m : Str) (K : PySem.W.Frag) : Bool := He.eqO (PySem.W.findIn K (.ref (He.ga K x)) m) (some (some (.ref (He.ma K (He.ga K x) m)))) && (He.eqO (PySem.W.specialIn K (.ref (He.ma K (He.ga K x) m)) "__get__") (some (some (.builtin "property.__get__"))) &&
  (decide (PySem.W.takesIn K (.ref (He.ma K (He.ga K x) m)) = some true) && decide ((PySem.W.recIn K (He.ma K (He.ga K x) m) "property").bind List.head? = some (.ref (pgA x m K)))))
theorem pdef_w (F : ∃ fd, FunD K m q (defArgs st) (defBody st) (defScope st) [] [] (pgA x m K) fd) (g : prB x m K = true)
    (hb : ∀ (kV doc pm : Value) (an : Option Addr) (cdv ct : Value) (us : List Value), us.length = ps.length → bindArgs (PySem.W.fnOf m q (defArgs st) (defBody st) (defScope st) .none kV doc pm an cdv ct) ⟨us, []⟩ = pure (ps.zip us)) : PDef K (He.ga K x) m q st ps := by
  obtain ⟨fd, F⟩ := F
  obtain ⟨g1, g⟩ := He.ba g
  obtain ⟨g2, g⟩ := He.ba g
  obtain ⟨g3, g4⟩ := He.ba g
  refine ⟨He.ma K (He.ga K x) m, pgA x m K, fd, [], F, ⟨He.eqO_ok g1, He.eqO_ok g2, of_decide_eq_true g3, ?_⟩, bindsM hb F⟩
  have g4 := of_decide_eq_true g4
  cases e : PySem.W.recIn K (He.ma K (He.ga K x) m) "property" with
  | none => rw [e] at g4; cases g4
  | some l =>
    rw [e] at g4
    cases l with
    | nil => cases g4
    | cons a r =>
      have : a = .ref (pgA x m K) := Option.some.inj g4
      exact ⟨r, by rw [this]⟩
/-- an own class -/
def wcB (x : Str) (K : PySem.W.Frag) : Bool := (He.Fa.cls x).ok K && (PySem.W.makesIn K (He.ga K x) && (PySem.W.keepIn K (.ref (He.ga K x)) && (He.eqO (PySem.W.findIn K (.ref (He.ga K x)) "__class__") (some (some (.builtin "object.__class__"))) &&
  (He.eqO (PySem.W.specialIn K (.builtin "object.__class__") "__get__") (some (some (.builtin "getset_descriptor.__get__"))) && (decide (PySem.W.takesIn K (.builtin "object.__class__") = some true) && decide (PySem.W.mroIn K (He.ga K x) (.type "object") = some true))))))
theorem wc_w (X : K.In h) (G : h.Ns mainGlobals mg) (g : (He.Fa.glo x).ok K = true) (b : wcB x K = true) : WCls K mg x (He.ga K x) := by
  obtain ⟨b1, b⟩ := He.ba b
  obtain ⟨b2, b⟩ := He.ba b
  obtain ⟨b3, b⟩ := He.ba b
  obtain ⟨b4, b⟩ := He.ba b
  obtain ⟨b5, b⟩ := He.ba b
  obtain ⟨b6, b7⟩ := He.ba b
  exact ⟨He.cls_ok b1, He.glo_ok X G g, b2, b3, He.eqO_ok b4, He.eqO_ok b5, of_decide_eq_true b6, of_decide_eq_true b7⟩
/-- an own exception class -/
def exShape (C : Addr) (K : PySem.W.Frag) : Bool := match K.lookup C with
  | some ⟨.type "type", _, .cls cd, sl⟩ => (match cd.mro, sl.toList with
    | .ref C' :: bm, [_, _, _, _, some (.builtin n), _] => C' == C && n == "ValueError.__new__" && !cd.hasDel && cd.hasDict && PySem.HandSPX.refsVE bm
    | _, _ => false)
  | _ => false
theorem exShape_ok {C : Addr} (g : exShape C K = true) : ∃ nm q N bs bm sn sub ab col dd k0 k1 k2 k3 k5, K.lookup C = some (excClassObj nm q C N bs bm true sn sub ab col dd k0 k1 k2 k3 k5 "ValueError.__new__") ∧ PySem.HandSPX.refsVE bm = true := by
  unfold exShape at g
  split at g
  · rename_i dd cd sl ho
    split at g
    · rename_i C' bm k0 k1 k2 k3 n k5 hm hs
      simp only [Bool.and_eq_true, beq_iff_eq, Bool.not_eq_true'] at g
      obtain ⟨⟨⟨⟨rfl, rfl⟩, hdel⟩, hdc⟩, ht⟩ := g
      obtain ⟨nm, bs, mro, ns, qn, hd, sn, sub, ab, col, del⟩ := cd
      dsimp only at hm hdel hdc
      subst hm hdel hdc
      have hsl : sl = #[k0, k1, k2, k3, some (.builtin "ValueError.__new__"), k5] := by
        obtain ⟨l⟩ := sl
        simp only at hs
        rw [hs]
      subst hsl
      exact ⟨nm, qn, ns, bs, bm, sn, sub, ab, col, dd, k0, k1, k2, k3, k5, ho, ht⟩
    · cases g
  · cases g
def ecB (x : Str) (K : PySem.W.Frag) : Bool := exShape (He.ga K x) K && (He.eqO (PySem.W.findIn K (.ref (He.ga K x)) "__setattr__") (some (some (.builtin "object.__setattr__"))) && (decide (PySem.W.subIn K (.ref (He.ga K x)) (.type "BaseException") = some true) &&
  (decide (PySem.W.typeIn K (.ref (He.ga K x)) = some (.type "type")) && (PySem.W.keepIn K (.ref (He.ga K x)) && (xfB K (He.ga K x) && (He.eqO (PySem.W.findIn K (.ref (He.ga K x)) "__class__") (some (some (.builtin "object.__class__"))) &&
  (He.eqO (PySem.W.specialIn K (.builtin "object.__class__") "__get__") (some (some (.builtin "getset_descriptor.__get__"))) && (decide (PySem.W.takesIn K (.builtin "object.__class__") = some true) && (decide (PySem.W.mroIn K (He.ga K x) (.type "object") = some true) && PySem.W.isClsIn K (He.ga K x))))))))))
theorem ec_w (X : K.In h) (G : h.Ns mainGlobals mg) (g : (He.Fa.glo x).ok K = true) (b : ecB x K = true) : Ec K mg x (He.ga K x) := by
  obtain ⟨b1, b⟩ := He.ba b
  obtain ⟨b2, b⟩ := He.ba b
  obtain ⟨b3, b⟩ := He.ba b
  obtain ⟨b4, b⟩ := He.ba b
  obtain ⟨b5, b⟩ := He.ba b
  obtain ⟨b6, b⟩ := He.ba b
  obtain ⟨b7, b⟩ := He.ba b
  obtain ⟨b8, b⟩ := He.ba b
  obtain ⟨b9, b⟩ := He.ba b
  obtain ⟨b10, b11⟩ := He.ba b
  exact { gC := He.glo_ok X G g, ox := ⟨exShape_ok b1, He.eqO_ok b2, of_decide_eq_true b3, of_decide_eq_true b4, b5⟩, xf := xfB_ok b6, ca := He.eqO_ok b7, sg := He.eqO_ok b8, tk := of_decide_eq_true b9, mo := of_decide_eq_true b10, ic := b11 }
/-- its __init__ is found, its arguments are no names of the class -/
def xiB (x : Str) (gs : List Str) (K : PySem.W.Frag) : Bool := He.eqO (PySem.W.findIn K (.ref (He.ga K x)) "__init__") (some (some (.ref (He.ma K (He.ga K x) "__init__")))) && (decide (PySem.W.typeIn K (.ref (He.ma K (He.ga K x) "__init__")) = some (.type "function")) &&
  gs.all fun f => He.eqO (PySem.W.findIn K (.ref (He.ga K x)) f) (some none))
theorem xm_w {P : Program} {w : World} {base : Heap} {gs : List Str} (ec : Ec K mg x (He.ga K x)) (b : xiB x gs K = true) {fd : FuncData} (F : FnOk P w K mg base CX0 1 (He.ma K (He.ga K x) "__init__") fd ("self" :: gs) (spIni (He.ga K x) gs))
    (bi : Binds K fd ("self" :: gs) []) : Xm P w K mg base x (He.ga K x) gs := by
  obtain ⟨b1, b⟩ := He.ba b
  obtain ⟨b2, b3⟩ := He.ba b
  exact ⟨ec, fun f hf => He.eqO_ok (List.all_eq_true.mp b3 f hf), _, fd, He.eqO_ok b1, of_decide_eq_true b2, F, bi⟩
theorem xi_no {gs : List Str} (b : xiB x gs K = true) {f : Str} (hf : f ∈ gs) : PySem.W.findIn K (.ref (He.ga K x)) f = some none := by
  obtain ⟨b1, b⟩ := He.ba b
  obtain ⟨b2, b3⟩ := He.ba b
  exact He.eqO_ok (List.all_eq_true.mp b3 f hf)
/-- isinstance of an instance of x: the class c -/
def isB (x c : Str) (b : Bool) (K : PySem.W.Frag) : Bool := decide (PySem.W.kitOne K (.ref (He.ga K x)) (.ref (He.ga K c)) = some b)
theorem is_w {c : Str} {b : Bool} (X : K.In h) (G : h.Ns mainGlobals mg) (g : (He.Fa.glo c).ok K = true) (e : isB x c b K = true) : Isx K mg (He.ga K x) c b := ⟨_, He.glo_ok X G g, of_decide_eq_true e⟩
/-- an except clause's class takes it -/
def hnB (x c : Str) (b : Bool) (K : PySem.W.Frag) : Bool := decide (PySem.W.exmOne K (.ref (He.ga K x)) (.ref (He.ga K c)) = some b)
theorem hn_w {c : Str} {b : Bool} (X : K.In h) (G : h.Ns mainGlobals mg) (g : (He.Fa.glo c).ok K = true) (e : hnB x c b K = true) : Hnd K mg c (He.ga K x) b := ⟨_, He.glo_ok X G g, of_decide_eq_true e⟩
def ivB (x : Str) (K : PySem.W.Frag) : Bool := decide (PySem.W.kitOne K (.ref (He.ga K x)) (.type "ValueError") = some true)
end
end Hd

namespace Hd
open PySem PySem.Spec PyProof.Rows L2
/-! ### a def whose promise may speak of the size of the heap at its call -/
section
variable {P : Program} {w : World} {K : PySem.W.Frag} {mg : Str → Option Value} {base : Heap}
structure FnS (P : Program) (w : World) (K : PySem.W.Frag) (mg : Str → Option Value) (base : Heap) (k : Nat) (f : Addr) (fd : FuncData) (ps : List Str) (sp : Nat → Sp) : Prop where
  leS : ∀ n vs H Q E, sp n vs H Q E → vs.length = ps.length
  go : ∀ (A : Around) (st : List Env) (s : Shared) (H : Hp) (args : Args) (us : List Value) (vs : List V) (Q : VK) (E : XK), Room k A → Env0 P w K mg base A st s H → BindsTo s fd args (ps.zip us) → Vals vs us → sp s.heap.objs.size vs H Q E → codeAny (model P w) A (.call (.ref f) args) (CR CX0 st P w H s Q E) s
theorem funD_okS {m qual : Str} {ar : Arguments} {body : List Stmt} {sc : Scope} {dvs : List V} {kws : List (Str × V)} {f : Addr} {fd : FuncData} {N ps : List Str} {k : Nat} {sp : Nat → Sp} (F : FunD K m qual ar body sc dvs kws f fd) (S : FnScope N ps sc)
    (leS : ∀ n vs H Q E, sp n vs H Q E → vs.length = ps.length) (hb : ∀ (cdv : Value) (A : Around) (st : List Env) (s : Shared) (H : Hp) (vs : List V) (Q : VK) (E : XK), Room k (A.deeper (envOfC qual sc s.heap.objs.size f cdv)) → sp s.heap.objs.size vs H Q E →
      ∃ t, PSs (cxOf CX0 P w K mg base N qual sc f cdv A st s H E) body t ∧ t { nx := fun _ H' => Q .non H', rt := Q } (L2.start N vs) H) : FnS P w K mg base (k + 1) f fd ps sp := by
  obtain ⟨oc, od, dV, kV, doc, pm, an, cdv, ct, osl, rfl, lk, hcd, _, _⟩ := F.ex
  refine ⟨leS, fun A st s H args us vs Q E room env bd rel p => ?_⟩
  have n1 := leS _ _ _ _ _ p
  have inK : K.In s.heap := env.mod.kin.keeps (fun b o e => (env.bs b o e).1)
  have limit : s.heap.NoLimit := env.mod.nolimit.keeps (fun b o e => (env.bs b o e).1)
  have kinds : ∀ y ∈ ps.zip us, sc.names.lookup y.1 = some .local ∨ (sc.names.lookup y.1 = some .cell ∧ ((cellsFrom (s.heap.objs.size + 1) sc.names []).lookup y.1).isSome = true) := by
    rintro ⟨a, v⟩ hy
    exact (S.par a (List.of_mem_zip hy).1).imp id fun q => ⟨q, PySem.W.cellsFrom_some _ _ _ (.inl q)⟩
  refine codeAny_call_function room.depth (inK _ _ lk) rfl S.co S.gen rfl (PySem.W.codeRec_of inK hcd)
    (bd _ _ _ _ (wpAny_newFunctionEnv_cells S.kind kinds fun env' he s1 x => ?_))
  subst he
  refine ⟨limit.keeps x.toInCall.keep, codeAny_func ?_⟩
  obtain ⟨t, ht, z⟩ := hb cdv A st s H vs Q E (room.deeper _) p
  refine wpAny_mono (ht.run [] s1 (L2.start N vs) H _ (inv_start S room.hd env n1 rel x) z) (fun fl s' hs => ?_) (fun e s' hs => hs)
  cases fl with
  | ret u =>
    obtain ⟨v, σ', H', J, rv, r⟩ := hs
    exact ⟨v, H', J.os, J.bare, J.base, J.hok, rv, r⟩
  | next =>
    obtain ⟨σ', H', J, r⟩ := hs
    exact ⟨V.non, H', J.os, J.bare, J.base, J.hok, rfl, r⟩
  | brk =>
    obtain ⟨_, _, _, r⟩ := hs
    exact False.elim r
  | cont =>
    obtain ⟨_, _, _, r⟩ := hs
    exact False.elim r
def CalS (P : Program) (w : World) (K : PySem.W.Frag) (mg : Str → Option Value) (base : Heap) (C : Addr) (m : Str) (k : Nat) (ps : List Str) (sp : Nat → Sp) : Prop :=
  ∃ f fd, FnS P w K mg base k f fd ps sp ∧ PySem.W.findIn K (.ref C) m = some (some (.ref f)) ∧ PySem.W.isFn K (.ref f) = true ∧ Binds K fd ps []
theorem MDef.calS {C : Addr} {m qual : Str} {st : Stmt} {ps N : List Str} {k : Nat} {sp : Nat → Sp} (D : MDef K C m qual st ps) (S : FnScope N ps (defScope st)) (len : ∀ n vs H Q E, sp n vs H Q E → vs.length = ps.length)
    (hb : ∀ (f : Addr) (cdv : Value) (A : Around) (outer : List Env) (s : Shared) (H : Hp) (vs : List V) (Q : VK) (E : XK), Room k (A.deeper (envOfC qual (defScope st) s.heap.objs.size f cdv)) → sp s.heap.objs.size vs H Q E →
      ∃ t, PSs (cxOf CX0 P w K mg base N qual (defScope st) f cdv A outer s H E) (defBody st) t ∧ t { nx := fun _ H' => Q .non H', rt := Q } (L2.start N vs) H) : CalS P w K mg base C m (k + 1) ps sp := by
  obtain ⟨f, fd, dvs, F, g, isf, b⟩ := D
  exact ⟨f, fd, funD_okS F S len fun cdv A outer s H vs Q E hr h => hb f cdv A outer s H vs Q E hr h, g, isf, b⟩
end
/-! ### for x in o, its own __iter__ gives a list's iterator -/
section
variable {X : Cx} {C : Addr} {k : Nat} {ps : List Str}
/-- what such an __iter__ says: the field's list, a young iterator over it -/
def spIt (C : Addr) (fld : Str) (n : Nat) : Sp := fun vs H Q _ => ∃ x dx fs l xs, vs = [.ref x] ∧ H x = some (.ins C dx fs) ∧ fs.lookup fld = some (.ref l) ∧ H l = some (.lst xs) ∧ ∀ it, H it = none → n ≤ it → Q (.ref it) (upd H it (ItO l it 0))
def iWorld (K : PySem.W.Frag) (C : Addr) (fld : Str) (te : TE) : TI := fun σ H R => te σ H fun x H1 => ∃ a dx fs l xs, x = .ref a ∧ H1 a = some (.ins C dx fs) ∧ fs.lookup fld = some (.ref l) ∧ H1 l = some (.lst xs) ∧ R (Itl K l) H1
theorem itl0 {K : PySem.W.Frag} {l : Addr} : ItX.ItlF K l 0 = Itl K l := by
  unfold ItX.ItlF
  simp only [Nat.zero_add]
theorem pi_world {tg e : Expr} {te : TE} {fld : Str} (M : CalS X.prog X.w X.K X.mg X.base C "__iter__" k ps (spIt C fld)) (hr : Room k X.A) (he : PE X e te) : PI X tg e (iWorld X.K C fld te) := by
  refine ⟨fun pins s σ H R I h => ?_⟩
  refine thn (he.run pins s σ H _ I h) fun u s1 ⟨x, H1, I1, r1, a, dx, fs, l, xs, ex, ha, hf, hl, q⟩ => ?_
  subst ex
  cases r1
  obtain ⟨f, fd, F, found, isf, bd⟩ := M
  obtain ⟨mA, J, _⟩ := ins_get I1.hok ha
  obtain ⟨od, J, _⟩ := J.look
  obtain ⟨m0, hF⟩ := I1.fr
  have sp : spIt C fld s1.heap.objs.size [.ref a] H1 (fun v H2 => ∃ it, v = .ref it ∧ H1 it = none ∧ s1.heap.objs.size ≤ it ∧ H2 = upd H1 it (ItO l it 0)) E0 := ⟨a, dx, fs, l, xs, rfl, ha, hf, hl, fun it n1 n2 => ⟨it, rfl, n1, n2, rfl⟩⟩
  have len := F.leS _ _ _ _ _ sp
  refine PySem.W.owit_iter hF I1.ok.mod.kin J found isf (wpAny_call (codeAny_mono (F.go X.A X.stack s1 H1 ⟨[.ref a], []⟩ [.ref a] [.ref a] _ E0 hr I1.env0 (by
    have := bd s1 [.ref a] I1.kIn (by rw [List.append_nil]; exact len)
    rwa [List.append_nil] at this) (.cons rfl .nil) sp) fun res s' hq => ?_))
  cases res with
  | error er =>
    obtain ⟨_, _, _, _, _, _, _, _, _, _, _, _, z⟩ := hq
  | ok fl =>
    cases fl with
    | next => exact hq.elim
    | brk => exact hq.elim
    | cont => exact hq.elim
    | ret u =>
      obtain ⟨y, H', I', ry, it, rfl, n1, n2, rfl⟩ := I1.after hq
      cases ry
      have hi : upd H1 it (ItO l it 0) it = some (ItO l it 0) := upd_same
      have eo := itO_get I' hi
      have hT : s'.TypeIs (.ref it) "list_iterator" := ⟨_, eo, rfl⟩
      have st : s'.heap.IsListIter it l (0 + 0) := ⟨_, eo, rfl, rfl⟩
      unfold PySem.W.OwitIt
      refine wpAny_specialOf (name := Str.ofString "__next__") hT slot_listiter_next.lookup ?_
      have hi' := hi
      unfold ItO at hi'
      refine ⟨it, [it], _, _, _, rfl, ItX.inv_drop I' hi', ItX.turn_listF l it 0, st, fun b hb => ?_, ?_⟩
      · have e : b = it := by simpa using hb
        rw [e]
        exact ItX.inv_fp I' hi (Nat.le_trans I1.sz n2)
      · rw [itl0, ItX.dropH_upd n1]
        exact q
end
end Hd

namespace Hd
open PySem PySem.Spec PyProof.Rows L2
/-! ### t >= u -/
end Hd

namespace Hd
open PySem PySem.Spec PyProof.Rows L2
/-! ### a list, a tuple, or a tuple that is a constant of the module -/
abbrev KTup (K : PySem.W.Frag) (a : Addr) (xs : List V) : Prop := ∃ (o : Obj) (its : Array Value) (n : Nat), K.lookup a = some o ∧ o.cls = .type "tuple" ∧ o.data = .seq its n ∧ its.size ≤ sizeLine ∧ Vals xs its.toList
abbrev HasS (K : PySem.W.Frag) (H : Hp) (a : Addr) (xs : List V) : Prop := HasL H a xs ∨ KTup K a xs
theorem HasS.len {K : PySem.W.Frag} {H : Hp} {a : Addr} {xs : List V} (h : HasS K H a xs) : SqL K H a xs ∨ SqT K H a xs := h.elim (fun h => h.len) fun h => .inr (.inr h)
theorem HasS.lenV {K : PySem.W.Frag} {H : Hp} {a : Addr} {xs : List V} (h : HasS K H a xs) : LenV K (.ref a) H xs.length := h.len.imp (fun z => ⟨_, z, rfl⟩) fun z => ⟨_, z, rfl⟩
theorem HasS.up {K : PySem.W.Frag} {H H' : Hp} (g : Same H H') {a : Addr} {xs : List V} (h : HasS K H a xs) : HasS K H' a xs := h.imp (fun h => h.imp (g _ _) (g _ _)) id
end Hd

namespace Hd
open PySem PySem.Spec PyProof.Rows L2
/-! ### defs whose last parameter has an empty tuple as its default, called with and without it, and by its name -/
structure Bd (K : PySem.W.Frag) (fd : FuncData) (ps : List Str) (E : Addr) (kn : Str) : Prop where
  all : Binds K fd ps []
  dfl : Binds K fd ps [.ref E]
  kw : KBn K fd ps (ps.length - 1) [kn] (fun us ws => us ++ ws) (fun vs zs => vs ++ zs)
  emp : KTup K E []
def CalB (P : Program) (w : World) (K : PySem.W.Frag) (mg : Str → Option Value) (base : Heap) (x : Str) (k : Nat) (ps : List Str) (sp : Sp) (E : Addr) (kn : Str) : Prop :=
  ∃ f fd, FnOk P w K mg base (L2N.CX P w) k f fd ps sp ∧ mg x = some (.ref f) ∧ PySem.W.keepIn K (.ref f) = true ∧ Bd K fd ps E kn
def CalMB (P : Program) (w : World) (K : PySem.W.Frag) (mg : Str → Option Value) (base : Heap) (C : Addr) (m : Str) (k : Nat) (ps : List Str) (sp : Sp) (E : Addr) : Prop :=
  ∃ f fd, FnOk P w K mg base (L2N.CX P w) k f fd ps sp ∧ PySem.W.findIn K (.ref C) m = some (some (.ref f)) ∧ PySem.W.isFn K (.ref f) = true ∧ PySem.W.keepIn K (.ref f) = true ∧ Binds K fd ps [] ∧ Binds K fd ps [.ref E] ∧ KTup K E []
section
variable {P : Program} {w : World} {K : PySem.W.Frag} {mg : Str → Option Value} {base : Heap} {x m qual kn : Str} {st : Stmt} {ps N : List Str} {k : Nat} {sp : Sp} {C E : Addr}
theorem CalB.emp (c : CalB P w K mg base x k ps sp E kn) : KTup K E [] := by
  obtain ⟨f, fd, F, g, kp, b⟩ := c
  exact b.emp
theorem CalMB.emp (c : CalMB P w K mg base C m k ps sp E) : KTup K E [] := by
  obtain ⟨f, fd, F, g, i, kp, b, b2, e⟩ := c
  exact e
end
section
variable {X : Cx} {x kn : Str} {k : Nat} {ps : List Str} {sp : Sp} {C E : Addr} {e : Expr} {es : List Expr} {kws : List Keyword} {t tk : TA} {p pos : Pos}
end
/-! ### where they come from -/
section
variable {K : PySem.W.Frag} {h : Heap} {mg : Str → Option Value} {x m q kn : Str} {st : Stmt} {ps : List Str} {E f : Addr} {fd : FuncData}
end
section
variable {K : PySem.W.Frag} {h : Heap} {mg : Str → Option Value} {x m q kn : Str} {st : Stmt} {ps : List Str} {E : Addr}
end
end Hd

namespace Hd
open PySem PySem.Spec PyProof.Rows L2
/-! ### defs that may call repr: nothing is being shown around them -/
section
variable {P : Program} {w : World} {K : PySem.W.Frag} {mg : Str → Option Value} {base : Heap}
structure FnG (P : Program) (w : World) (K : PySem.W.Frag) (mg : Str → Option Value) (base : Heap) (k : Nat) (f : Addr) (fd : FuncData) (ps : List Str) (sp : Sp) : Prop where
  leG : ∀ vs H Q E, sp vs H Q E → vs.length = ps.length
  go : ∀ (A : Around) (st : List Env) (s : Shared) (H : Hp) (args : Args) (us : List Value) (vs : List V) (Q : VK) (E : XK), A.guards = some [] → Room k A → Env0 P w K mg base A st s H → BindsTo s fd args (ps.zip us) → Vals vs us → sp vs H Q E → codeAny (model P w) A (.call (.ref f) args) (CR CX0 st P w H s Q E) s
end
section
variable {X : Cx} {x : Str} {q pos : Pos} {e : Expr} {es : List Expr} {k : Nat} {ps : List Str} {sp : Sp} {t : TA}
end
end Hd
namespace Hd
open PySem PySem.Spec PyProof.Rows L2
/-! ### the law's own call: nothing is being shown -/
/-- H tracks the script at most -/
structure Just (K : PySem.W.Frag) (P : Program) (w : World) (H : Hp) (a : Addr) (s0 : Shared) : Prop where
  only : Only H
  ok : HOk P w H s0.heap
  at_ : ∀ b, H b ≠ none → b = a ∧ K.lookup a = none
end Hd

namespace Hd
open PySem PySem.Spec PyProof.Rows L2
/-! ### d.keys(), list(d.keys()) -/
def keysO (p d : Addr) : HO := .ext fun h => PySem.W.KdlKeysView h p d
theorem keysO_ok {P : Program} {w : World} {H : Hp} {h : Heap} {p d : Addr} (e : h.get? p = some { cls := .type "dict_keys", data := .fields #[.ref d] }) : ObjOk P w H h p (keysO p d) := by
  refine ⟨⟨_, e, rfl, rfl⟩, ⟨_, e⟩, fun h1 h2 x k => ?_⟩
  obtain ⟨o, ho, r⟩ := x
  exact ⟨o, k o ho, r⟩
section
variable {X : Cx}
theorem mt_keys : MtR X "dict.keys" (fun x xs H Q => ∃ (a : Addr) (kvs : List (L2.Key × V)), x = .ref a ∧ xs = [] ∧ Rd H a (.dK kvs) ∧ ∀ p, H p = none → Q (.ref p) (upd H p (keysO p a))) := by
  intro pins s σ H x xs v us Q I rx rxs h
  obtain ⟨a, kvs, rfl, rfl, ha, q⟩ := h
  cases rx
  cases rxs
  obtain ⟨z, lo, vs, rel, dd⟩ := dk_rd I.hok ha
  have hf : H s.heap.objs.size = none := I.hok.fresh (Nat.le_refl _)
  refine call_meetsIn PySem.F.slot_dict_keys dd.typeIs PySem.F.entry_dict_keys (PySem.F.args_dict_keys_1 _) (PySem.W.kdl_meets_keys (mixKind X.prog X.w) a lo) ⟨⟨vs, dd⟩, ?_⟩
  exact ⟨.ref s.heap.objs.size, upd H s.heap.objs.size (keysO s.heap.objs.size a), I.laid (t' := s.toks) (fun b u e => Heap.get?_push_of_some _ e) (Nat.le_refl _) (keysO_ok (Heap.get?_push_size _ rfl)), rfl, q _ hf⟩
theorem call_listKv (hcalm : X.calm = true) : CallR X (.type "list") (fun xs H Q => ∃ (p a : Addr) (kvs : List (L2.Key × V)), xs = [.ref p] ∧ H p = some (keysO p a) ∧ Rd H a (.dK kvs) ∧ ∀ l, H l = none → Q (.ref l) (upd H l (.lst (kvs.map fun kv => kV kv.1)))) := by
  intro pins s σ H xs us Q I r q
  obtain ⟨p, a, kvs, rfl, hp, hd, q⟩ := q
  obtain ⟨u, rfl, rx⟩ := vals1 r
  cases rx
  obtain ⟨z, lo, vs, rel, dd⟩ := dk_rd I.hok hd
  obtain ⟨ep, hat⟩ := dd.dictAt
  have ek : (kvs.map fun kv => kV kv.1) = vs.map fun q => kV q.1 := by
    have e := congrArg (List.map kV) rel.keys
    rw [List.map_map, List.map_map] at e
    exact e
  have kv : PySem.W.KdlKeysView s.heap p a := (I.hok p _ hp).1
  refine PySem.W.kdl_call (PySem.W.kdl_keys (knd := mixKind X.prog X.w) (kvs := vs) (ep := ep)) (I.ok.hd hcalm) ⟨kv, hat⟩ (by rw [← rel.length]; exact z) fun h' tk acc c' hk hD hacc => ?_
  have hv : Vals (vs.map fun q => kV q.1) acc.toList := by
    refine keys_at ?_ fun j v e => ?_
    · rw [Array.length_toList]
      exact hacc.1
    · exact hacc.2 j v (by rw [← Array.getElem?_toList]; exact e)
  refine ⟨.ref s.heap.objs.size, upd H s.heap.objs.size (.lst (kvs.map fun kv => kV kv.1)), I.laid (t' := tk) hk (Nat.le_refl _) ?_, rfl, q _ (I.hok.fresh (Nat.le_refl _))⟩
  refine ⟨by rw [List.length_map]; exact z, acc.toList, c', by rw [ek]; exact hv, by rw [Array.toArray_toList]; exact hD⟩
end
/-! ### slices -/
theorem cut_toN {xs : List V} {n : Int} (h : 0 ≤ n) : cutV xs none (some n) = xs.take n.toNat := by
  obtain ⟨k, rfl⟩ : ∃ k : Nat, n = (k : Int) := ⟨n.toNat, by omega⟩
  unfold cutV
  rw [show HT.sIx xs.length xs.length (some (k : Int)) = min k xs.length from HT.sIx_nat xs.length xs.length k, HT.sIx_none, List.drop_zero, Nat.sub_zero, Int.toNat_natCast]
  exact List.take_eq_take_iff.mpr (by omega)
theorem cut_fromN {xs : List V} {n : Int} (h : 0 ≤ n) : cutV xs (some n) none = xs.drop n.toNat := by
  obtain ⟨k, rfl⟩ : ∃ k : Nat, n = (k : Int) := ⟨n.toNat, by omega⟩
  unfold cutV
  rw [show HT.sIx xs.length 0 (some (k : Int)) = min k xs.length from HT.sIx_nat xs.length 0 k, HT.sIx_none, Int.toNat_natCast]
  rw [List.take_of_length_le (by rw [List.length_drop]; omega)]
  rcases Nat.le_total k xs.length with z | z
  · rw [Nat.min_eq_left z]
  · rw [Nat.min_eq_right z, List.drop_length, List.drop_eq_nil_of_le z]
/-! ### rows of whole numbers, alike or not -/
section
variable {X : Cx}
/-- tuple(x) of a list or a tuple -/
def rTupW (K : PySem.W.Frag) : List V → Hp → VK → Prop := fun xs H Q => ∃ (p : Addr) (ys : List V), xs = [.ref p] ∧ (SqL K H p ys ∨ SqT K H p ys) ∧ ∀ (t : Addr) (H' : Hp), Same H H' → SqT K H' t ys → Q (.ref t) H'
theorem call_tupleW : CallR X (.type "tuple") (rTupW X.K) := callR_mono call_tuple_of fun xs H Q h => by
  obtain ⟨p, ys, rfl, hp, q⟩ := h
  refine ⟨p, ys, rfl, hp.imp (fun h => ⟨h, fun l hl => ?_⟩) fun h => ⟨h, q p H (Same.refl _) h⟩⟩
  exact q l _ (New.same (o := .tup ys) ⟨hl, rfl⟩) (.of upd_same)
theorem call_tupleWK {K : PySem.W.Frag} (hk : X.K = K) : CallR X (.type "tuple") (rTupW K) := hk ▸ call_tupleW
def rEqRow (K : PySem.W.Frag) : R2 := fun x y H Q => ∃ (a b : Addr) (ns ms : List Int), x = .ref a ∧ y = .ref b ∧ SqT K H a (ns.map V.int) ∧ SqT K H b (ms.map V.int) ∧ Q (.bl (decide (ns = ms))) H
theorem eqv_row (ns ms : List Int) : PyData.eqv (.tuple (ns.map .int)) (.tuple (ms.map .int)) = decide (ns = ms) := by
  rw [PyData.eqv, eqv_ints]
theorem op_eqRow (hu : X.A.units + 64 < cLine) : OpR X (compareOp .Eq) (rEqRow X.K) := opR_mono (op_eqD hu) fun x y H Q h => by
  obtain ⟨a, b, ns, ms, rfl, rfl, ha, hb, q⟩ := h
  refine ⟨.tuple (ns.map .int), .tuple (ms.map .int), .tup ha (DpAll.ints ns), .tup hb (DpAll.ints ms), row_shaped ns, row_shaped ms, ?_⟩
  rw [eqv_row]
  exact q
theorem op_eqRowK {K : PySem.W.Frag} (hk : X.K = K) (hu : X.A.units + 64 < cLine) : OpR X (compareOp .Eq) (rEqRow K) := hk ▸ op_eqRow hu
end
end Hd

namespace Hd
open PySem PySem.Spec PyProof.Rows L2
/-! ### what may be shown -/
structure Shw (d : PyData) : Prop where
  sh : d.showable = true
  nd : d.hasDict = false
  dp : d.depth < 60
  fit : d.shown.length ≤ sizeLine
/-- an entry of what is shown -/
structure ShwE (d : PyData) : Prop where
  sh : d.showable = true
  nd : d.hasDict = false
  dp : d.depth ≤ 4
  ls : d.leavesShort 100 = true
  wt : d.weight ≤ 500
theorem ShwE.int {i : Int} (h : i.natAbs < 10 ^ 40) : ShwE (.int i) := by
  have lg : i.natAbs.log2 < 133 := by
    by_cases e : i.natAbs = 0
    · rw [e]; decide
    · rw [Nat.log2_lt e]
      exact Nat.lt_trans h (by decide +kernel)
  refine ⟨decide_eq_true (Nat.lt_trans lg (by decide)), rfl, Nat.zero_le _, decide_eq_true ?_, ?_⟩
  · have := int_text_length_le10 (k := 40) (by decide) h
    show (Str.ofString (toString i)).length ≤ 100
    rw [PySem.ofString_length]
    omega
  · show (if i == 0 then 0 else i.natAbs.log2 + 1) ≤ 500
    split <;> omega
theorem ShwE.small {i : Int} (h0 : -1000 ≤ i) (h1 : i ≤ 1000) : ShwE (.int i) := .int (Nat.lt_of_le_of_lt (show i.natAbs ≤ 1000 by omega) (by decide +kernel))
section
variable {X : Cx}
end
end Hd

namespace Hd
open PySem PySem.Spec PyProof.Rows L2
/-! ### a comprehension within a comprehension's block -/
def relab (env : Env) : Str × NameKind → Str × NameKind := fun (n, k) => if (k == .free && env.scope.kind == .function && env.kindOf n == some .cell) then (n, .cell) else (n, k)
theorem relab_fst (env : Env) (p : Str × NameKind) : (relab env p).1 = p.1 ∧ (p.2 = .cell ∨ p.2 = .free → (relab env p).2 = .cell ∨ (relab env p).2 = .free) := by
  obtain ⟨n, k⟩ := p
  show (if (k == NameKind.free && env.scope.kind == .function && env.kindOf n == some .cell) = true then (n, NameKind.cell) else (n, k)).1 = n ∧ (k = .cell ∨ k = .free → (if (k == NameKind.free && env.scope.kind == .function && env.kindOf n == some .cell) = true then (n, NameKind.cell) else (n, k)).2 = .cell ∨ (if (k == NameKind.free && env.scope.kind == .function && env.kindOf n == some .cell) = true then (n, NameKind.cell) else (n, k)).2 = .free)
  split
  · exact ⟨rfl, fun _ => .inl rfl⟩
  · exact ⟨rfl, id⟩
theorem look_relab (env : Env) : ∀ {names : List (Str × NameKind)} {x : Str}, names.lookup x = some .cell ∨ names.lookup x = some .free → (names.map (relab env)).lookup x = some .cell ∨ (names.map (relab env)).lookup x = some .free
  | [], x, h => by simp at h
  | p :: r, x, h => by
    obtain ⟨e1, e2⟩ := relab_fst env p
    rw [List.map_cons]
    cases q : relab env p with
    | mk n k =>
      rw [q] at e1 e2
      simp only at e1 e2
      subst e1
      cases hx : x == p.1 with
      | true =>
        have a : ∀ {s : List (Str × NameKind)} {j : NameKind}, List.lookup x ((p.1, j) :: s) = some j := fun {s j} => by simp [List.lookup_cons, hx]
        rw [show p :: r = (p.1, p.2) :: r from rfl, a] at h
        rw [a]
        exact (e2 (h.imp Option.some.inj Option.some.inj)).imp (congrArg some) (congrArg some)
      | false =>
        have a : ∀ {s : List (Str × NameKind)} {j : NameKind}, List.lookup x ((p.1, j) :: s) = List.lookup x s := fun {s j} => by simp [List.lookup_cons, hx]
        rw [show p :: r = (p.1, p.2) :: r from rfl, a] at h
        rw [a]
        exact look_relab env h
theorem blkOk_in {N : List Str} {scope sc0 : Scope} {own : List (Str × Nat)} {Y : Cx} {s : Shared} {H : Hp} {cl : List (Str × Addr)} {C : Addr} {fp : List Addr} (h : blkC N sc0 scope own = true) (hN : Y.N = N := by rfl) :
    BlkOk (Y.blk s H sc0 (compEnvC sc0 cl C Y.env) fp).N (Y.blk s H sc0 (compEnvC sc0 cl C Y.env) fp).env.scope scope own := by
  have b := blkOk_by h
  rw [← hN] at b
  exact ⟨b.kind, b.uniq, b.ix, fun y hy e => look_relab Y.env (b.free y hy e), b.own⟩
section
variable {X : Cx} {K : PySem.W.Frag}
end
end Hd

namespace Hd
open PySem PySem.Spec PyProof.Rows L2
section
variable {X : Cx} {p : Addr × Obj} {D d : Addr}
/-- err.n, where the class has no n of its own -/
def tErrG (K : PySem.W.Frag) (p : Addr × Obj) (D d : Addr) (n : Str) (te : TE) : TE := fun σ H Q => te σ H fun x H1 => x = .ref p.1 ∧ PySem.W.findIn K (.ref D) n = some none ∧ ∃ (fs : List (Str × V)) (v : V), ErrAt D d fs H1 p ∧ fs.lookup n = some v ∧ Q v H1
theorem pe_errG {x : Str} {e : Expr} {te : TE} {pos : Pos} {n : Str} (T : Ec X.K X.mg x D) (hp : p ∈ X.pn) (he : PE X e te) (hb : attributeBase e n X.env (eval e X.env) = eval e X.env := by rfl) :
    PE X (.Attribute e n pos) (tErrG X.K p D d n te) := by
  constructor
  intro pins s σ H Q I h
  refine attr_of hb (thn (he.run pins s σ H _ I h) ?_)
  rintro u s1 ⟨y, H1, I1, ry, rfl, hno, fs, v, at_, l, q⟩
  obtain rfl : u = Value.ref p.1 := ry
  obtain ⟨od, mA, J, hns, hr, hl⟩ := at_.inst hp I1
  obtain ⟨u, hu, ru⟩ := RelO.some_of (v := v) (o := mA n) (by rw [← l]; exact hr n)
  exact HandSPX.exc_get I1.kIn J T.xf.ga T.xf.gg T.xf.exC (PySem.W.findObj_own T.xf.hdC hno rfl (by rw [hl, hu])) (handed_of ru) ⟨v, H1, I1.tok _, ru, q⟩
end
end Hd

namespace Hd
open PySem PySem.Spec PyProof.Rows L2
/-! ### all(list) while an exception is handled -/
theorem hotAt_keep {A : Around} {x1 : Addr} {h h' : Heap} (k : HotX.HotAt A x1 h) (e : ∀ o, h.get? x1 = some o → h'.get? x1 = some o) : HotX.HotAt A x1 h' := by
  obtain ⟨a, o, vs, b, c, d⟩ := k
  exact ⟨a, o, vs, e _ b, c, d⟩
theorem walks_hot {prog : Program} {w : World} {A : Around} {x1 : Addr} (it ax : Addr) (hne : ax ≠ it) (nx : x1 ≠ it) (items : Array Value) :
    Walks prog w A it [it, ax, x1] [it] items.size (fun i v => items[i]? = some v) (fun i h => h.IsListIter it ax i ∧ h.IsList ax items ∧ HotX.HotAt A x1 h) where
  sub := fun b hb => by
    rw [List.mem_singleton.mp hb]
    exact List.mem_cons_self
  frame := fun i h h' st k => ⟨st.1.at fun o e => k it (by simp) o e, st.2.1.at fun o e => k ax (by simp) o e, hotAt_keep st.2.2 fun o e => k x1 (by simp) o e⟩
  item := fun i s Q E hi st hQ => by
    refine wpAny_pyNext_list_item st.1 st.2.1 (x := items[i]) (by simp [hi]) fun h' hit' hs' => ?_
    exact hQ _ h' s.toks (by simp [hi]) ⟨hit', st.2.1.extBut hs'.extBut hne, hotAt_keep st.2.2 fun o e => hs'.extBut x1 o nx e⟩ fun b o hb e => hs'.extBut b o (fun h => hb (by simp [h])) e
  done := fun s Q E st hQ => listEnd_hot st.2.2 nx st.1 st.2.1 (by simp) fun h' he' => hQ h' s.toks fun b o hb e => he' b o (fun h => hb (by simp [h])) e
  self := fun i s Q E st hQ => wpAny_pyIter_listiter st.1 hQ
theorem cr_allH {X : Cx} (hot : L2H.HotC X) : CallR X (.builtin "all") (rAll X.K) := by
  intro pins s σ H vs us Q I r h
  obtain ⟨a, bs, rfl, hs, q⟩ := h
  obtain ⟨its, rv, hl, _⟩ := I.list hs
  rw [Vals.ref1 r]
  have hb := rv.bls
  obtain ⟨x1, hx⟩ := hot.at I
  refine call_all_walk (iter_any hl.isList fun s2 e2 st hne => ?_)
  subst e2
  have n1 : x1 ≠ s.heap.objs.size := by
    obtain ⟨_, o, _, e, _⟩ := hx
    exact Nat.ne_of_lt (Heap.lt_size e)
  refine ⟨_, _, _, _, _, _, _, rfl, walks_hot (A := X.A.in1) (x1 := x1) _ a hne n1 its.toArray, ⟨st.1, st.2, hotAt_keep (A := X.A.in1) (h := s.heap) hx fun o e => Heap.get?_push_of_some _ e⟩, truth_bools hb, fun h' tk hk => ?_⟩
  refine ⟨.bl _, H, I.kept fun b o eo => hk b o (fun hmem => ?_) (Heap.get?_push_of_some _ eo), ?_, q⟩
  · rcases List.mem_cons.mp hmem with e1 | hmem
    · exact absurd (e1 ▸ Heap.lt_size eo) (Nat.lt_irrefl _)
    · cases hmem
  · show Value.bool _ = Value.bool _
    rw [← L2.all_range, hb, List.size_toArray, List.length_map]
end Hd

namespace Hd
open PySem PySem.Spec PyProof.Rows L2
/-! ### rows, alike and their sizes -/
theorem sz_rows {n : Int} (n12 : n ≤ 12) : ∀ {Ls : List (List Int)}, AllMv n Ls → szL (Ls.map rowD) ≤ 14 * Ls.length
  | [], _ => Nat.le_refl _
  | a :: Ls, h => by
    have h1 := sz_rows n12 fun b hb => h b (List.mem_cons_of_mem _ hb)
    have h2 := sz_ints a
    have h3 := (h a List.mem_cons_self).len
    show szD (rowD a) + szL (Ls.map rowD) ≤ _
    unfold rowD at *
    rw [List.length_cons]
    omega
end Hd

namespace Hd
open PySem PySem.Spec PyProof.Rows L2
section
variable {X : Cx}
end
end Hd

namespace Hd
open PySem PySem.Spec PyProof.Rows L2
/-! ### moves made out of others, one that is new at a time -/
end Hd

/-! Sc: set comprehensions of ints, sorted of such a set of any size. -/
namespace Hd
open PySem PySem.Spec PyProof.Rows L2
section
variable {X : Cx}
/-- {elt for tg in iter if ..}, elt an int; D the new set -/
def tSi (w : World) (wi : TI) (g : TG) (tt : TT) (te : TE) (vs : List Nat) : TE := fun σ H Q => wi σ H fun J Ha => ∀ D, Ha D = none → ∃ W : Nat → Nat → Hp → Prop,
  (∃ m, W 0 m (upd Ha D (SetO w D (fun _ => false) 0))) ∧ ∀ i m Hb, W i m Hb → (J.stop i Hb ∧ Q (.ref D) Hb) ∨
    (J.go i Hb ∧ ∃ Nx : Hp → Prop, (∀ Hz, Nx Hz → ∃ k, k < m ∧ W (i + 1) k Hz) ∧ ∀ x Hc, J.yld i Hb x Hc → g x (wipe σ vs) Hc fun σa Hd =>
      wipe σa vs = wipe σ vs ∧ tt σa Hd fun b He => if b = true then te σa He fun y Hf => rSAdd w (.ref D) [y] Hf (fun _ Hz => Nx Hz) else Nx He)
/-- a new empty set's object -/
abbrev emptyS (w : World) : Obj := { cls := .type "set", dict := none, data := .set #[] 0 (.fresh 0 0 (!w.params.followText "set-order")) }
theorem pe_sci {elt tg iter : Expr} {ifs : List Expr} {scope : Scope} {own : List (PySem.Str × Nat)} {pos : Pos} {wi : TI} {g : TG} {tt : TT} {te : TE}
    (calm : X.calm = true) (nd : X.N.Nodup) (hi : PI X tg iter wi) (ok : BlkOk X.N X.env.scope scope own)
    (hg : ∀ (s : Shared) (H : Hp) (C : Addr) (cl : List (PySem.Str × Addr)) (fp : List Addr), PG (X.blk s H scope (compEnvC scope cl C X.env) fp) tg g)
    (hte : ∀ (s : Shared) (H : Hp) (C : Addr) (cl : List (PySem.Str × Addr)) (fp : List Addr), PTs (X.blk s H scope (compEnvC scope cl C X.env) fp) ifs tt)
    (hel : ∀ (s : Shared) (H : Hp) (C : Addr) (cl : List (PySem.Str × Addr)) (fp : List Addr), PE (X.blk s H scope (compEnvC scope cl C X.env) fp) elt te)
    (fold : ∀ x, foldedSetIterable iter X.env x = pure x := by intro _; rfl) :
    PE X (.SetComp elt [⟨tg, iter, ifs, 0⟩] scope pos) (tSi X.w wi g tt te (own.map (·.2))) := by
  refine ⟨fun pins s σ H Q I want => ?_⟩
  rw [PpSet.eval_SetComp]
  have free : ∀ y ∈ scope.names, y.2 = .free → ∃ c, X.env.cells.lookup y.1 = some c := fun y hy e => (ok.free y hy e).elim (fun z => I.ok.has _ (.inl z)) fun z => I.ok.has _ (.inr z)
  refine wpAny_comprehension_free (use := none) rfl fold (closure_ok free) ok.kind (fun y hy e => by rw [ok.uniq y hy, e]) (thn (hi.run pins s σ H _ I want) fun xv sa ha => thn ha fun iv sb hb => ?_)
  obtain ⟨it, fp, tn, J, Hb, rfl, Ib, T, stb, fb, q⟩ := hb
  refine PpSet.newSet_ok (newEnv_comp ?_)
  generalize eD : sb.heap.objs.size = D
  have freeD : Hb D = none := Ib.hok.fresh (Nat.le_of_eq eD)
  obtain ⟨W, ⟨m0, w0⟩, turn⟩ := q D freeD
  generalize esc : ({ sb with heap := sb.heap.push (emptyS X.w) } : Shared) = sc
  have hsc : sc.heap = sb.heap.push (emptyS X.w) := by rw [← esc]
  have keepc : ∀ b o, sb.heap.get? b = some o → sc.heap.get? b = some o := fun b o e => by rw [hsc]; exact Heap.get?_push_of_some _ e
  have Ic : Inv X pins σ (upd Hb D (SetO X.w D (fun _ => false) 0)) sc := by
    subst esc
    refine Ib.laid (t' := sb.toks) (fun b o e => Heap.get?_push_of_some _ e) (Nat.le_of_eq eD) ?_
    subst eD
    exact setO_new (setR_fresh X.w)
  generalize eHc : upd Hb D (SetO X.w D (fun _ => false) 0) = Hc at Ic w0
  have ltb : ∀ b ∈ fp, b < sb.heap.objs.size := fun b m => (T.obj _ _ stb b m).elim fun o e => Heap.lt_size e.1
  have fc : ∀ b ∈ fp, FpOk X pins Hc b ∧ b < sc.heap.objs.size := fun b m => by
    have lt := ltb b m
    refine ⟨⟨?_, (fb b m).2⟩, by rw [hsc, Heap.size_push]; exact Nat.lt_succ_of_lt lt⟩
    rw [← eHc, upd_ne (eD ▸ Nat.ne_of_lt lt)]
    exact (fb b m).1
  have stc : tn 0 sc.heap := T.keep _ _ _ stb fun b _ o e => keepc b o e
  have Id := block_start Ic ok nd fc
  have pg := hg sc Hc sc.heap.objs.size (cellsFrom (sc.heap.objs.size + 1) scope.names (cloFrom X.env.cells scope.names [])) fp
  have pt := hte sc Hc sc.heap.objs.size (cellsFrom (sc.heap.objs.size + 1) scope.names (cloFrom X.env.cells scope.names [])) fp
  have pe := hel sc Hc sc.heap.objs.size (cellsFrom (sc.heap.objs.size + 1) scope.names (cloFrom X.env.cells scope.names [])) fp
  have fpn : ∀ b ∈ fp, Hc b = none := fun b m => (fc b m).1.1
  show codeAny _ _ (.compStart (.SetComp elt [⟨tg, iter, ifs, 0⟩] scope pos) 0 (.ref it) (.ref D) (compEnvC scope (cellsFrom (sc.heap.objs.size + 1) scope.names (cloFrom X.env.cells scope.names [])) sc.heap.objs.size X.env)) (compPost (model X.prog X.w) X.A X.xe none _ (.ref D) sc.heap.objs.size) _
  generalize ece : compEnvC scope (cellsFrom (sc.heap.objs.size + 1) scope.names (cloFrom X.env.cells scope.names [])) sc.heap.objs.size X.env = ce at Id pg pt pe ⊢
  have locs : ce.locals = sc.heap.objs.size := by subst ece; rfl
  generalize esd : ({ sc with heap := pushCells (sc.heap.push { cls := .type "dict", data := .dict #[] }) scope.names } : Shared) = sd at Id ⊢
  have std : tn 0 sd.heap := T.keep _ _ _ stc fun b _ o e => by rw [← esd]; exact pushCells_keeps _ _ _ _ (Heap.get?_push_of_some _ e)
  have fpo : ∀ {σz : L2.St} {Hz : Hp} {sz : Shared}, Inv (X.blk sc Hc scope ce fp) [] σz Hz sz → (∀ b ∈ fp, Hz b = none) → ∀ b ∈ fp, FpOk (X.blk sc Hc scope ce fp) [] Hz b := fun Iz nz b m =>
    ⟨nz b m, (Iz.ok.exf b m).1, Iz.ok.exfs b m, .inl m, fun x c e => (Iz.ok.exf b m).2 x c e, fun p hp => absurd (show p ∈ ([] : List (Addr × Obj)) ++ [] from hp) (by simp)⟩
  refine PpSet.codeAny_compStart_set ?go (T.self X.A 0 _ _ _ std ?go)
  refine PpSet.compLoopS_any (fun m sz => ∃ i Hz, Inv (X.blk sc Hc scope ce fp) [] (wipe σ (own.map (·.2))) Hz sz ∧ tn i sz.heap ∧ (∀ b ∈ fp, Hz b = none) ∧ W i m Hz) ?_ m0 ⟨0, Hc, Id, std, fpn, w0⟩
  rintro m se ⟨i, He, Ie, ste, ne, we⟩
  rcases turn i m He we with ⟨halt, done⟩ | ⟨go, Nx, hNx, step⟩
  · refine thnF (T.done (X.blk sc Hc scope ce fp) rfl rfl rfl calm i [] se _ He (fun _ _ => False) Ie (fpo Ie ne) ste halt) fun r sf ⟨er, If⟩ => ?_
    subst er
    have Ig : Inv X pins σ He sf := Ic.call' (ch := fp) If.os If.base If.hok If.bare fun b m => ⟨(fc b m).1.2.2.2.1, (fc b m).1.2.1, (fc b m).1.2.2.2.2.1, (fc b m).1.2.2.2.2.2⟩
    have gone : He sc.heap.objs.size = none := locs ▸ (If.free : He ce.locals = none)
    obtain ⟨k, hk, -⟩ := If.loc
    have hk : sf.heap.Ns ce.locals k := hk
    rw [locs] at hk
    obtain ⟨f0, f1, f2, f3, f4, f5⟩ := Ic.fpOk (Nat.le_refl _) gone
    exact ⟨k, hk, fun h2 same => ⟨.ref D, He, Ig.turned (t' := sf.toks) (fun b o hb e => (same.2 b hb).trans e) f0 f1 f3 f4 f5, rfl, done⟩⟩
  · refine thnF (T.item (X.blk sc Hc scope ce fp) rfl rfl rfl calm i [] se _ He (fun _ _ => False) Ie (fpo Ie ne) ste go) fun r sf ⟨u, er, hf⟩ => ?_
    subst er
    refine thnF hf fun _ sg ⟨x, Hg, Ig, rx, yx, stg, ng⟩ => ?_
    refine thnF (pg.run _ sg _ Hg x u _ (Ig.pinned (fpo Ig ng) (T.obj _ _ stg)) rx (step x Hg yx)) fun _ sh ⟨σh, Hh, Ih, eh, qh⟩ => ?_
    refine thnF (pt.run _ sh σh Hh _ Ih qh) fun b si ⟨Hi, Ii, qi⟩ => ?_
    have close : ∀ {sz : Shared} {Hz : Hp}, Inv (X.blk sc Hc scope ce fp) ([] ++ pinsAt fp sg.heap) σh Hz sz → Nx Hz → ∃ k, k < m ∧ ∃ i Hz, Inv (X.blk sc Hc scope ce fp) [] (wipe σ (own.map (·.2))) Hz sz ∧ tn i sz.heap ∧ (∀ b ∈ fp, Hz b = none) ∧ W i k Hz := fun {sz Hz} Iz nx => by
      obtain ⟨k, lt, wz⟩ := hNx Hz nx
      have pinned : ∀ b ∈ fp, ∀ o, sg.heap.get? b = some o → sz.heap.get? b = some o ∧ Hz b = none := fun b m o e => by
        have z := Iz.pin (b, o) (List.mem_append_right _ (List.mem_append_right _ (mem_pinsAt m e)))
        exact ⟨z.1, z.2.1⟩
      refine ⟨k, lt, i + 1, Hz, (Iz.unpinned (pins := [])).weak (by rw [← eh, wipe_length]) (fun j v e => ?_), T.keep _ _ _ stg fun b m o e => (pinned b m o e).1, fun b m => ?_, wz⟩
      · rw [← eh] at e
        exact (wipe_some e).1
      · obtain ⟨o, e, -⟩ := T.obj _ _ stg b m
        exact (pinned b m o e).2
    cases b with
    | false =>
      simp only [Bool.false_eq_true, if_false] at qi ⊢
      exact close Ii qi
    | true =>
      simp only [if_true] at qi ⊢
      refine thnF (pe.run _ si σh Hi _ Ii qi) fun z sj ⟨yv, Hj, Ij, rj, qj⟩ => ?_
      refine thnF (mt_sadd (X := X.blk sc Hc scope ce fp) _ sj σh Hj (.ref D) [yv] (.ref D) [z] _ Ij rfl (.cons rj .nil) qj) fun _ sk ⟨_, Hk, Ik, _, qk⟩ => ?_
      exact close Ik qk
end
end Hd
namespace Hd
open PySem PySem.Spec PyProof.Rows L2
section
variable {X : Cx}
/-- sorted(a set of ints), of any size -/
def rSortedSA (w : World) : List V → Hp → VK → Prop := fun vs H Q => ∃ (a : Addr) (S : Int → Bool) (n : Nat), vs = [V.ref a] ∧ H a = some (SetO w a S n) ∧ n ≤ 100000 ∧
  ∀ (ns : List Int) (p : Addr), ns.Pairwise (· < ·) → (∀ k : Int, k ∈ ns ↔ S k = true) → ns.length = n → H p = none → Q (.ref p) (upd H p (.lst (ns.map V.int)))
theorem strict_of {l : List Int} (h : l.Pairwise (· ≤ ·)) (nd : l.Nodup) : l.Pairwise (· < ·) := lt_of_le_nodup l h nd
theorem cr_sortedSA (calm : X.calm = true) : CallR X (.builtin "sorted") (rSortedSA X.w) := by
  intro pins s σ H vs us Q I r want
  obtain ⟨a, S, n, rfl, ha, small, q⟩ := want
  obtain ⟨o, es, ep, t, ho, hex, hd, good, nd, hm, hb, hf, hn, hr, hl⟩ := setO_get I ha
  rw [Vals.ref1 r]
  refine Calls.call_function_entry kind_sorted plain_sorted entry_sorted (args_sorted1 _) ?_
  unfold Builtin.«sorted»
  refine wpAny_bind (m := checkCount "sorted" 1 1 _) (wpAny_pure ?_)
  refine wpAny_bind (collect_set (A := X.A.in1) (I.ok.hd calm) ⟨o, ho, hex.1, hd⟩ hf hb hr hl fun sa out keep lz eg eo perm => ?_)
  have lout : out.length = n := by rw [perm.length_eq, List.length_map, Array.length_toList]; exact hn
  have intz : IntsAre out (out.map Builtin.Re.reRawOf) := ints_of out fun v hv => by
    obtain ⟨e, he, rfl⟩ := List.mem_map.mp (perm.mem_iff.mp hv)
    obtain ⟨k, tk, h1, -⟩ := good e he
    exact ⟨k, tk, h1⟩
  have perk : (out.map Builtin.Re.reRawOf).Perm (es.toList.map keyOf) := by
    have z := perm.map Builtin.Re.reRawOf
    rwa [List.map_map] at z
  refine wpAny_bind (wpAny_newList ?_ (by rw [lout, sizeLine_eq]; omega))
  have hob : (sa.heap.push (seqObj "list" out.toArray 0)).get? sa.heap.objs.size = some (seqObj "list" out.toArray 0) := Heap.get?_push_size _ rfl
  refine wpAny_bind (wpAny_holding (wpAny_call_entry slot_list_sort ⟨_, hob, rfl⟩ entry_list_sort (SrtO.list_sort_ord SrtO.swo_int hob (by rw [lout, sizeLine_eq]; omega) (fun two => SrtO.ints_sortable intz two) fun res h1 h2 => ⟨_, rfl, ?_⟩) (args_list_sort _)))
  obtain ⟨c1, c2, c3⟩ := SrtO.ints_out intz h1 h2
  obtain ⟨ep2, hat⟩ := sortedHeap_at (vs := out) (out := res.toArray) hob
  have pk := c2.trans perk
  have lres : (res.map SrtO.iv).length = n := by rw [pk.length_eq, List.length_map, Array.length_toList]; exact hn
  have fresh : H sa.heap.objs.size = none := I.hok.fresh lz
  have keep2 : ∀ b u, s.heap.get? b = some u → (sortedHeap (sa.heap.push (seqObj "list" out.toArray 0)) sa.heap.objs.size out res.toArray).get? b = some u := fun b u e => by
    have z := keep b u e
    have lt := Heap.lt_size z
    rw [sortedHeap_old (Nat.ne_of_lt lt) (by rw [size_push']; exact Nat.lt_succ_of_lt lt)]
    exact Heap.get?_push_of_some _ z
  have J : Inv X pins σ (upd H sa.heap.objs.size (.lst ((res.map SrtO.iv).map V.int))) { s with heap := sortedHeap (sa.heap.push (seqObj "list" out.toArray 0)) sa.heap.objs.size out res.toArray, gens := sa.gens, drawn := sa.drawn, toks := sa.toks } :=
    I.call (ch := []) (Un.laid keep2 lz fresh) (I.hok.laid keep2 lz ⟨by rw [List.length_map, lres, sizeLine_eq]; omega, res, ep2, vals_of_ints c1, hat⟩) (by rw [eg]; exact I.bare) (fun _ z => nomatch z)
  have es2 : ({ sa with heap := sortedHeap (sa.heap.push (seqObj "list" out.toArray 0)) sa.heap.objs.size out res.toArray } : Shared) = { s with heap := sortedHeap (sa.heap.push (seqObj "list" out.toArray 0)) sa.heap.objs.size out res.toArray, gens := sa.gens, drawn := sa.drawn, toks := sa.toks } := by
    cases sa
    cases s
    cases eo
    rfl
  refine wpAny_pure ⟨_, rfl, ?_⟩
  rw [es2]
  exact ⟨.ref _, _, J, rfl, q _ _ (strict_of c3 (pk.nodup_iff.mpr nd)) (fun k => by rw [pk.mem_iff, ← hm k]) lres fresh⟩
end
end Hd
namespace Hd
open PySem PySem.Spec PyProof.Rows L2
/-- over a list that the block leaves as it is -/
theorem si_list {w : World} {K : PySem.W.Frag} {a : Addr} {xs : List V} {g : TG} {tt : TT} {te : TE} {vs : List Nat} {σ : L2.St} {Ha : Hp} {D : Addr} {Z : Hp → Prop} (Pv : Nat → Hp → Prop)
    (start : Pv 0 (upd Ha D (SetO w D (fun _ => false) 0))) (held : ∀ i H, i ≤ xs.length → Pv i H → SqL K H a xs)
    (turn : ∀ i x H, xs[i]? = some x → Pv i H → g x (wipe σ vs) H fun σa Hb => wipe σa vs = wipe σ vs ∧ tt σa Hb fun b Hc =>
      if b = true then te σa Hc fun y Hd => rSAdd w (.ref D) [y] Hd (fun _ Hz => Pv (i + 1) Hz) else Pv (i + 1) Hc) (fin : ∀ H, Pv xs.length H → Z H) :
    ∃ W : Nat → Nat → Hp → Prop, (∃ m, W 0 m (upd Ha D (SetO w D (fun _ => false) 0))) ∧ ∀ i m Hb, W i m Hb → ((Itl K a).stop i Hb ∧ Z Hb) ∨
      ((Itl K a).go i Hb ∧ ∃ Nx : Hp → Prop, (∀ Hz, Nx Hz → ∃ k, k < m ∧ W (i + 1) k Hz) ∧ ∀ x Hc, (Itl K a).yld i Hb x Hc → g x (wipe σ vs) Hc fun σa Hd =>
        wipe σa vs = wipe σ vs ∧ tt σa Hd fun b He => if b = true then te σa He fun y Hf => rSAdd w (.ref D) [y] Hf (fun _ Hz => Nx Hz) else Nx He) := by
  refine ⟨fun i m H => i + m = xs.length ∧ Pv i H, ⟨xs.length, Nat.zero_add _, start⟩, fun i m H ⟨im, p⟩ => ?_⟩
  have sq := held i H (by omega) p
  cases m with
  | zero =>
    obtain rfl : i = xs.length := by omega
    exact .inl ⟨⟨xs, sq, Nat.le_refl _⟩, fin H p⟩
  | succ m =>
    have il : i < xs.length := by omega
    refine .inr ⟨⟨xs, xs[i], sq, List.getElem?_eq_getElem il⟩, Pv (i + 1), fun Hz p2 => ⟨m, Nat.lt_succ_self _, by omega, p2⟩, ?_⟩
    rintro x Hc ⟨rfl, hx⟩
    exact turn i x _ (hx xs sq) p
/-! ### the members of such a set -/
/-- the set of the ints of a list -/
def setOf (l : List Int) : Int → Bool := fun k => decide (k ∈ l)
/-- how many different ints -/
def many : List Int → Nat
  | [] => 0
  | k :: l => if k ∈ l then many l else many l + 1
theorem many_le (l : List Int) : many l ≤ l.length := by
  induction l with
  | nil => exact Nat.le_refl _
  | cons k l ih =>
    unfold many
    rw [List.length_cons]
    split <;> omega
theorem many_mono {k : Int} {l : List Int} : many (k :: l) = if k ∈ l then many l else many l + 1 := rfl
/-- one int more -/
theorem si_add {w : World} {H : Hp} {D : Addr} {l : List Int} {k : Int} {Q : VK} (hD : H D = some (SetO w D (setOf l) (many l))) (room : l.length + 1 < scanBound)
    (q : Q .non (upd H D (SetO w D (setOf (k :: l)) (many (k :: l))))) : rSAdd w (.ref D) [.int k] H Q := by
  refine ⟨D, k, _, _, rfl, rfl, hD, Nat.lt_of_le_of_lt (Nat.succ_le_succ (many_le l)) room, ?_⟩
  have e1 : (fun j => setOf l j || decide (j = k)) = setOf (k :: l) := by
    funext j
    unfold setOf
    rw [Bool.eq_iff_iff, Bool.or_eq_true, decide_eq_true_eq, decide_eq_true_eq, decide_eq_true_eq, List.mem_cons]
    exact Or.comm
  have e2 : (if setOf l k = true then many l else many l + 1) = many (k :: l) := by
    rw [many_mono]
    unfold setOf
    by_cases c : k ∈ l
    · rw [if_pos c, if_pos (decide_eq_true c)]
    · rw [if_neg c, if_neg (fun z => c (of_decide_eq_true z))]
  rw [e1, e2]
  exact q
theorem set_empty : (fun _ => false : Int → Bool) = setOf [] := by
  funext j
  exact (decide_eq_false (by simp)).symm
/-- strictly rising lists with the same members are equal -/
theorem rise_eq : ∀ {l m : List Int}, l.Pairwise (· < ·) → m.Pairwise (· < ·) → (∀ k, k ∈ l ↔ k ∈ m) → l = m
  | [], [], _, _, _ => rfl
  | [], b :: m, _, _, h => absurd ((h b).mpr List.mem_cons_self) (by simp)
  | a :: l, [], _, _, h => absurd ((h a).mp List.mem_cons_self) (by simp)
  | a :: l, b :: m, hl, hm, h => by
    obtain ⟨la, ll⟩ := List.pairwise_cons.mp hl
    obtain ⟨lb, lm⟩ := List.pairwise_cons.mp hm
    have ab : a = b := by
      rcases List.mem_cons.mp ((h a).mp List.mem_cons_self) with e | e
      · exact e
      · rcases List.mem_cons.mp ((h b).mpr List.mem_cons_self) with e2 | e2
        · exact e2.symm
        · have := lb a e
          have := la b e2
          omega
    subst ab
    rw [rise_eq ll lm fun k => ?_]
    constructor
    · intro hk
      rcases List.mem_cons.mp ((h k).mp (List.mem_cons_of_mem _ hk)) with e | e
      · have := la k hk
        omega
      · exact e
    · intro hk
      rcases List.mem_cons.mp ((h k).mpr (List.mem_cons_of_mem _ hk)) with e | e
      · have := lb k hk
        omega
      · exact e
end Hd
namespace Hd
open PySem PySem.Spec PyProof.Rows L2
theorem for_rangeB {lo : Int} {n : Nat} {g : TG} {tb : TS} {D : Ends} {σ : L2.St} {H : Hp} (Pv : Nat → L2.St → Hp → Prop) (Ex : L2.St → Hp → Prop) (h0 : Pv 0 σ H)
    (turn : (∀ σ H, Ex σ H → D.nx σ H) → ∀ i σ H, i < n → Pv i σ H → g (.int (lo + i)) σ H fun σa Ha => tb { D with nx := Pv (i + 1), ct := Pv (i + 1), bk := D.nx } σa Ha)
    (fin : ∀ σ H, Pv n σ H → Ex σ H) (cont : ∀ σ H, Ex σ H → D.nx σ H) :
    ∃ W : Nat → Nat → L2.St → Hp → Prop, (∃ m, W 0 m σ H) ∧ ∀ i m σb Hb, W i m σb Hb → ((Itr lo n).stop i Hb ∧ D.nx σb Hb) ∨
      ((Itr lo n).go i Hb ∧ ∃ N : L2.St → Hp → Prop, (∀ σz Hz, N σz Hz → ∃ k, k < m ∧ W (i + 1) k σz Hz) ∧ ∀ x Hc, (Itr lo n).yld i Hb x Hc → g x σb Hc fun σd Hd => tb { D with nx := N, ct := N, bk := D.nx } σd Hd) :=
  for_range Pv h0 (turn cont) fun σ H p => cont σ H (fin σ H p)
end Hd
namespace Hd
theorem nb_t {p : Prop} [Decidable p] (h : (!decide p) = true) : ¬ p := by simpa using h
theorem nb_f {p : Prop} [Decidable p] (h : ¬ (!decide p) = true) : p := by simpa using h
end Hd
namespace Hd
open PySem PySem.Spec PyProof.Rows L2
end Hd

/-! Kt: keys() of a dict whose keys are tuples, list of it -/
namespace Hd
open PySem PySem.Spec PyProof.Rows L2
section
variable {prog : Program} {w : World} {A : Around} {E : Value → Shared → Prop} {s : Shared} {o : Obj} {es : Array DictEntry} {ep : Nat}
end
section
variable {X : Cx}
end
end Hd
namespace Hd
end Hd

/-! Mx: C(e, ..) where the making may raise, within a try or in a def that lets it out. -/
namespace Hd
open PySem PySem.Spec PyProof.Rows L2
section
variable {X : Cx} {C : Addr} {x : Str} {k : Nat} {ps : List Str} {sp : Sp} {e : Expr} {es : List Expr} {t : TA} {p pos : Pos}
end
end Hd

namespace Hd
open PySem PySem.Spec PyProof.Rows L2
/-! ### a != b, and == with what is no instance: the first one's own __eq__ -/
section
variable {prog : Program} {w : World} {A : Around} {E : Value → Shared → Prop} {s : Shared} {K : PySem.W.Frag} {x C f L : Addr} {h₀ : Heap} {m : Str → Option Value} {ox : Obj} {od : Option Obj} {b tb : Value}
end
section
variable {X : Cx} {C : Addr} {k : Nat} {ps : List Str} {sp : Sp}
end
/-- what is asked of the class for these -/
structure Nc (K : PySem.W.Frag) (C : Addr) : Prop where
  ne : PySem.W.findIn K (.ref C) "__ne__" = some (some (.builtin "object.__ne__"))
  mo : PySem.W.mroIn K C (.type "object") = some true
  cl : (PySem.W.clsIn K C).isSome = true
  ty : PySem.W.typeIn K (.ref C) = some (.type "type")
/-! ### <= of tuples -/
end Hd

namespace Hd
open PySem PySem.Spec PyProof.Rows L2
/-! ### t[::-1] of a tuple -/
section
variable {prog : Program} {w : World} {A : Around} {E : Value → Shared → Prop} {s : Shared}
end
section
variable {X : Cx}
end
end Hd

/-! Dt: dict comprehensions whose keys are tuples. -/
namespace Hd
open PySem PySem.Spec PyProof.Rows L2
section
variable {X : Cx}
end
end Hd

/-! Wk: one rule for the loops of comprehensions, whatever is walked. -/
namespace Hd
open PySem PySem.Spec PyProof.Rows L2
/-- J walks xs where `held` -/
structure Walk (J : It) (held : Hp → Prop) (xs : List V) : Prop where
  stop : ∀ H i, held H → xs.length ≤ i → J.stop i H
  go : ∀ H i, held H → i < xs.length → J.go i H
  yld : ∀ H i x H', held H → J.yld i H x H' → H' = H ∧ xs[i]? = some x
theorem wk_list {K : PySem.W.Frag} {H : Hp} {a : Addr} {xs : List V} (h : H a = some (.lst xs)) : Walk (Itl K a) (Same H) xs :=
  ⟨fun H' i s l => ⟨xs, .of (s _ _ h), l⟩, fun H' i s l => ⟨xs, xs[i], .of (s _ _ h), List.getElem?_eq_getElem l⟩, fun H' i x H2 s ⟨e, k⟩ => ⟨e, k xs (.of (s _ _ h))⟩⟩
theorem wk_tup {K : PySem.W.Frag} {H : Hp} {a : Addr} {xs : List V} (h : H a = some (.tup xs)) : Walk (Itt K a) (Same H) xs :=
  ⟨fun H' i s l => ⟨xs, .of (s _ _ h), l⟩, fun H' i s l => ⟨xs, xs[i], .of (s _ _ h), List.getElem?_eq_getElem l⟩, fun H' i x H2 s ⟨e, k⟩ => ⟨e, k xs (.of (s _ _ h))⟩⟩
theorem or_walkS {K : PySem.W.Frag} {i : Nat} {σ : L2.St} {H0 H : Hp} {a : Addr} {xs : List V} {R : It → Hp → Prop} (e : σ[i]? = some (some (.ref a))) (h : HasL H0 a xs) (s : Same H0 H) (k : ∀ J, Walk J (Same H0) xs → R J H) : iOr (iList K (tVar i)) (iTup K (tVar i)) σ H R := by
  rcases h with h | h
  · exact .inl ⟨_, e, a, rfl, ⟨_, .of (s _ _ h)⟩, k _ (wk_list h)⟩
  · exact .inr ⟨_, e, a, rfl, ⟨_, .of (s _ _ h)⟩, k _ (wk_tup h)⟩
theorem loopW {J : It} {held : Hp → Prop} {xs : List V} (wk : Walk J held xs) {H0 : Hp} {Z : Hp → Prop} {B : (Hp → Prop) → V → Hp → Prop} (Pv : Nat → Hp → Prop) (h0 : Pv 0 H0) (hl : ∀ i H, Pv i H → held H)
    (turn : ∀ i x H, xs[i]? = some x → Pv i H → B (Pv (i + 1)) x H) (fin : ∀ H, Pv xs.length H → Z H) :
    ∃ W : Nat → Nat → Hp → Prop, (∃ m, W 0 m H0) ∧ ∀ i m H, W i m H → (J.stop i H ∧ Z H) ∨ (J.go i H ∧ ∃ Nx : Hp → Prop, (∀ H', Nx H' → ∃ m', m' < m ∧ W (i + 1) m' H') ∧ ∀ x H', J.yld i H x H' → B Nx x H') := by
  refine ⟨fun i m H => i + m = xs.length ∧ Pv i H, ⟨xs.length, Nat.zero_add _, h0⟩, fun i m H ⟨im, p⟩ => ?_⟩
  have hd := hl i H p
  cases m with
  | zero =>
    obtain rfl : i = xs.length := by omega
    exact .inl ⟨wk.stop H _ hd (Nat.le_refl _), fin H p⟩
  | succ m =>
    refine .inr ⟨wk.go H i hd (by omega), Pv (i + 1), fun H' p2 => ⟨m, Nat.lt_succ_self _, by omega, p2⟩, fun x H' y => ?_⟩
    obtain ⟨rfl, hx⟩ := wk.yld H i x H' hd y
    exact turn i x _ hx p
/-! ### >= of tuples -/
end Hd

namespace Hd
open PySem PySem.Spec PyProof.Rows L2
/-! ### sum(list of ints) while an exception is handled -/
theorem preSum_take (ns : List Int) : ∀ n, n ≤ ns.length → preSum (fun i => (ns[i]?).getD 0) n = (ns.take n).sum
  | 0, _ => by rw [List.take_zero]; rfl
  | n + 1, h => by
    have ih := preSum_take ns n (by omega)
    show preSum _ n + (ns[n]?).getD 0 = _
    rw [ih, List.take_add_one, List.getElem?_eq_getElem (by omega), List.sum_append]
    show _ + _ = _ + (ns[n] + 0)
    rw [Int.add_zero]
    rfl
theorem ints_at : ∀ {ns : List Int} {us : List Value}, Vals (ns.map V.int) us → us.length = ns.length ∧ ∀ (i : Nat) v, us[i]? = some v → ∃ t, v = .int ((ns[i]?).getD 0) t := by
  intro ns
  induction ns with
  | nil =>
    intro us r
    cases r
    exact ⟨rfl, fun i v h => by simp at h⟩
  | cons n ns ih =>
    intro us r
    cases r with
    | cons r1 r2 =>
      obtain ⟨l, k⟩ := ih r2
      obtain ⟨t, rfl⟩ := r1
      refine ⟨by rw [List.length_cons, List.length_cons, l], fun i v h => ?_⟩
      cases i with
      | zero => exact ⟨t, (Option.some.inj h).symm⟩
      | succ i => exact k i v h
theorem cr_sumH {X : Cx} (hot : L2H.HotC X) : CallR X (.builtin "sum") (rSum X.K) := by
  intro pins s σ H vs us Q I r h
  obtain ⟨a, ns, rfl, hs, q⟩ := h
  obtain ⟨its, rv, hl, _⟩ := I.list hs
  rw [Vals.ref1 r]
  obtain ⟨li, ia⟩ := ints_at rv
  obtain ⟨x1, hx⟩ := hot.at I
  refine call_sum_walkG (iter_any hl.isList fun s2 e2 st hne => ?_)
  subst e2
  have p1 : x1 < s.heap.objs.size := by
    obtain ⟨_, o, _, e, _⟩ := hx
    exact Heap.lt_size e
  have n1 : x1 ≠ s.heap.objs.size := Nat.ne_of_lt p1
  refine ⟨_, _, _, _, _, _, fun i => (ns[i]?).getD 0, rfl, walks_hot (A := X.A.in1) (x1 := x1) _ a hne n1 its.toArray, ⟨st.1, st.2, hotAt_keep (A := X.A.in1) (h := s.heap) hx fun o e => Heap.get?_push_of_some _ e⟩, ?_, ?_, fun h' tk t' hk => ?_⟩
  · have pa : a < s.heap.objs.size := by
      obtain ⟨o, eo, _⟩ := hl.isList
      exact Heap.lt_size eo
    intro b hb
    have sz : (s.heap.push { cls := Value.type "list_iterator", data := Data.fields #[Value.ref a, Value.int 0 0] }).objs.size = s.heap.objs.size + 1 := Array.size_push ..
    rw [sz]
    simp only [List.mem_cons, List.not_mem_nil, or_false] at hb
    rcases hb with rfl | rfl | rfl
    · exact Nat.lt_succ_self _
    · exact Nat.lt_succ_of_lt pa
    · exact Nat.lt_succ_of_lt p1
  · exact fun i v hv => ia i v (by rw [← hv, List.getElem?_toArray])
  refine ⟨.int _, H, I.kept fun b o eo => hk b o (fun hmem => ?_) (Heap.get?_push_of_some _ eo), ?_, q⟩
  · rcases List.mem_cons.mp hmem with e1 | hmem
    · exact absurd (e1 ▸ Heap.lt_size eo) (Nat.lt_irrefl _)
    · cases hmem
  · refine ⟨t', ?_⟩
    rw [List.size_toArray, li, preSum_take ns _ (Nat.le_refl _), List.take_length]
/-! ### defs all of whose arguments are given by their names -/
def idK (us ws : List Value) : List Value := us ++ ws
def idV (vs zs : List V) : List V := vs ++ zs
def DefK (K : PySem.W.Frag) (mg : Str → Option Value) (x : Str) (st : Stmt) (ps : List Str) : Prop :=
  ∃ f fd, Fun K x x st f fd ∧ mg x = some (.ref f) ∧ Binds K fd ps [] ∧ KBn K fd ps 0 ps idK idV
section
variable {P : Program} {w : World} {K : PySem.W.Frag} {mg : Str → Option Value} {base : Heap} {x m qual kn : Str} {st : Stmt} {ps N : List Str} {k : Nat} {sp : Sp} {C E : Addr}
theorem DefK.def_ (D : DefK K mg x st ps) : Def K mg x st ps := by
  obtain ⟨f, fd, F, g, b, -⟩ := D
  exact ⟨f, fd, F, g, b⟩
end
section
variable {X : Cx} {x : Str} {k : Nat} {ps : List Str} {sp : Sp} {kws : List Keyword} {tk : TA} {p pos : Pos}
end
end Hd

namespace Hd
open PySem PySem.Spec PyProof.Rows L2
/-! ### sets of points as bits -/
theorem and_nat (a b : Nat) : Builtin.bitAnd (a : Int) (b : Int) = ((a &&& b : Nat) : Int) := by
  unfold Builtin.bitAnd
  rfl
theorem shl_nat (p : Nat) : (1 : Int) * 2 ^ ((p : Int)).toNat = ((2 ^ p : Nat) : Int) := by
  rw [Int.one_mul, Int.toNat_natCast, Int.natCast_pow]
  rfl
def bitsN (S : List Nat) : Nat := (S.map fun p => 2 ^ p).sum
theorem bitsN_snoc (S : List Nat) (p : Nat) : bitsN (S ++ [p]) = bitsN S + 2 ^ p := by
  unfold bitsN
  rw [List.map_append, List.sum_append]
  rfl
theorem up_snoc {S : List Nat} {p : Nat} (h : (S ++ [p]).Pairwise (· < ·)) : S.Pairwise (· < ·) ∧ ∀ q ∈ S, q < p := by
  rw [List.pairwise_append] at h
  exact ⟨h.1, fun q hq => h.2.2 q hq p (List.mem_singleton.mpr rfl)⟩
theorem bitsN_lt : ∀ (k : Nat) {S : List Nat} {n : Nat}, S.length = k → S.Pairwise (· < ·) → (∀ p ∈ S, p < n) → bitsN S < 2 ^ n
  | 0, S, n, e, _, _ => by
    rw [List.eq_nil_of_length_eq_zero e]
    exact Nat.two_pow_pos n
  | k + 1, S, n, e, h, l => by
    rcases List.eq_nil_or_concat S with rfl | ⟨T, p, rfl⟩
    · exact Nat.two_pow_pos n
    rw [List.concat_eq_append] at *
    have pn := l p (List.mem_append_right _ (List.mem_singleton.mpr rfl))
    obtain ⟨hT, lT⟩ := up_snoc h
    have := bitsN_lt k (by rw [List.length_append] at e; exact Nat.succ.inj e) hT lT
    rw [bitsN_snoc]
    have q : 2 ^ (p + 1) ≤ 2 ^ n := Nat.pow_le_pow_right (by decide) pn
    rw [Nat.pow_succ] at q
    omega
theorem bitsN_test : ∀ (k : Nat) {S : List Nat} (q : Nat), S.length = k → S.Pairwise (· < ·) → (bitsN S).testBit q = decide (q ∈ S)
  | 0, S, q, e, _ => by
    rw [List.eq_nil_of_length_eq_zero e]
    show (0 : Nat).testBit q = _
    rw [Nat.zero_testBit]
    rfl
  | k + 1, S, q, e, h => by
    rcases List.eq_nil_or_concat S with rfl | ⟨T, p, rfl⟩
    · cases e
    rw [List.concat_eq_append] at *
    obtain ⟨hT, lT⟩ := up_snoc h
    have eT : T.length = k := by rw [List.length_append] at e; exact Nat.succ.inj e
    have lt := bitsN_lt k eT hT lT
    have ih := bitsN_test k (S := T) q eT hT
    have or_ := Nat.two_pow_add_eq_or_of_lt lt 1
    rw [Nat.mul_one] at or_
    rw [bitsN_snoc, Nat.add_comm, or_, Nat.testBit_or, ih, Nat.testBit_two_pow]
    by_cases c : q = p
    · subst c
      simp
    · have c' : ¬ p = q := fun z => c z.symm
      simp [c, c']
theorem bits_test {S : List Nat} (h : S.Pairwise (· < ·)) (q : Nat) : (bitsN S).testBit q = decide (q ∈ S) := bitsN_test _ q rfl h
/-- how many bits -/
def blen (b : Nat) : Nat := Builtin.Int.intBits (b : Int)
theorem blen_test {b p : Nat} (h : b.testBit p = true) : p < blen b := by
  have ne : b ≠ 0 := fun e => by rw [e, Nat.zero_testBit] at h; cases h
  have le : 2 ^ p ≤ b := Nat.ge_two_pow_of_testBit h
  unfold blen Builtin.Int.intBits
  rw [if_neg (by simp; omega), Int.natAbs_natCast]
  have := (Nat.le_log2 ne).mpr le
  omega
/-- the points whose bit is set, ascending -/
def lotN (b : Nat) : List Nat := (List.range (blen b)).filter fun p => b.testBit p
theorem lot_mem {b p : Nat} : p ∈ lotN b ↔ b.testBit p = true := by
  unfold lotN
  rw [List.mem_filter, List.mem_range]
  exact ⟨fun h => h.2, fun h => ⟨blen_test h, h⟩⟩
theorem lot_up (b : Nat) : (lotN b).Pairwise (· < ·) := by
  unfold lotN
  exact List.Pairwise.filter _ List.pairwise_lt_range
theorem up_eq {S T : List Nat} (hS : S.Pairwise (· < ·)) (hT : T.Pairwise (· < ·)) (h : ∀ p, p ∈ S ↔ p ∈ T) : S = T := by
  induction S generalizing T with
  | nil =>
    cases T with
    | nil => rfl
    | cons t T => exact absurd ((h t).mpr List.mem_cons_self) (by simp)
  | cons s S ih =>
    cases T with
    | nil => exact absurd ((h s).mp List.mem_cons_self) (by simp)
    | cons t T =>
      obtain ⟨a1, a2⟩ := List.pairwise_cons.mp hS
      obtain ⟨b1, b2⟩ := List.pairwise_cons.mp hT
      have e : s = t := by
        rcases List.mem_cons.mp ((h s).mp List.mem_cons_self) with e | e
        · exact e
        · rcases List.mem_cons.mp ((h t).mpr List.mem_cons_self) with e' | e'
          · exact e'.symm
          · have := b1 s e
            have := a1 t e'
            omega
      subst e
      rw [ih a2 b2 fun p => ?_]
      constructor
      · intro hp
        rcases List.mem_cons.mp ((h p).mp (List.mem_cons_of_mem _ hp)) with e | e
        · exact absurd (a1 p hp) (by omega)
        · exact e
      · intro hp
        rcases List.mem_cons.mp ((h p).mpr (List.mem_cons_of_mem _ hp)) with e | e
        · exact absurd (b1 p hp) (by omega)
        · exact e
theorem lot_bits {S : List Nat} (h : S.Pairwise (· < ·)) : lotN (bitsN S) = S := up_eq (lot_up _) h fun p => by rw [lot_mem, bits_test h, decide_eq_true_iff]
/-- has_point -/
theorem has_bit (b p : Nat) : (decide (¬ (Builtin.bitAnd (b : Int) ((2 ^ p : Nat) : Int)) = 0)) = b.testBit p := by
  rw [and_nat]
  have : b.testBit p = decide (¬ ((b &&& 2 ^ p) = 0)) := by
    cases e : b.testBit p with
    | true =>
      refine Eq.symm (decide_eq_true (p := ¬ ((b &&& 2 ^ p) = 0)) ?_)
      intro z
      have := Nat.testBit_and b (2 ^ p) p
      rw [z, e, Nat.testBit_two_pow_self, Nat.zero_testBit] at this
      cases this
    | false =>
      refine Eq.symm (decide_eq_false (p := ¬ ((b &&& 2 ^ p) = 0)) ?_)
      intro z
      refine z ?_
      refine Nat.eq_of_testBit_eq fun q => ?_
      rw [Nat.testBit_and, Nat.testBit_two_pow, Nat.zero_testBit]
      by_cases c : p = q
      · subst c
        rw [e]
        rfl
      · rw [decide_eq_false c, Bool.and_false]
  rw [this]
  congr 1
  exact propext ⟨fun h e => h (by rw [e]; rfl), fun h e => h (by omega)⟩
/-- all of a are in b -/
theorem within_bits {a b : Nat} : b &&& a = a ↔ ∀ p, a.testBit p = true → b.testBit p = true := by
  constructor
  · intro h p hp
    rw [← h, Nat.testBit_and] at hp
    exact (Bool.and_eq_true _ _ |>.mp hp).1
  · intro h
    refine Nat.eq_of_testBit_eq fun p => ?_
    rw [Nat.testBit_and]
    cases e : a.testBit p with
    | true => rw [h p e]; rfl
    | false => rw [Bool.and_false]
/-- what all marks around b have in common -/
def closeN (ms : List Nat) (b c : Nat) : Nat := ms.foldl (fun c m => if m &&& b = b then c &&& m else c) c
theorem close_test {ms : List Nat} {b c p : Nat} : (closeN ms b c).testBit p = true ↔ c.testBit p = true ∧ ∀ m ∈ ms, m &&& b = b → m.testBit p = true := by
  unfold closeN
  induction ms generalizing c with
  | nil => exact ⟨fun h => ⟨h, fun m hm => by cases hm⟩, fun h => h.1⟩
  | cons m ms ih =>
    rw [List.foldl_cons, ih]
    by_cases e : m &&& b = b
    · rw [if_pos e, Nat.testBit_and, Bool.and_eq_true]
      exact ⟨fun h => ⟨h.1.1, fun x hx ex => (List.mem_cons.mp hx).elim (fun z => z ▸ h.1.2) fun z => h.2 x z ex⟩, fun h => ⟨⟨h.1, h.2 m List.mem_cons_self e⟩, fun x hx => h.2 x (List.mem_cons_of_mem _ hx)⟩⟩
    · rw [if_neg e]
      exact ⟨fun h => ⟨h.1, fun x hx ex => (List.mem_cons.mp hx).elim (fun z => absurd (z ▸ ex) e) fun z => h.2 x z ex⟩, fun h => ⟨h.1, fun x hx => h.2 x (List.mem_cons_of_mem _ hx)⟩⟩
end Hd

/-! Si: set(xs) of a list or a tuple of ints. -/
namespace Hd
open PySem PySem.Spec PyProof.Rows L2
section
variable {P : Program} {w : World} {A : Around} {E : Value → Shared → Prop} {s : Shared}
/-- a shared state with a new empty set -/
abbrev withS (w : World) (s : Shared) : Shared := { s with heap := s.heap.push (emptyS w) }
theorem at_new (w : World) (s : Shared) : (withS w s).heap.get? s.heap.objs.size = some (emptyS w) := Heap.get?_push_size _ rfl
/-- what the set is once the ints are in it -/
def Filled (w : World) (s : Shared) (ns : List Int) (s2 : Shared) : Prop := ∃ (h' : Heap) (tk c : Nat), s2 = { s with heap := h', toks := tk } ∧ SetR w h' s.heap.objs.size (fun j => decide (j ∈ ns)) c ∧ c ≤ ns.length ∧ ∀ b o, s.heap.get? b = some o → h'.get? b = some o
/-- the walk over the list that fills the set -/
theorem fill_list {B : Around} {l : Addr} {items : Array Value} {ns : List Int} {R : Result → Shared → Prop} (hh : B.in1.handled = none) (hl : (withS w s).heap.IsList l items) (old : l < s.heap.objs.size) (hit : IntsAre items.toList ns) (hb : ns.length + 1 < scanBound)
    (out : ∀ s2, Filled w s ns s2 → R (.ok (.ret .none)) s2) :
    codeAny (model P w) B (.builtin "set.update.loop" ⟨[.ref s.heap.objs.size, .ref (withS w s).heap.objs.size], []⟩) R { withS w s with heap := (withS w s).heap.push { cls := .type "list_iterator", data := .fields #[.ref l, .int 0 0] } } := by
  have many_ : items.size = ns.length := by rw [← Array.length_toList]; exact IntsAre.length hit
  have s1 : (withS w s).heap.objs.size = s.heap.objs.size + 1 := Heap.size_push ..
  have apart : l ≠ (withS w s).heap.objs.size := by rw [s1]; exact Nat.ne_of_lt (Nat.lt_succ_of_lt old)
  refine set_update_ints ((Walks.list hh _ l apart items).toS) s.heap.objs.size ?_ ns many_ hb (fun i v hv => ?_) (items.size - 0) 0 _ rfl (Nat.zero_le _) ⟨⟨_, Heap.get?_push_size _ rfl, rfl, rfl⟩, hl.push _⟩ ⟨0, Nat.le_refl 0, setR_new_at (Heap.get?_push_of_some _ (at_new w s))⟩ fun t c hm le hS => ?_
  · rw [s1]
    intro z
    rcases List.mem_cons.mp z with e | z
    · exact absurd e (Nat.ne_of_lt (Nat.lt_succ_self _))
    · exact absurd (List.mem_singleton.mp z) (Nat.ne_of_gt old)
  · have il : i < ns.length := many_ ▸ (Array.getElem?_eq_some_iff.mp hv).1
    obtain ⟨tk, e⟩ := PyProof.Rows.IntsAre.int_at hit i v (by rw [Array.getElem?_toList]; exact hv)
    rw [List.getD_eq_getElem?_getD, List.getElem?_eq_getElem il] at e
    exact ⟨ns[i], tk, List.getElem?_eq_getElem il, e⟩
  · obtain ⟨h', g2, d', tk', os'⟩ := t
    obtain rfl : g2 = s.gens := hm.gens
    obtain rfl : d' = s.drawn := hm.drawn
    obtain rfl : os' = s.os := hm.os
    refine out _ ⟨h', tk', c, rfl, hS, many_ ▸ le, fun b o e => ?_⟩
    have lb := Heap.lt_size e
    refine hm.heap b o (fun z => ?_) (Heap.get?_push_of_some _ (Heap.get?_push_of_some _ e))
    rw [s1] at z
    rcases List.mem_cons.mp z with z | z
    · exact absurd z (Nat.ne_of_lt lb)
    · exact absurd (List.mem_singleton.mp z) (Nat.ne_of_lt (Nat.lt_succ_of_lt lb))
/-- set(xs), xs a list of ints -/
theorem set_listI {l : Addr} {items : Array Value} {ns : List Int} {Q : Value → Shared → Prop} (hh : A.handled = none) (hl : s.heap.IsList l items) (hit : IntsAre items.toList ns) (hb : ns.length + 1 < scanBound)
    (out : ∀ s2, Filled w s ns s2 → Q (.ref s.heap.objs.size) s2) : wpAny (model P w) A (call (.type "set") [.ref l]) Q E s := by
  obtain ⟨_, _, mro⟩ := F.called_set.mro
  have made := F.called_set.made
  have subs := F.called_set.sub
  have nt := F.called_set.notType
  have cc := F.called_set.canCreate
  have one := F.typeCall_set_1 (.ref l)
  have found := F.called_set.init.lookup
  have bnd := F.called_set.init.bind (.ref s.heap.objs.size)
  have s_new : (withS w s).heap.objs.size = s.heap.objs.size + 1 := Heap.size_push ..
  refine wpAny_call (codeAny_of_tree (show wpAny (model P w) A.in1 (callAny (.type "set") ⟨[.ref l], []⟩) _ _ s from wpAny_pure ⟨Code.quiet_builtin _ (by decide +kernel), codeAny_builtin F.entry_type_call ?_⟩))
  rw [Around.under_plain (weight_type_call_type "set" [.ref l] []) rfl]
  repeat (any_goals (first | assumption | wp_step))
  refine codeAny_mono (code_set_led1 (.ref l) (E := E) (Q₁ := fun v t => v = .ref s.heap.objs.size ∧ t = withS w s) ⟨rfl, rfl⟩) fun r t hr => ?_
  match r, hr with
  | .error _, hr => exact hr
  | .ok (.ret _), ⟨e1, e2⟩ =>
    subst e1 e2
    have isSet : (withS w s).TypeIs (.ref s.heap.objs.size) "set" := ⟨_, at_new w s, rfl⟩
    repeat (any_goals (first | assumption | wp_step))
    refine codeAny_mono (codeAny_call_builtin (R := wants (fun v t => v = .none ∧ Filled w s ns t) E) F.called_set.init.plain F.entry_set_init (check_set_init_1 isSet ?_)) fun r2 t2 hr2 => ?_
    · obtain ⟨o, ho, hc, nl, hd⟩ := hl
      obtain ⟨_, dct, _, slt⟩ := o
      dsimp only at hc hd
      subst hc hd
      have in2 : (withS w s).heap.IsList l items := ⟨_, Heap.get?_push_of_some _ ho, rfl, nl, rfl⟩
      have no1 := F.sub_list_set
      have no2 := F.sub_list_frozenset
      have no3 : (Value.type "list" == Value.type "dict") = false := by decide
      have again_ : (withS w s).heap.get? l = _ := Heap.get?_push_of_some _ ho
      have setAgain := at_new w s
      unfold Builtin.«set.__init__» noKeywords Builtin.Frozenset.updateFrom
      generalize eI : pyIter = pI
      wp_walk
      subst eI
      have old : l < s.heap.objs.size := Heap.lt_size ho
      refine wpAny_pyIter_list in2 (wpAny_bind (wpAny_runValue (fill_list (by simp [hh]) in2 old hit hb fun s2 f => ?_)))
      exact wpAny_pure (wpAny_pure ⟨rfl, f⟩)
    · match r2, hr2 with
      | .error _, hr2 => exact hr2
      | .ok (.ret _), ⟨e3, fl⟩ =>
        subst e3
        have res := out _ fl
        repeat (any_goals (first | assumption | wp_step))
end
end Hd

namespace Hd
open PySem PySem.Spec PyProof.Rows L2
section
variable {X : Cx}
/-- set(xs), xs a list or a tuple of ints -/
def rSetI (w : World) (K : PySem.W.Frag) : List V → Hp → VK → Prop := fun xs H Q => ∃ (p : Addr) (ns : List Int), xs = [.ref p] ∧ (SqL K H p (ns.map V.int) ∨ SqT K H p (ns.map V.int)) ∧ ns.length + 1 < scanBound ∧
  ∀ (D : Addr) (n : Nat), n ≤ ns.length → H D = none → Q (.ref D) (upd H D (SetO w D (setOf ns) n))
theorem cr_setI (calm : X.calm = true) : CallR X (.type "set") (rSetI X.w X.K) := by
  intro pins s σ H xs us Q I r h
  obtain ⟨p, ns, rfl, hp, room, q⟩ := h
  rw [Vals.ref1 r]
  have fin : ∀ s2, Filled X.w s ns s2 → EP X pins σ Q (.ref s.heap.objs.size) s2 := fun s2 ⟨h', tk, c, e, hS, le, keep⟩ => by
    subst e
    exact ⟨.ref _, upd H s.heap.objs.size (SetO X.w s.heap.objs.size (setOf ns) c), I.laid (t' := tk) keep (Nat.le_refl _) (setO_new hS), rfl, q _ _ le (I.hok.fresh (Nat.le_refl _))⟩
  rcases hp with hp | hp
  · obtain ⟨its, rv, hl, hz⟩ := I.list hp
    exact set_listI (I.ok.hd calm) hl.isList rv.ints room fin
  · obtain ⟨its, rv, pt, hz⟩ := I.tuple hp
    exact call_set_tupI ns (I.ok.hd calm) (show s.heap.IsTuple p its.toArray from pt) (ints_of_vals rv) room fun h' tk c hS le keep => fin _ ⟨h', tk, c, rfl, hS, le, keep⟩
end
end Hd

/-! Sb: lots and marks as numbers: rules with K by name, and what the numbers tell. -/
namespace Hd
open PySem PySem.Spec PyProof.Rows L2
section
variable {X : Cx} {K : PySem.W.Frag}
theorem pi_enumTK {e : Expr} {ta : TA} {p pos tpos : Pos} {elts : List Expr} {kk : Nat} (hk : X.K = K) (hg : Gl X "enumerate") (hm : X.mg "enumerate" = none) (ha : PA X [e] ta) (hs : starEach [e] X.env = [(false, eval e X.env)] := by rfl) : PI X (.Tuple elts kk tpos) (.Call (.Name "enumerate" p) [e] [] pos) (iEnumT K ta) := by
  subst hk
  exact pi_enumT hg hm ha hs
theorem cr_sumK (hk : X.K = K) (hc : X.calm = true) : CallR X (.builtin "sum") (rSum K) := hk ▸ cr_sum hc
end
/-- b is the number of the points of rs -/
def BitsOf (b : Nat) (rs : List Int) : Prop := ∀ p : Nat, b.testBit p = true ↔ (p : Int) ∈ rs
theorem BitsOf.uniq {a b : Nat} {rs : List Int} (h : BitsOf a rs) (k : BitsOf b rs) : a = b := Nat.eq_of_testBit_eq fun p => by
  rw [Bool.eq_iff_iff, h p, k p]
theorem sum_pow : ∀ ns : List Int, (ns.map fun k => (1 : Int) * 2 ^ k.toNat).sum = ((bitsN (ns.map Int.toNat) : Nat) : Int)
  | [] => rfl
  | k :: ns => by
    have ih := sum_pow ns
    rw [List.map_cons, List.sum_cons, ih, List.map_cons]
    show _ = (((2 ^ k.toNat + bitsN (ns.map Int.toNat)) : Nat) : Int)
    rw [Int.natCast_add, Int.one_mul, Int.natCast_pow]
    rfl
theorem up_nat {ns : List Int} (h : ns.Pairwise (· < ·)) (h0 : ∀ k ∈ ns, 0 ≤ k) : (ns.map Int.toNat).Pairwise (· < ·) := by
  rw [List.pairwise_map]
  refine List.Pairwise.imp_of_mem (fun {a b} ha hb l => ?_) h
  have := h0 a ha
  omega
theorem bits_up {ns : List Int} (h : ns.Pairwise (· < ·)) (h0 : ∀ k ∈ ns, 0 ≤ k) : BitsOf (bitsN (ns.map Int.toNat)) ns := fun p => by
  rw [bits_test (up_nat h h0), decide_eq_true_eq, List.mem_map]
  exact ⟨fun ⟨k, hk, e⟩ => by have := h0 k hk; rwa [← e, Int.toNat_of_nonneg this], fun hp => ⟨(p : Int), hp, by simp⟩⟩
/-- the points that w holds, as a number -/
def mkN (n : Int) (w : List Int) : Nat := bitsN ((List.range n.toNat).filter fun j => decide (stp w (j : Int) = j))
theorem mk_test {n : Int} {w : List Int} {p : Nat} : (mkN n w).testBit p = true ↔ inR n (p : Int) ∧ stp w (p : Int) = p := by
  unfold mkN
  rw [bits_test (List.Pairwise.filter _ List.pairwise_lt_range), decide_eq_true_eq, List.mem_filter, List.mem_range, decide_eq_true_eq]
  exact ⟨fun h => ⟨⟨by omega, by omega⟩, h.2⟩, fun h => ⟨by have := h.1.2; omega, h.2⟩⟩
/-- the numbers of the marks, ascending -/
def MkOk (n : Int) (L : List (List Int)) (ms : List Nat) : Prop := ms.Pairwise (· < ·) ∧ ∀ k, k ∈ ms ↔ ∃ w ∈ L, mkN n w = k
/-- the closure of a lot, as a number -/
def clN (ms : List Nat) (b : Nat) : Nat := closeN ms b (ms.getLastD 0)
theorem mk_still {n : Int} {p : Nat} : (mkN n (rngI n)).testBit p = true ↔ inR n (p : Int) := by
  rw [mk_test]
  exact ⟨fun h => h.1, fun h => ⟨h, stp_rng h⟩⟩
theorem mk_le {n : Int} {w : List Int} : mkN n w ≤ mkN n (rngI n) := by
  have e : mkN n w &&& mkN n (rngI n) = mkN n w := by
    refine Nat.eq_of_testBit_eq fun p => ?_
    rw [Nat.testBit_and, Bool.eq_iff_iff, Bool.and_eq_true, mk_still, mk_test]
    exact ⟨fun h => h.1, fun h => ⟨h, h.1⟩⟩
  rw [← e]
  exact Nat.and_le_right
theorem mk_last {n : Int} {L : List (List Int)} {ms : List Nat} (mk : MkOk n L ms) (still : rngI n ∈ L) : ms.getLastD 0 = mkN n (rngI n) := by
  have hm : mkN n (rngI n) ∈ ms := (mk.2 _).mpr ⟨_, still, rfl⟩
  rcases List.eq_nil_or_concat ms with rfl | ⟨T, t, rfl⟩
  · cases hm
  rw [List.concat_eq_append] at *
  rw [List.getLastD_eq_getLast?, List.getLast?_append]
  show t = _
  obtain ⟨w, -, e⟩ := (mk.2 t).mp (List.mem_append_right _ (List.mem_singleton.mpr rfl))
  rcases List.mem_append.mp hm with h | h
  · have := (up_snoc mk.1).2 _ h
    have := mk_le (n := n) (w := w)
    omega
  · exact (List.mem_singleton.mp h).symm
end Hd

/-! Di: items() and values() of a dict whose keys are tuples, walked (the dict is locked meanwhile). -/
namespace Hd
open PySem PySem.Spec PyProof.Rows L2
section
variable {X : Cx}
theorem frzT_all {pins : List (Addr × Obj)} {σ : L2.St} {H : Hp} {s : Shared} {d : Addr} {o : Obj} {kvs : List (List L2.Key × V)} (I : L2.Inv X pins σ H s) (hd : H d = some (.frz o (.dT kvs))) :
    (d == sysModules) = false ∧ ∃ es ep, s.heap.DictRaw d es ep ∧ o.data = .dict es ep ∧ es.size = kvs.length ∧ ∀ (i : Nat) k v, kvs[i]? = some (k, v) → ∃ (en : DictEntry) (q : Addr), es[i]? = some en ∧ en.key = .ref q ∧ H q = some (.tup (k.map kV)) ∧ RelV v en.val := by
  obtain ⟨ho, z, lo, xs, pr, o', es, ep, ho', hx, hdt, he, hn⟩ := (show ObjOk X.prog X.w H s.heap d (.frz o (.dT kvs)) from I.hok d _ hd)
  obtain rfl : o = o' := Option.some.inj (ho.symm.trans ho')
  have l1 : es.size = xs.length := size_of_entries he
  have l2 : kvs.length = xs.length := Paired.length pr
  refine ⟨lo, es, ep, ⟨o, ho, hx, hdt⟩, hdt, by omega, fun i k v hi => ?_⟩
  obtain ⟨p, hp, e1, e2, e3⟩ := paired_get pr hi
  refine ⟨entryOfKey (tupleKind (mixKind X.prog X.w)) p, p.2.1, ?_, rfl, ?_, e3⟩
  · rw [entry_at he i, hp]
    rfl
  · rw [show k = p.1 from e1] at *
    exact e2
/-- the turns of items() -/
def Itit (d : Addr) (o : Obj) (kvs : List (List L2.Key × V)) : It where
  go := fun i H => H d = some (.frz o (.dT kvs)) ∧ i < kvs.length
  yld := fun i H x H' => ∃ (T q : Addr) (k : List L2.Key) (v : V), kvs[i]? = some (k, v) ∧ x = .ref T ∧ H T = none ∧ H q = some (.tup (k.map kV)) ∧ H' = upd H T (.tup [.ref q, v])
  stop := fun i H => H d = some (.frz o (.dT kvs)) ∧ kvs.length ≤ i
/-- the turns of values() -/
def Itdt (d : Addr) (o : Obj) (kvs : List (List L2.Key × V)) : It where
  go := fun i H => H d = some (.frz o (.dT kvs)) ∧ i < kvs.length
  yld := fun i H x H' => H' = H ∧ ∃ k, kvs[i]? = some (k, x)
  stop := fun i H => H d = some (.frz o (.dT kvs)) ∧ i = kvs.length
theorem turn_itemsT {P : Program} {w : World} {K : PySem.W.Frag} {d : Addr} {o : Obj} {es : Array DictEntry} {ep : Nat} {kvs : List (List L2.Key × V)} {elts : List Expr} {kk : Nat} {tpos : Pos} (it : Addr) (ho : o.data = .dict es ep) :
    Turn P w K (.Tuple elts kk tpos) (Itit d o kvs) [it] it fun i h => ∃ ok ov, IsItemIter h it d i kvs.length ep ok ov where
  mem := List.mem_singleton.mpr rfl
  obj := fun i h ⟨ok, ov, e⟩ b hb => by
    obtain rfl := List.mem_singleton.mp hb
    exact ⟨_, e, fun v z => by cases z⟩
  keep := fun i h h' ⟨ok, ov, e⟩ k => ⟨ok, ov, k it (List.mem_singleton.mpr rfl) _ e⟩
  item := fun X eP ew eK calm i pins s σ H E I fp tn ⟨hd, il⟩ => by
    subst eP ew eK
    obtain ⟨lo, es2, ep2, raw, hdt, size, ent⟩ := frzT_all I hd
    obtain ⟨e1, e2⟩ := dict_ep ho hdt
    subst e1 e2
    obtain ⟨en, q, h1, h2, h3, h4⟩ := ent i _ _ (List.getElem?_eq_getElem il)
    have fit := (fp it (List.mem_singleton.mpr rfl)).1
    have ne : d ≠ it := fun e => by rw [e, fit] at hd; cases hd
    have W := WalksT.rawItems (prog := X.prog) (w := X.w) (A := X.A) (I.ok.hd calm) it d ne es2 ep2
    obtain ⟨ok, ov, tn⟩ := tn
    refine W.item i s _ E (by omega) ⟨⟨ok, ov, size ▸ tn⟩, raw⟩ fun T vals h' tk pt hT ht mid keep => ⟨_, rfl, W.go elts kk tpos i T _ _ E mid fun h2' st2 keep2 => ?_⟩
    obtain ⟨hi, rfl⟩ := pt
    obtain rfl : es2[i] = en := by
      rw [Array.getElem?_eq_getElem hi] at h1
      exact Option.some.inj h1
    have nT := W.apart i T _ mid
    obtain ⟨oT, a1, a2, a3⟩ := ht
    have hT2 : IsTup h2' T #[es2[i].key, es2[i].val] := ⟨oT, keep2 T oT nT a1, a2, a3⟩
    have fT : H T = none := I.hok.fresh hT
    have nq : q ≠ T := fun e => by rw [e, fT] at h3; cases h3
    refine ⟨.ref T, upd H T (.tup [.ref q, kvs[i].2]), ?_, rfl, ⟨T, q, kvs[i].1, kvs[i].2, List.getElem?_eq_getElem il, rfl, fT, h3, rfl⟩, ?_, fun b hb => ?_⟩
    · refine I.turnedNew (ch := [it]) (fun b u nb hb => keep2 b u nb (keep b u nb hb)) fp hT ⟨by show 2 ≤ sizeLine; decide, [es2[i].key, es2[i].val], .cons h2 (.cons h4 .nil), hT2⟩
    · obtain ⟨⟨ok', ov', z⟩, -⟩ := st2
      exact ⟨ok', ov', size ▸ z⟩
    · obtain rfl := List.mem_singleton.mp hb
      have : b ≠ T := fun e => nT (e ▸ List.mem_singleton.mpr rfl)
      rw [upd_ne this]
      exact fit
  done := fun X eP ew eK calm i pins s σ H E I fp tn ⟨hd, il⟩ => by
    subst eP ew eK
    obtain ⟨lo, es2, ep2, raw, hdt, size, ent⟩ := frzT_all I hd
    obtain ⟨e1, e2⟩ := dict_ep ho hdt
    subst e1 e2
    have fit := (fp it (List.mem_singleton.mpr rfl)).1
    have ne : d ≠ it := fun e => by rw [e, fit] at hd; cases hd
    obtain ⟨ok, ov, tn⟩ := tn
    exact DT.endI (I.ok.hd calm) (size ▸ tn) raw (by omega) fun h' x => ⟨rfl, I.turnedL (ch := [it]) (fun b u nb hb => x b u (fun e => nb (e ▸ List.mem_singleton.mpr rfl)) hb) fp⟩
  self := fun A i s Q E tn q => (turn_items (K := K) (kvs := kvs.map fun p => (.inl 0, p.2)) (elts := elts) (kk := kk) (tpos := tpos) it ho).self A i s Q E (by rwa [List.length_map]) q
theorem turn_valsT {P : Program} {w : World} {K : PySem.W.Frag} {d : Addr} {o : Obj} {es : Array DictEntry} {ep : Nat} {kvs : List (List L2.Key × V)} {x : Str} {pos : Pos} (it : Addr) (ho : o.data = .dict es ep) :
    Turn P w K (.Name x pos) (Itdt d o kvs) [it] it fun i h => h.IsValIter it d i kvs.length ep where
  mem := List.mem_singleton.mpr rfl
  obj := fun i h ⟨ob, e, _, k⟩ b hb => by
    obtain rfl := List.mem_singleton.mp hb
    exact ⟨_, e, fun v z => by rw [k] at z; cases z⟩
  keep := fun i h h' ⟨ob, e, k⟩ kp => ⟨ob, kp it (List.mem_singleton.mpr rfl) _ e, k⟩
  item := fun X eP ew eK calm i pins s σ H E I fp tn ⟨hd, il⟩ => by
    subst eP ew eK
    obtain ⟨lo, es2, ep2, raw, hdt, size, ent⟩ := frzT_all I hd
    obtain ⟨e1, e2⟩ := dict_ep ho hdt
    subst e1 e2
    obtain ⟨en, q, h1, h2, h3, h4⟩ := ent i _ _ (List.getElem?_eq_getElem il)
    have fit := (fp it (List.mem_singleton.mpr rfl)).1
    have ne : d ≠ it := fun e => by rw [e, fit] at hd; cases hd
    have W := Walks.rawValues (prog := X.prog) (w := X.w) (A := X.A) (I.ok.hd calm) it d ne es2 ep2
    refine W.item i s _ E (by omega) ⟨size ▸ tn, raw⟩ fun v h' tk pt st2 keep => ⟨_, rfl, wpAny_pure ?_⟩
    obtain ⟨hi, rfl⟩ := pt
    obtain rfl : es2[i] = en := by
      rw [Array.getElem?_eq_getElem hi] at h1
      exact Option.some.inj h1
    exact ⟨kvs[i].2, H, I.turnedL (ch := [it]) (fun b u nb hb => keep b u nb hb) fp, h4, ⟨rfl, kvs[i].1, List.getElem?_eq_getElem il⟩, size ▸ st2.1, fun b hb => (fp b hb).1⟩
  done := fun X eP ew eK calm i pins s σ H E I fp tn ⟨hd, il⟩ => by
    subst eP ew eK
    obtain ⟨lo, es2, ep2, raw, hdt, size, ent⟩ := frzT_all I hd
    obtain ⟨e1, e2⟩ := dict_ep ho hdt
    subst e1 e2
    have fit := (fp it (List.mem_singleton.mpr rfl)).1
    have ne : d ≠ it := fun e => by rw [e, fit] at hd; cases hd
    have W := Walks.rawValues (prog := X.prog) (w := X.w) (A := X.A) (I.ok.hd calm) it d ne es2 ep2
    refine W.done s _ E ⟨by rw [size]; rw [il] at tn; exact tn, raw⟩ fun h' tk keep => ⟨rfl, I.turnedL (ch := [it]) (fun b u nb hb => keep b u nb hb) fp⟩
  self := fun A i s Q E tn q => (turn_vals (K := K) (tg := .Name x pos) (kvs := kvs.map fun p => (.inl 0, p.2)) it ho).self A i s Q E (by rwa [List.length_map]) q
/-! ### what a walk locks is free again behind it -/
def tUnl (t : TS) : TS := fun D σ H => ∃ d u, H d = some u ∧ Mut (some u) ∧
  t ⟨fun σ' H' => ∃ od, H' d = some (.frz od u) ∧ D.nx σ' (upd H' d u), fun v H' => ∃ od, H' d = some (.frz od u) ∧ D.rt v (upd H' d u), fun σ' H' => ∃ od, H' d = some (.frz od u) ∧ D.bk σ' (upd H' d u), fun σ' H' => ∃ od, H' d = some (.frz od u) ∧ D.ct σ' (upd H' d u)⟩ σ H
theorem ps_unl {st : Stmt} {t : TS} (h : PS X st t) : PS X st (tUnl t) := by
  refine ⟨fun pins s σ H D I ⟨d, u, hd, m, q⟩ => wpAny_mono (h.run pins s σ H _ I q) (fun f s' hs => ?_) (fun _ _ z => z)⟩
  have nf := I.nofrz hd m
  cases f with
  | next => obtain ⟨σ', H', I', od, hf, k⟩ := hs; exact ⟨σ', _, I'.unlock hf nf, k⟩
  | brk => obtain ⟨σ', H', I', od, hf, k⟩ := hs; exact ⟨σ', _, I'.unlock hf nf, k⟩
  | cont => obtain ⟨σ', H', I', od, hf, k⟩ := hs; exact ⟨σ', _, I'.unlock hf nf, k⟩
  | ret v => obtain ⟨x, σ', H', I', r, od, hf, k⟩ := hs; exact ⟨x, σ', _, I'.unlock hf nf, r, k⟩
def tUnlE (t : TE) : TE := fun σ H Q => ∃ d u, H d = some u ∧ Mut (some u) ∧ t σ H fun v H' => ∃ od, H' d = some (.frz od u) ∧ Q v (upd H' d u)
theorem pe_unl {e : Expr} {t : TE} (h : PE X e t) : PE X e (tUnlE t) := by
  refine ⟨fun pins s σ H Q I ⟨d, u, hd, m, q⟩ => wpAny_mono (h.run pins s σ H _ I q) (fun v s' hs => ?_) (fun _ _ z => z)⟩
  have nf := I.nofrz hd m
  obtain ⟨x, H', I', r, od, hf, k⟩ := hs
  exact ⟨x, _, I'.unlock hf nf, r, k⟩
/-! ### the views -/
def valsO (p d : Addr) : HO := .ext fun h => h.IsValuesView p d
theorem valsO_ok {P : Program} {w : World} {H : Hp} {h : Heap} {p d : Addr} (e : h.get? p = some { cls := .type "dict_values", data := .fields #[.ref d] }) : ObjOk P w H h p (valsO p d) :=
  ⟨⟨_, e, rfl, rfl⟩, ⟨_, e⟩, fun h1 h2 ⟨o, a, b, c⟩ k => ⟨o, k o a, b, c⟩⟩
theorem mt_valsT : MtR X "dict.values" (fun x xs H Q => ∃ (a : Addr) (kvs : List (List L2.Key × V)), x = .ref a ∧ xs = [] ∧ H a = some (.dT kvs) ∧ ∀ p, H p = none → Q (.ref p) (upd H p (valsO p a))) := by
  intro pins s σ H x xs v us Q I rx rxs want
  obtain ⟨a, kvs, rfl, rfl, ha, q⟩ := want
  cases rx
  cases rxs
  obtain ⟨z, lo, ks, pr, o, es, ep, ho, hx, hdt, he, hn⟩ := (show ObjOk X.prog X.w H s.heap a (.dT kvs) from I.hok a _ ha)
  have fresh : H s.heap.objs.size = none := I.hok.fresh (Nat.le_refl _)
  refine call_meetsIn PySem.F.slot_dict_values ⟨o, ho, hx.1⟩ PySem.F.entry_dict_values (PySem.F.args_dict_values_1 _) (meets_dict_values_raw a lo) ⟨⟨es, ep, o, ho, hx, hdt⟩, ?_⟩
  exact ⟨.ref s.heap.objs.size, upd H s.heap.objs.size (valsO s.heap.objs.size a), I.laid (t' := s.toks) (fun b u e => Heap.get?_push_of_some _ e) (Nat.le_refl _) (valsO_ok (Heap.get?_push_size _ rfl)), rfl, q _ fresh⟩
/-! ### the walks -/
def iItemsT (te : TE) : TI := fun σ H R => te σ H fun x H1 => ∃ (p d : Addr) (kvs : List (List L2.Key × V)), x = .ref p ∧ H1 p = some (DX.itemsO p d) ∧ H1 d = some (.dT kvs) ∧ ∀ od, R (Itit d od kvs) (upd H1 d (.frz od (.dT kvs)))
theorem pi_itemsT {elts : List Expr} {kk : Nat} {tpos : Pos} {e : Expr} {te : TE} (he : PE X e te) : PI X (.Tuple elts kk tpos) e (iItemsT te) := by
  refine ⟨fun pins s σ H R I h => ?_⟩
  refine thn (he.run pins s σ H _ I h) fun u s1 ⟨x, H1, I1, r1, p, d, kvs, ex, hp, hd, q⟩ => ?_
  subst ex
  cases r1
  obtain ⟨od, I2⟩ := I1.lock hd trivial
  have hd2 : upd H1 d (.frz od (.dT kvs)) d = some (.frz od (.dT kvs)) := upd_same
  obtain ⟨lo, es, ep, raw, hdt, size, ent⟩ := frzT_all I2 hd2
  have view : s1.heap.IsItemsView p d := (I1.hok p _ hp).1
  refine wpAny_pyIter_items_raw view raw ?_
  have fr : upd H1 d (.frz od (.dT kvs)) s1.heap.objs.size = none := I2.fresh
  refine ⟨_, [s1.heap.objs.size], _, _, _, rfl, I2.turnedL (ch := []) (t' := s1.toks) (fun b u _ hb => Heap.get?_push_of_some _ hb) (fun b hb => by cases hb), turn_itemsT _ hdt, ⟨.none, .none, ?_⟩, fun b hb => ?_, q od⟩
  · rw [← size]
    exact Heap.get?_push_size _ rfl
  · obtain rfl := List.mem_singleton.mp hb
    exact I2.fpOk (Nat.le_refl _) fr
def iValsT (te : TE) : TI := fun σ H R => te σ H fun x H1 => ∃ (p d : Addr) (kvs : List (List L2.Key × V)), x = .ref p ∧ H1 p = some (valsO p d) ∧ H1 d = some (.dT kvs) ∧ ∀ od, R (Itdt d od kvs) (upd H1 d (.frz od (.dT kvs)))
theorem pi_valsT {x : Str} {xpos : Pos} {e : Expr} {te : TE} (he : PE X e te) : PI X (.Name x xpos) e (iValsT te) := by
  refine ⟨fun pins s σ H R I h => ?_⟩
  refine thn (he.run pins s σ H _ I h) fun u s1 ⟨x, H1, I1, r1, p, d, kvs, ex, hp, hd, q⟩ => ?_
  subst ex
  cases r1
  obtain ⟨od, I2⟩ := I1.lock hd trivial
  have hd2 : upd H1 d (.frz od (.dT kvs)) d = some (.frz od (.dT kvs)) := upd_same
  obtain ⟨lo, es, ep, raw, hdt, size, ent⟩ := frzT_all I2 hd2
  have view : s1.heap.IsValuesView p d := (I1.hok p _ hp).1
  refine wpAny_pyIter_values_raw view raw ?_
  have fr : upd H1 d (.frz od (.dT kvs)) s1.heap.objs.size = none := I2.fresh
  refine ⟨_, [s1.heap.objs.size], _, _, _, rfl, I2.turnedL (ch := []) (t' := s1.toks) (fun b u _ hb => Heap.get?_push_of_some _ hb) (fun b hb => by cases hb), turn_valsT _ hdt, ⟨_, Heap.get?_push_size _ rfl, rfl, ?_⟩, fun b hb => ?_, q od⟩
  · rw [← size]
    rfl
  · obtain rfl := List.mem_singleton.mp hb
    exact I2.fpOk (Nat.le_refl _) fr
theorem for_itemsT {d : Addr} {o : Obj} {kvs : List (List L2.Key × V)} {σ0 : L2.St} {H0 : Hp} {Z : L2.St → Hp → Prop} {B : (L2.St → Hp → Prop) → V → L2.St → Hp → Prop} (Pv : Nat → L2.St → Hp → Prop) (h0 : Pv 0 σ0 H0) (hl : ∀ i σ H, Pv i σ H → H d = some (.frz o (.dT kvs)))
    (turn : ∀ i k v q T σ H H', kvs[i]? = some (k, v) → Pv i σ H → H q = some (.tup (k.map kV)) → New H T (.tup [.ref q, v]) H' → B (Pv (i + 1)) (.ref T) σ H') (fin : ∀ σ H, Pv kvs.length σ H → Z σ H) :
    ∃ W : Nat → Nat → L2.St → Hp → Prop, (∃ m, W 0 m σ0 H0) ∧ ∀ i m σ H, W i m σ H → ((Itit d o kvs).stop i H ∧ Z σ H) ∨ ((Itit d o kvs).go i H ∧ ∃ Nx : L2.St → Hp → Prop, (∀ σ' H', Nx σ' H' → ∃ m', m' < m ∧ W (i + 1) m' σ' H') ∧ ∀ x H', (Itit d o kvs).yld i H x H' → B Nx x σ H') := by
  refine ⟨fun i m σ H => i + m = kvs.length ∧ Pv i σ H, ⟨kvs.length, Nat.zero_add _, h0⟩, fun i m σ H ⟨im, p⟩ => ?_⟩
  have hd := hl i σ H p
  cases m with
  | zero =>
    obtain rfl : i = kvs.length := by omega
    exact .inl ⟨⟨hd, Nat.le_refl _⟩, fin σ H p⟩
  | succ m =>
    refine .inr ⟨⟨hd, by omega⟩, Pv (i + 1), fun σ' H' p2 => ⟨m, Nat.lt_succ_self _, by omega, p2⟩, fun x H' y => ?_⟩
    obtain ⟨T, q, k, v, h1, rfl, f, hq, rfl⟩ := y
    exact turn i k v q T σ H _ h1 p hq ⟨f, rfl⟩
theorem lc_valsT {d : Addr} {o : Obj} {kvs : List (List L2.Key × V)} {H0 : Hp} {Z : Hp → Prop} {B : (Hp → Prop) → V → Hp → Prop} (Pv : Nat → Hp → Prop) (h0 : Pv 0 H0) (hl : ∀ i H, Pv i H → H d = some (.frz o (.dT kvs)))
    (turn : ∀ i k x H, kvs[i]? = some (k, x) → Pv i H → B (Pv (i + 1)) x H) (fin : ∀ H, Pv kvs.length H → Z H) :
    ∃ W : Nat → Nat → Hp → Prop, (∃ m, W 0 m H0) ∧ ∀ i m H, W i m H → ((Itdt d o kvs).stop i H ∧ Z H) ∨ ((Itdt d o kvs).go i H ∧ ∃ Nx : Hp → Prop, (∀ H', Nx H' → ∃ m', m' < m ∧ W (i + 1) m' H') ∧ ∀ x H', (Itdt d o kvs).yld i H x H' → B Nx x H') := by
  refine ⟨fun i m H => i + m = kvs.length ∧ Pv i H, ⟨kvs.length, Nat.zero_add _, h0⟩, fun i m H ⟨im, p⟩ => ?_⟩
  have hd := hl i H p
  cases m with
  | zero =>
    obtain rfl : i = kvs.length := by omega
    exact .inl ⟨⟨hd, rfl⟩, fin H p⟩
  | succ m =>
    refine .inr ⟨⟨hd, by omega⟩, Pv (i + 1), fun H' p2 => ⟨m, Nat.lt_succ_self _, by omega, p2⟩, fun x H' y => ?_⟩
    obtain ⟨rfl, k, hx⟩ := y
    exact turn i k x _ hx p
end
end Hd

/-! Ev: readings that give data known beforehand, wherever G0 is known. -/
namespace Hd
open PySem PySem.Spec PyProof.Rows L2
/-- != of lists of whole numbers -/
def rNeLI (K : PySem.W.Frag) : R2 := fun x y H Q => ∃ (a b : Addr) (ns ms : List Int), x = .ref a ∧ y = .ref b ∧ SqL K H a (ns.map V.int) ∧ SqL K H b (ms.map V.int) ∧ Q (.bl (!decide (ns = ms))) H
theorem op_neLI {X : Cx} (hu : X.A.units + 64 < cLine) : OpR X (compareOp .NotEq) (rNeLI X.K) := opR_mono (op_neD hu) fun x y H Q h => by
  obtain ⟨a, b, ns, ms, rfl, rfl, ha, hb, q⟩ := h
  refine ⟨.list (ns.map .int), .list (ms.map .int), .lst ha (DpAll.ints ns), .lst hb (DpAll.ints ms), PySem.W.ke_shaped_ints ns, PySem.W.ke_shaped_ints ms, ?_⟩
  rw [PyData.eqv, eqv_ints]
  exact q
def Ev (G0 : Hp) (σ : L2.St) (t : TE) (d : PyData) : Prop := ∀ (G H : Hp) (Q : VK), Same G0 G → Same G H → (∀ v G' H', Stq G H G' H' → Da G' v d → Q v H') → t σ H Q
/-- a whole number, nothing made -/
def EvI (G0 : Hp) (σ : L2.St) (t : TE) (i : Int) : Prop := ∀ (H : Hp) (Q : VK), Same G0 H → Q (.int i) H → t σ H Q
section
variable {G0 : Hp} {σ : L2.St} {K : PySem.W.Frag}
theorem EvI.ev {t : TE} {i : Int} (h : EvI G0 σ t i) : Ev G0 σ t (.int i) := fun G H Q g gh q => h H Q (g.trans gh) (q _ G H (Stq.refl gh) (.int i))
theorem evi_c (i : Int) : EvI G0 σ (tC (.int i)) i := fun H Q _ q => q
theorem evi_var {i : Nat} {n : Int} (e : σ[i]? = some (some (.int n))) : EvI G0 σ (tVar i) n := fun H Q _ q => ⟨_, e, q⟩
theorem evi_op {g : Int → Int → Int} {ta tb : TE} {i j : Int} (ha : EvI G0 σ ta i) (hb : EvI G0 σ tb j) : EvI G0 σ (tOp (rI0 fun i j => .int (g i j)) ta tb) (g i j) := fun H Q s q => ha H _ s (hb H _ s ⟨i, j, rfl, rfl, q⟩)
theorem da_tup {G : Hp} {v : V} {ds : List PyData} (h : Da G v (.tuple ds)) : ∃ a xs, v = .ref a ∧ G a = some (.tup xs) ∧ DaAll G xs ds := by
  cases h with
  | tup h k => exact ⟨_, _, rfl, h, k⟩
theorem ev_cat {ta tb : TE} {ds es : List PyData} (ha : Ev G0 σ ta (.tuple ds)) (hb : Ev G0 σ tb (.tuple es)) (l : ds.length + es.length ≤ 1000) : Ev G0 σ (tOp (rCatA K) ta tb) (.tuple (ds ++ es)) := fun G H Q g gh q =>
  ha G H _ g gh fun v G1 H1 s1 dv => hb G1 H1 _ (g.trans s1.gg) s1.gh fun u G2 H2 s2 du => by
    obtain ⟨a, xs, rfl, h1, k1⟩ := da_tup (dv.up s2.gg)
    obtain ⟨b, ys, rfl, h2, k2⟩ := da_tup du
    have s := s1.trans s2
    have l1 := k1.length
    have l2 := k2.length
    refine ⟨a, b, xs, ys, rfl, rfl, .of (s2.gh _ _ h1), .of (s2.gh _ _ h2), Nat.le_trans (by omega : _ ≤ 1000) (by decide), fun e => ?_, fun _ e => ?_, fun _ _ p hp => ?_⟩
    · subst e
      have : ds = [] := List.eq_nil_of_length_eq_zero l1.symm
      subst this
      exact q _ G2 H2 s (.tup h2 k2)
    · subst e
      have : es = [] := List.eq_nil_of_length_eq_zero l2.symm
      subst this
      rw [List.append_nil] at q
      exact q _ G2 H2 s (.tup h1 k1)
    · obtain ⟨G3, s3, g3, k3, -⟩ := s.know2 ⟨hp, rfl⟩
      exact q _ G3 _ s3 (.tup k3 ((k1.append k2).up g3))
def EvO (G0 : Hp) (σ : L2.St) (t : TO) (o : Option Int) : Prop := ∀ (H : Hp) (Q : Option Int → Hp → Prop), Same G0 H → Q o H → t σ H Q
theorem evo_none : EvO G0 σ tNoPart none := fun H Q _ q => q
theorem evo_some {t : TE} {i : Int} (h : EvI G0 σ t i) : EvO G0 σ (tPart t) (some i) := fun H Q s q => h H _ s ⟨i, rfl, q⟩
end
end Hd

namespace Hd
open PySem PySem.Spec PyProof.Rows L2
def topS (i : Nat) : Stmt := PySem.Challenge.pw_heldorder_k56_every_order_is_tight_if_le.main.body.getD i (.Pass ⟨0, 0, 0, 0⟩)
abbrev s_is_number : Stmt := topS 22
theorem sc_is_number : FnScope ["value", "low", "high"] ["value", "low", "high"] (defScope s_is_number) := ⟨rfl, rfl, rfl, by decide +kernel, rfl, by decide +kernel, by decide +kernel⟩
abbrev s_is_point : Stmt := topS 23
theorem sc_is_point : FnScope ["points", "value"] ["points", "value"] (defScope s_is_point) := ⟨rfl, rfl, rfl, by decide +kernel, rfl, by decide +kernel, by decide +kernel⟩
abbrev s_is_row_of : Stmt := topS 24
theorem sc_is_row_of : FnScope ["points", "value", "entry"] ["points", "value"] (defScope s_is_row_of) := ⟨rfl, rfl, rfl, by decide +kernel, rfl, by decide +kernel, by decide +kernel⟩
abbrev s_is_tuple_of : Stmt := topS 25
theorem sc_is_tuple_of : FnScope ["points", "value"] ["points", "value"] (defScope s_is_tuple_of) := ⟨rfl, rfl, rfl, by decide +kernel, rfl, by decide +kernel, by decide +kernel⟩
abbrev s_is_move_on : Stmt := topS 26
theorem sc_is_move_on : FnScope ["points", "value", "image"] ["points", "value"] (defScope s_is_move_on) := ⟨rfl, rfl, rfl, by decide +kernel, rfl, by decide +kernel, by decide +kernel⟩
abbrev s_check_number : Stmt := topS 27
theorem sc_check_number : FnScope ["value", "low", "high"] ["value", "low", "high"] (defScope s_check_number) := ⟨rfl, rfl, rfl, by decide +kernel, rfl, by decide +kernel, by decide +kernel⟩
abbrev s_check_points : Stmt := topS 28
theorem sc_check_points : FnScope ["value"] ["value"] (defScope s_check_points) := ⟨rfl, rfl, rfl, by decide +kernel, rfl, by decide +kernel, by decide +kernel⟩
abbrev s_check_point : Stmt := topS 29
theorem sc_check_point : FnScope ["points", "value"] ["points", "value"] (defScope s_check_point) := ⟨rfl, rfl, rfl, by decide +kernel, rfl, by decide +kernel, by decide +kernel⟩
abbrev s_check_row : Stmt := topS 30
theorem sc_check_row : FnScope ["points", "row", "value"] ["points", "row"] (defScope s_check_row) := ⟨rfl, rfl, rfl, by decide +kernel, rfl, by decide +kernel, by decide +kernel⟩
abbrev s_check_moves : Stmt := topS 31
theorem sc_check_moves : FnScope ["points", "moves", "what", "limit", "index", "value"] ["points", "moves", "what", "limit"] (defScope s_check_moves) := ⟨rfl, rfl, rfl, by decide +kernel, rfl, by decide +kernel, by decide +kernel⟩
abbrev s_closure : Stmt := topS 33
theorem sc_closure : FnScope ["world", "lot"] ["world", "lot"] (defScope s_closure) := ⟨rfl, rfl, rfl, by decide +kernel, rfl, by decide +kernel, by decide +kernel⟩
abbrev s_bits_of : Stmt := topS 34
theorem sc_bits_of : FnScope ["lot", "point"] ["lot"] (defScope s_bits_of) := ⟨rfl, rfl, rfl, by decide +kernel, rfl, by decide +kernel, by decide +kernel⟩
abbrev s_lot_of : Stmt := topS 35
theorem sc_lot_of : FnScope ["bits", "point"] ["bits"] (defScope s_lot_of) := ⟨rfl, rfl, rfl, by decide +kernel, rfl, by decide +kernel, by decide +kernel⟩
abbrev s_has_point : Stmt := topS 36
theorem sc_has_point : FnScope ["bits", "point"] ["bits", "point"] (defScope s_has_point) := ⟨rfl, rfl, rfl, by decide +kernel, rfl, by decide +kernel, by decide +kernel⟩
abbrev s_mark_bits : Stmt := topS 37
theorem sc_mark_bits : FnScope ["world", "move", "point", "image"] ["world"] (defScope s_mark_bits) := ⟨rfl, rfl, rfl, by decide +kernel, rfl, by decide +kernel, by decide +kernel⟩
abbrev s_closed_bits : Stmt := topS 38
theorem sc_closed_bits : FnScope ["marked", "bits", "closed", "mark"] ["marked", "bits"] (defScope s_closed_bits) := ⟨rfl, rfl, rfl, by decide +kernel, rfl, by decide +kernel, by decide +kernel⟩
abbrev s_carry : Stmt := topS 40
theorem sc_carry : FnScope ["move", "row", "point"] ["move", "row"] (defScope s_carry) := ⟨rfl, rfl, rfl, by decide +kernel, rfl, by decide +kernel, by decide +kernel⟩
abbrev s_still_move : Stmt := topS 41
theorem sc_still_move : FnScope ["points"] ["points"] (defScope s_still_move) := ⟨rfl, rfl, rfl, by decide +kernel, rfl, by decide +kernel, by decide +kernel⟩
abbrev s_best_words : Stmt := topS 43
theorem sc_best_words : FnScope ["row", "told", "words", "layer"] ["row", "told"] (defScope s_best_words) := ⟨rfl, rfl, rfl, by decide +kernel, rfl, by decide +kernel, by decide +kernel⟩
abbrev s_make_all : Stmt := topS 44
theorem sc_make_all : FnScope ["points", "moves"] ["points", "moves"] (defScope s_make_all) := ⟨rfl, rfl, rfl, by decide +kernel, rfl, by decide +kernel, by decide +kernel⟩
abbrev s_next_layer : Stmt := topS 46
theorem sc_next_layer : FnScope ["layer", "told", "words", "found", "row", "index", "move", "image"] ["layer", "told", "words"] (defScope s_next_layer) := ⟨rfl, rfl, rfl, by decide +kernel, rfl, by decide +kernel, by decide +kernel⟩
abbrev s_those_holding : Stmt := topS 48
theorem sc_those_holding : FnScope ["moves", "lot", "move"] ["moves", "lot"] (defScope s_those_holding) := ⟨rfl, rfl, rfl, by decide +kernel, rfl, by decide +kernel, by decide +kernel⟩
abbrev s_holders : Stmt := topS 49
theorem sc_holders : FnScope ["world", "lot"] ["world", "lot"] (defScope s_holders) := ⟨rfl, rfl, rfl, by decide +kernel, rfl, by decide +kernel, by decide +kernel⟩
abbrev s_holder_counts : Stmt := topS 50
theorem sc_holder_counts : FnScope ["world", "row", "left", "counts", "point"] ["world", "row"] (defScope s_holder_counts) := ⟨rfl, rfl, rfl, by decide +kernel, rfl, by decide +kernel, by decide +kernel⟩
abbrev s_loose_indexes : Stmt := topS 52
theorem sc_loose_indexes : FnScope ["world", "row", "counts", "index"] ["world", "row"] (defScope s_loose_indexes) := ⟨rfl, rfl, rfl, by decide +kernel, rfl, by decide +kernel, by decide +kernel⟩
abbrev s_is_tight : Stmt := topS 53
theorem sc_is_tight : FnScope ["world", "row"] ["world", "row"] (defScope s_is_tight) := ⟨rfl, rfl, rfl, by decide +kernel, rfl, by decide +kernel, by decide +kernel⟩
abbrev s_is_full : Stmt := topS 54
theorem sc_is_full : FnScope ["world", "row"] ["world", "row"] (defScope s_is_full) := ⟨rfl, rfl, rfl, by decide +kernel, rfl, by decide +kernel, by decide +kernel⟩
abbrev s_needless_indexes : Stmt := topS 55
theorem sc_needless_indexes : FnScope ["world", "row", "many", "index"] ["world", "row"] (defScope s_needless_indexes) := ⟨rfl, rfl, rfl, by decide +kernel, rfl, by decide +kernel, by decide +kernel⟩
abbrev s_without : Stmt := topS 56
theorem sc_without : FnScope ["row", "index"] ["row", "index"] (defScope s_without) := ⟨rfl, rfl, rfl, by decide +kernel, rfl, by decide +kernel, by decide +kernel⟩
abbrev s_check_tight : Stmt := topS 57
theorem sc_check_tight : FnScope ["world", "row", "loose"] ["world", "row"] (defScope s_check_tight) := ⟨rfl, rfl, rfl, by decide +kernel, rfl, by decide +kernel, by decide +kernel⟩
abbrev s_check_full : Stmt := topS 58
theorem sc_check_full : FnScope ["world", "row", "closed", "outside", "point"] ["world", "row"] (defScope s_check_full) := ⟨rfl, rfl, rfl, by decide +kernel, rfl, by decide +kernel, by decide +kernel⟩
abbrev s_is_tight_full_row : Stmt := topS 59
theorem sc_is_tight_full_row : FnScope ["world", "value"] ["world", "value"] (defScope s_is_tight_full_row) := ⟨rfl, rfl, rfl, by decide +kernel, rfl, by decide +kernel, by decide +kernel⟩
abbrev s_check_tight_full : Stmt := topS 61
theorem sc_check_tight_full : FnScope ["world", "row"] ["world", "row"] (defScope s_check_tight_full) := ⟨rfl, rfl, rfl, by decide +kernel, rfl, by decide +kernel, by decide +kernel⟩
abbrev s_every_order_tight : Stmt := topS 63
theorem sc_every_order_tight : FnScope ["world", "row"] ["world", "row"] (defScope s_every_order_tight) := ⟨rfl, rfl, rfl, by decide +kernel, rfl, by decide +kernel, by decide +kernel⟩
abbrev s_bad_order : Stmt := topS 64
theorem sc_bad_order : FnScope ["world", "row", "needless"] ["world", "row"] (defScope s_bad_order) := ⟨rfl, rfl, rfl, by decide +kernel, rfl, by decide +kernel, by decide +kernel⟩
abbrev s_is_bad_order : Stmt := topS 65
theorem sc_is_bad_order : FnScope ["world", "value", "row", "other", "index"] ["world", "value"] (defScope s_is_bad_order) := ⟨rfl, rfl, rfl, by decide +kernel, rfl, by decide +kernel, by decide +kernel⟩
abbrev s_law_store : Stmt := topS 67
theorem sc_law_store : FnScope ["script", "cell"] ["script"] (defScope s_law_store) := ⟨rfl, rfl, rfl, by decide +kernel, rfl, by decide +kernel, by decide +kernel⟩
abbrev s_law_mixed : Stmt := topS 68
theorem sc_law_mixed : FnScope ["seed", "turn", "first", "second"] ["seed", "turn"] (defScope s_law_mixed) := ⟨rfl, rfl, rfl, by decide +kernel, rfl, by decide +kernel, by decide +kernel⟩
abbrev s_law_take : Stmt := topS 69
theorem sc_law_take : FnScope ["store", "many", "cell", "digit"] ["store", "many"] (defScope s_law_take) := ⟨rfl, rfl, rfl, by decide +kernel, rfl, by decide +kernel, by decide +kernel⟩
abbrev s_law_pick : Stmt := topS 70
theorem sc_law_pick : FnScope ["store", "things"] ["store", "things"] (defScope s_law_pick) := ⟨rfl, rfl, rfl, by decide +kernel, rfl, by decide +kernel, by decide +kernel⟩
abbrev s_law_place : Stmt := topS 71
theorem sc_law_place : FnScope ["store", "size", "pick"] ["store", "size"] (defScope s_law_place) := ⟨rfl, rfl, rfl, by decide +kernel, rfl, by decide +kernel, by decide +kernel⟩
abbrev s_law_drawn : Stmt := topS 72
theorem sc_law_drawn : FnScope ["store", "things", "many", "pool", "found", "k", "at"] ["store", "things", "many"] (defScope s_law_drawn) := ⟨rfl, rfl, rfl, by decide +kernel, rfl, by decide +kernel, by decide +kernel⟩
abbrev s_law_either : Stmt := topS 73
theorem sc_law_either : FnScope ["store", "entries"] ["store", "entries"] (defScope s_law_either) := ⟨rfl, rfl, rfl, by decide +kernel, rfl, by decide +kernel, by decide +kernel⟩
abbrev s_law_is_whole : Stmt := topS 74
theorem sc_law_is_whole : FnScope ["value"] ["value"] (defScope s_law_is_whole) := ⟨rfl, rfl, rfl, by decide +kernel, rfl, by decide +kernel, by decide +kernel⟩
abbrev s_law_after : Stmt := topS 75
theorem sc_law_after : FnScope ["first", "second", "p"] ["first", "second"] (defScope s_law_after) := ⟨rfl, rfl, rfl, by decide +kernel, rfl, by decide +kernel, by decide +kernel⟩
abbrev s_law_renamed : Stmt := topS 76
theorem sc_law_renamed : FnScope ["move", "by", "image", "k"] ["move", "by"] (defScope s_law_renamed) := ⟨rfl, rfl, rfl, by decide +kernel, rfl, by decide +kernel, by decide +kernel⟩
abbrev s_law_group : Stmt := topS 77
theorem sc_law_group : FnScope ["points", "told", "most", "still", "queue", "seen", "at", "move", "image"] ["points", "told", "most"] (defScope s_law_group) := ⟨rfl, rfl, rfl, by decide +kernel, rfl, by decide +kernel, by decide +kernel⟩
abbrev s_law_cut : Stmt := topS 78
theorem sc_law_cut : FnScope ["points", "told", "most", "left", "made", "move", "wider"] ["points", "told", "most"] (defScope s_law_cut) := ⟨rfl, rfl, rfl, by decide +kernel, rfl, by decide +kernel, by decide +kernel⟩
abbrev s_law_holders : Stmt := topS 79
theorem sc_law_holders : FnScope ["made", "row", "left", "p", "move"] ["made", "row"] (defScope s_law_holders) := ⟨rfl, rfl, rfl, by decide +kernel, rfl, by decide +kernel, by decide +kernel⟩
abbrev s_law_turns : Stmt := topS 80
theorem sc_law_turns : FnScope ["store", "big", "parts", "sizes", "k", "size", "told", "j", "image", "base", "shift"] ["store"] (defScope s_law_turns) := ⟨rfl, rfl, rfl, by decide +kernel, rfl, by decide +kernel, by decide +kernel⟩
abbrev s_law_any_world : Stmt := topS 81
theorem sc_law_any_world : FnScope ["store", "most", "pick", "points", "told", "by", "both", "k", "move"] ["store", "most"] (defScope s_law_any_world) := ⟨rfl, rfl, rfl, by decide +kernel, rfl, by decide +kernel, by decide +kernel⟩
abbrev s_law_built : Stmt := topS 82
theorem sc_law_built : FnScope ["store", "drawn", "told", "world"] ["store", "drawn"] (defScope s_law_built) := ⟨rfl, rfl, rfl, by decide +kernel, rfl, by decide +kernel, by decide +kernel⟩
abbrev s_law_wrong_number : Stmt := topS 83
theorem sc_law_wrong_number : FnScope ["store", "low", "high", "far"] ["store", "low", "high"] (defScope s_law_wrong_number) := ⟨rfl, rfl, rfl, by decide +kernel, rfl, by decide +kernel, by decide +kernel⟩
abbrev s_law_wrong_row : Stmt := topS 84
theorem sc_law_wrong_row : FnScope ["store", "points", "row", "value", "wide", "at", "bent"] ["store", "points", "row"] (defScope s_law_wrong_row) := ⟨rfl, rfl, rfl, by decide +kernel, rfl, by decide +kernel, by decide +kernel⟩
abbrev s_law_tight_at : Stmt := topS 85
theorem sc_law_tight_at : FnScope ["made", "row", "found", "move", "k"] ["made", "row"] (defScope s_law_tight_at) := ⟨rfl, rfl, rfl, by decide +kernel, rfl, by decide +kernel, by decide +kernel⟩
abbrev s_law_row_fault : Stmt := topS 86
theorem sc_law_row_fault : FnScope ["points", "made", "row", "tight", "loose", "free", "k"] ["points", "made", "row"] (defScope s_law_row_fault) := ⟨rfl, rfl, rfl, by decide +kernel, rfl, by decide +kernel, by decide +kernel⟩
abbrev s_law_near_row : Stmt := topS 87
theorem sc_law_near_row : FnScope ["store", "points", "made", "row", "pick", "at", "k"] ["store", "points", "made"] (defScope s_law_near_row) := ⟨rfl, rfl, rfl, by decide +kernel, rfl, by decide +kernel, by decide +kernel⟩
abbrev s_law_tall_world : Stmt := topS 88
theorem sc_law_tall_world : FnScope ["store", "which", "told", "pairs", "pair", "image", "by", "move"] ["store", "which"] (defScope s_law_tall_world) := ⟨rfl, rfl, rfl, by decide +kernel, rfl, by decide +kernel, by decide +kernel⟩
abbrev s_law_order_count : Stmt := topS 89
theorem sc_law_order_count : FnScope ["made", "row", "states", "k", "wider", "key", "pair", "at", "fewer", "spot", "old", "move"] ["made", "row"] (defScope s_law_order_count) := ⟨rfl, rfl, rfl, by decide +kernel, rfl, by decide +kernel, by decide +kernel⟩
abbrev s_law_needless : Stmt := topS 90
theorem sc_law_needless : FnScope ["made", "row", "many", "k"] ["made", "row"] (defScope s_law_needless) := ⟨rfl, rfl, rfl, by decide +kernel, rfl, by decide +kernel, by decide +kernel⟩
abbrev s_law_is_order : Stmt := topS 91
theorem sc_law_is_order : FnScope ["points", "made", "value", "row", "other", "entry"] ["points", "made", "value"] (defScope s_law_is_order) := ⟨rfl, rfl, rfl, by decide +kernel, rfl, by decide +kernel, by decide +kernel⟩
abbrev s_law_some_move : Stmt := topS 92
theorem sc_law_some_move : FnScope ["store", "points", "image", "chosen", "k"] ["store", "points"] (defScope s_law_some_move) := ⟨rfl, rfl, rfl, by decide +kernel, rfl, by decide +kernel, by decide +kernel⟩
abbrev s_law_agree : Stmt := topS 93
theorem sc_law_agree : FnScope ["actual", "due", "k"] ["actual", "due"] (defScope s_law_agree) := ⟨rfl, rfl, rfl, by decide +kernel, rfl, by decide +kernel, by decide +kernel⟩
abbrev s_law_moved : Stmt := topS 94
theorem sc_law_moved : FnScope ["points", "moves", "found", "move", "p"] ["points", "moves"] (defScope s_law_moved) := ⟨rfl, rfl, rfl, by decide +kernel, rfl, by decide +kernel, by decide +kernel⟩
abbrev s_law_full_row : Stmt := topS 95
theorem sc_law_full_row : FnScope ["store", "points", "made", "row", "left", "k", "free"] ["store", "points", "made"] (defScope s_law_full_row) := ⟨rfl, rfl, rfl, by decide +kernel, rfl, by decide +kernel, by decide +kernel⟩
abbrev s_law_kinds : Stmt := topS 96
theorem sc_law_kinds : FnScope ["error", "kinds", "flag"] ["error"] (defScope s_law_kinds) := ⟨rfl, rfl, rfl, by decide +kernel, rfl, by decide +kernel, by decide +kernel⟩
abbrev s_law_right_error : Stmt := topS 97
theorem sc_law_right_error : FnScope ["error", "due", "told", "one"] ["error", "due"] (defScope s_law_right_error) := ⟨rfl, rfl, rfl, by decide +kernel, rfl, by decide +kernel, by decide +kernel⟩
abbrev s_law_refuses : Stmt := topS 98
theorem sc_law_refuses : FnScope ["world", "row", "order", "due", "error"] ["world", "row", "order", "due"] (defScope s_law_refuses) := ⟨rfl, rfl, rfl, by decide +kernel, rfl, by decide +kernel, by decide +kernel⟩
abbrev s_law_orders_hold : Stmt := topS 99
theorem sc_law_orders_hold : FnScope ["store", "world", "drawn", "row", "made", "handed", "fault", "every", "k", "tight", "needless", "due", "at", "actual", "other", "value"] ["store", "world", "drawn", "row"] (defScope s_law_orders_hold) := ⟨rfl, rfl, rfl, by decide +kernel, rfl, by decide +kernel, by decide +kernel⟩
abbrev s_law : Stmt := topS 100
theorem sc_law : FnScope ["script", "store", "drawn", "world", "beside", "other", "row", "far", "good", "bad", "more"] ["script"] (defScope s_law) := ⟨rfl, rfl, rfl, by decide +kernel, rfl, by decide +kernel, by decide +kernel⟩
abbrev s_World___init__ : Stmt := inClass (topS 45) 0
theorem sc_World___init__ : FnScope ["self", "points", "moves"] ["self", "points", "moves"] (defScope s_World___init__) := ⟨rfl, rfl, rfl, by decide +kernel, rfl, by decide +kernel, by decide +kernel⟩
abbrev s_World_points : Stmt := inClass (topS 45) 1
theorem sc_World_points : FnScope ["self"] ["self"] (defScope s_World_points) := ⟨rfl, rfl, rfl, by decide +kernel, rfl, by decide +kernel, by decide +kernel⟩
abbrev s_World_told : Stmt := inClass (topS 45) 2
theorem sc_World_told : FnScope ["self"] ["self"] (defScope s_World_told) := ⟨rfl, rfl, rfl, by decide +kernel, rfl, by decide +kernel, by decide +kernel⟩
abbrev s_World_made : Stmt := inClass (topS 45) 3
theorem sc_World_made : FnScope ["self"] ["self"] (defScope s_World_made) := ⟨rfl, rfl, rfl, by decide +kernel, rfl, by decide +kernel, by decide +kernel⟩
abbrev s_World___len__ : Stmt := inClass (topS 45) 4
theorem sc_World___len__ : FnScope ["self"] ["self"] (defScope s_World___len__) := ⟨rfl, rfl, rfl, by decide +kernel, rfl, by decide +kernel, by decide +kernel⟩
abbrev s_World___iter__ : Stmt := inClass (topS 45) 5
theorem sc_World___iter__ : FnScope ["self"] ["self"] (defScope s_World___iter__) := ⟨rfl, rfl, rfl, by decide +kernel, rfl, by decide +kernel, by decide +kernel⟩
abbrev s_World___contains__ : Stmt := inClass (topS 45) 6
abbrev s_World___eq__ : Stmt := inClass (topS 45) 7
theorem sc_World___eq__ : FnScope ["self", "other"] ["self", "other"] (defScope s_World___eq__) := ⟨rfl, rfl, rfl, by decide +kernel, rfl, by decide +kernel, by decide +kernel⟩
structure Zs (mg : Str → Option Value) : Prop where
  z_ValueError : mg "ValueError" = none
  z_isinstance : mg "isinstance" = none
  z_int : mg "int" = none
  z_bool : mg "bool" = none
  z_str : mg "str" = none
  z_tuple : mg "tuple" = none
  z_list : mg "list" = none
  z_len : mg "len" = none
  z_range : mg "range" = none
  z_all : mg "all" = none
  z_sorted : mg "sorted" = none
  z_min : mg "min" = none
  z_sum : mg "sum" = none
  z_enumerate : mg "enumerate" = none
  z_iter : mg "iter" = none
  z_set : mg "set" = none
  c_MOST_POINTS : ∃ t, mg "MOST_POINTS" = some (.int 12 t)
  c_MOST_TOLD : ∃ t, mg "MOST_TOLD" = some (.int 8 t)
  c_MOST_MADE : ∃ t, mg "MOST_MADE" = some (.int 400 t)
  c_MOST_ROW : ∃ t, mg "MOST_ROW" = some (.int 24 t)
structure Ds (K : PySem.W.Frag) (mg : Str → Option Value) : Prop where
  d_is_number : Def K mg "is_number" s_is_number ["value", "low", "high"]
  d_is_point : Def K mg "is_point" s_is_point ["points", "value"]
  d_is_row_of : Def K mg "is_row_of" s_is_row_of ["points", "value"]
  d_is_tuple_of : Def K mg "is_tuple_of" s_is_tuple_of ["points", "value"]
  d_is_move_on : Def K mg "is_move_on" s_is_move_on ["points", "value"]
  d_check_number : Def K mg "check_number" s_check_number ["value", "low", "high"]
  d_check_points : Def K mg "check_points" s_check_points ["value"]
  d_check_point : Def K mg "check_point" s_check_point ["points", "value"]
  d_check_row : Def K mg "check_row" s_check_row ["points", "row"]
  d_check_moves : Def K mg "check_moves" s_check_moves ["points", "moves", "what", "limit"]
  d_closure : Def K mg "closure" s_closure ["world", "lot"]
  d_bits_of : Def K mg "bits_of" s_bits_of ["lot"]
  d_lot_of : Def K mg "lot_of" s_lot_of ["bits"]
  d_has_point : Def K mg "has_point" s_has_point ["bits", "point"]
  d_mark_bits : Def K mg "mark_bits" s_mark_bits ["world"]
  d_closed_bits : Def K mg "closed_bits" s_closed_bits ["marked", "bits"]
  d_carry : Def K mg "carry" s_carry ["move", "row"]
  d_still_move : Def K mg "still_move" s_still_move ["points"]
  d_best_words : Def K mg "best_words" s_best_words ["row", "told"]
  d_make_all : DefD K mg "make_all" s_make_all ["points", "moves"]
  d_next_layer : Def K mg "_next_layer" s_next_layer ["layer", "told", "words"]
  d_those_holding : Def K mg "those_holding" s_those_holding ["moves", "lot"]
  d_holders : Def K mg "holders" s_holders ["world", "lot"]
  d_holder_counts : Def K mg "holder_counts" s_holder_counts ["world", "row"]
  d_loose_indexes : Def K mg "loose_indexes" s_loose_indexes ["world", "row"]
  d_is_tight : Def K mg "is_tight" s_is_tight ["world", "row"]
  d_is_full : Def K mg "is_full" s_is_full ["world", "row"]
  d_needless_indexes : Def K mg "needless_indexes" s_needless_indexes ["world", "row"]
  d_without : Def K mg "without" s_without ["row", "index"]
  d_check_tight : Def K mg "check_tight" s_check_tight ["world", "row"]
  d_check_full : Def K mg "check_full" s_check_full ["world", "row"]
  d_is_tight_full_row : Def K mg "is_tight_full_row" s_is_tight_full_row ["world", "value"]
  d_check_tight_full : Def K mg "check_tight_full" s_check_tight_full ["world", "row"]
  d_every_order_tight : Def K mg "every_order_tight" s_every_order_tight ["world", "row"]
  d_bad_order : Def K mg "bad_order" s_bad_order ["world", "row"]
  d_is_bad_order : Def K mg "is_bad_order" s_is_bad_order ["world", "value"]
  d_law_store : Def K mg "_law_store" s_law_store ["script"]
  d_law_mixed : Def K mg "_law_mixed" s_law_mixed ["seed", "turn"]
  d_law_take : Def K mg "_law_take" s_law_take ["store", "many"]
  d_law_pick : Def K mg "_law_pick" s_law_pick ["store", "things"]
  d_law_place : Def K mg "_law_place" s_law_place ["store", "size"]
  d_law_drawn : Def K mg "_law_drawn" s_law_drawn ["store", "things", "many"]
  d_law_either : Def K mg "_law_either" s_law_either ["store", "entries"]
  d_law_is_whole : Def K mg "_law_is_whole" s_law_is_whole ["value"]
  d_law_after : Def K mg "_law_after" s_law_after ["first", "second"]
  d_law_renamed : Def K mg "_law_renamed" s_law_renamed ["move", "by"]
  d_law_group : Def K mg "_law_group" s_law_group ["points", "told", "most"]
  d_law_cut : Def K mg "_law_cut" s_law_cut ["points", "told", "most"]
  d_law_holders : Def K mg "_law_holders" s_law_holders ["made", "row"]
  d_law_turns : Def K mg "_law_turns" s_law_turns ["store"]
  d_law_any_world : Def K mg "_law_any_world" s_law_any_world ["store", "most"]
  d_law_built : Def K mg "_law_built" s_law_built ["store", "drawn"]
  d_law_wrong_number : Def K mg "_law_wrong_number" s_law_wrong_number ["store", "low", "high"]
  d_law_wrong_row : Def K mg "_law_wrong_row" s_law_wrong_row ["store", "points", "row"]
  d_law_tight_at : Def K mg "_law_tight_at" s_law_tight_at ["made", "row"]
  d_law_row_fault : Def K mg "_law_row_fault" s_law_row_fault ["points", "made", "row"]
  d_law_near_row : Def K mg "_law_near_row" s_law_near_row ["store", "points", "made"]
  d_law_tall_world : Def K mg "_law_tall_world" s_law_tall_world ["store", "which"]
  d_law_order_count : Def K mg "_law_order_count" s_law_order_count ["made", "row"]
  d_law_needless : Def K mg "_law_needless" s_law_needless ["made", "row"]
  d_law_is_order : Def K mg "_law_is_order" s_law_is_order ["points", "made", "value"]
  d_law_some_move : Def K mg "_law_some_move" s_law_some_move ["store", "points"]
  d_law_agree : Def K mg "_law_agree" s_law_agree ["actual", "due"]
  d_law_moved : Def K mg "_law_moved" s_law_moved ["points", "moves"]
  d_law_full_row : Def K mg "_law_full_row" s_law_full_row ["store", "points", "made"]
  d_law_kinds : Def K mg "_law_kinds" s_law_kinds ["error"]
  d_law_right_error : Def K mg "_law_right_error" s_law_right_error ["error", "due"]
  d_law_refuses : Def K mg "_law_refuses" s_law_refuses ["world", "row", "order", "due"]
  d_law_orders_hold : Def K mg "_law_orders_hold" s_law_orders_hold ["store", "world", "drawn", "row"]
structure Dw (K : PySem.W.Frag) (mg : Str → Option Value) (CW : Addr) : Prop where
  wc : WCls K mg "World" CW
  n_made : NoAttr K CW "_made"
  n_points : NoAttr K CW "_points"
  n_told : NoAttr K CW "_told"
  d_World___init__ : MDef K CW "__init__" "World.__init__" s_World___init__ ["self", "points", "moves"]
  d_World_points : PDef K CW "points" "World.points" s_World_points ["self"]
  d_World_told : PDef K CW "told" "World.told" s_World_told ["self"]
  d_World_made : PDef K CW "made" "World.made" s_World_made ["self"]
  d_World___len__ : MDef K CW "__len__" "World.__len__" s_World___len__ ["self"]
  d_World___iter__ : MDef K CW "__iter__" "World.__iter__" s_World___iter__ ["self"]
  d_World___contains__ : MDef K CW "__contains__" "World.__contains__" s_World___contains__ ["self", "value"]
  d_World___eq__ : MDef K CW "__eq__" "World.__eq__" s_World___eq__ ["self", "other"]
/-- the class named nm at D, the k-th of those that are told apart -/
structure Es (K : PySem.W.Frag) (mg : Str → Option Value) (k : Nat) (nm : Str) (D : Addr) : Prop where
  ec : Ec K mg nm D
  lt : k < 15
  i_BadNumber : Isx K mg D "BadNumber" (k == 0)
  i_NoSuchLength : Isx K mg D "NoSuchLength" (k == 1)
  i_NotABase : Isx K mg D "NotABase" (k == 2)
  i_NotAFailing : Isx K mg D "NotAFailing" (k == 3)
  i_NotAMove : Isx K mg D "NotAMove" (k == 4)
  i_NotAPoint : Isx K mg D "NotAPoint" (k == 5)
  i_NotAnOrder : Isx K mg D "NotAnOrder" (k == 6)
  i_NotFull : Isx K mg D "NotFull" (k == 7)
  i_NotNeighbours : Isx K mg D "NotNeighbours" (k == 8)
  i_NotShorter : Isx K mg D "NotShorter" (k == 9)
  i_NotTight : Isx K mg D "NotTight" (k == 10)
  i_OrderMatters : Isx K mg D "OrderMatters" (k == 11)
  i_SameLength : Isx K mg D "SameLength" (k == 12)
  i_TooMany : Isx K mg D "TooMany" (k == 13)
  i_UnlikeSizes : Isx K mg D "UnlikeSizes" (k == 14)
  iH : Isx K mg D "HeldorderError" true
  hH : Hnd K mg "HeldorderError" D true
  iV : PySem.W.kitOne K (.ref D) (.type "ValueError") = some true
abbrev s_ini_BadNumber : Stmt := (clsB (topS 6)).getD 0 (.Pass ⟨0, 0, 0, 0⟩)
theorem sc_ini_BadNumber : FnScope ["self", "value", "low", "high"] ["self", "value", "low", "high"] (defScope s_ini_BadNumber) := ⟨rfl, rfl, rfl, by decide +kernel, rfl, by decide +kernel, by decide +kernel⟩
abbrev s_ini_NotAMove : Stmt := (clsB (topS 8)).getD 0 (.Pass ⟨0, 0, 0, 0⟩)
theorem sc_ini_NotAMove : FnScope ["self", "index"] ["self", "index"] (defScope s_ini_NotAMove) := ⟨rfl, rfl, rfl, by decide +kernel, rfl, by decide +kernel, by decide +kernel⟩
abbrev s_ini_TooMany : Stmt := (clsB (topS 9)).getD 0 (.Pass ⟨0, 0, 0, 0⟩)
theorem sc_ini_TooMany : FnScope ["self", "what", "limit"] ["self", "what", "limit"] (defScope s_ini_TooMany) := ⟨rfl, rfl, rfl, by decide +kernel, rfl, by decide +kernel, by decide +kernel⟩
abbrev s_ini_NotAPoint : Stmt := (clsB (topS 7)).getD 0 (.Pass ⟨0, 0, 0, 0⟩)
theorem sc_ini_NotAPoint : FnScope ["self", "value"] ["self", "value"] (defScope s_ini_NotAPoint) := ⟨rfl, rfl, rfl, by decide +kernel, rfl, by decide +kernel, by decide +kernel⟩
abbrev s_ini_NotTight : Stmt := (clsB (topS 11)).getD 0 (.Pass ⟨0, 0, 0, 0⟩)
theorem sc_ini_NotTight : FnScope ["self", "index"] ["self", "index"] (defScope s_ini_NotTight) := ⟨rfl, rfl, rfl, by decide +kernel, rfl, by decide +kernel, by decide +kernel⟩
abbrev s_ini_NotFull : Stmt := (clsB (topS 12)).getD 0 (.Pass ⟨0, 0, 0, 0⟩)
theorem sc_ini_NotFull : FnScope ["self", "point"] ["self", "point"] (defScope s_ini_NotFull) := ⟨rfl, rfl, rfl, by decide +kernel, rfl, by decide +kernel, by decide +kernel⟩
def faL : List He.Fa := ([.glo "law", .free "ValueError", .free "isinstance", .free "int", .free "bool", .free "str", .free "tuple", .free "list", .free "len", .free "range", .free "all", .free "sorted", .free "min", .free "sum", .free "enumerate", .free "iter", .free "set", .int "MOST_POINTS" 12, .int "MOST_TOLD" 8, .int "MOST_MADE" 400, .int "MOST_ROW" 24, .glo "is_number", .glo "is_point", .glo "is_row_of", .glo "is_tuple_of", .glo "is_move_on", .glo "check_number", .glo "check_points", .glo "check_point", .glo "check_row", .glo "check_moves", .glo "closure", .glo "bits_of", .glo "lot_of", .glo "has_point", .glo "mark_bits", .glo "closed_bits", .glo "carry", .glo "still_move", .glo "best_words"] : List (He.Fa)) ++ ([.glo "make_all", .glo "_next_layer", .glo "those_holding", .glo "holders", .glo "holder_counts", .glo "loose_indexes", .glo "is_tight", .glo "is_full", .glo "needless_indexes", .glo "without", .glo "check_tight", .glo "check_full", .glo "is_tight_full_row", .glo "check_tight_full", .glo "every_order_tight", .glo "bad_order", .glo "is_bad_order", .glo "_law_store", .glo "_law_mixed", .glo "_law_take", .glo "_law_pick", .glo "_law_place", .glo "_law_drawn", .glo "_law_either", .glo "_law_is_whole", .glo "_law_after", .glo "_law_renamed", .glo "_law_group", .glo "_law_cut", .glo "_law_holders", .glo "_law_turns", .glo "_law_any_world", .glo "_law_built", .glo "_law_wrong_number", .glo "_law_wrong_row", .glo "_law_tight_at", .glo "_law_row_fault", .glo "_law_near_row", .glo "_law_tall_world", .glo "_law_order_count"] : List (He.Fa)) ++ ([.glo "_law_needless", .glo "_law_is_order", .glo "_law_some_move", .glo "_law_agree", .glo "_law_moved", .glo "_law_full_row", .glo "_law_kinds", .glo "_law_right_error", .glo "_law_refuses", .glo "_law_orders_hold", .glo "World", .noat "World" "_made", .noat "World" "_points", .noat "World" "_told", .meth "World" "__init__", .meth "World" "__len__", .meth "World" "__iter__", .meth "World" "__contains__", .meth "World" "__eq__", .glo "BadNumber", .glo "NotAMove", .glo "TooMany", .glo "NoSuchLength", .glo "NotABase", .glo "NotAFailing", .glo "NotAPoint", .glo "NotAnOrder", .glo "NotFull", .glo "NotNeighbours", .glo "NotShorter", .glo "NotTight", .glo "OrderMatters", .glo "SameLength", .glo "UnlikeSizes", .glo "HeldorderError"] : List (He.Fa))
def fnL0 : List He5.DefA := [dFn "law" s_law, dFn "is_number" s_is_number, dFn "is_point" s_is_point, dFn "is_row_of" s_is_row_of, dFn "is_tuple_of" s_is_tuple_of, dFn "is_move_on" s_is_move_on, dFn "check_number" s_check_number, dFn "check_points" s_check_points, dFn "check_point" s_check_point, dFn "check_row" s_check_row, dFn "check_moves" s_check_moves, dFn "closure" s_closure, dFn "bits_of" s_bits_of, dFn "lot_of" s_lot_of, dFn "has_point" s_has_point, dFn "mark_bits" s_mark_bits, dFn "closed_bits" s_closed_bits, dFn "carry" s_carry, dFn "still_move" s_still_move, dFn "best_words" s_best_words, dFnD "make_all" s_make_all, dFn "_next_layer" s_next_layer, dFn "those_holding" s_those_holding, dFn "holders" s_holders, dFn "holder_counts" s_holder_counts, dFn "loose_indexes" s_loose_indexes, dFn "is_tight" s_is_tight, dFn "is_full" s_is_full, dFn "needless_indexes" s_needless_indexes, dFn "without" s_without, dFn "check_tight" s_check_tight, dFn "check_full" s_check_full, dFn "is_tight_full_row" s_is_tight_full_row, dFn "check_tight_full" s_check_tight_full, dFn "every_order_tight" s_every_order_tight, dFn "bad_order" s_bad_order]
def fnL1 : List He5.DefA := [dFn "is_bad_order" s_is_bad_order, dFn "_law_store" s_law_store, dFn "_law_mixed" s_law_mixed, dFn "_law_take" s_law_take, dFn "_law_pick" s_law_pick, dFn "_law_place" s_law_place, dFn "_law_drawn" s_law_drawn, dFn "_law_either" s_law_either, dFn "_law_is_whole" s_law_is_whole, dFn "_law_after" s_law_after, dFn "_law_renamed" s_law_renamed, dFn "_law_group" s_law_group, dFn "_law_cut" s_law_cut, dFn "_law_holders" s_law_holders, dFn "_law_turns" s_law_turns, dFn "_law_any_world" s_law_any_world, dFn "_law_built" s_law_built, dFn "_law_wrong_number" s_law_wrong_number, dFn "_law_wrong_row" s_law_wrong_row, dFn "_law_tight_at" s_law_tight_at, dFn "_law_row_fault" s_law_row_fault, dFn "_law_near_row" s_law_near_row, dFn "_law_tall_world" s_law_tall_world, dFn "_law_order_count" s_law_order_count, dFn "_law_needless" s_law_needless, dFn "_law_is_order" s_law_is_order, dFn "_law_some_move" s_law_some_move, dFn "_law_agree" s_law_agree, dFn "_law_moved" s_law_moved, dFn "_law_full_row" s_law_full_row, dFn "_law_kinds" s_law_kinds, dFn "_law_right_error" s_law_right_error, dFn "_law_refuses" s_law_refuses, dFn "_law_orders_hold" s_law_orders_hold, dMeD "World" "__init__" "World.__init__" s_World___init__, dPr "World" "points" "World.points" s_World_points]
def fnL2 : List He5.DefA := [dPr "World" "told" "World.told" s_World_told, dPr "World" "made" "World.made" s_World_made, dMe "World" "__len__" "World.__len__" s_World___len__, dMe "World" "__iter__" "World.__iter__" s_World___iter__, dMe "World" "__contains__" "World.__contains__" s_World___contains__, dMe "World" "__eq__" "World.__eq__" s_World___eq__, dMe "BadNumber" "__init__" "BadNumber.__init__" s_ini_BadNumber, dMe "NotAMove" "__init__" "NotAMove.__init__" s_ini_NotAMove, dMe "TooMany" "__init__" "TooMany.__init__" s_ini_TooMany, dMe "NotAPoint" "__init__" "NotAPoint.__init__" s_ini_NotAPoint, dMe "NotTight" "__init__" "NotTight.__init__" s_ini_NotTight, dMe "NotFull" "__init__" "NotFull.__init__" s_ini_NotFull]
def fnL : List He5.DefA := fnL0 ++ (fnL1 ++ (fnL2))
def exL : List (PySem.W.Frag → Bool) := ([wcB "World", prB "World" "points", prB "World" "told", prB "World" "made", ecB "BadNumber", xiB "BadNumber" ["value", "low", "high"], ecB "NotAMove", xiB "NotAMove" ["index"], ecB "TooMany", isB "TooMany" "BadNumber" false, isB "TooMany" "NoSuchLength" false, isB "TooMany" "NotABase" false, isB "TooMany" "NotAFailing" false, isB "TooMany" "NotAMove" false, isB "TooMany" "NotAPoint" false, isB "TooMany" "NotAnOrder" false, isB "TooMany" "NotFull" false, isB "TooMany" "NotNeighbours" false, isB "TooMany" "NotShorter" false, isB "TooMany" "NotTight" false, isB "TooMany" "OrderMatters" false, isB "TooMany" "SameLength" false, isB "TooMany" "TooMany" true, isB "TooMany" "UnlikeSizes" false, isB "TooMany" "HeldorderError" true, hnB "TooMany" "HeldorderError" true, ivB "TooMany", xiB "TooMany" ["what", "limit"], ecB "NotAPoint", isB "NotAPoint" "BadNumber" false, isB "NotAPoint" "NoSuchLength" false, isB "NotAPoint" "NotABase" false, isB "NotAPoint" "NotAFailing" false, isB "NotAPoint" "NotAMove" false, isB "NotAPoint" "NotAPoint" true, isB "NotAPoint" "NotAnOrder" false, isB "NotAPoint" "NotFull" false, isB "NotAPoint" "NotNeighbours" false, isB "NotAPoint" "NotShorter" false, isB "NotAPoint" "NotTight" false] : List (PySem.W.Frag → Bool)) ++ ([isB "NotAPoint" "OrderMatters" false, isB "NotAPoint" "SameLength" false, isB "NotAPoint" "TooMany" false, isB "NotAPoint" "UnlikeSizes" false, isB "NotAPoint" "HeldorderError" true, hnB "NotAPoint" "HeldorderError" true, ivB "NotAPoint", xiB "NotAPoint" ["value"], ecB "NotTight", isB "NotTight" "BadNumber" false, isB "NotTight" "NoSuchLength" false, isB "NotTight" "NotABase" false, isB "NotTight" "NotAFailing" false, isB "NotTight" "NotAMove" false, isB "NotTight" "NotAPoint" false, isB "NotTight" "NotAnOrder" false, isB "NotTight" "NotFull" false, isB "NotTight" "NotNeighbours" false, isB "NotTight" "NotShorter" false, isB "NotTight" "NotTight" true, isB "NotTight" "OrderMatters" false, isB "NotTight" "SameLength" false, isB "NotTight" "TooMany" false, isB "NotTight" "UnlikeSizes" false, isB "NotTight" "HeldorderError" true, hnB "NotTight" "HeldorderError" true, ivB "NotTight", xiB "NotTight" ["index"], ecB "NotFull", isB "NotFull" "BadNumber" false, isB "NotFull" "NoSuchLength" false, isB "NotFull" "NotABase" false, isB "NotFull" "NotAFailing" false, isB "NotFull" "NotAMove" false, isB "NotFull" "NotAPoint" false, isB "NotFull" "NotAnOrder" false, isB "NotFull" "NotFull" true, isB "NotFull" "NotNeighbours" false, isB "NotFull" "NotShorter" false, isB "NotFull" "NotTight" false] : List (PySem.W.Frag → Bool)) ++ ([isB "NotFull" "OrderMatters" false, isB "NotFull" "SameLength" false, isB "NotFull" "TooMany" false, isB "NotFull" "UnlikeSizes" false, isB "NotFull" "HeldorderError" true, hnB "NotFull" "HeldorderError" true, ivB "NotFull", xiB "NotFull" ["point"]] : List (PySem.W.Frag → Bool))
abbrev rowL : PySem.W.OpenRow := PySem.W.OpenLaw.row PySem.Challenge.rw_heldorder_k56_every_order_is_tight_if_le
abbrev hkL : PySem.W.Hook := hookW faL fnL exL
def obL (s : PySem.W.SharedT) : He.AlD := obsWG faL fnL exL (HandSHeadRun.getT s)
theorem obL_eq (s : PySem.W.SharedT) : obL s = hkL.obs s.abs := obsWG_eq (HandSHeadRun.getT_eq s)
def looseL : List Str := ([("is_number" : Str), ("is_point" : Str), ("is_row_of" : Str), ("is_tuple_of" : Str), ("is_move_on" : Str), ("check_number" : Str), ("check_points" : Str), ("check_point" : Str), ("check_row" : Str), ("check_moves" : Str)] : List (Str)) ++ ([("closure" : Str), ("bits_of" : Str), ("lot_of" : Str), ("has_point" : Str), ("mark_bits" : Str), ("closed_bits" : Str), ("carry" : Str), ("still_move" : Str), ("best_words" : Str), ("make_all" : Str)] : List (Str)) ++ ([("_next_layer" : Str), ("those_holding" : Str), ("holders" : Str), ("holder_counts" : Str), ("loose_indexes" : Str), ("is_tight" : Str), ("is_full" : Str), ("needless_indexes" : Str), ("without" : Str), ("check_tight" : Str)] : List (Str)) ++ ([("check_full" : Str), ("is_tight_full_row" : Str), ("check_tight_full" : Str), ("every_order_tight" : Str), ("bad_order" : Str), ("is_bad_order" : Str), ("_law_store" : Str), ("_law_mixed" : Str), ("_law_take" : Str), ("_law_pick" : Str)] : List (Str)) ++ ([("_law_place" : Str), ("_law_drawn" : Str), ("_law_either" : Str), ("_law_is_whole" : Str), ("_law_after" : Str), ("_law_renamed" : Str), ("_law_group" : Str), ("_law_cut" : Str), ("_law_holders" : Str), ("_law_turns" : Str)] : List (Str)) ++ ([("_law_any_world" : Str), ("_law_built" : Str), ("_law_wrong_number" : Str), ("_law_wrong_row" : Str), ("_law_tight_at" : Str), ("_law_row_fault" : Str), ("_law_near_row" : Str), ("_law_tall_world" : Str), ("_law_order_count" : Str), ("_law_needless" : Str)] : List (Str)) ++ ([("_law_is_order" : Str), ("_law_some_move" : Str), ("_law_agree" : Str), ("_law_moved" : Str), ("_law_full_row" : Str), ("_law_kinds" : Str), ("_law_right_error" : Str), ("_law_refuses" : Str), ("_law_orders_hold" : Str), ("HeldorderError" : Str)] : List (Str)) ++ ([("BadNumber" : Str), ("NotAPoint" : Str), ("NotAMove" : Str), ("TooMany" : Str), ("UnlikeSizes" : Str), ("NotTight" : Str), ("NotFull" : Str), ("NotAFailing" : Str), ("NotNeighbours" : Str), ("NotShorter" : Str)] : List (Str)) ++ ([("SameLength" : Str), ("NoSuchLength" : Str), ("NotAnOrder" : Str), ("NotABase" : Str), ("OrderMatters" : Str), ("World" : Str), ("MOST_POINTS" : Str), ("MOST_TOLD" : Str), ("MOST_MADE" : Str), ("MOST_ROW" : Str)] : List (Str))
noncomputable def endL (w : World) (os : OsState) : Option PySem.W.SharedT := HandSHeadRun.endF (HandSHeadRun.stepQ (HandSHeadRun.denQ HandSHeadRun.tabQ) rowL.prog w) 12000 rowL.prog w os
def frL (s : PySem.W.SharedT) : PySem.W.Frag := He.frG (HandSHeadRun.getT s) (asW (HandSHeadRun.getT s))
theorem tp_seen (w : World) (os : OsState) : (endL w os).map (fun s => (HandSHeadRun.looksF rowL.prog (PySem.W.boot_heap w.params) s.abs, HandSHeadRun.seenQ (PySem.W.view rowL.prog [100]) looseL (importedModules rowL.prog.main.body) (fun s => PySem.W.xlAt (PySem.W.view rowL.prog [100]) [] s && PySem.W.recOk rowL.toRowW.records s) s.abs)) = some (true, PySem.W.openGood (PySem.W.view rowL.prog [100]) looseL) := by
  kernel_rfl
theorem tp_fa (w : World) (os : OsState) : (endL w os).map (fun s => (faL.all fun f => f.ok (frL s)) && exL.all fun e => e (frL s)) = some true := by
  kernel_rfl
theorem tp_fn0 (w : World) (os : OsState) : (endL w os).map (fun s => fnL0.all fun d => d.ok (frL s)) = some true := by
  kernel_rfl
theorem tp_fn1 (w : World) (os : OsState) : (endL w os).map (fun s => fnL1.all fun d => d.ok (frL s)) = some true := by
  kernel_rfl
theorem tp_fn2 (w : World) (os : OsState) : (endL w os).map (fun s => fnL2.all fun d => d.ok (frL s)) = some true := by
  kernel_rfl
theorem tp_at (w : World) (os : OsState) : (endL w os).map (fun s => fnL.map fun d => He5.fnA (frL s) (d.at_ (frL s))) = some (fnL.map He5.DefA.val) := by
  kernel_rfl
theorem tp_fn (w : World) (os : OsState) : (endL w os).map (fun s => fnL.all fun d => d.ok (frL s)) = some true := by
  have a0 := tp_fn0 w os
  have a1 := tp_fn1 w os
  have a2 := tp_fn2 w os
  cases e : endL w os with
  | none =>
    rw [e] at a0
    cases a0
  | some s =>
    rw [e, Option.map_some] at a0 a1 a2
    rw [Option.map_some]
    have b0 := Option.some.inj a0
    have b1 := Option.some.inj a1
    have b2 := Option.some.inj a2
    rw [show fnL = fnL0 ++ (fnL1 ++ (fnL2)) from rfl]
    simp only [List.all_append]
    rw [b0, b1, b2]
    first | rfl | done
theorem obL_parts (s : PySem.W.SharedT) : obL s = ((((faL.all fun f => f.ok (frL s)) && (fnL.all fun d => d.ok (frL s))) && exL.all fun e => e (frL s)), fnL.map fun d => He5.fnA (frL s) (d.at_ (frL s))) := rfl
theorem runL (w : World) : HandSHeadRun.RunEq rowL (PySem.W.view rowL.prog [100]) hkL obL 12000 looseL w := fun os => by
  have h1 := tp_seen w os
  have h2 := tp_fa w os
  have h3 := tp_fn w os
  have h4 := tp_at w os
  show (endL w os).map _ = _
  cases e : endL w os with
  | none =>
    rw [e] at h1
    cases h1
  | some s =>
    rw [e, Option.map_some] at h1 h2 h3 h4
    have k1 := Option.some.inj h1
    have k2 := Option.some.inj h2
    have k3 := Option.some.inj h3
    have k4 := Option.some.inj h4
    rw [Bool.and_eq_true] at k2
    rw [Option.map_some, obL_parts, k2.1, k2.2, k3, k4]
    rw [Prod.mk.injEq] at k1
    rw [k1.1, k1.2]
    rfl

section
variable {P : Program} {w : World} {K : PySem.W.Frag} {mg : Str → Option Value} {base : Heap}

theorem ok_mixed (Z : Zs mg) (D : Ds K mg) : Cal P w K mg base "_law_mixed" 1 ["seed", "turn"] spMixed := by
  refine Def.cal D.d_law_mixed sc_law_mixed (fun vs H Q E h => ?_) (fun f cdv A outer s H vs Q E hr h => ?_)
  · obtain ⟨a, b, rfl, q⟩ := h
    rfl
  obtain ⟨a, b, rfl, q⟩ := h
  refine ⟨_, (pss_cons (ps_set (i := 2) sc_law_mixed.nd rfl (Or.inl rfl) (pe_op op_mod (pe_callTy call_int1 (by rfl) Z.z_int (by decide +kernel) (pa_cons (pe_op op_add (pe_op op_add (pe_op op_mul (pv 0) pe_int) (pe_op op_mul (pv 1) pe_int)) pe_int) pa_nil)) pe_int))
      (pss_cons (ps_set (i := 3) sc_law_mixed.nd rfl (Or.inl rfl) (pe_op op_mod (pe_callTy call_int1 (by rfl) Z.z_int (by decide +kernel) (pa_cons (pe_op op_add (pe_op op_add (pe_op op_mul (pv 2) (pv 2)) (pe_op op_mul (pv 0) pe_int)) (pv 1)) pa_nil)) pe_int))
      (pss_one (ps_ret (pe_op op_mod (pe_callTy call_int1 (by rfl) Z.z_int (by decide +kernel) (pa_cons (pe_op op_add (pe_op op_mul (pv 3) (pv 3)) (pv 2)) pa_nil)) pe_int))))), ?_⟩
  have c1 : CMul a 48271 := .inr ⟨by omega, by omega⟩
  have c2 : CMul b 69621 := .inr ⟨by omega, by omega⟩
  refine ⟨_, rfl, _, _, rfl, rfl, c1, _, rfl, _, _, rfl, rfl, c2, _, _, rfl, rfl, _, _, rfl, rfl, .inl ⟨_, rfl, _, _, rfl, rfl, (by omega), ?_⟩⟩
  obtain ⟨f1, e1⟩ : ∃ f1, f1 = (a * 48271 + b * 69621 + 1013904223) % 2147483647 := ⟨_, rfl⟩
  have b1 : 0 ≤ f1 ∧ f1 < 2147483647 := by omega
  have c3 : CMul f1 f1 := .inl ⟨by omega, by omega⟩
  have c4 : CMul a 7 := .inr ⟨by omega, by omega⟩
  rw [show (fun i j => V.int (i % j)) (a * 48271 + b * 69621 + 1013904223) 2147483647 = V.int f1 from congrArg V.int e1.symm]
  refine ⟨_, rfl, _, rfl, _, _, rfl, rfl, c3, _, rfl, _, _, rfl, rfl, c4, _, _, rfl, rfl, _, rfl, _, _, rfl, rfl, .inl ⟨_, rfl, _, _, rfl, rfl, (by omega), ?_⟩⟩
  obtain ⟨f2, e2⟩ : ∃ f2, f2 = (f1 * f1 + a * 7 + b) % 2147483563 := ⟨_, rfl⟩
  have b2 : 0 ≤ f2 ∧ f2 < 2147483563 := by omega
  have c5 : CMul f2 f2 := .inl ⟨by omega, by omega⟩
  rw [show (fun i j => V.int (i % j)) (f1 * f1 + a * 7 + b) 2147483563 = V.int f2 from congrArg V.int e2.symm]
  refine ⟨_, rfl, _, rfl, _, _, rfl, rfl, c5, _, rfl, _, _, rfl, rfl, .inl ⟨_, rfl, _, _, rfl, rfl, (by omega), ?_⟩⟩
  exact q _
theorem ok_take (Z : Zs mg) (D : Ds K mg) (c__law_mixed : Cal P w K mg base "_law_mixed" 1 ["seed", "turn"] spMixed) : Cal P w K mg base "_law_take" 2 ["store", "many"] spTake := by
  refine Def.cal D.d_law_take sc_law_take (fun vs H Q E h => ?_) (fun f cdv A outer s H vs Q E hr h => ?_)
  · obtain ⟨S, G, n, rfl, wd, hn, q⟩ := h
    rfl
  obtain ⟨S, G, n, rfl, wd, hn, q⟩ := h
  refine ⟨_, (pss_cons (ps_if (pt_cmp (pc_lt (pv 1) pe_int) (nomark _)) (pss_one (ps_ret pe_int)) pss_nil)
      (Evl.pss_cut (ps_if (PW.pt (pw_and (pt_cmp (pc_lt (pe_ix ix_list (pv 0) pe_int (fun _ _ => rfl)) pe_int) (nomark _)) (pw_and (pt_cmp (pc_eqI (pe_ix ix_list (pv 0) pe_int (fun _ _ => rfl)) pe_int) (nomark _)) (pw_and1 (pt_cmp (pc_lt (pe_ix ix_list (pv 0) pe_int (fun _ _ => rfl)) (pe_callB call_len_seq (by rfl) Z.z_len (by decide +kernel) (pa_cons (pe_ix ix_list (pv 0) pe_int (fun _ _ => rfl)) pa_nil))) (nomark _)))))) (pss_cons (ps_set (i := 2) sc_law_take.nd rfl (Or.inl rfl) (pe_ix ix_list (pe_ix ix_list (pv 0) pe_int (fun _ _ => rfl)) (pe_ix ix_list (pv 0) pe_int (fun _ _ => rfl)) (fun _ _ => rfl)))
      (pss_cons (ps_asg (pe_op op_add (pe_ix ix_list (pv 0) pe_int (fun _ _ => rfl)) pe_int) (pg_sub (pv 0) pe_int set_listN))
      (pss_cons (ps_asg (pe_op op_mod (pe_callTy call_int1 (by rfl) Z.z_int (by decide +kernel) (pa_cons (pe_op op_add (pe_op op_add (pe_op op_mul (pe_ix ix_list (pv 0) pe_int (fun _ _ => rfl)) pe_int) (pe_op op_mod (pe_callTy call_int1 (by rfl) Z.z_int (by decide +kernel) (pa_cons (pv 2) pa_nil)) pe_int)) pe_int) pa_nil)) pe_int) (pg_sub (pv 0) pe_int set_listN))
      (pss_one (ps_if (pt_cmp (pc_ge (pv 2) (pe_op op_pow pe_int pe_int)) (nomark _)) (pss_one (ps_asg (pv 2) (pg_sub (pv 0) pe_int set_listN))) (pss_cons (ps_asg pe_int (pg_sub (pv 0) pe_int set_listN))
      (pss_one (ps_asg (pe_op op_mod (pe_callTy call_int1 (by rfl) Z.z_int (by decide +kernel) (pa_cons (pv 2) pa_nil)) pe_int) (pg_sub (pv 0) pe_int set_listN))))))))) pss_nil)
      (pss_cons (ps_if (pt_cmp (pc_ge (pe_ix ix_list (pv 0) pe_int (fun _ _ => rfl)) pe_int) (nomark _)) (pss_cons (ps_set (i := 3) sc_law_take.nd rfl (Or.inl rfl) (pe_op op_mod (pe_callTy call_int1 (by rfl) Z.z_int (by decide +kernel) (pa_cons (pe_ix ix_list (pv 0) pe_int (fun _ _ => rfl)) pa_nil)) (pv 1)))
      (pss_cons (ps_asg (pe_op op_fdiv (pe_ix ix_list (pv 0) pe_int (fun _ _ => rfl)) (pv 1)) (pg_sub (pv 0) pe_int set_listN))
      (pss_one (ps_ret (pv 3))))) pss_nil)
      (pss_cons (ps_asg (pe_op op_add (pe_ix ix_list (pv 0) pe_int (fun _ _ => rfl)) pe_int) (pg_sub (pv 0) pe_int set_listN))
      (pss_cons (ps_if (pt_cmp (pc_gt (pe_ix ix_list (pv 0) pe_int (fun _ _ => rfl)) pe_int) (nomark _)) (pss_cons (ps_asg (pe_op op_sub (pe_ix ix_list (pv 0) pe_int (fun _ _ => rfl)) pe_int) (pg_sub (pv 0) pe_int set_listN))
      (pss_one (ps_ret (pe_op op_mod (pe_callTy call_int1 (by rfl) Z.z_int (by decide +kernel) (pa_cons (pe_cal c__law_mixed (hr.mono (by first | decide | omega)) (by rfl) (pa_cons (pe_ix ix_list (pv 0) pe_int (fun _ _ => rfl)) (pa_cons (pe_ix ix_list (pv 0) pe_int (fun _ _ => rfl)) pa_nil))) pa_nil)) (pv 1))))) pss_nil)
      (pss_one (ps_ret (pe_op op_mod (pe_callTy call_int1 (by rfl) Z.z_int (by decide +kernel) (pa_cons (pe_cal c__law_mixed (hr.mono (by first | decide | omega)) (by rfl) (pa_cons (pe_ix ix_list (pv 0) pe_int (fun _ _ => rfl)) (pa_cons (pe_ix ix_list (pv 0) pe_int (fun _ _ => rfl)) pa_nil))) pa_nil)) (pv 1))))))))), ?_⟩
  refine ⟨_, rfl, _, _, rfl, rfl, _, rfl, ite2 (fun c => ?_) (fun c => ?_)⟩
  · have c := dec_of c
    exact q 0 H (by omega) (by omega) (.refl wd)
  have c := dec_not c
  refine ⟨fun σ' H' => ∃ y2, σ' = [some (.ref S.a), some (.int n), y2, none] ∧ Go S G H G H', ?_, ?_⟩
  · obtain ⟨i1, i2, i3, i4, i5, i6, h1, h2, z⟩ := wd.st
    refine ⟨_, rfl, S.a, _, 2, .int i2, rfl, rfl, .of h1, rfl, _, _, rfl, rfl, _, rfl, ite2 (fun c2 => ?_) (fun c2 => iteF ⟨none, rfl, .refl wd⟩)⟩
    refine ⟨_, rfl, S.a, _, 3, .int i3, rfl, rfl, .of h1, rfl, _, _, rfl, rfl, _, rfl, ite2 (fun c3 => ?_) (fun c3 => iteF ⟨none, rfl, .refl wd⟩)⟩
    refine ⟨_, rfl, S.a, _, 1, .int i1, rfl, rfl, .of h1, rfl, _, rfl, S.a, _, 0, .ref S.c, rfl, rfl, .of h1, rfl, _, _, rfl, .inl (.of h2), _, _, rfl, rfl, _, rfl, ite2 (fun c1 => ?_) (fun c1 => ⟨none, rfl, .refl wd⟩)⟩
    have c1 : i1 < ((S.ns.map V.int).length : Nat) := dec_of c1
    rw [List.length_map] at c1
    have k1 : i1.toNat < S.ns.length := by omega
    have a1 : atI (S.ns.map V.int) i1 = some (.int S.ns[i1.toNat]) := by
      have q := atI_nat (xs := S.ns.map V.int) (j := i1.toNat) (v := .int S.ns[i1.toNat]) (by rw [List.getElem?_map, List.getElem?_eq_getElem k1]; rfl)
      rwa [show ((i1.toNat : Nat) : Int) = i1 by omega] at q
    generalize S.ns[i1.toNat] = x at a1
    -- cell = store[0][store[1]]; store[1] = store[1] + 1
    refine ⟨_, rfl, S.a, _, 0, .ref S.c, rfl, rfl, .of h1, rfl, _, rfl, S.a, _, 1, .int i1, rfl, rfl, .of h1, rfl, S.c, _, i1, .int x, rfl, rfl, .of h2, a1, ?_⟩
    refine ⟨_, rfl, S.a, _, 1, .int i1, rfl, rfl, .of h1, rfl, _, _, rfl, rfl, _, rfl, S.a, _, 1, rfl, rfl, h1, (by show 1 < 7; decide), fun H1 e1 => ?_⟩
    have s1 : Go S G H G H1 := (Go.refl wd).put e1 (by omega)
    have h1 : H1 S.a = _ := upd_at e1
    have m5 : CMul i5 31 := .inr ⟨by omega, by omega⟩
    refine ⟨_, rfl, S.a, _, 5, .int i5, rfl, rfl, .of h1, rfl, _, _, rfl, rfl, m5, _, rfl, .inl ⟨_, rfl, _, _, rfl, rfl, (by omega), _, _, rfl, rfl, _, _, rfl, rfl, .inl ⟨_, rfl, _, _, rfl, rfl, (by omega), ?_⟩⟩⟩
    refine ⟨_, rfl, S.a, _, 5, rfl, rfl, h1, (by show 5 < 7; decide), fun H2 e2 => ?_⟩
    have s1 : Go S G H G H2 := s1.put e2 (by omega)
    have h1 : H2 S.a = _ := upd_at e2
    refine ⟨_, rfl, _, _, rfl, rfl, ⟨by omega, by omega, by decide⟩, _, _, rfl, rfl, _, rfl, ite2 (fun c => ?_) (fun c => ?_)⟩
    · refine ⟨_, rfl, _, rfl, S.a, _, 2, rfl, rfl, h1, (by show 2 < 7; decide), fun H3 e3 => ?_⟩
      exact ⟨_, rfl, s1.put e3 (by omega)⟩
    · refine ⟨_, rfl, S.a, _, 3, rfl, rfl, h1, (by show 3 < 7; decide), fun H3 e3 => ?_⟩
      have s1 : Go S G H G H3 := s1.put e3 (by omega)
      have h1 : H3 S.a = _ := upd_at e3
      refine ⟨_, rfl, .inl ⟨_, rfl, _, _, rfl, rfl, (by omega), _, rfl, S.a, _, 6, rfl, rfl, h1, (by show 6 < 7; decide), fun H4 e4 => ?_⟩⟩
      exact ⟨_, rfl, s1.put e4 (by omega)⟩
  · rintro σ' H1 ⟨y2, rfl, s1⟩
    obtain ⟨i1, i2, i3, i4, i5, i6, h1, h2, z⟩ := s1.st
    refine ⟨_, rfl, S.a, _, 2, .int i2, rfl, rfl, .of h1, rfl, _, _, rfl, rfl, _, rfl, ite2 (fun c2 => ?_) (fun c2 => ?_)⟩
    · refine ⟨_, rfl, S.a, _, 2, .int i2, rfl, rfl, .of h1, rfl, .inl ⟨_, rfl, _, rfl, _, _, rfl, rfl, (by omega), ?_⟩⟩
      refine ⟨_, rfl, S.a, _, 2, .int i2, rfl, rfl, .of h1, rfl, _, rfl, _, _, rfl, rfl, ⟨by omega, by omega⟩, _, rfl, S.a, _, 2, rfl, rfl, h1, (by show 2 < 7; decide), fun H2 e2 => ?_⟩
      have s1 : Go S G H G H2 := s1.put e2 (by omega)
      refine ⟨_, rfl, ?_⟩
      exact q _ _ (Int.emod_nonneg _ (by omega)) (.inl (Int.emod_lt_of_pos _ (by omega))) s1
    refine ⟨_, rfl, S.a, _, 4, .int i4, rfl, rfl, .of h1, rfl, _, _, rfl, rfl, _, rfl, S.a, _, 4, rfl, rfl, h1, (by show 4 < 7; decide), fun H2 e2 => ?_⟩
    have s1 : Go S G H G H2 := s1.put e2 (by omega)
    have h1 : H2 S.a = _ := upd_at e2
    refine ⟨_, rfl, S.a, _, 3, .int i3, rfl, rfl, .of h1, rfl, _, _, rfl, rfl, _, rfl, ite2 (fun c3 => ?_) (fun c3 => ?_)⟩
    · refine ⟨_, rfl, S.a, _, 3, .int i3, rfl, rfl, .of h1, rfl, _, _, rfl, rfl, _, rfl, S.a, _, 3, rfl, rfl, h1, (by show 3 < 7; decide), fun H3 e3 => ?_⟩
      have s1 : Go S G H G H3 := s1.put e3 (by omega)
      have h1 : H3 S.a = _ := upd_at e3
      refine ⟨_, rfl, S.a, _, 6, .int i6, rfl, rfl, .of h1, rfl, _, rfl, S.a, _, 4, _, rfl, rfl, .of h1, rfl, _, _, rfl, fun r => ?_⟩
      refine .inl ⟨_, rfl, _, rfl, _, _, rfl, rfl, (by omega), ?_⟩
      exact q _ _ (Int.emod_nonneg _ (by omega)) (.inl (Int.emod_lt_of_pos _ (by omega))) s1
    · refine ⟨_, rfl, S.a, _, 5, .int i5, rfl, rfl, .of h1, rfl, _, rfl, S.a, _, 4, _, rfl, rfl, .of h1, rfl, _, _, rfl, fun r => ?_⟩
      refine .inl ⟨_, rfl, _, rfl, _, _, rfl, rfl, (by omega), ?_⟩
      exact q _ _ (Int.emod_nonneg _ (by omega)) (.inl (Int.emod_lt_of_pos _ (by omega))) s1


theorem ok_pick (Z : Zs mg) (D : Ds K mg) (c__law_take : Cal P w K mg base "_law_take" 2 ["store", "many"] spTake) : Cal P w K mg base "_law_pick" 3 ["store", "things"] spPick := by
  refine Def.cal D.d_law_pick sc_law_pick (fun vs H Q E h => ?_) (fun f cdv A outer s H vs Q E hr h => ?_)
  · obtain ⟨S, G, v, xs, rfl, wd, hv, h0, h1, q⟩ := h
    rfl
  obtain ⟨S, G, v, xs, rfl, wd, hv, h0, h1, q⟩ := h
  refine ⟨_, (pss_one (ps_ret (pe_ix ix_seq (pv 1) (pe_cal c__law_take (hr.mono (by first | decide | omega)) (by rfl) (pa_cons (pv 0) (pa_cons (pe_callB call_len (by rfl) Z.z_len (by decide +kernel) (pa_cons (pv 1) pa_nil)) pa_nil))) (fun _ _ => rfl)))), ?_⟩
  rcases hv with ⟨a, rfl, na, ha⟩ | ⟨a, rfl, na, ha⟩ | ⟨z, rfl, hz, rfl⟩
  · refine ⟨_, rfl, _, rfl, _, rfl, .ref a, xs.length, rfl, .inl ⟨xs, .of ha, rfl⟩, S, G, _, rfl, wd, by omega, fun d H1 p0 p1 s1 => ?_⟩
    obtain ⟨x, _, e, m⟩ := at_int (xs := xs) p0 (by omega)
    exact .inl ⟨a, xs, d, x, rfl, rfl, .of (s1.hh ha na), e, q _ _ m s1⟩
  · refine ⟨_, rfl, _, rfl, _, rfl, .ref a, xs.length, rfl, .inr ⟨xs, .of ha, rfl⟩, S, G, _, rfl, wd, by omega, fun d H1 p0 p1 s1 => ?_⟩
    obtain ⟨x, _, e, m⟩ := at_int (xs := xs) p0 (by omega)
    exact .inr (.inl ⟨a, xs, d, x, rfl, rfl, .of (s1.hh ha na), e, q _ _ m s1⟩)
  · have hl : z.cps.toList.length = z.length := Array.length_toList
    rw [List.length_map, hl] at h0 h1
    refine ⟨_, rfl, _, rfl, _, rfl, .str z, z.length, rfl, ⟨ln (by omega), rfl⟩, S, G, _, rfl, wd, by omega, fun d H1 p0 p1 s1 => ?_⟩
    obtain ⟨c, e, g⟩ := at_str (z := z) p0 (by omega)
    exact .inr (.inr ⟨z, d, c, rfl, rfl, ln (by omega), e, q _ _ (List.mem_map.mpr ⟨c, List.mem_of_getElem? g, rfl⟩) s1⟩)
theorem ok_place (Z : Zs mg) (D : Ds K mg) (c__law_take : Cal P w K mg base "_law_take" 2 ["store", "many"] spTake) : Cal P w K mg base "_law_place" 3 ["store", "size"] spPlace := by
  refine Def.cal D.d_law_place sc_law_place (fun vs H Q E h => ?_) (fun f cdv A outer s H vs Q E hr h => ?_)
  · obtain ⟨S, G, n, rfl, wd, h1, hn, q⟩ := h
    rfl
  obtain ⟨S, G, n, rfl, wd, h1, hn, q⟩ := h
  refine ⟨_, (pss_cons (ps_set (i := 2) sc_law_place.nd rfl (Or.inl rfl) (pe_cal c__law_take (hr.mono (by first | decide | omega)) (by rfl) (pa_cons (pv 0) (pa_cons pe_int pa_nil))))
      (pss_cons (ps_if (pt_cmp (pc_eqI (pv 2) pe_int) (nomark _)) (pss_one (ps_ret pe_int)) pss_nil)
      (pss_cons (ps_if (pt_cmp (pc_eqI (pv 2) pe_int) (nomark _)) (pss_one (ps_ret (pe_op op_sub (pv 1) pe_int))) pss_nil)
      (pss_one (ps_ret (pe_cal c__law_take (hr.mono (by first | decide | omega)) (by rfl) (pa_cons (pv 0) (pa_cons (pv 1) pa_nil)))))))), ?_⟩
  refine ⟨_, rfl, S, G, 6, rfl, wd, by omega, fun d1 H1 p0 p1 s1 => ?_⟩
  refine ⟨_, rfl, _, _, rfl, rfl, _, rfl, ite2 (fun c => q _ _ (by omega) (by omega) s1) (fun c => ?_)⟩
  refine ⟨_, rfl, _, _, rfl, rfl, _, rfl, ite2 (fun c => ⟨_, rfl, _, _, rfl, rfl, q _ _ (by omega) (by omega) s1⟩) (fun c => ?_)⟩
  exact ⟨_, rfl, _, rfl, S, G, n, rfl, s1.wd, hn, fun d2 H2 r0 r1 s2 => q _ _ (by omega) (by omega) (s1.trans s2)⟩
theorem ok_drawn (Z : Zs mg) (D : Ds K mg) (c__law_take : Cal P w K mg base "_law_take" 2 ["store", "many"] spTake) : Cal P w K mg base "_law_drawn" 3 ["store", "things", "many"] spDrawn := by
  refine Def.cal D.d_law_drawn sc_law_drawn (fun vs H Q E h => ?_) (fun f cdv A outer s H vs Q E hr h => ?_)
  · obtain ⟨S, G, a, xs, n, rfl, wd, ha, hx, h0, h1, q⟩ := h
    rfl
  obtain ⟨S, G, a, xs, n, rfl, wd, ha, hx, h0, h1, q⟩ := h
  refine ⟨_, (pss_cons (ps_set (i := 3) sc_law_drawn.nd rfl (Or.inl rfl) (pe_callTy call_listN (by rfl) Z.z_list (by decide +kernel) (pa_cons (pv 1) pa_nil)))
      (pss_cons (ps_set (i := 4) sc_law_drawn.nd rfl (Or.inl rfl) (pe_lstN pa_nil))
      (pss_cons (ps_for PassesOwn.never rfl (pi_range1 (by rfl) Z.z_range (pa_cons (pe_callB (call_min2 rfl) (by rfl) Z.z_min (by decide +kernel) (pa_cons (pv 2) (pa_cons (pe_callB call_len_seq (by rfl) Z.z_len (by decide +kernel) (pa_cons (pv 3) pa_nil)) pa_nil))) pa_nil)) (pg_name (i := 5) sc_law_drawn.nd rfl (Or.inl rfl)) (pss_cons (ps_set (i := 6) sc_law_drawn.nd rfl (Or.inl rfl) (pe_cal c__law_take (hr.mono (by first | decide | omega)) (by rfl) (pa_cons (pv 0) (pa_cons (pe_callB call_len_seq (by rfl) Z.z_len (by decide +kernel) (pa_cons (pv 3) pa_nil)) pa_nil))))
      (pss_one (ps_expr (pe_bm PySem.F.plainAttrs_list PySem.F.slot_list_append PySem.F.type_list_append mt_appendN (pv 4) (pa_cons (pe_bm PySem.F.plainAttrs_list PySem.F.slot_list_pop PySem.F.type_list_pop mt_popAtN (pv 3) (pa_cons (pv 6) pa_nil)) pa_nil))))))
      (pss_one (ps_ret (pv 4)))))), ?_⟩
  refine ⟨_, rfl, a, xs, rfl, ha.len, fun p H1 n1 => ?_⟩
  obtain ⟨s1, gp, hp, fp⟩ := (Go.refl wd).loc n1
  refine ⟨Nat.zero_le _, fun l H2 n2 => ?_⟩
  obtain ⟨s2, gl, hl, fl⟩ := s1.loc n2
  have hp := n2.else hp
  have npl : p ≠ l := n2.ne (ne_none (n1.at))
  refine ⟨_, rfl, _, rfl, p, xs, rfl, .inl (.of hp), _, _, rfl, _, rfl, ?_⟩
  have em : (if ((xs.length : Nat) : Int) < n then ((xs.length : Nat) : Int) else n) = ((min n.toNat xs.length : Nat) : Int) := by split <;> omega
  rw [em]
  refine ⟨by omega, by omega, for_range (lo := 0) (n := ((min n.toNat xs.length : Nat) : Int).toNat) (fun i σ' H' => ∃ ys ps y5 y6, σ' = [some (.ref S.a), some (.ref a), some (.int n), some (.ref p), some (.ref l), y5, y6] ∧
    Go S G H G H' ∧ H' p = some (.lst ps) ∧ H' l = some (.lst ys) ∧ (ys ++ ps).Perm xs ∧ ys.length = i) ⟨[], xs, none, none, rfl, s2, hp, hl, .refl _, rfl⟩ ?_ ?_⟩
  · rintro i σ' H3 hi ⟨ys, ps, y5, y6, rfl, s3, hp, hl, pm, rfl⟩
    have lp : ys.length + ps.length = xs.length := by
      have := pm.length_eq
      rwa [List.length_append] at this
    refine ⟨_, rfl, _, rfl, p, ps, rfl, .inl (.of hp), S, G, _, rfl, s3.wd, by omega, fun d H4 p0 p1 s4 => ?_⟩
    have hp := s4.hh hp (s3.ns fp)
    have hl := s4.hh hl (s3.ns fl)
    have s4 := s3.trans s4
    obtain ⟨x, e, _, _⟩ := at_int (xs := ps) p0 (by omega)
    refine ⟨_, rfl, .inl ⟨rfl, _, .of hl⟩, _, rfl, .inl ⟨rfl, _, .of hp⟩, _, rfl, p, ps, d, d.toNat, x, rfl, rfl, hp, by omega, by omega, e, fun H5 e5 => ?_⟩
    have s5 := s4.mut gp fp e5
    have hl := upd_else e5 hl npl.symm
    have hp := upd_at e5
    refine ⟨l, ys, x, rfl, rfl, hl, lt (by omega), fun H6 e6 => ?_⟩
    have s6 := s5.mut gl fl e6
    have hp := upd_else e6 hp npl
    refine ⟨ys ++ [x], ps.eraseIdx d.toNat, _, _, rfl, s6, hp, upd_at e6, ?_, by rw [List.length_append]; rfl⟩
    refine List.Perm.trans ?_ pm
    rw [List.append_assoc]
    refine List.Perm.append_left ys ?_
    exact (perm_erase e).symm
  · rintro σ' H3 ⟨ys, ps, y5, y6, rfl, s3, hp, hl, pm, hy⟩
    exact ⟨_, rfl, q l ys ps H3 s3 gl fl hl pm (by omega)⟩
theorem ok_either (Z : Zs mg) (D : Ds K mg) (c__law_take : Cal P w K mg base "_law_take" 2 ["store", "many"] spTake) : Cal P w K mg base "_law_either" 3 ["store", "entries"] spEither := by
  refine Def.cal D.d_law_either sc_law_either (fun vs H Q E h => ?_) (fun f cdv A outer s H vs Q E hr h => ?_)
  · obtain ⟨S, G, a, xs, rfl, wd, na, ha, q⟩ := h
    rfl
  obtain ⟨S, G, a, xs, rfl, wd, na, ha, q⟩ := h
  refine ⟨_, (pss_cons (ps_if (pt_cmp (pc_eqI (pe_cal c__law_take (hr.mono (by first | decide | omega)) (by rfl) (pa_cons (pv 0) (pa_cons pe_int pa_nil))) pe_int) (nomark _)) (pss_one (ps_ret (pe_callTy call_tupleN (by rfl) Z.z_tuple (by decide +kernel) (pa_cons (pv 1) pa_nil)))) pss_nil)
      (pss_one (ps_ret (pe_callTy call_listN (by rfl) Z.z_list (by decide +kernel) (pa_cons (pv 1) pa_nil))))), ?_⟩
  refine ⟨_, rfl, S, G, 2, rfl, wd, by omega, fun d1 H1 p0 p1 s1 => ?_⟩
  have ha := s1.hh ha na
  refine ⟨_, _, rfl, rfl, _, rfl, ite2 (fun c => ?_) (fun c => ?_)⟩
  · refine ⟨_, rfl, a, xs, rfl, .of ha, fun p H2 n2 => ?_⟩
    obtain ⟨s2, gp, hp, fp⟩ := s1.loc n2
    exact q p true H2 s2 gp fp hp
  · refine ⟨_, rfl, a, xs, rfl, .inl (.of ha), fun p H2 n2 => ?_⟩
    obtain ⟨s2, gp, hp, fp⟩ := s1.loc n2
    exact q p false H2 s2 gp fp hp


theorem ok_is_whole (Z : Zs mg) (D : Ds K mg) : Cal P w K mg base "_law_is_whole" 1 ["value"] spIsWhole := by
  refine Def.cal D.d_law_is_whole sc_law_is_whole (fun vs H Q E h => ?_) (fun f cdv A outer s H vs Q E hr h => ?_)
  · obtain ⟨v, d, rfl, hd, q⟩ := h
    rfl
  obtain ⟨v, d, rfl, hd, q⟩ := h
  refine ⟨_, (pss_one (ps_ret (pe_and (pe_callB call_isD (by rfl) Z.z_isinstance (by decide +kernel) (pa_cons (pv 0) (pa_cons (pe_bltn (v := .ty "int") (by rfl) Z.z_int (by decide +kernel) rfl) pa_nil))) (pe_one (pe_not (pe_callB call_isD (by rfl) Z.z_isinstance (by decide +kernel) (pa_cons (pv 0) (pa_cons (pe_bltn (v := .ty "bool") (by rfl) Z.z_bool (by decide +kernel) rfl) pa_nil)))))))), ?_⟩
  rw [← isI_inst d hd.nd] at q
  refine ⟨_, rfl, v, d, "int", rfl, hd, .inl rfl, _, rfl, ?_⟩
  cases e : instB d "int" with
  | true =>
    rw [e] at q
    exact iteT ⟨_, rfl, v, d, "bool", rfl, hd, .inr (.inl rfl), _, rfl, q⟩
  | false =>
    rw [e] at q
    exact iteF q

theorem ok_is_whole_h (Z : Zs mg) (D : Ds K mg) : CalE P w K mg base "_law_is_whole" 1 ["value"] (fun _ => spIsWhole) := by
  refine Def.calE D.d_law_is_whole sc_law_is_whole (fun p vs H Q E h => ?_) (fun f cdv A outer s H vs Q E p hot hr h => ?_)
  · obtain ⟨v, d, rfl, hd, q⟩ := h
    rfl
  obtain ⟨v, d, rfl, hd, q⟩ := h
  refine ⟨_, (pss_one (ps_ret (pe_and (pe_callB call_isD (by rfl) Z.z_isinstance (by decide +kernel) (pa_cons (pv 0) (pa_cons (pe_bltn (v := .ty "int") (by rfl) Z.z_int (by decide +kernel) rfl) pa_nil))) (pe_one (pe_not (pe_callB call_isD (by rfl) Z.z_isinstance (by decide +kernel) (pa_cons (pv 0) (pa_cons (pe_bltn (v := .ty "bool") (by rfl) Z.z_bool (by decide +kernel) rfl) pa_nil)))))))), ?_⟩
  rw [← isI_inst d hd.nd] at q
  refine ⟨_, rfl, v, d, "int", rfl, hd, .inl rfl, _, rfl, ?_⟩
  cases e : instB d "int" with
  | true =>
    rw [e] at q
    exact iteT ⟨_, rfl, v, d, "bool", rfl, hd, .inr (.inl rfl), _, rfl, q⟩
  | false =>
    rw [e] at q
    exact iteF q

theorem ok_is_number (Z : Zs mg) (D : Ds K mg) : Cal P w K mg base "is_number" 1 ["value", "low", "high"] spIsNum := by
  refine Def.cal D.d_is_number sc_is_number (fun vs H Q E h => ?_) (fun f cdv A outer s H vs Q E hr h => ?_)
  · obtain ⟨v, d, lo, hi, rfl, hd, q⟩ := h
    rfl
  obtain ⟨v, d, lo, hi, rfl, hd, q⟩ := h
  refine ⟨_, (pss_one (ps_ret (pe_and (pe_callB call_isD (by rfl) Z.z_isinstance (by decide +kernel) (pa_cons (pv 0) (pa_cons (pe_bltn (v := .ty "int") (by rfl) Z.z_int (by decide +kernel) rfl) pa_nil))) (pe_and (pe_not (pe_callB call_isD (by rfl) Z.z_isinstance (by decide +kernel) (pa_cons (pv 0) (pa_cons (pe_bltn (v := .ty "bool") (by rfl) Z.z_bool (by decide +kernel) rfl) pa_nil)))) (pe_one (pe_chain op_le op_le (pv 1) (pv 0) (pv 2))))))), ?_⟩
  refine ⟨_, rfl, v, d, "int", rfl, hd, ok_int, _, rfl, ?_⟩
  rcases hd.kind with ⟨rfl, rfl⟩ | ⟨b, rfl, rfl⟩ | ⟨i, rfl, rfl⟩ | ⟨j, rfl, rfl⟩ | ⟨a, xs, ds, t, rfl, ha, hat, hal, dxs, rfl⟩
  · exact iteBF ib_none_int q
  · exact iteBT (ib_bool_int b) ⟨_, rfl, _, _, "bool", rfl, hd, ok_bool, _, rfl, _, rfl, iteBF (by rw [ib_bool_bool]; rfl) q⟩
  · refine iteBT (ib_int_int i) ⟨_, rfl, _, _, "bool", rfl, hd, ok_bool, _, rfl, _, rfl, iteBT (by rw [ib_int_bool]; rfl) ⟨_, rfl, _, rfl, _, _, rfl, rfl, _, rfl, ?_⟩⟩
    have q : Q (.bl (decide (lo ≤ i) && decide (i ≤ hi))) H := q
    refine ite2 (fun c => ⟨_, rfl, _, _, rfl, rfl, ?_⟩) (fun c => ?_)
    · rw [c, Bool.true_and] at q
      exact q
    · rw [Bool.eq_false_iff.mpr c, Bool.false_and] at q
      exact q
  · exact iteBF (ib_str_int j) q
  · cases t with
    | true => exact iteBF (ib_tuple_int ds) q
    | false => exact iteBF (ib_list_int ds) q
theorem ok_is_point (Z : Zs mg) (D : Ds K mg) (c_is_number : Cal P w K mg base "is_number" 1 ["value", "low", "high"] spIsNum) : Cal P w K mg base "is_point" 2 ["points", "value"] spIsPoint := by
  refine Def.cal D.d_is_point sc_is_point (fun vs H Q E h => ?_) (fun f cdv A outer s H vs Q E hr h => ?_)
  · obtain ⟨v, d, n, rfl, hd, q⟩ := h
    rfl
  obtain ⟨v, d, n, rfl, hd, q⟩ := h
  refine ⟨_, (pss_one (ps_ret (pe_cal c_is_number (hr.mono (by first | decide | omega)) (by rfl) (pa_cons (pv 1) (pa_cons pe_int (pa_cons (pe_op op_sub (pv 0) pe_int) pa_nil)))))), ?_⟩
  exact ⟨_, rfl, _, rfl, _, _, rfl, rfl, v, d, 0, n - 1, rfl, hd, q⟩
theorem ok_is_move_on (Z : Zs mg) (D : Ds K mg) (c_is_point : Cal P w K mg base "is_point" 2 ["points", "value"] spIsPoint) : Cal P w K mg base "is_move_on" 3 ["points", "value"] spIsMoveOn := by
  refine Def.cal D.d_is_move_on sc_is_move_on (fun vs H Q E h => ?_) (fun f cdv A outer s H vs Q E hr h => ?_)
  · obtain ⟨G, v, d, n, rfl, gh, hd, sz, q⟩ := h
    rfl
  obtain ⟨G, v, d, n, rfl, gh, hd, sz, q⟩ := h
  refine ⟨_, (pss_cons (ps_if (PW.pt (pw_or (pt_not (pt_val (pe_callB call_isD (by rfl) Z.z_isinstance (by decide +kernel) (pa_cons (pv 1) (pa_cons (pe_bltn (v := .ty "tuple") (by rfl) Z.z_tuple (by decide +kernel) rfl) pa_nil))))) (pw_or1 (pt_cmp (pc_neI (pe_callB call_len (by rfl) Z.z_len (by decide +kernel) (pa_cons (pv 1) pa_nil)) (pv 0)) (nomark _))))) (pss_one (ps_ret pe_bl)) pss_nil)
      (pss_one (ps_ret (pe_and (pe_callB (cr_all rfl) (by rfl) Z.z_all (by decide +kernel) (pa_cons (pe_lc (own := [("image", 2)]) (g := gName 2) (tt := tYes) (by rfl) sc_is_move_on.nd (pi_tup (pv 1)) (blkOk_by (N := ["points", "value", "image"]) (sc := defScope s_is_move_on) (by decide +kernel)) (fun _ _ _ _ _ => pg_name (i := 2) sc_is_move_on.nd rfl (Or.inl rfl)) (fun _ _ _ _ _ => pts_nil) (fun _ _ _ _ _ => (pe_cal c_is_point (hr.mono (by first | decide | omega)) (by rfl) (pa_cons (pv 0) (pa_cons (pv 2) pa_nil))))) pa_nil)) (pe_one (pe_cmpR (op_eqLI hr.units) (pe_callB call_sortT (by rfl) Z.z_sorted (by decide +kernel) (pa_cons (pv 1) pa_nil)) (pe_listRgN rfl (by rfl) Z.z_list (prg_1 (by rfl) Z.z_range (pv 0))) (nomark _))))))), ?_⟩
  have hdH := hd.up gh
  refine ⟨_, rfl, v, d, "tuple", rfl, hdH, ok_tuple, _, rfl, ?_⟩
  rcases hd.kind with ⟨rfl, rfl⟩ | ⟨b, rfl, rfl⟩ | ⟨j, rfl, rfl⟩ | ⟨j, rfl, rfl⟩ | ⟨a, xs, ds, t, rfl, ha, hat, hal, dxs, rfl⟩
  · exact iteBT (by rw [ib_none_tuple]; rfl) (iteT (q H (.refl _)))
  · exact iteBT (by rw [ib_bool_tuple]; rfl) (iteT (q H (.refl _)))
  · exact iteBT (by rw [ib_int_tuple]; rfl) (iteT (q H (.refl _)))
  · exact iteBT (by rw [ib_str_tuple]; rfl) (iteT (q H (.refl _)))
  cases t with
  | false => exact iteBT (by rw [show instB (sqD false ds) "tuple" = false from ib_list_tuple ds]; rfl) (iteT (q H (.refl _)))
  | true =>
    have ha := hat rfl
    have lx := dxs.length
    have cn : mvOn n (sqD true ds) = (decide (((ds.length : Nat) : Int) = n) && (ds.all (fun d => isNum d 0 (n - 1)) && decide ((intsOf ds).Perm (rngI n)))) := rfl
    refine iteBF (by rw [show instB (sqD true ds) "tuple" = true from ib_tuple_tuple ds]; rfl) ⟨_, rfl, _, _, rfl, .inr ⟨xs, .of (gh _ _ ha), rfl⟩, _, rfl, _, _, rfl, rfl, _, rfl, ite2 (fun c => ?_) (fun c => ?_)⟩
    · have c : ¬ ((xs.length : Nat) : Int) = n := nd_of c
      have q1 := q H (.refl _)
      rw [cn, decide_eq_false (by omega), Bool.false_and] at q1
      exact q1
    have c : ((xs.length : Nat) : Int) = n := nd_not c
    have szl : ds.length ≤ 1000000 := by
      have := szL_len ds
      have := sqD_sz true ds
      omega
    rw [cn, decide_eq_true (by omega), Bool.true_and] at q
    refine ⟨_, rfl, a, rfl, ⟨_, .of (gh _ _ ha)⟩, fun l hl => ?_⟩
    refine lc_tup (xs := xs) (fun j H' => Same H H' ∧ H l = none ∧ H' l = some (.lst (((ds.take j).map fun d => isNum d 0 (n - 1)).map V.bl))) ?_ ?_ ?_ ?_
    · exact ⟨New.same (o := .lst []) ⟨hl, rfl⟩, hl, upd_same⟩
    · rintro j H' hj ⟨g2, _⟩
      exact .of (g2 _ _ (gh _ _ ha))
    · rintro j x H2 hj ⟨g2, fl, hz⟩
      obtain ⟨e, he, hde⟩ := dxs.get hj
      have hj2 := (List.getElem?_eq_some_iff.mp hj).1
      refine ⟨rfl, yesT ⟨_, rfl, _, rfl, x, e, n, rfl, hde.up (gh.trans g2), _, hz, ?_, fun b o h => ?_, fl, ?_⟩⟩
      · rw [List.length_map, List.length_map, List.length_take, sizeLine_eq]
        omega
      · rw [upd_ne (ne_of_none h fl)]
        exact g2 _ _ h
      · rw [upd_same, List.take_add_one, he, List.map_append, List.map_append]
        rfl
    · rintro H2 ⟨g2, fl, hz⟩
      rw [List.take_of_length_le (by omega)] at hz
      refine ⟨l, _, rfl, .of hz, _, rfl, ?_⟩
      have ea : (ds.map fun d => isNum d 0 (n - 1)).all id = ds.all fun d => isNum d 0 (n - 1) := by rw [List.all_map]; rfl
      refine ite2 (fun c2 => ?_) (fun c2 => ?_)
      · rw [ea] at c2
        rw [c2, Bool.true_and] at q
        have ed := ints_isNum c2
        have ex : xs = (intsOf ds).map V.int := vals_int (G := G) (by rw [← ed]; exact dxs)
        refine ⟨_, rfl, a, intsOf ds, rfl, ?_, fun ns' p H3 pm srt n3 => ?_⟩
        · rw [← ex]
          exact .of (g2 _ _ (gh _ _ ha))
        refine ⟨_, rfl, n, rfl, .of_le (by decide) (by omega) (by decide) (by omega), fun r H4 n4 => ?_⟩
        have h4 := n4.at
        rw [rgV_rngI] at h4
        refine ⟨p, r, ns', rngI n, rfl, rfl, .of (n4.else n3.at), .of h4, ?_⟩
        have q4 := q H4 (g2.trans (n3.same.trans n4.same))
        have e : decide (ns' = rngI n) = decide ((intsOf ds).Perm (rngI n)) := by
          refine decide_eq_decide.mpr ⟨fun h => h ▸ pm.symm, fun h => ?_⟩
          exact List.Perm.eq_of_pairwise (le := (· ≤ ·)) (fun a b _ _ h1 h2 => Int.le_antisymm h1 h2) srt (rngI_sorted n) (pm.trans h)
        rw [e]
        exact q4
      · rw [ea] at c2
        rw [Bool.eq_false_iff.mpr c2, Bool.false_and] at q
        exact q H2 g2


theorem ok_store (Z : Zs mg) (D : Ds K mg) : Cal P w K mg base "_law_store" 1 ["script"] (spStore K) := by
  refine Def.cal D.d_law_store sc_law_store (fun vs H Q E h => ?_) (fun f cdv A outer s H vs Q E hr h => ?_)
  · obtain ⟨a, ns, rfl, hS, hn, q⟩ := h
    rfl
  obtain ⟨a, ns, rfl, hS, hn, q⟩ := h
  refine ⟨_, (pss_one (ps_ret (pe_lstN (pa_cons (pe_lc (own := [("cell", 1)]) (g := gName 1) (tt := tYes) (by rfl) sc_law_store.nd (pi_list (pe_slice sl_listN (pv 0) po_none (po_some pe_int))) (blkOk_by (N := ["script", "cell"]) (sc := defScope s_law_store) (by decide +kernel)) (fun _ _ _ _ _ => pg_name (i := 1) sc_law_store.nd rfl (Or.inl rfl)) (fun _ _ _ _ _ => pts_nil) (fun _ _ _ _ _ => (pe_callTy call_int1 (by rfl) Z.z_int (by decide +kernel) (pa_cons (pv 1) pa_nil)))) (pa_cons pe_int (pa_cons pe_int (pa_cons pe_int (pa_cons pe_int (pa_cons pe_int (pa_cons pe_int pa_nil)))))))))), ?_⟩
  refine ⟨_, rfl, _, rfl, a, _, rfl, hS, fun p H1 n1 => ?_⟩
  have h1 := n1.at
  have ec : cutV (ns.map V.int) none (some 63) = ns.map V.int := cut_all (n := 63) (by rw [List.length_map]; exact hn)
  rw [ec] at h1
  refine ⟨p, rfl, ⟨_, .of h1⟩, fun c hc => ?_⟩
  refine lc_list (xs := ns.map V.int) (fun i H' => Same H H' ∧ H c = none ∧ H' p = some (.lst (ns.map V.int)) ∧ c ≠ p ∧ H' c = some (.lst ((ns.take i).map V.int))) ?_ ?_ ?_ ?_
  · have nc : c ≠ p := (ne_of_none h1 hc).symm
    exact ⟨n1.same.trans (New.same (o := .lst []) ⟨hc, rfl⟩), n1.same.free hc, by rw [upd_ne nc.symm]; exact h1, nc, upd_same⟩
  · rintro i H' _ ⟨_, _, hp, _⟩
    exact .of hp
  · rintro i x H2 hx ⟨g, fc, hp, nc, hc2⟩
    have hi := (List.getElem?_eq_some_iff.mp hx).1
    rw [List.length_map] at hi
    have ex : x = V.int ns[i] := by
      rw [List.getElem?_map, List.getElem?_eq_getElem hi] at hx
      exact (Option.some.inj hx).symm
    subst ex
    refine ⟨rfl, yesT ⟨_, rfl, .inl ⟨_, rfl, _, hc2, by rw [List.length_map, List.length_take]; exact lt (by omega), fun b o h => ?_, fc, by rw [upd_ne nc.symm]; exact hp, nc, ?_⟩⟩⟩
    · rw [upd_ne (ne_of_none h fc)]
      exact g _ _ h
    · rw [upd_same, List.take_add_one, List.getElem?_eq_getElem hi, List.map_append]
      rfl
  · rintro H2 ⟨g, fc, hp, nc, hc2⟩
    rw [List.length_map, List.take_length] at hc2
    refine ⟨by show 7 ≤ sizeLine; decide, fun s H3 n3 => ?_⟩
    exact q ⟨s, c, ns⟩ H3 ⟨g.trans n3.same, g.free n3.fr, 0, 0, 0, 0, 0, 0, n3.at, n3.else hc2, Int.le_refl _⟩


def spCarry : Sp := fun vs H Q _ => ∃ (G : Hp) (a b : Addr) (ms rs : List Int) (n : Int), vs = [.ref a, .ref b] ∧ Same G H ∧ G a = some (.tup (ms.map V.int)) ∧ G b = some (.tup (rs.map V.int)) ∧ IsMv ms n ∧ (∀ r ∈ rs, inR n r) ∧ rs.length ≤ 100000 ∧
  ∀ (p : Addr) (G' H' : Hp), Stq G H G' H' → G' p = some (.tup ((aft rs ms).map V.int)) → Q (.ref p) H'
def spCarryW (K : PySem.W.Frag) : Sp := fun vs H Q _ => ∃ (G : Hp) (a b : Addr) (ms rs : List Int) (n : Int), vs = [.ref a, .ref b] ∧ Same G H ∧ G a = some (.tup (ms.map V.int)) ∧ HasS K H b (rs.map V.int) ∧ IsMv ms n ∧ (∀ r ∈ rs, inR n r) ∧ rs.length ≤ 100000 ∧
  ∀ (p : Addr) (G' H' : Hp), Stq G H G' H' → G' p = some (.tup ((aft rs ms).map V.int)) → Q (.ref p) H'
theorem ok_carry__w (Z : Zs mg) (D : Ds K mg) : Cal P w K mg base "carry" 1 ["move", "row"] (spCarryW K) := by
  refine Def.cal D.d_carry sc_carry (fun vs H Q E h => ?_) (fun f cdv A outer s H vs Q E hr h => ?_)
  · obtain ⟨G, a, b, ms, rs, n, rfl, gh, ha, hb, mm, inr, lr, q⟩ := h
    rfl
  obtain ⟨G, a, b, ms, rs, n, rfl, gh, ha, hb, mm, inr, lr, q⟩ := h
  refine ⟨_, (pss_one (ps_ret (pe_callTy call_tupleN (by rfl) Z.z_tuple (by decide +kernel) (pa_cons (pe_lc (own := [("point", 2)]) (g := gName 2) (tt := tYes) (by rfl) sc_carry.nd (pi_or (pi_list (pv 1)) (pi_tup (pv 1))) (blkOk_by (N := ["move", "row", "point"]) (sc := defScope s_carry) (by decide +kernel)) (fun _ _ _ _ _ => pg_name (i := 2) sc_carry.nd rfl (Or.inl rfl)) (fun _ _ _ _ _ => pts_nil) (fun _ _ _ _ _ => (pe_ix (ix_tupK (K := K) rfl) (pv 0) (pv 2) (fun _ _ => rfl)))) pa_nil)))), ?_⟩
  rcases hb with (hb | hb) | hb
  · refine .inl ⟨_, rfl, b, rfl, ⟨_, .of (hb)⟩, fun l hl => ?_⟩
    refine lc_list (xs := rs.map V.int) (fun i H' => Stq G H G H' ∧ G l = none ∧ H l = none ∧ H' l = some (.lst (((aft rs ms).take i).map V.int))) ?_ ?_ ?_ ?_
    · obtain ⟨s2, gl, h2, fl⟩ := (Stq.refl gh).loc2 (p := l) (o := .lst []) ⟨hl, rfl⟩
      exact ⟨s2, gl, fl, h2⟩
    · rintro i H' - ⟨s2, -⟩
      exact .of (s2.hh _ _ hb)
    · rintro i x H2 hx ⟨s2, gl, fl, h2⟩
      obtain ⟨r, hr, rfl⟩ := map_at hx
      have ir := inr r (List.mem_of_getElem? hr)
      have lt := (List.getElem?_eq_some_iff.mp hr).1
      obtain ⟨z, e1, e2, -⟩ := atI_ints (ns := ms) ir.1 (by have := mm.len; have := ir.2; omega)
      have ez : z = stp ms r := Option.some.inj (e1.symm.trans (stp_at mm ir).1)
      subst ez
      refine ⟨rfl, yesT ⟨_, rfl, _, rfl, a, _, _, _, rfl, rfl, .of (s2.gh _ _ ha), e2, _, h2, ?_, s2.mut gl fl rfl, gl, fl, ?_⟩⟩
      · rw [List.length_map, List.length_take, aft_len]
        exact Nat.lt_of_le_of_lt (Nat.min_le_left _ _) (Nat.lt_of_lt_of_le lt (Nat.le_trans lr (by decide)))
      · rw [upd_same, List.take_add_one]
        have : (aft rs ms)[i]? = some (stp ms r) := by unfold aft; rw [List.getElem?_map, hr]; rfl
        rw [this, List.map_append]
        rfl
    · rintro H2 ⟨s2, gl, fl, h2⟩
      rw [List.length_map, ← aft_len rs ms, List.take_length] at h2
      refine ⟨l, _, rfl, .of h2, fun p H3 n3 => ?_⟩
      obtain ⟨G3, s3, g3, k3, -⟩ := s2.know2 n3
      exact q p G3 H3 s3 k3
  · refine .inr ⟨_, rfl, b, rfl, ⟨_, .of (hb)⟩, fun l hl => ?_⟩
    refine lc_tup (xs := rs.map V.int) (fun i H' => Stq G H G H' ∧ G l = none ∧ H l = none ∧ H' l = some (.lst (((aft rs ms).take i).map V.int))) ?_ ?_ ?_ ?_
    · obtain ⟨s2, gl, h2, fl⟩ := (Stq.refl gh).loc2 (p := l) (o := .lst []) ⟨hl, rfl⟩
      exact ⟨s2, gl, fl, h2⟩
    · rintro i H' - ⟨s2, -⟩
      exact .of (s2.hh _ _ hb)
    · rintro i x H2 hx ⟨s2, gl, fl, h2⟩
      obtain ⟨r, hr, rfl⟩ := map_at hx
      have ir := inr r (List.mem_of_getElem? hr)
      have lt := (List.getElem?_eq_some_iff.mp hr).1
      obtain ⟨z, e1, e2, -⟩ := atI_ints (ns := ms) ir.1 (by have := mm.len; have := ir.2; omega)
      have ez : z = stp ms r := Option.some.inj (e1.symm.trans (stp_at mm ir).1)
      subst ez
      refine ⟨rfl, yesT ⟨_, rfl, _, rfl, a, _, _, _, rfl, rfl, .of (s2.gh _ _ ha), e2, _, h2, ?_, s2.mut gl fl rfl, gl, fl, ?_⟩⟩
      · rw [List.length_map, List.length_take, aft_len]
        exact Nat.lt_of_le_of_lt (Nat.min_le_left _ _) (Nat.lt_of_lt_of_le lt (Nat.le_trans lr (by decide)))
      · rw [upd_same, List.take_add_one]
        have : (aft rs ms)[i]? = some (stp ms r) := by unfold aft; rw [List.getElem?_map, hr]; rfl
        rw [this, List.map_append]
        rfl
    · rintro H2 ⟨s2, gl, fl, h2⟩
      rw [List.length_map, ← aft_len rs ms, List.take_length] at h2
      refine ⟨l, _, rfl, .of h2, fun p H3 n3 => ?_⟩
      obtain ⟨G3, s3, g3, k3, -⟩ := s2.know2 n3
      exact q p G3 H3 s3 k3
  · refine .inr ⟨_, rfl, b, rfl, ⟨_, .inr hb⟩, fun l hl => ?_⟩
    refine lc_tup (xs := rs.map V.int) (fun i H' => Stq G H G H' ∧ G l = none ∧ H l = none ∧ H' l = some (.lst (((aft rs ms).take i).map V.int))) ?_ ?_ ?_ ?_
    · obtain ⟨s2, gl, h2, fl⟩ := (Stq.refl gh).loc2 (p := l) (o := .lst []) ⟨hl, rfl⟩
      exact ⟨s2, gl, fl, h2⟩
    · rintro i H' - ⟨s2, -⟩
      exact .inr hb
    · rintro i x H2 hx ⟨s2, gl, fl, h2⟩
      obtain ⟨r, hr, rfl⟩ := map_at hx
      have ir := inr r (List.mem_of_getElem? hr)
      have lt := (List.getElem?_eq_some_iff.mp hr).1
      obtain ⟨z, e1, e2, -⟩ := atI_ints (ns := ms) ir.1 (by have := mm.len; have := ir.2; omega)
      have ez : z = stp ms r := Option.some.inj (e1.symm.trans (stp_at mm ir).1)
      subst ez
      refine ⟨rfl, yesT ⟨_, rfl, _, rfl, a, _, _, _, rfl, rfl, .of (s2.gh _ _ ha), e2, _, h2, ?_, s2.mut gl fl rfl, gl, fl, ?_⟩⟩
      · rw [List.length_map, List.length_take, aft_len]
        exact Nat.lt_of_le_of_lt (Nat.min_le_left _ _) (Nat.lt_of_lt_of_le lt (Nat.le_trans lr (by decide)))
      · rw [upd_same, List.take_add_one]
        have : (aft rs ms)[i]? = some (stp ms r) := by unfold aft; rw [List.getElem?_map, hr]; rfl
        rw [this, List.map_append]
        rfl
    · rintro H2 ⟨s2, gl, fl, h2⟩
      rw [List.length_map, ← aft_len rs ms, List.take_length] at h2
      refine ⟨l, _, rfl, .of h2, fun p H3 n3 => ?_⟩
      obtain ⟨G3, s3, g3, k3, -⟩ := s2.know2 n3
      exact q p G3 H3 s3 k3
theorem ok_carry (Z : Zs mg) (D : Ds K mg) (c_carry__w : Cal P w K mg base "carry" 1 ["move", "row"] (spCarryW K)) : Cal P w K mg base "carry" 1 ["move", "row"] spCarry := by
  obtain ⟨f, fd, F, r⟩ := c_carry__w
  refine ⟨f, fd, F.imp fun vs H Q E h => ?_, r⟩
  obtain ⟨G, a, b, ms, rs, n, rfl, gh, ha, hb, mm, inr, lr, q⟩ := h
  exact ⟨G, a, b, ms, rs, n, rfl, gh, ha, .inl (.inr (gh _ _ hb)), mm, inr, lr, q⟩
def spAfter : Sp := fun vs H Q _ => ∃ (G : Hp) (a b : Addr) (rs ms : List Int) (n : Int), vs = [.ref a, .ref b] ∧ Same G H ∧ G a = some (.tup (rs.map V.int)) ∧ G b = some (.tup (ms.map V.int)) ∧ IsMv ms n ∧ (∀ r ∈ rs, inR n r) ∧ rs.length ≤ 100000 ∧
  ∀ (p : Addr) (G' H' : Hp), Stq G H G' H' → G' p = some (.tup ((aft rs ms).map V.int)) → Q (.ref p) H'
theorem ok_after (Z : Zs mg) (D : Ds K mg) : Cal P w K mg base "_law_after" 1 ["first", "second"] spAfter := by
  refine Def.cal D.d_law_after sc_law_after (fun vs H Q E h => ?_) (fun f cdv A outer s H vs Q E hr h => ?_)
  · obtain ⟨G, b, a, rs, ms, n, rfl, gh, hb, ha, mm, inr, lr, q⟩ := h
    rfl
  obtain ⟨G, b, a, rs, ms, n, rfl, gh, hb, ha, mm, inr, lr, q⟩ := h
  refine ⟨_, (pss_one (ps_ret (pe_callTy call_tupleN (by rfl) Z.z_tuple (by decide +kernel) (pa_cons (pe_lc (own := [("p", 2)]) (g := gName 2) (tt := tYes) (by rfl) sc_law_after.nd (pi_tup (pv 0)) (blkOk_by (N := ["first", "second", "p"]) (sc := defScope s_law_after) (by decide +kernel)) (fun _ _ _ _ _ => pg_name (i := 2) sc_law_after.nd rfl (Or.inl rfl)) (fun _ _ _ _ _ => pts_nil) (fun _ _ _ _ _ => (pe_ix (ix_tupK (K := K) rfl) (pv 1) (pv 2) (fun _ _ => rfl)))) pa_nil)))), ?_⟩
  refine ⟨_, rfl, b, rfl, ⟨_, .of (gh _ _ hb)⟩, fun l hl => ?_⟩
  refine lc_tup (xs := rs.map V.int) (fun i H' => Stq G H G H' ∧ G l = none ∧ H l = none ∧ H' l = some (.lst (((aft rs ms).take i).map V.int))) ?_ ?_ ?_ ?_
  · obtain ⟨s2, gl, h2, fl⟩ := (Stq.refl gh).loc2 (p := l) (o := .lst []) ⟨hl, rfl⟩
    exact ⟨s2, gl, fl, h2⟩
  · rintro i H' - ⟨s2, -⟩
    exact .of (s2.gh _ _ hb)
  · rintro i x H2 hx ⟨s2, gl, fl, h2⟩
    obtain ⟨r, hr, rfl⟩ := map_at hx
    have ir := inr r (List.mem_of_getElem? hr)
    have lt := (List.getElem?_eq_some_iff.mp hr).1
    obtain ⟨z, e1, e2, -⟩ := atI_ints (ns := ms) ir.1 (by have := mm.len; have := ir.2; omega)
    have ez : z = stp ms r := Option.some.inj (e1.symm.trans (stp_at mm ir).1)
    subst ez
    refine ⟨rfl, yesT ⟨_, rfl, _, rfl, a, _, _, _, rfl, rfl, .of (s2.gh _ _ ha), e2, _, h2, ?_, s2.mut gl fl rfl, gl, fl, ?_⟩⟩
    · rw [List.length_map, List.length_take, aft_len]
      exact Nat.lt_of_le_of_lt (Nat.min_le_left _ _) (Nat.lt_of_lt_of_le lt (Nat.le_trans lr (by decide)))
    · rw [upd_same, List.take_add_one]
      have : (aft rs ms)[i]? = some (stp ms r) := by unfold aft; rw [List.getElem?_map, hr]; rfl
      rw [this, List.map_append]
      rfl
  · rintro H2 ⟨s2, gl, fl, h2⟩
    rw [List.length_map, ← aft_len rs ms, List.take_length] at h2
    refine ⟨l, _, rfl, .of h2, fun p H3 n3 => ?_⟩
    obtain ⟨G3, s3, g3, k3, -⟩ := s2.know2 n3
    exact q p G3 H3 s3 k3


def spCheckNum (DB : Addr) : Sp := fun vs H Q E => ∃ (v : V) (d : PyData) (lo hi : Int), vs = [v, .int lo, .int hi] ∧ Da H v d ∧ (isNum d lo hi = true → Q .non H) ∧ (isNum d lo hi = false → Errs E DB [(("high" : Str), .int hi), (("low" : Str), .int lo), (("value" : Str), v)] H)
theorem ok_check_number {DB : Addr} (Z : Zs mg) (D : Ds K mg) (m_BadNumber : Xm P w K mg base "BadNumber" DB ["value", "low", "high"]) (c_is_number : Cal P w K mg base "is_number" 1 ["value", "low", "high"] spIsNum) : CalX P w K mg base "check_number" 3 ["value", "low", "high"] (spCheckNum DB) := by
  refine Def.calX D.d_check_number sc_check_number (fun vs H Q E h => ?_) (fun f cdv A outer s H vs Q E hr h => ?_)
  · obtain ⟨v, d, lo, hi, rfl, hd, q1, q2⟩ := h
    rfl
  obtain ⟨v, d, lo, hi, rfl, hd, q1, q2⟩ := h
  refine ⟨_, (pss_one (ps_if (pt_not (pt_val (pe_cal c_is_number (hr.mono (by first | decide | omega)) (by rfl) (pa_cons (pv 0) (pa_cons (pv 1) (pa_cons (pv 2) pa_nil)))))) (pss_one (L2N.ps_raise rfl (L2N.takes_of rfl rfl rfl rfl) (pmk_x m_BadNumber (hr.mono (by first | decide | omega)) (by rfl) (pa_cons (pv 0) (pa_cons (pv 1) (pa_cons (pv 2) pa_nil)))))) pss_nil)), ?_⟩
  refine ⟨_, rfl, _, rfl, _, rfl, v, d, lo, hi, rfl, hd, ?_⟩
  cases e : isNum d lo hi with
  | true => exact ⟨_, rfl, iteF (q1 e)⟩
  | false => exact ⟨_, rfl, iteT ⟨_, rfl, _, rfl, _, rfl, ini_end rfl (by show 3 ≤ 1000; decide) fun dd hdd => q2 e dd _ (same_put (Same.refl _) hdd) upd_same⟩⟩
def spCheckPts (DB : Addr) : Sp := fun vs H Q E => ∃ (v : V) (d : PyData), vs = [v] ∧ Da H v d ∧ (isNum d 0 12 = true → Q .non H) ∧ (isNum d 0 12 = false → Errs E DB [(("high" : Str), .int 12), (("low" : Str), .int 0), (("value" : Str), v)] H)
theorem ok_check_points {DB : Addr} (Z : Zs mg) (D : Ds K mg) (c_check_number : CalX P w K mg base "check_number" 3 ["value", "low", "high"] (spCheckNum DB)) : CalX P w K mg base "check_points" 4 ["value"] (spCheckPts DB) := by
  refine Def.calX D.d_check_points sc_check_points (fun vs H Q E h => ?_) (fun f cdv A outer s H vs Q E hr h => ?_)
  · obtain ⟨v, d, rfl, hd, q1, q2⟩ := h
    rfl
  obtain ⟨v, d, rfl, hd, q1, q2⟩ := h
  refine ⟨_, (pss_one (ps_expr (pe_calX c_check_number (L2N.takes_of rfl rfl rfl rfl) (hr.mono (by first | decide | omega)) (by rfl) (pa_cons (pv 0) (pa_cons pe_int (pa_cons (pe_globI (by rfl) Z.c_MOST_POINTS) pa_nil)))))), ?_⟩
  exact ⟨_, rfl, v, d, 0, 12, rfl, hd, q1, q2⟩
def badAt (n : Int) (ds : List PyData) (i : Nat) : Prop := (∃ d, ds[i]? = some d ∧ mvOn n d = false) ∧ ∀ (j : Nat) d, j < i → ds[j]? = some d → mvOn n d = true
def spCheckMoves (K : PySem.W.Frag) (DN DT : Addr) : Sp := fun vs H Q E => ∃ (G : Hp) (a : Addr) (xs : List V) (ds : List PyData) (n : Int) (what : Str) (lim : Int), vs = [.int n, .ref a, .str what, .int lim] ∧ Same G H ∧ HasS K H a xs ∧ DaAll G xs ds ∧ szL ds ≤ 900000 ∧
  (lim < (ds.length : Nat) → Errs E DT [(("limit" : Str), .int lim), (("what" : Str), .str what)] H) ∧ (((ds.length : Nat) : Int) ≤ lim → ∀ i : Nat, badAt n ds i → Errs E DN [(("index" : Str), .int i)] H) ∧
  (((ds.length : Nat) : Int) ≤ lim → (∀ d ∈ ds, mvOn n d = true) → ∀ H', Same H H' → Q .non H')
theorem ok_check_moves {DN DT : Addr} (Z : Zs mg) (D : Ds K mg) (m_NotAMove : Xm P w K mg base "NotAMove" DN ["index"]) (m_TooMany : Xm P w K mg base "TooMany" DT ["what", "limit"]) (c_is_move_on : Cal P w K mg base "is_move_on" 3 ["points", "value"] spIsMoveOn) : CalX P w K mg base "check_moves" 4 ["points", "moves", "what", "limit"] (spCheckMoves K DN DT) := by
  refine Def.calX D.d_check_moves sc_check_moves (fun vs H Q E h => ?_) (fun f cdv A outer s H vs Q E hr h => ?_)
  · obtain ⟨G, a, xs, ds, n, what, lim, rfl, gh, hl, dx, sz, q1, q2, q3⟩ := h
    rfl
  obtain ⟨G, a, xs, ds, n, what, lim, rfl, gh, hl, dx, sz, q1, q2, q3⟩ := h
  refine ⟨_, (pss_cons (ps_if (pt_cmp (pc_gt (pe_callB call_len (by rfl) Z.z_len (by decide +kernel) (pa_cons (pv 1) pa_nil)) (pv 3)) (nomark _)) (pss_one (L2N.ps_raise rfl (L2N.takes_of rfl rfl rfl rfl) (pmk_x m_TooMany (hr.mono (by first | decide | omega)) (by rfl) (pa_cons (pv 2) (pa_cons (pv 3) pa_nil))))) pss_nil)
      (pss_one (ps_for (passes_of rfl) rfl (pi_or (pi_enum (by rfl) Z.z_enumerate (pa_cons (pv 1) pa_nil)) (pi_enumT (by rfl) Z.z_enumerate (pa_cons (pv 1) pa_nil))) (pg_tup rfl (pgs_cons (pg_name (i := 4) sc_check_moves.nd rfl (Or.inl rfl)) (pgs_cons (pg_name (i := 5) sc_check_moves.nd rfl (Or.inl rfl)) pgs_nil))) (pss_one (ps_if (pt_not (pt_val (pe_cal c_is_move_on (hr.mono (by first | decide | omega)) (by rfl) (pa_cons (pv 0) (pa_cons (pv 5) pa_nil))))) (pss_one (L2N.ps_raise rfl (L2N.takes_of rfl rfl rfl rfl) (pmk_x m_NotAMove (hr.mono (by first | decide | omega)) (by rfl) (pa_cons (pv 4) pa_nil)))) pss_nil))))), ?_⟩
  have lx := dx.length
  refine ⟨_, rfl, _, xs.length, rfl, HasS.lenV hl, _, rfl, _, _, rfl, rfl, _, rfl, ite2 (fun c => ?_) (fun c => ?_)⟩
  · have c : lim < ((xs.length : Nat) : Int) := dec_of c
    exact ⟨_, rfl, _, rfl, ini_end rfl (by show 2 ≤ 1000; decide) fun dd hdd => q1 (by rw [← lx]; exact c) dd _ (same_put (Same.refl _) hdd) upd_same⟩
  have c : ¬ lim < ((xs.length : Nat) : Int) := dec_not c
  have q2 := q2 (by rw [← lx]; omega)
  have q3 := q3 (by rw [← lx]; omega)
  rcases hl with (hl | hl) | hl
  · refine .inl ⟨_, rfl, a, xs, rfl, .of hl, for_enumL (K := K) (a := a) (xs := xs) (fun i σ' H' => ∃ y4 y5 : Option V, σ' = [some (.int n), some (.ref a), some (.str what), some (.int lim), y4, y5] ∧ Same H H' ∧ ∀ (j : Nat) d, j < i → ds[j]? = some d → mvOn n d = true) ?_ ?_ ?_ ?_⟩
    · exact ⟨_, _, rfl, Same.refl _, fun j d hj => absurd hj (Nat.not_lt_zero j)⟩
    · rintro i σ' H' - ⟨y4, y5, rfl, s1, -⟩
      exact .of (s1 _ _ hl)
    · rintro i x T σ' H1 H2 hx ⟨y4, y5, rfl, s1, ok⟩ nT
      obtain ⟨d, hd, dd⟩ := dx.get hx
      refine ⟨T, _, rfl, .of nT.at, rfl, _, _, rfl, _, _, rfl, rfl, ?_⟩
      have s2 := s1.trans nT.same
      have zd := szL_get hd
      refine ⟨_, rfl, _, rfl, G, x, d, n, rfl, gh.trans s2, dd, by omega, fun H3 s3 => ?_⟩
      cases e : mvOn n d with
      | true =>
        refine ⟨_, rfl, iteF ⟨_, _, rfl, s2.trans s3, fun j d' hj hd' => ?_⟩⟩
        rcases Nat.lt_or_ge j i with z | z
        · exact ok j d' z hd'
        · have : j = i := by omega
          subst this
          rw [hd] at hd'
          cases hd'
          exact e
      | false => exact ⟨_, rfl, iteT ⟨_, rfl, ini_end rfl (by show 1 ≤ 1000; decide) fun p hp => q2 i ⟨⟨d, hd, e⟩, ok⟩ p _ ((s2.trans s3).trans (same_put (Same.refl _) hp)) upd_same⟩⟩
    · rintro σ' H1 ⟨y4, y5, rfl, s1, ok⟩
      refine q3 (fun d hd => ?_) H1 s1
      obtain ⟨j, hj⟩ := List.getElem?_of_mem hd
      exact ok j d (by rw [lx]; exact (List.getElem?_eq_some_iff.mp hj).1) hj
  · refine .inr ⟨_, rfl, a, xs, rfl, .of hl, for_enumT (K := K) (a := a) (xs := xs) (fun i σ' H' => ∃ y4 y5 : Option V, σ' = [some (.int n), some (.ref a), some (.str what), some (.int lim), y4, y5] ∧ Same H H' ∧ ∀ (j : Nat) d, j < i → ds[j]? = some d → mvOn n d = true) ?_ ?_ ?_ ?_⟩
    · exact ⟨_, _, rfl, Same.refl _, fun j d hj => absurd hj (Nat.not_lt_zero j)⟩
    · rintro i σ' H' - ⟨y4, y5, rfl, s1, -⟩
      exact .of (s1 _ _ hl)
    · rintro i x T σ' H1 H2 hx ⟨y4, y5, rfl, s1, ok⟩ nT
      obtain ⟨d, hd, dd⟩ := dx.get hx
      refine ⟨T, _, rfl, .of nT.at, rfl, _, _, rfl, _, _, rfl, rfl, ?_⟩
      have s2 := s1.trans nT.same
      have zd := szL_get hd
      refine ⟨_, rfl, _, rfl, G, x, d, n, rfl, gh.trans s2, dd, by omega, fun H3 s3 => ?_⟩
      cases e : mvOn n d with
      | true =>
        refine ⟨_, rfl, iteF ⟨_, _, rfl, s2.trans s3, fun j d' hj hd' => ?_⟩⟩
        rcases Nat.lt_or_ge j i with z | z
        · exact ok j d' z hd'
        · have : j = i := by omega
          subst this
          rw [hd] at hd'
          cases hd'
          exact e
      | false => exact ⟨_, rfl, iteT ⟨_, rfl, ini_end rfl (by show 1 ≤ 1000; decide) fun p hp => q2 i ⟨⟨d, hd, e⟩, ok⟩ p _ ((s2.trans s3).trans (same_put (Same.refl _) hp)) upd_same⟩⟩
    · rintro σ' H1 ⟨y4, y5, rfl, s1, ok⟩
      refine q3 (fun d hd => ?_) H1 s1
      obtain ⟨j, hj⟩ := List.getElem?_of_mem hd
      exact ok j d (by rw [lx]; exact (List.getElem?_eq_some_iff.mp hj).1) hj
  · refine .inr ⟨_, rfl, a, xs, rfl, .inr hl, for_enumT (K := K) (a := a) (xs := xs) (fun i σ' H' => ∃ y4 y5 : Option V, σ' = [some (.int n), some (.ref a), some (.str what), some (.int lim), y4, y5] ∧ Same H H' ∧ ∀ (j : Nat) d, j < i → ds[j]? = some d → mvOn n d = true) ?_ ?_ ?_ ?_⟩
    · exact ⟨_, _, rfl, Same.refl _, fun j d hj => absurd hj (Nat.not_lt_zero j)⟩
    · rintro i σ' H' - ⟨y4, y5, rfl, s1, -⟩
      exact .inr hl
    · rintro i x T σ' H1 H2 hx ⟨y4, y5, rfl, s1, ok⟩ nT
      obtain ⟨d, hd, dd⟩ := dx.get hx
      refine ⟨T, _, rfl, .of nT.at, rfl, _, _, rfl, _, _, rfl, rfl, ?_⟩
      have s2 := s1.trans nT.same
      have zd := szL_get hd
      refine ⟨_, rfl, _, rfl, G, x, d, n, rfl, gh.trans s2, dd, by omega, fun H3 s3 => ?_⟩
      cases e : mvOn n d with
      | true =>
        refine ⟨_, rfl, iteF ⟨_, _, rfl, s2.trans s3, fun j d' hj hd' => ?_⟩⟩
        rcases Nat.lt_or_ge j i with z | z
        · exact ok j d' z hd'
        · have : j = i := by omega
          subst this
          rw [hd] at hd'
          cases hd'
          exact e
      | false => exact ⟨_, rfl, iteT ⟨_, rfl, ini_end rfl (by show 1 ≤ 1000; decide) fun p hp => q2 i ⟨⟨d, hd, e⟩, ok⟩ p _ ((s2.trans s3).trans (same_put (Same.refl _) hp)) upd_same⟩⟩
    · rintro σ' H1 ⟨y4, y5, rfl, s1, ok⟩
      refine q3 (fun d hd => ?_) H1 s1
      obtain ⟨j, hj⟩ := List.getElem?_of_mem hd
      exact ok j d (by rw [lx]; exact (List.getElem?_eq_some_iff.mp hj).1) hj
def spStill (DB : Addr) : Sp := fun vs H Q _ => ∃ (n : Int), vs = [.int n] ∧ 0 ≤ n ∧ n ≤ 12 ∧ ∀ p H', New H p (.tup ((rngI n).map V.int)) H' → Q (.ref p) H'
theorem ok_still {DB : Addr} (Z : Zs mg) (D : Ds K mg) (c_check_points : CalX P w K mg base "check_points" 4 ["value"] (spCheckPts DB)) : CalX P w K mg base "still_move" 5 ["points"] (spStill DB) := by
  refine Def.calX D.d_still_move sc_still_move (fun vs H Q E h => ?_) (fun f cdv A outer s H vs Q E hr h => ?_)
  · obtain ⟨n, rfl, n0, n12, q⟩ := h
    rfl
  obtain ⟨n, rfl, n0, n12, q⟩ := h
  refine ⟨_, (pss_cons (ps_expr (pe_calX c_check_points (L2N.takes_of rfl rfl rfl rfl) (hr.mono (by first | decide | omega)) (by rfl) (pa_cons (pv 0) pa_nil)))
      (pss_one (ps_ret (pe_tupRgN rfl (by rfl) Z.z_tuple (prg_1 (by rfl) Z.z_range (pv 0)))))), ?_⟩
  refine ⟨_, rfl, .int n, .int n, rfl, .int n, fun _ => ?_, fun e => ?_⟩
  · refine ⟨_, rfl, n, rfl, .of_le (by decide) (by omega) (by decide) (by omega), fun p H1 n1 => ?_⟩
    rw [rgV_rngI] at n1
    exact q p H1 n1
  · have : isNum (.int n) 0 12 = true := by
      show (decide (0 ≤ n) && decide (n ≤ 12)) = true
      rw [decide_eq_true n0, decide_eq_true n12]
      rfl
    rw [this] at e
    cases e


def spNext (K : PySem.W.Frag) : Sp := fun vs H Q _ => ∃ (G : Hp) (l t d : Addr) (xs ts : List V) (R T : List (List Int)) (n : Int) (kvs : List (List L2.Key × V)) (W : WL), vs = [.ref l, .ref t, .ref d] ∧ Same G H ∧ H l = some (.lst xs) ∧ DaAll G xs (R.map rowD) ∧ HasS K H t ts ∧ DaAll G ts (T.map rowD) ∧ AllMv n T ∧ T.length ≤ 8 ∧
  R.length ≤ 400 ∧ (∀ r ∈ R, RowIn n r ∧ r.length ≤ 100 ∧ r ∈ W.map (·.1)) ∧ G d = none ∧ H d = some (.dT kvs) ∧ Wds G kvs W ∧ W.length ≤ 400 ∧ (∀ p ∈ W, p.2.length ≤ 1000) ∧
  ∀ (f : Addr) (G' H' : Hp) (kvs' : List (List L2.Key × V)) (ys : List V), Stp d G H G' H' → H f = none → G' f = none → H' f = some (.lst ys) → H' d = some (.dT kvs') → Wds G' kvs' (nl T R W R.length) → DaAll G' ys ((fnd W (nl T R W R.length)).map rowD) → Q (.ref f) H'
theorem ok_next (Z : Zs mg) (D : Ds K mg) (c_carry : Cal P w K mg base "carry" 1 ["move", "row"] spCarry) : Cal P w K mg base "_next_layer" 2 ["layer", "told", "words"] (spNext K) := by
  refine Def.cal D.d_next_layer sc_next_layer (fun vs H Q E h => ?_) (fun f cdv A outer s H vs Q E hr h => ?_)
  · obtain ⟨G, l, t, d, xs, ts, R, T, n, kvs, W, rfl, gh, hxl, dx, hlt, dt, mvT, lT, lR, rR, gd, hd, wk, lW, lwd, q⟩ := h
    rfl
  obtain ⟨G, l, t, d, xs, ts, R, T, n, kvs, W, rfl, gh, hxl, dx, hlt, dt, mvT, lT, lR, rR, gd, hd, wk, lW, lwd, q⟩ := h
  refine ⟨_, (pss_cons (ps_set (i := 3) sc_next_layer.nd rfl (Or.inl rfl) (pe_lstN pa_nil))
      (pss_cons (ps_for PassesOwn.never rfl (pi_list (pv 0)) (pg_name (i := 4) sc_next_layer.nd rfl (Or.inl rfl)) (pss_one (ps_for PassesOwn.never rfl (pi_or (pi_enum (by rfl) Z.z_enumerate (pa_cons (pv 1) pa_nil)) (pi_enumT (by rfl) Z.z_enumerate (pa_cons (pv 1) pa_nil))) (pg_tup rfl (pgs_cons (pg_name (i := 5) sc_next_layer.nd rfl (Or.inl rfl)) (pgs_cons (pg_name (i := 6) sc_next_layer.nd rfl (Or.inl rfl)) pgs_nil))) (pss_cons (ps_set (i := 7) sc_next_layer.nd rfl (Or.inl rfl) (pe_cal c_carry (hr.mono (by first | decide | omega)) (by rfl) (pa_cons (pv 6) (pa_cons (pv 4) pa_nil))))
      (pss_one (ps_if (pt_cmp (pc_dnotin (hu_of hr) (pv 7) (pv 2))) (pss_cons (ps_dput (hu_of hr) (pv 2) (pv 7) (pe_op op_catA (pe_dget (hu_of hr) (pv 2) (pv 4) (fun _ _ => rfl)) (pe_tupN (pa_cons (pv 5) pa_nil))) rfl)
      (pss_one (ps_expr (pe_bm PySem.F.plainAttrs_list PySem.F.slot_list_append PySem.F.type_list_append mt_appendN (pv 3) (pa_cons (pv 7) pa_nil))))) pss_nil))))))
      (pss_one (ps_ret (pv 3))))), ?_⟩
  have lx := dx.length
  have lt' := dt.length
  rw [List.length_map] at lx lt'
  have nld : l ≠ d := ne_of hxl hd (by intro z; cases z)
  have ntd : HasL H t ts → t ≠ d := fun h => h.elim (fun h => ne_of h hd (by intro z; cases z)) fun h => ne_of h hd (by intro z; cases z)
  have hd0 : H d ≠ none := ne_none hd
  refine ⟨Nat.zero_le _, fun f H1 n1 => ?_⟩
  obtain ⟨s1q, gf, hf, ff⟩ := (Stq.refl gh).loc2 n1
  have s1 : Stp d G H G H1 := s1q.p
  have nfd : f ≠ d := fun e => by rw [e, hd] at ff; cases ff
  refine ⟨_, rfl, l, rfl, ⟨_, .of (s1.hh _ _ nld hxl)⟩, for_list (K := K) (a := l) (xs := xs) (fun i σ' H' => ∃ (G' : Hp) (kvs' : List (List L2.Key × V)) (ys : List V) (y4 y5 y6 y7 : Option V), σ' = [some (.ref l), some (.ref t), some (.ref d), some (.ref f), y4, y5, y6, y7] ∧ Stp d G H G' H' ∧ G' f = none ∧ H' f = some (.lst ys) ∧ H' d = some (.dT kvs') ∧
    Wds G' kvs' (nl T R W i) ∧ DaAll G' ys ((fnd W (nl T R W i)).map rowD)) ?_ ?_ ?_ ?_⟩
  · exact ⟨G, kvs, [], _, _, _, _, rfl, s1, gf, hf, n1.else hd, wk, by show DaAll G [] ((fnd W W).map rowD); rw [fnd_self]; exact .nil⟩
  · rintro i σ' H' - ⟨G', kvs', ys, y4, y5, y6, y7, rfl, s2, -⟩
    exact .of (s2.hh _ _ nld hxl)
  · rintro i x σ' H2 hx ⟨G2, kvs2, ys, y4, y5, y6, y7, rfl, s2, gf2, hf2, hd2, wk2, dy2⟩
    obtain ⟨e, he, hde⟩ := dx.get hx
    rw [List.getElem?_map] at he
    obtain ⟨r, hr, rfl⟩ := Option.map_eq_some_iff.mp he
    obtain ⟨rin, rl, rk⟩ := rR r (List.mem_of_getElem? hr)
    obtain ⟨a, rfl, ha⟩ := rows_ref hde
    have ilt := (List.getElem?_eq_some_iff.mp hr).1
    have step := nl_step (T := T) (W := W) hr
    obtain ⟨Yi, eYi⟩ := nl_ext T R W i
    have rki : r ∈ (nl T R W i).map (·.1) := nl_sub rk i
    have len_i := nl_len T R W i
    have small : i * T.length ≤ 3200 := Nat.le_trans (Nat.mul_le_mul (show i ≤ 400 by omega) lT) (by decide)
    rcases hlt with (hlt | hlt) | hlt
    · refine .inl ⟨_, rfl, t, ts, rfl, .of (s2.hh _ _ (ntd (.inl hlt)) hlt), for_enumL (K := K) (a := t) (xs := ts) (fun j σ' H' => ∃ (G' : Hp) (kvs' : List (List L2.Key × V)) (ys : List V) (y5 y6 y7 : Option V), σ' = [some (.ref l), some (.ref t), some (.ref d), some (.ref f), some (.ref a), y5, y6, y7] ∧ Stp d G H G' H' ∧ G' f = none ∧ H' f = some (.lst ys) ∧ H' d = some (.dT kvs') ∧
        Wds G' kvs' (nl1 T r (nl T R W i) j) ∧ DaAll G' ys ((fnd W (nl1 T r (nl T R W i) j)).map rowD)) ?_ ?_ ?_ ?_⟩
      · exact ⟨G2, kvs2, ys, y5, y6, y7, rfl, s2, gf2, hf2, hd2, wk2, dy2⟩
      · rintro j σ' H' - ⟨G', kvs', ys, y5, y6, y7, rfl, s3, -⟩
        exact .of (s3.hh _ _ (ntd (.inl hlt)) hlt)
      · rintro j x T_ σ' H3 H4 hxj ⟨G3, kvs3, ys3, y5, y6, y7, rfl, s3, gf3, hf3, hd3, wk3, dy3⟩ nT
        obtain ⟨e, he, hdm⟩ := dt.get hxj
        rw [List.getElem?_map] at he
        obtain ⟨m, hm, rfl⟩ := Option.map_eq_some_iff.mp he
        obtain ⟨b, rfl, hb⟩ := rows_ref hdm
        have mvm := mvT m (List.mem_of_getElem? hm)
        have jlt := (List.getElem?_eq_some_iff.mp hm).1
        have stepj := nl1_step (r := r) (W := nl T R W i) hm
        obtain ⟨Yj, eYj⟩ := nl1_ext T r (nl T R W i) j
        have len_j := nl1_len T r (nl T R W i) j
        have extj : ∃ Y, nl1 T r (nl T R W i) j = W ++ Y := ⟨Yi ++ Yj, by rw [eYj, eYi, List.append_assoc]⟩
        have lyj : ys3.length ≤ 4000 := by
          have h1 := dy3.length
          have h2 := fnd_len extj
          rw [List.length_map] at h1
          omega
        have lkj : kvs3.length ≤ 4000 := by
          have := Paired.length wk3
          omega
        have s4 : Stp d G H G3 H4 := s3.q (Stq.refl s3.gh |>.loc2 nT).1
        refine ⟨T_, _, rfl, .of nT.at, rfl, _, _, rfl, _, _, rfl, rfl, ?_⟩
        refine ⟨_, rfl, _, rfl, G3, b, a, m, r, n, rfl, s4.gh, s3.gg _ _ hb, s3.gg _ _ ha, mvm, rin, by omega, fun p G5 H5 s5 hp => ?_⟩
        have S5 := s4.q s5
        have gd5 : G5 d = none := S5.gd gd hd
        have hf5 : H5 f = some (.lst ys3) := s5.hh _ _ (nT.else hf3)
        have hd5 : H5 d = some (.dT kvs3) := s5.hh _ _ (nT.else hd3)
        have gf5 : G5 f = none := s5.nw2 (nT.else hf3) gf3
        have wk5 := wk3.up s5.gg
        have dy5 := dy3.up s5.gg
        have hp5 : H5 p = some (.tup ((keyL (aft r m)).map kV)) := by rw [keyL_kV]; exact s5.gh _ _ hp
        refine ⟨_, rfl, _, rfl, d, _, rfl, DGet.t hd5 hp5, _, rfl, ?_⟩
        by_cases c : aft r m ∈ (nl1 T r (nl T R W i) j).map (·.1)
        · obtain ⟨v, hv, -⟩ := wk5.some c
          rw [hv]
          have e : put1 r (lookW (nl T R W i) r) m j (nl1 T r (nl T R W i) j) = nl1 T r (nl T R W i) j := by unfold put1; rw [if_pos c]
          refine iteF ⟨G5, kvs3, ys3, _, _, _, rfl, S5, gf5, hf5, hd5, ?_, ?_⟩
          · rw [stepj, e]; exact wk5
          · rw [stepj, e]; exact dy5
        · rw [wk5.none c]
          have rkj : r ∈ (nl1 T r (nl T R W i) j).map (·.1) := nl1_sub rki j
          obtain ⟨v, hv, dv⟩ := wk5.some rkj
          have ew : lookW (nl1 T r (nl T R W i) j) r = lookW (nl T R W i) r := by rw [eYj]; exact look_ext rki
          have ew2 : lookW (nl T R W i) r = lookW W r := by rw [eYi]; exact look_ext rk
          rw [ew] at dv
          obtain ⟨w0, rfl, hw0⟩ := rows_ref dv
          have lw := lwd _ (look_mem rk)
          have ha5 : H5 a = some (.tup ((keyL r).map kV)) := by rw [keyL_kV]; exact S5.gh _ _ (S5.gg _ _ ha)
          refine iteT ⟨_, rfl, _, rfl, d, _, rfl, DGet.t hd5 ha5 |> (hv ▸ ·), _, rfl, Nat.succ_le_of_lt (Nat.lt_of_lt_of_le (show 0 < 2 by decide) (by decide)), fun q0 H6 n6 => ?_⟩
          obtain ⟨G6, s6, g6, k6, -⟩ := (Stq.refl s5.gh).know2 n6
          refine cat_row (ws := lookW (nl T R W i) r) (i := ((j : Nat) : Int)) s6.gh (s6.gg _ _ hw0) k6 (by rw [ew2]; exact Nat.le_trans lw (by decide)) fun p7 G7 H7 s7 k7 => ?_
          have S7 := S5.q (s6.trans s7)
          have hd7 : H7 d = some (.dT kvs3) := (s6.trans s7).hh _ _ hd5
          have hf7 : H7 f = some (.lst ys3) := (s6.trans s7).hh _ _ hf5
          have hp7 : H7 p = some (.tup ((keyL (aft r m)).map kV)) := (s6.trans s7).hh _ _ hp5
          have gd7 : G7 d = none := S7.gd gd hd
          have gf7 : G7 f = none := (s6.trans s7).nw2 hf5 gf5
          refine ⟨_, rfl, _, rfl, d, _, rfl, DPut.t hd7 hp7 (Nat.lt_of_le_of_lt lkj (by decide)), ?_⟩
          have S8 := S7.putS gd7 rfl (o := .dT (putK kvs3 (keyL (aft r m)) (.ref p7))) rfl
          have hf8 : upd H7 d (.dT (putK kvs3 (keyL (aft r m)) (.ref p7))) f = some (.lst ys3) := by rw [upd_ne nfd]; exact hf7
          refine ⟨_, rfl, .inl ⟨rfl, _, .of hf8⟩, _, rfl, f, _, _, rfl, rfl, hf8, Nat.lt_of_le_of_lt lyj (by decide), fun H9 e9 => ?_⟩
          have S9 := S8.mut gf7 ff e9
          have wk7 := wk5.up (s6.trans s7).gg
          have dy7 := dy5.up (s6.trans s7).gg
          have en : put1 r (lookW (nl T R W i) r) m j (nl1 T r (nl T R W i) j) = nl1 T r (nl T R W i) j ++ [(aft r m, lookW (nl T R W i) r ++ [((j : Nat) : Int)])] := by unfold put1; rw [if_neg c]
          refine ⟨G7, _, _, _, _, _, rfl, S9, gf7, upd_at e9, upd_else e9 upd_same (Ne.symm nfd), ?_, ?_⟩
          · rw [stepj, en, putK_new _ (wk5.none c)]
            exact wk7.app (.tup k7 (DaAll.ints _))
          · rw [stepj, put1_fnd extj c, List.map_append]
            exact dy7.append (.one (.tup ((s6.trans s7).gg _ _ hp) (DaAll.ints _)))
      · rintro σ' H3 ⟨G3, kvs3, ys3, y5, y6, y7, rfl, s3, gf3, hf3, hd3, wk3, dy3⟩
        rw [lt'] at wk3 dy3
        exact ⟨G3, kvs3, ys3, _, _, _, _, rfl, s3, gf3, hf3, hd3, by rw [step]; exact wk3, by rw [step]; exact dy3⟩
    · refine .inr ⟨_, rfl, t, ts, rfl, .of (s2.hh _ _ (ntd (.inr hlt)) hlt), for_enumT (K := K) (a := t) (xs := ts) (fun j σ' H' => ∃ (G' : Hp) (kvs' : List (List L2.Key × V)) (ys : List V) (y5 y6 y7 : Option V), σ' = [some (.ref l), some (.ref t), some (.ref d), some (.ref f), some (.ref a), y5, y6, y7] ∧ Stp d G H G' H' ∧ G' f = none ∧ H' f = some (.lst ys) ∧ H' d = some (.dT kvs') ∧
        Wds G' kvs' (nl1 T r (nl T R W i) j) ∧ DaAll G' ys ((fnd W (nl1 T r (nl T R W i) j)).map rowD)) ?_ ?_ ?_ ?_⟩
      · exact ⟨G2, kvs2, ys, y5, y6, y7, rfl, s2, gf2, hf2, hd2, wk2, dy2⟩
      · rintro j σ' H' - ⟨G', kvs', ys, y5, y6, y7, rfl, s3, -⟩
        exact .of (s3.hh _ _ (ntd (.inr hlt)) hlt)
      · rintro j x T_ σ' H3 H4 hxj ⟨G3, kvs3, ys3, y5, y6, y7, rfl, s3, gf3, hf3, hd3, wk3, dy3⟩ nT
        obtain ⟨e, he, hdm⟩ := dt.get hxj
        rw [List.getElem?_map] at he
        obtain ⟨m, hm, rfl⟩ := Option.map_eq_some_iff.mp he
        obtain ⟨b, rfl, hb⟩ := rows_ref hdm
        have mvm := mvT m (List.mem_of_getElem? hm)
        have jlt := (List.getElem?_eq_some_iff.mp hm).1
        have stepj := nl1_step (r := r) (W := nl T R W i) hm
        obtain ⟨Yj, eYj⟩ := nl1_ext T r (nl T R W i) j
        have len_j := nl1_len T r (nl T R W i) j
        have extj : ∃ Y, nl1 T r (nl T R W i) j = W ++ Y := ⟨Yi ++ Yj, by rw [eYj, eYi, List.append_assoc]⟩
        have lyj : ys3.length ≤ 4000 := by
          have h1 := dy3.length
          have h2 := fnd_len extj
          rw [List.length_map] at h1
          omega
        have lkj : kvs3.length ≤ 4000 := by
          have := Paired.length wk3
          omega
        have s4 : Stp d G H G3 H4 := s3.q (Stq.refl s3.gh |>.loc2 nT).1
        refine ⟨T_, _, rfl, .of nT.at, rfl, _, _, rfl, _, _, rfl, rfl, ?_⟩
        refine ⟨_, rfl, _, rfl, G3, b, a, m, r, n, rfl, s4.gh, s3.gg _ _ hb, s3.gg _ _ ha, mvm, rin, by omega, fun p G5 H5 s5 hp => ?_⟩
        have S5 := s4.q s5
        have gd5 : G5 d = none := S5.gd gd hd
        have hf5 : H5 f = some (.lst ys3) := s5.hh _ _ (nT.else hf3)
        have hd5 : H5 d = some (.dT kvs3) := s5.hh _ _ (nT.else hd3)
        have gf5 : G5 f = none := s5.nw2 (nT.else hf3) gf3
        have wk5 := wk3.up s5.gg
        have dy5 := dy3.up s5.gg
        have hp5 : H5 p = some (.tup ((keyL (aft r m)).map kV)) := by rw [keyL_kV]; exact s5.gh _ _ hp
        refine ⟨_, rfl, _, rfl, d, _, rfl, DGet.t hd5 hp5, _, rfl, ?_⟩
        by_cases c : aft r m ∈ (nl1 T r (nl T R W i) j).map (·.1)
        · obtain ⟨v, hv, -⟩ := wk5.some c
          rw [hv]
          have e : put1 r (lookW (nl T R W i) r) m j (nl1 T r (nl T R W i) j) = nl1 T r (nl T R W i) j := by unfold put1; rw [if_pos c]
          refine iteF ⟨G5, kvs3, ys3, _, _, _, rfl, S5, gf5, hf5, hd5, ?_, ?_⟩
          · rw [stepj, e]; exact wk5
          · rw [stepj, e]; exact dy5
        · rw [wk5.none c]
          have rkj : r ∈ (nl1 T r (nl T R W i) j).map (·.1) := nl1_sub rki j
          obtain ⟨v, hv, dv⟩ := wk5.some rkj
          have ew : lookW (nl1 T r (nl T R W i) j) r = lookW (nl T R W i) r := by rw [eYj]; exact look_ext rki
          have ew2 : lookW (nl T R W i) r = lookW W r := by rw [eYi]; exact look_ext rk
          rw [ew] at dv
          obtain ⟨w0, rfl, hw0⟩ := rows_ref dv
          have lw := lwd _ (look_mem rk)
          have ha5 : H5 a = some (.tup ((keyL r).map kV)) := by rw [keyL_kV]; exact S5.gh _ _ (S5.gg _ _ ha)
          refine iteT ⟨_, rfl, _, rfl, d, _, rfl, DGet.t hd5 ha5 |> (hv ▸ ·), _, rfl, Nat.succ_le_of_lt (Nat.lt_of_lt_of_le (show 0 < 2 by decide) (by decide)), fun q0 H6 n6 => ?_⟩
          obtain ⟨G6, s6, g6, k6, -⟩ := (Stq.refl s5.gh).know2 n6
          refine cat_row (ws := lookW (nl T R W i) r) (i := ((j : Nat) : Int)) s6.gh (s6.gg _ _ hw0) k6 (by rw [ew2]; exact Nat.le_trans lw (by decide)) fun p7 G7 H7 s7 k7 => ?_
          have S7 := S5.q (s6.trans s7)
          have hd7 : H7 d = some (.dT kvs3) := (s6.trans s7).hh _ _ hd5
          have hf7 : H7 f = some (.lst ys3) := (s6.trans s7).hh _ _ hf5
          have hp7 : H7 p = some (.tup ((keyL (aft r m)).map kV)) := (s6.trans s7).hh _ _ hp5
          have gd7 : G7 d = none := S7.gd gd hd
          have gf7 : G7 f = none := (s6.trans s7).nw2 hf5 gf5
          refine ⟨_, rfl, _, rfl, d, _, rfl, DPut.t hd7 hp7 (Nat.lt_of_le_of_lt lkj (by decide)), ?_⟩
          have S8 := S7.putS gd7 rfl (o := .dT (putK kvs3 (keyL (aft r m)) (.ref p7))) rfl
          have hf8 : upd H7 d (.dT (putK kvs3 (keyL (aft r m)) (.ref p7))) f = some (.lst ys3) := by rw [upd_ne nfd]; exact hf7
          refine ⟨_, rfl, .inl ⟨rfl, _, .of hf8⟩, _, rfl, f, _, _, rfl, rfl, hf8, Nat.lt_of_le_of_lt lyj (by decide), fun H9 e9 => ?_⟩
          have S9 := S8.mut gf7 ff e9
          have wk7 := wk5.up (s6.trans s7).gg
          have dy7 := dy5.up (s6.trans s7).gg
          have en : put1 r (lookW (nl T R W i) r) m j (nl1 T r (nl T R W i) j) = nl1 T r (nl T R W i) j ++ [(aft r m, lookW (nl T R W i) r ++ [((j : Nat) : Int)])] := by unfold put1; rw [if_neg c]
          refine ⟨G7, _, _, _, _, _, rfl, S9, gf7, upd_at e9, upd_else e9 upd_same (Ne.symm nfd), ?_, ?_⟩
          · rw [stepj, en, putK_new _ (wk5.none c)]
            exact wk7.app (.tup k7 (DaAll.ints _))
          · rw [stepj, put1_fnd extj c, List.map_append]
            exact dy7.append (.one (.tup ((s6.trans s7).gg _ _ hp) (DaAll.ints _)))
      · rintro σ' H3 ⟨G3, kvs3, ys3, y5, y6, y7, rfl, s3, gf3, hf3, hd3, wk3, dy3⟩
        rw [lt'] at wk3 dy3
        exact ⟨G3, kvs3, ys3, _, _, _, _, rfl, s3, gf3, hf3, hd3, by rw [step]; exact wk3, by rw [step]; exact dy3⟩
    · refine .inr ⟨_, rfl, t, ts, rfl, .inr hlt, for_enumT (K := K) (a := t) (xs := ts) (fun j σ' H' => ∃ (G' : Hp) (kvs' : List (List L2.Key × V)) (ys : List V) (y5 y6 y7 : Option V), σ' = [some (.ref l), some (.ref t), some (.ref d), some (.ref f), some (.ref a), y5, y6, y7] ∧ Stp d G H G' H' ∧ G' f = none ∧ H' f = some (.lst ys) ∧ H' d = some (.dT kvs') ∧
        Wds G' kvs' (nl1 T r (nl T R W i) j) ∧ DaAll G' ys ((fnd W (nl1 T r (nl T R W i) j)).map rowD)) ?_ ?_ ?_ ?_⟩
      · exact ⟨G2, kvs2, ys, y5, y6, y7, rfl, s2, gf2, hf2, hd2, wk2, dy2⟩
      · rintro j σ' H' - ⟨G', kvs', ys, y5, y6, y7, rfl, s3, -⟩
        exact .inr hlt
      · rintro j x T_ σ' H3 H4 hxj ⟨G3, kvs3, ys3, y5, y6, y7, rfl, s3, gf3, hf3, hd3, wk3, dy3⟩ nT
        obtain ⟨e, he, hdm⟩ := dt.get hxj
        rw [List.getElem?_map] at he
        obtain ⟨m, hm, rfl⟩ := Option.map_eq_some_iff.mp he
        obtain ⟨b, rfl, hb⟩ := rows_ref hdm
        have mvm := mvT m (List.mem_of_getElem? hm)
        have jlt := (List.getElem?_eq_some_iff.mp hm).1
        have stepj := nl1_step (r := r) (W := nl T R W i) hm
        obtain ⟨Yj, eYj⟩ := nl1_ext T r (nl T R W i) j
        have len_j := nl1_len T r (nl T R W i) j
        have extj : ∃ Y, nl1 T r (nl T R W i) j = W ++ Y := ⟨Yi ++ Yj, by rw [eYj, eYi, List.append_assoc]⟩
        have lyj : ys3.length ≤ 4000 := by
          have h1 := dy3.length
          have h2 := fnd_len extj
          rw [List.length_map] at h1
          omega
        have lkj : kvs3.length ≤ 4000 := by
          have := Paired.length wk3
          omega
        have s4 : Stp d G H G3 H4 := s3.q (Stq.refl s3.gh |>.loc2 nT).1
        refine ⟨T_, _, rfl, .of nT.at, rfl, _, _, rfl, _, _, rfl, rfl, ?_⟩
        refine ⟨_, rfl, _, rfl, G3, b, a, m, r, n, rfl, s4.gh, s3.gg _ _ hb, s3.gg _ _ ha, mvm, rin, by omega, fun p G5 H5 s5 hp => ?_⟩
        have S5 := s4.q s5
        have gd5 : G5 d = none := S5.gd gd hd
        have hf5 : H5 f = some (.lst ys3) := s5.hh _ _ (nT.else hf3)
        have hd5 : H5 d = some (.dT kvs3) := s5.hh _ _ (nT.else hd3)
        have gf5 : G5 f = none := s5.nw2 (nT.else hf3) gf3
        have wk5 := wk3.up s5.gg
        have dy5 := dy3.up s5.gg
        have hp5 : H5 p = some (.tup ((keyL (aft r m)).map kV)) := by rw [keyL_kV]; exact s5.gh _ _ hp
        refine ⟨_, rfl, _, rfl, d, _, rfl, DGet.t hd5 hp5, _, rfl, ?_⟩
        by_cases c : aft r m ∈ (nl1 T r (nl T R W i) j).map (·.1)
        · obtain ⟨v, hv, -⟩ := wk5.some c
          rw [hv]
          have e : put1 r (lookW (nl T R W i) r) m j (nl1 T r (nl T R W i) j) = nl1 T r (nl T R W i) j := by unfold put1; rw [if_pos c]
          refine iteF ⟨G5, kvs3, ys3, _, _, _, rfl, S5, gf5, hf5, hd5, ?_, ?_⟩
          · rw [stepj, e]; exact wk5
          · rw [stepj, e]; exact dy5
        · rw [wk5.none c]
          have rkj : r ∈ (nl1 T r (nl T R W i) j).map (·.1) := nl1_sub rki j
          obtain ⟨v, hv, dv⟩ := wk5.some rkj
          have ew : lookW (nl1 T r (nl T R W i) j) r = lookW (nl T R W i) r := by rw [eYj]; exact look_ext rki
          have ew2 : lookW (nl T R W i) r = lookW W r := by rw [eYi]; exact look_ext rk
          rw [ew] at dv
          obtain ⟨w0, rfl, hw0⟩ := rows_ref dv
          have lw := lwd _ (look_mem rk)
          have ha5 : H5 a = some (.tup ((keyL r).map kV)) := by rw [keyL_kV]; exact S5.gh _ _ (S5.gg _ _ ha)
          refine iteT ⟨_, rfl, _, rfl, d, _, rfl, DGet.t hd5 ha5 |> (hv ▸ ·), _, rfl, Nat.succ_le_of_lt (Nat.lt_of_lt_of_le (show 0 < 2 by decide) (by decide)), fun q0 H6 n6 => ?_⟩
          obtain ⟨G6, s6, g6, k6, -⟩ := (Stq.refl s5.gh).know2 n6
          refine cat_row (ws := lookW (nl T R W i) r) (i := ((j : Nat) : Int)) s6.gh (s6.gg _ _ hw0) k6 (by rw [ew2]; exact Nat.le_trans lw (by decide)) fun p7 G7 H7 s7 k7 => ?_
          have S7 := S5.q (s6.trans s7)
          have hd7 : H7 d = some (.dT kvs3) := (s6.trans s7).hh _ _ hd5
          have hf7 : H7 f = some (.lst ys3) := (s6.trans s7).hh _ _ hf5
          have hp7 : H7 p = some (.tup ((keyL (aft r m)).map kV)) := (s6.trans s7).hh _ _ hp5
          have gd7 : G7 d = none := S7.gd gd hd
          have gf7 : G7 f = none := (s6.trans s7).nw2 hf5 gf5
          refine ⟨_, rfl, _, rfl, d, _, rfl, DPut.t hd7 hp7 (Nat.lt_of_le_of_lt lkj (by decide)), ?_⟩
          have S8 := S7.putS gd7 rfl (o := .dT (putK kvs3 (keyL (aft r m)) (.ref p7))) rfl
          have hf8 : upd H7 d (.dT (putK kvs3 (keyL (aft r m)) (.ref p7))) f = some (.lst ys3) := by rw [upd_ne nfd]; exact hf7
          refine ⟨_, rfl, .inl ⟨rfl, _, .of hf8⟩, _, rfl, f, _, _, rfl, rfl, hf8, Nat.lt_of_le_of_lt lyj (by decide), fun H9 e9 => ?_⟩
          have S9 := S8.mut gf7 ff e9
          have wk7 := wk5.up (s6.trans s7).gg
          have dy7 := dy5.up (s6.trans s7).gg
          have en : put1 r (lookW (nl T R W i) r) m j (nl1 T r (nl T R W i) j) = nl1 T r (nl T R W i) j ++ [(aft r m, lookW (nl T R W i) r ++ [((j : Nat) : Int)])] := by unfold put1; rw [if_neg c]
          refine ⟨G7, _, _, _, _, _, rfl, S9, gf7, upd_at e9, upd_else e9 upd_same (Ne.symm nfd), ?_, ?_⟩
          · rw [stepj, en, putK_new _ (wk5.none c)]
            exact wk7.app (.tup k7 (DaAll.ints _))
          · rw [stepj, put1_fnd extj c, List.map_append]
            exact dy7.append (.one (.tup ((s6.trans s7).gg _ _ hp) (DaAll.ints _)))
      · rintro σ' H3 ⟨G3, kvs3, ys3, y5, y6, y7, rfl, s3, gf3, hf3, hd3, wk3, dy3⟩
        rw [lt'] at wk3 dy3
        exact ⟨G3, kvs3, ys3, _, _, _, _, rfl, s3, gf3, hf3, hd3, by rw [step]; exact wk3, by rw [step]; exact dy3⟩
  · rintro σ' H2 ⟨G2, kvs2, ys, y4, y5, y6, y7, rfl, s2, gf2, hf2, hd2, wk2, dy2⟩
    rw [lx] at wk2 dy2
    exact ⟨_, rfl, q f G2 H2 kvs2 ys s2 ff gf2 hf2 hd2 wk2 dy2⟩


def spBest (K : PySem.W.Frag) (DT : Addr) : Sp := fun vs H Q E => ∃ (G : Hp) (a t : Addr) (r : List Int) (ts : List V) (T : List (List Int)) (n : Int), vs = [.ref a, .ref t] ∧ Same G H ∧ G a = some (.tup (r.map V.int)) ∧ HasS K H t ts ∧ DaAll G ts (T.map rowD) ∧ AllMv n T ∧ T.length ≤ 8 ∧ RowIn n r ∧ r.length ≤ 100 ∧
  (∀ (d : Addr) (G' H' : Hp) (kvs : List (List L2.Key × V)) (W : WL) (k : Nat), Stq G H G' H' → H d = none → G' d = none → H' d = some (.dT kvs) → Wds G' kvs W → lay T r k = (W, []) → (∀ j, j < k → (lay T r j).2 ≠ []) → W.length ≤ 400 → Q (.ref d) H') ∧
  ((∀ L : List (List Int), (∀ w, Rch T r w → w ∈ L) → 400 < L.length) → Errs E DT [(("limit" : Str), .int 400), (("what" : Str), .str "made")] H)
theorem ok_best {DT : Addr} (Z : Zs mg) (D : Ds K mg) (m_TooMany : Xm P w K mg base "TooMany" DT ["what", "limit"]) (c__next_layer : Cal P w K mg base "_next_layer" 2 ["layer", "told", "words"] (spNext K)) : CalX P w K mg base "best_words" 3 ["row", "told"] (spBest K DT) := by
  refine Def.calX D.d_best_words sc_best_words (fun vs H Q E h => ?_) (fun f cdv A outer s H vs Q E hr h => ?_)
  · obtain ⟨G, a, t, r, ts, T, n, rfl, gh, ha, hlt, dt, mvT, lT, rin, rl, q1, q2⟩ := h
    rfl
  obtain ⟨G, a, t, r, ts, T, n, rfl, gh, ha, hlt, dt, mvT, lT, rin, rl, q1, q2⟩ := h
  refine ⟨_, (pss_cons (ps_set (i := 2) sc_best_words.nd rfl (Or.inl rfl) (pe_dispT1 (hu_of hr) (pv 0) (pe_tupN pa_nil)))
      (pss_cons (ps_set (i := 3) sc_best_words.nd rfl (Or.inl rfl) (pe_lstN (pa_cons (pv 0) pa_nil)))
      (pss_cons (ps_while (passes_of rfl) (pt_truth (pv 3) (by intro _; rfl)) (pss_cons (ps_set (i := 3) sc_best_words.nd rfl (Or.inl rfl) (pe_cal c__next_layer (hr.mono (by first | decide | omega)) (by rfl) (pa_cons (pv 3) (pa_cons (pv 1) (pa_cons (pv 2) pa_nil)))))
      (pss_one (ps_if (pt_cmp (pc_gt (pe_callB call_len_dT (by rfl) Z.z_len (by decide +kernel) (pa_cons (pv 2) pa_nil)) (pe_globI (by rfl) Z.c_MOST_MADE)) (nomark _)) (pss_one (L2N.ps_raise rfl (L2N.takes_of rfl rfl rfl rfl) (pmk_x m_TooMany (hr.mono (by first | decide | omega)) (by rfl) (pa_cons pe_str (pa_cons (pe_globI (by rfl) Z.c_MOST_MADE) pa_nil))))) pss_nil))))
      (pss_one (ps_ret (pv 2)))))), ?_⟩
  have haH := gh _ _ ha
  refine fun d hd => ⟨_, rfl, Nat.zero_le _, fun e H2 n2 => ?_⟩
  obtain ⟨s1, gd, h1, fd⟩ := (Stq.refl gh).loc2 (p := d) (o := .dT []) ⟨hd, rfl⟩
  obtain ⟨G2, s2, g2, k2, o2⟩ := s1.know2 n2
  have ne_de : d ≠ e := fun z => by have := n2.fr; rw [← z, upd_same] at this; cases this
  have gd2 : G2 d = none := by rw [o2 d ne_de]; exact gd
  have ha2 : H2 a = some (.tup ((keyL r).map kV)) := by rw [keyL_kV]; exact s2.gh _ _ (g2 _ _ ha)
  refine ⟨n2.else h1, a, keyL r, rfl, ha2, ?_⟩
  have s3 := s2.mut gd2 fd (o := .dT [(keyL r, V.ref e)]) rfl
  have hd3 : upd H2 d (.dT [(keyL r, V.ref e)]) d = some (.dT [(keyL r, V.ref e)]) := upd_same
  generalize upd H2 d (.dT [(keyL r, V.ref e)]) = H3 at s3 hd3 ⊢
  refine ⟨_, rfl, Nat.succ_le_of_lt (Nat.lt_of_lt_of_le (show 0 < 2 by decide) (by decide)), fun l H4 n4 => ?_⟩
  obtain ⟨s4, gl, hl, fl⟩ := s3.loc2 n4
  have hd4 := n4.else hd3
  have wk0 : Wds G2 [(keyL r, V.ref e)] (lay T r 0).1 := .cons ⟨rfl, .tup k2 .nil⟩ .nil
  have dl0 : DaAll G2 [V.ref a] ((lay T r 0).2.map rowD) := .cons (.tup (g2 _ _ ha) (DaAll.ints r)) .nil
  refine ⟨fun m σ' H' => ∃ (k : Nat) (G' : Hp) (l : Addr) (kvs : List (List L2.Key × V)) (xs : List V), m = 2 * (401 - (lay T r k).1.length) + (if (lay T r k).2 = [] then 0 else 1) ∧ σ' = [some (.ref a), some (.ref t), some (.ref d), some (.ref l)] ∧ Stq G H G' H' ∧ G' d = none ∧ H' d = some (.dT kvs) ∧ Wds G' kvs (lay T r k).1 ∧
    H' l = some (.lst xs) ∧ DaAll G' xs ((lay T r k).2.map rowD) ∧ (lay T r k).1.length ≤ 400 ∧ ∀ j, j < k → (lay T r j).2 ≠ [], ⟨_, 0, G2, l, _, _, rfl, rfl, s4, gd2, hd4, wk0, hl, dl0, by show 1 ≤ 400; decide, fun j hj => absurd hj (Nat.not_lt_zero j)⟩, ?_⟩
  rintro m σ' H5 ⟨k, G5, l, kvs, xs, rfl, rfl, s5, gd5, hd5, wk5, hl5, dl5, l400, prev⟩
  have I := lay_ok T r k prev
  have lx := dl5.length
  rw [List.length_map] at lx
  refine ⟨_, rfl, !xs.isEmpty, .inl ⟨xs, .of hl5, rfl⟩, ?_⟩
  by_cases c : (lay T r k).2 = []
  · have : xs = [] := List.eq_nil_of_length_eq_zero (by rw [lx, c]; rfl)
    subst this
    refine iteF ⟨_, rfl, ?_⟩
    exact q1 d G5 H5 kvs (lay T r k).1 k s5 hd gd5 hd5 wk5 (Prod.ext rfl c) prev l400
  · have nx : xs.isEmpty = false := by
      cases xs with
      | nil => exact absurd (List.eq_nil_of_length_eq_zero lx.symm) c
      | cons _ _ => rfl
    rw [nx]
    refine iteT ⟨fun σ' H' => ∃ m', m' < 2 * (401 - (lay T r k).1.length) + (if (lay T r k).2 = [] then 0 else 1) ∧ ∃ (k : Nat) (G' : Hp) (l : Addr) (kvs : List (List L2.Key × V)) (xs : List V), m' = 2 * (401 - (lay T r k).1.length) + (if (lay T r k).2 = [] then 0 else 1) ∧ σ' = [some (.ref a), some (.ref t), some (.ref d), some (.ref l)] ∧ Stq G H G' H' ∧ G' d = none ∧ H' d = some (.dT kvs) ∧ Wds G' kvs (lay T r k).1 ∧
      H' l = some (.lst xs) ∧ DaAll G' xs ((lay T r k).2.map rowD) ∧ (lay T r k).1.length ≤ 400 ∧ ∀ j, j < k → (lay T r j).2 ≠ [], fun σ' H' z => z, ?_⟩
    rw [if_neg c]
    have kk := I.kL c
    have hlt5 : HasS K H5 t ts := HasS.up s5.hh hlt
    refine ⟨_, rfl, _, rfl, _, rfl, G5, l, t, d, xs, ts, (lay T r k).2, T, n, kvs, (lay T r k).1, rfl, s5.gh, hl5, dl5, hlt5, dt.up s5.gg, mvT, lT, Nat.le_trans I.lL l400, fun x hx => ?_, gd5, hd5, wk5, l400, fun p hp => Nat.le_trans (I.wl p hp) (by omega), fun f G6 H6 kvs6 ys s6 ff gf hf6 hd6 wk6 dy6 => ?_⟩
    · have := (I.rch x (I.sub x hx)).row mvT rin
      exact ⟨this.1, by omega, I.sub x hx⟩
    have S6 := s5.stp s6 hd
    have gd6 : G6 d = none := s6.gd gd5 hd5
    have next : lay T r (k + 1) = (nl T (lay T r k).2 (lay T r k).1 (lay T r k).2.length, fnd (lay T r k).1 (nl T (lay T r k).2 (lay T r k).1 (lay T r k).2.length)) := rfl
    have ln := fnd_len (nl_ext T (lay T r k).2 (lay T r k).1 (lay T r k).2.length)
    have prev' : ∀ j, j < k + 1 → (lay T r j).2 ≠ [] := fun j hj => by
      rcases Nat.lt_or_ge j k with z | z
      · exact prev j z
      · have : j = k := by omega
        subst this
        exact c
    have wkl := Paired.length wk6
    refine ⟨_, rfl, d, _, rfl, hd6, _, _, rfl, rfl, _, rfl, ite2 (fun c2 => ?_) (fun c2 => ?_)⟩
    · have c2 : 400 < ((kvs6.length : Nat) : Int) := dec_of c2
      refine ini_end rfl (by show 2 ≤ 1000; decide) fun dd hdd => q2 (fun L hL => ?_) dd _ (S6.hh.trans (same_put (Same.refl _) hdd)) upd_same
      have I2 := lay_ok T r (k + 1) prev'
      have := len_sub I2.nd fun w hw => hL w (I2.rch w hw)
      rw [List.length_map, next] at this
      show 400 < L.length
      have e : (nl T (lay T r k).2 (lay T r k).1 (lay T r k).2.length).length ≤ L.length := this
      omega
    · have c2 : ¬ 400 < ((kvs6.length : Nat) : Int) := dec_not c2
      refine ⟨_, ?_, k + 1, G6, f, kvs6, ys, rfl, rfl, S6, gd6, hd6, wk6, hf6, dy6, ?_, prev'⟩
      · rw [next]
        show 2 * (401 - (nl T (lay T r k).2 (lay T r k).1 (lay T r k).2.length).length) + (if fnd (lay T r k).1 (nl T (lay T r k).2 (lay T r k).1 (lay T r k).2.length) = [] then 0 else 1) < _
        by_cases z : fnd (lay T r k).1 (nl T (lay T r k).2 (lay T r k).1 (lay T r k).2.length) = []
        · rw [if_pos z]
          omega
        · rw [if_neg z]
          have := List.length_pos_iff.mpr z
          omega
      · rw [next]
        show (nl T (lay T r k).2 (lay T r k).1 (lay T r k).2.length).length ≤ 400
        omega


def numErr (E : XK) (DB : Addr) (v : V) (H : Hp) : Prop := Errs E DB [(("high" : Str), .int 12), (("low" : Str), .int 0), (("value" : Str), v)] H
/-- what comes of points and told moves that are good -/
def MadeTo (G H : Hp) (n : Int) (T : List (List Int)) (DT : Addr) (Q : Addr → Hp → Prop) (E : XK) : Prop :=
  (∀ (p : Addr) (G' H' : Hp) (ys : List V) (L : List (List Int)), Stq G H G' H' → H p = none → G' p = none → H' p = some (.lst ys) → DaAll G' ys (L.map rowD) → Grp n T L → L.length ≤ 400 → Q p H') ∧
  ((∀ L : List (List Int), (∀ w, Mk' n T w → w ∈ L) → 400 < L.length) → Errs E DT [(("limit" : Str), .int 400), (("what" : Str), .str "made")] H)
/-- points, told moves: refused in this order, or good -/
def Judge (G H : Hp) (v : V) (dv : PyData) (ds : List PyData) (DB DN DT : Addr) (good : Int → List (List Int) → Prop) (E : XK) : Prop :=
  (isNum dv 0 12 = false → numErr E DB v H) ∧
  ∀ n : Int, dv = .int n → v = .int n → 0 ≤ n → n ≤ 12 → (8 < ds.length → Errs E DT [(("limit" : Str), .int 8), (("what" : Str), .str "told")] H) ∧ (ds.length ≤ 8 → ∀ i : Nat, badAt n ds i → Errs E DN [(("index" : Str), .int i)] H) ∧
    (ds.length ≤ 8 → ∀ T : List (List Int), ds = T.map rowD → AllMv n T → good n T)
def spMakeAll (K : PySem.W.Frag) (DB DN DT : Addr) : Sp := fun vs H Q E => ∃ (G : Hp) (v : V) (dv : PyData) (a : Addr) (xs : List V) (ds : List PyData), vs = [v, .ref a] ∧ Same G H ∧ Da G v dv ∧ HasS K H a xs ∧ DaAll G xs ds ∧ szL ds ≤ 900000 ∧
  Judge G H v dv ds DB DN DT (fun n T => MadeTo G H n T DT (fun p H' => Q (.ref p) H') E) E
theorem ok_make_all {DB DN DT : Addr} (Z : Zs mg) (D : Ds K mg) (c_check_points : CalX P w K mg base "check_points" 4 ["value"] (spCheckPts DB)) (c_check_moves : CalX P w K mg base "check_moves" 4 ["points", "moves", "what", "limit"] (spCheckMoves K DN DT)) (c_still_move : CalX P w K mg base "still_move" 5 ["points"] (spStill DB)) (c_best_words : CalX P w K mg base "best_words" 3 ["row", "told"] (spBest K DT)) : CalX P w K mg base "make_all" 6 ["points", "moves"] (spMakeAll K DB DN DT) := by
  refine DefD.calX D.d_make_all sc_make_all (fun vs H Q E h => ?_) (fun f cdv A outer s H vs Q E hr h => ?_)
  · obtain ⟨G, v, dv, a, xs, ds, rfl, gh, dd, hl, dx, sz, j1, j2⟩ := h
    rfl
  obtain ⟨G, v, dv, a, xs, ds, rfl, gh, dd, hl, dx, sz, j1, j2⟩ := h
  refine ⟨_, (pss_cons (ps_expr (pe_calX c_check_points (L2N.takes_of rfl rfl rfl rfl) (hr.mono (by first | decide | omega)) (by rfl) (pa_cons (pv 0) pa_nil)))
      (pss_cons (ps_expr (pe_calX c_check_moves (L2N.takes_of rfl rfl rfl rfl) (hr.mono (by first | decide | omega)) (by rfl) (pa_cons (pv 0) (pa_cons (pv 1) (pa_cons pe_str (pa_cons (pe_globI (by rfl) Z.c_MOST_TOLD) pa_nil))))))
      (pss_one (ps_ret (pe_callB (call_sortDT (by rfl)) (by rfl) Z.z_sorted (by decide +kernel) (pa_cons (pe_calX c_best_words (L2N.takes_of rfl rfl rfl rfl) (hr.mono (by first | decide | omega)) (by rfl) (pa_cons (pe_calX c_still_move (L2N.takes_of rfl rfl rfl rfl) (hr.mono (by first | decide | omega)) (by rfl) (pa_cons (pv 0) pa_nil)) (pa_cons (pv 1) pa_nil))) pa_nil)))))), ?_⟩
  refine ⟨_, rfl, v, dv, rfl, dd.up gh, fun e => ?_, j1⟩
  obtain ⟨n, rfl, n0, n12⟩ := num_int e
  have ev : v = .int n := by cases dd; rfl
  subst ev
  obtain ⟨k1, k2, k3⟩ := j2 n rfl rfl n0 n12
  refine ⟨_, rfl, _, rfl, G, a, xs, ds, n, "told", 8, rfl, gh, hl, dx, sz, fun c => k1 (by omega), fun c i b => k2 (by omega) i b, fun c all_ H1 s1 => ?_⟩
  obtain ⟨T, rfl, mvT⟩ := all_rows all_
  rw [List.length_map] at c
  obtain ⟨m1, m2⟩ := k3 (by rw [List.length_map]; omega) T rfl mvT
  have S1 := (Stq.refl gh).pure s1
  refine ⟨_, rfl, n, rfl, n0, n12, fun p H2 n2 => ?_⟩
  obtain ⟨G2, S2, g2, k2', o2⟩ := S1.know2 n2
  have hl2 : HasS K H2 a xs := HasS.up n2.same (HasS.up s1 hl)
  refine ⟨_, rfl, G2, p, a, rngI n, xs, T, n, rfl, S2.gh, k2', hl2, dx.up g2, mvT, by omega, rng_mv.row, by rw [rngI_len]; omega, fun d G3 H3 kvs W k S3 fd gd3 hd3 wk hlay prev lW => ?_, fun h => (m2 h).up S2.hh⟩
  have I : LayOk T (rngI n) W [] k := by
    have := lay_ok T (rngI n) k prev
    rw [hlay] at this
    exact this
  have keys := lay_end I
  have S3' := S2.trans S3
  refine ⟨d, kvs, W.map (·.1), rfl, hd3, wk.keys, fun h2 l hl e => ?_, fun ys Ms q H4 dy pm so n4 => ?_⟩
  · subst e
    have := ((keys []).mp hl).row mvT rng_mv.row
    have z : (rngI n).length = 0 := this.2.symm
    rw [rngI_len] at z
    have all0 : ∀ w ∈ W.map (·.1), w ∈ [([] : List Int)] := fun w hw => by
      have := ((keys w).mp hw).row mvT rng_mv.row
      rw [rngI_len, z] at this
      rw [List.eq_nil_of_length_eq_zero this.2]
      exact List.mem_singleton.mpr rfl
    have := len_sub I.nd all0
    simp at this h2
    omega
  · obtain ⟨s4, gq, hq, fq⟩ := S3'.loc2 n4
    have dy4 := rows_full s4.gh (dy.up n4.same)
    have gq4 := full_else hq rfl gq
    have lM : Ms.length ≤ 400 := by
      have := pm.length_eq
      rw [List.length_map] at this
      omega
    exact m1 q (fullG G3 H4) H4 ys Ms s4.full fq gq4 hq dy4 (.of_perm I.nd keys pm so) lM
/-! ### worlds -/
def wf (ml : Addr) (n : Int) (tl : Addr) : List (Str × V) := putF "_told" (.ref tl) (putF "_points" (.int n) (putF "_made" (.ref ml) []))
theorem wf_eq (ml : Addr) (n : Int) (tl : Addr) : wf ml n tl = [(("_made" : Str), V.ref ml), (("_points" : Str), V.int n), (("_told" : Str), V.ref tl)] := by
  unfold wf
  show putF "_told" (.ref tl) (if ("_made" : Str) = "_points" then _ else _) = _
  rw [if_neg (by decide)]
  show (if ("_made" : Str) = "_told" then _ else (("_made" : Str), V.ref ml) :: (if ("_points" : Str) = "_told" then _ else _)) = _
  rw [if_neg (by decide), if_neg (by decide)]
  rfl
theorem wf_made (ml : Addr) (n : Int) (tl : Addr) : (wf ml n tl).lookup ("_made" : Str) = some (.ref ml) := by rw [wf_eq]; rfl
theorem wf_points (ml : Addr) (n : Int) (tl : Addr) : (wf ml n tl).lookup ("_points" : Str) = some (.int n) := by rw [wf_eq]; rfl
theorem wf_told (ml : Addr) (n : Int) (tl : Addr) : (wf ml n tl).lookup ("_told" : Str) = some (.ref tl) := by rw [wf_eq]; rfl
/-- a world stands at x -/
def WAt (C : Addr) (G : Hp) (x : Addr) (n : Int) (T L : List (List Int)) : Prop := ∃ (dx ml tl : Addr) (ms ts : List V), G x = some (.ins C dx (wf ml n tl)) ∧ G ml = some (.lst ms) ∧ DaAll G ms (L.map rowD) ∧ G tl = some (.lst ts) ∧ DaAll G ts (T.map rowD)
theorem WAt.up {C : Addr} {G G' : Hp} {x : Addr} {n : Int} {T L : List (List Int)} (h : WAt C G x n T L) (g : Same G G') : WAt C G' x n T L := by
  obtain ⟨dx, ml, tl, ms, ts, h1, h2, h3, h4, h5⟩ := h
  exact ⟨dx, ml, tl, ms, ts, g _ _ h1, g _ _ h2, h3.up g, g _ _ h4, h5.up g⟩
structure WOk (n : Int) (T L : List (List Int)) : Prop where
  n0 : 0 ≤ n
  n12 : n ≤ 12
  mv : AllMv n T
  lT : T.length ≤ 8
  lL : L.length ≤ 400
  grp : Grp n T L
/-- the object's own heap: what stood before it was made; x new -/
def spInit (K : PySem.W.Frag) (C DB DN DT : Addr) : Sp := fun vs H Q E => ∃ (G : Hp) (x dx : Addr) (v : V) (dv : PyData) (a : Addr) (xs : List V) (ds : List PyData), vs = [.ref x, v, .ref a] ∧ Same G H ∧ G x = none ∧ H x = some (.ins C dx []) ∧ Da G v dv ∧ HasS K H a xs ∧ DaAll G xs ds ∧ szL ds ≤ 900000 ∧
  Judge G H v dv ds DB DN DT (fun n T => (∀ (G' H' : Hp), Stp x G H G' H' → ∀ (ml tl : Addr) (ms ts : List V) (L : List (List Int)), G' x = none → H' x = some (.ins C dx (wf ml n tl)) → G' ml = some (.lst ms) → DaAll G' ms (L.map rowD) → G' tl = some (.lst ts) → DaAll G' ts (T.map rowD) → WOk n T L → Q .non H') ∧
    ((∀ L : List (List Int), (∀ w, Mk' n T w → w ∈ L) → 400 < L.length) → Errs E DT [(("limit" : Str), .int 400), (("what" : Str), .str "made")] H)) E
theorem ok_init {CW DB DN DT : Addr} (Z : Zs mg) (D : Ds K mg) (W : Dw K mg CW) (c_make_all : CalX P w K mg base "make_all" 6 ["points", "moves"] (spMakeAll K DB DN DT)) : CalM P w K mg base CW "__init__" 7 ["self", "points", "moves"] (spInit K CW DB DN DT) := by
  refine MDef.calM W.d_World___init__ sc_World___init__ (fun vs H Q E h => ?_) (fun f cdv A outer s H vs Q E hr h => ?_)
  · obtain ⟨G, x, dx, v, dv, a, xs, ds, rfl, gh, gx, hx, dd, hl, dxs, sz, j1, j2⟩ := h
    rfl
  obtain ⟨G, x, dx, v, dv, a, xs, ds, rfl, gh, gx, hx, dd, hl, dxs, sz, j1, j2⟩ := h
  refine ⟨_, (pss_cons (ps_fld (pv 0) (pe_calX c_make_all (L2N.takes_of rfl rfl rfl rfl) (hr.mono (by first | decide | omega)) (by rfl) (pa_cons (pv 1) (pa_cons (pv 2) pa_nil))) rfl)
      (pss_cons (ps_fld (pv 0) (pv 1) rfl)
      (pss_one (ps_fld (pv 0) (pe_callTy call_listN (by rfl) Z.z_list (by decide +kernel) (pa_cons (pv 2) pa_nil)) rfl)))), ?_⟩
  have nax : HasL H a xs → a ≠ x := fun h => h.elim (fun h => ne_of h hx (by intro z; cases z)) fun h => ne_of h hx (by intro z; cases z)
  refine ⟨_, rfl, _, rfl, G, v, dv, a, xs, ds, rfl, gh, dd, hl, dxs, sz, j1, fun n e1 e2 n0 n12 => ?_⟩
  subst e1 e2
  obtain ⟨k1, k2, k3⟩ := j2 n rfl rfl n0 n12
  refine ⟨k1, k2, fun l8 T eT mvT => ?_⟩
  obtain ⟨m1, m2⟩ := k3 l8 T eT mvT
  refine ⟨fun ml G1 H1 ys L s1 fml gml hml dy grp lL => ?_, m2⟩
  subst eT
  rw [List.length_map] at l8
  have hx1 := s1.hh _ _ hx
  have gx1 := s1.nw2 hx gx
  have nmx : ml ≠ x := fun e => by rw [e, hx] at fml; cases fml
  refine ⟨_, rfl, x, CW, dx, _, rfl, hx1, W.wc.cl, W.n_made, by show 0 < 1000; decide, ?_⟩
  have P1 : Stp x G H G1 (upd H1 x (.ins CW dx (putF "_made" (.ref ml) []))) := s1.p.putS gx1 rfl rfl
  refine ⟨_, rfl, _, rfl, x, CW, dx, _, rfl, upd_same, W.wc.cl, W.n_points, by show 1 < 1000; decide, ?_⟩
  have P2 := P1.putS gx1 (o := .ins CW dx (putF "_points" (.int n) (putF "_made" (.ref ml) []))) rfl rfl
  have hl2 : HasS K (upd (upd H1 x (.ins CW dx (putF "_made" (.ref ml) []))) x (.ins CW dx (putF "_points" (.int n) (putF "_made" (.ref ml) [])))) a xs := hl.imp (fun h => h.imp (P2.hh _ _ (nax h)) (P2.hh _ _ (nax h))) id
  have hml2 : (upd (upd H1 x (.ins CW dx (putF "_made" (.ref ml) []))) x (.ins CW dx (putF "_points" (.int n) (putF "_made" (.ref ml) [])))) ml = some (.lst ys) := by rw [upd_ne nmx, upd_ne nmx]; exact hml
  have hx2 : (upd (upd H1 x (.ins CW dx (putF "_made" (.ref ml) []))) x (.ins CW dx (putF "_points" (.int n) (putF "_made" (.ref ml) [])))) x = some (.ins CW dx (putF "_points" (.int n) (putF "_made" (.ref ml) []))) := upd_same
  generalize (upd (upd H1 x (.ins CW dx (putF "_made" (.ref ml) []))) x (.ins CW dx (putF "_points" (.int n) (putF "_made" (.ref ml) [])))) = H2 at P2 hl2 hml2 hx2 ⊢
  refine ⟨_, rfl, a, xs, rfl, hl2.len, fun tl H3 n3 => ?_⟩
  have ntx : tl ≠ x := fun e => by have := n3.fr; rw [e, hx2] at this; cases this
  have P3 : Stp x G H G1 H3 := P2.q (Stq.loc P2.gh n3).1
  have gtl : G1 tl = none := P2.gh.free n3.fr
  have ftl : H tl = none := by
    cases e : H tl with
    | none => rfl
    | some o =>
      have := P2.hh tl o ntx e
      rw [n3.fr] at this
      cases this
  have hml3 := n3.else hml2
  have hx3 := n3.else hx2
  refine ⟨_, rfl, x, CW, dx, _, rfl, hx3, W.wc.cl, W.n_told, by show 2 < 1000; decide, ?_⟩
  have P4 := P3.putS gx1 (o := .ins CW dx (wf ml n tl)) rfl rfl
  have hml4 : upd H3 x (.ins CW dx (wf ml n tl)) ml = some (.lst ys) := by rw [upd_ne nmx]; exact hml3
  have htl4 : upd H3 x (.ins CW dx (wf ml n tl)) tl = some (.lst xs) := by rw [upd_ne ntx]; exact n3.at
  have hx4 : upd H3 x (.ins CW dx (wf ml n tl)) x = some (.ins CW dx (wf ml n tl)) := upd_same
  obtain ⟨G5, P5, g5, km, o5⟩ := P4.frz gml fml hml4
  have ntm : tl ≠ ml := fun e => by have := n3.fr; rw [e, hml2] at this; cases this
  obtain ⟨G6, P6, g6, kt, o6⟩ := P5.frz (by rw [o5 tl ntm]; exact gtl) ftl htl4
  have gx6 : G6 x = none := by rw [o6 x (Ne.symm ntx), o5 x (Ne.symm nmx)]; exact gx1
  exact m1 G6 _ P6 ml tl ys xs L gx6 hx4 (g6 _ _ km) ((dy.up g5).up g6) kt (((dxs.up s1.gg).up g5).up g6) ⟨n0, n12, mvT, l8, lL, grp⟩


theorem judge_good {G H : Hp} {n : Int} {T : List (List Int)} {DB DN DT : Addr} {good : Int → List (List Int) → Prop} {E : XK} (n0 : 0 ≤ n) (n12 : n ≤ 12) (mv : AllMv n T) (lT : T.length ≤ 8) (g : good n T) : Judge G H (.int n) (.int n) (T.map rowD) DB DN DT good E := by
  refine ⟨fun e => ?_, fun n' e1 e2 _ _ => ?_⟩
  · have : isNum (.int n) 0 12 = true := by
      show (decide (0 ≤ n) && decide (n ≤ 12)) = true
      rw [decide_eq_true n0, decide_eq_true n12]
      rfl
    rw [this] at e
    cases e
  · cases e1
    refine ⟨fun c => by rw [List.length_map] at c; omega, fun _ i ⟨⟨d, hd, hb⟩, _⟩ => ?_, fun _ T' eT _ => by rw [← rows_inj eT]; exact g⟩
    rw [List.getElem?_map] at hd
    obtain ⟨m, hm, rfl⟩ := Option.map_eq_some_iff.mp hd
    rw [mvOn_of n0 (mv m (List.mem_of_getElem? hm))] at hb
    cases hb
def spPoints (C : Addr) : Sp := fun vs H Q _ => ∃ (G : Hp) (x : Addr) (n : Int) (T L : List (List Int)), vs = [.ref x] ∧ Same G H ∧ WAt C G x n T L ∧ Q (.int n) H
theorem ok_points {CW : Addr} (Z : Zs mg) (D : Ds K mg) (W : Dw K mg CW) : CalP P w K mg base CW "points" 1 ["self"] (spPoints CW) := by
  refine PDef.calP W.d_World_points sc_World_points (fun vs H Q E h => ?_) (fun f cdv A outer s H vs Q E hr h => ?_)
  · obtain ⟨G, x, n, T, L, rfl, gh, ⟨dx, ml, tl, ms, ts, h1, h2, h3, h4, h5⟩, q⟩ := h
    rfl
  obtain ⟨G, x, n, T, L, rfl, gh, ⟨dx, ml, tl, ms, ts, h1, h2, h3, h4, h5⟩, q⟩ := h
  refine ⟨_, (pss_one (ps_ret (pe_fld (pv 0) rfl))), ?_⟩
  exact ⟨_, rfl, x, CW, dx, _, _, rfl, gh _ _ h1, W.wc.cl, W.n_points, wf_points _ _ _, q⟩
def spTold (C : Addr) : Sp := fun vs H Q _ => ∃ (G : Hp) (x : Addr) (n : Int) (T L : List (List Int)), vs = [.ref x] ∧ Same G H ∧ WAt C G x n T L ∧ ∀ (p : Addr) (ts : List V) (H' : Hp), DaAll G ts (T.map rowD) → New H p (.lst ts) H' → Q (.ref p) H'
theorem ok_wtold {CW : Addr} (Z : Zs mg) (D : Ds K mg) (W : Dw K mg CW) : CalP P w K mg base CW "told" 1 ["self"] (spTold CW) := by
  refine PDef.calP W.d_World_told sc_World_told (fun vs H Q E h => ?_) (fun f cdv A outer s H vs Q E hr h => ?_)
  · obtain ⟨G, x, n, T, L, rfl, gh, ⟨dx, ml, tl, ms, ts, h1, h2, h3, h4, h5⟩, q⟩ := h
    rfl
  obtain ⟨G, x, n, T, L, rfl, gh, ⟨dx, ml, tl, ms, ts, h1, h2, h3, h4, h5⟩, q⟩ := h
  refine ⟨_, (pss_one (ps_ret (pe_callTy call_listN (by rfl) Z.z_list (by decide +kernel) (pa_cons (pe_fld (pv 0) rfl) pa_nil)))), ?_⟩
  exact ⟨_, rfl, x, CW, dx, _, _, rfl, gh _ _ h1, W.wc.cl, W.n_told, wf_told _ _ _, tl, ts, rfl, .inl (.of (gh _ _ h4)), fun p H' n' => q p ts H' h5 n'⟩
def spMade (C : Addr) : Sp := fun vs H Q _ => ∃ (G : Hp) (x : Addr) (n : Int) (T L : List (List Int)), vs = [.ref x] ∧ Same G H ∧ WAt C G x n T L ∧ ∀ (p : Addr) (ms : List V) (H' : Hp), DaAll G ms (L.map rowD) → New H p (.lst ms) H' → Q (.ref p) H'
theorem ok_wmade {CW : Addr} (Z : Zs mg) (D : Ds K mg) (W : Dw K mg CW) : CalP P w K mg base CW "made" 1 ["self"] (spMade CW) := by
  refine PDef.calP W.d_World_made sc_World_made (fun vs H Q E h => ?_) (fun f cdv A outer s H vs Q E hr h => ?_)
  · obtain ⟨G, x, n, T, L, rfl, gh, ⟨dx, ml, tl, ms, ts, h1, h2, h3, h4, h5⟩, q⟩ := h
    rfl
  obtain ⟨G, x, n, T, L, rfl, gh, ⟨dx, ml, tl, ms, ts, h1, h2, h3, h4, h5⟩, q⟩ := h
  refine ⟨_, (pss_one (ps_ret (pe_callTy call_listN (by rfl) Z.z_list (by decide +kernel) (pa_cons (pe_fld (pv 0) rfl) pa_nil)))), ?_⟩
  exact ⟨_, rfl, x, CW, dx, _, _, rfl, gh _ _ h1, W.wc.cl, W.n_made, wf_made _ _ _, ml, ms, rfl, .inl (.of (gh _ _ h2)), fun p H' n' => q p ms H' h3 n'⟩
def spLenW (C : Addr) : Sp := fun vs H Q _ => ∃ (G : Hp) (x : Addr) (n : Int) (T L : List (List Int)), vs = [.ref x] ∧ Same G H ∧ WAt C G x n T L ∧ Q (.int (L.length : Nat)) H
theorem ok_wlen {CW : Addr} (Z : Zs mg) (D : Ds K mg) (W : Dw K mg CW) : CalM P w K mg base CW "__len__" 1 ["self"] (spLenW CW) := by
  refine MDef.calM W.d_World___len__ sc_World___len__ (fun vs H Q E h => ?_) (fun f cdv A outer s H vs Q E hr h => ?_)
  · obtain ⟨G, x, n, T, L, rfl, gh, ⟨dx, ml, tl, ms, ts, h1, h2, h3, h4, h5⟩, q⟩ := h
    rfl
  obtain ⟨G, x, n, T, L, rfl, gh, ⟨dx, ml, tl, ms, ts, h1, h2, h3, h4, h5⟩, q⟩ := h
  refine ⟨_, (pss_one (ps_ret (pe_callB call_len_seq (by rfl) Z.z_len (by decide +kernel) (pa_cons (pe_fld (pv 0) rfl) pa_nil)))), ?_⟩
  refine ⟨_, rfl, x, CW, dx, _, _, rfl, gh _ _ h1, W.wc.cl, W.n_made, wf_made _ _ _, ml, ms, rfl, .inl (.of (gh _ _ h2)), ?_⟩
  have := h3.length
  rw [List.length_map] at this
  rw [this]
  exact q
def spEqW (C : Addr) : Sp := fun vs H Q _ => ∃ (G : Hp) (x y : Addr) (n m : Int) (T L U M : List (List Int)), vs = [.ref x, .ref y] ∧ Same G H ∧ WAt C G x n T L ∧ WAt C G y m U M ∧ ∀ b : Bool, (b = true ↔ n = m ∧ L = M) → Q (.bl b) H
theorem ok_weq {CW : Addr} (Z : Zs mg) (D : Ds K mg) (W : Dw K mg CW) : CalM P w K mg base CW "__eq__" 1 ["self", "other"] (spEqW CW) := by
  refine MDef.calM W.d_World___eq__ sc_World___eq__ (fun vs H Q E h => ?_) (fun f cdv A outer s H vs Q E hr h => ?_)
  · obtain ⟨G, x, y, n, m, T, L, U, M, rfl, gh, ⟨dx, ml, tl, ms, ts, h1, h2, h3, h4, h5⟩, ⟨dx', ml', tl', ms', ts', h1', h2', h3', h4', h5'⟩, q⟩ := h
    rfl
  obtain ⟨G, x, y, n, m, T, L, U, M, rfl, gh, ⟨dx, ml, tl, ms, ts, h1, h2, h3, h4, h5⟩, ⟨dx', ml', tl', ms', ts', h1', h2', h3', h4', h5'⟩, q⟩ := h
  refine ⟨_, (pss_cons (ps_if (pt_not (pt_val (pe_callB call_isi (by rfl) Z.z_isinstance (by decide +kernel) (pa_cons (pv 1) (pa_cons (pe_cls (by rfl) W.wc.gC) pa_nil))))) (pss_one (ps_ret pe_bl)) pss_nil)
      (pss_one (ps_ret (pe_and (pe_cmp (pc_eqI (pe_fld (pv 0) rfl) (pe_fld (pv 1) rfl)) (nomark _)) (pe_one (pe_cmpR (op_eqR hr.units) (pe_fld (pv 0) rfl) (pe_fld (pv 1) rfl) (nomark _))))))), ?_⟩
  refine ⟨_, rfl, _, _, _, _, true, rfl, .own CW, W.wc.ty (gh _ _ h1'), kit_self, _, rfl, iteF ?_⟩
  refine ⟨_, rfl, x, CW, dx, _, _, rfl, gh _ _ h1, W.wc.cl, W.n_points, wf_points _ _ _, _, rfl, y, CW, dx', _, _, rfl, gh _ _ h1', W.wc.cl, W.n_points, wf_points _ _ _, _, _, rfl, rfl, _, rfl, ite2 (fun c => ?_) (fun c => ?_)⟩
  · have c : n = m := dec_of c
    refine ⟨_, rfl, x, CW, dx, _, _, rfl, gh _ _ h1, W.wc.cl, W.n_made, wf_made _ _ _, _, rfl, y, CW, dx', _, _, rfl, gh _ _ h1', W.wc.cl, W.n_made, wf_made _ _ _, ml, ml', ms, ms', L, M, rfl, rfl, .of (gh _ _ h2), .of (gh _ _ h2'), h3.up gh, h3'.up gh, ?_⟩
    refine q _ ⟨fun e => ⟨c, of_decide_eq_true e⟩, fun e => decide_eq_true e.2⟩
  · have c : ¬ n = m := dec_not c
    exact q false ⟨(fun e => by cases e), fun e => absurd e.1 c⟩


def spGroup : Sp := fun vs H Q _ => ∃ (G : Hp) (a : Addr) (ts : List V) (T : List (List Int)) (n most : Int), vs = [.int n, .ref a, .int most] ∧ Same G H ∧ 0 ≤ n ∧ n ≤ 12 ∧ H a = some (.lst ts) ∧ DaAll G ts (T.map rowD) ∧ AllMv n T ∧ T.length ≤ 1000 ∧ 1 ≤ most ∧ most ≤ 1000 ∧
  (∀ (p : Addr) (G' H' : Hp) (ys : List V) (L : List (List Int)), Stq G H G' H' → H p = none → G' p = none → H' p = some (.lst ys) → DaAll G' ys (L.map rowD) → Grp n T L → ((L.length : Nat) : Int) ≤ most → Q (.ref p) H') ∧
  ((∀ L : List (List Int), (∀ w, Mk' n T w → w ∈ L) → most < (L.length : Nat)) → ∀ H', Same H H' → Q .non H')
theorem ok_group (Z : Zs mg) (D : Ds K mg) (c__law_after : Cal P w K mg base "_law_after" 1 ["first", "second"] spAfter) : Cal P w K mg base "_law_group" 2 ["points", "told", "most"] spGroup := by
  refine Def.cal D.d_law_group sc_law_group (fun vs H Q E h => ?_) (fun f cdv A outer s H vs Q E hr h => ?_)
  · obtain ⟨G, a, ts, T, n, most, rfl, gh, n0, n12, ha, dt, mvT, lT, m1, m2, q1, q2⟩ := h
    rfl
  obtain ⟨G, a, ts, T, n, most, rfl, gh, n0, n12, ha, dt, mvT, lT, m1, m2, q1, q2⟩ := h
  refine ⟨_, (pss_cons (ps_set (i := 3) sc_law_group.nd rfl (Or.inl rfl) (pe_tupRgN rfl (by rfl) Z.z_tuple (prg_1 (by rfl) Z.z_range (pv 0))))
      (pss_cons (ps_set (i := 4) sc_law_group.nd rfl (Or.inl rfl) (pe_lstN (pa_cons (pv 3) pa_nil)))
      (pss_cons (ps_set (i := 5) sc_law_group.nd rfl (Or.inl rfl) (pe_dispT1 (hu_of hr) (pv 3) pe_bl))
      (pss_cons (ps_set (i := 6) sc_law_group.nd rfl (Or.inl rfl) pe_int)
      (pss_cons (ps_while PassesOwn.never (pt_cmp (pc_lt (pv 6) (pe_callB call_len_seq (by rfl) Z.z_len (by decide +kernel) (pa_cons (pv 4) pa_nil))) (nomark _)) (pss_cons (ps_for PassesOwn.never rfl (pi_list (pv 1)) (pg_name (i := 7) sc_law_group.nd rfl (Or.inl rfl)) (pss_cons (ps_set (i := 8) sc_law_group.nd rfl (Or.inl rfl) (pe_cal c__law_after (hr.mono (by first | decide | omega)) (by rfl) (pa_cons (pe_ix ix_list (pv 4) (pv 6) (fun _ _ => rfl)) (pa_cons (pv 7) pa_nil))))
      (pss_one (ps_if (pt_cmp (pc_dnotin (hu_of hr) (pv 8) (pv 5))) (pss_cons (ps_if (pt_cmp (pc_ge (pe_callB call_len_seq (by rfl) Z.z_len (by decide +kernel) (pa_cons (pv 4) pa_nil)) (pv 2)) (nomark _)) (pss_one (ps_ret pe_non)) pss_nil)
      (pss_cons (ps_dput (hu_of hr) (pv 5) (pv 8) pe_bl rfl)
      (pss_one (ps_expr (pe_bm PySem.F.plainAttrs_list PySem.F.slot_list_append PySem.F.type_list_append mt_appendN (pv 4) (pa_cons (pv 8) pa_nil)))))) pss_nil))))
      (pss_one (ps_set (i := 6) sc_law_group.nd rfl (Or.inl rfl) (pe_op op_add (pv 6) pe_int)))))
      (pss_one (ps_ret (pe_callB call_sortR (by rfl) Z.z_sorted (by decide +kernel) (pa_cons (pv 4) pa_nil))))))))), ?_⟩
  have lt := dt.length
  rw [List.length_map] at lt
  refine ⟨_, rfl, n, rfl, .of_le (by decide) (by omega) (by decide) (by omega), fun p H1 n1 => ?_⟩
  rw [rgV_rngI] at n1
  obtain ⟨G1, s1, g1, k1, -⟩ := (Stq.refl gh).know2 n1
  refine ⟨_, rfl, Nat.succ_le_of_lt (Nat.lt_of_lt_of_le (show 0 < 2 by decide) (by decide)), fun qa H2 n2 => ?_⟩
  obtain ⟨s2, gq, hq, fq⟩ := s1.loc2 n2
  refine fun d hd => ⟨_, rfl, ?_⟩
  obtain ⟨s3, gd, h3, fd⟩ := s2.loc2 (p := d) (o := .dT []) ⟨hd, rfl⟩
  have hp3 : upd H2 d (.dT []) p = some (.tup ((keyL (rngI n)).map kV)) := by rw [keyL_kV]; exact s3.gh _ _ k1
  have nqd : qa ≠ d := fun e => by rw [← e, hq] at hd; cases hd
  refine ⟨h3, p, keyL (rngI n), rfl, hp3, ?_⟩
  have s4 := s3.mut gd fd (o := .dT [(keyL (rngI n), V.bl true)]) rfl
  have hd4 : upd (upd H2 d (.dT [])) d (.dT [(keyL (rngI n), V.bl true)]) d = some (.dT [(keyL (rngI n), V.bl true)]) := upd_same
  have hq4 : upd (upd H2 d (.dT [])) d (.dT [(keyL (rngI n), V.bl true)]) qa = some (.lst [V.ref p]) := by rw [upd_ne nqd, upd_ne nqd]; exact hq
  generalize upd (upd H2 d (.dT [])) d (.dT [(keyL (rngI n), V.bl true)]) = H4 at s4 hd4 hq4 ⊢
  refine ⟨fun m σ' H' => ∃ (at_ : Nat) (G' : Hp) (Qs : List (List Int)) (kvs : List (List L2.Key × V)) (ys : List V) (y7 y8 : Option V), m = most.toNat - at_ ∧ σ' = [some (.int n), some (.ref a), some (.int most), some (.ref p), some (.ref qa), some (.ref d), some (.int (at_ : Nat)), y7, y8] ∧ Stq G H G' H' ∧ G' qa = none ∧ G' d = none ∧
    H' qa = some (.lst ys) ∧ H' d = some (.dT kvs) ∧ DaAll G' ys (Qs.map rowD) ∧ kvs.map (·.1) = Qs.map keyL ∧ QOk T (rngI n) Qs at_ 0 ∧ ((Qs.length : Nat) : Int) ≤ most, ⟨_, 0, G1, [rngI n], _, _, none, none, rfl, rfl, s4, gq, gd, hq4, hd4, .cons (.tup k1 (DaAll.ints _)) .nil, rfl, .start _ _, by show ((1 : Nat) : Int) ≤ most; omega⟩, ?_⟩
  rintro m σ' H5 ⟨at_, G5, Qs, kvs, ys, y7, y8, rfl, rfl, s5, gq5, gd5, hq5, hd5, dy5, ek, ok, lm⟩
  have ly := dy5.length
  rw [List.length_map] at ly
  refine ⟨_, rfl, _, rfl, qa, _, rfl, .inl (.of hq5), _, _, rfl, rfl, _, rfl, ite2 (fun c => ?_) (fun c => ?_)⟩
  · have c : ((at_ : Nat) : Int) < ((ys.length : Nat) : Int) := dec_of c
    have atl : at_ < Qs.length := by omega
    obtain ⟨x, hx⟩ : ∃ x, Qs[at_]? = some x := ⟨_, List.getElem?_eq_getElem atl⟩
    refine ⟨fun σ' H' => ∃ m', m' < most.toNat - at_ ∧ ∃ (at_ : Nat) (G' : Hp) (Qs : List (List Int)) (kvs : List (List L2.Key × V)) (ys : List V) (y7 y8 : Option V), m' = most.toNat - at_ ∧ σ' = [some (.int n), some (.ref a), some (.int most), some (.ref p), some (.ref qa), some (.ref d), some (.int (at_ : Nat)), y7, y8] ∧ Stq G H G' H' ∧ G' qa = none ∧ G' d = none ∧
      H' qa = some (.lst ys) ∧ H' d = some (.dT kvs) ∧ DaAll G' ys (Qs.map rowD) ∧ kvs.map (·.1) = Qs.map keyL ∧ QOk T (rngI n) Qs at_ 0 ∧ ((Qs.length : Nat) : Int) ≤ most, fun σ' H' z => z, ?_⟩
    refine ⟨_, rfl, a, rfl, ⟨_, .of (s5.hh _ _ ha)⟩, for_list (K := K) (a := a) (xs := ts) (fun j σ' H' => ∃ (G' : Hp) (Qs : List (List Int)) (kvs : List (List L2.Key × V)) (ys : List V) (y7 y8 : Option V), σ' = [some (.int n), some (.ref a), some (.int most), some (.ref p), some (.ref qa), some (.ref d), some (.int (at_ : Nat)), y7, y8] ∧ Stq G H G' H' ∧ G' qa = none ∧ G' d = none ∧
      H' qa = some (.lst ys) ∧ H' d = some (.dT kvs) ∧ DaAll G' ys (Qs.map rowD) ∧ kvs.map (·.1) = Qs.map keyL ∧ QOk T (rngI n) Qs at_ j ∧ ((Qs.length : Nat) : Int) ≤ most ∧ at_ < Qs.length) ?_ ?_ ?_ ?_⟩
    · exact ⟨G5, Qs, kvs, ys, y7, y8, rfl, s5, gq5, gd5, hq5, hd5, dy5, ek, ok, lm, atl⟩
    · rintro j σ' H' - ⟨G', Qs, kvs, ys, y7, y8, rfl, s6, -⟩
      exact .of (s6.hh _ _ ha)
    · rintro j y σ' H6 hy ⟨G6, Qs, kvs, ys, y7, y8, rfl, s6, gq6, gd6, hq6, hd6, dy6, ek, ok, lm, atl⟩
      obtain ⟨e, he, hde⟩ := dt.get hy
      rw [List.getElem?_map] at he
      obtain ⟨m, hm, rfl⟩ := Option.map_eq_some_iff.mp he
      obtain ⟨b, rfl, hb⟩ := rows_ref hde
      obtain ⟨x, hx⟩ : ∃ x, Qs[at_]? = some x := ⟨_, List.getElem?_eq_getElem atl⟩
      have lyj := dy6.length
      rw [List.length_map] at lyj
      obtain ⟨v, hv⟩ : ∃ v, ys[at_]? = some v := ⟨_, List.getElem?_eq_getElem (by omega)⟩
      obtain ⟨e2, he2, hdx⟩ := dy6.get hv
      rw [List.getElem?_map, hx] at he2
      cases he2
      obtain ⟨c2, rfl, hc2⟩ := rows_ref hdx
      have xmv := made_mv n0 mvT (ok.rch x (List.mem_of_getElem? hx))
      have mvm := mvT m (List.mem_of_getElem? hm)
      refine ⟨_, rfl, _, rfl, qa, _, _, _, rfl, rfl, .of hq6, atI_nat hv, _, rfl, G6, c2, b, x, m, n, rfl, s6.gh, hc2, s6.gg _ _ hb, mvm, xmv.row, by have := xmv.len; omega, fun p7 G7 H7 s7 k7 => ?_⟩
      have S7 := s6.trans s7
      have hd7 := s7.hh _ _ hd6
      have hq7 := s7.hh _ _ hq6
      have gd7 := s7.nw2 hd6 gd6
      have gq7 := s7.nw2 hq6 gq6
      have dy7 := dy6.up s7.gg
      have hp7 : H7 p7 = some (.tup ((keyL (aft x m)).map kV)) := by rw [keyL_kV]; exact s7.gh _ _ k7
      refine ⟨_, rfl, _, rfl, d, _, rfl, DGet.t hd7 hp7, _, rfl, ?_⟩
      rw [val_some ek]
      by_cases c : aft x m ∈ Qs
      · rw [decide_eq_true c]
        exact iteF ⟨G7, Qs, kvs, ys, _, _, rfl, S7, gq7, gd7, hq7, hd7, dy7, ek, ok.same hx hm c, lm, atl⟩
      · rw [decide_eq_false c]
        refine iteT ⟨_, rfl, qa, _, rfl, .inl (.of hq7), _, rfl, _, _, rfl, rfl, _, rfl, ite2 (fun c3 => ?_) (fun c3 => ?_)⟩
        · have c3 : most ≤ ((ys.length : Nat) : Int) := dec_of c3
          refine q2 (fun L hL => ?_) H7 S7.hh
          have ok2 := ok.app hx hm c
          have := len_sub ok2.nd fun w hw => hL w (ok2.rch w hw)
          rw [List.length_append] at this
          have e1 : ([aft x m] : List (List Int)).length = 1 := rfl
          omega
        · have c3 : ¬ most ≤ ((ys.length : Nat) : Int) := dec_not c3
          have lkv : kvs.length = Qs.length := by
            have := congrArg List.length ek
            rwa [List.length_map, List.length_map] at this
          refine ⟨_, rfl, _, rfl, d, _, rfl, DPut.t hd7 hp7 (Nat.lt_of_le_of_lt (show kvs.length ≤ 1000 by omega) (by decide)), ?_⟩
          have nqd : qa ≠ d := ne_of hq7 hd7 (by intro z; cases z)
          have S8 := S7.mut gd7 fd (o := .dT (putK kvs (keyL (aft x m)) (.bl true))) rfl
          have hq8 : upd H7 d (.dT (putK kvs (keyL (aft x m)) (.bl true))) qa = some (.lst ys) := by rw [upd_ne nqd]; exact hq7
          refine ⟨_, rfl, .inl ⟨rfl, _, .of hq8⟩, _, rfl, qa, _, _, rfl, rfl, hq8, Nat.lt_of_le_of_lt (show ys.length ≤ 1000 by omega) (by decide), fun H9 e9 => ?_⟩
          refine ⟨G7, Qs ++ [aft x m], _, _, _, _, rfl, S8.mut gq7 fq e9, gq7, gd7, upd_at e9, upd_else e9 upd_same (Ne.symm nqd), ?_, ?_, ok.app hx hm c, ?_, ?_⟩
          · rw [List.map_append]
            exact dy7.append (.one (.tup k7 (DaAll.ints _)))
          · rw [putK_new _ (val_none ek c), List.map_append, List.map_append, ek]
            rfl
          · rw [List.length_append]
            show ((Qs.length + 1 : Nat) : Int) ≤ most
            omega
          · rw [List.length_append]
            omega
    · rintro σ' H6 ⟨G6, Qs, kvs, ys, y7, y8, rfl, s6, gq6, gd6, hq6, hd6, dy6, ek, ok, lm, atl⟩
      rw [lt] at ok
      refine ⟨_, rfl, _, _, rfl, rfl, _, ?_, at_ + 1, G6, Qs, kvs, ys, _, _, rfl, rfl, s6, gq6, gd6, hq6, hd6, dy6, ek, ok.next, lm⟩
      omega
  · have c : ¬ ((at_ : Nat) : Int) < ((ys.length : Nat) : Int) := dec_not c
    have keys := ok.end_ (by omega)
    refine ⟨_, rfl, qa, ys, Qs, rfl, .of hq5, dy5.up s5.gh, fun h2 l hl e => ?_, fun zs Ms r H6 dz pm so n6 => ?_⟩
    · subst e
      have := ((keys []).mp hl).row mvT rng_mv.row
      have z : (rngI n).length = 0 := this.2.symm
      rw [rngI_len] at z
      have all0 : ∀ w ∈ Qs, w ∈ [([] : List Int)] := fun w hw => by
        have := ((keys w).mp hw).row mvT rng_mv.row
        rw [rngI_len, z] at this
        rw [List.eq_nil_of_length_eq_zero this.2]
        exact List.mem_singleton.mpr rfl
      have := len_sub ok.nd all0
      simp at this
      omega
    · obtain ⟨s6, gr, hr6, fr⟩ := s5.loc2 n6
      have lM := pm.length_eq
      exact q1 r (fullG G5 H6) H6 zs Ms s6.full fr (full_else hr6 rfl gr) hr6 (rows_full s6.gh (dz.up n6.same)) (.of_perm ok.nd keys pm so) (by omega)


theorem AllMv.nil' {n : Int} : AllMv n [] := fun m hm => by cases hm
theorem AllMv.cons' {n : Int} {m : List Int} {T : List (List Int)} (h : IsMv m n) (t : AllMv n T) : AllMv n (m :: T) := fun x hx => (List.mem_cons.mp hx).elim (fun e => e ▸ h) (t x)
theorem AllMv.app' {n : Int} {T U : List (List Int)} (h : AllMv n T) (t : AllMv n U) : AllMv n (T ++ U) := fun x hx => (List.mem_append.mp hx).elim (h x) (t x)
def Tld (S : Sr) (G H : Hp) (p : Addr) (n : Int) (T : List (List Int)) (H' : Hp) : Prop := ∃ (G' : Hp) (q : Addr) (ts : List V), Go S G H G' H' ∧ G' p = none ∧ G' q = none ∧ H p = none ∧ H q = none ∧ H' p = some (.lst [.int n, .ref q]) ∧ H' q = some (.lst ts) ∧ DaAll G' ts (T.map rowD) ∧ AllMv n T ∧ 0 ≤ n ∧ n ≤ 12 ∧ T.length ≤ 4
theorem Tld.mk {S : Sr} {G H G1 H1 : Hp} {p q : Addr} {n : Int} {T : List (List Int)} {ts : List V} (s : Go S G H G1 H1) (gp : G1 p = none) (gq : G1 q = none) (fp : H p = none) (fq : H q = none) (hp : H1 p = some (.lst [.int n, .ref q])) (hq : H1 q = some (.lst ts)) (dt : DaAll H1 ts (T.map rowD)) (mv : AllMv n T) (n0 : 0 ≤ n) (n12 : n ≤ 12) (l : T.length ≤ 4) : Tld S G H p n T H1 :=
  ⟨fullG G1 H1, q, ts, s.full, full_else hp rfl gp, full_else hq rfl gq, fp, fq, hp, hq, rows_full s.gh dt, mv, n0, n12, l⟩
theorem Tld.back {S : Sr} {G H H1 H2 : Hp} {p : Addr} {n : Int} {T : List (List Int)} (t : Tld S G H1 p n T H2) (s1 : Go S G H G H1) : Tld S G H p n T H2 := by
  obtain ⟨G1, q, ts, s, gp, gq, fp, fq, r⟩ := t
  exact ⟨G1, q, ts, s1.trans s, gp, gq, s1.fresh fp, s1.fresh fq, r⟩
theorem AllMv.rep {n : Int} {ns : List Int} (h : IsMv ns n) (m : Nat) : AllMv n (List.replicate m ns) := fun x hx => by rw [List.eq_of_mem_replicate hx]; exact h
def Arn (S : Sr) (G H : Hp) (p : Addr) (n : Int) (T L : List (List Int)) (H' : Hp) : Prop := ∃ (G' : Hp) (k m : Addr) (ks ms : List V), Go S G H G' H' ∧ G' p = none ∧ G' k = none ∧ G' m = none ∧ H p = none ∧ H k = none ∧ H m = none ∧ k ≠ m ∧ H' p = some (.lst [.int n, .ref k, .ref m]) ∧ H' k = some (.lst ks) ∧ H' m = some (.lst ms) ∧
  DaAll G' ks (T.map rowD) ∧ DaAll G' ms (L.map rowD) ∧ AllMv n T ∧ 0 ≤ n ∧ n ≤ 12 ∧ T.length ≤ 8 ∧ Grp n T L ∧ L.length ≤ 400


theorem made_world {CW DB DN DT : Addr} {G H : Hp} {R : VK} {n : Int} {a x dx' : Addr} {xs : List V} {T L : List (List Int)} (gh : Same G H) (hl : HasS K H a xs) (dT : DaAll G xs (T.map rowD)) (ok : WOk n T L) (fx : H x = none) (fd : H dx' = none) (ne : dx' ≠ x)
    (q : ∀ (G' H' : Hp), Stq G H G' H' → WAt CW G' x n T L → R .non H') : spInit K CW DB DN DT (.ref x :: ([.int n, .ref a] ++ [])) (upd (upd H dx' (.own x)) x (.ins CW dx' [])) R E0 := by
  have n1 : New H dx' (.own x) (upd H dx' (.own x)) := ⟨fd, rfl⟩
  have fx1 : (upd H dx' (.own x)) x = none := by rw [upd_ne (Ne.symm ne)]; exact fx
  have n2 : New (upd H dx' (.own x)) x (.ins CW dx' []) (upd (upd H dx' (.own x)) x (.ins CW dx' [])) := ⟨fx1, rfl⟩
  obtain ⟨s1, -, -, -⟩ := (Stq.refl gh).loc2 n1
  obtain ⟨s2, gx, hx, -⟩ := s1.loc2 n2
  have sz := sz_rows ok.n12 ok.mv
  have lT := ok.lT
  refine ⟨G, x, dx', .int n, .int n, a, xs, _, rfl, s2.gh, gx, hx, .int n, (hl.imp (fun h => h.imp (s2.hh _ _) (s2.hh _ _)) id), dT, by omega, judge_good ok.n0 ok.n12 ok.mv lT ⟨fun G' H' P ml tl ms ts M gx' hx' hm dM ht dt w => ?_, fun h => absurd (h L fun w hw => (ok.grp.mem w).mpr hw) (by have := ok.lL; omega)⟩⟩
  have S := s2.stp P fx
  obtain ⟨G2, S2, g2, kx, -⟩ := S.frz gx' fx hx'
  have e : M = L := w.grp.uniq ok.grp
  subst e
  exact q G2 H' S2 ⟨dx', ml, tl, ms, ts, kx, g2 _ _ hm, dM.up g2, g2 _ _ ht, dt.up g2⟩


/-- v is a point of n -/
def spCheckPoint (DP : Addr) : Sp := fun vs H Q E => ∃ (v : V) (d : PyData) (n : Int), vs = [.int n, v] ∧ Da H v d ∧ (isNum d 0 (n - 1) = true → Q .non H) ∧ (isNum d 0 (n - 1) = false → Errs E DP [(("value" : Str), v)] H)
theorem ok_check_point {DP : Addr} (Z : Zs mg) (D : Ds K mg) (m_NotAPoint : Xm P w K mg base "NotAPoint" DP ["value"]) (c_is_point : Cal P w K mg base "is_point" 2 ["points", "value"] spIsPoint) : CalX P w K mg base "check_point" 3 ["points", "value"] (spCheckPoint DP) := by
  refine Def.calX D.d_check_point sc_check_point (fun vs H Q E h => ?_) (fun f cdv A outer s H vs Q E hr h => ?_)
  · obtain ⟨v, d, n, rfl, hd, q1, q2⟩ := h
    rfl
  obtain ⟨v, d, n, rfl, hd, q1, q2⟩ := h
  refine ⟨_, (pss_one (ps_if (pt_not (pt_val (pe_cal c_is_point (hr.mono (by first | decide | omega)) (by rfl) (pa_cons (pv 0) (pa_cons (pv 1) pa_nil))))) (pss_one (L2N.ps_raise rfl (L2N.takes_of rfl rfl rfl rfl) (pmk_x m_NotAPoint (hr.mono (by first | decide | omega)) (by rfl) (pa_cons (pv 1) pa_nil)))) pss_nil)), ?_⟩
  refine ⟨_, rfl, _, rfl, v, d, n, rfl, hd, ?_⟩
  cases e : isNum d 0 (n - 1) with
  | true => exact ⟨_, rfl, iteF (q1 e)⟩
  | false => exact ⟨_, rfl, iteT ⟨_, rfl, ini_end rfl (by show 1 ≤ 1000; decide) fun dd hdd => q2 e dd _ (same_put (Same.refl _) hdd) upd_same⟩⟩
/-- the first bad entry of a row -/
def badPt (n : Int) (ds : List PyData) (i : Nat) : Prop := (∃ d, ds[i]? = some d ∧ isNum d 0 (n - 1) = false) ∧ ∀ (j : Nat) d, j < i → ds[j]? = some d → isNum d 0 (n - 1) = true
/-- what is due for a row: refused, or its points -/
def RowJ (n : Int) (xs : List V) (ds : List PyData) (DP DT : Addr) (E : XK) (H : Hp) (good : List Int → Prop) : Prop :=
  (24 < ds.length → Errs E DT [(("limit" : Str), .int 24), (("what" : Str), .str "row")] H) ∧ (ds.length ≤ 24 → ∀ (i : Nat) (v : V), badPt n ds i → xs[i]? = some v → Errs E DP [(("value" : Str), v)] H) ∧
  (ds.length ≤ 24 → ∀ rs : List Int, ds = rs.map PyData.int → (∀ r ∈ rs, inR n r) → good rs)
theorem num_ints {n : Int} : ∀ {ds : List PyData}, (∀ d ∈ ds, isNum d 0 (n - 1) = true) → ∃ rs : List Int, ds = rs.map PyData.int ∧ ∀ r ∈ rs, inR n r
  | [], _ => ⟨[], rfl, fun _ h => by cases h⟩
  | d :: ds, h => by
    obtain ⟨rs, rfl, hr⟩ := num_ints fun e he => h e (List.mem_cons_of_mem _ he)
    have h1 := h d List.mem_cons_self
    cases d with
    | int i =>
      have h1 : (decide (0 ≤ i) && decide (i ≤ n - 1)) = true := h1
      rw [Bool.and_eq_true] at h1
      have a := of_decide_eq_true h1.1
      have b := of_decide_eq_true h1.2
      refine ⟨i :: rs, rfl, fun r hr2 => ?_⟩
      rcases List.mem_cons.mp hr2 with e | hr2
      · rw [e]
        exact ⟨a, by omega⟩
      · exact hr r hr2
    | _ => cases h1
def spCheckRow (K : PySem.W.Frag) (DP DT : Addr) : Sp := fun vs H Q E => ∃ (G : Hp) (a : Addr) (xs : List V) (ds : List PyData) (n : Int), vs = [.int n, .ref a] ∧ Same G H ∧ HasS K H a xs ∧ DaAll G xs ds ∧ RowJ n xs ds DP DT E H (fun _ => ∀ H', Same H H' → Q .non H')
theorem ok_check_row {DP DT : Addr} (Z : Zs mg) (D : Ds K mg) (m_TooMany : Xm P w K mg base "TooMany" DT ["what", "limit"]) (c_check_point : CalX P w K mg base "check_point" 3 ["points", "value"] (spCheckPoint DP)) : CalX P w K mg base "check_row" 4 ["points", "row"] (spCheckRow K DP DT) := by
  refine Def.calX D.d_check_row sc_check_row (fun vs H Q E h => ?_) (fun f cdv A outer s H vs Q E hr h => ?_)
  · obtain ⟨G, a, xs, ds, n, rfl, gh, hl, dx, q1, q2, q3⟩ := h
    rfl
  obtain ⟨G, a, xs, ds, n, rfl, gh, hl, dx, q1, q2, q3⟩ := h
  refine ⟨_, (pss_cons (ps_if (pt_cmp (pc_gt (pe_callB call_len (by rfl) Z.z_len (by decide +kernel) (pa_cons (pv 1) pa_nil)) (pe_globI (by rfl) Z.c_MOST_ROW)) (nomark _)) (pss_one (L2N.ps_raise rfl (L2N.takes_of rfl rfl rfl rfl) (pmk_x m_TooMany (hr.mono (by first | decide | omega)) (by rfl) (pa_cons pe_str (pa_cons (pe_globI (by rfl) Z.c_MOST_ROW) pa_nil))))) pss_nil)
      (pss_one (ps_for (passes_of rfl) rfl (pi_or (pi_list (pv 1)) (pi_tup (pv 1))) (pg_name (i := 2) sc_check_row.nd rfl (Or.inl rfl)) (pss_one (ps_expr (pe_calX c_check_point (L2N.takes_of rfl rfl rfl rfl) (hr.mono (by first | decide | omega)) (by rfl) (pa_cons (pv 0) (pa_cons (pv 2) pa_nil)))))))), ?_⟩
  have lx := dx.length
  refine ⟨_, rfl, _, xs.length, rfl, HasS.lenV hl, _, _, rfl, rfl, _, rfl, ite2 (fun c => ?_) (fun c => ?_)⟩
  · have c : (24 : Int) < ((xs.length : Nat) : Int) := dec_of c
    exact ini_end rfl (by show 2 ≤ 1000; decide) fun dd hdd => q1 (by omega) dd _ (same_put (Same.refl _) hdd) upd_same
  have c : ¬ (24 : Int) < ((xs.length : Nat) : Int) := dec_not c
  have q2 := q2 (by omega)
  have q3 := q3 (by omega)
  rcases hl with (hl | hl) | hl
  · refine .inl ⟨_, rfl, a, rfl, ⟨_, .of (hl)⟩, for_list (K := K) (a := a) (xs := xs) (fun i σ' H' => ∃ y2 : Option V, σ' = [some (.int n), some (.ref a), y2] ∧ H' = H ∧ ∀ (j : Nat) d, j < i → ds[j]? = some d → isNum d 0 (n - 1) = true) ?_ ?_ ?_ ?_⟩
    · exact ⟨_, rfl, rfl, fun j d hj => absurd hj (Nat.not_lt_zero j)⟩
    · rintro i σ' H' - ⟨y2, rfl, rfl, -⟩
      exact .of (hl)
    · rintro i x σ' H1 hx ⟨y2, rfl, rfl, ok⟩
      obtain ⟨d, hd, dd⟩ := dx.get hx
      refine ⟨_, rfl, _, rfl, x, d, n, rfl, dd.up gh, fun e => ⟨_, rfl, rfl, fun j d' hj hd' => ?_⟩, fun e => q2 i x ⟨⟨d, hd, e⟩, ok⟩ hx⟩
      rcases Nat.lt_or_ge j i with z | z
      · exact ok j d' z hd'
      · have : j = i := by omega
        subst this
        rw [hd] at hd'
        cases hd'
        exact e
    · rintro σ' H1 ⟨y2, rfl, rfl, ok⟩
      obtain ⟨rs, rfl, hr⟩ := num_ints (n := n) fun d hd => by
        obtain ⟨j, hj⟩ := List.getElem?_of_mem hd
        exact ok j d (by rw [lx]; exact (List.getElem?_eq_some_iff.mp hj).1) hj
      exact q3 rs rfl hr _ (Same.refl _)
  · refine .inr ⟨_, rfl, a, rfl, ⟨_, .of (hl)⟩, for_tup (K := K) (a := a) (xs := xs) (fun i σ' H' => ∃ y2 : Option V, σ' = [some (.int n), some (.ref a), y2] ∧ H' = H ∧ ∀ (j : Nat) d, j < i → ds[j]? = some d → isNum d 0 (n - 1) = true) ?_ ?_ ?_ ?_⟩
    · exact ⟨_, rfl, rfl, fun j d hj => absurd hj (Nat.not_lt_zero j)⟩
    · rintro i σ' H' - ⟨y2, rfl, rfl, -⟩
      exact .of (hl)
    · rintro i x σ' H1 hx ⟨y2, rfl, rfl, ok⟩
      obtain ⟨d, hd, dd⟩ := dx.get hx
      refine ⟨_, rfl, _, rfl, x, d, n, rfl, dd.up gh, fun e => ⟨_, rfl, rfl, fun j d' hj hd' => ?_⟩, fun e => q2 i x ⟨⟨d, hd, e⟩, ok⟩ hx⟩
      rcases Nat.lt_or_ge j i with z | z
      · exact ok j d' z hd'
      · have : j = i := by omega
        subst this
        rw [hd] at hd'
        cases hd'
        exact e
    · rintro σ' H1 ⟨y2, rfl, rfl, ok⟩
      obtain ⟨rs, rfl, hr⟩ := num_ints (n := n) fun d hd => by
        obtain ⟨j, hj⟩ := List.getElem?_of_mem hd
        exact ok j d (by rw [lx]; exact (List.getElem?_eq_some_iff.mp hj).1) hj
      exact q3 rs rfl hr _ (Same.refl _)
  · refine .inr ⟨_, rfl, a, rfl, ⟨_, .inr hl⟩, for_tup (K := K) (a := a) (xs := xs) (fun i σ' H' => ∃ y2 : Option V, σ' = [some (.int n), some (.ref a), y2] ∧ H' = H ∧ ∀ (j : Nat) d, j < i → ds[j]? = some d → isNum d 0 (n - 1) = true) ?_ ?_ ?_ ?_⟩
    · exact ⟨_, rfl, rfl, fun j d hj => absurd hj (Nat.not_lt_zero j)⟩
    · rintro i σ' H' - ⟨y2, rfl, rfl, -⟩
      exact .inr hl
    · rintro i x σ' H1 hx ⟨y2, rfl, rfl, ok⟩
      obtain ⟨d, hd, dd⟩ := dx.get hx
      refine ⟨_, rfl, _, rfl, x, d, n, rfl, dd.up gh, fun e => ⟨_, rfl, rfl, fun j d' hj hd' => ?_⟩, fun e => q2 i x ⟨⟨d, hd, e⟩, ok⟩ hx⟩
      rcases Nat.lt_or_ge j i with z | z
      · exact ok j d' z hd'
      · have : j = i := by omega
        subst this
        rw [hd] at hd'
        cases hd'
        exact e
    · rintro σ' H1 ⟨y2, rfl, rfl, ok⟩
      obtain ⟨rs, rfl, hr⟩ := num_ints (n := n) fun d hd => by
        obtain ⟨j, hj⟩ := List.getElem?_of_mem hd
        exact ok j d (by rw [lx]; exact (List.getElem?_eq_some_iff.mp hj).1) hj
      exact q3 rs rfl hr _ (Same.refl _)


theorem ok_witer {CW : Addr} (Z : Zs mg) (D : Ds K mg) (W : Dw K mg CW) : CalS P w K mg base CW "__iter__" 1 ["self"] (spIt CW "_made") := by
  refine MDef.calS W.d_World___iter__ sc_World___iter__ (fun n vs H Q E h => ?_) (fun f cdv A outer s H vs Q E hr h => ?_)
  · obtain ⟨x, dx, fs, l, xs, rfl, hx, hf, hl, q⟩ := h
    rfl
  obtain ⟨x, dx, fs, l, xs, rfl, hx, hf, hl, q⟩ := h
  refine ⟨_, (pss_one (ps_ret (pe_callB ItX.call_iterN (by rfl) Z.z_iter (by decide +kernel) (pa_cons (pe_fld (pv 0) rfl) pa_nil)))), ?_⟩
  exact ⟨_, rfl, x, CW, dx, _, _, rfl, hx, W.wc.cl, W.n_made, hf, l, xs, rfl, .of hl, fun it h1 h2 => q it h1 h2⟩
/-- the moves of L that carry each entry of rs to itself -/
def holdB (rs : List Int) (m : List Int) : Bool := decide (aft rs m = rs)
def holdL (rs : List Int) (L : List (List Int)) : List (List Int) := L.filter (holdB rs)
def spThose (K : PySem.W.Frag) (C : Addr) : Sp := fun vs H Q _ => ∃ (G : Hp) (x b : Addr) (n : Int) (T L : List (List Int)) (rs : List Int), vs = [.ref x, .ref b] ∧ Same G H ∧ WAt C G x n T L ∧ WOk n T L ∧ HasS K H b (rs.map V.int) ∧ (∀ r ∈ rs, inR n r) ∧ rs.length ≤ 24 ∧
  ∀ (p : Addr) (ys : List V) (G' H' : Hp), Stq G H G' H' → G' p = none → H p = none → H' p = some (.lst ys) → DaAll G' ys ((holdL rs L).map rowD) → Q (.ref p) H'
theorem holdL_take {rs : List Int} {L : List (List Int)} {i : Nat} {m : List Int} (h : L[i]? = some m) : holdL rs (L.take (i + 1)) = holdL rs (L.take i) ++ (if holdB rs m then [m] else []) := by
  unfold holdL
  rw [List.take_add_one, h, List.filter_append]
  show _ ++ [m].filter (holdB rs) = _
  congr 1
  cases e : holdB rs m with
  | true => rw [List.filter_cons_of_pos e]; rfl
  | false => rw [List.filter_cons_of_neg (by rw [e]; exact Bool.false_ne_true)]; rfl
theorem ok_those {CW : Addr} (Z : Zs mg) (D : Ds K mg) (W : Dw K mg CW) (c_carry__w : Cal P w K mg base "carry" 1 ["move", "row"] (spCarryW K)) (c_World___iter__ : CalS P w K mg base CW "__iter__" 1 ["self"] (spIt CW "_made")) : Cal P w K mg base "those_holding" 2 ["moves", "lot"] (spThose K CW) := by
  refine Def.cal D.d_those_holding sc_those_holding (fun vs H Q E h => ?_) (fun f cdv A outer s H vs Q E hr h => ?_)
  · obtain ⟨G, x, b, n, T, L, rs, rfl, gh, wat, ok, hb, inr, lr, q⟩ := h
    rfl
  obtain ⟨G, x, b, n, T, L, rs, rfl, gh, wat, ok, hb, inr, lr, q⟩ := h
  refine ⟨_, (pss_one (ps_ret (pe_lc (own := [("move", 2)]) (g := gName 2) (by rfl) sc_those_holding.nd (pi_world c_World___iter__ (hr.mono (by first | decide | omega)) (pv 0)) (blkOk_by (N := ["moves", "lot", "move"]) (sc := defScope s_those_holding) (by decide +kernel)) (fun _ _ _ _ _ => pg_name (i := 2) sc_those_holding.nd rfl (Or.inl rfl)) (fun _ _ _ _ _ => pts_one (pt_cmpR (op_eqRowK (K := K) rfl hr.units) (pe_cal c_carry__w (hr.mono (by first | decide | omega)) (by rfl) (pa_cons (pv 2) (pa_cons (pv 1) pa_nil))) (pe_callTy (call_tupleWK (K := K) rfl) (by rfl) Z.z_tuple (by decide +kernel) (pa_cons (pv 1) pa_nil)) (nomark _))) (fun _ _ _ _ _ => (pv 2))))), ?_⟩
  obtain ⟨dx, ml, tl, ms, ts, h1, h2, h3, h4, h5⟩ := id wat
  have lms := h3.length
  rw [List.length_map] at lms
  refine ⟨_, rfl, x, dx, _, ml, ms, rfl, gh _ _ h1, wf_made _ _ _, gh _ _ h2, fun l hl => ?_⟩
  refine lc_list (xs := ms) (fun i H' => ∃ (G' : Hp) (ys : List V), Stq G H G' H' ∧ G' l = none ∧ H l = none ∧ H' l = some (.lst ys) ∧ DaAll G' ys ((holdL rs (L.take i)).map rowD)) ?_ ?_ ?_ ?_
  · obtain ⟨s2, gl, h2, fl⟩ := (Stq.refl gh).loc2 (p := l) (o := .lst []) ⟨hl, rfl⟩
    exact ⟨G, [], s2, gl, fl, h2, .nil⟩
  · rintro i H' - ⟨G', ys, s2, -⟩
    exact .of (s2.gh _ _ (s2.gg _ _ h2))
  · rintro i y H2 hy ⟨G2, ys, s2, gl, fl, hl2, dy⟩
    obtain ⟨e, he, de⟩ := h3.get hy
    rw [List.getElem?_map] at he
    obtain ⟨m, hm, rfl⟩ := Option.map_eq_some_iff.mp he
    obtain ⟨c, rfl, hc⟩ := rows_ref de
    have mv := made_mv ok.n0 ok.mv ((ok.grp.mem m).mp (List.mem_of_getElem? hm))
    have ilt := (List.getElem?_eq_some_iff.mp hm).1
    have lL := ok.lL
    have hb2 := HasS.up s2.hh hb
    have ly := dy.length
    rw [List.length_map] at ly
    have lh : (holdL rs (L.take i)).length ≤ 400 := by
      refine Nat.le_trans (List.length_filter_le _ _) ?_
      rw [List.length_take]
      omega
    refine ⟨rfl, _, rfl, _, rfl, G2, c, b, m, rs, n, rfl, s2.gh, s2.gg _ _ hc, hb2, mv, inr, by omega, fun p G3 H3 s3 k3 => ?_⟩
    have S3 := s2.trans s3
    have hl3 := s3.hh _ _ hl2
    have gl3 := s3.nw2 hl2 gl
    have dy3 := dy.up s3.gg
    have hb3 := HasS.up s3.hh hb2
    refine ⟨_, rfl, b, _, rfl, hb3.len, fun t H4 s4 ht => ?_⟩
    have S4 := S3.pure s4
    have hl4 := s4 _ _ hl3
    refine ⟨p, t, _, _, rfl, rfl, .of (S4.gh _ _ k3), ht, _, rfl, ite2 (fun c1 => ?_) (fun c1 => ?_)⟩
    · refine ⟨_, rfl, _, hl4, lt (by omega), G3, _, S4.mut gl3 fl rfl, gl3, fl, upd_same, ?_⟩
      rw [holdL_take hm, show holdB rs m = true from c1, List.map_append]
      exact dy3.append (.one (de.up (s2.gg.trans s3.gg)))
    · refine ⟨G3, ys, S4, gl3, fl, hl4, ?_⟩
      rw [holdL_take hm, show holdB rs m = false from Bool.eq_false_iff.mpr c1, List.map_append]
      simpa using dy3
  · rintro H2 ⟨G2, ys, s2, gl, fl, hl2, dy⟩
    rw [lms, List.take_length] at dy
    exact q l ys G2 H2 s2 gl fl hl2 dy


/-- the row is refused, or the moves that hold it -/
def spHolders (K : PySem.W.Frag) (C DP DT : Addr) : Sp := fun vs H Q E => ∃ (G : Hp) (x a : Addr) (n : Int) (T L : List (List Int)) (xs : List V) (ds : List PyData), vs = [.ref x, .ref a] ∧ Same G H ∧ WAt C G x n T L ∧ WOk n T L ∧ HasS K H a xs ∧ DaAll G xs ds ∧
  RowJ n xs ds DP DT E H (fun rs => ∀ (p : Addr) (ys : List V) (G' H' : Hp), Stq G H G' H' → G' p = none → H p = none → H' p = some (.lst ys) → DaAll G' ys ((holdL rs L).map rowD) → Q (.ref p) H')
theorem ok_holders {CW DP DT : Addr} (Z : Zs mg) (D : Ds K mg) (W : Dw K mg CW) (c_World_points : CalP P w K mg base CW "points" 1 ["self"] (spPoints CW)) (c_check_row : CalX P w K mg base "check_row" 4 ["points", "row"] (spCheckRow K DP DT)) (c_those_holding : Cal P w K mg base "those_holding" 2 ["moves", "lot"] (spThose K CW)) : CalX P w K mg base "holders" 5 ["world", "lot"] (spHolders K CW DP DT) := by
  refine Def.calX D.d_holders sc_holders (fun vs H Q E h => ?_) (fun f cdv A outer s H vs Q E hr h => ?_)
  · obtain ⟨G, x, a, n, T, L, xs, ds, rfl, gh, wat, ok, hl, dx, q1, q2, q3⟩ := h
    rfl
  obtain ⟨G, x, a, n, T, L, xs, ds, rfl, gh, wat, ok, hl, dx, q1, q2, q3⟩ := h
  refine ⟨_, (pss_cons (ps_expr (pe_calX c_check_row (L2N.takes_of rfl rfl rfl rfl) (hr.mono (by first | decide | omega)) (by rfl) (pa_cons (pe_propQ W.wc c_World_points (hr.mono (by first | decide | omega)) (pv 0)) (pa_cons (pv 1) pa_nil))))
      (pss_one (ps_ret (pe_cal c_those_holding (hr.mono (by first | decide | omega)) (by rfl) (pa_cons (pv 0) (pa_cons (pv 1) pa_nil)))))), ?_⟩
  obtain ⟨dx0, ml, tl, ms, ts, h1, h2, h3, h4, h5⟩ := id wat
  refine ⟨_, rfl, x, dx0, _, rfl, gh _ _ h1, G, x, n, T, L, rfl, gh, wat, _, rfl, G, a, xs, ds, n, rfl, gh, hl, dx, q1, q2, fun l24 rs e inr H1 s1 => ?_⟩
  subst e
  obtain rfl := vals_int dx
  rw [List.length_map] at l24
  exact ⟨_, rfl, _, rfl, G, x, a, n, T, L, rs, rfl, gh.trans s1, wat, ok, HasS.up s1 hl, inr, l24, fun p ys G' H' s gp fp hp dy => q3 (by rw [List.length_map]; exact l24) rs rfl inr p ys G' H' (((Stq.refl gh).pure s1).trans s) gp (s1.free fp) hp dy⟩


/-- ls: the entries of rs, ascending, each once -/
def IsLot (ls rs : List Int) : Prop := ls.Pairwise (· < ·) ∧ ∀ x, x ∈ ls ↔ x ∈ rs
theorem IsLot.uniq {ls ms rs : List Int} (a : IsLot ls rs) (b : IsLot ms rs) : ls = ms := by
  have pm : ls.Perm ms := by
    refine (List.perm_ext_iff_of_nodup ?_ ?_).mpr fun x => (a.2 x).trans (b.2 x).symm
    · exact a.1.imp fun h => by omega
    · exact b.1.imp fun h => by omega
  exact List.Perm.eq_of_pairwise (le := (· ≤ ·)) (fun x y _ _ h1 h2 => Int.le_antisymm h1 h2) (a.1.imp fun h => by omega) (b.1.imp fun h => by omega) pm
theorem len_subI {α : Type} [DecidableEq α] : ∀ {K L : List α}, K.Nodup → (∀ w ∈ K, w ∈ L) → K.length ≤ L.length
  | [], L, _, _ => Nat.zero_le _
  | x :: K, L, nd, h => by
    have hx := h x List.mem_cons_self
    have ih := len_subI (K := K) (L := L.erase x) (List.nodup_cons.mp nd).2 fun w hw => (List.mem_erase_of_ne fun e => (List.nodup_cons.mp nd).1 (by rw [← e]; exact hw)).mpr (h w (List.mem_cons_of_mem _ hw))
    rw [List.length_erase_of_mem hx] at ih
    have := List.length_pos_of_mem hx
    rw [List.length_cons]
    omega
theorem IsLot.len {ls rs : List Int} (a : IsLot ls rs) : ls.length ≤ rs.length := by
  have nd : ls.Nodup := a.1.imp fun h => by omega
  exact len_subI nd fun x hx => (a.2 x).mp hx
theorem keys_putK {κ : Type} [DecidableEq κ] {kvs : List (κ × V)} {k : κ} {v : V} (h : (valV kvs k).isSome = true) : (putK kvs k v).map (·.1) = kvs.map (·.1) := by
  unfold putK
  rw [if_pos (by rw [valV_any]; exact h), List.map_map]
  refine List.map_congr_left fun p _ => ?_
  show (if p.1 = k then (p.1, v) else p).1 = p.1
  split <;> rfl
theorem kV_inl : ∀ ms : List Int, (ms.map Sum.inl).map kV = ms.map V.int := fun ms => by
  rw [List.map_map]
  rfl
theorem aft_self {rs w : List Int} : aft rs w = rs ↔ ∀ r ∈ rs, stp w r = r := by
  unfold aft
  induction rs with
  | nil => simp
  | cons a rs ih => simp [ih]


/-- a alone has changed, beside what is new -/
inductive Ch (a : Addr) (H : Hp) : Hp → Prop
  | refl : Ch a H H
  | chg {H1 : Hp} {o : HO} : Ch a H H1 → Ch a H (upd H1 a o)
  | new {H1 H2 : Hp} {p : Addr} {o : HO} : Ch a H H1 → New H1 p o H2 → Ch a H H2
theorem Ch.else {a b : Addr} {H H' : Hp} {o : HO} (c : Ch a H H') (h : H b = some o) (n : b ≠ a) : H' b = some o := by
  induction c with
  | refl => exact h
  | chg _ ih => rw [upd_ne n]; exact ih
  | new _ nw ih => exact nw.else ih
theorem Go.ch {S : Sr} {G H G1 H1 H2 : Hp} {a : Addr} (s : Go S G H G1 H1) (c : Ch a H1 H2) (g : G1 a = none) (f : H a = none) : Go S G H G1 H2 := by
  induction c with
  | refl => exact s
  | chg _ ih => exact ih.mut g f rfl
  | new _ nw ih => exact (ih.loc nw).1
/-- v is no point of n -/
structure BadV (G : Hp) (n : Int) (v : V) (d : PyData) : Prop where
  da : Da G v d
  no : isNum d 0 (n - 1) = false
  sh : ShwE d
  sz : szD d ≤ 5
theorem BadV.up {G G' : Hp} {n : Int} {v : V} {d : PyData} (b : BadV G n v d) (g : Same G G') : BadV G' n v d := ⟨b.da.up g, b.no, b.sh, b.sz⟩
theorem no_point {n i : Int} (h : i < 0 ∨ n ≤ i) : isNum (.int i) 0 (n - 1) = false := by
  show (decide (0 ≤ i) && decide (i ≤ n - 1)) = false
  rcases h with h | h
  · rw [decide_eq_false (by omega)]
    rfl
  · rw [decide_eq_false (p := i ≤ n - 1) (by omega), Bool.and_false]
theorem BadV.int {G : Hp} {n i : Int} (h : i < 0 ∨ n ≤ i) (z : i.natAbs < 10 ^ 40) : BadV G n (.int i) (.int i) := ⟨.int i, no_point h, .int z, by show 1 ≤ 5; decide⟩
theorem yes_point {n r : Int} (h : inR n r) : isNum (.int r) 0 (n - 1) = true := by
  show (decide (0 ≤ r) && decide (r ≤ n - 1)) = true
  rw [decide_eq_true h.1, decide_eq_true (p := r ≤ n - 1) (by have := h.2; omega)]
  rfl
/-- a row that is refused, and what is due -/
structure BadRow (G : Hp) (n : Int) (p : Addr) (t : Bool) (xs : List V) (ds : List PyData) (due : PyData) : Prop where
  at_ : G p = some (if t then HO.tup xs else HO.lst xs)
  da : DaAll G xs ds
  sh : ∀ d ∈ ds, ShwE d ∧ szD d ≤ 5
  ln : ds.length ≤ 40
  due : (24 < ds.length ∧ due = .tuple [.str "TooMany", .str "row", .int 24]) ∨ (ds.length ≤ 24 ∧ ∃ (i : Nat) (v : V) (d : PyData), xs[i]? = some v ∧ badPt n ds i ∧ ds[i]? = some d ∧ due = .tuple [.str "NotAPoint", d])
theorem BadRow.up {G G' : Hp} {n : Int} {p : Addr} {t : Bool} {xs : List V} {ds : List PyData} {due : PyData} (b : BadRow G n p t xs ds due) (g : Same G G') : BadRow G' n p t xs ds due := ⟨g _ _ b.at_, b.da.up g, b.sh, b.ln, b.due⟩
theorem rowJ_good {n : Int} {xs : List V} {rs : List Int} {DP DT : Addr} {E : XK} {H : Hp} {good : List Int → Prop} (inr : ∀ r ∈ rs, inR n r) (lr : rs.length ≤ 24) (q : good rs) : RowJ n xs (rs.map PyData.int) DP DT E H good := by
  refine ⟨fun h => ?_, fun _ i v h _ => ?_, fun _ ss e _ => ?_⟩
  · rw [List.length_map] at h
    omega
  · obtain ⟨⟨d, hd, no⟩, -⟩ := h
    obtain ⟨r, hr, rfl⟩ := List.mem_map.mp (List.mem_of_getElem? hd)
    rw [yes_point (inr r hr)] at no
    cases no
  · have := congrArg intsOf e
    rw [intsOf_map, intsOf_map] at this
    rw [← this]
    exact q
theorem if_sq {t : Bool} {ds : List PyData} : (if t then PyData.tuple ds else .list ds) = sqD t ds := by cases t <;> rfl
theorem hasS_if {K : PySem.W.Frag} {H : Hp} {p : Addr} {t : Bool} {xs : List V} (h : H p = some (if t then HO.tup xs else HO.lst xs)) : HasS K H p xs := by
  cases t with
  | true => exact .inl (.inr h)
  | false => exact .inl (.inl h)
theorem holdL_sub {rs : List Int} {L : List (List Int)} {w : List Int} (h : w ∈ holdL rs L) : w ∈ L := (List.mem_filter.mp h).1
theorem holdL_len {rs : List Int} {L : List (List Int)} : (holdL rs L).length ≤ L.length := List.length_filter_le _ _
theorem BadRow.depth {G : Hp} {n : Int} {p : Addr} {t : Bool} {xs : List V} {ds : List PyData} {due : PyData} (b : BadRow G n p t xs ds due) : PyData.depth due ≤ 6 ∧ szD due ≤ 1000 ∧ sameD due due = true := by
  rcases b.due with ⟨-, rfl⟩ | ⟨-, i, v, d, hv, -, hd, rfl⟩
  · exact ⟨by decide, by decide, by decide⟩
  · obtain ⟨sh, sz⟩ := b.sh d (List.mem_of_getElem? hd)
    obtain ⟨d', hd', da⟩ := b.da.get hv
    obtain rfl : d' = d := Option.some.inj (hd'.symm.trans hd)
    have := sh.dp
    refine ⟨?_, ?_, ?_⟩
    · show max 0 (max (PyData.depth d') 0) + 1 ≤ 6
      omega
    · have e : szD (.str "NotAPoint") = 10 := by decide
      show 1 + (szD (.str "NotAPoint") + (szD d' + 0)) ≤ 1000
      omega
    · show (sameD (.str "NotAPoint") (.str "NotAPoint") && (sameD d' d' && true)) = true
      rw [sameD_self _ _ da]
      decide


/-- a drawn world's list, known -/
def Frz (G : Hp) (p : Addr) (n : Int) (T L : List (List Int)) : Prop := ∃ (k m : Addr) (ks ms : List V), G p = some (.lst [.int n, .ref k, .ref m]) ∧ G k = some (.lst ks) ∧ G m = some (.lst ms) ∧ DaAll G ks (T.map rowD) ∧ DaAll G ms (L.map rowD) ∧ WOk n T L
theorem Frz.up {G G' : Hp} {p : Addr} {n : Int} {T L : List (List Int)} (f : Frz G p n T L) (g : Same G G') : Frz G' p n T L := by
  obtain ⟨k, m, ks, ms, h1, h2, h3, h4, h5, h6⟩ := f
  exact ⟨k, m, ks, ms, g _ _ h1, g _ _ h2, g _ _ h3, h4.up g, h5.up g, h6⟩
theorem rows_no_int {G : Hp} {n : Int} {vs : List V} : ∀ {T : List (List Int)}, ¬ DaAll G (V.int n :: vs) (T.map rowD)
  | [], h => by cases h
  | t :: T, h => by
    cases h with
    | cons a b => cases a
theorem Arn.frz {S : Sr} {G H H' : Hp} {p : Addr} {n : Int} {T L : List (List Int)} (a : Arn S G H p n T L H') : ∃ G', Go S G H G' H' ∧ Frz G' p n T L := by
  obtain ⟨G1, k, m, ks, ms, s1, gp, gk, gm, fp, fk, fm, nkm, hp, hk, hm, dT, dL, mv, n0, n12, lT, grp, lL⟩ := a
  have nkp : k ≠ p := fun z => by
    rw [z, hp] at hk
    injection hk with e
    injection e with e
    rw [← e] at dT
    exact rows_no_int dT
  have nmp : m ≠ p := fun z => by
    rw [z, hp] at hm
    injection hm with e
    injection e with e
    rw [← e] at dL
    exact rows_no_int dL
  obtain ⟨G2, s2, g2, k2, o2⟩ := s1.frz gp fp hp
  obtain ⟨G3, s3, g3, k3, o3⟩ := s2.frz (by rw [o2 k nkp]; exact gk) fk hk
  obtain ⟨G4, s4, g4, k4, o4⟩ := s3.frz (by rw [o3 m (Ne.symm nkm), o2 m nmp]; exact gm) fm hm
  exact ⟨G4, s4, k, m, ks, ms, g4 _ _ (g3 _ _ k2), g4 _ _ k3, k4, ((dT.up g2).up g3).up g4, ((dL.up g2).up g3).up g4, n0, n12, mv, lT, lL, grp⟩
theorem holdL_congr {rs ss : List Int} {L : List (List Int)} (h : ∀ x, x ∈ rs ↔ x ∈ ss) : holdL rs L = holdL ss L := by
  refine List.filter_congr fun w _ => ?_
  unfold holdB
  exact decide_eq_decide.mpr ⟨fun e => aft_self.mpr fun r hr => aft_self.mp e r ((h r).mpr hr), fun e => aft_self.mpr fun r hr => aft_self.mp e r ((h r).mp hr)⟩
theorem holdL_app {rs ss : List Int} {L : List (List Int)} : holdL (rs ++ ss) L = holdL rs (holdL ss L) := by
  unfold holdL
  rw [List.filter_filter]
  refine List.filter_congr fun w _ => ?_
  unfold holdB
  have : aft (rs ++ ss) w = rs ++ ss ↔ aft rs w = rs ∧ aft ss w = ss := by
    rw [aft_self, aft_self, aft_self]
    exact ⟨fun h => ⟨fun r hr => h r (List.mem_append_left _ hr), fun r hr => h r (List.mem_append_right _ hr)⟩, fun h r hr => (List.mem_append.mp hr).elim (h.1 r) (h.2 r)⟩
  rw [← Bool.decide_and]
  exact decide_eq_decide.mpr this
def spThoseL (K : PySem.W.Frag) : Sp := fun vs H Q _ => ∃ (G : Hp) (x b : Addr) (n : Int) (ms : List V) (L : List (List Int)) (rs : List Int), vs = [.ref x, .ref b] ∧ Same G H ∧ H x = some (.lst ms) ∧ DaAll G ms (L.map rowD) ∧ AllMv n L ∧ L.length ≤ 400 ∧ HasS K H b (rs.map V.int) ∧ (∀ r ∈ rs, inR n r) ∧ rs.length ≤ 24 ∧
  ∀ (p : Addr) (ys : List V) (G' H' : Hp), Stq G H G' H' → G' p = none → H p = none → H' p = some (.lst ys) → DaAll G' ys ((holdL rs L).map rowD) → Q (.ref p) H'
theorem ok_those__l (Z : Zs mg) (D : Ds K mg) (c_carry__w : Cal P w K mg base "carry" 1 ["move", "row"] (spCarryW K)) : Cal P w K mg base "those_holding" 2 ["moves", "lot"] (spThoseL K) := by
  refine Def.cal D.d_those_holding sc_those_holding (fun vs H Q E h => ?_) (fun f cdv A outer s H vs Q E hr h => ?_)
  · obtain ⟨G, x, b, n, ms, L, rs, rfl, gh, hx, h3, mvL, lL, hb, inr, lr, q⟩ := h
    rfl
  obtain ⟨G, x, b, n, ms, L, rs, rfl, gh, hx, h3, mvL, lL, hb, inr, lr, q⟩ := h
  refine ⟨_, (pss_one (ps_ret (pe_lc (own := [("move", 2)]) (g := gName 2) (by rfl) sc_those_holding.nd (pi_list (pv 0)) (blkOk_by (N := ["moves", "lot", "move"]) (sc := defScope s_those_holding) (by decide +kernel)) (fun _ _ _ _ _ => pg_name (i := 2) sc_those_holding.nd rfl (Or.inl rfl)) (fun _ _ _ _ _ => pts_one (pt_cmpR (op_eqRowK (K := K) rfl hr.units) (pe_cal c_carry__w (hr.mono (by first | decide | omega)) (by rfl) (pa_cons (pv 2) (pa_cons (pv 1) pa_nil))) (pe_callTy (call_tupleWK (K := K) rfl) (by rfl) Z.z_tuple (by decide +kernel) (pa_cons (pv 1) pa_nil)) (nomark _))) (fun _ _ _ _ _ => (pv 2))))), ?_⟩
  have lms := h3.length
  rw [List.length_map] at lms
  refine ⟨_, rfl, x, rfl, ⟨_, .of hx⟩, fun l hl => ?_⟩
  refine lc_list (xs := ms) (fun i H' => ∃ (G' : Hp) (ys : List V), Stq G H G' H' ∧ G' l = none ∧ H l = none ∧ H' l = some (.lst ys) ∧ DaAll G' ys ((holdL rs (L.take i)).map rowD)) ?_ ?_ ?_ ?_
  · obtain ⟨s2, gl, h2, fl⟩ := (Stq.refl gh).loc2 (p := l) (o := .lst []) ⟨hl, rfl⟩
    exact ⟨G, [], s2, gl, fl, h2, .nil⟩
  · rintro i H' - ⟨G', ys, s2, -⟩
    exact .of (s2.hh _ _ hx)
  · rintro i y H2 hy ⟨G2, ys, s2, gl, fl, hl2, dy⟩
    obtain ⟨e, he, de⟩ := h3.get hy
    rw [List.getElem?_map] at he
    obtain ⟨m, hm, rfl⟩ := Option.map_eq_some_iff.mp he
    obtain ⟨c, rfl, hc⟩ := rows_ref de
    have mv := mvL m (List.mem_of_getElem? hm)
    have ilt := (List.getElem?_eq_some_iff.mp hm).1
    have hb2 := HasS.up s2.hh hb
    have ly := dy.length
    rw [List.length_map] at ly
    have lh : (holdL rs (L.take i)).length ≤ 400 := by
      refine Nat.le_trans (List.length_filter_le _ _) ?_
      rw [List.length_take]
      omega
    refine ⟨rfl, _, rfl, _, rfl, G2, c, b, m, rs, n, rfl, s2.gh, s2.gg _ _ hc, hb2, mv, inr, by omega, fun p G3 H3 s3 k3 => ?_⟩
    have S3 := s2.trans s3
    have hl3 := s3.hh _ _ hl2
    have gl3 := s3.nw2 hl2 gl
    have dy3 := dy.up s3.gg
    have hb3 := HasS.up s3.hh hb2
    refine ⟨_, rfl, b, _, rfl, hb3.len, fun t H4 s4 ht => ?_⟩
    have S4 := S3.pure s4
    have hl4 := s4 _ _ hl3
    refine ⟨p, t, _, _, rfl, rfl, .of (S4.gh _ _ k3), ht, _, rfl, ite2 (fun c1 => ?_) (fun c1 => ?_)⟩
    · refine ⟨_, rfl, _, hl4, lt (by omega), G3, _, S4.mut gl3 fl rfl, gl3, fl, upd_same, ?_⟩
      rw [holdL_take hm, show holdB rs m = true from c1, List.map_append]
      exact dy3.append (.one (de.up (s2.gg.trans s3.gg)))
    · refine ⟨G3, ys, S4, gl3, fl, hl4, ?_⟩
      rw [holdL_take hm, show holdB rs m = false from Bool.eq_false_iff.mpr c1, List.map_append]
      simpa using dy3
  · rintro H2 ⟨G2, ys, s2, gl, fl, hl2, dy⟩
    rw [lms, List.take_length] at dy
    exact q l ys G2 H2 s2 gl fl hl2 dy


/-- how many moves hold the beginnings of the row -/
def cnts (rs : List Int) (L : List (List Int)) (k : Nat) : List Int := (List.range (k + 1)).map fun j => (((holdL (rs.take j) L).length : Nat) : Int)
theorem cnts_succ (rs : List Int) (L : List (List Int)) (k : Nat) : cnts rs L (k + 1) = cnts rs L k ++ [(((holdL (rs.take (k + 1)) L).length : Nat) : Int)] := by
  unfold cnts
  rw [List.range_succ, List.map_append]
  rfl
theorem cnts_len (rs : List Int) (L : List (List Int)) (k : Nat) : (cnts rs L k).length = k + 1 := by
  unfold cnts
  rw [List.length_map, List.length_range]
theorem cnts_at {rs : List Int} {L : List (List Int)} {k j : Nat} (h : j ≤ k) : (cnts rs L k)[j]? = some (((holdL (rs.take j) L).length : Nat) : Int) := by
  unfold cnts
  rw [List.getElem?_map, List.getElem?_range (by omega)]
  rfl
theorem holdL_snoc (rs : List Int) (r : Int) (L : List (List Int)) : holdL (rs ++ [r]) L = holdL [r] (holdL rs L) := by
  rw [← holdL_app]
  exact holdL_congr fun x => by rw [List.mem_append, List.mem_append]; exact Or.comm
def spCounts (K : PySem.W.Frag) (C DP DT : Addr) : Sp := fun vs H Q E => ∃ (G : Hp) (x a : Addr) (n : Int) (T L : List (List Int)) (xs : List V) (ds : List PyData), vs = [.ref x, .ref a] ∧ Same G H ∧ WAt C G x n T L ∧ WOk n T L ∧ HasS K H a xs ∧ DaAll G xs ds ∧
  RowJ n xs ds DP DT E H fun rs => ∀ (p : Addr) (G' H' : Hp), Stq G H G' H' → G' p = none → H p = none → H' p = some (.lst ((cnts rs L rs.length).map V.int)) → Q (.ref p) H'
theorem ok_holder_counts {CW DP DT : Addr} (Z : Zs mg) (D : Ds K mg) (W : Dw K mg CW) (c_World_points : CalP P w K mg base CW "points" 1 ["self"] (spPoints CW)) (c_World_made : CalP P w K mg base CW "made" 1 ["self"] (spMade CW)) (c_check_row : CalX P w K mg base "check_row" 4 ["points", "row"] (spCheckRow K DP DT)) (c_those_holding__l : Cal P w K mg base "those_holding" 2 ["moves", "lot"] (spThoseL K)) : CalX P w K mg base "holder_counts" 5 ["world", "row"] (spCounts K CW DP DT) := by
  refine Def.calX D.d_holder_counts sc_holder_counts (fun vs H Q E h => ?_) (fun f cdv A outer s H vs Q E hr h => ?_)
  · obtain ⟨G, x, a, n, T, L, xs, ds, rfl, gh, wat, ok, hl, dx, q1, q2, q3⟩ := h
    rfl
  obtain ⟨G, x, a, n, T, L, xs, ds, rfl, gh, wat, ok, hl, dx, q1, q2, q3⟩ := h
  refine ⟨_, (pss_cons (ps_expr (pe_calX c_check_row (L2N.takes_of rfl rfl rfl rfl) (hr.mono (by first | decide | omega)) (by rfl) (pa_cons (pe_propQ W.wc c_World_points (hr.mono (by first | decide | omega)) (pv 0)) (pa_cons (pv 1) pa_nil))))
      (pss_cons (ps_set (i := 2) sc_holder_counts.nd rfl (Or.inl rfl) (pe_propQ W.wc c_World_made (hr.mono (by first | decide | omega)) (pv 0)))
      (pss_cons (ps_set (i := 3) sc_holder_counts.nd rfl (Or.inl rfl) (pe_lstN (pa_cons (pe_callB call_len_seq (by rfl) Z.z_len (by decide +kernel) (pa_cons (pv 2) pa_nil)) pa_nil)))
      (pss_cons (ps_for (passes_of rfl) rfl (pi_or (pi_list (pv 1)) (pi_tup (pv 1))) (pg_name (i := 4) sc_holder_counts.nd rfl (Or.inl rfl)) (pss_cons (ps_set (i := 2) sc_holder_counts.nd rfl (Or.inl rfl) (pe_cal c_those_holding__l (hr.mono (by first | decide | omega)) (by rfl) (pa_cons (pv 2) (pa_cons (pe_tupN (pa_cons (pv 4) pa_nil)) pa_nil))))
      (pss_one (ps_expr (pe_bm PySem.F.plainAttrs_list PySem.F.slot_list_append PySem.F.type_list_append mt_appendN (pv 3) (pa_cons (pe_callB call_len_seq (by rfl) Z.z_len (by decide +kernel) (pa_cons (pv 2) pa_nil)) pa_nil))))))
      (pss_one (ps_ret (pv 3))))))), ?_⟩
  obtain ⟨dx0, ml, tl, ms, ts, h1, h2, h3, h4, h5⟩ := id wat
  refine ⟨_, rfl, x, dx0, _, rfl, gh _ _ h1, G, x, n, T, L, rfl, gh, wat, _, rfl, G, a, xs, ds, n, rfl, gh, hl, dx, q1, q2, fun l24 rs e inr H1 s1 => ?_⟩
  have q := q3 l24 rs e inr
  subst e
  obtain rfl := vals_int dx
  rw [List.length_map] at l24
  have S1 := (Stq.refl gh).pure s1
  have mvL : AllMv n L := fun w hw => made_mv ok.n0 ok.mv ((ok.grp.mem w).mp hw)
  have lL := ok.lL
  refine ⟨_, rfl, x, dx0, _, rfl, S1.gh _ _ h1, G, x, n, T, L, rfl, S1.gh, wat, fun lp ms0 H2 dm n2 => ?_⟩
  obtain ⟨S2, glp, hlp, flp⟩ := S1.loc2 n2
  have lms := dm.length
  rw [List.length_map] at lms
  refine ⟨_, rfl, lp, _, rfl, .inl (.of hlp), by show 1 ≤ sizeLine; decide, fun cp H3 n3 => ?_⟩
  obtain ⟨S3, gcp, hcp, fcp⟩ := S2.loc2 n3
  have hlp3 := n3.else hlp
  have e0 : holdL (rs.take 0) L = L := List.filter_eq_self.mpr fun w _ => rfl
  rcases hl with (hl | hl) | hl
  · refine .inl ⟨_, rfl, a, rfl, ⟨_, .of (S3.hh _ _ hl)⟩, for_list (K := K) (a := a) (xs := rs.map V.int) (fun i σ' H' => ∃ (G' : Hp) (lq : Addr) (ys : List V) (y4 : Option V), σ' = [some (.ref x), some (.ref a), some (.ref lq), some (.ref cp), y4] ∧ Stq G H G' H' ∧ G' cp = none ∧ H' cp = some (.lst ((cnts rs L i).map V.int)) ∧ H' lq = some (.lst ys) ∧ DaAll G' ys ((holdL (rs.take i) L).map rowD)) ?_ ?_ ?_ ?_⟩
    · refine ⟨G, lp, ms0, none, rfl, S3, gcp, ?_, hlp3, ?_⟩
      · rw [hcp, lms]
        show some (HO.lst [V.int _]) = some (HO.lst [V.int (((holdL (rs.take 0) L).length : Nat) : Int)])
        rw [e0]
      · rw [e0]
        exact dm
    · rintro i σ' H4 - ⟨G4, lq, ys, y4, rfl, S4, -⟩
      exact .of (S4.hh _ _ hl)
    · rintro i v σ' H4 hv ⟨G4, lq, ys, y4, rfl, S4, g4, h4', hq, dy⟩
      rw [List.getElem?_map] at hv
      obtain ⟨r, hr, rfl⟩ := Option.map_eq_some_iff.mp hv
      have rin := inr r (List.mem_of_getElem? hr)
      have ilt := (List.getElem?_eq_some_iff.mp hr).1
      have ly := dy.length
      rw [List.length_map] at ly
      have lh := holdL_len (rs := rs.take i) (L := L)
      refine ⟨_, rfl, _, rfl, by show 1 ≤ sizeLine; decide, fun tp H5 n5 => ?_⟩
      obtain ⟨G5, S5, g5, k5, o5⟩ := S4.know2 n5
      have hc5 := n5.else h4'
      have gc5 : G5 cp = none := by rw [o5 cp (n5.ne (ne_none h4'))]; exact g4
      refine ⟨G5, lq, tp, n, ys, holdL (rs.take i) L, [r], rfl, S5.gh, n5.else hq, dy.up g5, fun w hw => mvL w (holdL_sub hw), by omega, .inl (.inr (S5.gh _ _ k5)), fun r' h' => ?_, by show 1 ≤ 24; decide, fun lz zs G6 H6 s6 gz fz hz dz => ?_⟩
      · rw [List.mem_singleton.mp h']
        exact rin
      have S6 := S5.trans s6
      have hc6 := s6.hh _ _ hc5
      have gc6 := s6.nw2 hc5 gc5
      have lz' := dz.length
      rw [List.length_map] at lz'
      have st : holdL (rs.take (i + 1)) L = holdL [r] (holdL (rs.take i) L) := by
        rw [List.take_add_one, hr]
        exact holdL_snoc _ _ _
      refine ⟨_, rfl, .inl ⟨rfl, _, .of hc6⟩, _, rfl, lz, _, rfl, .inl (.of hz), cp, _, _, rfl, rfl, hc6, ?_, fun H7 e7 => ⟨G6, lz, zs, _, rfl, S6.mut gc6 fcp e7, gc6, ?_, ?_, ?_⟩⟩
      · rw [List.length_map, cnts_len]
        exact Hd.lt (by omega)
      · rw [e7, upd_same, cnts_succ, List.map_append, st, lz']
        rfl
      · rw [e7, upd_ne (fun e => by rw [e, hc5] at fz; cases fz)]
        exact hz
      · rw [st]
        exact dz
    · rintro σ' H4 ⟨G4, lq, ys, y4, rfl, S4, g4, h4', hq, dy⟩
      rw [List.length_map] at h4'
      exact ⟨_, rfl, q cp G4 H4 S4 g4 fcp h4'⟩
  · refine .inr ⟨_, rfl, a, rfl, ⟨_, .of (S3.hh _ _ hl)⟩, for_tup (K := K) (a := a) (xs := rs.map V.int) (fun i σ' H' => ∃ (G' : Hp) (lq : Addr) (ys : List V) (y4 : Option V), σ' = [some (.ref x), some (.ref a), some (.ref lq), some (.ref cp), y4] ∧ Stq G H G' H' ∧ G' cp = none ∧ H' cp = some (.lst ((cnts rs L i).map V.int)) ∧ H' lq = some (.lst ys) ∧ DaAll G' ys ((holdL (rs.take i) L).map rowD)) ?_ ?_ ?_ ?_⟩
    · refine ⟨G, lp, ms0, none, rfl, S3, gcp, ?_, hlp3, ?_⟩
      · rw [hcp, lms]
        show some (HO.lst [V.int _]) = some (HO.lst [V.int (((holdL (rs.take 0) L).length : Nat) : Int)])
        rw [e0]
      · rw [e0]
        exact dm
    · rintro i σ' H4 - ⟨G4, lq, ys, y4, rfl, S4, -⟩
      exact .of (S4.hh _ _ hl)
    · rintro i v σ' H4 hv ⟨G4, lq, ys, y4, rfl, S4, g4, h4', hq, dy⟩
      rw [List.getElem?_map] at hv
      obtain ⟨r, hr, rfl⟩ := Option.map_eq_some_iff.mp hv
      have rin := inr r (List.mem_of_getElem? hr)
      have ilt := (List.getElem?_eq_some_iff.mp hr).1
      have ly := dy.length
      rw [List.length_map] at ly
      have lh := holdL_len (rs := rs.take i) (L := L)
      refine ⟨_, rfl, _, rfl, by show 1 ≤ sizeLine; decide, fun tp H5 n5 => ?_⟩
      obtain ⟨G5, S5, g5, k5, o5⟩ := S4.know2 n5
      have hc5 := n5.else h4'
      have gc5 : G5 cp = none := by rw [o5 cp (n5.ne (ne_none h4'))]; exact g4
      refine ⟨G5, lq, tp, n, ys, holdL (rs.take i) L, [r], rfl, S5.gh, n5.else hq, dy.up g5, fun w hw => mvL w (holdL_sub hw), by omega, .inl (.inr (S5.gh _ _ k5)), fun r' h' => ?_, by show 1 ≤ 24; decide, fun lz zs G6 H6 s6 gz fz hz dz => ?_⟩
      · rw [List.mem_singleton.mp h']
        exact rin
      have S6 := S5.trans s6
      have hc6 := s6.hh _ _ hc5
      have gc6 := s6.nw2 hc5 gc5
      have lz' := dz.length
      rw [List.length_map] at lz'
      have st : holdL (rs.take (i + 1)) L = holdL [r] (holdL (rs.take i) L) := by
        rw [List.take_add_one, hr]
        exact holdL_snoc _ _ _
      refine ⟨_, rfl, .inl ⟨rfl, _, .of hc6⟩, _, rfl, lz, _, rfl, .inl (.of hz), cp, _, _, rfl, rfl, hc6, ?_, fun H7 e7 => ⟨G6, lz, zs, _, rfl, S6.mut gc6 fcp e7, gc6, ?_, ?_, ?_⟩⟩
      · rw [List.length_map, cnts_len]
        exact Hd.lt (by omega)
      · rw [e7, upd_same, cnts_succ, List.map_append, st, lz']
        rfl
      · rw [e7, upd_ne (fun e => by rw [e, hc5] at fz; cases fz)]
        exact hz
      · rw [st]
        exact dz
    · rintro σ' H4 ⟨G4, lq, ys, y4, rfl, S4, g4, h4', hq, dy⟩
      rw [List.length_map] at h4'
      exact ⟨_, rfl, q cp G4 H4 S4 g4 fcp h4'⟩
  · refine .inr ⟨_, rfl, a, rfl, ⟨_, .inr hl⟩, for_tup (K := K) (a := a) (xs := rs.map V.int) (fun i σ' H' => ∃ (G' : Hp) (lq : Addr) (ys : List V) (y4 : Option V), σ' = [some (.ref x), some (.ref a), some (.ref lq), some (.ref cp), y4] ∧ Stq G H G' H' ∧ G' cp = none ∧ H' cp = some (.lst ((cnts rs L i).map V.int)) ∧ H' lq = some (.lst ys) ∧ DaAll G' ys ((holdL (rs.take i) L).map rowD)) ?_ ?_ ?_ ?_⟩
    · refine ⟨G, lp, ms0, none, rfl, S3, gcp, ?_, hlp3, ?_⟩
      · rw [hcp, lms]
        show some (HO.lst [V.int _]) = some (HO.lst [V.int (((holdL (rs.take 0) L).length : Nat) : Int)])
        rw [e0]
      · rw [e0]
        exact dm
    · rintro i σ' H4 - ⟨G4, lq, ys, y4, rfl, S4, -⟩
      exact .inr hl
    · rintro i v σ' H4 hv ⟨G4, lq, ys, y4, rfl, S4, g4, h4', hq, dy⟩
      rw [List.getElem?_map] at hv
      obtain ⟨r, hr, rfl⟩ := Option.map_eq_some_iff.mp hv
      have rin := inr r (List.mem_of_getElem? hr)
      have ilt := (List.getElem?_eq_some_iff.mp hr).1
      have ly := dy.length
      rw [List.length_map] at ly
      have lh := holdL_len (rs := rs.take i) (L := L)
      refine ⟨_, rfl, _, rfl, by show 1 ≤ sizeLine; decide, fun tp H5 n5 => ?_⟩
      obtain ⟨G5, S5, g5, k5, o5⟩ := S4.know2 n5
      have hc5 := n5.else h4'
      have gc5 : G5 cp = none := by rw [o5 cp (n5.ne (ne_none h4'))]; exact g4
      refine ⟨G5, lq, tp, n, ys, holdL (rs.take i) L, [r], rfl, S5.gh, n5.else hq, dy.up g5, fun w hw => mvL w (holdL_sub hw), by omega, .inl (.inr (S5.gh _ _ k5)), fun r' h' => ?_, by show 1 ≤ 24; decide, fun lz zs G6 H6 s6 gz fz hz dz => ?_⟩
      · rw [List.mem_singleton.mp h']
        exact rin
      have S6 := S5.trans s6
      have hc6 := s6.hh _ _ hc5
      have gc6 := s6.nw2 hc5 gc5
      have lz' := dz.length
      rw [List.length_map] at lz'
      have st : holdL (rs.take (i + 1)) L = holdL [r] (holdL (rs.take i) L) := by
        rw [List.take_add_one, hr]
        exact holdL_snoc _ _ _
      refine ⟨_, rfl, .inl ⟨rfl, _, .of hc6⟩, _, rfl, lz, _, rfl, .inl (.of hz), cp, _, _, rfl, rfl, hc6, ?_, fun H7 e7 => ⟨G6, lz, zs, _, rfl, S6.mut gc6 fcp e7, gc6, ?_, ?_, ?_⟩⟩
      · rw [List.length_map, cnts_len]
        exact Hd.lt (by omega)
      · rw [e7, upd_same, cnts_succ, List.map_append, st, lz']
        rfl
      · rw [e7, upd_ne (fun e => by rw [e, hc5] at fz; cases fz)]
        exact hz
      · rw [st]
        exact dz
    · rintro σ' H4 ⟨G4, lq, ys, y4, rfl, S4, g4, h4', hq, dy⟩
      rw [List.length_map] at h4'
      exact ⟨_, rfl, q cp G4 H4 S4 g4 fcp h4'⟩


/-! ### orbits and their sizes -/
theorem holdL_one (pt : Int) (L : List (List Int)) : holdL [pt] L = L.filter fun m => decide (stp m pt = pt) := by
  refine List.filter_congr fun w _ => ?_
  unfold holdB
  exact decide_eq_decide.mpr ((aft_self (rs := [pt])).trans ⟨fun h => h pt List.mem_cons_self, fun h r hr => by rw [List.mem_singleton.mp hr]; exact h⟩)
/-- the points to which the moves of M carry pt, ascending -/
def IsOrb (M : List (List Int)) (pt : Int) (os : List Int) : Prop := os.Pairwise (· < ·) ∧ ∀ k, k ∈ os ↔ ∃ m ∈ M, stp m pt = k
theorem IsOrb.uniq {M : List (List Int)} {pt : Int} {os us : List Int} (a : IsOrb M pt os) (b : IsOrb M pt us) : os = us := rise_eq a.1 b.1 fun k => (a.2 k).trans (b.2 k).symm
/-- moves closed under composing and undoing -/
structure Clo (n : Int) (M : List (List Int)) : Prop where
  mv : AllMv n M
  nd : M.Nodup
  comp : ∀ a ∈ M, ∀ b ∈ M, aft a b ∈ M
  undo : ∀ a ∈ M, ∃ u ∈ M, aft a u = rngI n ∧ aft u a = rngI n
theorem Clo.hold {n : Int} {M : List (List Int)} (c : Clo n M) {pt : Int} (hp : inR n pt) : Clo n (holdL [pt] M) := by
  have mem : ∀ m, m ∈ holdL [pt] M ↔ m ∈ M ∧ stp m pt = pt := fun m => by
    rw [holdL_one, List.mem_filter, decide_eq_true_eq]
  refine ⟨fun m hm => c.mv m ((mem m).mp hm).1, List.Pairwise.filter _ c.nd, fun a ha b hb => ?_, fun a ha => ?_⟩
  · obtain ⟨a1, a2⟩ := (mem a).mp ha
    obtain ⟨b1, b2⟩ := (mem b).mp hb
    refine (mem _).mpr ⟨c.comp a a1 b b1, ?_⟩
    rw [stp_aft (c.mv a a1) hp, a2, b2]
  · obtain ⟨a1, a2⟩ := (mem a).mp ha
    obtain ⟨u, hu, e1, e2⟩ := c.undo a a1
    refine ⟨u, (mem u).mpr ⟨hu, ?_⟩, e1, e2⟩
    have z := stp_aft (ms := u) (c.mv a a1) hp
    rw [e1, stp_rng hp, a2] at z
    exact z.symm
theorem Clo.holds {n : Int} {M : List (List Int)} (c : Clo n M) : ∀ {rs : List Int}, (∀ r ∈ rs, inR n r) → Clo n (holdL rs M) := by
  intro rs
  induction rs with
  | nil =>
    intro _
    rw [show holdL [] M = M from List.filter_eq_self.mpr fun w _ => rfl]
    exact c
  | cons r rs ih =>
    intro h
    have e : holdL (r :: rs) M = holdL [r] (holdL rs M) := holdL_app (rs := [r]) (ss := rs)
    rw [e]
    exact (ih fun x hx => h x (List.mem_cons_of_mem _ hx)).hold (h r List.mem_cons_self)
theorem Errs.upS {E : XK} {C : Addr} {fs : List (Str × V)} {H H' : Hp} (s : Same H H') (e : Errs E C fs H) : Errs E C fs H' := fun d H2 s2 h => e d H2 (s.trans s2) h
theorem filter_take {α : Type} {p : α → Bool} {L : List α} {i : Nat} {m : α} (h : L[i]? = some m) : (L.take (i + 1)).filter p = (L.take i).filter p ++ (if p m then [m] else []) := by
  rw [List.take_add_one, h, List.filter_append]
  show _ ++ [m].filter p = _
  congr 1
  cases e : p m with
  | true => rw [List.filter_cons_of_pos e]; rfl
  | false => rw [List.filter_cons_of_neg (by rw [e]; exact Bool.false_ne_true)]; rfl
theorem holdL_step {rs : List Int} {r : Int} {i : Nat} (h : rs[i]? = some r) (L : List (List Int)) : holdL (rs.take (i + 1)) L = (holdL (rs.take i) L).filter fun m => decide (stp m r = r) := by
  rw [List.take_add_one, h]
  show holdL (rs.take i ++ [r]) L = _
  rw [← holdL_one, ← holdL_app]
  exact holdL_congr fun x => by rw [List.mem_append, List.mem_append]; exact Or.comm
theorem holdL_nil (L : List (List Int)) : holdL [] L = L := List.filter_eq_self.mpr fun w _ => rfl
def spHoldersOf (K : PySem.W.Frag) : Sp := fun vs H Q _ => ∃ (G : Hp) (m b : Addr) (n : Int) (ms : List V) (L : List (List Int)) (rs : List Int), vs = [.ref m, .ref b] ∧ Same G H ∧ G m = some (.lst ms) ∧ DaAll G ms (L.map rowD) ∧ AllMv n L ∧ L.length ≤ 1000 ∧ HasS K H b (rs.map V.int) ∧ (∀ r ∈ rs, inR n r) ∧
  ∀ (p : Addr) (ys : List V) (H' : Hp), Stq G H G H' → G p = none → H p = none → H' p = some (.lst ys) → DaAll G ys ((holdL rs L).map rowD) → Q (.ref p) H'
theorem ok_law_holders (Z : Zs mg) (D : Ds K mg) : Cal P w K mg base "_law_holders" 1 ["made", "row"] (spHoldersOf K) := by
  refine Def.cal D.d_law_holders sc_law_holders (fun vs H Q E h => ?_) (fun f cdv A outer s H vs Q E hr h => ?_)
  · obtain ⟨G, m, b, n, ms, L, rs, rfl, gh, gm, dm, mvL, lL, hb, inr, q⟩ := h
    rfl
  obtain ⟨G, m, b, n, ms, L, rs, rfl, gh, gm, dm, mvL, lL, hb, inr, q⟩ := h
  refine ⟨_, (pss_cons (ps_set (i := 2) sc_law_holders.nd rfl (Or.inl rfl) (pv 0))
      (pss_cons (ps_for PassesOwn.never rfl (pi_or (pi_list (pv 1)) (pi_tup (pv 1))) (pg_name (i := 3) sc_law_holders.nd rfl (Or.inr rfl)) (pss_one (ps_setLc (i := 2) (own := [("move", 4)]) (g := gName 4) (by rfl) sc_law_holders.nd rfl rfl (sw_true rfl rfl rfl (by decide +kernel)) (pi_list (pv 2)) (blkOk_by (N := ["made", "row", "left", "p", "move"]) (sc := defScope s_law_holders) (by decide +kernel)) (fun _ _ _ _ _ => pg_name (i := 4) sc_law_holders.nd rfl (Or.inl rfl)) (fun _ _ _ _ _ => pts_one (pt_cmp (pc_eqI (pe_ix (ix_tupK (K := K) rfl) (pv 4) (pv 3) (fun _ _ => rfl)) (pv 3)) (nomark _))) (fun _ _ _ _ _ => (pv 4)))))
      (pss_one (ps_ret (pe_callTy call_listN (by rfl) Z.z_list (by decide +kernel) (pa_cons (pv 2) pa_nil)))))), ?_⟩
  refine ⟨_, rfl, ?_⟩
  rcases hb with (hb | hb) | hb
  · refine .inl ⟨_, rfl, b, rfl, ⟨_, .of (hb)⟩, for_list (K := K) (a := b) (xs := rs.map V.int) (fun i σ' H' => ∃ (lq : Addr) (ys : List V) (y3 : Option V), σ' = [some (.ref m), some (.ref b), some (.ref lq), y3, none] ∧ Stq G H G H' ∧ H' lq = some (.lst ys) ∧ DaAll G ys ((holdL (rs.take i) L).map rowD)) ?_ ?_ ?_ ?_⟩
    · exact ⟨m, ms, none, rfl, Stq.refl gh, gh _ _ gm, by rw [List.take_zero, holdL_nil]; exact dm⟩
    · rintro i σ' H' - ⟨lq, ys, y3, rfl, s2, -⟩
      exact .of (s2.hh _ _ hb)
    · rintro i x σ' H2 hx ⟨lq, ys, y3, rfl, s2, h2, dy⟩
      obtain ⟨r, hr, rfl⟩ := map_at hx
      have ir := inr r (List.mem_of_getElem? hr)
      have ly := dy.length
      rw [List.length_map] at ly
      have lh := holdL_len (rs := rs.take i) (L := L)
      refine ⟨_, rfl, lq, rfl, ⟨_, .of h2⟩, fun z hz => ?_⟩
      refine lc_list (xs := ys) (fun j H' => ∃ zs : List V, Stq G H G H' ∧ H' lq = some (.lst ys) ∧ H' z = some (.lst zs) ∧ H2 z = none ∧ G z = none ∧ H z = none ∧ DaAll G zs ((((holdL (rs.take i) L).take j).filter fun w => decide (stp w r = r)).map rowD)) ?_ ?_ ?_ ?_
      · obtain ⟨s3, gz, h3, fz⟩ := s2.loc2 (p := z) (o := .lst []) ⟨hz, rfl⟩
        exact ⟨[], s3, by rw [upd_ne (fun e => by rw [e, hz] at h2; cases h2)]; exact h2, h3, hz, gz, fz, .nil⟩
      · rintro j H' - ⟨zs, s3, h3, -⟩
        exact .of h3
      · rintro j y H3 hy ⟨zs, s3, h3, hz3, fz, gz, fH, dz⟩
        obtain ⟨e, he, de⟩ := dy.get hy
        rw [List.getElem?_map] at he
        obtain ⟨w, hw, rfl⟩ := Option.map_eq_some_iff.mp he
        obtain ⟨c, rfl, hc⟩ := rows_ref de
        have mv := mvL w (holdL_sub (List.mem_of_getElem? hw))
        obtain ⟨y, e1, e2, -⟩ := atI_ints (ns := w) ir.1 (by have := mv.len; have := ir.2; omega)
        have ez : y = stp w r := Option.some.inj (e1.symm.trans (stp_at mv ir).1)
        subst ez
        have lz := dz.length
        rw [List.length_map] at lz
        have lf := List.length_filter_le (fun w => decide (stp w r = r)) ((holdL (rs.take i) L).take j)
        have lt : ((holdL (rs.take i) L).take j).length ≤ (holdL (rs.take i) L).length := by rw [List.length_take]; omega
        refine ⟨rfl, _, rfl, _, rfl, c, _, _, _, rfl, rfl, .of (s3.gh _ _ hc), e2, _, rfl, _, _, rfl, rfl, _, rfl, ite2 (fun c1 => ?_) (fun c1 => ?_)⟩
        · refine ⟨_, rfl, _, hz3, Hd.lt (by omega), _, s3.mut gz fH rfl, ?_, upd_same, fz, gz, fH, ?_⟩
          · rw [upd_ne (fun e => by rw [e, fz] at h2; cases h2)]
            exact h3
          · rw [filter_take hw, if_pos c1, List.map_append]
            exact dz.append (.one de)
        · refine ⟨zs, s3, h3, hz3, fz, gz, fH, ?_⟩
          rw [filter_take hw, if_neg c1, List.append_nil]
          exact dz
      · rintro H3 ⟨zs, s3, h3, hz3, fz, gz, fH, dz⟩
        rw [ly, List.take_length, ← holdL_step hr] at dz
        exact ⟨z, zs, _, rfl, s3, hz3, dz⟩
    · rintro σ' H2 ⟨lq, ys, y3, rfl, s2, h2, dy⟩
      rw [List.length_map, List.take_length] at dy
      refine ⟨_, rfl, lq, ys, rfl, .inl (.of h2), fun p H3 n3 => ?_⟩
      obtain ⟨s3, gp, hp, fp⟩ := s2.loc2 n3
      exact q p ys H3 s3 gp fp hp dy
  · refine .inr ⟨_, rfl, b, rfl, ⟨_, .of (hb)⟩, for_tup (K := K) (a := b) (xs := rs.map V.int) (fun i σ' H' => ∃ (lq : Addr) (ys : List V) (y3 : Option V), σ' = [some (.ref m), some (.ref b), some (.ref lq), y3, none] ∧ Stq G H G H' ∧ H' lq = some (.lst ys) ∧ DaAll G ys ((holdL (rs.take i) L).map rowD)) ?_ ?_ ?_ ?_⟩
    · exact ⟨m, ms, none, rfl, Stq.refl gh, gh _ _ gm, by rw [List.take_zero, holdL_nil]; exact dm⟩
    · rintro i σ' H' - ⟨lq, ys, y3, rfl, s2, -⟩
      exact .of (s2.hh _ _ hb)
    · rintro i x σ' H2 hx ⟨lq, ys, y3, rfl, s2, h2, dy⟩
      obtain ⟨r, hr, rfl⟩ := map_at hx
      have ir := inr r (List.mem_of_getElem? hr)
      have ly := dy.length
      rw [List.length_map] at ly
      have lh := holdL_len (rs := rs.take i) (L := L)
      refine ⟨_, rfl, lq, rfl, ⟨_, .of h2⟩, fun z hz => ?_⟩
      refine lc_list (xs := ys) (fun j H' => ∃ zs : List V, Stq G H G H' ∧ H' lq = some (.lst ys) ∧ H' z = some (.lst zs) ∧ H2 z = none ∧ G z = none ∧ H z = none ∧ DaAll G zs ((((holdL (rs.take i) L).take j).filter fun w => decide (stp w r = r)).map rowD)) ?_ ?_ ?_ ?_
      · obtain ⟨s3, gz, h3, fz⟩ := s2.loc2 (p := z) (o := .lst []) ⟨hz, rfl⟩
        exact ⟨[], s3, by rw [upd_ne (fun e => by rw [e, hz] at h2; cases h2)]; exact h2, h3, hz, gz, fz, .nil⟩
      · rintro j H' - ⟨zs, s3, h3, -⟩
        exact .of h3
      · rintro j y H3 hy ⟨zs, s3, h3, hz3, fz, gz, fH, dz⟩
        obtain ⟨e, he, de⟩ := dy.get hy
        rw [List.getElem?_map] at he
        obtain ⟨w, hw, rfl⟩ := Option.map_eq_some_iff.mp he
        obtain ⟨c, rfl, hc⟩ := rows_ref de
        have mv := mvL w (holdL_sub (List.mem_of_getElem? hw))
        obtain ⟨y, e1, e2, -⟩ := atI_ints (ns := w) ir.1 (by have := mv.len; have := ir.2; omega)
        have ez : y = stp w r := Option.some.inj (e1.symm.trans (stp_at mv ir).1)
        subst ez
        have lz := dz.length
        rw [List.length_map] at lz
        have lf := List.length_filter_le (fun w => decide (stp w r = r)) ((holdL (rs.take i) L).take j)
        have lt : ((holdL (rs.take i) L).take j).length ≤ (holdL (rs.take i) L).length := by rw [List.length_take]; omega
        refine ⟨rfl, _, rfl, _, rfl, c, _, _, _, rfl, rfl, .of (s3.gh _ _ hc), e2, _, rfl, _, _, rfl, rfl, _, rfl, ite2 (fun c1 => ?_) (fun c1 => ?_)⟩
        · refine ⟨_, rfl, _, hz3, Hd.lt (by omega), _, s3.mut gz fH rfl, ?_, upd_same, fz, gz, fH, ?_⟩
          · rw [upd_ne (fun e => by rw [e, fz] at h2; cases h2)]
            exact h3
          · rw [filter_take hw, if_pos c1, List.map_append]
            exact dz.append (.one de)
        · refine ⟨zs, s3, h3, hz3, fz, gz, fH, ?_⟩
          rw [filter_take hw, if_neg c1, List.append_nil]
          exact dz
      · rintro H3 ⟨zs, s3, h3, hz3, fz, gz, fH, dz⟩
        rw [ly, List.take_length, ← holdL_step hr] at dz
        exact ⟨z, zs, _, rfl, s3, hz3, dz⟩
    · rintro σ' H2 ⟨lq, ys, y3, rfl, s2, h2, dy⟩
      rw [List.length_map, List.take_length] at dy
      refine ⟨_, rfl, lq, ys, rfl, .inl (.of h2), fun p H3 n3 => ?_⟩
      obtain ⟨s3, gp, hp, fp⟩ := s2.loc2 n3
      exact q p ys H3 s3 gp fp hp dy
  · refine .inr ⟨_, rfl, b, rfl, ⟨_, .inr hb⟩, for_tup (K := K) (a := b) (xs := rs.map V.int) (fun i σ' H' => ∃ (lq : Addr) (ys : List V) (y3 : Option V), σ' = [some (.ref m), some (.ref b), some (.ref lq), y3, none] ∧ Stq G H G H' ∧ H' lq = some (.lst ys) ∧ DaAll G ys ((holdL (rs.take i) L).map rowD)) ?_ ?_ ?_ ?_⟩
    · exact ⟨m, ms, none, rfl, Stq.refl gh, gh _ _ gm, by rw [List.take_zero, holdL_nil]; exact dm⟩
    · rintro i σ' H' - ⟨lq, ys, y3, rfl, s2, -⟩
      exact .inr hb
    · rintro i x σ' H2 hx ⟨lq, ys, y3, rfl, s2, h2, dy⟩
      obtain ⟨r, hr, rfl⟩ := map_at hx
      have ir := inr r (List.mem_of_getElem? hr)
      have ly := dy.length
      rw [List.length_map] at ly
      have lh := holdL_len (rs := rs.take i) (L := L)
      refine ⟨_, rfl, lq, rfl, ⟨_, .of h2⟩, fun z hz => ?_⟩
      refine lc_list (xs := ys) (fun j H' => ∃ zs : List V, Stq G H G H' ∧ H' lq = some (.lst ys) ∧ H' z = some (.lst zs) ∧ H2 z = none ∧ G z = none ∧ H z = none ∧ DaAll G zs ((((holdL (rs.take i) L).take j).filter fun w => decide (stp w r = r)).map rowD)) ?_ ?_ ?_ ?_
      · obtain ⟨s3, gz, h3, fz⟩ := s2.loc2 (p := z) (o := .lst []) ⟨hz, rfl⟩
        exact ⟨[], s3, by rw [upd_ne (fun e => by rw [e, hz] at h2; cases h2)]; exact h2, h3, hz, gz, fz, .nil⟩
      · rintro j H' - ⟨zs, s3, h3, -⟩
        exact .of h3
      · rintro j y H3 hy ⟨zs, s3, h3, hz3, fz, gz, fH, dz⟩
        obtain ⟨e, he, de⟩ := dy.get hy
        rw [List.getElem?_map] at he
        obtain ⟨w, hw, rfl⟩ := Option.map_eq_some_iff.mp he
        obtain ⟨c, rfl, hc⟩ := rows_ref de
        have mv := mvL w (holdL_sub (List.mem_of_getElem? hw))
        obtain ⟨y, e1, e2, -⟩ := atI_ints (ns := w) ir.1 (by have := mv.len; have := ir.2; omega)
        have ez : y = stp w r := Option.some.inj (e1.symm.trans (stp_at mv ir).1)
        subst ez
        have lz := dz.length
        rw [List.length_map] at lz
        have lf := List.length_filter_le (fun w => decide (stp w r = r)) ((holdL (rs.take i) L).take j)
        have lt : ((holdL (rs.take i) L).take j).length ≤ (holdL (rs.take i) L).length := by rw [List.length_take]; omega
        refine ⟨rfl, _, rfl, _, rfl, c, _, _, _, rfl, rfl, .of (s3.gh _ _ hc), e2, _, rfl, _, _, rfl, rfl, _, rfl, ite2 (fun c1 => ?_) (fun c1 => ?_)⟩
        · refine ⟨_, rfl, _, hz3, Hd.lt (by omega), _, s3.mut gz fH rfl, ?_, upd_same, fz, gz, fH, ?_⟩
          · rw [upd_ne (fun e => by rw [e, fz] at h2; cases h2)]
            exact h3
          · rw [filter_take hw, if_pos c1, List.map_append]
            exact dz.append (.one de)
        · refine ⟨zs, s3, h3, hz3, fz, gz, fH, ?_⟩
          rw [filter_take hw, if_neg c1, List.append_nil]
          exact dz
      · rintro H3 ⟨zs, s3, h3, hz3, fz, gz, fH, dz⟩
        rw [ly, List.take_length, ← holdL_step hr] at dz
        exact ⟨z, zs, _, rfl, s3, hz3, dz⟩
    · rintro σ' H2 ⟨lq, ys, y3, rfl, s2, h2, dy⟩
      rw [List.length_map, List.take_length] at dy
      refine ⟨_, rfl, lq, ys, rfl, .inl (.of h2), fun p H3 n3 => ?_⟩
      obtain ⟨s3, gp, hp, fp⟩ := s2.loc2 n3
      exact q p ys H3 s3 gp fp hp dy


/-- a row that is drawn so that each point is moved by a holder of those in front -/
def Tgt (n : Int) (rs : List Int) (L : List (List Int)) : Prop := (∀ r ∈ rs, inR n r) ∧ 2 ^ rs.length * (holdL rs L).length ≤ L.length
theorem hold_still {n : Int} {T L : List (List Int)} (ok : WOk n T L) {rs : List Int} (inr : ∀ r ∈ rs, inR n r) : rngI n ∈ holdL rs L := (List.mem_filter (p := holdB rs)).mpr ⟨ok.grp.still, decide_eq_true (aft_rng (n := n) inr)⟩
theorem Tgt.len {n : Int} {T L : List (List Int)} (ok : WOk n T L) {rs : List Int} (t : Tgt n rs L) : rs.length ≤ 8 := by
  have h1 := t.2
  have h2 : 1 ≤ (holdL rs L).length := List.length_pos_of_mem (hold_still ok t.1)
  have h3 := ok.lL
  rcases Nat.lt_or_ge rs.length 9 with h | h
  · omega
  · have := Nat.pow_le_pow_right (show 2 > 0 by decide) h
    have := Nat.mul_le_mul this h2
    omega
/-- a list of dicts whose keys are the marks -/
def Lots (G : Hp) (p : Addr) (Ms : List (List Int)) : Prop := ∃ xs : List V, G p = some (.lst xs) ∧ xs.length = Ms.length ∧ ∀ (i : Nat) (K : List Int), Ms[i]? = some K → ∃ (d : Addr) (kvs : List (Key × V)), xs[i]? = some (.ref d) ∧ G d = some (.dK kvs) ∧ kvs.map (·.1) = K.map Sum.inl
theorem Lots.up {G G' : Hp} {p : Addr} {Ms : List (List Int)} (h : Lots G p Ms) (g : Same G G') : Lots G' p Ms := by
  obtain ⟨xs, hp, l, h⟩ := h
  refine ⟨xs, g _ _ hp, l, fun i K hi => ?_⟩
  obtain ⟨d, kvs, h1, h2, h3⟩ := h i K hi
  exact ⟨d, kvs, h1, g _ _ h2, h3⟩
/-- values that are dicts of the marks -/
def LotsV (G : Hp) (xs : List V) (Ms : List (List Int)) : Prop := xs.length = Ms.length ∧ ∀ (i : Nat) (K : List Int), Ms[i]? = some K → ∃ (d : Addr) (kvs : List (Key × V)), xs[i]? = some (.ref d) ∧ G d = some (.dK kvs) ∧ kvs.map (·.1) = K.map Sum.inl
theorem LotsV.nil {G : Hp} : LotsV G [] [] := ⟨rfl, fun i K h => by cases h⟩
/-- the marks that contain the row -/
def mks (rs : List Int) (Ms : List (List Int)) : List (List Int) := Ms.filter fun K => rs.all fun r => decide (r ∈ K)
/-- whether the entry at k is loose -/
def lsB (rs : List Int) (L : List (List Int)) (k : Nat) : Bool := decide ((holdL (rs.take (k + 1)) L).length = (holdL (rs.take k) L).length)
def lsx (rs : List Int) (L : List (List Int)) : List Int := pts (lsB rs L) rs.length
theorem lsB_iff {rs : List Int} {L : List (List Int)} {k : Nat} {r : Int} (h : rs[k]? = some r) : lsB rs L k = true ↔ ∀ w ∈ holdL (rs.take k) L, stp w r = r := by
  unfold lsB
  rw [decide_eq_true_eq, holdL_step h, List.length_filter_eq_length_iff]
  exact ⟨fun z w hw => of_decide_eq_true (z w hw), fun z w hw => decide_eq_true (z w hw)⟩
def spLoose (K : PySem.W.Frag) (C DP DT : Addr) : Sp := fun vs H Q E => ∃ (G : Hp) (x a : Addr) (n : Int) (T L : List (List Int)) (xs : List V) (ds : List PyData), vs = [.ref x, .ref a] ∧ Same G H ∧ WAt C G x n T L ∧ WOk n T L ∧ HasS K H a xs ∧ DaAll G xs ds ∧
  RowJ n xs ds DP DT E H fun rs => ∀ (p : Addr) (G' H' : Hp), Stq G H G' H' → G' p = some (.tup ((lsx rs L).map V.int)) → Q (.ref p) H'
theorem ok_loose {CW DP DT : Addr} (Z : Zs mg) (D : Ds K mg) (c_holder_counts : CalX P w K mg base "holder_counts" 5 ["world", "row"] (spCounts K CW DP DT)) : CalX P w K mg base "loose_indexes" 6 ["world", "row"] (spLoose K CW DP DT) := by
  refine Def.calX D.d_loose_indexes sc_loose_indexes (fun vs H Q E h => ?_) (fun f cdv A outer s H vs Q E hr h => ?_)
  · obtain ⟨G, x, a, n, T, L, xs, ds, rfl, gh, wat, ok, hl, dx, q1, q2, q3⟩ := h
    rfl
  obtain ⟨G, x, a, n, T, L, xs, ds, rfl, gh, wat, ok, hl, dx, q1, q2, q3⟩ := h
  refine ⟨_, (pss_cons (ps_set (i := 2) sc_loose_indexes.nd rfl (Or.inr rfl) (pe_calX c_holder_counts (L2N.takes_of rfl rfl rfl rfl) (hr.mono (by first | decide | omega)) (by rfl) (pa_cons (pv 0) (pa_cons (pv 1) pa_nil))))
      (pss_one (ps_ret (pe_callTy call_tupleN (by rfl) Z.z_tuple (by decide +kernel) (pa_cons (pe_lc (own := [("index", 3)]) (g := gName 3) (by rfl) sc_loose_indexes.nd (pi_range1 (by rfl) Z.z_range (pa_cons (pe_callB call_len (by rfl) Z.z_len (by decide +kernel) (pa_cons (pv 1) pa_nil)) pa_nil)) (blkOk_by (N := ["world", "row", "counts", "index"]) (sc := defScope s_loose_indexes) (by decide +kernel)) (fun _ _ _ _ _ => pg_name (i := 3) sc_loose_indexes.nd rfl (Or.inl rfl)) (fun _ _ _ _ _ => pts_one (pt_cmp (pc_eqI (pe_ix (ix_listK (K := K) rfl) (pv 2) (pe_op op_add (pv 3) pe_int) (fun _ _ => rfl)) (pe_ix (ix_listK (K := K) rfl) (pv 2) (pv 3) (fun _ _ => rfl))) (nomark _))) (fun _ _ _ _ _ => (pv 3))) pa_nil))))), ?_⟩
  refine ⟨_, rfl, _, rfl, G, x, a, n, T, L, xs, ds, rfl, gh, wat, ok, hl, dx, q1, q2, fun l24 rs e inr cp G1 H1 s1 gcp fcp hcp => ?_⟩
  have q := q3 l24 rs e inr
  subst e
  obtain rfl := vals_int dx
  rw [List.length_map] at l24
  have hl1 := HasS.up s1.hh hl
  refine ⟨_, rfl, _, _, rfl, hl1.lenV, _, rfl, by rw [List.length_map]; omega, by rw [List.length_map]; omega, fun z hz => ?_⟩
  have nzc : z ≠ cp := fun e => by rw [e, hcp] at hz; cases hz
  rw [List.length_map]
  refine lc_range (lo := 0) (n := ((rs.length : Nat) : Int).toNat) (fun i H' => Stq G H G1 H' ∧ G1 z = none ∧ H z = none ∧ H' cp = some (.lst ((cnts rs L rs.length).map V.int)) ∧ H' z = some (.lst ((pts (lsB rs L) i).map V.int))) ?_ ?_ ?_
  · obtain ⟨s2, gz, h2, fz⟩ := s1.loc2 (p := z) (o := .lst []) ⟨hz, rfl⟩
    exact ⟨s2, gz, fz, by rw [upd_ne (fun e => by rw [e, hz] at hcp; cases hcp)]; exact hcp, h2⟩
  · rintro i H2 hi ⟨s2, gz, fz, hc2, hz2⟩
    rw [Int.zero_add]
    have il : i < rs.length := by omega
    have e1 : atI ((cnts rs L rs.length).map V.int) (i : Int) = some (.int (((holdL (rs.take i) L).length : Nat) : Int)) := atI_nat (by rw [List.getElem?_map, cnts_at (by omega)]; rfl)
    have e2 : atI ((cnts rs L rs.length).map V.int) ((i : Int) + 1) = some (.int (((holdL (rs.take (i + 1)) L).length : Nat) : Int)) := atI_nat (j := i + 1) (by rw [List.getElem?_map, cnts_at (by omega)]; rfl)
    have lp := pts_len (lsB rs L) i
    refine ⟨rfl, _, rfl, _, rfl, _, _, rfl, rfl, cp, _, _, _, rfl, rfl, .of hc2, e2, _, rfl, _, rfl, cp, _, _, _, rfl, rfl, .of hc2, e1, _, _, rfl, rfl, _, rfl, ?_⟩
    have eqv : decide ((((holdL (rs.take (i + 1)) L).length : Nat) : Int) = (((holdL (rs.take i) L).length : Nat) : Int)) = lsB rs L i := decide_eq_decide.mpr ⟨fun e => by omega, fun e => by omega⟩
    refine ite2 (fun c1 => ?_) (fun c1 => ?_)
    · refine ⟨_, rfl, _, hz2, by rw [List.length_map]; exact Hd.lt (by omega), s2.mut gz fz rfl, gz, fz, ?_, ?_⟩
      · rw [upd_ne (Ne.symm nzc)]
        exact hc2
      · rw [upd_same, pts_step, if_pos (eqv.symm.trans c1), List.map_append]
        rfl
    · refine ⟨s2, gz, fz, hc2, ?_⟩
      rw [hz2, pts_step, if_neg (by rw [← eqv]; exact c1), List.append_nil]
  · rintro H2 ⟨s2, gz, fz, hc2, hz2⟩
    refine ⟨z, _, rfl, .inl (.of hz2), fun tp H3 n3 => ?_⟩
    obtain ⟨G3, s3, g3, k3, -⟩ := s2.know2 n3
    rw [show ((rs.length : Nat) : Int).toNat = rs.length by omega] at k3
    exact q tp G3 H3 s3 k3
def spTight (K : PySem.W.Frag) (C DP DT : Addr) : Sp := fun vs H Q E => ∃ (G : Hp) (x a : Addr) (n : Int) (T L : List (List Int)) (xs : List V) (ds : List PyData), vs = [.ref x, .ref a] ∧ Same G H ∧ WAt C G x n T L ∧ WOk n T L ∧ HasS K H a xs ∧ DaAll G xs ds ∧
  RowJ n xs ds DP DT E H fun rs => ∀ H', Same H H' → Q (.bl (decide (lsx rs L = []))) H'
theorem ok_is_tight {CW DP DT : Addr} (Z : Zs mg) (D : Ds K mg) (c_loose_indexes : CalX P w K mg base "loose_indexes" 6 ["world", "row"] (spLoose K CW DP DT)) : CalX P w K mg base "is_tight" 7 ["world", "row"] (spTight K CW DP DT) := by
  refine Def.calX D.d_is_tight sc_is_tight (fun vs H Q E h => ?_) (fun f cdv A outer s H vs Q E hr h => ?_)
  · obtain ⟨G, x, a, n, T, L, xs, ds, rfl, gh, wat, ok, hl, dx, q1, q2, q3⟩ := h
    rfl
  obtain ⟨G, x, a, n, T, L, xs, ds, rfl, gh, wat, ok, hl, dx, q1, q2, q3⟩ := h
  refine ⟨_, (pss_one (ps_ret (pe_notT (pe_calX c_loose_indexes (L2N.takes_of rfl rfl rfl rfl) (hr.mono (by first | decide | omega)) (by rfl) (pa_cons (pv 0) (pa_cons (pv 1) pa_nil)))))), ?_⟩
  refine ⟨_, rfl, _, rfl, G, x, a, n, T, L, xs, ds, rfl, gh, wat, ok, hl, dx, q1, q2, fun l24 rs e inr p G1 H1 s1 kp => ?_⟩
  have q := q3 l24 rs e inr
  refine ⟨!((lsx rs L).map V.int).isEmpty, .inr (.inl ⟨_, .of (s1.gh _ _ kp), rfl⟩), ?_⟩
  have e2 : (!!((lsx rs L).map V.int).isEmpty) = decide (lsx rs L = []) := by
    cases lsx rs L <;> simp
  rw [e2]
  exact q H1 s1.hh
def spFull (K : PySem.W.Frag) (C DP DT : Addr) : Sp := fun vs H Q E => ∃ (G : Hp) (x a : Addr) (n : Int) (T L : List (List Int)) (xs : List V) (ds : List PyData), vs = [.ref x, .ref a] ∧ Same G H ∧ WAt C G x n T L ∧ WOk n T L ∧ HasS K H a xs ∧ DaAll G xs ds ∧
  RowJ n xs ds DP DT E H fun rs => ∀ H', Same H H' → Q (.bl (decide ((holdL rs L).length = 1))) H'
theorem ok_is_full {CW DP DT : Addr} (Z : Zs mg) (D : Ds K mg) (c_holders : CalX P w K mg base "holders" 5 ["world", "lot"] (spHolders K CW DP DT)) : CalX P w K mg base "is_full" 6 ["world", "row"] (spFull K CW DP DT) := by
  refine Def.calX D.d_is_full sc_is_full (fun vs H Q E h => ?_) (fun f cdv A outer s H vs Q E hr h => ?_)
  · obtain ⟨G, x, a, n, T, L, xs, ds, rfl, gh, wat, ok, hl, dx, q1, q2, q3⟩ := h
    rfl
  obtain ⟨G, x, a, n, T, L, xs, ds, rfl, gh, wat, ok, hl, dx, q1, q2, q3⟩ := h
  refine ⟨_, (pss_one (ps_ret (pe_cmp (pc_eqI (pe_callB call_len_seq (by rfl) Z.z_len (by decide +kernel) (pa_cons (pe_calX c_holders (L2N.takes_of rfl rfl rfl rfl) (hr.mono (by first | decide | omega)) (by rfl) (pa_cons (pv 0) (pa_cons (pv 1) pa_nil))) pa_nil)) pe_int) (nomark _)))), ?_⟩
  refine ⟨_, rfl, _, rfl, G, x, a, n, T, L, xs, ds, rfl, gh, wat, ok, hl, dx, q1, q2, fun l24 rs e inr p ys G1 H1 s1 gp fp hp dy => ?_⟩
  have q := q3 l24 rs e inr
  have ly := dy.length
  rw [List.length_map] at ly
  refine ⟨p, _, rfl, .inl (.of hp), _, _, rfl, rfl, ?_⟩
  have e2 : decide (((ys.length : Nat) : Int) = 1) = decide ((holdL rs L).length = 1) := decide_eq_decide.mpr ⟨fun e => by omega, fun e => by omega⟩
  show Q (.bl (decide _)) _
  rw [e2]
  exact q H1 s1.hh


/-- how many points of the row in front are held -/
def lead (m : List Int) : List Int → Nat
  | [] => 0
  | r :: rs => if stp m r = r then lead m rs + 1 else 0
theorem lead_le (m : List Int) : ∀ rs : List Int, lead m rs ≤ rs.length
  | [] => Nat.le_refl _
  | r :: rs => by
    unfold lead
    rw [List.length_cons]
    split
    · exact Nat.succ_le_succ (lead_le m rs)
    · exact Nat.zero_le _
theorem lead_iff (m : List Int) : ∀ (rs : List Int) (k : Nat), k ≤ rs.length → (holdB (rs.take k) m = true ↔ k ≤ lead m rs)
  | rs, 0, _ => ⟨fun _ => Nat.zero_le _, fun _ => rfl⟩
  | [], k + 1, h => absurd h (by simp)
  | r :: rs, k + 1, h => by
    have ih := lead_iff m rs k (by rw [List.length_cons] at h; omega)
    unfold holdB at ih ⊢
    rw [decide_eq_true_eq, aft_self] at ih ⊢
    rw [List.take_succ_cons, List.forall_mem_cons]
    unfold lead
    by_cases c : stp m r = r
    · rw [if_pos c]
      exact ⟨fun z => Nat.succ_le_succ (ih.mp z.2), fun z => ⟨c, ih.mpr (Nat.le_of_succ_le_succ z)⟩⟩
    · rw [if_neg c]
      exact ⟨fun z => absurd z.1 c, fun z => absurd z (by omega)⟩
theorem lead_stop {m : List Int} : ∀ {rs : List Int} {j : Nat} {r : Int}, rs[j]? = some r → j ≤ lead m rs → stp m r ≠ r → lead m rs = j
  | [], _, _, h, _, _ => by cases h
  | a :: rs, 0, r, h, _, no => by
    obtain rfl : a = r := Option.some.inj h
    unfold lead
    rw [if_neg no]
  | a :: rs, j + 1, r, h, le, no => by
    unfold lead at le ⊢
    by_cases c : stp m a = a
    · rw [if_pos c] at le ⊢
      rw [lead_stop (rs := rs) (j := j) h (by omega) no]
    · rw [if_neg c] at le
      omega
theorem lead_go {m : List Int} : ∀ {rs : List Int} {j : Nat} {r : Int}, rs[j]? = some r → j ≤ lead m rs → stp m r = r → j + 1 ≤ lead m rs
  | [], _, _, h, _, _ => by cases h
  | a :: rs, 0, r, h, _, yes => by
    obtain rfl : a = r := Option.some.inj h
    unfold lead
    rw [if_pos yes]
    omega
  | a :: rs, j + 1, r, h, le, yes => by
    unfold lead at le ⊢
    by_cases c : stp m a = a
    · rw [if_pos c] at le ⊢
      have := lead_go (rs := rs) (j := j) h (by omega) yes
      omega
    · rw [if_neg c] at le
      omega
/-- a dict whose keys are the ints of ms -/
def KSet (kvs : List (Key × V)) (ms : List Int) : Prop := kvs.map (·.1) = ms.map Sum.inl ∧ ms.Nodup
theorem KSet.len {kvs : List (Key × V)} {ms : List Int} (h : KSet kvs ms) : kvs.length = ms.length := by
  have := congrArg List.length h.1
  rwa [List.length_map, List.length_map] at this
theorem KSet.put {kvs : List (Key × V)} {ms : List Int} (h : KSet kvs ms) (r : Int) (v : V) : ∃ ks : List Int, KSet (putK kvs (Sum.inl r) v) ks ∧ ks.length ≤ ms.length + 1 ∧ ∀ x, x ∈ ks ↔ x ∈ ms ∨ x = r := by
  obtain ⟨ek, nd⟩ := h
  cases e : valV kvs (Sum.inl r) with
  | some u =>
    have inn : r ∈ ms := by
      have := valV_in e
      rw [ek] at this
      obtain ⟨z, hz, ez⟩ := List.mem_map.mp this
      rw [← Sum.inl.inj ez]
      exact hz
    exact ⟨ms, ⟨by rw [keys_putK (by rw [e]; rfl), ek], nd⟩, Nat.le_succ _, fun x => ⟨.inl, fun z => z.elim id fun z => z ▸ inn⟩⟩
  | none =>
    have out : r ∉ ms := fun z => valV_not e (by rw [ek]; exact List.mem_map.mpr ⟨r, z, rfl⟩)
    refine ⟨ms ++ [r], ⟨?_, nd_snoc nd out⟩, by rw [List.length_append]; exact Nat.le_refl _, fun x => by rw [List.mem_append, List.mem_singleton]⟩
    rw [putK_new _ e, List.map_append, List.map_append, ek]
    rfl
theorem same_mut {H H' H2 : Hp} {l : Addr} {o : HO} (s : Same H H') (f : H l = none) (e : H2 = upd H' l o) : Same H H2 := fun b u h => by
  rw [e, upd_ne (ne_of_none h f)]
  exact s b u h
/-! ### tuples that lie in the heap -/
theorem catR_ok {K : PySem.W.Frag} {H : Hp} {a b : Addr} {xs ys : List V} {Q : VK} (ha : H a = some (.tup xs)) (hb : H b = some (.tup ys)) (l : xs.length + ys.length ≤ 1000) (q : ∀ (p : Addr) (H' : Hp), Same H H' → H' p = some (.tup (xs ++ ys)) → Q (.ref p) H') : rCatA K (.ref a) (.ref b) H Q := by
  refine ⟨a, b, xs, ys, rfl, rfl, .of ha, .of hb, Nat.le_trans l (by decide), fun e => ?_, fun _ e => ?_, fun _ _ p hp => q p _ (New.same (o := .tup (xs ++ ys)) ⟨hp, rfl⟩) upd_same⟩
  · subst e
    exact q b H (Same.refl _) hb
  · subst e
    exact q a H (Same.refl _) (by rw [List.append_nil]; exact ha)
theorem cut_upto {xs : List V} {n : Nat} : cutV xs none (some (n : Int)) = xs.take n := by
  rcases Nat.lt_or_ge xs.length n with h | h
  · have : cutV xs none (some (n : Int)) = xs.take xs.length := by
      unfold cutV
      rw [show HT.sIx xs.length xs.length (some (n : Int)) = min n xs.length from HT.sIx_nat xs.length xs.length n, HT.sIx_none, List.drop_zero, Nat.sub_zero, Nat.min_eq_right (by omega)]
    rw [this, List.take_length, List.take_of_length_le (by omega)]
  · exact cut_to h
theorem cut_fr {xs : List V} {n : Nat} : cutV xs (some (n : Int)) none = xs.drop n := by
  unfold cutV
  rw [show HT.sIx xs.length 0 (some (n : Int)) = min n xs.length from HT.sIx_nat xs.length 0 n, HT.sIx_none]
  rcases Nat.lt_or_ge xs.length n with h | h
  · rw [Nat.min_eq_right (by omega), List.drop_length, List.drop_of_length_le (by omega)]
    simp
  · rw [Nat.min_eq_left h]
    exact List.take_of_length_le (by rw [List.length_drop]; omega)
def wdW (xs ys : List Int) (k c : Nat) : List Int := ys.take k ++ xs.take c ++ [(ys[k]?).getD 0] ++ xs.drop c ++ ys.drop (k + 1)
def wd (xs ys : List Int) : Nat → List Int
  | 0 => xs ++ ys
  | t + 1 => wdW xs ys (t / xs.length) (xs.length - 1 - t % xs.length)
/-- tuples of ints, each in the heap -/
def TupsAt (H : Hp) (ws : List V) (L : List (List Int)) : Prop := ws.length = L.length ∧ ∀ (j : Nat) w, L[j]? = some w → ∃ c, ws[j]? = some (.ref c) ∧ H c = some (.tup (w.map V.int))
theorem TupsAt.up {H H' : Hp} {ws : List V} {L : List (List Int)} (h : TupsAt H ws L) (s : Same H H') : TupsAt H' ws L := ⟨h.1, fun j w hj => by
  obtain ⟨c, a, b⟩ := h.2 j w hj
  exact ⟨c, a, s _ _ b⟩⟩
theorem TupsAt.put {H : Hp} {ws xs ys : List V} {L : List (List Int)} {l : Addr} (h : TupsAt H ws L) (hl : H l = some (.lst xs)) : TupsAt (upd H l (.lst ys)) ws L := ⟨h.1, fun j w hj => by
  obtain ⟨c, a, b⟩ := h.2 j w hj
  refine ⟨c, a, ?_⟩
  rw [upd_ne fun e => by rw [e, hl] at b; cases b]
  exact b⟩
theorem TupsAt.da {H : Hp} : ∀ {ws : List V} {L : List (List Int)}, TupsAt H ws L → DaAll H ws (L.map rowD) := by
  intro ws L
  induction L generalizing ws with
  | nil =>
    intro h
    rw [List.eq_nil_of_length_eq_zero h.1]
    exact .nil
  | cons w L ih =>
    intro h
    cases ws with
    | nil => exact absurd h.1 (by simp)
    | cons v ws =>
      obtain ⟨c, a, b⟩ := h.2 0 w rfl
      obtain rfl := Option.some.inj a
      refine .cons (.tup b (DaAll.ints _)) (ih ⟨Nat.succ.inj h.1, fun j u hj => ?_⟩)
      exact h.2 (j + 1) u hj
/-- how deep a value is -/
def lv : Nat → PyData → Bool
  | 0, _ => false
  | _ + 1, .list [] => true
  | _ + 1, .tuple [] => true
  | k + 1, .list ds => ds.all (lv k)
  | k + 1, .tuple ds => ds.all (lv k)
  | _ + 1, .dict _ => false
  | _ + 1, _ => true
theorem lv_get {k : Nat} {t : Bool} {ds : List PyData} {d : PyData} (h : lv (k + 1) (sqD t ds) = true) (m : d ∈ ds) : lv k d = true := by
  cases ds with
  | nil => cases m
  | cons e es =>
    have h : (e :: es).all (lv k) = true := by cases t <;> exact h
    exact List.all_eq_true.mp h d m
theorem ifS_then {c : TT} {t u : TS} {D σ H} (y : t D σ H) (g : t D σ H → tIfS c t u D σ H) : tIfS c t u D σ H := g y
theorem sq_of {H : Hp} {v : V} {t : Bool} {ds : List PyData} (h : Da H v (sqD t ds)) : ∃ (a : Addr) (xs : List V), v = .ref a ∧ HasL H a xs ∧ DaAll H xs ds := by
  cases t with
  | true =>
    cases h with
    | tup k a => exact ⟨_, _, rfl, .inr k, a⟩
  | false =>
    cases h with
    | lst k a => exact ⟨_, _, rfl, .inl k, a⟩
def spAgree (k : Nat) : Sp := fun vs H Q _ => ∃ (v w : V) (d : PyData), vs = [v, w] ∧ Da H v d ∧ Da H w d ∧ szL [d] ≤ 100000 ∧ lv k d = true ∧ ∀ H', Same H H' → Q (.bl true) H'
theorem ok_agree_step (Z : Zs mg) (D : Ds K mg) (k : Nat) (c__law_is_whole : Cal P w K mg base "_law_is_whole" 1 ["value"] spIsWhole) (c__law_agree : Cal P w K mg base "_law_agree" (k + 1) ["actual", "due"] (spAgree k)) : Cal P w K mg base "_law_agree" (k + 2) ["actual", "due"] (spAgree (k + 1)) := by
  refine Def.cal D.d_law_agree sc_law_agree (fun vs H Q E h => ?_) (fun f cdv A outer s H vs Q E hr h => ?_)
  · obtain ⟨v, w, d, rfl, hv, hw, sz, hk, q⟩ := h
    rfl
  obtain ⟨v, w, d, rfl, hv, hw, sz, hk, q⟩ := h
  refine ⟨_, (pss_cons (ps_if (PW.pt (pw_or (PW.pt (pw_and (pt_val (pe_callB call_isD (by rfl) Z.z_isinstance (by decide +kernel) (pa_cons (pv 1) (pa_cons (pe_bltn (v := .ty "tuple") (by rfl) Z.z_tuple (by decide +kernel) rfl) pa_nil)))) (pw_and1 (pt_val (pe_callB call_isD (by rfl) Z.z_isinstance (by decide +kernel) (pa_cons (pv 0) (pa_cons (pe_bltn (v := .ty "tuple") (by rfl) Z.z_tuple (by decide +kernel) rfl) pa_nil))))))) (pw_or1 (PW.pt (pw_and (pt_val (pe_callB call_isD (by rfl) Z.z_isinstance (by decide +kernel) (pa_cons (pv 1) (pa_cons (pe_bltn (v := .ty "list") (by rfl) Z.z_list (by decide +kernel) rfl) pa_nil)))) (pw_and1 (pt_val (pe_callB call_isD (by rfl) Z.z_isinstance (by decide +kernel) (pa_cons (pv 0) (pa_cons (pe_bltn (v := .ty "list") (by rfl) Z.z_list (by decide +kernel) rfl) pa_nil)))))))))) (pss_one (ps_ret (pe_and (pe_cmp (pc_eqI (pe_callB call_len (by rfl) Z.z_len (by decide +kernel) (pa_cons (pv 0) pa_nil)) (pe_callB call_len (by rfl) Z.z_len (by decide +kernel) (pa_cons (pv 1) pa_nil))) (nomark _)) (pe_one (pe_callB (cr_all rfl) (by rfl) Z.z_all (by decide +kernel) (pa_cons (pe_lc (own := [("k", 2)]) (g := gName 2) (tt := tYes) (by rfl) sc_law_agree.nd (pi_range1 (by rfl) Z.z_range (pa_cons (pe_callB call_len (by rfl) Z.z_len (by decide +kernel) (pa_cons (pv 1) pa_nil)) pa_nil)) (blkOk_by (N := ["actual", "due", "k"]) (sc := defScope s_law_agree) (by decide +kernel)) (fun _ _ _ _ _ => pg_name (i := 2) sc_law_agree.nd rfl (Or.inl rfl)) (fun _ _ _ _ _ => pts_nil) (fun _ _ _ _ _ => (pe_cal c__law_agree (hr.mono (by first | decide | omega)) (by rfl) (pa_cons (pe_ix (ix_seqK (K := K) rfl) (pv 0) (pv 2) (fun _ _ => rfl)) (pa_cons (pe_ix (ix_seqK (K := K) rfl) (pv 1) (pv 2) (fun _ _ => rfl)) pa_nil))))) pa_nil)))))) pss_nil)
      (pss_cons (ps_if (PW.pt (pw_or (pt_cmpR op_isN (pv 1) pe_non (nomark _)) (pw_or (pt_cmpR op_isBD (pv 1) pe_bl (nomark _)) (pw_or1 (pt_cmpR op_isBD (pv 1) pe_bl (nomark _)))))) (pss_one (ps_ret (pe_or (pe_and (pe_cmpR op_isN (pv 0) pe_non (nomark _)) (pe_one (pe_cmpR op_isN (pv 1) pe_non (nomark _)))) (pe_or (pe_and (pe_cmpR op_isBD (pv 0) pe_bl (nomark _)) (pe_one (pe_cmpR op_isBD (pv 1) pe_bl (nomark _)))) (pe_one (pe_and (pe_cmpR op_isBD (pv 0) pe_bl (nomark _)) (pe_one (pe_cmpR op_isBD (pv 1) pe_bl (nomark _))))))))) pss_nil)
      (pss_cons (ps_if (pt_val (pe_callB call_isD (by rfl) Z.z_isinstance (by decide +kernel) (pa_cons (pv 1) (pa_cons (pe_bltn (v := .ty "int") (by rfl) Z.z_int (by decide +kernel) rfl) pa_nil)))) (pss_one (ps_ret (pe_and (pe_cal c__law_is_whole (hr.mono (by first | decide | omega)) (by rfl) (pa_cons (pv 0) pa_nil)) (pe_one (pe_cmpR op_eq (pv 0) (pv 1) (nomark _)))))) pss_nil)
      (pss_one (ps_ret (pe_and (pe_callB call_isD (by rfl) Z.z_isinstance (by decide +kernel) (pa_cons (pv 1) (pa_cons (pe_bltn (v := .ty "str") (by rfl) Z.z_str (by decide +kernel) rfl) pa_nil))) (pe_and (pe_callB call_isD (by rfl) Z.z_isinstance (by decide +kernel) (pa_cons (pv 0) (pa_cons (pe_bltn (v := .ty "str") (by rfl) Z.z_str (by decide +kernel) rfl) pa_nil))) (pe_one (pe_cmpR op_eq (pv 0) (pv 1) (nomark _)))))))))), ?_⟩
  rcases hw.kind with ⟨rfl, rfl⟩ | ⟨b, rfl, rfl⟩ | ⟨j, rfl, rfl⟩ | ⟨j, rfl, rfl⟩ | ⟨b, ys, es, t, rfl, hb, hbt, hbl, dys, rfl⟩
  · cases hv
    refine ⟨_, rfl, _, _, "tuple", rfl, .non, ok_tuple, _, rfl, iteBF rfl (iteF ⟨_, rfl, _, _, "list", rfl, .non, ok_list, _, rfl, iteBF rfl (iteF ?_)⟩)⟩
    refine ⟨_, rfl, rfl, _, rfl, iteDT rfl (iteT ?_)⟩
    refine ⟨_, rfl, rfl, _, rfl, iteDT rfl ⟨_, rfl, rfl, _, rfl, iteDT rfl ?_⟩⟩
    exact q H (Same.refl _)
  · cases hv
    refine ⟨_, rfl, _, _, "tuple", rfl, .bl b, ok_tuple, _, rfl, iteBF rfl (iteF ⟨_, rfl, _, _, "list", rfl, .bl b, ok_list, _, rfl, iteBF rfl (iteF ?_)⟩)⟩
    refine ⟨_, rfl, rfl, _, rfl, iteDF (by intro z; cases z) ?_⟩
    cases b with
    | true =>
      refine ⟨_, rfl, _, true, .bl true, rfl, _, rfl, iteDT rfl (iteT ?_)⟩
      refine ⟨_, rfl, rfl, _, rfl, iteDF (by intro z; cases z) ?_⟩
      refine ⟨_, rfl, iteF ⟨_, rfl, _, true, .bl true, rfl, _, rfl, iteDT rfl ⟨_, rfl, _, true, .bl true, rfl, _, rfl, iteDT rfl ?_⟩⟩⟩
      exact q H (Same.refl _)
    | false =>
      refine ⟨_, rfl, _, true, .bl false, rfl, _, rfl, iteDF (by intro z; cases z) ⟨_, rfl, _, false, .bl false, rfl, _, rfl, iteDT rfl ?_⟩⟩
      refine ⟨_, rfl, rfl, _, rfl, iteDF (by intro z; cases z) ?_⟩
      refine ⟨_, rfl, iteF ⟨_, rfl, _, true, .bl false, rfl, _, rfl, iteDF (by intro z; cases z) ?_⟩⟩
      refine ⟨_, rfl, iteF ⟨_, rfl, _, false, .bl false, rfl, _, rfl, iteDT rfl ⟨_, rfl, _, false, .bl false, rfl, ?_⟩⟩⟩
      exact q H (Same.refl _)
  · cases hv
    refine ⟨_, rfl, _, _, "tuple", rfl, .int j, ok_tuple, _, rfl, iteBF rfl (iteF ⟨_, rfl, _, _, "list", rfl, .int j, ok_list, _, rfl, iteBF rfl (iteF ?_)⟩)⟩
    refine ⟨_, rfl, rfl, _, rfl, iteDF (by intro z; cases z) ⟨_, rfl, _, true, .int j, rfl, _, rfl, iteDF (by intro z; cases z) ⟨_, rfl, _, false, .int j, rfl, _, rfl, iteDF (by intro z; cases z) ?_⟩⟩⟩
    refine ⟨_, rfl, _, _, "int", rfl, .int j, .inl rfl, _, rfl, iteBT (ib_int_int j) ?_⟩
    refine ⟨_, rfl, _, _, rfl, .int j, _, rfl, iteT ?_⟩
    refine ⟨_, rfl, _, rfl, rfl, ?_⟩
    rw [decide_eq_true rfl]
    exact q H (Same.refl _)
  · cases hv
    refine ⟨_, rfl, _, _, "tuple", rfl, .str j, ok_tuple, _, rfl, iteBF rfl (iteF ⟨_, rfl, _, _, "list", rfl, .str j, ok_list, _, rfl, iteBF rfl (iteF ?_)⟩)⟩
    refine ⟨_, rfl, rfl, _, rfl, iteDF (by intro z; cases z) ⟨_, rfl, _, true, .str j, rfl, _, rfl, iteDF (by intro z; cases z) ⟨_, rfl, _, false, .str j, rfl, _, rfl, iteDF (by intro z; cases z) ?_⟩⟩⟩
    refine ⟨_, rfl, _, _, "int", rfl, .str j, .inl rfl, _, rfl, iteBF (ib_str_int j) ?_⟩
    refine ⟨_, rfl, _, _, "str", rfl, .str j, ok_str, _, rfl, iteBT (ib_str_str j) ⟨_, rfl, _, _, "str", rfl, .str j, ok_str, _, rfl, iteBT (ib_str_str j) ?_⟩⟩
    refine ⟨_, rfl, _, rfl, rfl, ?_⟩
    rw [decide_eq_true rfl]
    exact q H (Same.refl _)
  · obtain ⟨a, xs, rfl, ha, dxs⟩ := sq_of hv
    have lx := dxs.length
    have ly := dys.length
    have sd := sqD_sz t es
    have zs : szD (sqD t es) + 0 ≤ 100000 := sz
    have le := szL_len es
    refine ifS_then ?_ (fun ret => ?_)
    · refine ⟨_, rfl, _, _, rfl, HasL.lenV ha, _, rfl, _, _, rfl, HasL.lenV hb, _, _, rfl, rfl, _, rfl, iteDT (by omega) ?_⟩
      refine ⟨_, rfl, _, _, rfl, HasL.lenV hb, _, rfl, by omega, by omega, fun l hl => ?_⟩
      refine lc_range (lo := 0) (n := ((ys.length : Nat) : Int).toNat) (fun i H' => ∃ bs : List Bool, Same H H' ∧ H' l = some (.lst (bs.map V.bl)) ∧ bs.length = i ∧ bs.all id = true) ?_ ?_ ?_
      · exact ⟨[], (⟨hl, rfl⟩ : New H l (.lst []) _).same, upd_same, rfl, rfl⟩
      · rintro i H1 hi ⟨bs, s1, h1, lb, ab⟩
        obtain ⟨x1, e1, a1⟩ := at_nat (xs := xs) (i := i) (by omega)
        obtain ⟨x2, e2, a2⟩ := at_nat (xs := ys) (i := i) (by omega)
        obtain ⟨d1, f1, k1⟩ := dxs.get e1
        obtain ⟨d2, f2, k2⟩ := dys.get e2
        rw [f1] at f2
        obtain rfl := Option.some.inj f2
        have zd := szL_get f1
        refine ⟨rfl, yesT ⟨_, rfl, _, rfl, rIx_of (ha.up s1) a1 ⟨_, rfl, _, rfl, rIx_of (hb.up s1) a2 ⟨x1, x2, d1, rfl, k1.up s1, k2.up s1, by show szD d1 + 0 ≤ _; omega, lv_get hk (List.mem_of_getElem? f1), fun H2 s2 => ⟨_, s2 _ _ h1, by rw [List.length_map]; exact lt (by omega), bs ++ [true], same_mut (s1.trans s2) hl rfl, ?_, by rw [List.length_append, lb]; rfl, by rw [List.all_append, ab]; rfl⟩⟩⟩⟩⟩
        rw [upd_same, List.map_append]
        rfl
      · rintro H1 ⟨bs, s1, h1, lb, ab⟩
        refine ⟨l, bs, rfl, .of h1, ?_⟩
        rw [ab]
        exact q H1 s1
    · cases t with
      | true => exact ⟨_, rfl, _, _, "tuple", rfl, hw, ok_tuple, _, rfl, iteBT (ib_tuple_tuple es) ⟨_, rfl, _, _, "tuple", rfl, hv, ok_tuple, _, rfl, iteBT (ib_tuple_tuple es) (iteT ret)⟩⟩
      | false => exact ⟨_, rfl, _, _, "tuple", rfl, hw, ok_tuple, _, rfl, iteBF (ib_list_tuple es) (iteF ⟨_, rfl, _, _, "list", rfl, hw, ok_list, _, rfl, iteBT (ib_list_list es) ⟨_, rfl, _, _, "list", rfl, hv, ok_list, _, rfl, iteBT (ib_list_list es) ret⟩⟩)⟩
theorem no_levelN {x : Str} {st : Stmt} {ps : List Str} {sp : Sp} {k : Nat} (D : Def K mg x st ps) (no : ∀ vs H Q E, ¬ sp vs H Q E) : Cal P w K mg base x k ps sp := by
  obtain ⟨f, fd, F, g, b⟩ := D
  exact ⟨f, fd, ⟨fun vs H Q E h => absurd h (no vs H Q E), fun A outer s H args us vs Q E _ _ _ _ h => absurd h (no vs H Q E)⟩, g, F.kp, b⟩
theorem no_levelNE {x : Str} {st : Stmt} {ps : List Str} {sp : SpH} {k : Nat} (D : Def K mg x st ps) (no : ∀ p vs H Q E, ¬ sp p vs H Q E) : CalE P w K mg base x k ps sp := by
  obtain ⟨f, fd, F, g, b⟩ := D
  exact ⟨f, fd, ⟨fun p vs H Q E h => absurd h (no p vs H Q E), fun A outer s H args us vs Q E p _ _ _ _ _ _ h => absurd h (no p vs H Q E)⟩, g, F.kp, b⟩
theorem ok_agree (Z : Zs mg) (D : Ds K mg) (c__law_is_whole : Cal P w K mg base "_law_is_whole" 1 ["value"] spIsWhole) : ∀ k, Cal P w K mg base "_law_agree" (k + 1) ["actual", "due"] (spAgree k)
  | 0 => no_levelN D.d_law_agree fun vs H Q E h => by
    obtain ⟨v, w, d, _, _, _, _, e, _⟩ := h
    cases e
  | k + 1 => ok_agree_step Z D k c__law_is_whole (ok_agree Z D c__law_is_whole k)


theorem ok_agree_step_h (Z : Zs mg) (D : Ds K mg) (k : Nat) (c__law_is_whole_h : CalE P w K mg base "_law_is_whole" 1 ["value"] (fun _ => spIsWhole)) (c__law_agree_h : CalE P w K mg base "_law_agree" (k + 1) ["actual", "due"] (fun _ => spAgree k)) : CalE P w K mg base "_law_agree" (k + 2) ["actual", "due"] (fun _ => spAgree (k + 1)) := by
  refine Def.calE D.d_law_agree sc_law_agree (fun p vs H Q E h => ?_) (fun f cdv A outer s H vs Q E p hot hr h => ?_)
  · obtain ⟨v, w, d, rfl, hv, hw, sz, hk, q⟩ := h
    rfl
  obtain ⟨v, w, d, rfl, hv, hw, sz, hk, q⟩ := h
  refine ⟨_, (pss_cons (ps_if (PW.pt (pw_or (PW.pt (pw_and (pt_val (pe_callB call_isD (by rfl) Z.z_isinstance (by decide +kernel) (pa_cons (pv 1) (pa_cons (pe_bltn (v := .ty "tuple") (by rfl) Z.z_tuple (by decide +kernel) rfl) pa_nil)))) (pw_and1 (pt_val (pe_callB call_isD (by rfl) Z.z_isinstance (by decide +kernel) (pa_cons (pv 0) (pa_cons (pe_bltn (v := .ty "tuple") (by rfl) Z.z_tuple (by decide +kernel) rfl) pa_nil))))))) (pw_or1 (PW.pt (pw_and (pt_val (pe_callB call_isD (by rfl) Z.z_isinstance (by decide +kernel) (pa_cons (pv 1) (pa_cons (pe_bltn (v := .ty "list") (by rfl) Z.z_list (by decide +kernel) rfl) pa_nil)))) (pw_and1 (pt_val (pe_callB call_isD (by rfl) Z.z_isinstance (by decide +kernel) (pa_cons (pv 0) (pa_cons (pe_bltn (v := .ty "list") (by rfl) Z.z_list (by decide +kernel) rfl) pa_nil)))))))))) (pss_one (ps_ret (pe_and (pe_cmp (pc_eqI (pe_callB call_len (by rfl) Z.z_len (by decide +kernel) (pa_cons (pv 0) pa_nil)) (pe_callB call_len (by rfl) Z.z_len (by decide +kernel) (pa_cons (pv 1) pa_nil))) (nomark _)) (pe_one (pe_callB (cr_allH (hot_in hot List.mem_cons_self)) (by rfl) Z.z_all (by decide +kernel) (pa_cons (pe_lcH (own := [("k", 2)]) (g := gName 2) (tt := tYes) (hot_in hot List.mem_cons_self) sc_law_agree.nd (L2H.pi_range1H (by rfl) Z.z_range (pa_cons (pe_callB call_len (by rfl) Z.z_len (by decide +kernel) (pa_cons (pv 1) pa_nil)) pa_nil)) (blkOk_by (N := ["actual", "due", "k"]) (sc := defScope s_law_agree) (by decide +kernel)) (fun _ _ _ _ _ => pg_name (i := 2) sc_law_agree.nd rfl (Or.inl rfl)) (fun _ _ _ _ _ => pts_nil) (fun _ _ _ _ _ => (pe_calE c__law_agree_h (hr.mono (by first | decide | omega)) hot List.mem_cons_self (by rfl) (pa_cons (pe_ix (ix_seqK (K := K) rfl) (pv 0) (pv 2) (fun _ _ => rfl)) (pa_cons (pe_ix (ix_seqK (K := K) rfl) (pv 1) (pv 2) (fun _ _ => rfl)) pa_nil))))) pa_nil)))))) pss_nil)
      (pss_cons (ps_if (PW.pt (pw_or (pt_cmpR op_isN (pv 1) pe_non (nomark _)) (pw_or (pt_cmpR op_isBD (pv 1) pe_bl (nomark _)) (pw_or1 (pt_cmpR op_isBD (pv 1) pe_bl (nomark _)))))) (pss_one (ps_ret (pe_or (pe_and (pe_cmpR op_isN (pv 0) pe_non (nomark _)) (pe_one (pe_cmpR op_isN (pv 1) pe_non (nomark _)))) (pe_or (pe_and (pe_cmpR op_isBD (pv 0) pe_bl (nomark _)) (pe_one (pe_cmpR op_isBD (pv 1) pe_bl (nomark _)))) (pe_one (pe_and (pe_cmpR op_isBD (pv 0) pe_bl (nomark _)) (pe_one (pe_cmpR op_isBD (pv 1) pe_bl (nomark _))))))))) pss_nil)
      (pss_cons (ps_if (pt_val (pe_callB call_isD (by rfl) Z.z_isinstance (by decide +kernel) (pa_cons (pv 1) (pa_cons (pe_bltn (v := .ty "int") (by rfl) Z.z_int (by decide +kernel) rfl) pa_nil)))) (pss_one (ps_ret (pe_and (pe_calE c__law_is_whole_h (hr.mono (by first | decide | omega)) hot List.mem_cons_self (by rfl) (pa_cons (pv 0) pa_nil)) (pe_one (pe_cmpR op_eq (pv 0) (pv 1) (nomark _)))))) pss_nil)
      (pss_one (ps_ret (pe_and (pe_callB call_isD (by rfl) Z.z_isinstance (by decide +kernel) (pa_cons (pv 1) (pa_cons (pe_bltn (v := .ty "str") (by rfl) Z.z_str (by decide +kernel) rfl) pa_nil))) (pe_and (pe_callB call_isD (by rfl) Z.z_isinstance (by decide +kernel) (pa_cons (pv 0) (pa_cons (pe_bltn (v := .ty "str") (by rfl) Z.z_str (by decide +kernel) rfl) pa_nil))) (pe_one (pe_cmpR op_eq (pv 0) (pv 1) (nomark _)))))))))), ?_⟩
  rcases hw.kind with ⟨rfl, rfl⟩ | ⟨b, rfl, rfl⟩ | ⟨j, rfl, rfl⟩ | ⟨j, rfl, rfl⟩ | ⟨b, ys, es, t, rfl, hb, hbt, hbl, dys, rfl⟩
  · cases hv
    refine ⟨_, rfl, _, _, "tuple", rfl, .non, ok_tuple, _, rfl, iteBF rfl (iteF ⟨_, rfl, _, _, "list", rfl, .non, ok_list, _, rfl, iteBF rfl (iteF ?_)⟩)⟩
    refine ⟨_, rfl, rfl, _, rfl, iteDT rfl (iteT ?_)⟩
    refine ⟨_, rfl, rfl, _, rfl, iteDT rfl ⟨_, rfl, rfl, _, rfl, iteDT rfl ?_⟩⟩
    exact q H (Same.refl _)
  · cases hv
    refine ⟨_, rfl, _, _, "tuple", rfl, .bl b, ok_tuple, _, rfl, iteBF rfl (iteF ⟨_, rfl, _, _, "list", rfl, .bl b, ok_list, _, rfl, iteBF rfl (iteF ?_)⟩)⟩
    refine ⟨_, rfl, rfl, _, rfl, iteDF (by intro z; cases z) ?_⟩
    cases b with
    | true =>
      refine ⟨_, rfl, _, true, .bl true, rfl, _, rfl, iteDT rfl (iteT ?_)⟩
      refine ⟨_, rfl, rfl, _, rfl, iteDF (by intro z; cases z) ?_⟩
      refine ⟨_, rfl, iteF ⟨_, rfl, _, true, .bl true, rfl, _, rfl, iteDT rfl ⟨_, rfl, _, true, .bl true, rfl, _, rfl, iteDT rfl ?_⟩⟩⟩
      exact q H (Same.refl _)
    | false =>
      refine ⟨_, rfl, _, true, .bl false, rfl, _, rfl, iteDF (by intro z; cases z) ⟨_, rfl, _, false, .bl false, rfl, _, rfl, iteDT rfl ?_⟩⟩
      refine ⟨_, rfl, rfl, _, rfl, iteDF (by intro z; cases z) ?_⟩
      refine ⟨_, rfl, iteF ⟨_, rfl, _, true, .bl false, rfl, _, rfl, iteDF (by intro z; cases z) ?_⟩⟩
      refine ⟨_, rfl, iteF ⟨_, rfl, _, false, .bl false, rfl, _, rfl, iteDT rfl ⟨_, rfl, _, false, .bl false, rfl, ?_⟩⟩⟩
      exact q H (Same.refl _)
  · cases hv
    refine ⟨_, rfl, _, _, "tuple", rfl, .int j, ok_tuple, _, rfl, iteBF rfl (iteF ⟨_, rfl, _, _, "list", rfl, .int j, ok_list, _, rfl, iteBF rfl (iteF ?_)⟩)⟩
    refine ⟨_, rfl, rfl, _, rfl, iteDF (by intro z; cases z) ⟨_, rfl, _, true, .int j, rfl, _, rfl, iteDF (by intro z; cases z) ⟨_, rfl, _, false, .int j, rfl, _, rfl, iteDF (by intro z; cases z) ?_⟩⟩⟩
    refine ⟨_, rfl, _, _, "int", rfl, .int j, .inl rfl, _, rfl, iteBT (ib_int_int j) ?_⟩
    refine ⟨_, rfl, _, _, rfl, .int j, _, rfl, iteT ?_⟩
    refine ⟨_, rfl, _, rfl, rfl, ?_⟩
    rw [decide_eq_true rfl]
    exact q H (Same.refl _)
  · cases hv
    refine ⟨_, rfl, _, _, "tuple", rfl, .str j, ok_tuple, _, rfl, iteBF rfl (iteF ⟨_, rfl, _, _, "list", rfl, .str j, ok_list, _, rfl, iteBF rfl (iteF ?_)⟩)⟩
    refine ⟨_, rfl, rfl, _, rfl, iteDF (by intro z; cases z) ⟨_, rfl, _, true, .str j, rfl, _, rfl, iteDF (by intro z; cases z) ⟨_, rfl, _, false, .str j, rfl, _, rfl, iteDF (by intro z; cases z) ?_⟩⟩⟩
    refine ⟨_, rfl, _, _, "int", rfl, .str j, .inl rfl, _, rfl, iteBF (ib_str_int j) ?_⟩
    refine ⟨_, rfl, _, _, "str", rfl, .str j, ok_str, _, rfl, iteBT (ib_str_str j) ⟨_, rfl, _, _, "str", rfl, .str j, ok_str, _, rfl, iteBT (ib_str_str j) ?_⟩⟩
    refine ⟨_, rfl, _, rfl, rfl, ?_⟩
    rw [decide_eq_true rfl]
    exact q H (Same.refl _)
  · obtain ⟨a, xs, rfl, ha, dxs⟩ := sq_of hv
    have lx := dxs.length
    have ly := dys.length
    have sd := sqD_sz t es
    have zs : szD (sqD t es) + 0 ≤ 100000 := sz
    have le := szL_len es
    refine ifS_then ?_ (fun ret => ?_)
    · refine ⟨_, rfl, _, _, rfl, HasL.lenV ha, _, rfl, _, _, rfl, HasL.lenV hb, _, _, rfl, rfl, _, rfl, iteDT (by omega) ?_⟩
      refine ⟨_, rfl, _, _, rfl, HasL.lenV hb, _, rfl, by omega, by omega, fun l hl => ?_⟩
      refine lc_range (lo := 0) (n := ((ys.length : Nat) : Int).toNat) (fun i H' => ∃ bs : List Bool, Same H H' ∧ H' l = some (.lst (bs.map V.bl)) ∧ bs.length = i ∧ bs.all id = true) ?_ ?_ ?_
      · exact ⟨[], (⟨hl, rfl⟩ : New H l (.lst []) _).same, upd_same, rfl, rfl⟩
      · rintro i H1 hi ⟨bs, s1, h1, lb, ab⟩
        obtain ⟨x1, e1, a1⟩ := at_nat (xs := xs) (i := i) (by omega)
        obtain ⟨x2, e2, a2⟩ := at_nat (xs := ys) (i := i) (by omega)
        obtain ⟨d1, f1, k1⟩ := dxs.get e1
        obtain ⟨d2, f2, k2⟩ := dys.get e2
        rw [f1] at f2
        obtain rfl := Option.some.inj f2
        have zd := szL_get f1
        refine ⟨rfl, yesT ⟨_, rfl, _, rfl, rIx_of (ha.up s1) a1 ⟨_, rfl, _, rfl, rIx_of (hb.up s1) a2 ⟨x1, x2, d1, rfl, k1.up s1, k2.up s1, by show szD d1 + 0 ≤ _; omega, lv_get hk (List.mem_of_getElem? f1), fun H2 s2 => ⟨_, s2 _ _ h1, by rw [List.length_map]; exact lt (by omega), bs ++ [true], same_mut (s1.trans s2) hl rfl, ?_, by rw [List.length_append, lb]; rfl, by rw [List.all_append, ab]; rfl⟩⟩⟩⟩⟩
        rw [upd_same, List.map_append]
        rfl
      · rintro H1 ⟨bs, s1, h1, lb, ab⟩
        refine ⟨l, bs, rfl, .of h1, ?_⟩
        rw [ab]
        exact q H1 s1
    · cases t with
      | true => exact ⟨_, rfl, _, _, "tuple", rfl, hw, ok_tuple, _, rfl, iteBT (ib_tuple_tuple es) ⟨_, rfl, _, _, "tuple", rfl, hv, ok_tuple, _, rfl, iteBT (ib_tuple_tuple es) (iteT ret)⟩⟩
      | false => exact ⟨_, rfl, _, _, "tuple", rfl, hw, ok_tuple, _, rfl, iteBF (ib_list_tuple es) (iteF ⟨_, rfl, _, _, "list", rfl, hw, ok_list, _, rfl, iteBT (ib_list_list es) ⟨_, rfl, _, _, "list", rfl, hv, ok_list, _, rfl, iteBT (ib_list_list es) ret⟩⟩)⟩
theorem ok_agree_h (Z : Zs mg) (D : Ds K mg) (c__law_is_whole_h : CalE P w K mg base "_law_is_whole" 1 ["value"] (fun _ => spIsWhole)) : ∀ k, CalE P w K mg base "_law_agree" (k + 1) ["actual", "due"] (fun _ => spAgree k)
  | 0 => no_levelNE D.d_law_agree fun _ vs H Q E h => by
    obtain ⟨v, w, d, _, _, _, _, e, _⟩ := h
    cases e
  | k + 1 => ok_agree_step_h Z D k c__law_is_whole_h (ok_agree_h Z D c__law_is_whole_h k)


theorem sum_pos0 : ∀ {Z : List Int}, (∀ z ∈ Z, 0 ≤ z) → 0 ≤ Z.sum
  | [], _ => by simp
  | a :: r, p => by
    have := sum_pos0 fun z hz => p z (List.mem_cons_of_mem a hz)
    have := p a List.mem_cons_self
    rw [List.sum_cons]
    omega
theorem sum_ge0 : ∀ {Z : List Int}, (∀ z ∈ Z, 0 ≤ z) → ∀ z ∈ Z, z ≤ Z.sum
  | [], _, z, h => by cases h
  | a :: r, p, z, h => by
    have pr : ∀ z ∈ r, 0 ≤ z := fun z hz => p z (List.mem_cons_of_mem _ hz)
    have r0 : 0 ≤ r.sum := sum_pos0 pr
    have a1 := p a List.mem_cons_self
    rw [List.sum_cons]
    rcases List.mem_cons.mp h with e | h
    · omega
    · have := sum_ge0 pr z h
      omega
theorem sum_take0 {Z : List Int} (p : ∀ z ∈ Z, 0 ≤ z) (k : Nat) : (Z.take k).sum ≤ Z.sum := by
  have e : Z.sum = (Z.take k).sum + (Z.drop k).sum := by rw [← List.sum_append, List.take_append_drop]
  have := sum_pos0 fun z hz => p z (List.mem_of_mem_drop (i := k) hz)
  omega
theorem sgn_mv0 {n s g : Int} (h0 : 0 ≤ n) (hg : g = 1 ∨ g = -1) : IsMv ((List.range n.toNat).map fun (k : Nat) => (g * (k : Int) + s) % n) n := by
  by_cases c : n = 0
  · subst c
    exact .nil
  · exact sgn_mv (by omega) hg
def spTurnsM : Sp := fun vs H Q _ => ∃ (S : Sr) (G : Hp), vs = [.ref S.a] ∧ Wd S G H ∧
  ∀ (l : Addr) (xs : List V) (T : List (List Int)) (n : Int) (G' H' : Hp), Go S G H G' H' → H l = none → G' l = none → H' l = some (.lst xs) → DaAll G' xs (T.map rowD) → AllMv n T → 0 < T.length → T.length ≤ 2 → 0 ≤ n → n ≤ 12 → Q (.ref l) H'
theorem ok_turns (Z : Zs mg) (D : Ds K mg) (c__law_take : Cal P w K mg base "_law_take" 2 ["store", "many"] spTake) (c__law_pick : Cal P w K mg base "_law_pick" 3 ["store", "things"] spPick) : Cal P w K mg base "_law_turns" 4 ["store"] spTurnsM := by
  refine Def.cal D.d_law_turns sc_law_turns (fun vs H Q E h => ?_) (fun f cdv A outer s H vs Q E hr h => ?_)
  · obtain ⟨S, G, rfl, wd, q⟩ := h
    rfl
  obtain ⟨S, G, rfl, wd, q⟩ := h
  refine ⟨_, (pss_cons (ps_set (i := 1) sc_law_turns.nd rfl (Or.inl rfl) (pe_cal c__law_pick (hr.mono (by first | decide | omega)) (by rfl) (pa_cons (pv 0) (pa_cons (pe_lstN (pa_cons pe_int (pa_cons pe_int (pa_cons pe_int (pa_cons pe_int (pa_cons pe_int (pa_cons pe_int (pa_cons pe_int pa_nil)))))))) pa_nil))))
      (pss_cons (ps_set (i := 2) sc_law_turns.nd rfl (Or.inl rfl) (pe_disp (pps_cons pe_int (pe_lstN (pa_cons pe_int (pa_cons pe_int (pa_cons pe_int (pa_cons pe_int pa_nil))))) (pps_cons pe_int (pe_lstN (pa_cons pe_int (pa_cons pe_int (pa_cons pe_int (pa_cons pe_int (pa_cons pe_int pa_nil)))))) (pps_cons pe_int (pe_lstN (pa_cons pe_int (pa_cons pe_int (pa_cons pe_int pa_nil)))) (pps_cons pe_int (pe_lstN (pa_cons pe_int (pa_cons pe_int (pa_cons pe_int pa_nil)))) (pps_cons pe_int (pe_lstN (pa_cons pe_int (pa_cons pe_int (pa_cons pe_int pa_nil)))) pps_nil))))) (by rfl) rfl (by simp) (by decide)))
      (pss_cons (ps_set (i := 3) sc_law_turns.nd rfl (Or.inl rfl) (pe_lstN (pa_cons (pv 1) pa_nil)))
      (pss_cons (ps_for PassesOwn.never rfl (pi_range1 (by rfl) Z.z_range (pa_cons (pe_op op_add pe_int (pe_cal c__law_take (hr.mono (by first | decide | omega)) (by rfl) (pa_cons (pv 0) (pa_cons pe_int pa_nil)))) pa_nil)) (pg_name (i := 4) sc_law_turns.nd rfl (Or.inl rfl)) (pss_cons (ps_set (i := 5) sc_law_turns.nd rfl (Or.inr rfl) (pe_cal c__law_pick (hr.mono (by first | decide | omega)) (by rfl) (pa_cons (pv 0) (pa_cons (pe_dget (hu_of hr) (pv 2) (pv 1) (fun _ _ => rfl)) pa_nil))))
      (pss_one (ps_if (pt_cmp (pc_le (pe_op op_add (pe_callB (cr_sum rfl) (by rfl) Z.z_sum (by decide +kernel) (pa_cons (pv 3) pa_nil)) (pv 5)) pe_int) (nomark _)) (pss_one (ps_expr (pe_bm PySem.F.plainAttrs_list PySem.F.slot_list_append PySem.F.type_list_append mt_appendN (pv 3) (pa_cons (pv 5) pa_nil)))) pss_nil))))
      (pss_cons (ps_set (i := 6) sc_law_turns.nd rfl (Or.inl rfl) (pe_lstN pa_nil))
      (pss_cons (ps_for PassesOwn.never rfl (pi_range1 (by rfl) Z.z_range (pa_cons (pe_op op_add pe_int (pe_cal c__law_take (hr.mono (by first | decide | omega)) (by rfl) (pa_cons (pv 0) (pa_cons pe_int pa_nil)))) pa_nil)) (pg_name (i := 7) sc_law_turns.nd rfl (Or.inl rfl)) (pss_cons (ps_set (i := 8) sc_law_turns.nd rfl (Or.inl rfl) (pe_lstN pa_nil))
      (pss_cons (ps_for PassesOwn.never rfl (pi_list (pv 3)) (pg_name (i := 5) sc_law_turns.nd rfl (Or.inr rfl)) (pss_cons (ps_set (i := 9) sc_law_turns.nd rfl (Or.inr rfl) (pe_callB call_len_seq (by rfl) Z.z_len (by decide +kernel) (pa_cons (pv 8) pa_nil)))
      (pss_cons (ps_set (i := 10) sc_law_turns.nd rfl (Or.inr rfl) (pe_ix ix_list (pe_lstN (pa_cons pe_int (pa_cons (pe_cal c__law_take (hr.mono (by first | decide | omega)) (by rfl) (pa_cons (pv 0) (pa_cons (pv 5) pa_nil))) pa_nil))) (pv 7) (fun _ _ => rfl)))
      (pss_one (ps_set (i := 8) sc_law_turns.nd rfl (Or.inl rfl) (pe_op op_catN (pv 8) (pe_lc (own := [("k", 4)]) (g := gName 4) (tt := tYes) (by rfl) sc_law_turns.nd (pi_range1 (by rfl) Z.z_range (pa_cons (pv 5) pa_nil)) (blkOk_by (N := ["store", "big", "parts", "sizes", "k", "size", "told", "j", "image", "base", "shift"]) (sc := defScope s_law_turns) (by decide +kernel)) (fun _ _ _ _ _ => pg_name (i := 4) sc_law_turns.nd rfl (Or.inl rfl)) (fun _ _ _ _ _ => pts_nil) (fun _ _ _ _ _ => (pe_op op_add (pv 9) (pe_op op_mod (pe_callTy call_int1 (by rfl) Z.z_int (by decide +kernel) (pa_cons (pe_op op_add (pv 4) (pv 10)) pa_nil)) (pv 5)))))))))))
      (pss_one (ps_expr (pe_bm PySem.F.plainAttrs_list PySem.F.slot_list_append PySem.F.type_list_append mt_appendN (pv 6) (pa_cons (pe_callTy call_tupleN (by rfl) Z.z_tuple (by decide +kernel) (pa_cons (pv 8) pa_nil)) pa_nil)))))))
      (pss_one (ps_ret (pv 6))))))))), ?_⟩
  refine ⟨_, rfl, by show 7 ≤ sizeLine; decide, fun l0 H1 n1 => ?_⟩
  obtain ⟨s1, g1, h1, f1⟩ := (Go.refl wd).loc n1
  refine ⟨S, G, .ref l0, _, rfl, s1.wd, .inl ⟨l0, rfl, s1.ns f1, h1⟩, by show 0 < 7; decide, by show 7 < 1000000; decide, fun big H2 hbig s2 => ?_⟩
  have s2 := s1.trans s2
  refine fun p hp => ?_
  obtain ⟨s3, g3, h3, f3⟩ := s2.loc (⟨hp, rfl⟩ : New H2 p (.dK []) _)
  refine ⟨by show 4 ≤ sizeLine; decide, fun a4 H4 n4 => ⟨by show 5 ≤ sizeLine; decide, fun a5 H5 n5 => ⟨by show 3 ≤ sizeLine; decide, fun a6 H6 n6 => ⟨by show 3 ≤ sizeLine; decide, fun a8 H8 n8 => ⟨by show 3 ≤ sizeLine; decide, fun a9 H9 n9 => ?_⟩⟩⟩⟩⟩
  have s9 := ((((s3.loc n4).1.loc n5).1.loc n6).1.loc n8).1.loc n9
  have hp9 : H9 p = some (.dK []) := n9.else (n8.else (n6.else (n5.else (n4.else h3))))
  obtain ⟨z, lk, ks, rfl, hv, hk, k0, kl, kb, z4, z9, fk⟩ : ∃ (z : Int) (lk : Addr) (ks : List Int), big = .int z ∧ valV (mergeK [] [((.inl 4 : L2.Key), V.ref a4), (.inl 5, .ref a5), (.inl 6, .ref a6), (.inl 8, .ref a8), (.inl 9, .ref a9)]) (.inl z) = some (.ref lk) ∧ H9 lk = some (.lst (ks.map V.int)) ∧ 0 < ks.length ∧ ks.length ≤ 5 ∧ (∀ x ∈ ks, 1 ≤ x ∧ x ≤ 12) ∧ 4 ≤ z ∧ z ≤ 9 ∧ H lk = none := by
    have e4 := n9.else (n8.else (n6.else (n5.else n4.at)))
    have e5 := n9.else (n8.else (n6.else n5.at))
    have e6 := n9.else (n8.else n6.at)
    have e8 := n9.else n8.at
    have e9 := n9.at
    have F4 := s3.fresh n4.fr
    have F5 := (s3.loc n4).1.fresh n5.fr
    have F6 := ((s3.loc n4).1.loc n5).1.fresh n6.fr
    have F8 := (((s3.loc n4).1.loc n5).1.loc n6).1.fresh n8.fr
    have F9 := ((((s3.loc n4).1.loc n5).1.loc n6).1.loc n8).1.fresh n9.fr
    simp only [List.mem_cons, List.not_mem_nil, or_false] at hbig
    rcases hbig with rfl | rfl | rfl | rfl | rfl | rfl | rfl
    · exact ⟨4, a4, [1, 2, 2, 4], rfl, rfl, e4, by decide, by decide, by decide, by decide, by decide, F4⟩
    · exact ⟨4, a4, [1, 2, 2, 4], rfl, rfl, e4, by decide, by decide, by decide, by decide, by decide, F4⟩
    · exact ⟨6, a6, [1, 2, 3], rfl, rfl, e6, by decide, by decide, by decide, by decide, by decide, F6⟩
    · exact ⟨6, a6, [1, 2, 3], rfl, rfl, e6, by decide, by decide, by decide, by decide, by decide, F6⟩
    · exact ⟨8, a8, [1, 2, 4], rfl, rfl, e8, by decide, by decide, by decide, by decide, by decide, F8⟩
    · exact ⟨9, a9, [1, 3, 3], rfl, rfl, e9, by decide, by decide, by decide, by decide, by decide, F9⟩
    · exact ⟨5, a5, [1, 2, 3, 4, 5], rfl, rfl, e5, by decide, by decide, by decide, by decide, by decide, F5⟩
  have npk : lk ≠ p := fun e => by rw [e, hp9] at hk; cases hk
  refine ⟨hp9, [((.inl 4 : L2.Key), V.ref a4), (.inl 5, .ref a5), (.inl 6, .ref a6), (.inl 8, .ref a8), (.inl 9, .ref a9)], rfl, by show 5 ≤ 15; decide, ?_⟩
  generalize mergeK [] [((.inl 4 : L2.Key), V.ref a4), (.inl 5, .ref a5), (.inl 6, .ref a6), (.inl 8, .ref a8), (.inl 9, .ref a9)] = kvs at hv
  have s10 := s9.1.mut g3 f3 (rfl : upd H9 p (.dK kvs) = _)
  have hkX : (upd H9 p (.dK kvs)) lk = _ := (upd_ne npk).trans hk
  have hpX : (upd H9 p (HO.dK kvs)) p = some (.dK kvs) := upd_same
  generalize (upd H9 p (HO.dK kvs)) = HX at s10 hkX hpX
  refine ⟨_, rfl, by show 1 ≤ sizeLine; decide, fun sl HA nA => ?_⟩
  obtain ⟨sA, gA, hA, fA⟩ := s10.loc nA
  have hkA := nA.else hkX
  have hpA := nA.else hpX
  refine ⟨_, rfl, S, G, 4, rfl, sA.wd, by omega, fun c HB c0 c1 sB => ⟨_, _, rfl, rfl, _, rfl, by omega, by omega, ?_⟩⟩
  have nks : lk ≠ sl := fun e => by have := nA.fr; rw [← e, hkX] at this; cases this
  have nps : p ≠ sl := fun e => by have := nA.fr; rw [← e, hpX] at this; cases this
  have hkB := sB.hh hkA (sA.ns fk)
  have hpB := sB.hh hpA (sA.ns f3)
  have hB := sB.hh hA (sA.ns fA)
  have sB := sA.trans sB
  refine for_range (lo := 0) (n := (1 + c).toNat) (fun i σ' H' => ∃ (Zl : List Int) (y4 y5 : Option V), σ' = [some (.ref S.a), some (.int z), some (.ref p), some (.ref sl), y4, y5, none, none, none, none, none] ∧ Go S G H G H' ∧ H' lk = some (.lst (ks.map V.int)) ∧ H' p = some (.dK kvs) ∧ H' sl = some (.lst (Zl.map V.int)) ∧ (∀ z ∈ Zl, 1 ≤ z) ∧ Zl.sum ≤ 12 ∧ Zl.length ≤ i + 1 ∧ 0 < Zl.length) ⟨[z], none, none, rfl, sB, hkB, hpB, hB, (fun y hy => by rw [List.mem_singleton.mp hy]; omega), by rw [List.sum_cons, List.sum_nil]; omega, Nat.le_refl _, Nat.zero_lt_one⟩ ?_ ?_
  · rintro i σ' HC hi ⟨Zl, y4, y5, rfl, sC, hkC, hpC, hC, pos, sum, len, l0⟩
    have dg : DGet HC p (.int z) (some (.ref lk)) := by
      have := DGet.k (k := (.inl z : L2.Key)) hpC
      rw [hv] at this
      exact this
    refine ⟨_, rfl, _, rfl, _, rfl, p, .ref lk, rfl, dg, ?_⟩
    refine ⟨S, G, .ref lk, ks.map V.int, rfl, sC.wd, .inl ⟨lk, rfl, sC.ns fk, hkC⟩, by rw [List.length_map]; exact k0, by rw [List.length_map]; exact Nat.lt_of_le_of_lt kl (by decide), fun x HD hx sD => ?_⟩
    obtain ⟨y, hy, rfl⟩ := List.mem_map.mp hx
    have yb := kb y hy
    have hkD := sD.hh hkC (sC.ns fk)
    have hpD := sD.hh hpC (sC.ns f3)
    have hD := sD.hh hC (sC.ns fA)
    have sD := sC.trans sD
    refine ⟨_, rfl, sl, Zl, rfl, .of hD, _, rfl, _, _, rfl, rfl, _, _, rfl, rfl, _, rfl, ite2 (fun c => ?_) (fun c => ⟨Zl, _, _, rfl, sD, hkD, hpD, hD, pos, sum, by omega, l0⟩)⟩
    have c : Zl.sum + y ≤ 12 := dec_of c
    refine ⟨_, rfl, .inl ⟨rfl, _, .of hD⟩, _, rfl, sl, _, _, rfl, rfl, hD, by rw [List.length_map]; exact lt (by omega), fun HE eE => ?_⟩
    refine ⟨Zl ++ [y], _, _, rfl, sD.mut gA fA eE, upd_else eE hkD nks, upd_else eE hpD nps, ?_, fun v hv => ?_, ?_, ?_, by rw [List.length_append]; omega⟩
    · rw [upd_at eE, List.map_append]
      rfl
    · rcases List.mem_append.mp hv with h | h
      · exact pos v h
      · rw [List.mem_singleton.mp h]
        exact yb.1
    · rw [List.sum_append, List.sum_cons, List.sum_nil]
      omega
    · rw [List.length_append]
      show _ + 1 ≤ _
      omega
  rintro σ' HC ⟨Zl, y4, y5, rfl, sC, -, -, hC, pos, sum, len, l0⟩
  have z12 : ∀ z ∈ Zl, z ≤ 12 := fun z hz => by
    have := sum_ge0 (Z := Zl) (fun y hy => by have := pos y hy; omega) z hz
    omega
  have pos0 : ∀ z ∈ Zl, 0 ≤ z := fun y hy => by have := pos y hy; omega
  have n0 : 0 ≤ Zl.sum := sum_pos0 pos0
  refine ⟨by show 0 ≤ sizeLine; decide, fun tl HD nD => ?_⟩
  obtain ⟨sD, g2, h2, f2⟩ := sC.loc nD
  have hD := nD.else hC
  have ne12 : sl ≠ tl := fun e => by have := nD.fr; rw [← e, hC] at this; cases this
  refine ⟨_, rfl, S, G, 2, rfl, sD.wd, by omega, fun c HE c0 c1 sE => ⟨_, _, rfl, rfl, _, rfl, by omega, by omega, ?_⟩⟩
  have hE := sE.hh hD (sD.ns fA)
  have h2 := sE.hh h2 (sD.ns f2)
  have sE := sD.trans sE
  refine for_range (lo := 0) (n := (1 + c).toNat) (fun j σ' H' => ∃ (G' : Hp) (xs : List V) (T : List (List Int)) (y4 y5 y7 y8 y9 y10 : Option V), σ' = [some (.ref S.a), some (.int z), some (.ref p), some (.ref sl), y4, y5, some (.ref tl), y7, y8, y9, y10] ∧ Go S G H G' H' ∧ G' sl = none ∧ G' tl = none ∧
    H' sl = some (.lst (Zl.map V.int)) ∧ H' tl = some (.lst xs) ∧ T.length = j ∧ DaAll G' xs (T.map rowD) ∧ AllMv Zl.sum T) ⟨G, [], [], _, _, _, _, _, _, rfl, sE, gA, g2, hE, h2, rfl, .nil, (fun m hm => by cases hm)⟩ ?_ ?_
  · rintro j σ' HF hj ⟨GF, xs, T, y4, y5, y7, y8, y9, y10, rfl, sF, gF1, gF2, hF1, hF2, lx, dT, mvT⟩
    have lxs := dT.length
    rw [List.length_map] at lxs
    refine ⟨by show 0 ≤ sizeLine; decide, fun il HG nG => ?_⟩
    obtain ⟨sG, gG3, hG3, f3'⟩ := sF.loc nG
    have hG1 := nG.else hF1
    have hG2 := nG.else hF2
    refine ⟨_, rfl, sl, rfl, ⟨_, .of hG1⟩, for_list (K := K) (a := sl) (xs := Zl.map V.int) (fun t σ' H' => ∃ (L : List Int) (il : Addr) (y4 y5 y9 y10 : Option V), σ' = [some (.ref S.a), some (.int z), some (.ref p), some (.ref sl), y4, y5, some (.ref tl), some (.int (0 + (j : Int))), some (.ref il), y9, y10] ∧ Go S G H GF H' ∧ H il = none ∧
      H' sl = some (.lst (Zl.map V.int)) ∧ H' tl = some (.lst xs) ∧ H' il = some (.lst (L.map V.int)) ∧ IsMv L (Zl.take t).sum ∧ 0 ≤ (Zl.take t).sum ∧ (Zl.take t).sum ≤ 12) ?_ ?_ ?_ ?_⟩
    · exact ⟨[], il, _, _, _, _, rfl, sG, f3', hG1, hG2, hG3, .nil, by simp, by simp⟩
    · rintro t σ' H' - ⟨L, il, y4, y5, y9, y10, rfl, s7, -, h7a, -⟩
      exact .of h7a
    · rintro t x σ' H7 hx ⟨L, il, y4, y5, y9, y10, rfl, s7, fil, h7a, h7b, h7c, mv, t0, t12⟩
      obtain ⟨y, hy, rfl⟩ := map_at hx
      have ym := List.mem_of_getElem? hy
      have y1 := pos y ym
      have y12 := z12 y ym
      have ln := mv.len
      have step : (Zl.take (t + 1)).sum = (Zl.take t).sum + y := by rw [List.take_add_one, hy, List.sum_append]; simp
      have upto : (Zl.take (t + 1)).sum ≤ 12 := by
        have := sum_take0 pos0 (t + 1)
        omega
      refine ⟨_, rfl, il, _, rfl, .inl (.of h7c), ?_⟩
      refine ⟨_, rfl, _, rfl, S, GF, y, rfl, s7.wd, by omega, fun d H8 d0 d1 s8 => ⟨by show 2 ≤ sizeLine; decide, fun l5 H9 n9 => ?_⟩⟩
      have h8a := n9.else (s8.hh h7a (s7.ns fA))
      have h8b := n9.else (s8.hh h7b (s7.ns f2))
      have h8c := n9.else (s8.hh h7c (s7.ns fil))
      have s9 := ((s7.trans s8).loc n9).1
      obtain ⟨sh, ash⟩ : ∃ sh : Int, atI [V.int 1, V.int d] (0 + (j : Int)) = some (.int sh) := by
        have : j = 0 ∨ j = 1 := by omega
        rcases this with rfl | rfl
        · exact ⟨1, rfl⟩
        · exact ⟨d, rfl⟩
      refine ⟨_, rfl, l5, _, _, _, rfl, rfl, .of n9.at, ash, _, rfl, _, rfl, y, rfl, by omega, by omega, fun cl hcl => ?_⟩
      have cla : sl ≠ cl := fun e => by rw [← e, h8a] at hcl; cases hcl
      have clb : tl ≠ cl := fun e => by rw [← e, h8b] at hcl; cases hcl
      have clc : il ≠ cl := fun e => by rw [← e, h8c] at hcl; cases hcl
      refine lc_range (lo := 0) (n := y.toNat) (fun u H' => Go S G H GF H' ∧ GF cl = none ∧ H cl = none ∧ H' sl = some (.lst (Zl.map V.int)) ∧ H' tl = some (.lst xs) ∧ H' il = some (.lst (L.map V.int)) ∧ H' cl = some (.lst ((((List.range u).map fun (k : Nat) => (1 * (k : Int) + sh) % y).map ((Zl.take t).sum + ·)).map V.int))) ?_ ?_ ?_
      · obtain ⟨sX, gX, hX, fX⟩ := s9.loc (p := cl) (o := .lst []) ⟨hcl, rfl⟩
        exact ⟨sX, gX, fX, by rw [upd_ne cla]; exact h8a, by rw [upd_ne clb]; exact h8b, by rw [upd_ne clc]; exact h8c, hX⟩
      · rintro u HA hu ⟨sA, gX, fX, hAa, hAb, hAc, hX⟩
        have back : (((Zl.take t).sum.toNat : Nat) : Int) = (Zl.take t).sum := by omega
        refine ⟨rfl, yesT ⟨_, rfl, _, rfl, _, rfl, _, _, rfl, rfl, .inl ⟨_, rfl, _, rfl, _, _, rfl, rfl, by show (0 : Int) < y; omega, _, _, rfl, rfl, _, hX, ?_, sA.mut gX fX rfl, gX, fX, by rw [upd_ne cla]; exact hAa, by rw [upd_ne clb]; exact hAb, by rw [upd_ne clc]; exact hAc, ?_⟩⟩⟩
        · rw [List.length_map, List.length_map, List.length_map, List.length_range]
          exact lt (by omega)
        · rw [upd_same, List.range_succ, List.length_map, ln, Int.zero_add]
          simp [List.map_append, back]
      rintro HA ⟨sA, gX, fX, hAa, hAb, hAc, hX⟩
      refine ⟨il, cl, _, _, rfl, rfl, hAc, hX, Nat.le_trans (show _ ≤ 100 by simp only [List.length_map, List.length_range]; omega) (by decide), fun nl HB nB => ?_⟩
      obtain ⟨sB, gB, hB, fB⟩ := sA.loc nB
      refine ⟨L ++ ((List.range y.toNat).map fun (k : Nat) => (1 * (k : Int) + sh) % y).map ((Zl.take t).sum + ·), nl, _, _, _, _, rfl, sB, fB, nB.else hAa, nB.else hAb, ?_, ?_, by omega, upto⟩
      · rw [hB, ← List.map_append]
      · rw [step]
        exact app_mv t0 (by omega) mv (sgn_mv0 (by omega) (.inl rfl))
    · rintro σ' H7 ⟨L, il, y4, y5, y9, y10, rfl, s7, fil, h7a, h7b, h7c, mv, t0, t12⟩
      rw [List.length_map, List.take_length] at mv
      refine ⟨_, rfl, .inl ⟨rfl, _, .of h7b⟩, _, rfl, il, _, rfl, .of h7c, fun p1 H8 n8 => ?_⟩
      obtain ⟨G8, s8, g8, k8, o8⟩ := s7.know n8
      have h8a := n8.else h7a
      have h8b := n8.else h7b
      have g81 : G8 sl = none := by
        rw [o8 sl fun z => by rw [z, n8.fr] at h7a; cases h7a]
        exact gF1
      have g82 : G8 tl = none := by
        rw [o8 tl fun z => by rw [z, n8.fr] at h7b; cases h7b]
        exact gF2
      refine ⟨tl, _, _, rfl, rfl, h8b, lt (by omega), fun H9 e9 => ?_⟩
      refine ⟨G8, xs ++ [.ref p1], T ++ [L], _, _, _, _, _, _, rfl, s8.mut g82 f2 e9, g81, g82, upd_else e9 h8a ne12, upd_at e9, by rw [List.length_append, lx]; rfl, ?_, fun m hm => (List.mem_append.mp hm).elim (mvT m) fun h => by rw [List.mem_singleton.mp h]; exact mv⟩
      rw [List.map_append]
      exact (dT.up g8).append (.one (.tup k8 (DaAll.ints _)))
  · rintro σ' HF ⟨GF, xs, T, y4, y5, y7, y8, y9, y10, rfl, sF, gF1, gF2, hF1, hF2, lx, dT, mvT⟩
    exact ⟨_, rfl, q tl xs T Zl.sum GF HF sF f2 gF2 hF2 dT mvT (by omega) (by omega) n0 sum⟩


theorem ok_some_move (Z : Zs mg) (D : Ds K mg) (c__law_take : Cal P w K mg base "_law_take" 2 ["store", "many"] spTake) (c__law_drawn : Cal P w K mg base "_law_drawn" 3 ["store", "things", "many"] spDrawn) : Cal P w K mg base "_law_some_move" 4 ["store", "points"] spMove := by
  refine Def.cal D.d_law_some_move sc_law_some_move (fun vs H Q E h => ?_) (fun f cdv A outer s H vs Q E hr h => ?_)
  · obtain ⟨S, G, n, rfl, wd, h0, h1, q⟩ := h
    rfl
  obtain ⟨S, G, n, rfl, wd, h0, h1, q⟩ := h
  refine ⟨_, (pss_cons (ps_set (i := 2) sc_law_some_move.nd rfl (Or.inl rfl) (pe_listRgN rfl (by rfl) Z.z_list (prg_1 (by rfl) Z.z_range (pv 1))))
      (pss_cons (ps_set (i := 3) sc_law_some_move.nd rfl (Or.inl rfl) (pe_cal c__law_drawn (hr.mono (by first | decide | omega)) (by rfl) (pa_cons (pv 0) (pa_cons (pv 2) (pa_cons (pe_cal c__law_take (hr.mono (by first | decide | omega)) (by rfl) (pa_cons (pv 0) (pa_cons (pe_op op_add (pv 1) pe_int) pa_nil))) pa_nil)))))
      (Evl.pss_cut (ps_if (pt_cmp (pc_eqI (pe_cal c__law_take (hr.mono (by first | decide | omega)) (by rfl) (pa_cons (pv 0) (pa_cons pe_int pa_nil))) pe_int) (nomark _)) (pss_one (ps_set (i := 3) sc_law_some_move.nd rfl (Or.inl rfl) (pe_slice sl_listN (pv 3) po_none (po_some pe_int)))) pss_nil)
      (pss_cons (ps_for PassesOwn.never rfl (pi_range1 (by rfl) Z.z_range (pa_cons (pe_callB call_len_seq (by rfl) Z.z_len (by decide +kernel) (pa_cons (pv 3) pa_nil)) pa_nil)) (pg_name (i := 4) sc_law_some_move.nd rfl (Or.inl rfl)) (pss_one (ps_asg (pe_ix ix_list (pv 3) (pe_op op_mod (pe_callTy call_int1 (by rfl) Z.z_int (by decide +kernel) (pa_cons (pe_op op_add (pv 4) pe_int) pa_nil)) (pe_callB call_len_seq (by rfl) Z.z_len (by decide +kernel) (pa_cons (pv 3) pa_nil))) (fun _ _ => rfl)) (pg_sub (pv 2) (pe_ix ix_list (pv 3) (pv 4) (fun _ _ => rfl)) set_listN))))
      (pss_one (ps_ret (pe_callTy call_tupleN (by rfl) Z.z_tuple (by decide +kernel) (pa_cons (pv 2) pa_nil)))))))), ?_⟩
  refine ⟨_, rfl, n, rfl, .of_le (by decide) (by omega) (by decide) (by omega), fun l H2 n2 => ?_⟩
  obtain ⟨s2, gl, hl, fl⟩ := (Go.refl wd).loc n2
  rw [rgV_rngI] at hl
  refine ⟨_, rfl, _, rfl, _, rfl, _, rfl, _, _, rfl, rfl, S, G, n + 1, rfl, s2.wd, by omega, fun d H3 d0 d1 s3 => ?_⟩
  have hl3 := s3.hh hl (s2.ns fl)
  have s3 := s2.trans s3
  refine ⟨S, G, l, _, d, rfl, s3.wd, .inl hl3, by rw [List.length_map, rngI_len]; omega, by omega, by omega, fun r ys rest H4 s4 gr fr hr_ pm0 hy => ?_⟩
  obtain ⟨rs, ms, rfl, rfl, pm⟩ := perm_ints pm0
  have hl4 := s4.hh hl3 (s3.ns fl)
  have nrl : r ≠ l := fun z => by rw [z] at fr; rw [hl3] at fr; cases fr
  have s4 := s3.trans s4
  have fr := s3.fresh fr
  have nd : rs.Nodup := (List.nodup_append.mp (pm.nodup_iff.mpr (rngI_nodup n))).1
  have hb : ∀ x ∈ rs, 0 ≤ x ∧ x < n := fun x hx => rngI_mem.mp (pm.mem_iff.mp (List.mem_append_left _ hx))
  have lr : rs.length ≤ 10000 := by
    have := pm.length_eq
    rw [List.length_append, rngI_len] at this
    omega
  refine ⟨fun σ' H' => ∃ (r : Addr) (rs : List Int), σ' = [some (.ref S.a), some (.int n), some (.ref l), some (.ref r), none] ∧ Go S G H G H' ∧ H' l = some (.lst ((rngI n).map V.int)) ∧ H' r = some (.lst (rs.map V.int)) ∧ r ≠ l ∧ H r = none ∧ rs.Nodup ∧ (∀ x ∈ rs, 0 ≤ x ∧ x < n) ∧ rs.length ≤ 10000, ?_, ?_⟩
  · refine ⟨_, rfl, S, G, 3, rfl, s4.wd, by omega, fun e H5 e0 e1 s5 => ⟨_, _, rfl, rfl, _, rfl, ite2 (fun c => ?_) (fun c => ⟨r, rs, rfl, s4.trans s5, s5.hh hl4 (s4.ns fl), s5.hh hr_ (s4.ns fr), nrl, fr, nd, hb, lr⟩)⟩⟩
    have hl5 := s5.hh hl4 (s4.ns fl)
    have hr5 := s5.hh hr_ (s4.ns fr)
    have s5 := s4.trans s5
    refine ⟨_, rfl, _, rfl, r, _, rfl, .of hr5, fun r2 H6 n6 => ?_⟩
    obtain ⟨s6, g6, h6, f6⟩ := s5.loc n6
    rw [show cutV (rs.map V.int) none (some 2) = (rs.take 2).map V.int by rw [show (some (2 : Int)) = some ((2 : Nat) : Int) from rfl, cut_upto, ← List.map_take]] at h6
    exact ⟨r2, rs.take 2, rfl, s6, n6.else hl5, h6, (fun z => by have := n6.fr; rw [z, hl5] at this; cases this), f6, (List.take_sublist 2 rs).nodup nd, fun x hx => hb x (List.mem_of_mem_take hx), by rw [List.length_take]; omega⟩
  clear s2 s3 hl hl3 pm0 pm hy hl4 hr_ s4 nrl fr nd hb lr gr d0 d1
  rintro σ' H5 ⟨r, rs, rfl, s5, hl5, hr5, nrl, fr, nd, hb, lr⟩
  have hb2 : ∀ x ∈ rs, 0 ≤ x ∧ x < ((n.toNat : Nat) : Int) := fun x hx => by have := hb x hx; omega
  have lrs : (rs.map V.int).length = rs.length := List.length_map ..
  refine ⟨_, rfl, r, _, rfl, .inl (.of hr5), _, rfl, by omega, by omega, for_range (lo := 0) (n := ((((rs.map V.int).length : Nat) : Int)).toNat) (fun i σ' H' => ∃ (L : List Int) (y4 : Option V), σ' = [some (.ref S.a), some (.int n), some (.ref l), some (.ref r), y4] ∧ Go S G H G H' ∧ H' l = some (.lst (L.map V.int)) ∧ H' r = some (.lst (rs.map V.int)) ∧ Ring n.toNat rs i L) ⟨rngI n, none, rfl, s5, hl5, hr5, Ring.start n rs⟩ ?_ ?_⟩
  · rintro i σ' H6 hi ⟨L, y4, rfl, s6, h6, hr6, R⟩
    have il : i < rs.length := by omega
    have m1 : ((rs.map V.int).length : Int) = ((rs.length : Nat) : Int) := by rw [lrs]
    obtain ⟨x, e1, e2, _⟩ := atI_ints (ns := rs) (d := (0 + (i : Int) + 1) % (((rs.map V.int).length : Nat) : Int)) (Int.emod_nonneg _ (by omega)) (by have := Int.emod_lt_of_pos (0 + (i : Int) + 1) (show 0 < (((rs.map V.int).length : Nat) : Int) by omega); omega)
    obtain ⟨b, f1, f2, _⟩ := atI_ints (ns := rs) (d := 0 + (i : Int)) (by omega) (by omega)
    rw [show (0 + (i : Int)).toNat = i by omega] at f1
    have e1 : rs[(i + 1) % rs.length]? = some x := by
      rw [← e1]
      congr 1
      rw [lrs, show 0 + (i : Int) + 1 = (((i + 1 : Nat)) : Int) by omega, ← Int.natCast_emod]
      rfl
    have bb := hb b (List.mem_of_getElem? f1)
    refine ⟨_, rfl, _, rfl, _, _, rfl, rfl, .inl ⟨_, rfl, _, rfl, r, _, rfl, .inl (.of hr6), _, _, rfl, rfl, by show (0 : Int) < (((rs.map V.int).length : Nat) : Int); omega, r, _, _, _, rfl, rfl, .of hr6, e2, ?_⟩⟩
    refine ⟨_, rfl, _, rfl, _, rfl, r, _, _, _, rfl, rfl, .of hr6, f2, l, _, b.toNat, rfl, by rw [Int.toNat_of_nonneg bb.1], h6, by rw [List.length_map, R.1]; omega, fun H7 e7 => ?_⟩
    refine ⟨L.set b.toNat x, _, rfl, s6.mut gl fl e7, ?_, upd_else e7 hr6 nrl, R.step nd hb2 f1 e1⟩
    rw [upd_at e7, List.map_set]
  · rintro σ' H6 ⟨L, y4, rfl, s6, h6, hr6, R⟩
    have e : ((((rs.map V.int).length : Nat) : Int)).toNat = rs.length := by omega
    rw [e] at R
    refine ⟨_, rfl, l, _, rfl, .of h6, fun p2 H7 n7 => ?_⟩
    obtain ⟨G7, s7, _, k7, _⟩ := s6.know n7
    exact q p2 L G7 H7 s7 k7 (R.mv h0 hb)


/-- the points that some of the moves move -/
def Mvd (n : Int) (L : List (List Int)) (fs : List Int) : Prop := fs.Pairwise (· < ·) ∧ ∀ x, x ∈ fs ↔ inR n x ∧ ∃ w ∈ L, stp w x ≠ x
theorem inR_len {n : Int} {ks : List Int} (n12 : n ≤ 12) (nd : ks.Nodup) (h : ∀ x ∈ ks, inR n x) : ks.length ≤ 12 := by
  have := len_subI (L := rngI n) nd fun x hx => rngI_mem.mpr (h x hx)
  rw [rngI_len] at this
  omega
def spMoved : Sp := fun vs H Q _ => ∃ (G : Hp) (a : Addr) (n : Int) (ms : List V) (L : List (List Int)), vs = [.int n, .ref a] ∧ Same G H ∧ 0 ≤ n ∧ n ≤ 12 ∧ H a = some (.lst ms) ∧ DaAll G ms (L.map rowD) ∧ AllMv n L ∧
  ∀ (p : Addr) (fs : List Int) (H' : Hp), Stq G H G H' → G p = none → H p = none → H' p = some (.lst (fs.map V.int)) → Mvd n L fs → Q (.ref p) H'
theorem ok_lmoved (Z : Zs mg) (D : Ds K mg) : Cal P w K mg base "_law_moved" 1 ["points", "moves"] spMoved := by
  refine Def.cal D.d_law_moved sc_law_moved (fun vs H Q E h => ?_) (fun f cdv A outer s H vs Q E hr h => ?_)
  · obtain ⟨G, a, n, ms, L, rfl, gh, n0, n12, ha, dm, mvL, q⟩ := h
    rfl
  obtain ⟨G, a, n, ms, L, rfl, gh, n0, n12, ha, dm, mvL, q⟩ := h
  refine ⟨_, (pss_cons (ps_set (i := 2) sc_law_moved.nd rfl (Or.inl rfl) pe_dnewK)
      (pss_cons (ps_for PassesOwn.never rfl (pi_list (pv 1)) (pg_name (i := 3) sc_law_moved.nd rfl (Or.inl rfl)) (pss_one (ps_for PassesOwn.never rfl (pi_range1 (by rfl) Z.z_range (pa_cons (pv 0) pa_nil)) (pg_name (i := 4) sc_law_moved.nd rfl (Or.inl rfl)) (pss_one (ps_if (pt_cmp (pc_neI (pe_ix ix_tup (pv 3) (pv 4) (fun _ _ => rfl)) (pv 4)) (nomark _)) (pss_one (ps_dput (hu_of hr) (pv 2) (pv 4) pe_bl rfl)) pss_nil)))))
      (pss_one (ps_ret (pe_callB cr_sortedI (by rfl) Z.z_sorted (by decide +kernel) (pa_cons (pe_callTy (call_listKv (by rfl)) (by rfl) Z.z_list (by decide +kernel) (pa_cons (pe_bm0 PySem.F.plainAttrs_dict PySem.F.slot_dict_keys PySem.F.type_dict_keys mt_keys (pv 2)) pa_nil)) pa_nil)))))), ?_⟩
  refine fun d hd => ?_
  obtain ⟨s1, gd, h1, fd⟩ := (Stq.refl gh).loc2 (p := d) (o := .dK []) ⟨hd, rfl⟩
  generalize upd H d (.dK []) = H1 at s1 h1 ⊢
  have lms := dm.length
  rw [List.length_map] at lms
  refine ⟨_, rfl, a, rfl, ⟨_, .of (s1.hh _ _ ha)⟩, for_list (K := K) (a := a) (xs := ms) (fun i σ' H' => ∃ (kvs : List (Key × V)) (ks : List Int) (y3 y4 : Option V), σ' = [some (.int n), some (.ref a), some (.ref d), y3, y4] ∧ Stq G H G H' ∧ H' d = some (.dK kvs) ∧ KSet kvs ks ∧ ∀ x, x ∈ ks ↔ inR n x ∧ ∃ w ∈ L.take i, stp w x ≠ x) ?_ ?_ ?_ ?_⟩
  · exact ⟨[], [], none, none, rfl, s1, h1, ⟨rfl, List.nodup_nil⟩, fun x => ⟨fun h => absurd h (by simp), fun ⟨_, w, hw, _⟩ => absurd hw (by simp)⟩⟩
  · rintro i σ' H' - ⟨kvs, ks, y3, y4, rfl, s2, -⟩
    exact .of (s2.hh _ _ ha)
  · rintro i y σ' H2 hy ⟨kvs, ks, y3, y4, rfl, s2, h2, kset, mem⟩
    obtain ⟨e, he, de⟩ := dm.get hy
    rw [List.getElem?_map] at he
    obtain ⟨w, hw, rfl⟩ := Option.map_eq_some_iff.mp he
    obtain ⟨c, rfl, hc⟩ := rows_ref de
    have mv := mvL w (List.mem_of_getElem? hw)
    have tk : L.take (i + 1) = L.take i ++ [w] := by rw [List.take_add_one, hw]; rfl
    refine ⟨_, rfl, n, rfl, by omega, by omega, for_range (lo := 0) (n := n.toNat) (fun j σ' H' => ∃ (kvs : List (Key × V)) (ks : List Int) (y4 : Option V), σ' = [some (.int n), some (.ref a), some (.ref d), some (.ref c), y4] ∧ Stq G H G H' ∧ H' d = some (.dK kvs) ∧ KSet kvs ks ∧ ∀ x, x ∈ ks ↔ inR n x ∧ ((∃ w ∈ L.take i, stp w x ≠ x) ∨ (x < (j : Int) ∧ stp w x ≠ x))) ⟨kvs, ks, y4, rfl, s2, h2, kset, fun x => (mem x).trans ⟨fun h => ⟨h.1, .inl h.2⟩, fun h => ⟨h.1, h.2.elim id fun z => absurd z.1 (by have := h.1.1; omega)⟩⟩⟩ ?_ ?_⟩
    · rintro j σ' H3 hj ⟨kvs, ks, y4, rfl, s3, h3, kset, mem⟩
      rw [Int.zero_add]
      have ij : inR n (j : Int) := ⟨by omega, by omega⟩
      obtain ⟨y, e1, e2, -⟩ := atI_ints (ns := w) ij.1 (by have := mv.len; have := ij.2; omega)
      obtain rfl : y = stp w (j : Int) := Option.some.inj (e1.symm.trans (stp_at mv ij).1)
      have lks := inR_len n12 kset.2 fun x hx => ((mem x).mp hx).1
      have lkv := kset.len
      refine ⟨_, rfl, _, rfl, c, _, _, _, rfl, rfl, .of (s3.gh _ _ hc), e2, _, rfl, _, _, rfl, rfl, _, rfl, ite2 (fun c1 => ?_) (fun c1 => ?_)⟩
      · have no : stp w (j : Int) ≠ j := nb_t c1
        obtain ⟨ks2, kset2, lk2, mem2⟩ := kset.put (j : Int) (.bl true)
        refine ⟨_, rfl, _, rfl, d, _, rfl, DPut.k (k := Sum.inl (j : Int)) h3 (Hd.lt (by omega)), _, ks2, _, rfl, s3.mut gd fd rfl, upd_same, kset2, fun x => ?_⟩
        rw [mem2 x, mem x]
        constructor
        · rintro (⟨h, z | z⟩ | rfl)
          · exact ⟨h, .inl z⟩
          · exact ⟨h, .inr ⟨by omega, z.2⟩⟩
          · exact ⟨ij, .inr ⟨by omega, no⟩⟩
        · rintro ⟨h, z | ⟨z1, z2⟩⟩
          · exact .inl ⟨h, .inl z⟩
          · by_cases e : x = (j : Int)
            · exact .inr e
            · exact .inl ⟨h, .inr ⟨by omega, z2⟩⟩
      · have yes : stp w (j : Int) = j := nb_f c1
        refine ⟨kvs, ks, _, rfl, s3, h3, kset, fun x => (mem x).trans ⟨fun h => ⟨h.1, h.2.imp id fun z => ⟨by omega, z.2⟩⟩, fun h => ⟨h.1, h.2.imp id fun z => ⟨?_, z.2⟩⟩⟩⟩
        by_cases e : x = (j : Int)
        · exact absurd (by rw [e]; exact yes) z.2
        · omega
    · rintro σ' H3 ⟨kvs, ks, y4, rfl, s3, h3, kset, mem⟩
      refine ⟨kvs, ks, _, _, rfl, s3, h3, kset, fun x => (mem x).trans ⟨fun h => ⟨h.1, ?_⟩, fun h => ⟨h.1, ?_⟩⟩⟩
      · rcases h.2 with ⟨v, hv, z⟩ | z
        · exact ⟨v, by rw [tk]; exact List.mem_append_left _ hv, z⟩
        · exact ⟨w, by rw [tk]; exact List.mem_append_right _ List.mem_cons_self, z.2⟩
      · obtain ⟨v, hv, z⟩ := h.2
        rw [tk] at hv
        rcases List.mem_append.mp hv with hv | hv
        · exact .inl ⟨v, hv, z⟩
        · rw [List.mem_singleton.mp hv] at z
          exact .inr ⟨by have := h.1.2; omega, z⟩
  · rintro σ' H2 ⟨kvs, ks, y3, y4, rfl, s2, h2, kset, mem⟩
    rw [lms, List.take_length] at mem
    refine ⟨_, rfl, .inr (.inr (.inl ⟨rfl, .inl ⟨_, h2⟩⟩)), d, kvs, rfl, rfl, .inl h2, fun p hp => ?_⟩
    have npd : p ≠ d := fun z => by rw [z, h2] at hp; cases hp
    obtain ⟨s3, -, hp3, -⟩ := s2.loc2 (p := p) (o := keysO p d) ⟨hp, rfl⟩
    have h3 : upd H2 p (keysO p d) d = some (.dK kvs) := by rw [upd_ne (Ne.symm npd)]; exact h2
    refine ⟨p, d, kvs, rfl, hp3, .inl h3, fun l hl => ?_⟩
    have el : (kvs.map fun kv => kV kv.1) = ks.map V.int := by
      rw [← kV_inl, ← kset.1, List.map_map]
      rfl
    rw [el]
    obtain ⟨s4, -, h4, -⟩ := s3.loc2 (p := l) (o := .lst (ks.map V.int)) ⟨hl, rfl⟩
    refine ⟨l, ks, rfl, .of h4, fun ns' p2 pm so hp2 => ?_⟩
    obtain ⟨s5, g5, h5, f5⟩ := s4.loc2 (p := p2) (o := .lst (ns'.map V.int)) ⟨hp2, rfl⟩
    have nd2 : ns'.Nodup := pm.nodup_iff.mpr kset.2
    exact q p2 ns' _ s5 g5 f5 h5 ⟨(so.and nd2).imp fun h => by omega, fun x => pm.mem_iff.trans (mem x)⟩
theorem cut_last {xs : List V} {y : V} : cutV (xs ++ [y]) (some (-1)) none = [y] := by
  have l : (xs ++ [y]).length = xs.length + 1 := by rw [List.length_append]; rfl
  have e1 : HT.sIx (xs ++ [y]).length 0 (some (-1)) = xs.length := by
    rw [l]
    show (if (-1 : Int) < 0 then ((-1 : Int) + ((xs.length + 1 : Nat) : Int)).toNat else min (-1 : Int).toNat (xs.length + 1)) = xs.length
    rw [if_pos (by decide)]
    omega
  unfold cutV
  rw [e1, HT.sIx_none, l, List.drop_left' rfl]
  exact List.take_of_length_le (by show 1 ≤ _; omega)
def spFullRow : Sp := fun vs H Q _ => ∃ (S : Sr) (G : Hp) (m : Addr) (n : Int) (ms : List V) (L : List (List Int)), vs = [.ref S.a, .int n, .ref m] ∧ Wd S G H ∧ 0 ≤ n ∧ n ≤ 12 ∧ G m = some (.lst ms) ∧ DaAll G ms (L.map rowD) ∧ AllMv n L ∧ L.length ≤ 1000 ∧
  ∀ (p : Addr) (rs : List Int) (G' H' : Hp), Go S G H G' H' → G' p = none → H p = none → H' p = some (.lst (rs.map V.int)) → (∀ r ∈ rs, inR n r) → rs.length ≤ 12 → Q (.ref p) H'
theorem ok_full_row (Z : Zs mg) (D : Ds K mg) (c__law_pick : Cal P w K mg base "_law_pick" 3 ["store", "things"] spPick) (c__law_moved : Cal P w K mg base "_law_moved" 1 ["points", "moves"] spMoved) (c__law_holders : Cal P w K mg base "_law_holders" 1 ["made", "row"] (spHoldersOf K)) : Cal P w K mg base "_law_full_row" 4 ["store", "points", "made"] spFullRow := by
  refine Def.cal D.d_law_full_row sc_law_full_row (fun vs H Q E h => ?_) (fun f cdv A outer s H vs Q E hr h => ?_)
  · obtain ⟨S, G, m, n, ms, L, rfl, wd, n0, n12, gm, dm, mvL, lL, q⟩ := h
    rfl
  obtain ⟨S, G, m, n, ms, L, rfl, wd, n0, n12, gm, dm, mvL, lL, q⟩ := h
  refine ⟨_, (pss_cons (ps_set (i := 3) sc_law_full_row.nd rfl (Or.inl rfl) (pe_lstN pa_nil))
      (pss_cons (ps_set (i := 4) sc_law_full_row.nd rfl (Or.inl rfl) (pv 2))
      (pss_cons (ps_for PassesOwn.never rfl (pi_range1 (by rfl) Z.z_range (pa_cons (pv 1) pa_nil)) (pg_name (i := 5) sc_law_full_row.nd rfl (Or.inl rfl)) (pss_cons (ps_set (i := 6) sc_law_full_row.nd rfl (Or.inl rfl) (pe_cal c__law_moved (hr.mono (by first | decide | omega)) (by rfl) (pa_cons (pv 1) (pa_cons (pv 4) pa_nil))))
      (pss_one (ps_if (pt_cmp (pc_gt (pe_callB call_len_seq (by rfl) Z.z_len (by decide +kernel) (pa_cons (pv 6) pa_nil)) pe_int) (nomark _)) (pss_cons (ps_expr (pe_bm PySem.F.plainAttrs_list PySem.F.slot_list_append PySem.F.type_list_append mt_appendN (pv 3) (pa_cons (pe_cal c__law_pick (hr.mono (by first | decide | omega)) (by rfl) (pa_cons (pv 0) (pa_cons (pv 6) pa_nil))) pa_nil)))
      (pss_one (ps_set (i := 4) sc_law_full_row.nd rfl (Or.inl rfl) (pe_cal c__law_holders (hr.mono (by first | decide | omega)) (by rfl) (pa_cons (pv 4) (pa_cons (pe_slice sl_listN (pv 3) (po_some (pe_un un_neg pe_int)) po_none) pa_nil)))))) pss_nil))))
      (pss_one (ps_ret (pv 3)))))), ?_⟩
  refine ⟨by show 0 ≤ sizeLine; decide, fun r H1 n1 => ?_⟩
  obtain ⟨s1, gr, hr, fr⟩ := (Go.refl wd).loc n1
  refine ⟨_, rfl, _, rfl, n, rfl, by omega, by omega, for_range (lo := 0) (n := n.toNat) (fun i σ' H' => ∃ (G' : Hp) (lq : Addr) (ys : List V) (M : List (List Int)) (rs : List Int) (y5 y6 : Option V), σ' = [some (.ref S.a), some (.int n), some (.ref m), some (.ref r), some (.ref lq), y5, y6] ∧ Go S G H G' H' ∧ G' r = none ∧ H' r = some (.lst (rs.map V.int)) ∧ G' lq = some (.lst ys) ∧ DaAll G' ys (M.map rowD) ∧ AllMv n M ∧ M.length ≤ L.length ∧ (∀ r ∈ rs, inR n r) ∧ rs.length ≤ i) ⟨G, m, ms, L, [], none, none, rfl, s1, gr, hr, gm, dm, mvL, Nat.le_refl _, (fun r h => by cases h), Nat.le_refl _⟩ ?_ ?_⟩
  · rintro i σ' H2 hi ⟨G2, lq, ys, M, rs, y5, y6, rfl, s2, gr2, hr2, glq, dM, mvM, lM, inr, lr⟩
    refine ⟨_, rfl, _, rfl, G2, lq, n, ys, M, rfl, s2.gh, n0, n12, s2.gh _ _ glq, dM, mvM, fun p fs H3 s3 gp fp hp mvd => ?_⟩
    have S3 := s2.q s3
    have hr3 := s3.hh _ _ hr2
    refine ⟨_, rfl, p, _, rfl, .inl (.of hp), _, _, rfl, rfl, _, rfl, ite2 (fun c => ?_) (fun c => ⟨G2, lq, ys, M, rs, _, _, rfl, S3, gr2, hr3, glq, dM, mvM, lM, inr, by omega⟩)⟩
    have c : (0 : Int) < (((fs.map V.int).length : Nat) : Int) := dec_of c
    have f12 := inR_len n12 (mvd.1.imp fun h => by omega) fun x hx => ((mvd.2 x).mp hx).1
    have fp := s2.fresh fp
    refine ⟨_, rfl, .inl ⟨rfl, _, .of hr3⟩, _, rfl, _, rfl, S, G2, .ref p, _, rfl, S3.wd, .inl ⟨p, rfl, S3.ns fp, hp⟩, by omega, by rw [List.length_map]; omega, fun x H4 hx s4 => ?_⟩
    obtain ⟨z, hz, rfl⟩ := List.mem_map.mp hx
    have inz := ((mvd.2 z).mp hz).1
    have hr4 := s4.hh hr3 (S3.ns fr)
    have S4 := S3.trans s4
    refine ⟨r, _, _, rfl, rfl, hr4, lt (by rw [List.length_map]; omega), fun H5 e5 => ?_⟩
    have S5 := S4.mut gr2 fr e5
    have hr5 : H5 r = some (.lst ((rs ++ [z]).map V.int)) := by rw [upd_at e5, List.map_append]; rfl
    refine ⟨_, rfl, _, rfl, _, rfl, -1, rfl, r, _, rfl, .of hr5, fun t H6 n6 => ?_⟩
    rw [List.map_append, show ([z] : List Int).map V.int = [V.int z] from rfl, cut_last] at n6
    obtain ⟨G6, S6, g6, k6, o6⟩ := S5.know n6
    have gr6 : G6 r = none := by rw [o6 r fun e => by rw [e, n6.fr] at hr5; cases hr5]; exact gr2
    have hr6 := n6.else hr5
    refine ⟨G6, lq, t, n, ys, M, [z], rfl, S6.gh, g6 _ _ glq, dM.up g6, mvM, by omega, .inl (.inl (S6.gh _ _ k6)), fun x h => by rw [List.mem_singleton.mp h]; exact inz, fun p7 ys7 H7 s7 g7 f7 h7 d7 => ?_⟩
    have S7 := S6.q s7
    have hr7 := s7.hh _ _ hr6
    obtain ⟨G8, S8, g8, k8, o8⟩ := S7.frz g7 (S6.fresh f7) h7
    refine ⟨G8, p7, ys7, _, rs ++ [z], _, _, rfl, S8, ?_, hr7, k8, d7.up g8, fun w hw => mvM w (holdL_sub hw), Nat.le_trans holdL_len lM, fun x hx => (List.mem_append.mp hx).elim (inr x) fun h => by rw [List.mem_singleton.mp h]; exact inz, by rw [List.length_append]; show _ + 1 ≤ _; omega⟩
    rw [o8 r fun e => by rw [e, f7] at hr6; cases hr6]
    exact gr6
  · rintro σ' H2 ⟨G2, lq, ys, M, rs, y5, y6, rfl, s2, gr2, hr2, glq, dM, mvM, lM, inr, lr⟩
    exact ⟨_, rfl, q r rs G2 H2 s2 gr2 fr hr2 inr (by omega)⟩
def spNearRow : Sp := fun vs H Q _ => ∃ (S : Sr) (G : Hp) (m : Addr) (n : Int) (ms : List V) (L : List (List Int)), vs = [.ref S.a, .int n, .ref m] ∧ Wd S G H ∧ 0 ≤ n ∧ n ≤ 12 ∧ G m = some (.lst ms) ∧ DaAll G ms (L.map rowD) ∧ AllMv n L ∧ L.length ≤ 1000 ∧
  ∀ (p : Addr) (rs : List Int) (G' H' : Hp), Go S G H G' H' → G' p = none → H p = none → H' p = some (.lst (rs.map V.int)) → (∀ r ∈ rs, inR n r) → rs.length ≤ 24 → Q (.ref p) H'
theorem ok_near_row (Z : Zs mg) (D : Ds K mg) (c__law_take : Cal P w K mg base "_law_take" 2 ["store", "many"] spTake) (c__law_place : Cal P w K mg base "_law_place" 3 ["store", "size"] spPlace) (c__law_full_row : Cal P w K mg base "_law_full_row" 4 ["store", "points", "made"] spFullRow) : Cal P w K mg base "_law_near_row" 5 ["store", "points", "made"] spNearRow := by
  refine Def.cal D.d_law_near_row sc_law_near_row (fun vs H Q E h => ?_) (fun f cdv A outer s H vs Q E hr h => ?_)
  · obtain ⟨S, G, m, n, ms, L, rfl, wd, n0, n12, gm, dm, mvL, lL, q⟩ := h
    rfl
  obtain ⟨S, G, m, n, ms, L, rfl, wd, n0, n12, gm, dm, mvL, lL, q⟩ := h
  refine ⟨_, (pss_cons (ps_set (i := 3) sc_law_near_row.nd rfl (Or.inl rfl) (pe_cal c__law_full_row (hr.mono (by first | decide | omega)) (by rfl) (pa_cons (pv 0) (pa_cons (pv 1) (pa_cons (pv 2) pa_nil)))))
      (pss_cons (ps_set (i := 4) sc_law_near_row.nd rfl (Or.inl rfl) (pe_cal c__law_take (hr.mono (by first | decide | omega)) (by rfl) (pa_cons (pv 0) (pa_cons pe_int pa_nil))))
      (pss_cons (ps_set (i := 5) sc_law_near_row.nd rfl (Or.inl rfl) (pe_cal c__law_take (hr.mono (by first | decide | omega)) (by rfl) (pa_cons (pv 0) (pa_cons (pe_op op_add (pe_callB call_len_seq (by rfl) Z.z_len (by decide +kernel) (pa_cons (pv 3) pa_nil)) pe_int) pa_nil))))
      (pss_cons (ps_if (PW.pt (pw_and (pt_cmp (pc_eqI (pv 4) pe_int) (nomark _)) (pw_and1 (pt_cmp (pc_gt (pv 1) pe_int) (nomark _))))) (pss_one (ps_ret (pe_lc (own := [("k", 6)]) (g := gName 6) (tt := tYes) (by rfl) sc_law_near_row.nd (pi_range1 (by rfl) Z.z_range (pa_cons (pe_cal c__law_place (hr.mono (by first | decide | omega)) (by rfl) (pa_cons (pv 0) (pa_cons pe_int pa_nil))) pa_nil)) (blkOk_by (N := ["store", "points", "made", "row", "pick", "at", "k"]) (sc := defScope s_law_near_row) (by decide +kernel)) (fun _ _ _ _ _ => pg_name (i := 6) sc_law_near_row.nd rfl (Or.inl rfl)) (fun _ _ _ _ _ => pts_nil) (fun _ _ _ _ _ => (pe_cal c__law_take (hr.mono (by first | decide | omega)) (by rfl) (pa_cons (pv 0) (pa_cons (pv 1) pa_nil))))))) pss_nil)
      (pss_cons (ps_if (pt_cmp (pc_eqI (pv 4) pe_int) (nomark _)) (pss_one (ps_ret (pe_slice sl_listN (pv 3) po_none (po_some (pv 5))))) pss_nil)
      (pss_cons (ps_if (PW.pt (pw_and (pt_cmp (pc_eqI (pv 4) pe_int) (nomark _)) (pw_and1 (pt_cmp (pc_gt (pv 1) pe_int) (nomark _))))) (pss_one (ps_ret (pe_op op_catN (pe_op op_catN (pe_slice sl_listN (pv 3) po_none (po_some (pv 5))) (pe_lstN (pa_cons (pe_cal c__law_take (hr.mono (by first | decide | omega)) (by rfl) (pa_cons (pv 0) (pa_cons (pv 1) pa_nil))) pa_nil))) (pe_slice sl_listN (pv 3) (po_some (pv 5)) po_none)))) pss_nil)
      (pss_one (ps_ret (pv 3))))))))), ?_⟩
  refine ⟨_, rfl, _, rfl, _, rfl, S, G, m, n, ms, L, rfl, wd, n0, n12, gm, dm, mvL, lL, fun r rs G1 H1 s1 gr fr hr inr lr => ?_⟩
  refine ⟨_, rfl, S, G1, 12, rfl, s1.wd, by omega, fun pk H2 a0 a1 s2 => ?_⟩
  have hr2 := s2.hh hr (s1.ns fr)
  have s2 := s1.trans s2
  refine ⟨_, rfl, _, rfl, r, _, rfl, .inl (.of hr2), _, _, rfl, rfl, S, G1, _, rfl, s2.wd, by rw [List.length_map]; omega, fun at_ H3 b0 b1 s3 => ?_⟩
  have hr3 := s3.hh hr2 (s2.ns fr)
  have s3 := s2.trans s3
  rw [List.length_map] at b1
  have plain : Q (.ref r) H3 := q r rs G1 H3 s3 gr fr hr3 inr (by omega)
  have le24 : ∀ {k : Nat}, k ≤ 100 → k ≤ sizeLine := fun h => Nat.le_trans h (by decide)
  refine ⟨_, rfl, _, _, rfl, rfl, _, rfl, ite2 (fun c => ?_) (fun c => ?_)⟩
  · refine ⟨_, rfl, _, _, rfl, rfl, _, rfl, ite2 (fun c2 => ?_) (fun c2 => ?_)⟩
    · have c2 : 0 < n := dec_of c2
      refine ⟨_, rfl, S, G1, 25, rfl, s3.wd, by omega, by omega, fun z H4 z0 z1 s4 => ⟨z, rfl, by omega, by omega, fun l hl => ?_⟩⟩
      have s4 := s3.trans s4
      refine lc_range (lo := 0) (n := z.toNat) (fun i H' => ∃ zs : List Int, Go S G H G1 H' ∧ G1 l = none ∧ H l = none ∧ H' l = some (.lst (zs.map V.int)) ∧ (∀ r ∈ zs, inR n r) ∧ zs.length = i) ?_ ?_ ?_
      · obtain ⟨s5, gl, h5, fl⟩ := s4.loc (p := l) (o := .lst []) ⟨hl, rfl⟩
        exact ⟨[], s5, gl, fl, h5, (fun r h => by cases h), rfl⟩
      · rintro i H5 hi ⟨zs, s5, gl, fl, h5, inz, lz⟩
        refine ⟨rfl, yesT ⟨_, rfl, _, rfl, S, G1, n, rfl, s5.wd, by omega, fun d H6 d0 d1 s6 => ⟨zs.map V.int, s6.hh h5 (s5.ns fl), lt (by rw [List.length_map]; omega), zs ++ [d], (s5.trans s6).mut gl fl rfl, gl, fl, ?_, ?_, by rw [List.length_append, lz]; rfl⟩⟩⟩
        · rw [upd_same, List.map_append]
          rfl
        · intro x hx
          rcases List.mem_append.mp hx with hx | hx
          · exact inz x hx
          · rw [List.mem_singleton.mp hx]
            exact ⟨d0, by omega⟩
      · rintro H5 ⟨zs, s5, gl, fl, h5, inz, lz⟩
        exact q l zs G1 H5 s5 gl fl h5 inz (by omega)
    · refine ⟨_, rfl, _, _, rfl, rfl, _, rfl, ite2 (fun c3 => absurd (dec_of c3) (by have := dec_of c; omega)) (fun _ => ?_)⟩
      refine ⟨_, rfl, _, _, rfl, rfl, _, rfl, ite2 (fun c3 => absurd (dec_of c3) (by have := dec_of c; omega)) (fun _ => iteF ⟨_, rfl, plain⟩)⟩
  refine iteF ⟨_, rfl, _, _, rfl, rfl, _, rfl, ite2 (fun c => ?_) (fun c => ?_)⟩
  · refine ⟨_, rfl, _, rfl, _, rfl, r, _, rfl, .of hr3, fun l H4 n4 => ?_⟩
    rw [cut_toN b0, ← List.map_take] at n4
    obtain ⟨s4, gl, hl, fl⟩ := s3.loc n4
    exact q l _ G1 H4 s4 gl fl hl (fun x hx => inr x (List.mem_of_mem_take hx)) (by rw [List.length_take]; omega)
  refine ⟨_, rfl, _, _, rfl, rfl, _, rfl, ite2 (fun c => ?_) (fun c => iteF ⟨_, rfl, plain⟩)⟩
  refine ⟨_, rfl, _, _, rfl, rfl, _, rfl, ite2 (fun c2 => ?_) (fun c2 => ⟨_, rfl, plain⟩)⟩
  have c2 : 0 < n := dec_of c2
  refine ⟨_, rfl, _, rfl, _, rfl, r, _, rfl, .of hr3, fun l H4 n4 => ?_⟩
  rw [cut_toN b0, ← List.map_take] at n4
  obtain ⟨s4, gl, hl, fl⟩ := s3.loc n4
  refine ⟨_, rfl, _, rfl, S, G1, n, rfl, s4.wd, by omega, fun d H5 d0 d1 s5 => ⟨by show 1 ≤ sizeLine; decide, fun l2 H6 n6 => ?_⟩⟩
  have hl5 := s5.hh hl (s4.ns fl)
  have hr6 := n6.else (s5.hh (n4.else hr3) (s4.ns fr))
  have S6 := ((s4.trans s5).loc n6).1
  have len : (rs.map V.int).length = rs.length := List.length_map ..
  refine ⟨l, l2, _, _, rfl, rfl, n6.else hl5, n6.at, le24 (by rw [List.length_map, List.length_take]; show _ + 1 ≤ 100; omega), fun l3 H7 n7 => ?_⟩
  have hr7 := n7.else hr6
  have S7 := (S6.loc n7).1
  refine ⟨_, rfl, _, rfl, _, rfl, r, _, rfl, .of hr7, fun l4 H8 n8 => ?_⟩
  rw [cut_fromN b0, ← List.map_drop] at n8
  have S8 := (S7.loc n8).1
  refine ⟨l3, l4, _, _, rfl, rfl, n8.else n7.at, n8.at, le24 (by simp only [List.length_append, List.length_map, List.length_take, List.length_drop, List.length_singleton]; omega), fun l5 H9 n9 => ?_⟩
  rw [show (rs.take at_.toNat).map V.int ++ [V.int d] ++ (rs.drop at_.toNat).map V.int = (rs.take at_.toNat ++ [d] ++ rs.drop at_.toNat).map V.int by rw [List.map_append, List.map_append]; rfl] at n9
  obtain ⟨S9, g9, h9, f9⟩ := S8.loc n9
  refine q l5 _ G1 H9 S9 g9 f9 h9 (fun x hx => ?_) (by simp only [List.length_append, List.length_take, List.length_drop, List.length_singleton]; omega)
  rcases List.mem_append.mp hx with hx | hx
  · rcases List.mem_append.mp hx with hx | hx
    · exact inr x (List.mem_of_mem_take hx)
    · rw [List.mem_singleton.mp hx]
      exact ⟨d0, by omega⟩
  · exact inr x (List.mem_of_mem_drop hx)


/-- ms does at b what ns does, renamed by bs -/
def Conj (n : Int) (ns bs ms : List Int) : Prop := ∀ p, inR n p → stp ms (stp bs p) = stp bs (stp ns p)
def spRenamedC : Sp := fun vs H Q _ => ∃ (G : Hp) (a b : Addr) (ns bs : List Int) (n : Int), vs = [.ref a, .ref b] ∧ Same G H ∧ G a = some (.tup (ns.map V.int)) ∧ G b = some (.tup (bs.map V.int)) ∧ IsMv ns n ∧ IsMv bs n ∧ 0 ≤ n ∧ n ≤ 13 ∧
  ∀ (p : Addr) (ms : List Int) (G' H' : Hp), Stq G H G' H' → G' p = some (.tup (ms.map V.int)) → IsMv ms n → Conj n ns bs ms → Q (.ref p) H'
theorem ok_renamed (Z : Zs mg) (D : Ds K mg) : Cal P w K mg base "_law_renamed" 1 ["move", "by"] spRenamedC := by
  refine Def.cal D.d_law_renamed sc_law_renamed (fun vs H Q E h => ?_) (fun f cdv A outer s H vs Q E hr h => ?_)
  · obtain ⟨G, a, b, ns, bs, n, rfl, gh, ha, hb, mn, mb, n0, n13, q⟩ := h
    rfl
  obtain ⟨G, a, b, ns, bs, n, rfl, gh, ha, hb, mn, mb, n0, n13, q⟩ := h
  refine ⟨_, (pss_cons (ps_set (i := 2) sc_law_renamed.nd rfl (Or.inl rfl) (pe_op op_repL (pe_lstN (pa_cons pe_int pa_nil)) (pe_callB call_len_seq (by rfl) Z.z_len (by decide +kernel) (pa_cons (pv 0) pa_nil))))
      (pss_cons (ps_for PassesOwn.never rfl (pi_range1 (by rfl) Z.z_range (pa_cons (pe_callB call_len_seq (by rfl) Z.z_len (by decide +kernel) (pa_cons (pv 0) pa_nil)) pa_nil)) (pg_name (i := 3) sc_law_renamed.nd rfl (Or.inl rfl)) (pss_one (ps_asg (pe_ix ix_tup (pv 1) (pe_ix ix_tup (pv 0) (pv 3) (fun _ _ => rfl)) (fun _ _ => rfl)) (pg_sub (pv 2) (pe_ix ix_tup (pv 1) (pv 3) (fun _ _ => rfl)) set_listN))))
      (pss_one (ps_ret (pe_callTy call_tupleN (by rfl) Z.z_tuple (by decide +kernel) (pa_cons (pv 2) pa_nil)))))), ?_⟩
  have ln := mn.len
  have lb := mb.len
  have S0 := Stq.refl gh
  refine ⟨(by show 1 ≤ sizeLine; decide), fun z H1 n1 => ?_⟩
  obtain ⟨s1, gz, hz, fz⟩ := S0.loc2 n1
  have look : ∀ {cs : List Int} {c : Int} {H' : Hp}, IsMv cs n → inR n c → atI (cs.map V.int) c = some (.int (stp cs c)) := fun {cs c H'} mc ic => by
    obtain ⟨x, e1, e2, -⟩ := atI_ints (ns := cs) ic.1 (by have := mc.len; have := ic.2; omega)
    rw [e2]
    rw [(stp_at mc ic).1] at e1
    rw [Option.some.inj e1]
  refine ⟨_, rfl, a, _, rfl, .inr (.of (s1.gh _ _ ha)), z, _, _, rfl, rfl, hz, by rw [List.length_map]; omega, by rw [List.length_map]; omega, by rw [List.length_map]; show 1 * _ ≤ sizeLine; exact Nat.le_trans (show _ ≤ 13 by omega) (by decide), fun l H2 n2 => ?_⟩
  obtain ⟨s2, gl, hl, fl⟩ := s1.loc2 n2
  have e0 : (List.replicate ((((ns.map V.int).length : Nat) : Int)).toNat [V.int 0]).flatten = (List.replicate ns.length (0 : Int)).map V.int := by
    rw [List.length_map]
    have : ∀ m : Nat, (List.replicate m [V.int 0]).flatten = (List.replicate m (0 : Int)).map V.int := fun m => by
      induction m with
      | zero => rfl
      | succ m ih => rw [List.replicate_succ, List.flatten_cons, ih]; rfl
    exact this _
  rw [e0] at hl
  refine ⟨_, rfl, a, _, rfl, .inr (.of (s2.gh _ _ ha)), _, rfl, by rw [List.length_map]; omega, by rw [List.length_map]; omega, ?_⟩
  rw [List.length_map]
  refine for_range (lo := 0) (n := ((ns.length : Nat) : Int).toNat) (fun i σ' H' => ∃ (L : List Int) (y3 : Option V), σ' = [some (.ref a), some (.ref b), some (.ref l), y3] ∧ Stq G H G H' ∧ H' l = some (.lst (L.map V.int)) ∧ L.length = n.toNat ∧ ∀ k : Nat, k < i → L[(stp bs k).toNat]? = some (stp bs (stp ns k)))
    ⟨_, none, rfl, s2, hl, by rw [List.length_replicate]; omega, fun k hk => absurd hk (Nat.not_lt_zero k)⟩ ?_ ?_
  · rintro i σ' H3 hi ⟨L, y3, rfl, s3, h3, lL, hL⟩
    have ii : inR n (0 + (i : Int)) := ⟨by omega, by omega⟩
    have i1 := (stp_at mn ii).2
    have i2 := (stp_at mb i1).2
    have i3 := (stp_at mb ii).2
    refine ⟨_, rfl, _, rfl, _, rfl, a, _, _, _, rfl, rfl, .of (s3.gh _ _ ha), look (H' := H3) mn ii, b, _, _, _, rfl, rfl, .of (s3.gh _ _ hb), look (H' := H3) mb i1, ?_⟩
    refine ⟨_, rfl, _, rfl, _, rfl, b, _, _, _, rfl, rfl, .of (s3.gh _ _ hb), look (H' := H3) mb ii, l, _, (stp bs (0 + (i : Int))).toNat, rfl, ?_, h3, ?_, fun H4 e4 => ?_⟩
    · have := i3.1
      rw [Int.toNat_of_nonneg this]
    · rw [List.length_map]
      have := i3.1
      have := i3.2
      omega
    refine ⟨L.set (stp bs (0 + (i : Int))).toNat (stp bs (stp ns (0 + (i : Int)))), _, rfl, s3.mut gl fl e4, by rw [upd_at e4, List.map_set], by rw [List.length_set]; exact lL, fun k hk => ?_⟩
    rw [Int.zero_add]
    by_cases e : k = i
    · subst e
      have := i3.1
      have := i3.2
      rw [Int.zero_add] at *
      rw [List.getElem?_set_self (by omega)]
    · have ne : stp bs (i : Int) ≠ stp bs (k : Int) := fun z => e (by have := stp_inj mb (p := (i : Int)) (q := (k : Int)) ⟨by omega, by omega⟩ ⟨by omega, by omega⟩ z; omega)
      have k3 := (stp_at mb (p := (k : Int)) ⟨by omega, by omega⟩).2
      have := k3.1
      have := i3.1
      rw [Int.zero_add] at *
      rw [List.getElem?_set_ne (by omega)]
      exact hL k (by omega)
  · rintro σ' H3 ⟨L, y3, rfl, s3, h3, lL, hL⟩
    refine ⟨_, rfl, l, _, rfl, .of h3, fun p H4 n4 => ?_⟩
    obtain ⟨G4, s4, g4, k4, -⟩ := s3.know2 n4
    refine q p L G4 H4 s4 k4 (renamed_mv n0 mn mb lL fun k hk => hL k (by omega)) fun x hx => ?_
    have x0 := hx.1
    have x1 := hx.2
    have := hL x.toNat (by omega)
    rw [Int.toNat_of_nonneg x0] at this
    show (L[(stp bs x).toNat]?).getD 0 = _
    rw [this]
    rfl


def spCut : Sp := fun vs H Q _ => ∃ (G : Hp) (a : Addr) (n most : Int) (ts : List V) (T : List (List Int)), vs = [.int n, .ref a, .int most] ∧ Same G H ∧ 0 ≤ n ∧ n ≤ 12 ∧ H a = some (.lst ts) ∧ DaAll G ts (T.map rowD) ∧ AllMv n T ∧ T.length ≤ 100 ∧ 1 ≤ most ∧ most ≤ 1000 ∧
  ∀ (p k m : Addr) (ks ms : List V) (U L : List (List Int)) (G' H' : Hp), Stq G H G' H' → H p = none → H k = none → H m = none → G' p = none → G' k = none → G' m = none → k ≠ m → p ≠ k → p ≠ m → H' p = some (.lst [.ref k, .ref m]) → H' k = some (.lst ks) → H' m = some (.lst ms) →
    DaAll G' ks (U.map rowD) → DaAll G' ms (L.map rowD) → AllMv n U → U.length ≤ T.length → Grp n U L → ((L.length : Nat) : Int) ≤ most → Q (.ref p) H'
theorem ok_cut (Z : Zs mg) (D : Ds K mg) (c__law_group : Cal P w K mg base "_law_group" 2 ["points", "told", "most"] spGroup) : Cal P w K mg base "_law_cut" 3 ["points", "told", "most"] spCut := by
  refine Def.cal D.d_law_cut sc_law_cut (fun vs H Q E h => ?_) (fun f cdv A outer s H vs Q E hr h => ?_)
  · obtain ⟨G, a, n, most, ts, T, rfl, gh, n0, n12, ha, dT, mvT, lT, o1, o2, q⟩ := h
    rfl
  obtain ⟨G, a, n, most, ts, T, rfl, gh, n0, n12, ha, dT, mvT, lT, o1, o2, q⟩ := h
  refine ⟨_, (pss_cons (ps_set (i := 3) sc_law_cut.nd rfl (Or.inl rfl) (pe_lstN pa_nil))
      (pss_cons (ps_set (i := 4) sc_law_cut.nd rfl (Or.inl rfl) (pe_lstN (pa_cons (pe_tupRgN rfl (by rfl) Z.z_tuple (prg_1 (by rfl) Z.z_range (pv 0))) pa_nil)))
      (pss_cons (ps_for PassesOwn.never rfl (pi_list (pv 1)) (pg_name (i := 5) sc_law_cut.nd rfl (Or.inl rfl)) (pss_cons (ps_set (i := 6) sc_law_cut.nd rfl (Or.inl rfl) (pe_cal c__law_group (hr.mono (by first | decide | omega)) (by rfl) (pa_cons (pv 0) (pa_cons (pe_op op_catN (pv 3) (pe_lstN (pa_cons (pv 5) pa_nil))) (pa_cons (pv 2) pa_nil)))))
      (pss_one (ps_if (pt_cmpR op_notN (pv 6) pe_non (nomark _)) (pss_cons (ps_expr (pe_bm PySem.F.plainAttrs_list PySem.F.slot_list_append PySem.F.type_list_append mt_appendN (pv 3) (pa_cons (pv 5) pa_nil)))
      (pss_one (ps_set (i := 4) sc_law_cut.nd rfl (Or.inl rfl) (pv 6)))) pss_nil))))
      (pss_one (ps_ret (pe_lstN (pa_cons (pv 3) (pa_cons (pv 4) pa_nil)))))))), ?_⟩
  have lts := dT.length
  rw [List.length_map] at lts
  refine ⟨by show 0 ≤ sizeLine; decide, fun kp H8 n8 => ?_⟩
  obtain ⟨s8, gk, hk, fk⟩ := (Stq.refl gh).loc2 n8
  refine ⟨_, rfl, n, rfl, .of_le (by decide) (by omega) (by decide) (by omega), fun st H9 n9 => ?_⟩
  rw [rgV_rngI] at n9
  obtain ⟨G9, s9, g9, k9, o9⟩ := s8.know2 n9
  refine ⟨by show 1 ≤ sizeLine; decide, fun mp HA nA => ?_⟩
  obtain ⟨sA, gm, hm, fm⟩ := s9.loc2 nA
  have hkA := nA.else (n9.else hk)
  have nkm : kp ≠ mp := fun z => by rw [z] at hk; have := n9.else hk; rw [nA.fr] at this; cases this
  have gkA : G9 kp = none := by
    rw [o9 kp fun z => by rw [z, n9.fr] at hk; cases hk]
    exact gk
  have dTA := dT.up g9
  refine ⟨_, rfl, a, rfl, ⟨_, .of (sA.hh _ _ ha)⟩, for_list (K := K) (a := a) (xs := ts) (fun i σ' H' => ∃ (G' : Hp) (mp : Addr) (ks ms : List V) (U L : List (List Int)) (y5 y6 : Option V), σ' = [some (.int n), some (.ref a), some (.int most), some (.ref kp), some (.ref mp), y5, y6] ∧ Stq G H G' H' ∧ Same G9 G' ∧
    G' kp = none ∧ H' kp = some (.lst ks) ∧ DaAll G' ks (U.map rowD) ∧ AllMv n U ∧ U.length ≤ i ∧ G' mp = none ∧ H mp = none ∧ kp ≠ mp ∧ H' mp = some (.lst ms) ∧ DaAll G' ms (L.map rowD) ∧ Grp n U L ∧ ((L.length : Nat) : Int) ≤ most) ?_ ?_ ?_ ?_⟩
  · exact ⟨G9, mp, [], _, [], [rngI n], none, none, rfl, sA, Same.refl _, gkA, hkA, .nil, .nil', Nat.le_refl _, gm, fm, nkm, hm, .cons (.tup k9 (DaAll.ints _)) .nil, .none, by show ((1 : Nat) : Int) ≤ most; omega⟩
  · rintro i σ' H' - ⟨G', mp, ks, ms, U, L, y5, y6, rfl, sB, -⟩
    exact .of (sB.hh _ _ ha)
  · rintro i y σ' HB hy ⟨GB, mp, ks, ms, U, L, y5, y6, rfl, sB, gg, gkB, hkB, dU, mvU, lU, gmB, fmB, nkm, hmB, dL, grp, lL⟩
    obtain ⟨e, he, hde⟩ := dTA.get hy
    rw [List.getElem?_map] at he
    obtain ⟨v, hv, rfl⟩ := Option.map_eq_some_iff.mp he
    obtain ⟨c, rfl, hc⟩ := rows_ref hde
    have ilt := (List.getElem?_eq_some_iff.mp hv).1
    have mvv := mvT v (List.mem_of_getElem? hv)
    have lks := dU.length
    rw [List.length_map] at lks
    refine ⟨_, rfl, _, rfl, _, rfl, by show 1 ≤ sizeLine; decide, fun e1 HC nC => ?_⟩
    have sC := (sB.loc2 nC).1
    refine ⟨kp, e1, ks, [.ref c], rfl, rfl, nC.else hkB, nC.at, ?_, fun r HD nD => ?_⟩
    · show ks.length + 1 ≤ sizeLine
      exact Nat.le_trans (show _ ≤ 101 by omega) (by decide)
    obtain ⟨sD, grD, hrD, frD⟩ := sC.loc2 nD
    have hkD := nD.else (nC.else hkB)
    have hmD := nD.else (nC.else hmB)
    have mv2 := mvU.app' (.cons' mvv .nil')
    refine ⟨_, rfl, GB, r, ks ++ [.ref c], U ++ [v], n, most, rfl, sD.gh, n0, n12, hrD, ?_, mv2, ?_, o1, by omega, fun p7 G7 H7 ys LL s7 f7 g7 h7 dy gM lM => ?_, fun no H7 s7 => ?_⟩
    · rw [List.map_append]
      exact dU.append (.one (hde.up gg))
    · rw [List.length_append]
      show U.length + 1 ≤ 1000
      omega
    · have gk7 := s7.nw2 hkD gkB
      have hk7 := s7.hh _ _ hkD
      have nkp : kp ≠ p7 := fun z => by rw [z, f7] at hkD; cases hkD
      refine ⟨_, rfl, rfl, _, rfl, iteBT (by simp) ⟨_, rfl, .inl ⟨rfl, _, .of hk7⟩, _, rfl, kp, ks, _, rfl, rfl, hk7, lt (by omega), fun HE eE => ⟨_, rfl, ?_⟩⟩⟩
      refine ⟨G7, p7, ks ++ [.ref c], ys, U ++ [v], LL, _, _, rfl, (sD.trans s7).mut gk7 fk eE, gg.trans s7.gg, gk7, upd_at eE, ?_, mv2, by rw [List.length_append]; show U.length + 1 ≤ i + 1; omega, g7, sD.hh.free f7, nkp, upd_else eE h7 (Ne.symm nkp), dy, gM, by omega⟩
      rw [List.map_append]
      exact (dU.append (.one (hde.up gg))).up s7.gg
    · refine ⟨_, rfl, rfl, _, rfl, iteBF (by simp) ?_⟩
      exact ⟨GB, mp, ks, ms, U, L, _, _, rfl, sD.pure s7, gg, gkB, s7 _ _ hkD, dU, mvU, by omega, gmB, fmB, nkm, s7 _ _ hmD, dL, grp, lL⟩
  rintro σ' HB ⟨GB, mp, ks, ms, U, L, y5, y6, rfl, sB, gg, gkB, hkB, dU, mvU, lU, gmB, fmB, nkm, hmB, dL, grp, lL⟩
  refine ⟨_, rfl, _, rfl, by show 2 ≤ sizeLine; decide, fun r HD nD => ?_⟩
  obtain ⟨sD, gr, hr, fr⟩ := sB.loc2 nD
  exact q r kp mp ks ms U L GB HD sD fr fk fmB gr gkB gmB nkm (fun z => by rw [← z, nD.fr] at hkB; cases hkB) (fun z => by rw [← z, nD.fr] at hmB; cases hmB) hr (nD.else hkB) (nD.else hmB) dU dL mvU (by omega) grp lL


def limT : List (List Int) := [[0, 2, 4, 1, 3, 5, 6, 7, 8, 9], [1, 2, 3, 4, 0, 5, 6, 7, 8, 9], [0, 1, 2, 3, 4, 5, 7, 9, 6, 8], [0, 1, 2, 3, 4, 6, 7, 8, 9, 5]]
theorem limT_mv : AllMv 10 limT := (AllMv.cons' (by unfold IsMv; decide +kernel) (AllMv.cons' (by unfold IsMv; decide +kernel) (AllMv.cons' (by unfold IsMv; decide +kernel) (AllMv.cons' (by unfold IsMv; decide +kernel) AllMv.nil'))))
def ninT : List (List Int) := [[1, 2, 0, 5, 3, 4, 7, 8, 6], [3, 4, 5, 0, 1, 2, 6, 8, 7]]
theorem ninT_mv : AllMv 9 ninT := AllMv.cons' (by unfold IsMv; decide +kernel) (AllMv.cons' (by unfold IsMv; decide +kernel) AllMv.nil')
def spAnyWorld : Sp := fun vs H Q _ => ∃ (S : Sr) (G : Hp) (most : Int), vs = [.ref S.a, .int most] ∧ Wd S G H ∧ 1 ≤ most ∧ most ≤ 400 ∧ ∀ (p : Addr) (n : Int) (T L : List (List Int)) (H' : Hp), Arn S G H p n T L H' → ((L.length : Nat) : Int) ≤ most → Q (.ref p) H'
theorem ok_any_world (Z : Zs mg) (D : Ds K mg) (c__law_take : Cal P w K mg base "_law_take" 2 ["store", "many"] spTake) (c__law_pick : Cal P w K mg base "_law_pick" 3 ["store", "things"] spPick) (c__law_drawn : Cal P w K mg base "_law_drawn" 3 ["store", "things", "many"] spDrawn) (c__law_some_move : Cal P w K mg base "_law_some_move" 4 ["store", "points"] spMove) (c__law_turns : Cal P w K mg base "_law_turns" 4 ["store"] spTurnsM) (c__law_renamed : Cal P w K mg base "_law_renamed" 1 ["move", "by"] spRenamedC) (c__law_cut : Cal P w K mg base "_law_cut" 3 ["points", "told", "most"] spCut) : Cal P w K mg base "_law_any_world" 5 ["store", "most"] spAnyWorld := by
  refine Def.cal D.d_law_any_world sc_law_any_world (fun vs H Q E h => ?_) (fun f cdv A outer s H vs Q E hr h => ?_)
  · obtain ⟨S, G, most, rfl, wd, o1, o2, q⟩ := h
    rfl
  obtain ⟨S, G, most, rfl, wd, o1, o2, q⟩ := h
  refine ⟨_, (pss_cons (ps_set (i := 2) sc_law_any_world.nd rfl (Or.inl rfl) (pe_cal c__law_take (hr.mono (by first | decide | omega)) (by rfl) (pa_cons (pv 0) (pa_cons pe_int pa_nil))))
      (pss_cons (ps_set (i := 3) sc_law_any_world.nd rfl (Or.inr rfl) (pe_cal c__law_take (hr.mono (by first | decide | omega)) (by rfl) (pa_cons (pv 0) (pa_cons (pe_cal c__law_pick (hr.mono (by first | decide | omega)) (by rfl) (pa_cons (pv 0) (pa_cons (pe_lstN (pa_cons pe_int (pa_cons pe_int (pa_cons pe_int (pa_cons pe_int (pa_cons pe_int (pa_cons pe_int (pa_cons pe_int (pa_cons pe_int pa_nil))))))))) pa_nil))) pa_nil))))
      (pss_cons (ps_setLc (i := 4) (own := [("k", 7)]) (g := gName 7) (tt := tYes) (by rfl) sc_law_any_world.nd rfl rfl (sw_true rfl rfl rfl (by decide +kernel)) (pi_range1 (by rfl) Z.z_range (pa_cons (pe_cal c__law_take (hr.mono (by first | decide | omega)) (by rfl) (pa_cons (pv 0) (pa_cons pe_int pa_nil))) pa_nil)) (blkOk_by (N := ["store", "most", "pick", "points", "told", "by", "both", "k", "move"]) (sc := defScope s_law_any_world) (by decide +kernel)) (fun _ _ _ _ _ => pg_name (i := 7) sc_law_any_world.nd rfl (Or.inl rfl)) (fun _ _ _ _ _ => pts_nil) (fun _ _ _ _ _ => (pe_cal c__law_some_move (hr.mono (by first | decide | omega)) (by rfl) (pa_cons (pv 0) (pa_cons (pv 3) pa_nil)))))
      (Evl.pss_cut (ps_if (pt_cmp (pc_lt (pv 2) pe_int) (nomark _)) (pss_one (ps_set (i := 4) sc_law_any_world.nd rfl (Or.inl rfl) (pe_cal c__law_turns (hr.mono (by first | decide | omega)) (by rfl) (pa_cons (pv 0) pa_nil)))) (pss_one (ps_if (pt_cmp (pc_eqI (pv 2) pe_int) (nomark _)) (pss_one (ps_set (i := 4) sc_law_any_world.nd rfl (Or.inl rfl) (pe_lstN (pa_cons (pe_tupN (pa_cons pe_int (pa_cons pe_int (pa_cons pe_int (pa_cons pe_int (pa_cons pe_int (pa_cons pe_int (pa_cons pe_int (pa_cons pe_int (pa_cons pe_int pa_nil)))))))))) (pa_cons (pe_tupN (pa_cons pe_int (pa_cons pe_int (pa_cons pe_int (pa_cons pe_int (pa_cons pe_int (pa_cons pe_int (pa_cons pe_int (pa_cons pe_int (pa_cons pe_int pa_nil)))))))))) pa_nil))))) pss_nil)))
      (Evl.pss_cut (ps_if (PW.pt (pw_and (pt_cmp (pc_gt (pv 1) pe_int) (nomark _)) (pw_and1 (pt_cmp (pc_eqI (pe_cal c__law_take (hr.mono (by first | decide | omega)) (by rfl) (pa_cons (pv 0) (pa_cons pe_int pa_nil))) pe_int) (nomark _))))) (pss_one (ps_set (i := 4) sc_law_any_world.nd rfl (Or.inl rfl) (pe_lstN (pa_cons (pe_tupN (pa_cons pe_int (pa_cons pe_int (pa_cons pe_int (pa_cons pe_int (pa_cons pe_int (pa_cons pe_int (pa_cons pe_int (pa_cons pe_int (pa_cons pe_int (pa_cons pe_int pa_nil))))))))))) (pa_cons (pe_tupN (pa_cons pe_int (pa_cons pe_int (pa_cons pe_int (pa_cons pe_int (pa_cons pe_int (pa_cons pe_int (pa_cons pe_int (pa_cons pe_int (pa_cons pe_int (pa_cons pe_int pa_nil))))))))))) (pa_cons (pe_tupN (pa_cons pe_int (pa_cons pe_int (pa_cons pe_int (pa_cons pe_int (pa_cons pe_int (pa_cons pe_int (pa_cons pe_int (pa_cons pe_int (pa_cons pe_int (pa_cons pe_int pa_nil))))))))))) (pa_cons (pe_tupN (pa_cons pe_int (pa_cons pe_int (pa_cons pe_int (pa_cons pe_int (pa_cons pe_int (pa_cons pe_int (pa_cons pe_int (pa_cons pe_int (pa_cons pe_int (pa_cons pe_int pa_nil))))))))))) pa_nil))))))) pss_nil)
      (Evl.pss_cut (ps_if (pt_cmp (pc_gt (pe_callB call_len_seq (by rfl) Z.z_len (by decide +kernel) (pa_cons (pv 4) pa_nil)) pe_int) (nomark _)) (pss_one (ps_set (i := 3) sc_law_any_world.nd rfl (Or.inr rfl) (pe_callB call_len_seq (by rfl) Z.z_len (by decide +kernel) (pa_cons (pe_ix ix_list (pv 4) pe_int (fun _ _ => rfl)) pa_nil)))) pss_nil)
      (Evl.pss_cut (ps_if (pt_cmp (pc_eqI (pe_cal c__law_take (hr.mono (by first | decide | omega)) (by rfl) (pa_cons (pv 0) (pa_cons pe_int pa_nil))) pe_int) (nomark _)) (pss_cons (ps_set (i := 5) sc_law_any_world.nd rfl (Or.inr rfl) (pe_callTy call_tupleN (by rfl) Z.z_tuple (by decide +kernel) (pa_cons (pe_cal c__law_drawn (hr.mono (by first | decide | omega)) (by rfl) (pa_cons (pv 0) (pa_cons (pe_listRgN rfl (by rfl) Z.z_list (prg_1 (by rfl) Z.z_range (pv 3))) (pa_cons (pv 3) pa_nil)))) pa_nil)))
      (pss_one (ps_setLc (i := 4) (own := [("move", 8)]) (g := gName 8) (tt := tYes) (by rfl) sc_law_any_world.nd rfl rfl (sw_true rfl rfl rfl (by decide +kernel)) (pi_list (pv 4)) (blkOk_by (N := ["store", "most", "pick", "points", "told", "by", "both", "k", "move"]) (sc := defScope s_law_any_world) (by decide +kernel)) (fun _ _ _ _ _ => pg_name (i := 8) sc_law_any_world.nd rfl (Or.inl rfl)) (fun _ _ _ _ _ => pts_nil) (fun _ _ _ _ _ => (pe_cal c__law_renamed (hr.mono (by first | decide | omega)) (by rfl) (pa_cons (pv 8) (pa_cons (pv 5) pa_nil))))))) pss_nil)
      (pss_cons (ps_set (i := 6) sc_law_any_world.nd rfl (Or.inl rfl) (pe_cal c__law_cut (hr.mono (by first | decide | omega)) (by rfl) (pa_cons (pv 3) (pa_cons (pv 4) (pa_cons (pv 1) pa_nil)))))
      (Evl.pss_cut (ps_if (pt_cmp (pc_eqI (pe_cal c__law_take (hr.mono (by first | decide | omega)) (by rfl) (pa_cons (pv 0) (pa_cons pe_int pa_nil))) pe_int) (nomark _)) (pss_one (ps_expr (pe_bm PySem.F.plainAttrs_list PySem.F.slot_list_insert PySem.F.type_list_insert mt_insertN (pe_ix ix_list (pv 6) pe_int (fun _ _ => rfl)) (pa_cons (pe_cal c__law_take (hr.mono (by first | decide | omega)) (by rfl) (pa_cons (pv 0) (pa_cons (pe_op op_add (pe_callB call_len_seq (by rfl) Z.z_len (by decide +kernel) (pa_cons (pe_ix ix_list (pv 6) pe_int (fun _ _ => rfl)) pa_nil)) pe_int) pa_nil))) (pa_cons (pe_cal c__law_pick (hr.mono (by first | decide | omega)) (by rfl) (pa_cons (pv 0) (pa_cons (pe_ix ix_list (pv 6) pe_int (fun _ _ => rfl)) pa_nil))) pa_nil))))) pss_nil)
      (pss_one (ps_ret (pe_lstN (pa_cons (pv 3) (pa_cons (pe_ix ix_list (pv 6) pe_int (fun _ _ => rfl)) (pa_cons (pe_ix ix_list (pv 6) pe_int (fun _ _ => rfl)) pa_nil))))))))))))))), ?_⟩
  refine ⟨_, rfl, S, G, 8, rfl, wd, by omega, fun pk H1 a0 a1 s1 => ?_⟩
  refine ⟨_, rfl, _, rfl, by show 8 ≤ sizeLine; decide, fun l0 H2 n2 => ?_⟩
  obtain ⟨s2, g2, h2, f2⟩ := s1.loc n2
  refine ⟨S, G, .ref l0, _, rfl, s2.wd, .inl ⟨l0, rfl, s2.ns f2, h2⟩, by show 0 < 8; decide, by show 8 < 1000000; decide, fun x H3 hx s3 => ?_⟩
  obtain ⟨k8, rfl, k0, k13⟩ : ∃ k : Int, x = .int k ∧ 1 ≤ k ∧ k ≤ 13 := by
    simp only [List.mem_cons, List.not_mem_nil, or_false] at hx
    rcases hx with h | h | h | h | h | h | h | h <;> exact ⟨_, h, by decide, by decide⟩
  have s3 := s2.trans s3
  refine ⟨S, G, k8, rfl, s3.wd, by omega, fun n H4 d0 d1 s4 => ?_⟩
  have s4 := s3.trans s4
  have n12 : n ≤ 12 := by omega
  clear s1 s2 s3 h2 hx
  refine ⟨_, rfl, S, G, 5, rfl, s4.wd, by omega, fun d H5 e0 e1 s5 => ?_⟩
  have s5 := s4.trans s5
  refine ⟨d, rfl, by omega, by omega, fun l hl => ?_⟩
  refine lc_range (lo := 0) (n := d.toNat) (fun i H' => ∃ (G' : Hp) (zs : List V) (T : List (List Int)), Go S G H G' H' ∧ G' l = none ∧ H l = none ∧ H' l = some (.lst zs) ∧ DaAll G' zs (T.map rowD) ∧ AllMv n T ∧ T.length = i) ?_ ?_ ?_
  · obtain ⟨s6, gl, h6, fl⟩ := s5.loc (p := l) (o := .lst []) ⟨hl, rfl⟩
    exact ⟨G, [], [], s6, gl, fl, h6, .nil, .nil', rfl⟩
  · rintro i H6 hi ⟨G6, zs, T, s6, gl, fl, h6, dT, mvT, lT⟩
    have lz := dT.length
    rw [List.length_map] at lz
    refine ⟨rfl, yesT ⟨_, rfl, _, rfl, S, G6, n, rfl, s6.wd, d0, by omega, fun p ms G7 H7 s7 k7 mv => ?_⟩⟩
    have h7 := s7.hh h6 (s6.ns fl)
    have gl7 := s7.nw h6 gl
    refine ⟨zs, h7, lt (by omega), G7, zs ++ [.ref p], T ++ [ms], (s6.trans s7).mut gl7 fl rfl, gl7, fl, upd_same, ?_, mvT.app' (.cons' mv .nil'), by rw [List.length_append, lT]; rfl⟩
    rw [List.map_append]
    exact (dT.up s7.gg).append (.one (.tup k7 (DaAll.ints _)))
  rintro H6 ⟨G6, zs, T, s6, gl, fl, h6, dT, mvT, lT⟩
  have row : ∀ {p : Addr} {ns : List Int} {Ha Hb : Hp}, New Ha p (.tup (ns.map V.int)) Hb → Da Hb (.ref p) (rowD ns) := fun n => .tup n.at (DaAll.ints _)
  -- the told moves, on m points
  refine ⟨fun σ' H' => ∃ (m : Int) (G' : Hp) (q : Addr) (ts : List V) (T : List (List Int)), σ' = [some (.ref S.a), some (.int most), some (.int pk), some (.int n), some (.ref q), none, none, none, none] ∧ Go S G H G' H' ∧ G' q = none ∧ H q = none ∧ H' q = some (.lst ts) ∧ DaAll G' ts (T.map rowD) ∧ AllMv m T ∧ 0 ≤ m ∧ m ≤ 12 ∧ T.length ≤ 4 ∧ (T = [] → m = n), ?_, ?_⟩
  · refine ⟨_, rfl, _, _, rfl, rfl, _, rfl, ite2 (fun c => ?_) (fun c => ?_)⟩
    · refine ⟨_, rfl, S, G6, rfl, s6.wd, fun l7 xs U m G7 H7 s7 f7 g7 h7 d7 mv7 l0 l2 m0 m12 => ?_⟩
      exact ⟨m, G7, l7, xs, U, rfl, s6.trans s7, g7, s6.fresh f7, h7, d7, mv7, m0, m12, by omega, fun e => by rw [e] at l0; cases l0⟩
    refine ⟨_, rfl, _, _, rfl, rfl, _, rfl, ite2 (fun c => ?_) (fun c => ⟨n, G6, l, zs, T, rfl, s6, gl, fl, h6, dT, mvT, d0, n12, by omega, fun _ => rfl⟩)⟩
    refine ⟨by show 9 ≤ sizeLine; decide, fun a0 Ha na => ⟨by show 9 ≤ sizeLine; decide, fun a1 Hb nb => ⟨by show 2 ≤ sizeLine; decide, fun r Hc nc => ?_⟩⟩⟩
    have dt : DaAll Hb [.ref a0, .ref a1] (ninT.map rowD) := .cons ((row (ns := [1, 2, 0, 5, 3, 4, 7, 8, 6]) na).up nb.same) (.cons (row (ns := [3, 4, 5, 0, 1, 2, 6, 8, 7]) nb) .nil)
    obtain ⟨sc, gr, hr, fr⟩ := (((s6.loc na).1).loc nb).1.loc nc
    exact ⟨9, fullG G6 Hc, r, _, ninT, rfl, sc.full, full_else hr rfl gr, fr, hr, rows_full sc.gh (dt.up nc.same), ninT_mv, by decide, by decide, by decide, fun e => by cases e⟩
  clear s6 dT mvT h6 s5 s4
  rintro σ' H7 ⟨m, G7, q7, ts, T, rfl, s7, gq, fq, hq, dT, mvT, m0, m12, lT, e7⟩
  refine ⟨fun σ' H' => ∃ (m : Int) (G' : Hp) (q : Addr) (ts : List V) (T : List (List Int)), σ' = [some (.ref S.a), some (.int most), some (.int pk), some (.int n), some (.ref q), none, none, none, none] ∧ Go S G H G' H' ∧ G' q = none ∧ H q = none ∧ H' q = some (.lst ts) ∧ DaAll G' ts (T.map rowD) ∧ AllMv m T ∧ 0 ≤ m ∧ m ≤ 12 ∧ T.length ≤ 4 ∧ (T = [] → m = n), ?_, ?_⟩
  · refine ⟨_, rfl, _, _, rfl, rfl, _, rfl, ite2 (fun c => ?_) (fun c => iteF ⟨m, G7, q7, ts, T, rfl, s7, gq, fq, hq, dT, mvT, m0, m12, lT, e7⟩)⟩
    refine ⟨_, rfl, S, G7, 3, rfl, s7.wd, by omega, fun d H8 b0 b1 s8 => ⟨_, _, rfl, rfl, _, rfl, ite2 (fun c => ?_) (fun c => ⟨m, G7, q7, ts, T, rfl, s7.trans s8, gq, fq, s8.hh hq (s7.ns fq), dT, mvT, m0, m12, lT, e7⟩)⟩⟩
    have s8 := s7.trans s8
    refine ⟨by show 10 ≤ sizeLine; decide, fun a0 Ha na => ⟨by show 10 ≤ sizeLine; decide, fun a1 Hb nb => ⟨by show 10 ≤ sizeLine; decide, fun a2 Hc nc => ⟨by show 10 ≤ sizeLine; decide, fun a3 Hd nd => ⟨by show 4 ≤ sizeLine; decide, fun r He ne => ?_⟩⟩⟩⟩⟩
    have dt : DaAll Hd _ (limT.map rowD) := (.cons (((row na).up nb.same).up (nc.same.trans nd.same)) (.cons ((row nb).up (nc.same.trans nd.same)) (.cons ((row nc).up nd.same) (.cons (row nd) .nil))))
    obtain ⟨sc, gr, hr, fr⟩ := ((((s8.loc na).1.loc nb).1.loc nc).1.loc nd).1.loc ne
    exact ⟨10, fullG G7 He, r, _, limT, rfl, sc.full, full_else hr rfl gr, fr, hr, rows_full sc.gh (dt.up ne.same), limT_mv, by decide, by decide, by decide, fun e => by cases e⟩
  clear s7 gq fq hq dT mvT lT e7
  rintro σ' H8 ⟨m, G8, q8, ts, T, rfl, s8, gq, fq, hq, dT, mvT, m0, m12, lT, e8⟩
  refine ⟨fun σ' H' => σ' = [some (.ref S.a), some (.int most), some (.int pk), some (.int m), some (.ref q8), none, none, none, none] ∧ H' = H8, ?_, ?_⟩
  · have lts := dT.length
    rw [List.length_map] at lts
    refine ⟨_, rfl, q8, _, rfl, .inl (.of hq), _, _, rfl, rfl, _, rfl, ite2 (fun c => ?_) (fun c => ?_)⟩
    · have c : (0 : Int) < ((ts.length : Nat) : Int) := dec_of c
      obtain ⟨v, hv⟩ : ∃ v, ts[0]? = some v := ⟨_, List.getElem?_eq_getElem (by omega)⟩
      obtain ⟨e, he, de⟩ := dT.get hv
      rw [List.getElem?_map] at he
      obtain ⟨w, hw, rfl⟩ := Option.map_eq_some_iff.mp he
      obtain ⟨b, rfl, hb⟩ := rows_ref de
      have mvw := mvT w (List.mem_of_getElem? hw)
      refine ⟨_, rfl, q8, _, 0, _, rfl, rfl, .of hq, atI_nat (j := 0) hv, b, _, rfl, .inr (.of (s8.gh _ _ hb)), ?_⟩
      have e : (((w.map V.int).length : Nat) : Int) = m := by rw [List.length_map, mvw.len]; omega
      rw [e]
      exact ⟨rfl, rfl⟩
    · have c : ¬ (0 : Int) < ((ts.length : Nat) : Int) := dec_not c
      rw [e8 (List.eq_nil_of_length_eq_zero (by omega))]
      exact ⟨rfl, rfl⟩
  rintro σ' H9 ⟨rfl, rfl⟩
  clear e8 n12 d0 d1
  refine ⟨fun σ' H' => ∃ (G' : Hp) (qt : Addr) (ts : List V) (T : List (List Int)) (y5 : Option V), σ' = [some (.ref S.a), some (.int most), some (.int pk), some (.int m), some (.ref qt), y5, none, none, none] ∧ Go S G H G' H' ∧ G' qt = none ∧ H qt = none ∧ H' qt = some (.lst ts) ∧ DaAll G' ts (T.map rowD) ∧ AllMv m T ∧ T.length ≤ 4, ?_, ?_⟩
  · refine ⟨_, rfl, S, G8, 2, rfl, s8.wd, by omega, fun d7 H7 b0 b1 s7 => ⟨_, _, rfl, rfl, _, rfl, ite2 (fun c => ?_) (fun c => ⟨G8, q8, ts, T, _, rfl, s8.trans s7, gq, fq, s7.hh hq (s8.ns fq), dT, mvT, lT⟩)⟩⟩
    have hq := s7.hh hq (s8.ns fq)
    have s7 := s8.trans s7
    refine ⟨_, rfl, _, rfl, m, rfl, .of_le (by decide) (by omega) (by decide) (by omega), fun l H8 n8 => ?_⟩
    rw [rgV_rngI] at n8
    obtain ⟨s8, gl, hl, fl⟩ := s7.loc n8
    have hq := n8.else hq
    refine ⟨_, rfl, S, G8, l, _, m, rfl, s8.wd, .inl hl, by rw [List.length_map, rngI_len]; omega, by omega, by omega, fun r ys rest H9 s9 gr fr hr pm0 hy => ?_⟩
    obtain ⟨rs, ms, rfl, rfl, pm⟩ := perm_ints pm0
    rw [List.length_map, List.length_map, rngI_len] at hy
    have pl := pm.length_eq
    rw [List.length_append, rngI_len] at pl
    have e : ms = [] := List.eq_nil_of_length_eq_zero (by omega)
    subst e
    rw [List.append_nil] at pm
    have hq := s9.hh hq (s8.ns fq)
    refine ⟨r, _, rfl, .of hr, fun b HA nA => ?_⟩
    obtain ⟨GA, sA, gA, kA, oA⟩ := (s8.trans s9).know nA
    have hq := nA.else hq
    have gqA : GA q8 = none := by
      rw [oA q8 fun z => by rw [z, nA.at] at hq; cases hq]
      exact gq
    refine ⟨_, rfl, q8, rfl, ⟨_, .of hq⟩, fun x hx => ?_⟩
    refine lc_list (xs := ts) (fun i H' => ∃ (G' : Hp) (zs : List V) (U : List (List Int)), Go S G H G' H' ∧ Same GA G' ∧ G' q8 = none ∧ H' q8 = some (.lst ts) ∧ G' x = none ∧ H x = none ∧ H' x = some (.lst zs) ∧ DaAll G' zs (U.map rowD) ∧ AllMv m U ∧ U.length = i) ?_ ?_ ?_ ?_
    · obtain ⟨sx, gx, hx2, fx⟩ := sA.loc (p := x) (o := .lst []) ⟨hx, rfl⟩
      exact ⟨GA, [], [], sx, Same.refl _, gqA, (New.mk hx rfl : New _ x (.lst []) _).else hq, gx, fx, hx2, .nil, .nil', rfl⟩
    · rintro i H' - ⟨G', zs, U, sB, gg, gqB, hqB, -⟩
      exact .of hqB
    · rintro i y HB hy ⟨GB, zs, U, sB, gg, gqB, hqB, gx, fx, hxB, dU, mvU, lU⟩
      obtain ⟨e, he, hde⟩ := dT.get hy
      rw [List.getElem?_map] at he
      obtain ⟨v, hv, rfl⟩ := Option.map_eq_some_iff.mp he
      obtain ⟨c, rfl, hc⟩ := rows_ref hde
      have ilt := (List.getElem?_eq_some_iff.mp hv).1
      refine ⟨rfl, yesT ⟨_, rfl, _, rfl, GB, c, b, v, rs, m, rfl, sB.gh, (gg _ _ (gA _ _ hc)), gg _ _ kA, mvT v (List.mem_of_getElem? hv), pm, m0, by omega, fun p7 ms G7 H7 s7 k7 mv7 _ => ?_⟩⟩
      have S7 := sB.q s7
      have h7 := s7.hh _ _ hxB
      have g7 := s7.nw2 hxB gx
      have lz := dU.length
      rw [List.length_map] at lz
      refine ⟨zs, h7, lt (by omega), G7, zs ++ [.ref p7], U ++ [ms], S7.mut g7 fx rfl, gg.trans s7.gg, s7.nw2 hqB gqB, ?_, g7, fx, upd_same, ?_, mvU.app' (.cons' mv7 .nil'), by rw [List.length_append, lU]; rfl⟩
      · rw [upd_ne fun z => by rw [z, hx] at hq; cases hq]
        exact s7.hh _ _ hqB
      · rw [List.map_append]
        exact (dU.up s7.gg).append (.one (.tup k7 (DaAll.ints _)))
    · rintro HB ⟨GB, zs, U, sB, gg, gqB, hqB, gx, fx, hxB, dU, mvU, lU⟩
      have lt6 := dT.length
      rw [List.length_map] at lt6
      exact ⟨GB, x, zs, U, _, rfl, sB, gx, fx, hxB, dU, mvU, by omega⟩
  clear s8 gq fq hq dT mvT lT
  rintro σ' H7 ⟨G7, qt, ts, T, y5, rfl, s7, gq, fq, hq, dT, mvT, lT⟩
  refine ⟨_, rfl, _, rfl, _, rfl, G7, qt, m, most, ts, T, rfl, s7.gh, m0, m12, hq, dT, mvT, by omega, o1, by omega, fun p k mm ks ms U L G8 H8 s8 fp fk fm gp gk gm nkm npk npm hp hk hm dk dm mvU lU grp lL => ?_⟩
  have S8 := s7.q s8
  have fk := s7.fresh fk
  have fm := s7.fresh fm
  have fp := s7.fresh fp
  have lks := dk.length
  rw [List.length_map] at lks
  have lms := dm.length
  rw [List.length_map] at lms
  have L1 : 0 < L.length := List.length_pos_of_mem grp.still
  refine ⟨fun σ' H' => ∃ (ks : List V) (U : List (List Int)), σ' = [some (.ref S.a), some (.int most), some (.int pk), some (.int m), some (.ref qt), y5, some (.ref p), none, none] ∧ Go S G H G8 H' ∧ H' p = some (.lst [.ref k, .ref mm]) ∧ H' k = some (.lst ks) ∧ H' mm = some (.lst ms) ∧ DaAll G8 ks (U.map rowD) ∧ AllMv m U ∧ U.length ≤ 8 ∧ Grp m U L, ?_, ?_⟩
  · refine ⟨_, rfl, S, G8, 4, rfl, S8.wd, by omega, fun d HC d0 d1 sC => ⟨_, _, rfl, rfl, _, rfl, ite2 (fun c => ?_) (fun c => ⟨ks, U, rfl, S8.trans sC, sC.hh hp (S8.ns fp), sC.hh hk (S8.ns fk), sC.hh hm (S8.ns fm), dk, mvU, by omega, grp⟩)⟩⟩
    have hpC := sC.hh hp (S8.ns fp)
    have hkC := sC.hh hk (S8.ns fk)
    have hmC := sC.hh hm (S8.ns fm)
    have sC := S8.trans sC
    refine ⟨_, rfl, p, _, 0, _, rfl, rfl, .of hpC, rfl, .inl ⟨rfl, _, .of hkC⟩, _, rfl, _, rfl, p, _, 0, _, rfl, rfl, .of hpC, rfl, k, _, rfl, .inl (.of hkC), _, _, rfl, rfl, S, G8, _, rfl, sC.wd, by omega, fun t HD t0 t1 sD => ?_⟩
    have hpD := sD.hh hpC (sC.ns fp)
    have hkD := sD.hh hkC (sC.ns fk)
    have hmD := sD.hh hmC (sC.ns fm)
    have sD := sC.trans sD
    refine ⟨_, rfl, _, rfl, p, _, 1, _, rfl, rfl, .of hpD, rfl, S, G8, .ref mm, ms, rfl, sD.wd, .inl ⟨mm, rfl, sD.ns fm, hmD⟩, by omega, by omega, fun x HE hx sE => ?_⟩
    obtain ⟨j, hj⟩ := List.getElem?_of_mem hx
    obtain ⟨d, hd, hdd⟩ := dm.get hj
    rw [List.getElem?_map] at hd
    obtain ⟨w, hw, rfl⟩ := Option.map_eq_some_iff.mp hd
    have mk := (grp.mem w).mp (List.mem_of_getElem? hw)
    have mvw := made_mv m0 mvU mk
    have hpE := sE.hh hpD (sD.ns fp)
    have hkE := sE.hh hkD (sD.ns fk)
    have hmE := sE.hh hmD (sD.ns fm)
    have sE := sD.trans sE
    refine ⟨k, ks, t, x, rfl, rfl, hkE, lt (by omega), t0, by omega, fun HF eF => ?_⟩
    have mv3 : AllMv m (U.take t.toNat ++ [w] ++ U.drop t.toNat) := fun z hz => by
      rcases List.mem_append.mp hz with hz | hz
      · rcases List.mem_append.mp hz with hz | hz
        · exact mvU z (List.mem_of_mem_take hz)
        · rw [List.mem_singleton.mp hz]; exact mvw
      · exact mvU z (List.mem_of_mem_drop hz)
    refine ⟨_, U.take t.toNat ++ [w] ++ U.drop t.toNat, rfl, sE.mut gk fk eF, upd_else eF hpE npk, upd_at eF, upd_else eF hmE (Ne.symm nkm), ?_, mv3, ?_, grp.like m0 mvU mv3 (fun z hz => made_told mv3 ?_) fun z hz => ?_⟩
    · rw [List.map_append, List.map_append, List.map_drop]
      exact ((dk.rows_take t.toNat).append (.one hdd)).append (dk.drop t.toNat)
    · rw [List.length_append, List.length_append, List.length_take, List.length_drop]
      show min t.toNat U.length + 1 + (U.length - t.toNat) ≤ 8
      omega
    · rw [← List.take_append_drop t.toNat U] at hz
      rcases List.mem_append.mp hz with hz | hz
      · exact List.mem_append_left _ (List.mem_append_left _ hz)
      · exact List.mem_append_right _ hz
    · rcases List.mem_append.mp hz with hz | hz
      · rcases List.mem_append.mp hz with hz | hz
        · exact made_told mvU (List.mem_of_mem_take hz)
        · rw [List.mem_singleton.mp hz]; exact mk
      · exact made_told mvU (List.mem_of_mem_drop hz)
  rintro σ' HC ⟨ks2, U2, rfl, sC, hpC, hkC, hmC, dU2, mvU2, lU2, grp2⟩
  refine ⟨_, rfl, _, rfl, p, _, 0, _, rfl, rfl, .of hpC, rfl, _, rfl, p, _, 1, _, rfl, rfl, .of hpC, rfl, by show 3 ≤ sizeLine; decide, fun r HD nD => ?_⟩
  obtain ⟨sD, gr, hr, fr⟩ := sC.loc nD
  exact q r m U2 L HD ⟨G8, k, mm, ks2, ms, sD, gr, gk, gm, fr, fk, fm, nkm, hr, nD.else hkC, nD.else hmC, dU2, dm, mvU2, m0, m12, lU2, grp2, by omega⟩ lL


def spBuilt (C : Addr) : Sp := fun vs H Q _ => ∃ (S : Sr) (G : Hp) (p : Addr) (n : Int) (T L : List (List Int)), vs = [.ref S.a, .ref p] ∧ Wd S G H ∧ Frz G p n T L ∧ ∀ (x : Addr) (G' H' : Hp), Go S G H G' H' → WAt C G' x n T L → Q (.ref x) H'
theorem ok_built {CW DB DN DT : Addr} (Z : Zs mg) (D : Ds K mg) (W : Dw K mg CW) (c__law_either : Cal P w K mg base "_law_either" 3 ["store", "entries"] spEither) (c_World___init__ : CalM P w K mg base CW "__init__" 7 ["self", "points", "moves"] (spInit K CW DB DN DT)) : Cal P w K mg base "_law_built" 9 ["store", "drawn"] (spBuilt CW) := by
  refine Def.cal D.d_law_built sc_law_built (fun vs H Q E h => ?_) (fun f cdv A outer s H vs Q E hr h => ?_)
  · obtain ⟨S, G, p, n, T, L, rfl, wd, ⟨k, m, ks, ms, gp, gk, gm, dT, dL, ok⟩, q⟩ := h
    rfl
  obtain ⟨S, G, p, n, T, L, rfl, wd, ⟨k, m, ks, ms, gp, gk, gm, dT, dL, ok⟩, q⟩ := h
  refine ⟨_, (pss_cons (ps_set (i := 2) sc_law_built.nd rfl (Or.inl rfl) (pe_cal c__law_either (hr.mono (by first | decide | omega)) (by rfl) (pa_cons (pv 0) (pa_cons (pe_ix ix_list (pv 1) pe_int (fun _ _ => rfl)) pa_nil))))
      (pss_cons (ps_set (i := 3) sc_law_built.nd rfl (Or.inl rfl) (pe_makeQ W.wc c_World___init__ (hr.mono (by first | decide | omega)) (by rfl) (pa_cons (pe_ix ix_list (pv 1) pe_int (fun _ _ => rfl)) (pa_cons (pv 2) pa_nil))))
      (pss_cons (ps_if (pt_val (pe_callB call_isD (by rfl) Z.z_isinstance (by decide +kernel) (pa_cons (pv 2) (pa_cons (pe_bltn (v := .ty "list") (by rfl) Z.z_list (by decide +kernel) rfl) pa_nil)))) (pss_one (ps_expr (pe_bm PySem.F.plainAttrs_list PySem.F.slot_list_append PySem.F.type_list_append mt_appendN (pv 2) (pa_cons pe_non pa_nil)))) pss_nil)
      (pss_one (ps_ret (pv 3)))))), ?_⟩
  refine ⟨_, rfl, _, rfl, p, _, 1, _, rfl, rfl, .of (wd.gh _ _ gp), rfl, S, G, k, ks, rfl, wd, wd.ne gk, wd.gh _ _ gk, fun tp t H1 s1 gtp ftp htp => ?_⟩
  refine ⟨_, rfl, p, _, 0, _, rfl, rfl, .of (s1.gh _ _ gp), rfl, _, rfl, fun x dx fx fdx nex => made_world s1.gh (hasS_if htp) dT ok fx fdx nex fun G3 H3 s3 wat => ⟨rfl, ?_⟩⟩
  have S3 := s1.q s3
  have htp3 := s3.hh _ _ htp
  refine ⟨_, rfl, _, sqD t (T.map rowD), "list", rfl, if_sq ▸ Da.of_if htp3 (dT.up (S3.gg.trans S3.gh)), ok_list, _, rfl, ?_⟩
  cases t with
  | true => exact iteBF (ib_tuple_list _) ⟨_, rfl, q x G3 H3 S3 wat⟩
  | false =>
    have g3 := s3.nw2 htp gtp
    have lks := dT.length
    rw [List.length_map] at lks
    have lT := ok.lT
    exact iteBT (ib_list_list _) ⟨_, rfl, .inl ⟨rfl, _, .of htp3⟩, tp, _, _, rfl, rfl, htp3, lt (by omega), fun H5 e5 => ⟨_, rfl, q x G3 H5 (S3.mut g3 ftp e5) wat⟩⟩
/-- the indexes at which the row is tight -/
def tgx (rs : List Int) (L : List (List Int)) : List Int := pts (fun k => !lsB rs L k) rs.length
theorem tg_mem {rs : List Int} {L : List (List Int)} {x : Int} : x ∈ tgx rs L ↔ ∃ w ∈ L, x = ((lead w rs : Nat) : Int) ∧ lead w rs < rs.length := by
  unfold tgx
  rw [pts_mem]
  have key : ∀ k : Nat, k < rs.length → ((!lsB rs L k) = true ↔ ∃ w ∈ L, lead w rs = k) := fun k hk => by
    have hr : rs[k]? = some rs[k] := List.getElem?_eq_getElem hk
    have hl := lsB_iff (L := L) hr
    constructor
    · intro h
      have no : ¬ ∀ w ∈ holdL (rs.take k) L, stp w rs[k] = rs[k] := fun z => by rw [hl.mpr z] at h; cases h
      obtain ⟨w, hw⟩ := Classical.not_forall.mp no
      obtain ⟨hw, no⟩ := Classical.not_imp.mp hw
      obtain ⟨h1, h2⟩ := (List.mem_filter (p := holdB (rs.take k))).mp hw
      exact ⟨w, h1, lead_stop hr ((lead_iff w rs k (by omega)).mp h2) no⟩
    · rintro ⟨w, hw, e⟩
      cases c : lsB rs L k with
      | false => rfl
      | true =>
        exfalso
        have h2 : holdB (rs.take k) w = true := (lead_iff w rs k (by omega)).mpr (by omega)
        have yes := hl.mp c w ((List.mem_filter (p := holdB (rs.take k))).mpr ⟨hw, h2⟩)
        have := lead_go hr (by omega) yes
        omega
  constructor
  · rintro ⟨h0, h1, h2⟩
    obtain ⟨w, hw, e⟩ := (key _ h1).mp h2
    exact ⟨w, hw, by omega, by omega⟩
  · rintro ⟨w, hw, rfl, l⟩
    exact ⟨by omega, by rw [Int.toNat_natCast]; exact l, by rw [Int.toNat_natCast]; exact (key _ l).mpr ⟨w, hw, rfl⟩⟩
def spTightAt : Sp := fun vs H Q _ => ∃ (G : Hp) (m lo : Addr) (n : Int) (ms : List V) (L : List (List Int)) (rs : List Int), vs = [.ref m, .ref lo] ∧ Same G H ∧ G m = some (.lst ms) ∧ DaAll G ms (L.map rowD) ∧ AllMv n L ∧ G lo = some (.lst (rs.map V.int)) ∧ (∀ r ∈ rs, inR n r) ∧ rs.length ≤ 24 ∧
  ∀ (p : Addr) (H' : Hp), Stq G H G H' → G p = none → H p = none → H' p = some (.lst ((tgx rs L).map V.int)) → Q (.ref p) H'
theorem ok_tight_at (Z : Zs mg) (D : Ds K mg) : Cal P w K mg base "_law_tight_at" 1 ["made", "row"] spTightAt := by
  refine Def.cal D.d_law_tight_at sc_law_tight_at (fun vs H Q E h => ?_) (fun f cdv A outer s H vs Q E hr h => ?_)
  · obtain ⟨G, m, lo, n, ms, L, rs, rfl, gh, gm, dm, mvL, glo, inr, lr, q⟩ := h
    rfl
  obtain ⟨G, m, lo, n, ms, L, rs, rfl, gh, gm, dm, mvL, glo, inr, lr, q⟩ := h
  refine ⟨_, (pss_cons (ps_set (i := 2) sc_law_tight_at.nd rfl (Or.inl rfl) pe_dnewK)
      (pss_cons (ps_for PassesOwn.never rfl (pi_list (pv 0)) (pg_name (i := 3) sc_law_tight_at.nd rfl (Or.inl rfl)) (pss_one (ps_for PassesOwn.never rfl (pi_range1 (by rfl) Z.z_range (pa_cons (pe_callB call_len_seq (by rfl) Z.z_len (by decide +kernel) (pa_cons (pv 1) pa_nil)) pa_nil)) (pg_name (i := 4) sc_law_tight_at.nd rfl (Or.inl rfl)) (pss_one (ps_if (pt_cmp (pc_neI (pe_ix ix_tup (pv 3) (pe_ix ix_list (pv 1) (pv 4) (fun _ _ => rfl)) (fun _ _ => rfl)) (pe_ix ix_list (pv 1) (pv 4) (fun _ _ => rfl))) (nomark _)) (pss_cons (ps_dput (hu_of hr) (pv 2) (pv 4) pe_bl rfl)
      (pss_one ps_break)) pss_nil)))))
      (pss_one (ps_ret (pe_callB cr_sortedI (by rfl) Z.z_sorted (by decide +kernel) (pa_cons (pe_callTy (call_listKv (by rfl)) (by rfl) Z.z_list (by decide +kernel) (pa_cons (pe_bm0 PySem.F.plainAttrs_dict PySem.F.slot_dict_keys PySem.F.type_dict_keys mt_keys (pv 2)) pa_nil)) pa_nil)))))), ?_⟩
  refine fun d hd => ?_
  obtain ⟨s1, gd, h1, fd⟩ := (Stq.refl gh).loc2 (p := d) (o := .dK []) ⟨hd, rfl⟩
  generalize upd H d (.dK []) = H1 at s1 h1 ⊢
  have lms := dm.length
  rw [List.length_map] at lms
  have small : ∀ {ks : List Int} {i : Nat}, ks.Nodup → (∀ x, x ∈ ks ↔ ∃ w ∈ L.take i, x = ((lead w rs : Nat) : Int) ∧ lead w rs < rs.length) → ks.length ≤ 24 := fun {ks i} nd mem => by
    have := len_subI (L := rngI 24) nd fun x hx => rngI_mem.mpr (by
      obtain ⟨w, hw, e, l⟩ := (mem x).mp hx
      exact ⟨by omega, by omega⟩)
    rwa [rngI_len] at this
  refine ⟨_, rfl, m, rfl, ⟨_, .of (s1.gh _ _ gm)⟩, for_list (K := K) (a := m) (xs := ms) (fun i σ' H' => ∃ (kvs : List (Key × V)) (ks : List Int) (y3 y4 : Option V), σ' = [some (.ref m), some (.ref lo), some (.ref d), y3, y4] ∧ Stq G H G H' ∧ H' d = some (.dK kvs) ∧ KSet kvs ks ∧ ∀ x, x ∈ ks ↔ ∃ w ∈ L.take i, x = ((lead w rs : Nat) : Int) ∧ lead w rs < rs.length) ?_ ?_ ?_ ?_⟩
  · exact ⟨[], [], none, none, rfl, s1, h1, ⟨rfl, List.nodup_nil⟩, fun x => ⟨fun h => absurd h (by simp), fun ⟨w, hw, _⟩ => absurd hw (by simp)⟩⟩
  · rintro i σ' H' - ⟨kvs, ks, y3, y4, rfl, s2, -⟩
    exact .of (s2.gh _ _ gm)
  · rintro i y σ' H2 hy ⟨kvs, ks, y3, y4, rfl, s2, h2, kset, mem⟩
    obtain ⟨e, he, de⟩ := dm.get hy
    rw [List.getElem?_map] at he
    obtain ⟨w, hw, rfl⟩ := Option.map_eq_some_iff.mp he
    obtain ⟨c, rfl, hc⟩ := rows_ref de
    have mv := mvL w (List.mem_of_getElem? hw)
    have tk : L.take (i + 1) = L.take i ++ [w] := by rw [List.take_add_one, hw]; rfl
    have ll := lead_le w rs
    have lks := small kset.2 mem
    have lkv := kset.len
    refine ⟨_, rfl, lo, _, rfl, .inl (.of (s2.gh _ _ glo)), _, rfl, by rw [List.length_map]; omega, by rw [List.length_map]; omega, ?_⟩
    rw [List.length_map]
    refine for_rangeB (lo := 0) (n := ((rs.length : Nat) : Int).toNat) (fun j σ' H' => ∃ y4 : Option V, σ' = [some (.ref m), some (.ref lo), some (.ref d), some (.ref c), y4] ∧ H' = H2 ∧ j ≤ lead w rs)
      (fun σ' H' => ∃ (kvs : List (Key × V)) (ks : List Int) (y3 y4 : Option V), σ' = [some (.ref m), some (.ref lo), some (.ref d), y3, y4] ∧ Stq G H G H' ∧ H' d = some (.dK kvs) ∧ KSet kvs ks ∧ ∀ x, x ∈ ks ↔ ∃ w ∈ L.take (i + 1), x = ((lead w rs : Nat) : Int) ∧ lead w rs < rs.length) ⟨y4, rfl, rfl, Nat.zero_le _⟩ ?_ ?_ (fun _ _ h => h)
    · rintro cont j σ' H3 hj ⟨y4, rfl, rfl, le⟩
      rw [Int.zero_add]
      have jl : j < rs.length := by omega
      have hr : rs[j]? = some rs[j] := List.getElem?_eq_getElem jl
      have rin := inr _ (List.mem_of_getElem? hr)
      have at_ : atI (rs.map V.int) (j : Int) = some (V.int rs[j]) := atI_nat (by rw [List.getElem?_map, hr]; rfl)
      obtain ⟨y, e1, e2, -⟩ := atI_ints (ns := w) rin.1 (by have := mv.len; have := rin.2; omega)
      obtain rfl : y = stp w rs[j] := Option.some.inj (e1.symm.trans (stp_at mv rin).1)
      have glo2 := s2.gh _ _ glo
      refine ⟨_, rfl, _, rfl, _, rfl, lo, _, _, _, rfl, rfl, .of glo2, at_, c, _, _, _, rfl, rfl, .of (s2.gh _ _ hc), e2, _, rfl, _, rfl, lo, _, _, _, rfl, rfl, .of glo2, at_, _, _, rfl, rfl, _, rfl, ite2 (fun c1 => ?_) (fun c1 => ?_)⟩
      · have no : stp w rs[j] ≠ rs[j] := nb_t c1
        have el := lead_stop hr le no
        obtain ⟨ks2, kset2, lk2, mem2⟩ := kset.put (j : Int) (.bl true)
        refine ⟨_, rfl, _, rfl, d, _, rfl, DPut.k (k := Sum.inl (j : Int)) h2 (Hd.lt (by omega)), cont _ _ ⟨_, ks2, _, _, rfl, s2.mut gd fd rfl, upd_same, kset2, fun x => ?_⟩⟩
        rw [mem2 x, mem x, tk]
        constructor
        · rintro (⟨v, hv, z⟩ | rfl)
          · exact ⟨v, List.mem_append_left _ hv, z⟩
          · exact ⟨w, List.mem_append_right _ List.mem_cons_self, by omega, by omega⟩
        · rintro ⟨v, hv, z⟩
          rcases List.mem_append.mp hv with hv | hv
          · exact .inl ⟨v, hv, z⟩
          · rw [List.mem_singleton.mp hv] at z
            exact .inr (by omega)
      · have yes : stp w rs[j] = rs[j] := nb_f c1
        exact ⟨_, rfl, rfl, lead_go hr le yes⟩
    · rintro σ' H3 ⟨y4, rfl, rfl, le⟩
      refine ⟨kvs, ks, _, _, rfl, s2, h2, kset, fun x => ?_⟩
      rw [mem x, tk]
      constructor
      · rintro ⟨v, hv, z⟩
        exact ⟨v, List.mem_append_left _ hv, z⟩
      · rintro ⟨v, hv, z⟩
        rcases List.mem_append.mp hv with hv | hv
        · exact ⟨v, hv, z⟩
        · rw [List.mem_singleton.mp hv] at z
          omega
  · rintro σ' H2 ⟨kvs, ks, y3, y4, rfl, s2, h2, kset, mem⟩
    rw [lms, List.take_length] at mem
    refine ⟨_, rfl, .inr (.inr (.inl ⟨rfl, .inl ⟨_, h2⟩⟩)), d, kvs, rfl, rfl, .inl h2, fun p hp => ?_⟩
    have npd : p ≠ d := fun z => by rw [z, h2] at hp; cases hp
    obtain ⟨s3, -, hp3, -⟩ := s2.loc2 (p := p) (o := keysO p d) ⟨hp, rfl⟩
    have h3 : upd H2 p (keysO p d) d = some (.dK kvs) := by rw [upd_ne (Ne.symm npd)]; exact h2
    refine ⟨p, d, kvs, rfl, hp3, .inl h3, fun l hl => ?_⟩
    have el : (kvs.map fun kv => kV kv.1) = ks.map V.int := by
      rw [← kV_inl, ← kset.1, List.map_map]
      rfl
    rw [el]
    obtain ⟨s4, -, h4, -⟩ := s3.loc2 (p := l) (o := .lst (ks.map V.int)) ⟨hl, rfl⟩
    refine ⟨l, ks, rfl, .of h4, fun ns' p2 pm so hp2 => ?_⟩
    obtain ⟨s5, g5, h5, f5⟩ := s4.loc2 (p := p2) (o := .lst (ns'.map V.int)) ⟨hp2, rfl⟩
    have nd2 : ns'.Nodup := pm.nodup_iff.mpr kset.2
    have e : ns' = tgx rs L := rise_eq ((so.and nd2).imp fun h => by omega) (pts_sorted _ _) fun x => (pm.mem_iff.trans (mem x)).trans tg_mem.symm
    subst e
    exact q p2 _ s5 g5 f5 h5
/-- v is no number from 0 to hi -/
structure BadTo (hi : Int) (G : Hp) (v : V) (d : PyData) : Prop where
  da : Da G v d
  no : isNum d 0 hi = false
  sz : szD d ≤ 10
  lv : lv 3 d = true
theorem BadTo.up {hi : Int} {G G' : Hp} {v : V} {d : PyData} (b : BadTo hi G v d) (g : Same G G') : BadTo hi G' v d := ⟨b.da.up g, b.no, b.sz, b.lv⟩
theorem badTo_int {hi : Int} {G : Hp} {i : Int} (h : i < 0 ∨ hi < i) : BadTo hi G (.int i) (.int i) := by
  refine ⟨.int i, ?_, by show 1 ≤ 10; decide, rfl⟩
  show (decide (0 ≤ i) && decide (i ≤ hi)) = false
  rcases h with h | h
  · rw [decide_eq_false (show ¬ 0 ≤ i by omega), Bool.false_and]
  · rw [decide_eq_false (show ¬ i ≤ hi by omega), Bool.and_false]
def spWrongTo : Sp := fun vs H Q _ => ∃ (S : Sr) (G : Hp) (hi : Int), vs = [.ref S.a, .int 0, .int hi] ∧ Wd S G H ∧ -10 ≤ hi ∧ hi ≤ 1000 ∧ ∀ (v : V) (d : PyData) (G' H' : Hp), Go S G H G' H' → BadTo hi G' v d → Q v H'
theorem ok_wrong_to (Z : Zs mg) (D : Ds K mg) (c__law_take : Cal P w K mg base "_law_take" 2 ["store", "many"] spTake) (c__law_pick : Cal P w K mg base "_law_pick" 3 ["store", "things"] spPick) : Cal P w K mg base "_law_wrong_number" 4 ["store", "low", "high"] spWrongTo := by
  refine Def.cal D.d_law_wrong_number sc_law_wrong_number (fun vs H Q E h => ?_) (fun f cdv A outer s H vs Q E hr h => ?_)
  · obtain ⟨S, G, hi, rfl, wd, b0, b1, q⟩ := h
    rfl
  obtain ⟨S, G, hi, rfl, wd, b0, b1, q⟩ := h
  refine ⟨_, (pss_cons (ps_set (i := 3) sc_law_wrong_number.nd rfl (Or.inl rfl) (pe_op op_add pe_int (pe_cal c__law_take (hr.mono (by first | decide | omega)) (by rfl) (pa_cons (pv 0) (pa_cons pe_int pa_nil)))))
      (pss_one (ps_ret (pe_cal c__law_pick (hr.mono (by first | decide | omega)) (by rfl) (pa_cons (pv 0) (pa_cons (pe_lstN (pa_cons (pe_op op_sub (pv 1) pe_int) (pa_cons (pe_op op_add (pv 2) pe_int) (pa_cons (pe_op op_sub (pv 1) (pv 3)) (pa_cons (pe_op op_add (pv 2) (pv 3)) (pa_cons (pe_op op_add (pv 2) (pe_op op_pow pe_int pe_int)) (pa_cons (pe_op op_sub (pv 1) (pe_op op_pow pe_int pe_int)) (pa_cons pe_bl (pa_cons pe_bl (pa_cons pe_non (pa_cons pe_str (pa_cons (pe_callTy call_str_int (by rfl) Z.z_str (by decide +kernel) (pa_cons (pv 1) pa_nil)) (pa_cons pe_str (pa_cons (pe_tupN pa_nil) (pa_cons (pe_tupN (pa_cons (pv 1) pa_nil)) (pa_cons (pe_lstN (pa_cons (pv 1) pa_nil)) (pa_cons (pe_lstN pa_nil) pa_nil))))))))))))))))) pa_nil)))))), ?_⟩
  refine ⟨_, rfl, S, G, 1000000, rfl, wd, by omega, fun f0 H1 a0 a1 s1 => ⟨_, _, rfl, rfl, ?_⟩⟩
  have ten : (10 : Int) ^ (29 : Int).toNat = 100000000000000000000000000000 := by decide +kernel
  refine ⟨_, rfl, _, rfl, _, _, rfl, rfl, _, rfl, _, _, rfl, rfl, _, rfl, _, rfl, _, _, rfl, rfl, _, rfl, _, rfl, _, _, rfl, rfl, _, rfl, _, _, rfl, rfl, ⟨by decide, by decide, by decide⟩, _, _, rfl, rfl, _, rfl, _, _, rfl, rfl, ⟨by decide, by decide, by decide⟩, _, _, rfl, rfl, ?_⟩
  refine ⟨_, rfl, _, rfl, by decide, ?_⟩
  refine ⟨by show 0 ≤ sizeLine; decide, fun t1 H2 n2 => ⟨_, rfl, by show 1 ≤ sizeLine; decide, fun t2 H3 n3 => ⟨_, rfl, by show 1 ≤ sizeLine; decide, fun l1 H4 n4 => ⟨by show 0 ≤ sizeLine; decide, fun l2 H5 n5 => ⟨by show 16 ≤ sizeLine; decide, fun r H6 n6 => ?_⟩⟩⟩⟩⟩
  obtain ⟨G2, s2, g2, k2, -⟩ := s1.know n2
  obtain ⟨G3, s3, g3, k3, -⟩ := s2.know n3
  obtain ⟨G4, s4, g4, k4, -⟩ := s3.know n4
  obtain ⟨G5, s5, g5, k5, -⟩ := s4.know n5
  obtain ⟨s6, gr, hr6, fr⟩ := s5.loc n6
  refine ⟨S, G5, .ref r, _, rfl, s6.wd, .inl ⟨r, rfl, s6.ns fr, hr6⟩, by show 0 < 16; decide, by show 16 < 1000000; decide, fun x H7 hx s7 => ?_⟩
  have bad : ∃ d, BadTo hi G5 x d := by
    simp only [List.mem_cons, List.not_mem_nil, or_false] at hx
    rcases hx with rfl | rfl | rfl | rfl | rfl | rfl | rfl | rfl | rfl | rfl | rfl | rfl | rfl | rfl | rfl | rfl
    · exact ⟨_, badTo_int (by omega)⟩
    · exact ⟨_, badTo_int (by omega)⟩
    · exact ⟨_, badTo_int (by omega)⟩
    · exact ⟨_, badTo_int (by omega)⟩
    · exact ⟨_, badTo_int (by rw [ten]; omega)⟩
    · exact ⟨_, badTo_int (by rw [ten]; omega)⟩
    · exact ⟨_, .bl _, rfl, by decide, rfl⟩
    · exact ⟨_, .bl _, rfl, by decide, rfl⟩
    · exact ⟨_, .non, rfl, by decide, rfl⟩
    · exact ⟨_, .str _, rfl, by decide, rfl⟩
    · exact ⟨_, .str _, rfl, by decide +kernel, rfl⟩
    · exact ⟨_, .str _, rfl, by decide, rfl⟩
    · exact ⟨.tuple [], .tup (g5 _ _ (g4 _ _ (g3 _ _ k2))) .nil, rfl, by decide, rfl⟩
    · exact ⟨.tuple [.int 0], .tup (g5 _ _ (g4 _ _ k3)) (.one (.int 0)), rfl, by decide, rfl⟩
    · exact ⟨.list [.int 0], .lst (g5 _ _ k4) (.one (.int 0)), rfl, by decide, rfl⟩
    · exact ⟨.list [], .lst k5 .nil, rfl, by decide, rfl⟩
  obtain ⟨d, bd⟩ := bad
  exact q x d G5 H7 (s6.trans s7) bd
/-- a row that is refused, and what is due -/
structure BadRw (G : Hp) (n : Int) (p : Addr) (t : Bool) (xs : List V) (ds : List PyData) (due : PyData) : Prop where
  at_ : G p = some (if t then HO.tup xs else HO.lst xs)
  da : DaAll G xs ds
  ln : ds.length ≤ 40
  due : (24 < ds.length ∧ due = .tuple [.str "TooMany", .str "row", .int 24]) ∨ (ds.length ≤ 24 ∧ ∃ (i : Nat) (v : V) (d : PyData), xs[i]? = some v ∧ badPt n ds i ∧ ds[i]? = some d ∧ BadTo (n - 1) G v d ∧ due = .tuple [.str "NotAPoint", d])
theorem BadRw.up {G G' : Hp} {n : Int} {p : Addr} {t : Bool} {xs : List V} {ds : List PyData} {due : PyData} (b : BadRw G n p t xs ds due) (g : Same G G') : BadRw G' n p t xs ds due := ⟨g _ _ b.at_, b.da.up g, b.ln, b.due.imp id fun ⟨l, i, v, d, h1, h2, h3, h4, h5⟩ => ⟨l, i, v, d, h1, h2, h3, h4.up g, h5⟩⟩
theorem cut_mid {xs : List V} {a b : Nat} (h : a ≤ xs.length) (hb : a ≤ b) : cutV xs (some (a : Int)) (some (b : Int)) = (xs.drop a).take (b - a) := by
  unfold cutV
  rw [show HT.sIx xs.length 0 (some (a : Int)) = min a xs.length from HT.sIx_nat xs.length 0 a, show HT.sIx xs.length xs.length (some (b : Int)) = min b xs.length from HT.sIx_nat xs.length xs.length b, Nat.min_eq_left h]
  rcases Nat.lt_or_ge xs.length b with c | c
  · rw [Nat.min_eq_right (by omega), List.take_of_length_le (by rw [List.length_drop]; omega), List.take_of_length_le (by rw [List.length_drop]; omega)]
  · rw [Nat.min_eq_left c]
theorem yes_pt {n r : Int} (h : inR n r) : isNum (.int r) 0 (n - 1) = true := by
  show (decide (0 ≤ r) && decide (r ≤ n - 1)) = true
  rw [decide_eq_true h.1, decide_eq_true (p := r ≤ n - 1) (by have := h.2; omega)]
  rfl
def spWrongRw : Sp := fun vs H Q _ => ∃ (S : Sr) (G : Hp) (n : Int) (a : Addr) (rs : List Int), vs = [.ref S.a, .int n, .ref a] ∧ Wd S G H ∧ 0 ≤ n ∧ n ≤ 12 ∧ a ≠ S.a ∧ H a = some (.lst (rs.map V.int)) ∧ (∀ r ∈ rs, inR n r) ∧ rs.length ≤ 24 ∧
  ∀ (l p du : Addr) (t : Bool) (xs : List V) (ds : List PyData) (due : PyData) (G' H' : Hp), Go S G H G' H' → G' l = some (.lst [.ref p, .ref du]) → BadRw G' n p t xs ds due → Da G' (.ref du) due → Q (.ref l) H'
theorem rep_one3 (m : Nat) (v : V) : (List.replicate m [v]).flatten = List.replicate m v := by
  induction m with
  | zero => rfl
  | succ m ih => rw [List.replicate_succ, List.flatten_cons, ih]; rfl
theorem ok_wrong_rw (Z : Zs mg) (D : Ds K mg) (c__law_take : Cal P w K mg base "_law_take" 2 ["store", "many"] spTake) (c__law_pick : Cal P w K mg base "_law_pick" 3 ["store", "things"] spPick) (c__law_either : Cal P w K mg base "_law_either" 3 ["store", "entries"] spEither) (c__law_wrong_number : Cal P w K mg base "_law_wrong_number" 4 ["store", "low", "high"] spWrongTo) : Cal P w K mg base "_law_wrong_row" 5 ["store", "points", "row"] spWrongRw := by
  refine Def.cal D.d_law_wrong_row sc_law_wrong_row (fun vs H Q E h => ?_) (fun f cdv A outer s H vs Q E hr h => ?_)
  · obtain ⟨S, G, n, a, rs, rfl, wd, n0, n12, na, ha, inr, lr, q⟩ := h
    rfl
  obtain ⟨S, G, n, a, rs, rfl, wd, n0, n12, na, ha, inr, lr, q⟩ := h
  refine ⟨_, (pss_cons (ps_set (i := 3) sc_law_wrong_row.nd rfl (Or.inl rfl) (pe_cal c__law_wrong_number (hr.mono (by first | decide | omega)) (by rfl) (pa_cons (pv 0) (pa_cons pe_int (pa_cons (pe_op op_sub (pv 1) pe_int) pa_nil)))))
      (pss_cons (ps_if (pt_cmp (pc_eqI (pe_cal c__law_take (hr.mono (by first | decide | omega)) (by rfl) (pa_cons (pv 0) (pa_cons pe_int pa_nil))) pe_int) (nomark _)) (pss_cons (ps_set (i := 4) sc_law_wrong_row.nd rfl (Or.inl rfl) (pe_op op_catN (pv 2) (pe_op op_repL (pe_lstN (pa_cons (pe_cal c__law_pick (hr.mono (by first | decide | omega)) (by rfl) (pa_cons (pv 0) (pa_cons (pe_lstN (pa_cons pe_int (pa_cons (pv 3) pa_nil))) pa_nil))) pa_nil)) (pe_op op_sub (pe_op op_add pe_int (pe_cal c__law_take (hr.mono (by first | decide | omega)) (by rfl) (pa_cons (pv 0) (pa_cons pe_int pa_nil)))) (pe_callB call_len_seq (by rfl) Z.z_len (by decide +kernel) (pa_cons (pv 2) pa_nil))))))
      (pss_one (ps_ret (pe_lstN (pa_cons (pe_cal c__law_either (hr.mono (by first | decide | omega)) (by rfl) (pa_cons (pv 0) (pa_cons (pv 4) pa_nil))) (pa_cons (pe_tupN (pa_cons pe_str (pa_cons pe_str (pa_cons pe_int pa_nil)))) pa_nil)))))) pss_nil)
      (pss_cons (ps_set (i := 5) sc_law_wrong_row.nd rfl (Or.inl rfl) (pe_cal c__law_take (hr.mono (by first | decide | omega)) (by rfl) (pa_cons (pv 0) (pa_cons (pe_op op_add (pe_callB (call_min2 rfl) (by rfl) Z.z_min (by decide +kernel) (pa_cons (pe_callB call_len_seq (by rfl) Z.z_len (by decide +kernel) (pa_cons (pv 2) pa_nil)) (pa_cons pe_int pa_nil))) pe_int) pa_nil))))
      (pss_cons (ps_set (i := 6) sc_law_wrong_row.nd rfl (Or.inl rfl) (pe_op op_catN (pe_op op_catN (pe_slice sl_listN (pv 2) po_none (po_some (pv 5))) (pe_lstN (pa_cons (pv 3) pa_nil))) (pe_slice sl_listN (pv 2) (po_some (pv 5)) (po_some pe_int))))
      (Evl.pss_cut (ps_if (PW.pt (pw_and (pt_cmp (pc_lt (pe_callB call_len_seq (by rfl) Z.z_len (by decide +kernel) (pa_cons (pv 6) pa_nil)) pe_int) (nomark _)) (pw_and1 (pt_cmp (pc_eqI (pe_cal c__law_take (hr.mono (by first | decide | omega)) (by rfl) (pa_cons (pv 0) (pa_cons pe_int pa_nil))) pe_int) (nomark _))))) (pss_one (ps_expr (pe_bm PySem.F.plainAttrs_list PySem.F.slot_list_append PySem.F.type_list_append mt_appendN (pv 6) (pa_cons (pe_cal c__law_wrong_number (hr.mono (by first | decide | omega)) (by rfl) (pa_cons (pv 0) (pa_cons pe_int (pa_cons (pe_op op_sub (pv 1) pe_int) pa_nil)))) pa_nil)))) pss_nil)
      (pss_one (ps_ret (pe_lstN (pa_cons (pe_cal c__law_either (hr.mono (by first | decide | omega)) (by rfl) (pa_cons (pv 0) (pa_cons (pv 6) pa_nil))) (pa_cons (pe_tupN (pa_cons pe_str (pa_cons (pv 3) pa_nil))) pa_nil)))))))))), ?_⟩
  refine ⟨_, rfl, _, rfl, _, _, rfl, rfl, S, G, n - 1, rfl, wd, by omega, by omega, fun v dv G1 H1 s1 bv => ?_⟩
  have ha1 := s1.hh ha na
  have sz1 : ∀ {k : Nat}, k ≤ 100 → k ≤ sizeLine := fun h => Nat.le_trans h (by decide)
  have len : (rs.map V.int).length = rs.length := List.length_map ..
  -- the end: the copy, the answer
  have fin : ∀ {G4 H4 H5 H6 H7 : Hp} {p du l : Addr} {t : Bool} {xs : List V} {ds : List PyData} {due : PyData} {ws : List V}, Go S G H G4 H4 → Go S G4 H4 G4 H5 → G4 p = none → H4 p = none → H5 p = some (if t then HO.tup xs else HO.lst xs) → New H5 du (.tup ws) H6 → New H6 l (.lst [.ref p, .ref du]) H7 → DaAll G4 xs ds → ds.length ≤ 40 →
      ((24 < ds.length ∧ due = .tuple [.str "TooMany", .str "row", .int 24]) ∨ (ds.length ≤ 24 ∧ ∃ (i : Nat) (v : V) (d : PyData), xs[i]? = some v ∧ badPt n ds i ∧ ds[i]? = some d ∧ BadTo (n - 1) G4 v d ∧ due = .tuple [.str "NotAPoint", d])) → (∀ {G' : Hp}, Same G4 G' → G' du = some (.tup ws) → Da G' (.ref du) due) → Q (.ref l) H7 := by
    intro G4 H4 H5 H6 H7 p du l t xs ds due ws s4 s5 gp fp hp nd nl dx ln dq dd
    have S5 := s4.trans s5
    obtain ⟨G5, S5, g5, k5, -⟩ := S5.frz gp (s4.fresh fp) hp
    obtain ⟨G6, S6, g6, k6, -⟩ := S5.know nd
    obtain ⟨G7, S7, g7, k7, -⟩ := S6.know nl
    exact q l p du t xs ds due G7 H7 S7 k7 (BadRw.up ⟨k5, dx.up g5, ln, dq.imp id fun ⟨l, i, v, d, h1, h2, h3, h4, h5⟩ => ⟨l, i, v, d, h1, h2, h3, h4.up g5, h5⟩⟩ (g6.trans g7)) (dd ((g5.trans g6).trans g7) (g7 _ _ k6))
  refine ⟨_, rfl, S, G1, 4, rfl, s1.wd, by omega, fun u H2 u0 u1 s2 => ⟨_, _, rfl, rfl, _, rfl, ite2 (fun c => ?_) (fun c => ?_)⟩⟩
  · have s2' := s1.trans s2
    refine ⟨_, rfl, _, rfl, _, rfl, by show 2 ≤ sizeLine; decide, fun z0 H3 n3 => ?_⟩
    obtain ⟨s3, g0, h0, f0⟩ := s2'.loc n3
    refine ⟨S, G1, .ref z0, _, rfl, s3.wd, .inl ⟨z0, rfl, s3.ns f0, h0⟩, by show 0 < 2; decide, by show 2 < 1000000; decide, fun e H4 he s4 => ?_⟩
    obtain ⟨de, dde⟩ : ∃ de, Da G1 e de := by
      simp only [List.mem_cons, List.not_mem_nil, or_false] at he
      rcases he with rfl | rfl
      · exact ⟨_, .int 0⟩
      · exact ⟨dv, bv.da⟩
    have s4 := s3.trans s4
    refine ⟨by show 1 ≤ sizeLine; decide, fun z H5 n5 => ?_⟩
    obtain ⟨s5, gz, hz, fz⟩ := s4.loc n5
    refine ⟨_, rfl, S, G1, 3, rfl, s5.wd, by omega, fun w H6 w0 w1 s6 => ⟨_, _, rfl, rfl, _, rfl, a, _, rfl, .inl (.of ((s5.trans s6).hh ha na)), _, _, rfl, rfl, ?_⟩⟩
    have hz := s6.hh hz (s5.ns fz)
    have s6 := s5.trans s6
    refine ⟨z, _, _, rfl, rfl, hz, by omega, by omega, ?_, fun m H7 n7 => ?_⟩
    · show 1 * _ ≤ sizeLine
      exact sz1 (by omega)
    obtain ⟨s7, gm, hm, fm⟩ := s6.loc n7
    rw [rep_one3] at hm
    refine ⟨a, m, _, _, rfl, rfl, n7.else (s6.hh ha na), hm, sz1 (by rw [List.length_replicate]; omega), fun b H8 n8 => ?_⟩
    obtain ⟨s8, gb, hb, fb⟩ := s7.loc n8
    refine ⟨_, rfl, _, rfl, S, G1, b, _, rfl, s8.wd, s8.ns fb, hb, fun p t H9 s9 gp fp hp => ⟨by show 3 ≤ sizeLine; decide, fun du HA nA => ⟨by show 2 ≤ sizeLine; decide, fun l HB nB => ?_⟩⟩⟩
    have rep : ∀ k : Nat, DaAll G1 (List.replicate k e) (List.replicate k de) := fun k => by
      induction k with
      | zero => exact .nil
      | succ k ih => exact .cons dde ih
    refine fin (ds := rs.map PyData.int ++ List.replicate (25 + w - ((rs.map V.int).length : Nat)).toNat de) s8 s9 gp fp hp nA nB ((DaAll.ints rs).append (rep _)) ?_ (.inl ⟨?_, rfl⟩) fun g k => .tup k (.cons (.str _) (.cons (.str _) (.cons (.int _) .nil)))
    · rw [List.length_append, List.length_replicate, List.length_map]
      omega
    · rw [List.length_append, List.length_replicate, List.length_map]
      omega
  have s2' := s1.trans s2
  have ha2 := s2'.hh ha na
  refine ⟨_, rfl, _, rfl, a, _, rfl, .inl (.of ha2), _, _, rfl, _, _, rfl, rfl, S, G1, _, rfl, s2'.wd, by split <;> omega, fun i0 H3 i00 i01 s3 => ?_⟩
  have s3 := s2'.trans s3
  obtain ⟨i, rfl, i23, ile⟩ : ∃ i : Nat, i0 = (i : Int) ∧ i ≤ 23 ∧ i ≤ rs.length := by
    refine ⟨i0.toNat, by omega, ?_, ?_⟩
    · split at i01 <;> omega
    · split at i01 <;> omega
  have ha3 := s3.hh ha na
  refine ⟨_, rfl, _, rfl, _, rfl, a, _, rfl, .of ha3, fun l3 H4 n4 => ?_⟩
  rw [cut_toN (by omega), Int.toNat_natCast] at n4
  obtain ⟨s4, g3, h3, f3⟩ := s3.loc n4
  refine ⟨_, rfl, by show 1 ≤ sizeLine; decide, fun z H6 n6 => ?_⟩
  obtain ⟨s6, gz, hz, fz⟩ := s4.loc n6
  refine ⟨l3, z, _, _, rfl, rfl, n6.else h3, hz, sz1 (by rw [List.length_take]; show _ + 1 ≤ 100; omega), fun l4 H7 n7 => ?_⟩
  obtain ⟨s7, g4, h4, f4⟩ := s6.loc n7
  have ha7 := s7.hh ha na
  refine ⟨_, rfl, _, rfl, _, rfl, 23, rfl, a, _, rfl, .of ha7, fun l5 H8 n8 => ?_⟩
  rw [show (23 : Int) = ((23 : Nat) : Int) from rfl, cut_mid (by rw [len]; exact ile) i23] at n8
  obtain ⟨s8, g5, h5, f5⟩ := s7.loc n8
  refine ⟨l4, l5, _, _, rfl, rfl, n8.else h4, h5, sz1 (by rw [List.length_append, List.length_take, List.length_take, List.length_drop]; show _ + 1 + _ ≤ 100; omega), fun b HA nA => ?_⟩
  obtain ⟨sB, gb, hb, fb⟩ := s8.loc nA
  have at_y : ∀ {α : Type} (f : Int → α) (y : α) (zs : List α), ((rs.map f).take i ++ [y] ++ zs)[i]? = some y := fun f y zs => by
    have e : ((rs.map f).take i).length = i := by
      rw [List.length_take, List.length_map]
      omega
    rw [List.append_assoc, List.getElem?_append_right (by omega), e, Nat.sub_self]
    rfl
  have dX : DaAll G1 ((rs.map V.int).take i ++ [v] ++ ((rs.map V.int).drop i).take (23 - i)) ((rs.map PyData.int).take i ++ [dv] ++ ((rs.map PyData.int).drop i).take (23 - i)) :=
    (((DaAll.ints (G := G1) rs).take i).append (.one bv.da)).append (((DaAll.ints (G := G1) rs).drop i).take (23 - i))
  have bad : ∀ zs : List PyData, badPt n ((rs.map PyData.int).take i ++ [dv] ++ zs) i := fun zs => by
    refine ⟨⟨dv, at_y _ _ _, bv.no⟩, fun j d hj hd => ?_⟩
    have e : ((rs.map PyData.int).take i).length = i := by
      rw [List.length_take, List.length_map]
      omega
    rw [List.append_assoc, List.getElem?_append_left (by omega)] at hd
    obtain ⟨r, hr, rfl⟩ := List.mem_map.mp (List.mem_of_mem_take (List.mem_of_getElem? hd))
    exact yes_pt (inr r hr)
  have lds : ((rs.map PyData.int).take i ++ [dv] ++ ((rs.map PyData.int).drop i).take (23 - i)).length ≤ 24 := by
    rw [List.length_append, List.length_append, List.length_take, List.length_take, List.length_drop, List.length_map]
    show min i rs.length + 1 + min (23 - i) (rs.length - i) ≤ 24
    omega
  refine ⟨fun σ' H' => ∃ (G' : Hp) (ys : List V) (es : List PyData), σ' = [some (.ref S.a), some (.int n), some (.ref a), some v, none, some (.int (i : Int)), some (.ref b)] ∧ Go S G H G' H' ∧ Same G1 G' ∧ G' b = none ∧ H' b = some (.lst ((rs.map V.int).take i ++ [v] ++ ys)) ∧ DaAll G' ((rs.map V.int).take i ++ [v] ++ ys) ((rs.map PyData.int).take i ++ [dv] ++ es) ∧
      ((rs.map PyData.int).take i ++ [dv] ++ es).length ≤ 24, ?_, ?_⟩
  · have lx := dX.length
    refine ⟨_, rfl, b, _, rfl, .inl (.of hb), _, _, rfl, rfl, _, rfl, ite2 (fun c => ?_) (fun c => iteF ⟨G1, _, _, rfl, sB, Same.refl _, gb, hb, dX, lds⟩)⟩
    have c : (((((rs.map V.int).take i ++ [v] ++ ((rs.map V.int).drop i).take (23 - i)).length : Nat) : Int) < 24) := dec_of c
    refine ⟨_, rfl, S, G1, 3, rfl, sB.wd, by omega, fun w HC w0 w1 sC => ⟨_, _, rfl, rfl, _, rfl, ite2 (fun c2 => ?_) (fun c2 => ⟨G1, _, _, rfl, sB.trans sC, Same.refl _, gb, sC.hh hb (sB.ns fb), dX, lds⟩)⟩⟩
    have hbC := sC.hh hb (sB.ns fb)
    have sC := sB.trans sC
    refine ⟨_, rfl, .inl ⟨rfl, _, .of hbC⟩, _, rfl, _, rfl, _, _, rfl, rfl, S, G1, n - 1, rfl, sC.wd, by omega, by omega, fun x dx GD HD sD bx => ?_⟩
    have hbD := sD.hh hbC (sC.ns fb)
    have gbD := sD.nw hbC gb
    have SD := sC.trans sD
    refine ⟨b, _, x, rfl, rfl, hbD, lt (by omega), fun HE eE => ?_⟩
    refine ⟨GD, ((rs.map V.int).drop i).take (23 - i) ++ [x], ((rs.map PyData.int).drop i).take (23 - i) ++ [dx], rfl, SD.mut gbD fb eE, sD.gg, gbD, ?_, ?_, ?_⟩
    · rw [upd_at eE, List.append_assoc _ _ [x]]
    · have := (dX.up sD.gg).append (.one bx.da)
      rwa [List.append_assoc, List.append_assoc _ _ [dx]] at this
    · rw [← List.append_assoc, List.length_append]
      show _ + 1 ≤ 24
      omega
  rintro σ' HC ⟨G2, ys, es, rfl, sC, g2, gb2, hbC, dE, lE⟩
  refine ⟨_, rfl, _, rfl, S, G2, b, _, rfl, sC.wd, sC.ns fb, hbC, fun p t HD sD gp fp hp => ⟨_, rfl, by show 2 ≤ sizeLine; decide, fun du HE nE => ⟨by show 2 ≤ sizeLine; decide, fun l HF nF => ?_⟩⟩⟩
  exact fin sC sD gp fp hp nE nF dE (by omega) (.inr ⟨lE, i, v, dv, at_y _ _ _, bad es, at_y _ _ _, bv.up g2, rfl⟩) fun g k => .tup k (.cons (.str _) (.cons (bv.da.up (g2.trans g)) .nil))


/-- the points that all holders of rs hold -/
theorem cl_test {n : Int} {L : List (List Int)} {ms : List Nat} (mk : MkOk n L ms) (still : rngI n ∈ L) {b : Nat} {rs : List Int} (hb : BitsOf b rs) (inr : ∀ r ∈ rs, inR n r) {p : Nat} : (clN ms b).testBit p = true ↔ inR n (p : Int) ∧ ∀ w ∈ holdL rs L, stp w (p : Int) = p := by
  unfold clN
  rw [mk_last mk still, close_test, mk_still]
  have within : ∀ w, mkN n w &&& b = b ↔ holdB rs w = true := fun w => by
    rw [within_bits]
    unfold holdB
    rw [decide_eq_true_eq, aft_self]
    constructor
    · intro h r hr
      have ir := inr r hr
      have e : ((r.toNat : Nat) : Int) = r := Int.toNat_of_nonneg ir.1
      have := (mk_test.mp (h r.toNat ((hb _).mpr (by rw [e]; exact hr)))).2
      rwa [e] at this
    · intro h p hp
      have hp := (hb p).mp hp
      exact mk_test.mpr ⟨inr _ hp, h _ hp⟩
  refine and_congr_right fun ip => ⟨fun h w hw => ?_, fun h m hm hin => ?_⟩
  · obtain ⟨h1, h2⟩ := (List.mem_filter (p := holdB rs)).mp hw
    exact (mk_test.mp (h _ ((mk.2 _).mpr ⟨w, h1, rfl⟩) ((within w).mpr h2))).2
  · obtain ⟨w, hw, rfl⟩ := (mk.2 m).mp hm
    exact mk_test.mpr ⟨ip, h w ((List.mem_filter (p := holdB rs)).mpr ⟨hw, (within w).mp hin⟩)⟩
/-- the closure of a lot -/
def clL (n : Int) (rs : List Int) (L : List (List Int)) : List Int := pts (fun j => (holdL rs L).all fun w => decide (stp w (j : Int) = (j : Int))) n.toNat
theorem clL_mem {n : Int} {rs : List Int} {L : List (List Int)} {x : Int} : x ∈ clL n rs L ↔ inR n x ∧ ∀ w ∈ holdL rs L, stp w x = x := by
  unfold clL
  rw [pts_mem]
  constructor
  · rintro ⟨h0, h1, h2⟩
    have e : ((x.toNat : Nat) : Int) = x := Int.toNat_of_nonneg h0
    refine ⟨⟨h0, by omega⟩, fun w hw => ?_⟩
    have := of_decide_eq_true (List.all_eq_true.mp h2 w hw)
    rwa [e] at this
  · rintro ⟨h, h2⟩
    have e : ((x.toNat : Nat) : Int) = x := Int.toNat_of_nonneg h.1
    refine ⟨h.1, by have := h.2; omega, List.all_eq_true.mpr fun w hw => decide_eq_true ?_⟩
    rw [e]
    exact h2 w hw
theorem lot_cl {n : Int} {L : List (List Int)} {ms : List Nat} (mk : MkOk n L ms) (still : rngI n ∈ L) {b : Nat} {rs : List Int} (hb : BitsOf b rs) (inr : ∀ r ∈ rs, inR n r) : (lotN (clN ms b)).map (fun (j : Nat) => (j : Int)) = clL n rs L := by
  refine rise_eq ?_ (pts_sorted _ _) fun x => ?_
  · rw [List.pairwise_map]
    exact (lot_up _).imp fun h => Int.ofNat_lt.mpr h
  · rw [clL_mem, List.mem_map]
    constructor
    · rintro ⟨j, hj, rfl⟩
      exact (cl_test mk still hb inr).mp (lot_mem.mp hj)
    · rintro ⟨h, h2⟩
      have e : ((x.toNat : Nat) : Int) = x := Int.toNat_of_nonneg h.1
      exact ⟨x.toNat, lot_mem.mpr ((cl_test mk still hb inr).mpr (by rw [e]; exact ⟨h, h2⟩)), e⟩
theorem at_lastN {ms : List Nat} (ne : ms ≠ []) : atI (ms.map fun (k : Nat) => V.int (k : Int)) (-1) = some (.int ((ms.getLastD 0 : Nat) : Int)) := by
  rcases List.eq_nil_or_concat ms with rfl | ⟨T, t, rfl⟩
  · exact absurd rfl ne
  have e2 : (T ++ [t]).getLastD 0 = t := by
    rw [List.getLastD_eq_getLast?, List.getLast?_append]
    rfl
  rw [List.concat_eq_append, e2, List.map_append]
  exact atI_last _ _
def spHasPt : Sp := fun vs H Q _ => ∃ b p : Nat, vs = [.int (b : Int), .int (p : Int)] ∧ p ≤ 1000 ∧ Q (.bl (b.testBit p)) H
theorem ok_has_point (Z : Zs mg) (D : Ds K mg) : Cal P w K mg base "has_point" 1 ["bits", "point"] spHasPt := by
  refine Def.cal D.d_has_point sc_has_point (fun vs H Q E h => ?_) (fun f cdv A outer s H vs Q E hr h => ?_)
  · obtain ⟨b, p, rfl, p10, q⟩ := h
    rfl
  obtain ⟨b, p, rfl, p10, q⟩ := h
  refine ⟨_, (pss_one (ps_ret (pe_cmp (pc_neI (pe_op op_and (pv 0) (pe_op op_shl pe_int (pv 1))) pe_int) (nomark _)))), ?_⟩
  refine ⟨_, rfl, _, rfl, _, _, rfl, rfl, ⟨by omega, by omega, by decide⟩, _, _, rfl, rfl, ?_⟩
  rw [shl_nat]
  refine ⟨_, _, rfl, rfl, ?_⟩
  have := has_bit b p
  rw [← this] at q
  simpa using q
def spBitsOf (K : PySem.W.Frag) : Sp := fun vs H Q _ => ∃ (a : Addr) (rs : List Int), vs = [.ref a] ∧ HasS K H a (rs.map V.int) ∧ (∀ r ∈ rs, 0 ≤ r ∧ r ≤ 1000) ∧ rs.length ≤ 1000 ∧ ∀ (b : Nat) (H' : Hp), Same H H' → BitsOf b rs → Q (.int (b : Int)) H'
theorem ok_bits_of (Z : Zs mg) (D : Ds K mg) : Cal P w K mg base "bits_of" 1 ["lot"] (spBitsOf K) := by
  refine Def.cal D.d_bits_of sc_bits_of (fun vs H Q E h => ?_) (fun f cdv A outer s H vs Q E hr h => ?_)
  · obtain ⟨a, rs, rfl, ha, b0, lr, q⟩ := h
    rfl
  obtain ⟨a, rs, rfl, ha, b0, lr, q⟩ := h
  refine ⟨_, (pss_one (ps_ret (pe_callB (cr_sum rfl) (by rfl) Z.z_sum (by decide +kernel) (pa_cons (pe_lc (own := [("point", 1)]) (g := gName 1) (tt := tYes) (by rfl) sc_bits_of.nd (pi_list (pe_callB (cr_sortedSA rfl) (by rfl) Z.z_sorted (by decide +kernel) (pa_cons (pe_callTy (cr_setI rfl) (by rfl) Z.z_set (by decide +kernel) (pa_cons (pv 0) pa_nil)) pa_nil))) (blkOk_by (N := ["lot", "point"]) (sc := defScope s_bits_of) (by decide +kernel)) (fun _ _ _ _ _ => pg_name (i := 1) sc_bits_of.nd rfl (Or.inl rfl)) (fun _ _ _ _ _ => pts_nil) (fun _ _ _ _ _ => (pe_op op_shl pe_int (pv 1)))) pa_nil)))), ?_⟩
  refine ⟨_, rfl, a, rs, rfl, ha.len, Nat.lt_of_le_of_lt (Nat.succ_le_succ lr) (by decide), fun Dd n le fD => ?_⟩
  refine ⟨Dd, setOf rs, n, rfl, upd_same, by omega, fun ns sp up mem ln fsp => ?_⟩
  have n1 : New H Dd (SetO w Dd (setOf rs) n) (upd H Dd (SetO w Dd (setOf rs) n)) := ⟨fD, rfl⟩
  have n2 : New _ sp (.lst (ns.map V.int)) (upd (upd H Dd (SetO w Dd (setOf rs) n)) sp (.lst (ns.map V.int))) := ⟨fsp, rfl⟩
  have s2 := n1.same.trans n2.same
  have memR : ∀ k, k ∈ ns ↔ k ∈ rs := fun k => (mem k).trans decide_eq_true_iff
  refine ⟨sp, rfl, ⟨_, .of n2.at⟩, fun l hl => ?_⟩
  have fl := s2.free hl
  have nsl : sp ≠ l := fun e => by
    subst e
    exact absurd (n2.at.symm.trans hl) (Option.some_ne_none _)
  refine lc_list (xs := ns.map V.int) (fun i H' => Same H H' ∧ H' sp = some (.lst (ns.map V.int)) ∧ H' l = some (.lst (((ns.take i).map fun k => (1 : Int) * 2 ^ k.toNat).map V.int))) ?_ ?_ ?_ ?_
  · exact ⟨s2.trans (New.same (o := .lst []) ⟨hl, rfl⟩), (upd_ne nsl).trans n2.at, upd_same⟩
  · rintro i H' - ⟨s3, h2, -⟩
    exact .of h2
  · rintro i x H3 hx ⟨s3, h2, h3⟩
    obtain ⟨k, hk, rfl⟩ := map_at hx
    have bk := b0 k ((memR k).mp (List.mem_of_getElem? hk))
    have il := (List.getElem?_eq_some_iff.mp hk).1
    refine ⟨rfl, yesT ⟨_, rfl, _, _, rfl, rfl, ⟨bk.1, by omega, by decide⟩, _, h3, ?_, fun b o h => ?_, (upd_ne nsl).trans h2, ?_⟩⟩
    · rw [List.length_map, List.length_map, List.length_take]
      exact Hd.lt (by omega)
    · rw [upd_ne (ne_of_none h fl)]
      exact s3 _ _ h
    · rw [upd_same, List.take_add_one, hk, List.map_append, List.map_append]
      rfl
  · rintro H3 ⟨s3, h2, h3⟩
    rw [List.length_map, List.take_length] at h3
    refine ⟨l, _, rfl, .of h3, ?_⟩
    rw [sum_pow]
    exact q _ H3 s3 fun p => (bits_up up (fun k hk => (b0 k ((memR k).mp hk)).1) p).trans (memR _)
def spLotOf : Sp := fun vs H Q _ => ∃ b : Nat, vs = [.int (b : Int)] ∧ blen b ≤ 900 ∧ ∀ (p : Addr) (H' : Hp), Same H H' → H p = none → H' p = some (.tup (((lotN b).map fun (j : Nat) => (j : Int)).map V.int)) → Q (.ref p) H'
theorem ok_lotof (Z : Zs mg) (D : Ds K mg) (c_has_point : Cal P w K mg base "has_point" 1 ["bits", "point"] spHasPt) : Cal P w K mg base "lot_of" 2 ["bits"] spLotOf := by
  refine Def.cal D.d_lot_of sc_lot_of (fun vs H Q E h => ?_) (fun f cdv A outer s H vs Q E hr h => ?_)
  · obtain ⟨b, rfl, small, q⟩ := h
    rfl
  obtain ⟨b, rfl, small, q⟩ := h
  refine ⟨_, (pss_one (ps_ret (pe_callTy call_tupleN (by rfl) Z.z_tuple (by decide +kernel) (pa_cons (pe_lc (own := [("point", 1)]) (g := gName 1) (by rfl) sc_lot_of.nd (pi_range1 (by rfl) Z.z_range (pa_cons (pe_bits (pv 0)) pa_nil)) (blkOk_by (N := ["bits", "point"]) (sc := defScope s_lot_of) (by decide +kernel)) (fun _ _ _ _ _ => pg_name (i := 1) sc_lot_of.nd rfl (Or.inl rfl)) (fun _ _ _ _ _ => pts_one (pt_val (pe_cal c_has_point (hr.mono (by first | decide | omega)) (by rfl) (pa_cons (pv 0) (pa_cons (pv 1) pa_nil))))) (fun _ _ _ _ _ => (pv 1))) pa_nil)))), ?_⟩
  have sm : Builtin.Int.intBits (b : Int) ≤ 900 := small
  refine ⟨_, rfl, _, rfl, _, rfl, by omega, by omega, fun l hl => ?_⟩
  refine lc_range (lo := 0) (n := ((blen b : Nat) : Int).toNat) (fun i H' => Same H H' ∧ H l = none ∧ H' l = some (.lst ((((List.range i).filter fun p => b.testBit p).map fun (j : Nat) => (j : Int)).map V.int))) ?_ ?_ ?_
  · exact ⟨New.same (o := .lst []) ⟨hl, rfl⟩, hl, upd_same⟩
  · rintro i H2 hi ⟨s2, fl, h2⟩
    rw [Int.zero_add]
    refine ⟨rfl, _, rfl, _, rfl, b, i, rfl, by omega, ?_⟩
    have lf := List.length_filter_le (fun p => b.testBit p) (List.range i)
    rw [List.length_range] at lf
    refine ⟨_, rfl, ite2 (fun c => ?_) (fun c => ?_)⟩
    · refine ⟨_, rfl, _, h2, ?_, fun x o h => ?_, fl, ?_⟩
      · rw [List.length_map, List.length_map]
        exact Hd.lt (by omega)
      · rw [upd_ne (ne_of_none h fl)]
        exact s2 _ _ h
      · rw [upd_same, List.range_succ, List.filter_append, List.map_append, List.map_append, List.filter_cons, if_pos c]
        rfl
    · refine ⟨s2, fl, ?_⟩
      rw [h2, List.range_succ, List.filter_append, List.map_append, List.map_append, List.filter_cons, if_neg c]
      simp
  · rintro H2 ⟨s2, fl, h2⟩
    rw [Int.toNat_natCast] at h2
    refine ⟨l, _, rfl, .inl (.of h2), fun p H3 n3 => ?_⟩
    exact q p H3 (s2.trans n3.same) (s2.free n3.fr) n3.at


theorem blen_le {b k : Nat} (h : ∀ p, b.testBit p = true → p < k) : blen b ≤ k := by
  have lt : b < 2 ^ k := Nat.lt_pow_two_of_testBit b fun i hi => by
    cases e : b.testBit i with
    | false => rfl
    | true =>
      have := h i e
      omega
  unfold blen Builtin.Int.intBits
  by_cases c : b = 0
  · rw [c]
    simp
  · rw [if_neg (by simp; omega), Int.natAbs_natCast]
    have := (Nat.log2_lt c).mpr lt
    omega
theorem closeN_step {ms : List Nat} {i k b c : Nat} (h : ms[i]? = some k) : closeN (ms.take (i + 1)) b c = if k &&& b = b then closeN (ms.take i) b c &&& k else closeN (ms.take i) b c := by
  unfold closeN
  rw [List.take_add_one, h, List.foldl_append]
  rfl
def spClosedB : Sp := fun vs H Q _ => ∃ (m : Addr) (b : Nat) (ms : List Nat), vs = [.ref m, .int (b : Int)] ∧ H m = some (.lst (ms.map fun (k : Nat) => V.int (k : Int))) ∧ ms ≠ [] ∧ Q (.int ((clN ms b : Nat) : Int)) H
theorem ok_closed_bits (Z : Zs mg) (D : Ds K mg) : Cal P w K mg base "closed_bits" 1 ["marked", "bits"] spClosedB := by
  refine Def.cal D.d_closed_bits sc_closed_bits (fun vs H Q E h => ?_) (fun f cdv A outer s H vs Q E hr h => ?_)
  · obtain ⟨m, b, ms, rfl, hm, ne, q⟩ := h
    rfl
  obtain ⟨m, b, ms, rfl, hm, ne, q⟩ := h
  refine ⟨_, (pss_cons (ps_set (i := 2) sc_closed_bits.nd rfl (Or.inl rfl) (pe_ix ix_list (pv 0) (pe_un un_neg pe_int) (fun _ _ => rfl)))
      (pss_cons (ps_for PassesOwn.never rfl (pi_list (pv 0)) (pg_name (i := 3) sc_closed_bits.nd rfl (Or.inl rfl)) (pss_one (ps_if (pt_cmp (pc_eqI (pe_op op_and (pv 3) (pv 1)) (pv 1)) (nomark _)) (pss_one (ps_set (i := 2) sc_closed_bits.nd rfl (Or.inl rfl) (pe_op op_and (pv 2) (pv 3)))) pss_nil)))
      (pss_one (ps_ret (pv 2))))), ?_⟩
  refine ⟨_, rfl, _, rfl, m, _, _, _, rfl, rfl, .of hm, at_lastN ne, ?_⟩
  refine ⟨_, rfl, m, rfl, ⟨_, .of hm⟩, for_list (K := K) (a := m) (xs := ms.map fun (k : Nat) => V.int (k : Int)) (fun i σ' H' => ∃ y3 : Option V, σ' = [some (.ref m), some (.int (b : Int)), some (.int ((closeN (ms.take i) b (ms.getLastD 0) : Nat) : Int)), y3] ∧ H' = H) ⟨none, rfl, rfl⟩ ?_ ?_ ?_⟩
  · rintro i σ' H' - ⟨y3, rfl, rfl⟩
    exact .of hm
  · rintro i x σ' H' hx ⟨y3, rfl, rfl⟩
    rw [List.getElem?_map] at hx
    obtain ⟨k, hk, rfl⟩ := Option.map_eq_some_iff.mp hx
    refine ⟨_, rfl, _, rfl, _, _, rfl, rfl, _, rfl, _, _, rfl, rfl, _, rfl, ite2 (fun c => ?_) (fun c => ?_)⟩
    · have c : Builtin.bitAnd (k : Int) (b : Int) = (b : Int) := dec_of c
      rw [and_nat] at c
      refine ⟨_, rfl, _, rfl, _, _, rfl, rfl, some (.int (k : Int)), ?_, rfl⟩
      rw [closeN_step hk, if_pos (show k &&& b = b by omega)]
      show [_, _, some (V.int (Builtin.bitAnd ((closeN (ms.take i) b (ms.getLastD 0) : Nat) : Int) (k : Int))), _] = _
      rw [and_nat]
    · have c : ¬ Builtin.bitAnd (k : Int) (b : Int) = (b : Int) := dec_not c
      rw [and_nat] at c
      refine ⟨some (.int (k : Int)), ?_, rfl⟩
      rw [closeN_step hk, if_neg (show ¬ k &&& b = b by omega)]
      rfl
  · rintro σ' H' ⟨y3, rfl, rfl⟩
    rw [List.length_map, List.take_length]
    exact ⟨_, rfl, q⟩
def spMarks (C : Addr) : Sp := fun vs H Q _ => ∃ (G : Hp) (x : Addr) (n : Int) (T L : List (List Int)), vs = [.ref x] ∧ Same G H ∧ WAt C G x n T L ∧ WOk n T L ∧ ∀ (p : Addr) (ms : List Nat) (H' : Hp), Same H H' → H p = none → H' p = some (.lst (ms.map fun (k : Nat) => V.int (k : Int))) → MkOk n L ms → Q (.ref p) H'
theorem ok_mark_bits {CW : Addr} (Z : Zs mg) (D : Ds K mg) (W : Dw K mg CW) (c_World___iter__ : CalS P w K mg base CW "__iter__" 1 ["self"] (spIt CW "_made")) : Cal P w K mg base "mark_bits" 2 ["world"] (spMarks CW) := by
  refine Def.cal D.d_mark_bits sc_mark_bits (fun vs H Q E h => ?_) (fun f cdv A outer s H vs Q E hr h => ?_)
  · obtain ⟨G, x, n, T, L, rfl, gh, wat, ok, q⟩ := h
    rfl
  obtain ⟨G, x, n, T, L, rfl, gh, wat, ok, q⟩ := h
  refine ⟨_, (pss_one (ps_ret (pe_callB (cr_sortedSA rfl) (by rfl) Z.z_sorted (by decide +kernel) (pa_cons (pe_sci (own := [("move", 1)]) (g := gName 1) (tt := tYes) (by rfl) sc_mark_bits.nd (pi_world c_World___iter__ (hr.mono (by first | decide | omega)) (pv 0)) (blkOk_by (N := ["world", "move", "point", "image"]) (sc := defScope s_mark_bits) (by decide +kernel)) (fun _ _ _ _ _ => pg_name (i := 1) sc_mark_bits.nd rfl (Or.inl rfl)) (fun _ _ _ _ _ => pts_nil) (fun _ _ _ _ _ => (pe_callB (cr_sumK (K := K) rfl rfl) (by rfl) Z.z_sum (by decide +kernel) (pa_cons (pe_lc (own := [("point", 2), ("image", 3)]) (g := gTup K 2 (gCons (gName 2) (gCons (gName 3) gNil))) (by rfl) sc_mark_bits.nd (pi_enumTK (K := K) rfl (by rfl) Z.z_enumerate (pa_cons (pv 1) pa_nil)) (blkOk_in (N := ["world", "move", "point", "image"]) (by decide +kernel)) (fun _ _ _ _ _ => pg_tup rfl (pgs_cons (pg_name (i := 2) sc_mark_bits.nd rfl (Or.inl rfl)) (pgs_cons (pg_name (i := 3) sc_mark_bits.nd rfl (Or.inl rfl)) pgs_nil))) (fun _ _ _ _ _ => pts_one (pt_cmp (pc_eqI (pv 3) (pv 2)) (nomark _))) (fun _ _ _ _ _ => (pe_op op_shl pe_int (pv 2)))) pa_nil)))) pa_nil)))), ?_⟩
  obtain ⟨dx0, ml, tl, mvs, ts, h1, h2, h3, h4, h5⟩ := id wat
  have lms := h3.length
  rw [List.length_map] at lms
  have lL := ok.lL
  have n12 := ok.n12
  have n0 := ok.n0
  have mvL : AllMv n L := fun w hw => made_mv ok.n0 ok.mv ((ok.grp.mem w).mp hw)
  refine ⟨_, rfl, x, dx0, _, ml, mvs, rfl, gh _ _ h1, wf_made _ _ _, gh _ _ h2, fun Dd hD => ?_⟩
  refine si_list (xs := mvs) (fun i H' => Same H H' ∧ H Dd = none ∧ H' Dd = some (SetO w Dd (setOf (((L.take i).map fun m => ((mkN n m : Nat) : Int)).reverse)) (many ((L.take i).map fun m => ((mkN n m : Nat) : Int)).reverse))) ?_ ?_ ?_ ?_
  · refine ⟨New.same (o := SetO w Dd (fun _ => false) 0) ⟨hD, rfl⟩, hD, ?_⟩
    rw [upd_same, set_empty]
    rfl
  · rintro i H' - ⟨s4, -⟩
    exact .of (s4 _ _ (gh _ _ h2))
  · rintro i y H4 hy ⟨s4, fl, hz⟩
    obtain ⟨e, he, de⟩ := h3.get hy
    rw [List.getElem?_map] at he
    obtain ⟨m, hm, rfl⟩ := Option.map_eq_some_iff.mp he
    obtain ⟨c, rfl, hc⟩ := rows_ref de
    have mv := mvL m (List.mem_of_getElem? hm)
    have ml' := mv.len
    have ilt := (List.getElem?_eq_some_iff.mp hm).1
    have hc4 := s4 _ _ (gh _ _ hc)
    refine ⟨rfl, _, rfl, c, _, rfl, .of hc4, fun l hl => ?_⟩
    refine lc_enumT (K := K) (a := c) (xs := m.map V.int) (fun j H' => Same H4 H' ∧ H4 l = none ∧ H' l = some (.lst (((((List.range j).filter fun q : Nat => decide (stp m (q : Int) = q)).map fun (q : Nat) => (q : Int)).map fun k => (1 : Int) * 2 ^ k.toNat).map V.int))) ?_ ?_ ?_ ?_
    · exact ⟨New.same (o := .lst []) ⟨hl, rfl⟩, hl, upd_same⟩
    · rintro j H' ⟨s5, -⟩
      exact .of (s5 _ _ hc4)
    · rintro j v t H5 H6 hv ⟨s5, f5, h5'⟩ nT
      obtain ⟨k, hk, rfl⟩ := map_at hv
      have jl := (List.getElem?_eq_some_iff.mp hk).1
      have ij : inR n (j : Int) := ⟨by omega, by omega⟩
      have ek : k = stp m (j : Int) := by
        have := (stp_at mv ij).1
        rw [Int.toNat_natCast, hk] at this
        exact Option.some.inj this
      have h6 := nT.else h5'
      have s6 := s5.trans nT.same
      have lf := List.length_filter_le (fun q : Nat => decide (stp m (q : Int) = q)) (List.range j)
      rw [List.length_range] at lf
      refine ⟨t, _, rfl, .of nT.at, rfl, _, _, rfl, _, _, rfl, rfl, rfl, _, rfl, _, rfl, _, _, rfl, rfl, _, rfl, ite2 (fun c1 => ?_) (fun c1 => ?_)⟩
      · have c1 : k = (j : Int) := dec_of c1
        refine ⟨_, rfl, _, _, rfl, rfl, ⟨by omega, by omega, by decide⟩, _, h6, ?_, fun b o h => ?_, f5, ?_⟩
        · rw [List.length_map, List.length_map, List.length_map]
          exact Hd.lt (by omega)
        · rw [upd_ne (ne_of_none h f5)]
          exact s6 _ _ h
        · rw [upd_same, List.range_succ, List.filter_append, List.map_append, List.map_append, List.map_append, List.filter_cons, if_pos (decide_eq_true (ek.symm.trans c1))]
          rfl
      · have c1 : ¬ k = (j : Int) := dec_not c1
        refine ⟨s6, f5, ?_⟩
        rw [h6, List.range_succ, List.filter_append, List.map_append, List.map_append, List.map_append, List.filter_cons, if_neg fun z => c1 (ek.trans (of_decide_eq_true z))]
        simp
    · rintro H5 ⟨s5, f5, h5'⟩
      refine ⟨l, _, rfl, .of h5', ?_⟩
      have em : (((((List.range (m.map V.int).length).filter fun q : Nat => decide (stp m (q : Int) = q)).map fun (q : Nat) => (q : Int)).map fun k => (1 : Int) * 2 ^ k.toNat).sum) = ((mkN n m : Nat) : Int) := by
        rw [sum_pow, List.map_map, List.length_map, ml']
        unfold mkN
        congr 2
        exact List.map_id'' (fun q => rfl) _
      rw [em]
      refine si_add (s5 _ _ hz) ?_ ?_
      · rw [List.length_reverse, List.length_map, List.length_take]
        exact Nat.lt_of_le_of_lt (by omega : _ ≤ 401) (by decide)
      · refine ⟨fun b o h => ?_, fl, ?_⟩
        · rw [upd_ne (ne_of_none h fl)]
          exact s5 _ _ (s4 _ _ h)
        · rw [upd_same, List.take_add_one, hm, List.map_append, List.reverse_append]
          rfl
  · rintro H4 ⟨s4, fl, hz⟩
    rw [lms, List.take_length] at hz
    refine ⟨Dd, _, _, rfl, hz, ?_, fun os sp so mo lo fsp => ?_⟩
    · refine Nat.le_trans (many_le _) ?_
      rw [List.length_reverse, List.length_map]
      omega
    · have n5 : New H4 sp (.lst (os.map V.int)) (upd H4 sp (.lst (os.map V.int))) := ⟨fsp, rfl⟩
      have mem : ∀ k, k ∈ os ↔ ∃ w ∈ L, ((mkN n w : Nat) : Int) = k := fun k => by
        rw [mo k]
        show decide (k ∈ _) = true ↔ _
        rw [decide_eq_true_eq, List.mem_reverse, List.mem_map]
      have pos : ∀ k ∈ os, 0 ≤ k := fun k hk => by
        obtain ⟨w, -, e⟩ := (mem k).mp hk
        omega
      have eo : (os.map Int.toNat).map (fun (k : Nat) => V.int (k : Int)) = os.map V.int := by
        rw [List.map_map]
        refine List.map_congr_left fun k hk => ?_
        show V.int ((k.toNat : Nat) : Int) = _
        rw [Int.toNat_of_nonneg (pos k hk)]
      refine q sp (os.map Int.toNat) _ (s4.trans n5.same) (s4.free fsp) (by rw [eo]; exact n5.at) ⟨up_nat so pos, fun k => ?_⟩
      rw [List.mem_map]
      constructor
      · rintro ⟨z, hz, rfl⟩
        obtain ⟨w, hw, e⟩ := (mem z).mp hz
        exact ⟨w, hw, by omega⟩
      · rintro ⟨w, hw, rfl⟩
        exact ⟨((mkN n w : Nat) : Int), (mem _).mpr ⟨w, hw, rfl⟩, by simp⟩
theorem MkOk.ne {n : Int} {L : List (List Int)} {ms : List Nat} (mk : MkOk n L ms) (still : rngI n ∈ L) : ms ≠ [] := fun e => by
  have := (mk.2 _).mpr ⟨_, still, rfl⟩
  rw [e] at this
  cases this
def spCls (K : PySem.W.Frag) (C DP DT : Addr) : Sp := fun vs H Q E => ∃ (G : Hp) (x a : Addr) (n : Int) (T L : List (List Int)) (xs : List V) (ds : List PyData), vs = [.ref x, .ref a] ∧ Same G H ∧ WAt C G x n T L ∧ WOk n T L ∧ HasS K H a xs ∧ DaAll G xs ds ∧
  RowJ n xs ds DP DT E H fun rs => ∀ (p : Addr) (H' : Hp), Same H H' → H p = none → H' p = some (.tup ((clL n rs L).map V.int)) → Q (.ref p) H'
theorem ok_closure {CW DP DT : Addr} (Z : Zs mg) (D : Ds K mg) (W : Dw K mg CW) (c_World_points : CalP P w K mg base CW "points" 1 ["self"] (spPoints CW)) (c_check_row : CalX P w K mg base "check_row" 4 ["points", "row"] (spCheckRow K DP DT)) (c_mark_bits : Cal P w K mg base "mark_bits" 2 ["world"] (spMarks CW)) (c_bits_of : Cal P w K mg base "bits_of" 1 ["lot"] (spBitsOf K)) (c_closed_bits : Cal P w K mg base "closed_bits" 1 ["marked", "bits"] spClosedB) (c_lot_of : Cal P w K mg base "lot_of" 2 ["bits"] spLotOf) : CalX P w K mg base "closure" 5 ["world", "lot"] (spCls K CW DP DT) := by
  refine Def.calX D.d_closure sc_closure (fun vs H Q E h => ?_) (fun f cdv A outer s H vs Q E hr h => ?_)
  · obtain ⟨G, x, a, n, T, L, xs, ds, rfl, gh, wat, ok, hl, dx, q1, q2, q3⟩ := h
    rfl
  obtain ⟨G, x, a, n, T, L, xs, ds, rfl, gh, wat, ok, hl, dx, q1, q2, q3⟩ := h
  refine ⟨_, (pss_cons (ps_expr (pe_calX c_check_row (L2N.takes_of rfl rfl rfl rfl) (hr.mono (by first | decide | omega)) (by rfl) (pa_cons (pe_propQ W.wc c_World_points (hr.mono (by first | decide | omega)) (pv 0)) (pa_cons (pv 1) pa_nil))))
      (pss_one (ps_ret (pe_cal c_lot_of (hr.mono (by first | decide | omega)) (by rfl) (pa_cons (pe_cal c_closed_bits (hr.mono (by first | decide | omega)) (by rfl) (pa_cons (pe_cal c_mark_bits (hr.mono (by first | decide | omega)) (by rfl) (pa_cons (pv 0) pa_nil)) (pa_cons (pe_cal c_bits_of (hr.mono (by first | decide | omega)) (by rfl) (pa_cons (pv 1) pa_nil)) pa_nil))) pa_nil))))), ?_⟩
  obtain ⟨dx0, ml, tl, ms, ts, h1, h2, h3, h4, h5⟩ := id wat
  refine ⟨_, rfl, x, dx0, _, rfl, gh _ _ h1, G, x, n, T, L, rfl, gh, wat, _, rfl, G, a, xs, ds, n, rfl, gh, hl, dx, q1, q2, fun l24 rs e inr H1 s1 => ?_⟩
  have q := q3 l24 rs e inr
  subst e
  obtain rfl := vals_int dx
  rw [List.length_map] at l24
  have n12 := ok.n12
  refine ⟨_, rfl, G, x, n, T, L, rfl, gh.trans s1, wat, ok, fun mp mk H2 s2 f2 h2' mok => ?_⟩
  refine ⟨_, rfl, a, rs, rfl, HasS.up (s1.trans s2) hl, fun r hr => ⟨(inr r hr).1, by have := (inr r hr).2; omega⟩, by omega, fun b H3 s3 hb => ?_⟩
  refine ⟨mp, b, mk, rfl, s3 _ _ h2', mok.ne ok.grp.still, clN mk b, rfl, ?_, fun p H4 s4 f4 h4 => ?_⟩
  · refine Nat.le_trans (blen_le (k := 12) fun p hp => ?_) (by decide)
    have := ((cl_test mok ok.grp.still hb inr).mp hp).1.2
    omega
  · rw [lot_cl mok ok.grp.still hb inr] at h4
    exact q p H4 (((s1.trans s2).trans s3).trans s4) (((s1.trans s2).trans s3).free f4) h4


/-- the points that some holder of the row moves -/
def opL (n : Int) (rs : List Int) (L : List (List Int)) : List Int := pts (fun j => !(holdL rs L).all fun w => decide (stp w (j : Int) = (j : Int))) n.toNat
theorem opL_mem {n : Int} {rs : List Int} {L : List (List Int)} {x : Int} : x ∈ opL n rs L ↔ inR n x ∧ ∃ w ∈ holdL rs L, stp w x ≠ x := by
  unfold opL
  rw [pts_mem]
  constructor
  · rintro ⟨h0, h1, h2⟩
    have e : ((x.toNat : Nat) : Int) = x := Int.toNat_of_nonneg h0
    rw [Bool.not_eq_true', List.all_eq_false] at h2
    obtain ⟨w, hw, no⟩ := h2
    refine ⟨⟨h0, by omega⟩, w, hw, fun z => no (decide_eq_true ?_)⟩
    rw [e]
    exact z
  · rintro ⟨h, w, hw, no⟩
    have e : ((x.toNat : Nat) : Int) = x := Int.toNat_of_nonneg h.1
    refine ⟨h.1, by have := h.2; omega, ?_⟩
    rw [Bool.not_eq_true', List.all_eq_false]
    refine ⟨w, hw, fun z => no ?_⟩
    have := of_decide_eq_true z
    rwa [e] at this
theorem opL_cl {n : Int} {rs : List Int} {L : List (List Int)} {j : Nat} (hj : (j : Int) < n) : decide ((j : Int) ∈ clL n rs L) = (holdL rs L).all fun w => decide (stp w (j : Int) = (j : Int)) := by
  rw [Bool.eq_iff_iff, decide_eq_true_eq, clL_mem, List.all_eq_true]
  exact ⟨fun h w hw => decide_eq_true (h.2 w hw), fun h => ⟨⟨by omega, hj⟩, fun w hw => of_decide_eq_true (h w hw)⟩⟩
theorem opL_mvd {n : Int} {rs : List Int} {L : List (List Int)} {fs : List Int} (h : Mvd n (holdL rs L) fs) : fs = opL n rs L := rise_eq h.1 (pts_sorted _ _) fun x => (h.2 x).trans opL_mem.symm
def spChkTight (K : PySem.W.Frag) (C DP DT DI : Addr) : Sp := fun vs H Q E => ∃ (G : Hp) (x a : Addr) (n : Int) (T L : List (List Int)) (xs : List V) (ds : List PyData), vs = [.ref x, .ref a] ∧ Same G H ∧ WAt C G x n T L ∧ WOk n T L ∧ HasS K H a xs ∧ DaAll G xs ds ∧
  RowJ n xs ds DP DT E H fun rs => (lsx rs L = [] → ∀ H', Same H H' → Q .non H') ∧ ∀ k r, lsx rs L = k :: r → Errs E DI [(("index" : Str), .int k)] H
theorem ok_check_tight {CW DP DT DI : Addr} (Z : Zs mg) (D : Ds K mg) (m_NotTight : Xm P w K mg base "NotTight" DI ["index"]) (c_loose_indexes : CalX P w K mg base "loose_indexes" 6 ["world", "row"] (spLoose K CW DP DT)) : CalX P w K mg base "check_tight" 7 ["world", "row"] (spChkTight K CW DP DT DI) := by
  refine Def.calX D.d_check_tight sc_check_tight (fun vs H Q E h => ?_) (fun f cdv A outer s H vs Q E hr h => ?_)
  · obtain ⟨G, x, a, n, T, L, xs, ds, rfl, gh, wat, ok, hl, dx, q1, q2, q3⟩ := h
    rfl
  obtain ⟨G, x, a, n, T, L, xs, ds, rfl, gh, wat, ok, hl, dx, q1, q2, q3⟩ := h
  refine ⟨_, (pss_cons (ps_set (i := 2) sc_check_tight.nd rfl (Or.inl rfl) (pe_calX c_loose_indexes (L2N.takes_of rfl rfl rfl rfl) (hr.mono (by first | decide | omega)) (by rfl) (pa_cons (pv 0) (pa_cons (pv 1) pa_nil))))
      (pss_one (ps_if (pt_truth (pv 2) (by intro _; rfl)) (pss_one (L2N.ps_raise rfl (L2N.takes_of rfl rfl rfl rfl) (pmk_x m_NotTight (hr.mono (by first | decide | omega)) (by rfl) (pa_cons (pe_ix ix_tup (pv 2) pe_int (fun _ _ => rfl)) pa_nil)))) pss_nil))), ?_⟩
  refine ⟨_, rfl, _, rfl, G, x, a, n, T, L, xs, ds, rfl, gh, wat, ok, hl, dx, q1, q2, fun l24 rs e inr p G1 H1 s1 kp => ?_⟩
  obtain ⟨j1, j2⟩ := q3 l24 rs e inr
  have hp := s1.gh _ _ kp
  refine ⟨_, rfl, !((lsx rs L).map V.int).isEmpty, .inr (.inl ⟨_, .of hp, rfl⟩), ?_⟩
  cases el : lsx rs L with
  | nil => exact iteF (j1 el H1 s1.hh)
  | cons k r =>
    rw [el] at hp
    refine iteT ⟨_, rfl, p, _, 0, _, rfl, rfl, .of hp, atI_nat (j := 0) rfl, ini_end rfl (by show 1 ≤ 1000; decide) fun dd hdd => ?_⟩
    exact j2 k r el dd _ (s1.hh.trans (same_put (Same.refl _) hdd)) upd_same
def spChkFull (K : PySem.W.Frag) (C DP DT DF : Addr) : Sp := fun vs H Q E => ∃ (G : Hp) (x a : Addr) (n : Int) (T L : List (List Int)) (xs : List V) (ds : List PyData), vs = [.ref x, .ref a] ∧ Same G H ∧ WAt C G x n T L ∧ WOk n T L ∧ HasS K H a xs ∧ DaAll G xs ds ∧
  RowJ n xs ds DP DT E H fun rs => (opL n rs L = [] → ∀ H', Same H H' → Q .non H') ∧ ∀ k r, opL n rs L = k :: r → Errs E DF [(("point" : Str), .int k)] H
theorem ok_check_full {CW DP DT DF : Addr} (Z : Zs mg) (D : Ds K mg) (W : Dw K mg CW) (m_NotFull : Xm P w K mg base "NotFull" DF ["point"]) (c_World_points : CalP P w K mg base CW "points" 1 ["self"] (spPoints CW)) (c_closure : CalX P w K mg base "closure" 5 ["world", "lot"] (spCls K CW DP DT)) : CalX P w K mg base "check_full" 6 ["world", "row"] (spChkFull K CW DP DT DF) := by
  refine Def.calX D.d_check_full sc_check_full (fun vs H Q E h => ?_) (fun f cdv A outer s H vs Q E hr h => ?_)
  · obtain ⟨G, x, a, n, T, L, xs, ds, rfl, gh, wat, ok, hl, dx, q1, q2, q3⟩ := h
    rfl
  obtain ⟨G, x, a, n, T, L, xs, ds, rfl, gh, wat, ok, hl, dx, q1, q2, q3⟩ := h
  refine ⟨_, (pss_cons (ps_set (i := 2) sc_check_full.nd rfl (Or.inr rfl) (pe_calX c_closure (L2N.takes_of rfl rfl rfl rfl) (hr.mono (by first | decide | omega)) (by rfl) (pa_cons (pv 0) (pa_cons (pv 1) pa_nil))))
      (pss_cons (ps_setLc (i := 3) (own := [("point", 4)]) (g := gName 4) (by rfl) sc_check_full.nd rfl rfl (sw_true rfl rfl rfl (by decide +kernel)) (pi_range1 (by rfl) Z.z_range (pa_cons (pe_propQ W.wc c_World_points (hr.mono (by first | decide | omega)) (pv 0)) pa_nil)) (blkOk_by (N := ["world", "row", "closed", "outside", "point"]) (sc := defScope s_check_full) (by decide +kernel)) (fun _ _ _ _ _ => pg_name (i := 4) sc_check_full.nd rfl (Or.inl rfl)) (fun _ _ _ _ _ => pts_one (pt_cmpR (op_notIn_seqK (K := K) rfl) (pv 4) (pv 2) (by with_unfolding_all rfl))) (fun _ _ _ _ _ => (pv 4)))
      (pss_one (ps_if (pt_truth (pv 3) (by intro _; rfl)) (pss_one (L2N.ps_raise rfl (L2N.takes_of rfl rfl rfl rfl) (pmk_x m_NotFull (hr.mono (by first | decide | omega)) (by rfl) (pa_cons (pe_ix ix_list (pv 3) pe_int (fun _ _ => rfl)) pa_nil)))) pss_nil)))), ?_⟩
  obtain ⟨dx0, ml, tl, ms, ts, h1, h2, h3, h4, h5⟩ := id wat
  refine ⟨_, rfl, _, rfl, G, x, a, n, T, L, xs, ds, rfl, gh, wat, ok, hl, dx, q1, q2, fun l24 rs e inr p H1 s1 fp hp => ?_⟩
  obtain ⟨j1, j2⟩ := q3 l24 rs e inr
  have g1 := gh.trans s1
  have n0 := ok.n0
  have n12 := ok.n12
  refine ⟨_, rfl, x, dx0, _, rfl, g1 _ _ h1, G, x, n, T, L, rfl, g1, wat, n, rfl, by omega, by omega, fun l hl => ?_⟩
  refine lc_range (lo := 0) (n := n.toNat) (fun i H' => Same H1 H' ∧ H1 l = none ∧ H' l = some (.lst ((pts (fun j => !(holdL rs L).all fun w => decide (stp w (j : Int) = (j : Int))) i).map V.int))) ?_ ?_ ?_
  · exact ⟨New.same (o := .lst []) ⟨hl, rfl⟩, hl, upd_same⟩
  · rintro i H2 hi ⟨s2, fl, h2'⟩
    rw [Int.zero_add]
    have lp := pts_len (fun j => !(holdL rs L).all fun w => decide (stp w (j : Int) = (j : Int))) i
    refine ⟨rfl, _, rfl, _, rfl, p, _, rfl, .inr (.of (s2 _ _ hp)), rfl, flat_ints _, _, rfl, ?_⟩
    rw [inV_ints, opL_cl (by omega)]
    refine ite2 (fun c => ?_) (fun c => ?_)
    · replace c : (!(holdL rs L).all fun w => decide (stp w (i : Int) = (i : Int))) = true := c
      refine ⟨_, rfl, _, h2', by rw [List.length_map]; exact Hd.lt (by omega), fun b o h => ?_, fl, ?_⟩
      · rw [upd_ne (ne_of_none h fl)]
        exact s2 _ _ h
      · rw [upd_same, pts_step, if_pos c, List.map_append]
        rfl
    · replace c : ¬ (!(holdL rs L).all fun w => decide (stp w (i : Int) = (i : Int))) = true := c
      refine ⟨s2, fl, ?_⟩
      rw [h2', pts_step, if_neg c, List.append_nil]
  · rintro H2 ⟨s2, fl, h2'⟩
    have h2' : H2 l = some (.lst ((opL n rs L).map V.int)) := h2'
    have S2 := s1.trans s2
    refine ⟨_, rfl, !((opL n rs L).map V.int).isEmpty, .inl ⟨_, .of h2', rfl⟩, ?_⟩
    cases el : opL n rs L with
    | nil => exact iteF (j1 el H2 S2)
    | cons k r =>
      rw [el] at h2'
      refine iteT ⟨_, rfl, l, _, 0, _, rfl, rfl, .of h2', atI_nat (j := 0) rfl, ini_end rfl (by show 1 ≤ 1000; decide) fun dd hdd => ?_⟩
      exact j2 k r el dd _ (S2.trans (same_put (Same.refl _) hdd)) upd_same
/-- what check_tight_full finds -/
structure TFJ (n : Int) (rs : List Int) (L : List (List Int)) (DI DF : Addr) (E : XK) (H : Hp) (good : Prop) : Prop where
  loose : ∀ k r, lsx rs L = k :: r → Errs E DI [(("index" : Str), .int k)] H
  open_ : lsx rs L = [] → ∀ k r, opL n rs L = k :: r → Errs E DF [(("point" : Str), .int k)] H
  good : lsx rs L = [] → opL n rs L = [] → good
def spChkTF (K : PySem.W.Frag) (C DP DT DI DF : Addr) : Sp := fun vs H Q E => ∃ (G : Hp) (x a : Addr) (n : Int) (T L : List (List Int)) (xs : List V) (ds : List PyData), vs = [.ref x, .ref a] ∧ Same G H ∧ WAt C G x n T L ∧ WOk n T L ∧ HasS K H a xs ∧ DaAll G xs ds ∧
  RowJ n xs ds DP DT E H fun rs => TFJ n rs L DI DF E H (∀ H', Same H H' → Q .non H')
theorem ok_check_tf {CW DP DT DI DF : Addr} (Z : Zs mg) (D : Ds K mg) (c_check_tight : CalX P w K mg base "check_tight" 7 ["world", "row"] (spChkTight K CW DP DT DI)) (c_check_full : CalX P w K mg base "check_full" 6 ["world", "row"] (spChkFull K CW DP DT DF)) : CalX P w K mg base "check_tight_full" 8 ["world", "row"] (spChkTF K CW DP DT DI DF) := by
  refine Def.calX D.d_check_tight_full sc_check_tight_full (fun vs H Q E h => ?_) (fun f cdv A outer s H vs Q E hr h => ?_)
  · obtain ⟨G, x, a, n, T, L, xs, ds, rfl, gh, wat, ok, hl, dx, q1, q2, q3⟩ := h
    rfl
  obtain ⟨G, x, a, n, T, L, xs, ds, rfl, gh, wat, ok, hl, dx, q1, q2, q3⟩ := h
  refine ⟨_, (pss_cons (ps_expr (pe_calX c_check_tight (L2N.takes_of rfl rfl rfl rfl) (hr.mono (by first | decide | omega)) (by rfl) (pa_cons (pv 0) (pa_cons (pv 1) pa_nil))))
      (pss_one (ps_expr (pe_calX c_check_full (L2N.takes_of rfl rfl rfl rfl) (hr.mono (by first | decide | omega)) (by rfl) (pa_cons (pv 0) (pa_cons (pv 1) pa_nil)))))), ?_⟩
  refine ⟨_, rfl, _, rfl, G, x, a, n, T, L, xs, ds, rfl, gh, wat, ok, hl, dx, q1, q2, fun l24 rs e inr => ?_⟩
  have j := q3 l24 rs e inr
  subst e
  obtain rfl := vals_int dx
  rw [List.length_map] at l24
  refine ⟨fun e0 H1 s1 => ?_, j.loose⟩
  refine ⟨_, rfl, _, rfl, G, x, a, n, T, L, _, _, rfl, gh.trans s1, wat, ok, HasS.up s1 hl, dx, rowJ_good inr l24 ⟨fun e1 H2 s2 => j.good e0 e1 H2 (s1.trans s2), fun k r e1 => Errs.upS s1 (j.open_ e0 k r e1)⟩⟩


theorem mem_tgx {rs : List Int} {L : List (List Int)} {i : Nat} (h : i < rs.length) : decide ((i : Int) ∈ tgx rs L) = !lsB rs L i := by
  rw [Bool.eq_iff_iff, decide_eq_true_eq]
  unfold tgx
  rw [pts_mem, Int.toNat_natCast]
  exact ⟨fun z => z.2.2, fun z => ⟨by omega, h, z⟩⟩
/-- what keeps the row from being a tight full one -/
def faultD (n : Int) (rs : List Int) (L : List (List Int)) : PyData := match lsx rs L with
  | k :: _ => .tuple [.str "NotTight", .int k]
  | [] => match opL n rs L with
    | k :: _ => .tuple [.str "NotFull", .int k]
    | [] => .none
theorem fault_loose {n : Int} {rs : List Int} {L : List (List Int)} {k : Int} {r : List Int} (h : lsx rs L = k :: r) : faultD n rs L = .tuple [.str "NotTight", .int k] := by
  unfold faultD
  rw [h]
theorem fault_open {n : Int} {rs : List Int} {L : List (List Int)} {k : Int} {r : List Int} (h0 : lsx rs L = []) (h : opL n rs L = k :: r) : faultD n rs L = .tuple [.str "NotFull", .int k] := by
  unfold faultD
  rw [h0, h]
theorem fault_none {n : Int} {rs : List Int} {L : List (List Int)} (h0 : lsx rs L = []) (h : opL n rs L = []) : faultD n rs L = .none := by
  unfold faultD
  rw [h0, h]
def spFault : Sp := fun vs H Q _ => ∃ (G : Hp) (m lo : Addr) (n : Int) (ms : List V) (L : List (List Int)) (rs : List Int), vs = [.int n, .ref m, .ref lo] ∧ Same G H ∧ 0 ≤ n ∧ n ≤ 12 ∧ G m = some (.lst ms) ∧ DaAll G ms (L.map rowD) ∧ AllMv n L ∧ L.length ≤ 1000 ∧ G lo = some (.lst (rs.map V.int)) ∧ (∀ r ∈ rs, inR n r) ∧ rs.length ≤ 24 ∧
  ∀ (v : V) (G' H' : Hp), Stq G H G' H' → Da G' v (faultD n rs L) → Q v H'
theorem ok_fault (Z : Zs mg) (D : Ds K mg) (c__law_tight_at : Cal P w K mg base "_law_tight_at" 1 ["made", "row"] spTightAt) (c__law_moved : Cal P w K mg base "_law_moved" 1 ["points", "moves"] spMoved) (c__law_holders : Cal P w K mg base "_law_holders" 1 ["made", "row"] (spHoldersOf K)) : Cal P w K mg base "_law_row_fault" 2 ["points", "made", "row"] spFault := by
  refine Def.cal D.d_law_row_fault sc_law_row_fault (fun vs H Q E h => ?_) (fun f cdv A outer s H vs Q E hr h => ?_)
  · obtain ⟨G, m, lo, n, ms, L, rs, rfl, gh, n0, n12, gm, dm, mvL, lL, glo, inr, lr, q⟩ := h
    rfl
  obtain ⟨G, m, lo, n, ms, L, rs, rfl, gh, n0, n12, gm, dm, mvL, lL, glo, inr, lr, q⟩ := h
  refine ⟨_, (pss_cons (ps_set (i := 3) sc_law_row_fault.nd rfl (Or.inr rfl) (pe_cal c__law_tight_at (hr.mono (by first | decide | omega)) (by rfl) (pa_cons (pv 1) (pa_cons (pv 2) pa_nil))))
      (pss_cons (ps_setLc (i := 4) (own := [("k", 6)]) (g := gName 6) (by rfl) sc_law_row_fault.nd rfl rfl (sw_true rfl rfl rfl (by decide +kernel)) (pi_range1 (by rfl) Z.z_range (pa_cons (pe_callB call_len_seq (by rfl) Z.z_len (by decide +kernel) (pa_cons (pv 2) pa_nil)) pa_nil)) (blkOk_by (N := ["points", "made", "row", "tight", "loose", "free", "k"]) (sc := defScope s_law_row_fault) (by decide +kernel)) (fun _ _ _ _ _ => pg_name (i := 6) sc_law_row_fault.nd rfl (Or.inl rfl)) (fun _ _ _ _ _ => pts_one (pt_cmpR (op_notIn_seqK (K := K) rfl) (pv 6) (pv 3) (by with_unfolding_all rfl))) (fun _ _ _ _ _ => (pv 6)))
      (pss_cons (ps_if (pt_cmp (pc_gt (pe_callB call_len_seq (by rfl) Z.z_len (by decide +kernel) (pa_cons (pv 4) pa_nil)) pe_int) (nomark _)) (pss_one (ps_ret (pe_tupN (pa_cons pe_str (pa_cons (pe_ix ix_list (pv 4) pe_int (fun _ _ => rfl)) pa_nil))))) pss_nil)
      (pss_cons (ps_set (i := 5) sc_law_row_fault.nd rfl (Or.inl rfl) (pe_cal c__law_moved (hr.mono (by first | decide | omega)) (by rfl) (pa_cons (pv 0) (pa_cons (pe_cal c__law_holders (hr.mono (by first | decide | omega)) (by rfl) (pa_cons (pv 1) (pa_cons (pv 2) pa_nil))) pa_nil))))
      (pss_cons (ps_if (pt_cmp (pc_gt (pe_callB call_len_seq (by rfl) Z.z_len (by decide +kernel) (pa_cons (pv 5) pa_nil)) pe_int) (nomark _)) (pss_one (ps_ret (pe_tupN (pa_cons pe_str (pa_cons (pe_ix ix_list (pv 5) pe_int (fun _ _ => rfl)) pa_nil))))) pss_nil)
      (pss_one (ps_ret pe_non))))))), ?_⟩
  refine ⟨_, rfl, _, rfl, G, m, lo, n, ms, L, rs, rfl, gh, gm, dm, mvL, glo, inr, lr, fun tp H1 s1 gtp ftp htp => ?_⟩
  have lt := pts_len (fun k => !lsB rs L k) rs.length
  refine ⟨_, rfl, lo, _, rfl, .inl (.of (s1.gh _ _ glo)), _, rfl, by rw [List.length_map]; omega, by rw [List.length_map]; omega, fun l hl => ?_⟩
  rw [List.length_map]
  have ntl : tp ≠ l := fun e => by rw [e, hl] at htp; cases htp
  refine lc_range (lo := 0) (n := ((rs.length : Nat) : Int).toNat) (fun i H' => Stq G H G H' ∧ G l = none ∧ H l = none ∧ H' tp = some (.lst ((tgx rs L).map V.int)) ∧ H' l = some (.lst ((pts (lsB rs L) i).map V.int))) ?_ ?_ ?_
  · obtain ⟨s2, gl, h2, fl⟩ := s1.loc2 (p := l) (o := .lst []) ⟨hl, rfl⟩
    exact ⟨s2, gl, fl, by rw [upd_ne ntl]; exact htp, h2⟩
  · rintro i H2 hi ⟨s2, gl, fl, ht2, h2⟩
    rw [Int.zero_add]
    have il : i < rs.length := by omega
    have lp := pts_len (lsB rs L) i
    refine ⟨rfl, _, rfl, _, rfl, tp, _, rfl, .inl (.of ht2), rfl, flat_ints _, _, rfl, ?_⟩
    rw [inV_ints, mem_tgx il, Bool.not_not]
    refine ite2 (fun c => ?_) (fun c => ?_)
    · replace c : lsB rs L i = true := c
      refine ⟨_, rfl, _, h2, by rw [List.length_map]; exact Hd.lt (by omega), s2.mut gl fl rfl, gl, fl, by rw [upd_ne ntl]; exact ht2, ?_⟩
      rw [upd_same, pts_step, if_pos c, List.map_append]
      rfl
    · replace c : ¬ lsB rs L i = true := c
      refine ⟨s2, gl, fl, ht2, ?_⟩
      rw [h2, pts_step, if_neg c, List.append_nil]
  rintro H2 ⟨s2, gl, fl, ht2, h2⟩
  rw [show ((rs.length : Nat) : Int).toNat = rs.length by omega] at h2
  have h2 : H2 l = some (.lst ((lsx rs L).map V.int)) := h2
  refine ⟨_, rfl, l, _, rfl, .inl (.of h2), _, _, rfl, rfl, _, rfl, ?_⟩
  cases el : lsx rs L with
  | cons k r =>
    rw [el] at h2
    refine iteDT (by rw [List.length_map, List.length_cons]; omega) ⟨_, rfl, l, _, 0, _, rfl, rfl, .of h2, atI_nat (j := 0) rfl, by show 2 ≤ sizeLine; decide, fun p H3 n3 => ?_⟩
    obtain ⟨G3, s3, g3, k3, -⟩ := s2.know2 n3
    refine q (.ref p) G3 H3 s3 ?_
    rw [fault_loose el]
    exact .tup k3 (.cons (.str _) (.cons (.int _) .nil))
  | nil =>
    refine iteDF (by simp) ?_
    refine ⟨_, rfl, _, rfl, _, rfl, G, m, lo, n, ms, L, rs, rfl, s2.gh, gm, dm, mvL, lL, .inl (.inl (s2.gh _ _ glo)), inr, fun p7 ys7 H7 s7 g7 f7 h7 d7 => ?_⟩
    have S7 := s2.trans s7
    refine ⟨G, p7, n, ys7, holdL rs L, rfl, S7.gh, n0, n12, h7, d7, fun w hw => mvL w (holdL_sub hw), fun p fs H8 s8 gp fp hp mvd => ?_⟩
    have S8 := S7.trans s8
    obtain rfl := opL_mvd mvd
    refine ⟨_, rfl, p, _, rfl, .inl (.of hp), _, _, rfl, rfl, _, rfl, ?_⟩
    cases eo : opL n rs L with
    | cons k r =>
      rw [eo] at hp
      refine iteDT (by rw [List.length_map, List.length_cons]; omega) ⟨_, rfl, p, _, 0, _, rfl, rfl, .of hp, atI_nat (j := 0) rfl, by show 2 ≤ sizeLine; decide, fun p3 H9 n9 => ?_⟩
      obtain ⟨G9, s9, g9, k9, -⟩ := S8.know2 n9
      refine q (.ref p3) G9 H9 s9 ?_
      rw [fault_open el eo]
      exact .tup k9 (.cons (.str _) (.cons (.int _) .nil))
    | nil =>
      refine iteDF (by simp) (q .non G H8 S8 ?_)
      rw [fault_none el eo]
      exact .non
theorem fault_cases (n : Int) (rs : List Int) (L : List (List Int)) : (∃ k r, lsx rs L = k :: r ∧ faultD n rs L = .tuple [.str "NotTight", .int k]) ∨ (lsx rs L = [] ∧ ∃ k r, opL n rs L = k :: r ∧ faultD n rs L = .tuple [.str "NotFull", .int k]) ∨ (lsx rs L = [] ∧ opL n rs L = [] ∧ faultD n rs L = .none) := by
  cases el : lsx rs L with
  | cons k r => exact .inl ⟨k, r, rfl, fault_loose el⟩
  | nil => cases eo : opL n rs L with
    | cons k r => exact .inr (.inl ⟨rfl, k, r, rfl, fault_open el eo⟩)
    | nil => exact .inr (.inr ⟨rfl, rfl, fault_none el eo⟩)

theorem lv_ints (k : Nat) (ns : List Int) : lv (k + 2) (.list (ns.map PyData.int)) = true := by
  cases ns with
  | nil => rfl
  | cons n ns =>
    show ((n :: ns).map PyData.int).all (lv (k + 1)) = true
    rw [List.all_eq_true]
    intro d hd
    obtain ⟨i, -, rfl⟩ := List.mem_map.mp hd
    rfl
theorem agree_ok {H : Hp} {Q : VK} {E : XK} {v w : V} {d : PyData} (hv : Da H v d) (hw : Da H w d) (sz : szD d ≤ 100000) (l : lv 4 d = true) (q : ∀ H', Same H H' → Q (.bl true) H') : spAgree 4 [v, w] H Q E :=
  ⟨v, w, d, rfl, hv, hw, by show szD d + 0 ≤ _; omega, l, q⟩


theorem lsx_all {rs : List Int} {L : List (List Int)} (h : lsx rs L = []) {k : Nat} (hk : k < rs.length) : lsB rs L k = false := by
  cases c : lsB rs L k with
  | false => rfl
  | true =>
    exfalso
    have : (k : Int) ∈ lsx rs L := by
      unfold lsx
      rw [pts_mem, Int.toNat_natCast]
      exact ⟨by omega, hk, c⟩
    rw [h] at this
    cases this
theorem opL_all {n : Int} {rs : List Int} {L : List (List Int)} (h : opL n rs L = []) {r : Int} (ir : inR n r) {w : List Int} (hw : w ∈ holdL rs L) : stp w r = r := by
  by_cases c : stp w r = r
  · exact c
  · exfalso
    have := opL_mem.mpr ⟨ir, w, hw, c⟩
    rw [h] at this
    cases this
/-- a tight row has no point twice -/
theorem tight_nodup {rs : List Int} {L : List (List Int)} (tr : lsx rs L = []) : rs.Nodup := by
  refine List.pairwise_iff_getElem.mpr fun i j hi hj hij e => ?_
  have hr : rs[j]? = some rs[j] := List.getElem?_eq_getElem hj
  have := (lsB_iff (L := L) hr).mpr fun w hw => by
    obtain ⟨h1, h2⟩ := (List.mem_filter (p := holdB (rs.take j))).mp hw
    unfold holdB at h2
    rw [decide_eq_true_eq, aft_self] at h2
    refine h2 _ (List.mem_of_getElem? (i := i) ?_)
    rw [List.getElem?_take_of_lt hij, List.getElem?_eq_getElem hi, e]
  rw [lsx_all tr hj] at this
  cases this
theorem if_L {H : Hp} {t : Bool} {p : Addr} {xs : List V} (h : H p = some (if t then HO.tup xs else HO.lst xs)) : HasL H p xs := by
  cases t with
  | true => exact .inr h
  | false => exact .inl h


/-- what is knew before stays so -/
theorem Go.know1 {S : Sr} {G H G1 H1 H2 : Hp} {p l : Addr} {o u : HO} (a : Go S G H G1 H1) (n : New H1 p o H2) (gl : G1 l = none) (hl : H1 l = some u) : ∃ G2, Go S G H G2 H2 ∧ Same G1 G2 ∧ G2 p = some o ∧ G2 l = none ∧ H2 l = some u := by
  obtain ⟨G2, s2, g2, k2, o2⟩ := a.know n
  exact ⟨G2, s2, g2, k2, by rw [o2 l (n.ne (ne_none hl))]; exact gl, n.else hl⟩
/-- all rows that take a piece from each block -/
def prodL : List (List (List Int)) → List (List Int)
  | [] => [[]]
  | B :: Bs => B.flatMap fun b => (prodL Bs).map fun a => b ++ a
theorem prod_mem {B : List (List Int)} {Bs : List (List (List Int))} {w : List Int} : w ∈ prodL (B :: Bs) ↔ ∃ b ∈ B, ∃ a ∈ prodL Bs, b ++ a = w := by
  show w ∈ B.flatMap (fun b => (prodL Bs).map fun a => b ++ a) ↔ _
  rw [List.mem_flatMap]
  exact ⟨fun ⟨b, hb, h⟩ => ⟨b, hb, List.mem_map.mp h⟩, fun ⟨b, hb, h⟩ => ⟨b, hb, List.mem_map.mpr h⟩⟩
theorem prod_map (f : Int → Int) : ∀ {Bs : List (List (List Int))}, (∀ B ∈ Bs, ∀ b ∈ B, b.map f ∈ B) → ∀ w ∈ prodL Bs, w.map f ∈ prodL Bs
  | [], _, w, h => by
    rw [List.mem_singleton.mp h]
    exact List.mem_singleton.mpr rfl
  | B :: Bs, hB, w, h => by
    obtain ⟨b, hb, a, ha, rfl⟩ := prod_mem.mp h
    rw [List.map_append]
    exact prod_mem.mpr ⟨_, hB B List.mem_cons_self b hb, _, prod_map f (fun C hC => hB C (List.mem_cons_of_mem _ hC)) a ha, rfl⟩
def swapI (q : Nat × Nat) : List Int := ((rngI 12).set q.1 (q.2 : Int)).set q.2 (q.1 : Int)
def prs0 : List (Nat × Nat) := [(0, 1), (1, 2), (3, 4), (4, 5), (6, 7), (8, 9), (10, 11)]
def prs1 : List (Nat × Nat) := [(6, 7), (8, 9), (10, 11)]
def prs2 : List (Nat × Nat) := [(0, 1), (1, 2), (2, 3), (4, 5), (5, 6)]
def c4s : List Int := [1, 2, 3, 0, 5, 4, 6, 7, 8, 9, 10, 11]
def tall (k : Nat) : List (List Int) := match k with
  | 0 => prs0.map swapI
  | 1 => c4s :: prs1.map swapI
  | _ => prs2.map swapI
def s3L (a b c : Int) : List (List Int) := [[a, b, c], [a, c, b], [b, a, c], [b, c, a], [c, a, b], [c, b, a]]
def s4L (a b c d : Int) : List (List Int) := ((s3L b c d).map fun r => a :: r) ++ ((s3L a c d).map fun r => b :: r) ++ ((s3L a b d).map fun r => c :: r) ++ ((s3L a b c).map fun r => d :: r)
def s2L (a b : Int) : List (List Int) := [[a, b], [b, a]]
def blocks (k : Nat) : List (List (List Int)) := match k with
  | 0 => [s3L 0 1 2, s3L 3 4 5, s2L 6 7, s2L 8 9, s2L 10 11]
  | 1 => [[[0, 1, 2, 3, 4, 5], [1, 2, 3, 0, 5, 4], [2, 3, 0, 1, 4, 5], [3, 0, 1, 2, 5, 4]], s2L 6 7, s2L 8 9, s2L 10 11]
  | _ => [s4L 0 1 2 3, s3L 4 5 6, [[7, 8, 9, 10, 11]]]
theorem tall_mv (k : Nat) : AllMv 12 (tall k) := by
  have h : ∀ k : Fin 3, ∀ m ∈ tall k.val, IsMv m 12 := by unfold IsMv; decide +kernel
  intro m hm
  match k, hm with
  | 0, hm => exact h 0 m hm
  | 1, hm => exact h 1 m hm
  | k + 2, hm => exact h 2 m hm
theorem tall_len (k : Nat) : (tall k).length ≤ 7 := by
  match k with
  | 0 => decide
  | 1 => decide
  | k + 2 => exact (by decide : (prs2.map swapI).length ≤ 7)
theorem tall_clo (k : Nat) : ∀ m ∈ tall k, ∀ B ∈ blocks k, ∀ b ∈ B, b.map (stp m) ∈ B := by
  have h : ∀ k : Fin 3, ∀ m ∈ tall k.val, ∀ B ∈ blocks k.val, ∀ b ∈ B, b.map (stp m) ∈ B := by decide +kernel
  match k with
  | 0 => exact h 0
  | 1 => exact h 1
  | k + 2 => exact h 2
theorem tall_few (k : Nat) : (prodL (blocks k)).length ≤ 400 := by
  have h : ∀ k : Fin 3, (prodL (blocks k.val)).length ≤ 400 := by decide +kernel
  match k with
  | 0 => exact h 0
  | 1 => exact h 1
  | k + 2 => exact h 2
theorem tall_still (k : Nat) : rngI 12 ∈ prodL (blocks k) := by
  have h : ∀ k : Fin 3, rngI 12 ∈ prodL (blocks k.val) := by decide +kernel
  match k with
  | 0 => exact h 0
  | 1 => exact h 1
  | k + 2 => exact h 2
/-- the moves of T are those of U, renamed -/
def ConjL (n : Int) (bs : List Int) (U T : List (List Int)) : Prop := ∀ m ∈ T, ∃ u ∈ U, Conj n u bs m
theorem conj_made {n : Int} {bs : List Int} {U T K0 : List (List Int)} (n0 : 0 ≤ n) (mb : IsMv bs n) (mvU : AllMv n U) (mvT : AllMv n T) (c : ConjL n bs U T) (still : rngI n ∈ K0) (clo : ∀ w ∈ K0, ∀ m ∈ U, aft w m ∈ K0) {w : List Int} (h : Mk' n T w) : ∃ u ∈ K0, Mk' n U u ∧ Conj n u bs w := by
  induction h with
  | base =>
    refine ⟨_, still, .base, fun p hp => ?_⟩
    rw [stp_rng hp, stp_rng (stp_at mb hp).2]
  | step hw hm ih =>
    obtain ⟨u, hu, mu, cu⟩ := ih
    obtain ⟨t, ht, ct⟩ := c _ hm
    refine ⟨_, clo u hu t ht, .step mu ht, fun p hp => ?_⟩
    have mvw := made_mv n0 mvT hw
    have mvu := made_mv n0 mvU mu
    have bp := (stp_at mb hp).2
    rw [stp_aft mvw bp, stp_aft mvu hp, cu p hp]
    exact ct _ (stp_at mvu hp).2
theorem conj_one {n : Int} {bs u v w : List Int} (n0 : 0 ≤ n) (mb : IsMv bs n) (mv : IsMv v n) (mw : IsMv w n) (cv : Conj n u bs v) (cw : Conj n u bs w) : v = w := by
  refine (mv_ext mv (L := w) (by rw [mw.len]) fun k hk => ?_).symm
  have ik : inR n (k : Int) := ⟨by omega, hk⟩
  have sur : (k : Int) ∈ bs := mb.mem.mpr ik
  obtain ⟨j, hj⟩ := List.getElem?_of_mem sur
  have jl := (List.getElem?_eq_some_iff.mp hj).1
  have lb := mb.len
  have ij : inR n (j : Int) := ⟨by omega, by omega⟩
  have e : stp bs (j : Int) = k := by
    have := (stp_at mb ij).1
    rw [Int.toNat_natCast, hj] at this
    exact (Option.some.inj this).symm
  have e1 := cv _ ij
  have e2 := cw _ ij
  rw [e] at e1 e2
  have := (stp_at mw ik).1
  rw [Int.toNat_natCast, e2, ← e1] at this
  exact this
theorem conj_few {n : Int} {bs : List Int} {U T K0 : List (List Int)} (n0 : 0 ≤ n) (mb : IsMv bs n) (mvU : AllMv n U) (mvT : AllMv n T) (c : ConjL n bs U T) (still : rngI n ∈ K0) (clo : ∀ w ∈ K0, ∀ m ∈ U, aft w m ∈ K0) : ∃ L : List (List Int), L.length = K0.length ∧ ∀ w, Mk' n T w → w ∈ L := by
  classical
  refine ⟨K0.map fun u => if h : ∃ w, IsMv w n ∧ Conj n u bs w then h.choose else [], List.length_map .., fun w hw => ?_⟩
  obtain ⟨u, hu, -, cu⟩ := conj_made n0 mb mvU mvT c still clo hw
  have mw := made_mv n0 mvT hw
  have ex : ∃ w, IsMv w n ∧ Conj n u bs w := ⟨w, mw, cu⟩
  refine List.mem_map.mpr ⟨u, hu, ?_⟩
  rw [dif_pos ex]
  exact conj_one n0 mb ex.choose_spec.1 mw ex.choose_spec.2 cu
def prD (q : Nat × Nat) : PyData := .list [.int (q.1 : Int), .int (q.2 : Int)]
def spTall : Sp := fun vs H Q _ => ∃ (S : Sr) (G : Hp) (k : Nat), vs = [.ref S.a, .int (k : Int)] ∧ Wd S G H ∧ k ≤ 2 ∧ ∀ (p : Addr) (T L : List (List Int)) (G' H' : Hp), Go S G H G' H' → Frz G' p 12 T L → Q (.ref p) H'
theorem ok_tall (Z : Zs mg) (D : Ds K mg) (c__law_drawn : Cal P w K mg base "_law_drawn" 3 ["store", "things", "many"] spDrawn) (c__law_renamed : Cal P w K mg base "_law_renamed" 1 ["move", "by"] spRenamedC) (c__law_group : Cal P w K mg base "_law_group" 2 ["points", "told", "most"] spGroup) : Cal P w K mg base "_law_tall_world" 4 ["store", "which"] spTall := by
  refine Def.cal D.d_law_tall_world sc_law_tall_world (fun vs H Q E h => ?_) (fun f cdv A outer s H vs Q E hr h => ?_)
  · obtain ⟨S, G, k, rfl, wdd, k2, q⟩ := h
    rfl
  obtain ⟨S, G, k, rfl, wdd, k2, q⟩ := h
  refine ⟨_, (pss_cons (ps_set (i := 2) sc_law_tall_world.nd rfl (Or.inl rfl) (pe_lstN pa_nil))
      (pss_cons (ps_set (i := 3) sc_law_tall_world.nd rfl (Or.inl rfl) (pe_lstN (pa_cons (pe_lstN (pa_cons pe_int (pa_cons pe_int pa_nil))) (pa_cons (pe_lstN (pa_cons pe_int (pa_cons pe_int pa_nil))) (pa_cons (pe_lstN (pa_cons pe_int (pa_cons pe_int pa_nil))) (pa_cons (pe_lstN (pa_cons pe_int (pa_cons pe_int pa_nil))) (pa_cons (pe_lstN (pa_cons pe_int (pa_cons pe_int pa_nil))) (pa_cons (pe_lstN (pa_cons pe_int (pa_cons pe_int pa_nil))) (pa_cons (pe_lstN (pa_cons pe_int (pa_cons pe_int pa_nil))) pa_nil)))))))))
      (Evl.pss_cut (ps_if (pt_cmp (pc_eqI (pv 1) pe_int) (nomark _)) (pss_cons (ps_set (i := 2) sc_law_tall_world.nd rfl (Or.inl rfl) (pe_lstN (pa_cons (pe_tupN (pa_cons pe_int (pa_cons pe_int (pa_cons pe_int (pa_cons pe_int (pa_cons pe_int (pa_cons pe_int (pa_cons pe_int (pa_cons pe_int (pa_cons pe_int (pa_cons pe_int (pa_cons pe_int (pa_cons pe_int pa_nil))))))))))))) pa_nil)))
      (pss_one (ps_set (i := 3) sc_law_tall_world.nd rfl (Or.inl rfl) (pe_slice sl_listN (pv 3) (po_some pe_int) po_none)))) pss_nil)
      (Evl.pss_cut (ps_if (pt_cmp (pc_eqI (pv 1) pe_int) (nomark _)) (pss_one (ps_set (i := 3) sc_law_tall_world.nd rfl (Or.inl rfl) (pe_lstN (pa_cons (pe_lstN (pa_cons pe_int (pa_cons pe_int pa_nil))) (pa_cons (pe_lstN (pa_cons pe_int (pa_cons pe_int pa_nil))) (pa_cons (pe_lstN (pa_cons pe_int (pa_cons pe_int pa_nil))) (pa_cons (pe_lstN (pa_cons pe_int (pa_cons pe_int pa_nil))) (pa_cons (pe_lstN (pa_cons pe_int (pa_cons pe_int pa_nil))) pa_nil)))))))) pss_nil)
      (pss_cons (ps_for PassesOwn.never rfl (pi_list (pv 3)) (pg_name (i := 4) sc_law_tall_world.nd rfl (Or.inl rfl)) (pss_cons (ps_set (i := 5) sc_law_tall_world.nd rfl (Or.inl rfl) (pe_listRgN rfl (by rfl) Z.z_list (prg_1 (by rfl) Z.z_range pe_int)))
      (pss_cons (ps_asg (pe_ix ix_list (pv 4) pe_int (fun _ _ => rfl)) (pg_sub (pv 5) (pe_ix ix_list (pv 4) pe_int (fun _ _ => rfl)) set_listN))
      (pss_cons (ps_asg (pe_ix ix_list (pv 4) pe_int (fun _ _ => rfl)) (pg_sub (pv 5) (pe_ix ix_list (pv 4) pe_int (fun _ _ => rfl)) set_listN))
      (pss_one (ps_expr (pe_bm PySem.F.plainAttrs_list PySem.F.slot_list_append PySem.F.type_list_append mt_appendN (pv 2) (pa_cons (pe_callTy call_tupleN (by rfl) Z.z_tuple (by decide +kernel) (pa_cons (pv 5) pa_nil)) pa_nil))))))))
      (pss_cons (ps_set (i := 6) sc_law_tall_world.nd rfl (Or.inr rfl) (pe_callTy call_tupleN (by rfl) Z.z_tuple (by decide +kernel) (pa_cons (pe_cal c__law_drawn (hr.mono (by first | decide | omega)) (by rfl) (pa_cons (pv 0) (pa_cons (pe_listRgN rfl (by rfl) Z.z_list (prg_1 (by rfl) Z.z_range pe_int)) (pa_cons pe_int pa_nil)))) pa_nil)))
      (pss_cons (ps_setLc (i := 2) (own := [("move", 7)]) (g := gName 7) (tt := tYes) (by rfl) sc_law_tall_world.nd rfl rfl (sw_true rfl rfl rfl (by decide +kernel)) (pi_list (pv 2)) (blkOk_by (N := ["store", "which", "told", "pairs", "pair", "image", "by", "move"]) (sc := defScope s_law_tall_world) (by decide +kernel)) (fun _ _ _ _ _ => pg_name (i := 7) sc_law_tall_world.nd rfl (Or.inl rfl)) (fun _ _ _ _ _ => pts_nil) (fun _ _ _ _ _ => (pe_cal c__law_renamed (hr.mono (by first | decide | omega)) (by rfl) (pa_cons (pv 7) (pa_cons (pv 6) pa_nil)))))
      (pss_one (ps_ret (pe_lstN (pa_cons pe_int (pa_cons (pv 2) (pa_cons (pe_cal c__law_group (hr.mono (by first | decide | omega)) (by rfl) (pa_cons pe_int (pa_cons (pv 2) (pa_cons pe_int pa_nil)))) pa_nil))))))))))))), ?_⟩
  refine ⟨by show 0 ≤ sizeLine; decide, fun tl H1 n1 => ⟨by show 2 ≤ sizeLine; decide, fun a0 A0 ma0 => ⟨by show 2 ≤ sizeLine; decide, fun a1 A1 ma1 => ⟨by show 2 ≤ sizeLine; decide, fun a2 A2 ma2 => ⟨by show 2 ≤ sizeLine; decide, fun a3 A3 ma3 => ⟨by show 2 ≤ sizeLine; decide, fun a4 A4 ma4 => ⟨by show 2 ≤ sizeLine; decide, fun a5 A5 ma5 => ⟨by show 2 ≤ sizeLine; decide, fun a6 A6 ma6 => ⟨by show 7 ≤ sizeLine; decide, fun aq Aq maq => ?_⟩⟩⟩⟩⟩⟩⟩⟩⟩
  obtain ⟨s1, gl1, hl1, fl⟩ := (Go.refl wdd).loc n1
  obtain ⟨P0, sa0, ga0, ka0, gla0, hla0⟩ := Go.know1 s1 ma0 gl1 hl1
  obtain ⟨P1, sa1, ga1, ka1, gla1, hla1⟩ := Go.know1 sa0 ma1 gla0 hla0
  obtain ⟨P2, sa2, ga2, ka2, gla2, hla2⟩ := Go.know1 sa1 ma2 gla1 hla1
  obtain ⟨P3, sa3, ga3, ka3, gla3, hla3⟩ := Go.know1 sa2 ma3 gla2 hla2
  obtain ⟨P4, sa4, ga4, ka4, gla4, hla4⟩ := Go.know1 sa3 ma4 gla3 hla3
  obtain ⟨P5, sa5, ga5, ka5, gla5, hla5⟩ := Go.know1 sa4 ma5 gla4 hla4
  obtain ⟨P6, sa6, ga6, ka6, gla6, hla6⟩ := Go.know1 sa5 ma6 gla5 hla5
  obtain ⟨Pq, saq, gaq, kaq, glaq, hlaq⟩ := Go.know1 sa6 maq gla6 hla6
  have d0 : DaAll Pq _ (prs0.map prD) := .cons (.lst (gaq _ _ (ga6 _ _ (ga5 _ _ (ga4 _ _ (ga3 _ _ (ga2 _ _ (ga1 _ _ ka0))))))) (.cons (.int _) (.cons (.int _) .nil))) (.cons (.lst (gaq _ _ (ga6 _ _ (ga5 _ _ (ga4 _ _ (ga3 _ _ (ga2 _ _ ka1)))))) (.cons (.int _) (.cons (.int _) .nil))) (.cons (.lst (gaq _ _ (ga6 _ _ (ga5 _ _ (ga4 _ _ (ga3 _ _ ka2))))) (.cons (.int _) (.cons (.int _) .nil))) (.cons (.lst (gaq _ _ (ga6 _ _ (ga5 _ _ (ga4 _ _ ka3)))) (.cons (.int _) (.cons (.int _) .nil))) (.cons (.lst (gaq _ _ (ga6 _ _ (ga5 _ _ ka4))) (.cons (.int _) (.cons (.int _) .nil))) (.cons (.lst (gaq _ _ (ga6 _ _ ka5)) (.cons (.int _) (.cons (.int _) .nil))) (.cons (.lst (gaq _ _ ka6) (.cons (.int _) (.cons (.int _) .nil))) .nil))))))
  -- the pairs, and what is told already
  refine ⟨fun σ' H' => ∃ (G' : Hp) (t q : Addr) (ts xs : List V) (U : List (List Int)) (ps : List (Nat × Nat)), σ' = [some (.ref S.a), some (.int (k : Int)), some (.ref t), some (.ref q), none, none, none, none] ∧ Go S G H G' H' ∧ G' t = none ∧ H t = none ∧ H' t = some (.lst ts) ∧ DaAll G' ts (U.map rowD) ∧ G' q = some (.lst xs) ∧ DaAll G' xs (ps.map prD) ∧ ps.length ≤ 7 ∧ (∀ p ∈ ps, p.1 < 12 ∧ p.2 < 12) ∧ (k = 1 → U = [c4s] ∧ ps = prs1) ∧ (k = 0 → U = [] ∧ ps = prs0) ∧ (k = 2 → U = []), ?_, ?_⟩
  · refine ⟨_, rfl, _, _, rfl, rfl, _, rfl, ite2 (fun c => ?_) (fun c => ?_)⟩
    · have c : (k : Int) = 1 := dec_of c
      refine ⟨by show 12 ≤ sizeLine; decide, fun c0 B0 e0 => ⟨by show 1 ≤ sizeLine; decide, fun t B1 e1 => ?_⟩⟩
      obtain ⟨J0, j0, i0, kc0, -⟩ := saq.know e0
      obtain ⟨j1, gt, ht, ft⟩ := j0.loc e1
      refine ⟨_, rfl, 4, rfl, aq, _, rfl, .of (j1.gh _ _ (i0 _ _ kaq)), fun r B2 e2 => ?_⟩
      obtain ⟨J2, j2, i2, kr, gt2, ht2⟩ := Go.know1 j1 e2 gt ht
      rw [show cutV _ (some 4) none = _ from cut_fr (n := 4)] at kr
      refine ⟨J2, t, r, _, _, [c4s], prs1, rfl, j2, gt2, ft, ht2, .cons (.tup (i2 _ _ kc0) (DaAll.ints c4s)) .nil, kr, (((d0.up i0).up i2).drop 4), by decide, by decide, fun _ => ⟨rfl, rfl⟩, (fun e => by omega), fun e => by omega⟩
    · have c : ¬ (k : Int) = 1 := dec_not c
      refine ⟨Pq, tl, aq, [], _, [], prs0, rfl, saq, glaq, fl, hlaq, .nil, kaq, d0, by decide, by decide, (fun e => by omega), (fun e => ⟨rfl, rfl⟩), fun e => rfl⟩
  rintro σ' C0 ⟨G1, t, qa, ts, xs, U, ps, rfl, S1, gt, ft, ht, dU, kq, dps, lps, bps, i1, i0, i2⟩
  refine ⟨fun σ' H' => ∃ (G' : Hp) (q : Addr) (xs : List V) (ps : List (Nat × Nat)), σ' = [some (.ref S.a), some (.int (k : Int)), some (.ref t), some (.ref q), none, none, none, none] ∧ Go S G H G' H' ∧ Same G1 G' ∧ G' t = none ∧ H' t = some (.lst ts) ∧ G' q = some (.lst xs) ∧ DaAll G' xs (ps.map prD) ∧ ps.length ≤ 7 ∧ (∀ p ∈ ps, p.1 < 12 ∧ p.2 < 12) ∧ U ++ ps.map swapI = tall k, ?_, ?_⟩
  · refine ⟨_, rfl, _, _, rfl, rfl, _, rfl, ite2 (fun c => ?_) (fun c => ?_)⟩
    · have c : (k : Int) = 2 := dec_of c
      obtain rfl : k = 2 := by omega
      refine ⟨by show 2 ≤ sizeLine; decide, fun b0 B0 mb0 => ⟨by show 2 ≤ sizeLine; decide, fun b1 B1 mb1 => ⟨by show 2 ≤ sizeLine; decide, fun b2 B2 mb2 => ⟨by show 2 ≤ sizeLine; decide, fun b3 B3 mb3 => ⟨by show 2 ≤ sizeLine; decide, fun b4 B4 mb4 => ⟨by show 5 ≤ sizeLine; decide, fun bq Bq mbq => ?_⟩⟩⟩⟩⟩⟩
      obtain ⟨R0, sb0, gb0, kb0, glb0, hlb0⟩ := Go.know1 S1 mb0 gt ht
      obtain ⟨R1, sb1, gb1, kb1, glb1, hlb1⟩ := Go.know1 sb0 mb1 glb0 hlb0
      obtain ⟨R2, sb2, gb2, kb2, glb2, hlb2⟩ := Go.know1 sb1 mb2 glb1 hlb1
      obtain ⟨R3, sb3, gb3, kb3, glb3, hlb3⟩ := Go.know1 sb2 mb3 glb2 hlb2
      obtain ⟨R4, sb4, gb4, kb4, glb4, hlb4⟩ := Go.know1 sb3 mb4 glb3 hlb3
      obtain ⟨Rq, sbq, gbq, kbq, glbq, hlbq⟩ := Go.know1 sb4 mbq glb4 hlb4
      refine ⟨Rq, bq, _, prs2, rfl, sbq, (((((gb0.trans gb1).trans gb2).trans gb3).trans gb4).trans gbq), glbq, hlbq, kbq, .cons (.lst (gbq _ _ (gb4 _ _ (gb3 _ _ (gb2 _ _ (gb1 _ _ kb0))))) (.cons (.int _) (.cons (.int _) .nil))) (.cons (.lst (gbq _ _ (gb4 _ _ (gb3 _ _ (gb2 _ _ kb1)))) (.cons (.int _) (.cons (.int _) .nil))) (.cons (.lst (gbq _ _ (gb4 _ _ (gb3 _ _ kb2))) (.cons (.int _) (.cons (.int _) .nil))) (.cons (.lst (gbq _ _ (gb4 _ _ kb3)) (.cons (.int _) (.cons (.int _) .nil))) (.cons (.lst (gbq _ _ kb4) (.cons (.int _) (.cons (.int _) .nil))) .nil)))), by decide, by decide, ?_⟩
      rw [i2 rfl]
      rfl
    · have c : ¬ (k : Int) = 2 := dec_not c
      refine ⟨G1, qa, xs, ps, rfl, S1, Same.refl _, gt, ht, kq, dps, lps, bps, ?_⟩
      have : k = 0 ∨ k = 1 := by omega
      rcases this with e | e
      · obtain ⟨z1, z2⟩ := i0 e
        rw [z1, z2, e]
        rfl
      · obtain ⟨z1, z2⟩ := i1 e
        rw [z1, z2, e]
        rfl
  clear i1 i0 i2 kq dps lps bps
  rintro σ' C1 ⟨G2, q2, xs, ps, rfl, S2, g12, gt, ht, kq, dps, lps, bps, eT⟩
  have dU := dU.up g12
  have lU := dU.length
  rw [List.length_map] at lU
  have lT := tall_len k
  have lx := dps.length
  rw [List.length_map] at lx
  have lUp : U.length + ps.length ≤ 7 := by
    have := congrArg List.length eT
    rw [List.length_append, List.length_map] at this
    omega
  refine ⟨_, rfl, q2, rfl, ⟨_, .of (S2.gh _ _ kq)⟩, for_list (K := K) (a := q2) (xs := xs) (fun i σ' H' => ∃ (G' : Hp) (ts : List V) (y4 y5 : Option V), σ' = [some (.ref S.a), some (.int (k : Int)), some (.ref t), some (.ref q2), y4, y5, none, none] ∧ Go S G H G' H' ∧ Same G2 G' ∧ G' t = none ∧ H' t = some (.lst ts) ∧ DaAll G' ts ((U ++ (ps.take i).map swapI).map rowD)) ?_ ?_ ?_ ?_⟩
  · refine ⟨G2, ts, none, none, rfl, S2, Same.refl _, gt, ht, ?_⟩
    rw [List.take_zero, List.map_nil, List.append_nil]
    exact dU
  · rintro i σ' H' - ⟨G', ts, y4, y5, rfl, s3, g3, -⟩
    exact .of (s3.gh _ _ (g3 _ _ kq))
  · rintro i v σ' H3 hv ⟨G3, ts, y4, y5, rfl, S3, g3, gt3, ht3, dT⟩
    obtain ⟨e, he, de⟩ := dps.get hv
    rw [List.getElem?_map] at he
    obtain ⟨pr, hp, rfl⟩ := Option.map_eq_some_iff.mp he
    obtain ⟨b1, b2⟩ := bps pr (List.mem_of_getElem? hp)
    have ilt := (List.getElem?_eq_some_iff.mp hp).1
    have de := de.up g3
    cases de with
    | lst kpa dpa =>
      rename_i pa pxs
      cases dpa with
      | cons x1 r1 =>
        cases x1
        cases r1 with
        | cons x2 r2 =>
          cases x2
          cases r2
          refine ⟨12, rfl, .of_le (by decide) (by decide) (by decide) (by decide), fun im H4 n4 => ?_⟩
          rw [rgV_rngI] at n4
          obtain ⟨s4, gi, hi, fi⟩ := S3.loc n4
          have ht4 := n4.else ht3
          have nti : t ≠ im := fun e => by have := n4.fr; rw [← e, ht3] at this; cases this
          have l12 : ((rngI 12).map V.int).length = 12 := by rw [List.length_map, rngI_len]; rfl
          refine ⟨_, rfl, pa, _, 1, _, rfl, rfl, .of (s4.gh _ _ kpa), rfl, _, rfl, _, rfl, pa, _, 0, _, rfl, rfl, .of (s4.gh _ _ kpa), rfl, im, _, pr.1, rfl, rfl, hi, by omega, fun H5 e5 => ?_⟩
          have s5 := s4.mut gi fi e5
          have hi5 : H5 im = _ := upd_at e5
          have ht5 := upd_else e5 ht4 nti
          refine ⟨_, rfl, pa, _, 0, _, rfl, rfl, .of (s5.gh _ _ kpa), rfl, _, rfl, _, rfl, pa, _, 1, _, rfl, rfl, .of (s5.gh _ _ kpa), rfl, im, _, pr.2, rfl, rfl, hi5, by rw [List.length_set]; omega, fun H6 e6 => ?_⟩
          have s6 := s5.mut gi fi e6
          have hi6 : H6 im = some (.lst ((swapI pr).map V.int)) := by
            rw [upd_at e6, ← List.map_set, ← List.map_set]
            rfl
          have ht6 := upd_else e6 ht5 nti
          refine ⟨_, rfl, .inl ⟨rfl, _, .of ht6⟩, _, rfl, im, _, rfl, .of hi6, fun p1 H7 n7 => ?_⟩
          obtain ⟨G7, s7, g7, k7, gt7, ht7⟩ := Go.know1 s6 n7 gt3 ht6
          have lts := dT.length
          rw [List.length_map, List.length_append, List.length_map, List.length_take] at lts
          refine ⟨t, _, _, rfl, rfl, ht7, lt (by omega), fun H8 e8 => ?_⟩
          refine ⟨G7, ts ++ [.ref p1], _, _, rfl, s7.mut gt7 ft e8, g3.trans g7, gt7, upd_at e8, ?_⟩
          have st : (ps.take (i + 1)).map swapI = (ps.take i).map swapI ++ [swapI pr] := by
            rw [List.take_add_one, hp, List.map_append]
            rfl
          rw [st, ← List.append_assoc, List.map_append]
          exact (dT.up g7).append (.one (.tup k7 (DaAll.ints _)))
  · rintro σ' H3 ⟨G3, ts, y4, y5, rfl, S3, g3, gt3, ht3, dT⟩
    rw [lx, List.take_length, eT] at dT
    have lts := dT.length
    rw [List.length_map] at lts
    have mvT := tall_mv k
    refine ⟨_, rfl, 12, rfl, .of_le (by decide) (by decide) (by decide) (by decide), fun l H8 n8 => ?_⟩
    rw [rgV_rngI] at n8
    obtain ⟨s8, gl, hl, fl8⟩ := S3.loc n8
    have hq := n8.else ht3
    refine ⟨S, G3, l, _, 12, rfl, s8.wd, .inl hl, by rw [List.length_map, rngI_len]; decide, by decide, by decide, fun r ys rest H9 s9 gr fr hr pm0 hy => ?_⟩
    obtain ⟨rs, ms, rfl, rfl, pm⟩ := perm_ints pm0
    rw [List.length_map, List.length_map, rngI_len] at hy
    have pl := pm.length_eq
    rw [List.length_append, rngI_len] at pl
    have e : ms = [] := List.eq_nil_of_length_eq_zero (by
      have : (12 : Int).toNat = 12 := rfl
      omega)
    subst e
    rw [List.append_nil] at pm
    have hq := s9.hh hq (s8.ns ft)
    refine ⟨r, _, rfl, .of hr, fun b HA nA => ?_⟩
    obtain ⟨GA, sA, gA, kA, gqA, hq⟩ := Go.know1 (s8.trans s9) nA gt3 hq
    refine ⟨_, rfl, t, rfl, ⟨_, .of hq⟩, fun x hx => ?_⟩
    refine lc_list (xs := ts) (fun i H' => ∃ (G' : Hp) (zs : List V) (W : List (List Int)), Go S G H G' H' ∧ Same GA G' ∧ G' t = none ∧ H' t = some (.lst ts) ∧ G' x = none ∧ H x = none ∧ H' x = some (.lst zs) ∧ DaAll G' zs (W.map rowD) ∧ AllMv 12 W ∧ W.length = i ∧ ConjL 12 rs (tall k) W) ?_ ?_ ?_ ?_
    · obtain ⟨sx, gx, hx2, fx⟩ := sA.loc (p := x) (o := .lst []) ⟨hx, rfl⟩
      exact ⟨GA, [], [], sx, Same.refl _, gqA, (New.mk hx rfl : New _ x (.lst []) _).else hq, gx, fx, hx2, .nil, .nil', rfl, fun m hm => by cases hm⟩
    · rintro i H' - ⟨G', zs, W, sB, gg, gqB, hqB, -⟩
      exact .of hqB
    · rintro i y HB hy ⟨GB, zs, W, sB, gg, gqB, hqB, gx, fx, hxB, dW, mvW, lW, cW⟩
      obtain ⟨e, he, hde⟩ := dT.get hy
      rw [List.getElem?_map] at he
      obtain ⟨v, hv, rfl⟩ := Option.map_eq_some_iff.mp he
      obtain ⟨c, rfl, hc⟩ := rows_ref hde
      have ilt := (List.getElem?_eq_some_iff.mp hv).1
      refine ⟨rfl, yesT ⟨_, rfl, _, rfl, GB, c, b, v, rs, 12, rfl, sB.gh, (gg _ _ (gA _ _ hc)), gg _ _ kA, mvT v (List.mem_of_getElem? hv), pm, by decide, by decide, fun p7 ms G7 H7 s7 k7 mv7 cj => ?_⟩⟩
      have S7 := sB.q s7
      have h7 := s7.hh _ _ hxB
      have g7 := s7.nw2 hxB gx
      have lz := dW.length
      rw [List.length_map] at lz
      refine ⟨zs, h7, lt (by omega), G7, zs ++ [.ref p7], W ++ [ms], S7.mut g7 fx rfl, gg.trans s7.gg, s7.nw2 hqB gqB, ?_, g7, fx, upd_same, ?_, mvW.app' (.cons' mv7 .nil'), by rw [List.length_append, lW]; rfl, fun m hm => (List.mem_append.mp hm).elim (cW m) fun h => by rw [List.mem_singleton.mp h]; exact ⟨v, List.mem_of_getElem? hv, cj⟩⟩
      · rw [upd_ne fun z => by rw [z, hx] at hq; cases hq]
        exact s7.hh _ _ hqB
      · rw [List.map_append]
        exact (dW.up s7.gg).append (.one (.tup k7 (DaAll.ints _)))
    rintro HB ⟨GB, zs, W, sB, gg, gqB, hqB, gx, fx, hxB, dW, mvW, lW, cW⟩
    refine ⟨_, rfl, _, rfl, GB, x, zs, W, 12, 400, rfl, sB.gh, by decide, by decide, hxB, dW, mvW, by omega, by decide, by decide, fun p7 G7 H7 ys L s7 f7 g7 h7 dy gM lM => ?_, fun no H7 s7 => ?_⟩
    · have S7 := sB.q s7
      have hx7 := s7.hh _ _ hxB
      have gx7 := s7.nw2 hxB gx
      have nxp : x ≠ p7 := fun e => by rw [← e, hxB] at f7; cases f7
      refine ⟨by show 3 ≤ sizeLine; decide, fun rr H8 n8 => ?_⟩
      obtain ⟨G8, S8, g8, k8, o8⟩ := S7.know n8
      have nx8 : x ≠ rr := n8.ne (ne_none hx7)
      have np8 : p7 ≠ rr := n8.ne (ne_none h7)
      obtain ⟨G9, S9, g9, k9, o9⟩ := S8.frz (by rw [o8 x nx8]; exact gx7) fx (n8.else hx7)
      obtain ⟨GX, SX, gX, kX, -⟩ := S9.frz (by rw [o9 p7 (Ne.symm nxp), o8 p7 np8]; exact g7) (sB.fresh f7) (n8.else h7)
      refine q rr W L GX H8 SX ⟨x, p7, zs, ys, gX _ _ (g9 _ _ k8), gX _ _ k9, kX, ((((dW.up s7.gg).up g8).up g9).up gX), (((dy.up g8).up g9).up gX), by decide, by decide, mvW, by omega, by omega, gM⟩
    · exfalso
      obtain ⟨L, e, hL⟩ := conj_few (K0 := prodL (blocks k)) (by decide) pm mvT mvW cW (tall_still k) (fun w hw m hm => prod_map (stp m) (tall_clo k m hm) w hw) 
      have := no L hL
      have := tall_few k
      omega


def spTightAtB (K : PySem.W.Frag) : Sp := fun vs H Q _ => ∃ (G : Hp) (m lo : Addr) (n : Int) (ms : List V) (L : List (List Int)) (rs : List Int), vs = [.ref m, .ref lo] ∧ Same G H ∧ G m = some (.lst ms) ∧ DaAll G ms (L.map rowD) ∧ AllMv n L ∧ HasL H lo (rs.map V.int) ∧ (∀ r ∈ rs, inR n r) ∧ rs.length ≤ 1000 ∧
  ∀ (p : Addr) (H' : Hp), Stq G H G H' → G p = none → H p = none → H' p = some (.lst ((tgx rs L).map V.int)) → Q (.ref p) H'
theorem ok_tight_at__b (Z : Zs mg) (D : Ds K mg) : Cal P w K mg base "_law_tight_at" 1 ["made", "row"] (spTightAtB K) := by
  refine Def.cal D.d_law_tight_at sc_law_tight_at (fun vs H Q E h => ?_) (fun f cdv A outer s H vs Q E hr h => ?_)
  · obtain ⟨G, m, lo, n, ms, L, rs, rfl, gh, gm, dm, mvL, glo, inr, lr, q⟩ := h
    rfl
  obtain ⟨G, m, lo, n, ms, L, rs, rfl, gh, gm, dm, mvL, glo, inr, lr, q⟩ := h
  refine ⟨_, (pss_cons (ps_set (i := 2) sc_law_tight_at.nd rfl (Or.inl rfl) pe_dnewK)
      (pss_cons (ps_for PassesOwn.never rfl (pi_list (pv 0)) (pg_name (i := 3) sc_law_tight_at.nd rfl (Or.inl rfl)) (pss_one (ps_for PassesOwn.never rfl (pi_range1 (by rfl) Z.z_range (pa_cons (pe_callB call_len (by rfl) Z.z_len (by decide +kernel) (pa_cons (pv 1) pa_nil)) pa_nil)) (pg_name (i := 4) sc_law_tight_at.nd rfl (Or.inl rfl)) (pss_one (ps_if (pt_cmp (pc_neI (pe_ix ix_tup (pv 3) (pe_ix ix_seq (pv 1) (pv 4) (fun _ _ => rfl)) (fun _ _ => rfl)) (pe_ix ix_seq (pv 1) (pv 4) (fun _ _ => rfl))) (nomark _)) (pss_cons (ps_dput (hu_of hr) (pv 2) (pv 4) pe_bl rfl)
      (pss_one ps_break)) pss_nil)))))
      (pss_one (ps_ret (pe_callB cr_sortedI (by rfl) Z.z_sorted (by decide +kernel) (pa_cons (pe_callTy (call_listKv (by rfl)) (by rfl) Z.z_list (by decide +kernel) (pa_cons (pe_bm0 PySem.F.plainAttrs_dict PySem.F.slot_dict_keys PySem.F.type_dict_keys mt_keys (pv 2)) pa_nil)) pa_nil)))))), ?_⟩
  refine fun d hd => ?_
  obtain ⟨s1, gd, h1, fd⟩ := (Stq.refl gh).loc2 (p := d) (o := .dK []) ⟨hd, rfl⟩
  generalize upd H d (.dK []) = H1 at s1 h1 ⊢
  have lms := dm.length
  rw [List.length_map] at lms
  have small : ∀ {ks : List Int} {i : Nat}, ks.Nodup → (∀ x, x ∈ ks ↔ ∃ w ∈ L.take i, x = ((lead w rs : Nat) : Int) ∧ lead w rs < rs.length) → ks.length ≤ 1000 := fun {ks i} nd mem => by
    have := len_subI (L := rngI 1000) nd fun x hx => rngI_mem.mpr (by
      obtain ⟨w, hw, e, l⟩ := (mem x).mp hx
      exact ⟨by omega, by omega⟩)
    rwa [rngI_len] at this
  refine ⟨_, rfl, m, rfl, ⟨_, .of (s1.gh _ _ gm)⟩, for_list (K := K) (a := m) (xs := ms) (fun i σ' H' => ∃ (kvs : List (Key × V)) (ks : List Int) (y3 y4 : Option V), σ' = [some (.ref m), some (.ref lo), some (.ref d), y3, y4] ∧ Stq G H G H' ∧ H' d = some (.dK kvs) ∧ KSet kvs ks ∧ ∀ x, x ∈ ks ↔ ∃ w ∈ L.take i, x = ((lead w rs : Nat) : Int) ∧ lead w rs < rs.length) ?_ ?_ ?_ ?_⟩
  · exact ⟨[], [], none, none, rfl, s1, h1, ⟨rfl, List.nodup_nil⟩, fun x => ⟨fun h => absurd h (by simp), fun ⟨w, hw, _⟩ => absurd hw (by simp)⟩⟩
  · rintro i σ' H' - ⟨kvs, ks, y3, y4, rfl, s2, -⟩
    exact .of (s2.gh _ _ gm)
  · rintro i y σ' H2 hy ⟨kvs, ks, y3, y4, rfl, s2, h2, kset, mem⟩
    obtain ⟨e, he, de⟩ := dm.get hy
    rw [List.getElem?_map] at he
    obtain ⟨w, hw, rfl⟩ := Option.map_eq_some_iff.mp he
    obtain ⟨c, rfl, hc⟩ := rows_ref de
    have mv := mvL w (List.mem_of_getElem? hw)
    have tk : L.take (i + 1) = L.take i ++ [w] := by rw [List.take_add_one, hw]; rfl
    have ll := lead_le w rs
    have lks := small kset.2 mem
    have lkv := kset.len
    have glo2 := glo.up s2.hh
    refine ⟨_, rfl, _, _, rfl, HasL.lenV glo2, _, rfl, by rw [List.length_map]; omega, by rw [List.length_map]; omega, ?_⟩
    rw [List.length_map]
    refine for_rangeB (lo := 0) (n := ((rs.length : Nat) : Int).toNat) (fun j σ' H' => ∃ y4 : Option V, σ' = [some (.ref m), some (.ref lo), some (.ref d), some (.ref c), y4] ∧ H' = H2 ∧ j ≤ lead w rs)
      (fun σ' H' => ∃ (kvs : List (Key × V)) (ks : List Int) (y3 y4 : Option V), σ' = [some (.ref m), some (.ref lo), some (.ref d), y3, y4] ∧ Stq G H G H' ∧ H' d = some (.dK kvs) ∧ KSet kvs ks ∧ ∀ x, x ∈ ks ↔ ∃ w ∈ L.take (i + 1), x = ((lead w rs : Nat) : Int) ∧ lead w rs < rs.length) ⟨y4, rfl, rfl, Nat.zero_le _⟩ ?_ ?_ (fun _ _ h => h)
    · rintro cont j σ' H3 hj ⟨y4, rfl, rfl, le⟩
      rw [Int.zero_add]
      have jl : j < rs.length := by omega
      have hr : rs[j]? = some rs[j] := List.getElem?_eq_getElem jl
      have rin := inr _ (List.mem_of_getElem? hr)
      have at_ : atI (rs.map V.int) (j : Int) = some (V.int rs[j]) := atI_nat (by rw [List.getElem?_map, hr]; rfl)
      obtain ⟨y, e1, e2, -⟩ := atI_ints (ns := w) rin.1 (by have := mv.len; have := rin.2; omega)
      obtain rfl : y = stp w rs[j] := Option.some.inj (e1.symm.trans (stp_at mv rin).1)
      refine ⟨_, rfl, _, rfl, _, rfl, rIx_of glo2 at_ ⟨c, _, _, _, rfl, rfl, .of (s2.gh _ _ hc), e2, _, rfl, _, rfl, rIx_of glo2 at_ ⟨_, _, rfl, rfl, _, rfl, ite2 (fun c1 => ?_) (fun c1 => ?_)⟩⟩⟩
      · have no : stp w rs[j] ≠ rs[j] := nb_t c1
        have el := lead_stop hr le no
        obtain ⟨ks2, kset2, lk2, mem2⟩ := kset.put (j : Int) (.bl true)
        refine ⟨_, rfl, _, rfl, d, _, rfl, DPut.k (k := Sum.inl (j : Int)) h2 (Hd.lt (by omega)), cont _ _ ⟨_, ks2, _, _, rfl, s2.mut gd fd rfl, upd_same, kset2, fun x => ?_⟩⟩
        rw [mem2 x, mem x, tk]
        constructor
        · rintro (⟨v, hv, z⟩ | rfl)
          · exact ⟨v, List.mem_append_left _ hv, z⟩
          · exact ⟨w, List.mem_append_right _ List.mem_cons_self, by omega, by omega⟩
        · rintro ⟨v, hv, z⟩
          rcases List.mem_append.mp hv with hv | hv
          · exact .inl ⟨v, hv, z⟩
          · rw [List.mem_singleton.mp hv] at z
            exact .inr (by omega)
      · have yes : stp w rs[j] = rs[j] := nb_f c1
        exact ⟨_, rfl, rfl, lead_go hr le yes⟩
    · rintro σ' H3 ⟨y4, rfl, rfl, le⟩
      refine ⟨kvs, ks, _, _, rfl, s2, h2, kset, fun x => ?_⟩
      rw [mem x, tk]
      constructor
      · rintro ⟨v, hv, z⟩
        exact ⟨v, List.mem_append_left _ hv, z⟩
      · rintro ⟨v, hv, z⟩
        rcases List.mem_append.mp hv with hv | hv
        · exact ⟨v, hv, z⟩
        · rw [List.mem_singleton.mp hv] at z
          omega
  · rintro σ' H2 ⟨kvs, ks, y3, y4, rfl, s2, h2, kset, mem⟩
    rw [lms, List.take_length] at mem
    refine ⟨_, rfl, .inr (.inr (.inl ⟨rfl, .inl ⟨_, h2⟩⟩)), d, kvs, rfl, rfl, .inl h2, fun p hp => ?_⟩
    have npd : p ≠ d := fun z => by rw [z, h2] at hp; cases hp
    obtain ⟨s3, -, hp3, -⟩ := s2.loc2 (p := p) (o := keysO p d) ⟨hp, rfl⟩
    have h3 : upd H2 p (keysO p d) d = some (.dK kvs) := by rw [upd_ne (Ne.symm npd)]; exact h2
    refine ⟨p, d, kvs, rfl, hp3, .inl h3, fun l hl => ?_⟩
    have el : (kvs.map fun kv => kV kv.1) = ks.map V.int := by
      rw [← kV_inl, ← kset.1, List.map_map]
      rfl
    rw [el]
    obtain ⟨s4, -, h4, -⟩ := s3.loc2 (p := l) (o := .lst (ks.map V.int)) ⟨hl, rfl⟩
    refine ⟨l, ks, rfl, .of h4, fun ns' p2 pm so hp2 => ?_⟩
    obtain ⟨s5, g5, h5, f5⟩ := s4.loc2 (p := p2) (o := .lst (ns'.map V.int)) ⟨hp2, rfl⟩
    have nd2 : ns'.Nodup := pm.nodup_iff.mpr kset.2
    have e : ns' = tgx rs L := rise_eq ((so.and nd2).imp fun h => by omega) (pts_sorted _ _) fun x => (pm.mem_iff.trans (mem x)).trans tg_mem.symm
    subst e
    exact q p2 _ s5 g5 f5 h5
def spFaultB : Sp := fun vs H Q _ => ∃ (G : Hp) (m lo : Addr) (n : Int) (ms : List V) (L : List (List Int)) (rs : List Int), vs = [.int n, .ref m, .ref lo] ∧ Same G H ∧ 0 ≤ n ∧ n ≤ 12 ∧ G m = some (.lst ms) ∧ DaAll G ms (L.map rowD) ∧ AllMv n L ∧ L.length ≤ 1000 ∧ HasL H lo (rs.map V.int) ∧ (∀ r ∈ rs, inR n r) ∧ rs.length ≤ 1000 ∧
  ∀ (v : V) (G' H' : Hp), Stq G H G' H' → Da G' v (faultD n rs L) → Q v H'
theorem ok_row_fault__b (Z : Zs mg) (D : Ds K mg) (c__law_tight_at__b : Cal P w K mg base "_law_tight_at" 1 ["made", "row"] (spTightAtB K)) (c__law_moved : Cal P w K mg base "_law_moved" 1 ["points", "moves"] spMoved) (c__law_holders : Cal P w K mg base "_law_holders" 1 ["made", "row"] (spHoldersOf K)) : Cal P w K mg base "_law_row_fault" 2 ["points", "made", "row"] spFaultB := by
  refine Def.cal D.d_law_row_fault sc_law_row_fault (fun vs H Q E h => ?_) (fun f cdv A outer s H vs Q E hr h => ?_)
  · obtain ⟨G, m, lo, n, ms, L, rs, rfl, gh, n0, n12, gm, dm, mvL, lL, glo, inr, lr, q⟩ := h
    rfl
  obtain ⟨G, m, lo, n, ms, L, rs, rfl, gh, n0, n12, gm, dm, mvL, lL, glo, inr, lr, q⟩ := h
  refine ⟨_, (pss_cons (ps_set (i := 3) sc_law_row_fault.nd rfl (Or.inr rfl) (pe_cal c__law_tight_at__b (hr.mono (by first | decide | omega)) (by rfl) (pa_cons (pv 1) (pa_cons (pv 2) pa_nil))))
      (pss_cons (ps_setLc (i := 4) (own := [("k", 6)]) (g := gName 6) (by rfl) sc_law_row_fault.nd rfl rfl (sw_true rfl rfl rfl (by decide +kernel)) (pi_range1 (by rfl) Z.z_range (pa_cons (pe_callB call_len (by rfl) Z.z_len (by decide +kernel) (pa_cons (pv 2) pa_nil)) pa_nil)) (blkOk_by (N := ["points", "made", "row", "tight", "loose", "free", "k"]) (sc := defScope s_law_row_fault) (by decide +kernel)) (fun _ _ _ _ _ => pg_name (i := 6) sc_law_row_fault.nd rfl (Or.inl rfl)) (fun _ _ _ _ _ => pts_one (pt_cmpR (op_notIn_seqK (K := K) rfl) (pv 6) (pv 3) (by with_unfolding_all rfl))) (fun _ _ _ _ _ => (pv 6)))
      (pss_cons (ps_if (pt_cmp (pc_gt (pe_callB call_len_seq (by rfl) Z.z_len (by decide +kernel) (pa_cons (pv 4) pa_nil)) pe_int) (nomark _)) (pss_one (ps_ret (pe_tupN (pa_cons pe_str (pa_cons (pe_ix ix_list (pv 4) pe_int (fun _ _ => rfl)) pa_nil))))) pss_nil)
      (pss_cons (ps_set (i := 5) sc_law_row_fault.nd rfl (Or.inl rfl) (pe_cal c__law_moved (hr.mono (by first | decide | omega)) (by rfl) (pa_cons (pv 0) (pa_cons (pe_cal c__law_holders (hr.mono (by first | decide | omega)) (by rfl) (pa_cons (pv 1) (pa_cons (pv 2) pa_nil))) pa_nil))))
      (pss_cons (ps_if (pt_cmp (pc_gt (pe_callB call_len_seq (by rfl) Z.z_len (by decide +kernel) (pa_cons (pv 5) pa_nil)) pe_int) (nomark _)) (pss_one (ps_ret (pe_tupN (pa_cons pe_str (pa_cons (pe_ix ix_list (pv 5) pe_int (fun _ _ => rfl)) pa_nil))))) pss_nil)
      (pss_one (ps_ret pe_non))))))), ?_⟩
  refine ⟨_, rfl, _, rfl, G, m, lo, n, ms, L, rs, rfl, gh, gm, dm, mvL, glo, inr, lr, fun tp H1 s1 gtp ftp htp => ?_⟩
  have lt := pts_len (fun k => !lsB rs L k) rs.length
  refine ⟨_, rfl, _, _, rfl, HasL.lenV (glo.up s1.hh), _, rfl, by rw [List.length_map]; omega, by rw [List.length_map]; omega, fun l hl => ?_⟩
  rw [List.length_map]
  have ntl : tp ≠ l := fun e => by rw [e, hl] at htp; cases htp
  refine lc_range (lo := 0) (n := ((rs.length : Nat) : Int).toNat) (fun i H' => Stq G H G H' ∧ G l = none ∧ H l = none ∧ H' tp = some (.lst ((tgx rs L).map V.int)) ∧ H' l = some (.lst ((pts (lsB rs L) i).map V.int))) ?_ ?_ ?_
  · obtain ⟨s2, gl, h2, fl⟩ := s1.loc2 (p := l) (o := .lst []) ⟨hl, rfl⟩
    exact ⟨s2, gl, fl, by rw [upd_ne ntl]; exact htp, h2⟩
  · rintro i H2 hi ⟨s2, gl, fl, ht2, h2⟩
    rw [Int.zero_add]
    have il : i < rs.length := by omega
    have lp := pts_len (lsB rs L) i
    refine ⟨rfl, _, rfl, _, rfl, tp, _, rfl, .inl (.of ht2), rfl, flat_ints _, _, rfl, ?_⟩
    rw [inV_ints, mem_tgx il, Bool.not_not]
    refine ite2 (fun c => ?_) (fun c => ?_)
    · replace c : lsB rs L i = true := c
      refine ⟨_, rfl, _, h2, by rw [List.length_map]; exact Hd.lt (by omega), s2.mut gl fl rfl, gl, fl, by rw [upd_ne ntl]; exact ht2, ?_⟩
      rw [upd_same, pts_step, if_pos c, List.map_append]
      rfl
    · replace c : ¬ lsB rs L i = true := c
      refine ⟨s2, gl, fl, ht2, ?_⟩
      rw [h2, pts_step, if_neg c, List.append_nil]
  rintro H2 ⟨s2, gl, fl, ht2, h2⟩
  rw [show ((rs.length : Nat) : Int).toNat = rs.length by omega] at h2
  have h2 : H2 l = some (.lst ((lsx rs L).map V.int)) := h2
  refine ⟨_, rfl, l, _, rfl, .inl (.of h2), _, _, rfl, rfl, _, rfl, ?_⟩
  cases el : lsx rs L with
  | cons k r =>
    rw [el] at h2
    refine iteDT (by rw [List.length_map, List.length_cons]; omega) ⟨_, rfl, l, _, 0, _, rfl, rfl, .of h2, atI_nat (j := 0) rfl, by show 2 ≤ sizeLine; decide, fun p H3 n3 => ?_⟩
    obtain ⟨G3, s3, g3, k3, -⟩ := s2.know2 n3
    refine q (.ref p) G3 H3 s3 ?_
    rw [fault_loose el]
    exact .tup k3 (.cons (.str _) (.cons (.int _) .nil))
  | nil =>
    refine iteDF (by simp) ?_
    refine ⟨_, rfl, _, rfl, _, rfl, G, m, lo, n, ms, L, rs, rfl, s2.gh, gm, dm, mvL, lL, .inl (glo.up s2.hh), inr, fun p7 ys7 H7 s7 g7 f7 h7 d7 => ?_⟩
    have S7 := s2.trans s7
    refine ⟨G, p7, n, ys7, holdL rs L, rfl, S7.gh, n0, n12, h7, d7, fun w hw => mvL w (holdL_sub hw), fun p fs H8 s8 gp fp hp mvd => ?_⟩
    have S8 := S7.trans s8
    obtain rfl := opL_mvd mvd
    refine ⟨_, rfl, p, _, rfl, .inl (.of hp), _, _, rfl, rfl, _, rfl, ?_⟩
    cases eo : opL n rs L with
    | cons k r =>
      rw [eo] at hp
      refine iteDT (by rw [List.length_map, List.length_cons]; omega) ⟨_, rfl, p, _, 0, _, rfl, rfl, .of hp, atI_nat (j := 0) rfl, by show 2 ≤ sizeLine; decide, fun p3 H9 n9 => ?_⟩
      obtain ⟨G9, s9, g9, k9, -⟩ := S8.know2 n9
      refine q (.ref p3) G9 H9 s9 ?_
      rw [fault_open el eo]
      exact .tup k9 (.cons (.str _) (.cons (.int _) .nil))
    | nil =>
      refine iteDF (by simp) (q .non G H8 S8 ?_)
      rw [fault_none el eo]
      exact .non


def ptsB (n : Int) (ds : List PyData) : Bool := decide (ds.length ≤ 24) && ds.all fun e => isNum e 0 (n - 1)
/-- what is_row_of answers -/
def rowB (n : Int) (d : PyData) : Bool := match d with
  | .list ds => ptsB n ds
  | .tuple ds => ptsB n ds
  | _ => false
def tupB (n : Int) (d : PyData) : Bool := match d with
  | .tuple ds => ptsB n ds
  | _ => false
theorem rowB_flat {v : V} {d : PyData} (n : Int) (h : Flat v d) : rowB n d = false ∧ tupB n d = false := by
  rcases h with ⟨rfl, rfl⟩ | ⟨b, rfl, rfl⟩ | ⟨i, rfl, rfl⟩ | ⟨x, rfl, rfl⟩ <;> exact ⟨rfl, rfl⟩
theorem rowB_sq (n : Int) (t : Bool) (ds : List PyData) : rowB n (sqD t ds) = ptsB n ds := by cases t <;> rfl
def spIsRow : Sp := fun vs H Q _ => ∃ (G : Hp) (v : V) (d : PyData) (n : Int), vs = [.int n, v] ∧ Same G H ∧ Da G v d ∧ ∀ H', Same H H' → Q (.bl (rowB n d)) H'
theorem ib_sq2 (t : Bool) (ds : List PyData) : (instB (sqD t ds) "list" || instB (sqD t ds) "tuple") = true := by
  cases t with
  | true => rw [show instB (sqD true ds) "tuple" = true from ib_tuple_tuple ds, Bool.or_true]
  | false => rw [show instB (sqD false ds) "list" = true from ib_list_list ds, Bool.true_or]
theorem ok_is_row_of (Z : Zs mg) (D : Ds K mg) (c_is_point : Cal P w K mg base "is_point" 2 ["points", "value"] spIsPoint) : Cal P w K mg base "is_row_of" 3 ["points", "value"] spIsRow := by
  refine Def.cal D.d_is_row_of sc_is_row_of (fun vs H Q E h => ?_) (fun f cdv A outer s H vs Q E hr h => ?_)
  · obtain ⟨G, v, d, n, rfl, gh, hd, q⟩ := h
    rfl
  obtain ⟨G, v, d, n, rfl, gh, hd, q⟩ := h
  refine ⟨_, (pss_cons (ps_if (PW.pt (pw_or (pt_not (pt_val (pe_callB call_isD2 (by rfl) Z.z_isinstance (by decide +kernel) (pa_cons (pv 1) (pa_cons (pe_tupN (pa_cons (pe_bltn (v := .ty "list") (by rfl) Z.z_list (by decide +kernel) rfl) (pa_cons (pe_bltn (v := .ty "tuple") (by rfl) Z.z_tuple (by decide +kernel) rfl) pa_nil))) pa_nil))))) (pw_or1 (pt_cmp (pc_gt (pe_callB call_len (by rfl) Z.z_len (by decide +kernel) (pa_cons (pv 1) pa_nil)) (pe_globI (by rfl) Z.c_MOST_ROW)) (nomark _))))) (pss_one (ps_ret pe_bl)) pss_nil)
      (pss_one (ps_ret (pe_callB (cr_all rfl) (by rfl) Z.z_all (by decide +kernel) (pa_cons (pe_lc (own := [("entry", 2)]) (g := gName 2) (tt := tYes) (by rfl) sc_is_row_of.nd (pi_or (pi_list (pv 1)) (pi_tup (pv 1))) (blkOk_by (N := ["points", "value", "entry"]) (sc := defScope s_is_row_of) (by decide +kernel)) (fun _ _ _ _ _ => pg_name (i := 2) sc_is_row_of.nd rfl (Or.inl rfl)) (fun _ _ _ _ _ => pts_nil) (fun _ _ _ _ _ => (pe_cal c_is_point (hr.mono (by first | decide | omega)) (by rfl) (pa_cons (pv 0) (pa_cons (pv 2) pa_nil))))) pa_nil))))), ?_⟩
  refine ⟨_, rfl, by show 2 ≤ sizeLine; decide, fun tp H1 n1 => ⟨v, d, tp, rfl, n1.at, (hd.up gh).up n1.same, _, rfl, ?_⟩⟩
  rcases hd.kind2 with ⟨fl, h1, h2⟩ | ⟨a, xs, ds, t, rfl, ha, dx, rfl⟩
  · refine iteBT (by rw [h1, h2]; rfl) (iteT ?_)
    rw [(rowB_flat n fl).1] at q
    exact q H1 n1.same
  refine iteBF (by rw [ib_sq2]; rfl) ?_
  rw [rowB_sq] at q
  have lx := dx.length
  have hl : HasL G a xs := if_L ha
  have g1 := gh.trans n1.same
  refine ⟨_, rfl, _, _, rfl, HasL.lenV (hl.up g1), _, _, rfl, rfl, _, rfl, ite2 (fun c => ?_) (fun c => ?_)⟩
  · have c : (24 : Int) < ((xs.length : Nat) : Int) := dec_of c
    unfold ptsB at q
    rw [decide_eq_false (by omega), Bool.false_and] at q
    exact q H1 n1.same
  have c : ¬ (24 : Int) < ((xs.length : Nat) : Int) := dec_not c
  unfold ptsB at q
  rw [decide_eq_true (by omega), Bool.true_and] at q
  refine or_walkS rfl hl g1 fun J wk l hlf => ?_
  refine loopW wk (fun j H' => Same H1 H' ∧ H' l = some (.lst (((ds.take j).map fun d => isNum d 0 (n - 1)).map V.bl))) ?_ ?_ ?_ ?_
  · exact ⟨New.same (o := .lst []) ⟨hlf, rfl⟩, upd_same⟩
  · rintro j H' ⟨g2, -⟩
    exact g1.trans g2
  · rintro j x H2 hj ⟨g2, hz⟩
    obtain ⟨e, he, hde⟩ := dx.get hj
    refine ⟨rfl, yesT ⟨_, rfl, _, rfl, x, e, n, rfl, hde.up (g1.trans g2), _, hz, ?_, same_mut g2 hlf rfl, ?_⟩⟩
    · rw [List.length_map, List.length_map, List.length_take]
      exact Hd.lt (by omega)
    · rw [upd_same, List.take_add_one, he, List.map_append, List.map_append]
      rfl
  · rintro H2 ⟨g2, hz⟩
    rw [List.take_of_length_le (by omega)] at hz
    refine ⟨l, _, rfl, .of hz, ?_⟩
    have ea : (ds.map fun d => isNum d 0 (n - 1)).all id = ds.all fun d => isNum d 0 (n - 1) := by rw [List.all_map]; rfl
    rw [ea]
    exact q H2 (n1.same.trans g2)
def spIsTup : Sp := fun vs H Q _ => ∃ (G : Hp) (v : V) (d : PyData) (n : Int), vs = [.int n, v] ∧ Same G H ∧ Da G v d ∧ ∀ H', Same H H' → Q (.bl (tupB n d)) H'
theorem ok_is_tuple_of (Z : Zs mg) (D : Ds K mg) (c_is_row_of : Cal P w K mg base "is_row_of" 3 ["points", "value"] spIsRow) : Cal P w K mg base "is_tuple_of" 4 ["points", "value"] spIsTup := by
  refine Def.cal D.d_is_tuple_of sc_is_tuple_of (fun vs H Q E h => ?_) (fun f cdv A outer s H vs Q E hr h => ?_)
  · obtain ⟨G, v, d, n, rfl, gh, hd, q⟩ := h
    rfl
  obtain ⟨G, v, d, n, rfl, gh, hd, q⟩ := h
  refine ⟨_, (pss_one (ps_ret (pe_and (pe_callB call_isD (by rfl) Z.z_isinstance (by decide +kernel) (pa_cons (pv 1) (pa_cons (pe_bltn (v := .ty "tuple") (by rfl) Z.z_tuple (by decide +kernel) rfl) pa_nil))) (pe_one (pe_cal c_is_row_of (hr.mono (by first | decide | omega)) (by rfl) (pa_cons (pv 0) (pa_cons (pv 1) pa_nil))))))), ?_⟩
  refine ⟨_, rfl, v, d, "tuple", rfl, hd.up gh, ok_tuple, _, rfl, ?_⟩
  rcases hd.kind2 with ⟨fl, h1, h2⟩ | ⟨a, xs, ds, t, rfl, ha, dx, rfl⟩
  · rw [h2]
    rw [(rowB_flat n fl).2] at q
    exact iteF (q H (Same.refl _))
  cases t with
  | true =>
    refine iteBT (ib_tuple_tuple ds) ⟨_, rfl, _, rfl, G, _, _, n, rfl, gh, hd, fun H' s => q H' s⟩
  | false =>
    rw [show instB (sqD false ds) "tuple" = false from ib_list_tuple ds]
    exact iteF (q H (Same.refl _))
def spTFR (C : Addr) : Sp := fun vs H Q _ => ∃ (G : Hp) (x a : Addr) (n : Int) (T L : List (List Int)) (rs : List Int), vs = [.ref x, .ref a] ∧ Same G H ∧ WAt C G x n T L ∧ WOk n T L ∧ HasL G a (rs.map V.int) ∧ (∀ r ∈ rs, inR n r) ∧ rs.length ≤ 24 ∧ ∀ H', Same H H' → Q (.bl (decide (lsx rs L = []) && decide ((holdL rs L).length = 1))) H'
theorem yes_ptn {n r : Int} (h : inR n r) : isNum (.int r) 0 (n - 1) = true := by
  show (decide (0 ≤ r) && decide (r ≤ n - 1)) = true
  rw [decide_eq_true h.1, decide_eq_true (p := r ≤ n - 1) (by have := h.2; omega)]
  rfl
theorem ints_row {n : Int} {rs : List Int} (inr : ∀ r ∈ rs, inR n r) (l : rs.length ≤ 24) : ptsB n (rs.map PyData.int) = true := by
  unfold ptsB
  rw [List.length_map, decide_eq_true l, Bool.true_and, List.all_eq_true]
  intro d hd
  obtain ⟨r, hr, rfl⟩ := List.mem_map.mp hd
  exact yes_ptn (inr r hr)
theorem ok_is_tfr {CW DP DT : Addr} (Z : Zs mg) (D : Ds K mg) (W : Dw K mg CW) (c_World_points : CalP P w K mg base CW "points" 1 ["self"] (spPoints CW)) (c_is_row_of : Cal P w K mg base "is_row_of" 3 ["points", "value"] spIsRow) (c_is_tight : CalX P w K mg base "is_tight" 7 ["world", "row"] (spTight K CW DP DT)) (c_is_full : CalX P w K mg base "is_full" 6 ["world", "row"] (spFull K CW DP DT)) : Cal P w K mg base "is_tight_full_row" 8 ["world", "value"] (spTFR CW) := by
  refine Def.cal D.d_is_tight_full_row sc_is_tight_full_row (fun vs H Q E h => ?_) (fun f cdv A outer s H vs Q E hr h => ?_)
  · obtain ⟨G, x, a, n, T, L, rs, rfl, gh, wat, ok, ha, inr, lr, q⟩ := h
    rfl
  obtain ⟨G, x, a, n, T, L, rs, rfl, gh, wat, ok, ha, inr, lr, q⟩ := h
  refine ⟨_, (pss_one (ps_ret (pe_and (pe_cal c_is_row_of (hr.mono (by first | decide | omega)) (by rfl) (pa_cons (pe_propQ W.wc c_World_points (hr.mono (by first | decide | omega)) (pv 0)) (pa_cons (pv 1) pa_nil))) (pe_and (pe_calQ c_is_tight (hr.mono (by first | decide | omega)) (by rfl) (pa_cons (pv 0) (pa_cons (pv 1) pa_nil))) (pe_one (pe_calQ c_is_full (hr.mono (by first | decide | omega)) (by rfl) (pa_cons (pv 0) (pa_cons (pv 1) pa_nil)))))))), ?_⟩
  obtain ⟨dx0, ml, tl, ms, ts, h1, h2, h3, h4, h5⟩ := id wat
  obtain ⟨t, hat⟩ : ∃ t : Bool, G a = some (if t then HO.tup (rs.map V.int) else HO.lst (rs.map V.int)) := ha.elim (fun h => ⟨false, h⟩) fun h => ⟨true, h⟩
  refine ⟨_, rfl, x, dx0, _, rfl, gh _ _ h1, G, x, n, T, L, rfl, gh, wat, _, rfl, G, .ref a, if t then .tuple (rs.map PyData.int) else .list (rs.map PyData.int), n, rfl, gh, Da.of_if hat (DaAll.ints rs), fun H1 s1 => ?_⟩
  have e1 : rowB n (if t then .tuple (rs.map PyData.int) else .list (rs.map PyData.int)) = true := by
    cases t with
    | true => exact ints_row inr lr
    | false => exact ints_row inr lr
  rw [e1]
  refine ⟨_, rfl, iteT ⟨_, rfl, _, rfl, G, x, a, n, T, L, _, _, rfl, gh.trans s1, wat, ok, .inl (ha.up (gh.trans s1)), DaAll.ints rs, rowJ_good inr lr fun H2 s2 => ⟨_, rfl, ite2 (fun c => ?_) (fun c => ?_)⟩⟩⟩
  · rw [c, Bool.true_and] at q
    exact ⟨_, rfl, _, rfl, G, x, a, n, T, L, _, _, rfl, gh.trans (s1.trans s2), wat, ok, .inl (ha.up (gh.trans (s1.trans s2))), DaAll.ints rs, rowJ_good inr lr fun H3 s3 => q H3 ((s1.trans s2).trans s3)⟩
  · rw [Bool.eq_false_iff.mpr c, Bool.false_and] at q
    exact q H2 (s1.trans s2)


/-- the rows of a proposal, and its index -/
def lsAt (bs : List Int) (L : List (List Int)) (c : PyData) : Bool := match c with
  | .int i => decide (i ∈ lsx bs L)
  | _ => false
/-- what is_bad_order answers of its three parts -/
def badC (n : Int) (L : List (List Int)) (as bs : List PyData) (c : PyData) : Bool :=
  ptsB n as && ptsB n bs && (decide (lsx (intsOf as) L = []) && decide ((holdL (intsOf as) L).length = 1)) && decide ((intsOf as).Perm (intsOf bs)) && isNum c 0 ((bs.length : Nat) - 1) && lsAt (intsOf bs) L c
def badB (n : Int) (L : List (List Int)) (d : PyData) : Bool := match d with
  | .tuple [.tuple as, .tuple bs, c] => badC n L as bs c
  | _ => false
theorem bad_len {n : Int} {L : List (List Int)} {ds : List PyData} (h : ds.length ≠ 3) : badB n L (.tuple ds) = false := by
  unfold badB
  split
  · rename_i as bs c e
    injection e with e
    subst e
    exact absurd rfl h
  · rfl
theorem bad_flat {v : V} {d : PyData} (n : Int) (L : List (List Int)) (h : Flat v d) : badB n L d = false := by
  rcases h with ⟨rfl, rfl⟩ | ⟨b, rfl, rfl⟩ | ⟨i, rfl, rfl⟩ | ⟨x, rfl, rfl⟩ <;> rfl
theorem bad_row {n : Int} {L : List (List Int)} {a b c : PyData} (h : tupB n a = false ∨ tupB n b = false) : badB n L (.tuple [a, b, c]) = false := by
  unfold badB
  split
  · rename_i as bs c' e
    injection e with e
    injection e with e1 e
    injection e with e2 e
    subst e1 e2
    unfold badC
    rcases h with h | h
    · rw [show ptsB n as = false from h]
      rfl
    · rw [show ptsB n bs = false from h, Bool.and_false]
      rfl
  · rfl
theorem tup_ints {G : Hp} {n : Int} {v : V} {d : PyData} (hd : Da G v d) (h : tupB n d = true) : ∃ (a : Addr) (rs : List Int), v = .ref a ∧ d = .tuple (rs.map PyData.int) ∧ G a = some (.tup (rs.map V.int)) ∧ (∀ r ∈ rs, inR n r) ∧ rs.length ≤ 24 := by
  cases d with
  | tuple ds =>
    have h : ptsB n ds = true := h
    unfold ptsB at h
    rw [Bool.and_eq_true, decide_eq_true_eq] at h
    obtain ⟨a, xs, rfl, ha, dx⟩ := da_tup hd
    have ed := ints_isNum h.2
    have l := h.1
    refine ⟨a, intsOf ds, rfl, by rw [← ed], ?_, fun r hr => ?_, ?_⟩
    · rw [ed] at dx
      rw [vals_int dx] at ha
      exact ha
    · have := List.all_eq_true.mp h.2 (.int r) (by rw [ed]; exact List.mem_map_of_mem hr)
      have this : (decide (0 ≤ r) && decide (r ≤ n - 1)) = true := this
      rw [Bool.and_eq_true, decide_eq_true_eq, decide_eq_true_eq] at this
      exact ⟨this.1, by omega⟩
    · have := congrArg List.length ed
      rw [List.length_map] at this
      omega
  | _ => cases h
theorem intsOf_ints : ∀ rs : List Int, intsOf (rs.map PyData.int) = rs
  | [] => rfl
  | r :: rs => by
    have := intsOf_ints rs
    show r :: intsOf (rs.map PyData.int) = _
    rw [this]
theorem perm_sort {as bs ms ns : List Int} (h1 : ms.Perm as) (s1 : ms.Pairwise (· ≤ ·)) (h2 : ns.Perm bs) (s2 : ns.Pairwise (· ≤ ·)) : decide (ms = ns) = decide (as.Perm bs) := by
  refine decide_eq_decide.mpr ⟨fun e => ?_, fun p => ?_⟩
  · subst e
    exact h1.symm.trans h2
  · exact List.Perm.eq_of_pairwise (fun a b _ _ h k => Int.le_antisymm h k) s1 s2 ((h1.trans p).trans h2.symm)


def spBad (C : Addr) : Sp := fun vs H Q _ => ∃ (G : Hp) (x : Addr) (v : V) (d : PyData) (n : Int) (T L : List (List Int)), vs = [.ref x, v] ∧ Same G H ∧ WAt C G x n T L ∧ WOk n T L ∧ Da G v d ∧ ∀ H', Same H H' → Q (.bl (badB n L d)) H'
theorem ok_is_bad_order {CW DP DT : Addr} (Z : Zs mg) (D : Ds K mg) (W : Dw K mg CW) (c_World_points : CalP P w K mg base CW "points" 1 ["self"] (spPoints CW)) (c_is_tuple_of : Cal P w K mg base "is_tuple_of" 4 ["points", "value"] spIsTup) (c_is_tight_full_row : Cal P w K mg base "is_tight_full_row" 8 ["world", "value"] (spTFR CW)) (c_is_number : Cal P w K mg base "is_number" 1 ["value", "low", "high"] spIsNum) (c_loose_indexes : CalX P w K mg base "loose_indexes" 6 ["world", "row"] (spLoose K CW DP DT)) : Cal P w K mg base "is_bad_order" 9 ["world", "value"] (spBad CW) := by
  refine Def.cal D.d_is_bad_order sc_is_bad_order (fun vs H Q E h => ?_) (fun f cdv A outer s H vs Q E hr h => ?_)
  · obtain ⟨G, x, v, d, n, T, L, rfl, gh, wat, ok, hd, q⟩ := h
    rfl
  obtain ⟨G, x, v, d, n, T, L, rfl, gh, wat, ok, hd, q⟩ := h
  refine ⟨_, (pss_cons (ps_if (PW.pt (pw_or (pt_not (pt_val (pe_callB call_isD (by rfl) Z.z_isinstance (by decide +kernel) (pa_cons (pv 1) (pa_cons (pe_bltn (v := .ty "tuple") (by rfl) Z.z_tuple (by decide +kernel) rfl) pa_nil))))) (pw_or1 (pt_cmp (pc_neI (pe_callB call_len_seq (by rfl) Z.z_len (by decide +kernel) (pa_cons (pv 1) pa_nil)) pe_int) (nomark _))))) (pss_one (ps_ret pe_bl)) pss_nil)
      (pss_cons (ps_asg (pv 1) (pg_tup rfl (pgs_cons (pg_name (i := 2) sc_is_bad_order.nd rfl (Or.inl rfl)) (pgs_cons (pg_name (i := 3) sc_is_bad_order.nd rfl (Or.inl rfl)) (pgs_cons (pg_name (i := 4) sc_is_bad_order.nd rfl (Or.inl rfl)) pgs_nil)))))
      (pss_cons (ps_if (PW.pt (pw_or (pt_not (pt_val (pe_cal c_is_tuple_of (hr.mono (by first | decide | omega)) (by rfl) (pa_cons (pe_propQ W.wc c_World_points (hr.mono (by first | decide | omega)) (pv 0)) (pa_cons (pv 2) pa_nil))))) (pw_or1 (pt_not (pt_val (pe_cal c_is_tuple_of (hr.mono (by first | decide | omega)) (by rfl) (pa_cons (pe_propQ W.wc c_World_points (hr.mono (by first | decide | omega)) (pv 0)) (pa_cons (pv 3) pa_nil)))))))) (pss_one (ps_ret pe_bl)) pss_nil)
      (pss_cons (ps_if (PW.pt (pw_or (pt_not (pt_val (pe_cal c_is_tight_full_row (hr.mono (by first | decide | omega)) (by rfl) (pa_cons (pv 0) (pa_cons (pv 2) pa_nil))))) (pw_or1 (pt_cmpR (op_neLI hr.units) (pe_callB call_sortT (by rfl) Z.z_sorted (by decide +kernel) (pa_cons (pv 2) pa_nil)) (pe_callB call_sortT (by rfl) Z.z_sorted (by decide +kernel) (pa_cons (pv 3) pa_nil)) (nomark _))))) (pss_one (ps_ret pe_bl)) pss_nil)
      (pss_one (ps_ret (pe_and (pe_cal c_is_number (hr.mono (by first | decide | omega)) (by rfl) (pa_cons (pv 4) (pa_cons pe_int (pa_cons (pe_op op_sub (pe_callB call_len_seq (by rfl) Z.z_len (by decide +kernel) (pa_cons (pv 3) pa_nil)) pe_int) pa_nil)))) (pe_one (pe_cmpR op_in_seq (pv 4) (pe_calQ c_loose_indexes (hr.mono (by first | decide | omega)) (by rfl) (pa_cons (pv 0) (pa_cons (pv 3) pa_nil))) (by with_unfolding_all rfl)))))))))), ?_⟩
  obtain ⟨dx0, ml, tl, ms, ts, h1, h2, h3, h4, h5⟩ := id wat
  refine ⟨_, rfl, v, d, "tuple", rfl, hd.up gh, ok_tuple, _, rfl, ?_⟩
  rcases hd.kind2 with ⟨fl, i1, i2⟩ | ⟨a, xs, ds, t, rfl, ha, dx, rfl⟩
  · refine iteBT (by rw [i2]; rfl) (iteT ?_)
    rw [bad_flat n L fl] at q
    exact q H (Same.refl _)
  cases t with
  | false => exact iteBT (by rw [show instB (sqD false ds) "tuple" = false from ib_list_tuple ds]; rfl) (iteT (q H (Same.refl _)))
  | true =>
  have q : ∀ H', Same H H' → Q (.bl (badB n L (.tuple ds))) H' := q
  refine iteBF (by rw [show instB (sqD true ds) "tuple" = true from ib_tuple_tuple ds]; rfl) ?_
  have ha : G a = some (.tup xs) := ha
  have lx := dx.length
  refine ⟨_, rfl, a, _, rfl, .inr (.of (gh _ _ ha)), _, _, rfl, rfl, _, rfl, ite2 (fun c => ?_) (fun c => ?_)⟩
  · have c : ¬ ((xs.length : Nat) : Int) = 3 := nd_of c
    rw [bad_len (by omega)] at q
    exact q H (Same.refl _)
  have c : ((xs.length : Nat) : Int) = 3 := nd_not c
  obtain ⟨d1, d2, d3, rfl⟩ : ∃ a b c, ds = [a, b, c] := by
    match ds, (by omega : ds.length = 3) with
    | [a, b, c], _ => exact ⟨a, b, c, rfl⟩
  obtain ⟨v1, v2, v3, rfl, hd1, hd2, hd3⟩ : ∃ a b c, xs = [a, b, c] ∧ Da G a d1 ∧ Da G b d2 ∧ Da G c d3 := by
    cases dx with
    | cons h1 dx => cases dx with
      | cons h2 dx => cases dx with
        | cons h3 dx =>
          cases dx
          exact ⟨_, _, _, rfl, h1, h2, h3⟩
  refine ⟨_, rfl, a, _, rfl, .of (gh _ _ ha), rfl, _, _, rfl, _, _, rfl, _, _, rfl, rfl, ?_⟩
  refine ⟨_, rfl, x, dx0, _, rfl, gh _ _ h1, G, x, n, T, L, rfl, gh, wat, _, rfl, G, v1, d1, n, rfl, gh, hd1, fun H1 s1 => ⟨_, rfl, ?_⟩⟩
  have g1 := gh.trans s1
  cases t1 : tupB n d1 with
  | false =>
    rw [bad_row (.inl t1)] at q
    exact iteBT rfl (iteT (q H1 s1))
  | true =>
  refine iteBF rfl ?_
  refine ⟨_, rfl, x, dx0, _, rfl, g1 _ _ h1, G, x, n, T, L, rfl, g1, wat, _, rfl, G, v2, d2, n, rfl, g1, hd2, fun H2 s2 => ⟨_, rfl, ?_⟩⟩
  have S2 := s1.trans s2
  have g2 := gh.trans S2
  cases t2 : tupB n d2 with
  | false =>
    rw [bad_row (.inr t2)] at q
    exact iteBT rfl (q H2 S2)
  | true =>
  refine iteBF rfl ?_
  obtain ⟨a1, rs, rfl, rfl, ha1, inr, lr⟩ := tup_ints hd1 t1
  obtain ⟨a2, ss, rfl, rfl, ha2, ins, ls⟩ := tup_ints hd2 t2
  have q : ∀ H', Same H H' → Q (.bl (ptsB n (rs.map PyData.int) && ptsB n (ss.map PyData.int) && (decide (lsx (intsOf (rs.map PyData.int)) L = []) && decide ((holdL (intsOf (rs.map PyData.int)) L).length = 1)) && decide ((intsOf (rs.map PyData.int)).Perm (intsOf (ss.map PyData.int))) && isNum d3 0 (((ss.map PyData.int).length : Nat) - 1) && lsAt (intsOf (ss.map PyData.int)) L d3)) H' := q
  rw [ints_row inr lr, ints_row ins ls, intsOf_ints, intsOf_ints, Bool.true_and, Bool.true_and, List.length_map] at q
  refine ⟨_, rfl, _, rfl, G, x, a1, n, T, L, rs, rfl, g2, wat, ok, .inr ha1, inr, lr, fun H3 s3 => ⟨_, rfl, ?_⟩⟩
  have S3 := S2.trans s3
  have g3 := gh.trans S3
  cases tf : (decide (lsx rs L = []) && decide ((holdL rs L).length = 1)) with
  | false =>
    rw [tf] at q
    exact iteBT rfl (iteT (q H3 S3))
  | true =>
  rw [tf, Bool.true_and] at q
  refine iteBF rfl ?_
  refine ⟨_, rfl, a1, rs, rfl, .of (g3 _ _ ha1), fun ns p1 H4 pm1 so1 n4 => ⟨_, rfl, a2, ss, rfl, .of (n4.else (g3 _ _ ha2)), fun ms' p2 H5 pm2 so2 n5 => ⟨p1, p2, ns, ms', rfl, rfl, .of (n5.else n4.at), .of n5.at, _, rfl, ?_⟩⟩⟩
  have S5 := (S3.trans n4.same).trans n5.same
  have g5 := gh.trans S5
  rw [perm_sort pm1 so1 pm2 so2]
  cases pe : decide (rs.Perm ss) with
  | false =>
    rw [pe] at q
    exact iteBT rfl (q H5 S5)
  | true =>
  rw [pe, Bool.true_and] at q
  refine iteBF rfl ?_
  refine ⟨_, rfl, _, rfl, a2, _, rfl, .inr (.of (g5 _ _ ha2)), _, _, rfl, rfl, v3, d3, 0, _, rfl, hd3.up g5, _, rfl, ?_⟩
  rw [List.length_map]
  cases isn : isNum d3 0 ((ss.length : Nat) - 1) with
  | false =>
    rw [isn] at q
    exact iteF (q H5 S5)
  | true =>
  rw [isn, Bool.true_and] at q
  obtain ⟨i, rfl⟩ : ∃ i, d3 = .int i := by
    cases d3 with
    | int i => exact ⟨i, rfl⟩
    | _ => cases isn
  cases hd3
  refine iteT ⟨_, rfl, _, rfl, _, rfl, G, x, a2, n, T, L, _, _, rfl, g5, wat, ok, .inl (.inr (g5 _ _ ha2)), DaAll.ints ss, rowJ_good ins ls fun p G1 H6 s6 kp => ?_⟩
  refine ⟨p, _, rfl, .inr (.of (s6.gh _ _ kp)), rfl, flat_ints _, ?_⟩
  rw [inV_ints]
  exact q H6 (S5.trans s6.hh)


theorem full_one {n : Int} {T L : List (List Int)} (ok : WOk n T L) {rs : List Int} (inr : ∀ r ∈ rs, inR n r) : decide ((holdL rs L).length = 1) = decide (opL n rs L = []) := by
  refine decide_eq_decide.mpr ⟨fun h => ?_, fun h => ?_⟩
  · have still := hold_still ok inr
    cases eo : opL n rs L with
    | nil => rfl
    | cons k r =>
      exfalso
      obtain ⟨ik, w, hw, ne⟩ := opL_mem.mp (by rw [eo]; exact List.mem_cons_self : k ∈ opL n rs L)
      match hl : holdL rs L, h with
      | [u], _ =>
        rw [hl, List.mem_singleton] at still hw
        rw [hw, ← still] at ne
        exact ne (stp_rng ik)
  · have all : ∀ w ∈ holdL rs L, w = rngI n := fun w hw => by
      have mw : IsMv w n := made_mv ok.n0 ok.mv ((ok.grp.mem w).mp (holdL_sub hw))
      refine (mv_ext mw (L := rngI n) (by rw [rng_mv.len]) fun k hk => ?_).symm
      have ik : inR n (k : Int) := ⟨by omega, hk⟩
      rw [opL_all h ik hw, (stp_nat rng_mv hk).1, stp_rng ik]
    have nd : (holdL rs L).Nodup := List.Pairwise.filter _ ok.grp.asc.nodup
    have le := len_sub (L := [rngI n]) nd fun w hw => List.mem_singleton.mpr (all w hw)
    have := List.length_pos_of_mem (hold_still ok inr)
    have e1 : ([rngI n] : List (List Int)).length = 1 := rfl
    omega
theorem num_not {c : PyData} (lo hi : Int) (h : isI c = false) : isNum c lo hi = false := by
  cases c with
  | int i => cases h
  | _ => rfl
theorem bad_two {n : Int} {L : List (List Int)} {a b c : PyData} (h : (∀ as, a ≠ .tuple as) ∨ (∀ bs, b ≠ .tuple bs)) : badB n L (.tuple [a, b, c]) = false := by
  unfold badB
  split
  · rename_i as bs c' e
    injection e with e
    injection e with e1 e
    injection e with e2 e
    exact h.elim (fun h => absurd e1 (h as)) fun h => absurd e2 (h bs)
  · rfl
theorem badC_idx {n : Int} {L : List (List Int)} {as bs : List PyData} {c : PyData} (h : isNum c 0 ((bs.length : Nat) - 1) = false) : badC n L as bs c = false := by
  unfold badC
  rw [h, Bool.and_false, Bool.false_and]
theorem badC_pts {n : Int} {L : List (List Int)} {as bs : List PyData} {c : PyData} {e : PyData} (he : e ∈ as ++ bs) (h : isNum e 0 (n - 1) = false) : badC n L as bs c = false := by
  have no : ∀ ds : List PyData, e ∈ ds → ptsB n ds = false := fun ds hd => by
    unfold ptsB
    cases a : ds.all fun e => isNum e 0 (n - 1) with
    | false => rw [Bool.and_false]
    | true =>
      have := List.all_eq_true.mp a e hd
      rw [h] at this
      cases this
  unfold badC
  rcases List.mem_append.mp he with he | he
  · rw [no as he]
    rfl
  · rw [no bs he, Bool.and_false]
    rfl
/-- the answer where all entries are points -/
def badI (n : Int) (L : List (List Int)) (rs ss : List Int) (c : PyData) : Bool := decide (lsx rs L = []) && decide (opL n rs L = []) && decide (rs.Perm ss) && isNum c 0 ((ss.length : Nat) - 1) && lsAt ss L c
theorem badC_ints {n : Int} {T L : List (List Int)} (ok : WOk n T L) {rs ss : List Int} (inr : ∀ r ∈ rs, inR n r) (ins : ∀ r ∈ ss, inR n r) (c : PyData) : badC n L (rs.map PyData.int) (ss.map PyData.int) c = badI n L rs ss c := by
  unfold badC badI
  rw [intsOf_ints, intsOf_ints, full_one ok inr, List.length_map]
  cases h1 : decide (lsx rs L = []) with
  | false => simp only [Bool.false_and, Bool.and_false]
  | true =>
    have nd := tight_nodup (of_decide_eq_true h1)
    have l := inR_len ok.n12 nd inr
    rw [ints_row inr (by omega), Bool.true_and]
    cases h2 : decide (rs.Perm ss) with
    | false => simp only [Bool.false_and, Bool.and_false]
    | true =>
      have := (of_decide_eq_true h2).length_eq
      rw [ints_row ins (by omega), Bool.true_and]
theorem loose_tight {ss : List Int} {L : List (List Int)} {i : Int} (i0 : 0 ≤ i) (il : i < (ss.length : Int)) : (!decide (i ∈ tgx ss L)) = decide (i ∈ lsx ss L) := by
  obtain ⟨k, rfl⟩ := Int.eq_ofNat_of_zero_le i0
  have kl : k < ss.length := by omega
  rw [mem_tgx kl, Bool.not_not]
  have : (k : Int) ∈ lsx ss L ↔ lsB ss L k = true := by
    unfold lsx
    rw [pts_mem, Int.toNat_natCast]
    exact ⟨fun h => h.2.2, fun h => ⟨by omega, kl, h⟩⟩
  cases e : lsB ss L k with
  | true => exact (decide_eq_true (this.mpr e)).symm
  | false => exact (decide_eq_false fun z => by rw [this.mp z] at e; cases e).symm
def spIsOrd : Sp := fun vs H Q _ => ∃ (G : Hp) (m : Addr) (v : V) (d : PyData) (n : Int) (ms : List V) (T L : List (List Int)), vs = [.int n, .ref m, v] ∧ Same G H ∧ WOk n T L ∧ G m = some (.lst ms) ∧ DaAll G ms (L.map rowD) ∧ Da G v d ∧ szD d ≤ 500 ∧ ∀ H', Same H H' → Q (.bl (badB n L d)) H'
theorem ok_is_order (Z : Zs mg) (D : Ds K mg) (c__law_is_whole : Cal P w K mg base "_law_is_whole" 1 ["value"] spIsWhole) (c__law_row_fault__b : Cal P w K mg base "_law_row_fault" 2 ["points", "made", "row"] spFaultB) (c__law_tight_at__b : Cal P w K mg base "_law_tight_at" 1 ["made", "row"] (spTightAtB K)) : Cal P w K mg base "_law_is_order" 3 ["points", "made", "value"] spIsOrd := by
  refine Def.cal D.d_law_is_order sc_law_is_order (fun vs H Q E h => ?_) (fun f cdv A outer s H vs Q E hr h => ?_)
  · obtain ⟨G, m, v, d, n, ms, T, L, rfl, gh, ok, gm, dm, hd, sz, q⟩ := h
    rfl
  obtain ⟨G, m, v, d, n, ms, T, L, rfl, gh, ok, gm, dm, hd, sz, q⟩ := h
  refine ⟨_, (pss_cons (ps_if (PW.pt (pw_or (pt_not (pt_val (pe_callB call_isD (by rfl) Z.z_isinstance (by decide +kernel) (pa_cons (pv 2) (pa_cons (pe_bltn (v := .ty "tuple") (by rfl) Z.z_tuple (by decide +kernel) rfl) pa_nil))))) (pw_or1 (pt_cmp (pc_neI (pe_callB call_len_seq (by rfl) Z.z_len (by decide +kernel) (pa_cons (pv 2) pa_nil)) pe_int) (nomark _))))) (pss_one (ps_ret pe_bl)) pss_nil)
      (pss_cons (ps_set (i := 3) sc_law_is_order.nd rfl (Or.inl rfl) (pe_ix ix_tup (pv 2) pe_int (fun _ _ => rfl)))
      (pss_cons (ps_set (i := 4) sc_law_is_order.nd rfl (Or.inl rfl) (pe_ix ix_tup (pv 2) pe_int (fun _ _ => rfl)))
      (pss_cons (ps_if (PW.pt (pw_or (pt_not (pt_val (pe_callB call_isD (by rfl) Z.z_isinstance (by decide +kernel) (pa_cons (pv 3) (pa_cons (pe_bltn (v := .ty "tuple") (by rfl) Z.z_tuple (by decide +kernel) rfl) pa_nil))))) (pw_or (pt_not (pt_val (pe_callB call_isD (by rfl) Z.z_isinstance (by decide +kernel) (pa_cons (pv 4) (pa_cons (pe_bltn (v := .ty "tuple") (by rfl) Z.z_tuple (by decide +kernel) rfl) pa_nil))))) (pw_or1 (pt_not (pt_val (pe_cal c__law_is_whole (hr.mono (by first | decide | omega)) (by rfl) (pa_cons (pe_ix ix_tup (pv 2) pe_int (fun _ _ => rfl)) pa_nil)))))))) (pss_one (ps_ret pe_bl)) pss_nil)
      (pss_cons (ps_for PassesOwn.never rfl (pi_tup (pe_op op_catA (pv 3) (pv 4))) (pg_name (i := 5) sc_law_is_order.nd rfl (Or.inl rfl)) (pss_one (ps_if (PW.pt (pw_or (pt_not (pt_val (pe_cal c__law_is_whole (hr.mono (by first | decide | omega)) (by rfl) (pa_cons (pv 5) pa_nil)))) (pw_or (pt_cmp (pc_lt (pv 5) pe_int) (nomark _)) (pw_or1 (pt_cmp (pc_ge (pv 5) (pv 0)) (nomark _)))))) (pss_one (ps_ret pe_bl)) pss_nil)))
      (pss_cons (ps_if (PW.pt (pw_or (pt_cmpR op_notN (pe_cal c__law_row_fault__b (hr.mono (by first | decide | omega)) (by rfl) (pa_cons (pv 0) (pa_cons (pv 1) (pa_cons (pv 3) pa_nil)))) pe_non (nomark _)) (pw_or1 (pt_cmpR (op_neLI hr.units) (pe_callB call_sortT (by rfl) Z.z_sorted (by decide +kernel) (pa_cons (pv 3) pa_nil)) (pe_callB call_sortT (by rfl) Z.z_sorted (by decide +kernel) (pa_cons (pv 4) pa_nil)) (nomark _))))) (pss_one (ps_ret pe_bl)) pss_nil)
      (pss_cons (ps_if (PW.pt (pw_or (pt_cmp (pc_lt (pe_ix ix_tup (pv 2) pe_int (fun _ _ => rfl)) pe_int) (nomark _)) (pw_or1 (pt_cmp (pc_ge (pe_ix ix_tup (pv 2) pe_int (fun _ _ => rfl)) (pe_callB call_len_seq (by rfl) Z.z_len (by decide +kernel) (pa_cons (pv 4) pa_nil))) (nomark _))))) (pss_one (ps_ret pe_bl)) pss_nil)
      (pss_one (ps_ret (pe_cmpR op_notIn_seq (pe_ix ix_tup (pv 2) pe_int (fun _ _ => rfl)) (pe_cal c__law_tight_at__b (hr.mono (by first | decide | omega)) (by rfl) (pa_cons (pv 1) (pa_cons (pv 4) pa_nil))) (by with_unfolding_all rfl))))))))))), ?_⟩
  have mvL : AllMv n L := fun w hw => made_mv ok.n0 ok.mv ((ok.grp.mem w).mp hw)
  have lL := ok.lL
  refine ⟨_, rfl, v, d, "tuple", rfl, hd.up gh, ok_tuple, _, rfl, ?_⟩
  rcases hd.kind2 with ⟨fl, i1, i2⟩ | ⟨a, xs, ds, t, rfl, ha, dx, rfl⟩
  · refine iteBT (by rw [i2]; rfl) (iteT ?_)
    rw [bad_flat n L fl] at q
    exact q H (Same.refl _)
  cases t with
  | false => exact iteBT (by rw [show instB (sqD false ds) "tuple" = false from ib_list_tuple ds]; rfl) (iteT (q H (Same.refl _)))
  | true =>
  have q : ∀ H', Same H H' → Q (.bl (badB n L (.tuple ds))) H' := q
  refine iteBF (by rw [show instB (sqD true ds) "tuple" = true from ib_tuple_tuple ds]; rfl) ?_
  have ha : G a = some (.tup xs) := ha
  have lx := dx.length
  have haH := gh _ _ ha
  refine ⟨_, rfl, a, _, rfl, .inr (.of haH), _, _, rfl, rfl, _, rfl, ite2 (fun c => ?_) (fun c => ?_)⟩
  · have c : ¬ ((xs.length : Nat) : Int) = 3 := nd_of c
    rw [bad_len (by omega)] at q
    exact q H (Same.refl _)
  have c : ((xs.length : Nat) : Int) = 3 := nd_not c
  obtain ⟨d1, d2, d3, rfl⟩ : ∃ a b c, ds = [a, b, c] := by
    match ds, (by omega : ds.length = 3) with
    | [a, b, c], _ => exact ⟨a, b, c, rfl⟩
  obtain ⟨v1, v2, v3, rfl, hd1, hd2, hd3⟩ : ∃ a b c, xs = [a, b, c] ∧ Da G a d1 ∧ Da G b d2 ∧ Da G c d3 := by
    cases dx with
    | cons h1 dx => cases dx with
      | cons h2 dx => cases dx with
        | cons h3 dx =>
          cases dx
          exact ⟨_, _, _, rfl, h1, h2, h3⟩
  clear c lx
  refine ⟨_, rfl, a, _, 0, _, rfl, rfl, .of haH, rfl, _, rfl, a, _, 1, _, rfl, rfl, .of haH, rfl, ?_⟩
  have tup : ∀ {v : V} {d : PyData}, Da G v d → (instB d "tuple" = false ∧ ∀ as, d ≠ .tuple as) ∨ (instB d "tuple" = true ∧ ∃ as, d = .tuple as) := fun {v d} h => by
    rcases h.kind2 with ⟨fl, i1, i2⟩ | ⟨a, xs, ds, t, rfl, ha, dx, rfl⟩
    · refine .inl ⟨i2, fun as e => ?_⟩
      rw [e, ib_tuple_tuple] at i2
      cases i2
    · cases t with
      | true => exact .inr ⟨ib_tuple_tuple ds, ds, rfl⟩
      | false => exact .inl ⟨ib_list_tuple ds, fun as e => by cases e⟩
  refine ⟨_, rfl, v1, d1, "tuple", rfl, hd1.up gh, ok_tuple, _, rfl, ?_⟩
  rcases tup hd1 with ⟨i1, no1⟩ | ⟨i1, as, rfl⟩
  · rw [bad_two (.inl no1)] at q
    exact iteBT (by rw [i1]; rfl) (iteT (q H (Same.refl _)))
  refine iteBF (by rw [i1]; rfl) ?_
  refine ⟨_, rfl, v2, d2, "tuple", rfl, hd2.up gh, ok_tuple, _, rfl, ?_⟩
  rcases tup hd2 with ⟨i2, no2⟩ | ⟨i2, bs, rfl⟩
  · rw [bad_two (.inr no2)] at q
    exact iteBT (by rw [i2]; rfl) (iteT (q H (Same.refl _)))
  refine iteBF (by rw [i2]; rfl) ?_
  have q : ∀ H', Same H H' → Q (.bl (badC n L as bs d3)) H' := q
  refine ⟨_, rfl, a, _, 2, _, rfl, rfl, .of haH, rfl, v3, d3, rfl, hd3.up gh, _, rfl, ?_⟩
  cases ic : isI d3 with
  | false =>
    rw [badC_idx (num_not _ _ ic)] at q
    exact iteBT rfl (q H (Same.refl _))
  | true =>
  refine iteBF rfl ?_
  obtain ⟨i, rfl⟩ : ∃ i, d3 = .int i := by
    cases d3 with
    | int i => exact ⟨i, rfl⟩
    | _ => cases ic
  cases hd3
  obtain ⟨a1, xs1, rfl, ha1, dx1⟩ := da_tup hd1
  obtain ⟨a2, xs2, rfl, ha2, dx2⟩ := da_tup hd2
  have lx1 := dx1.length
  have lx2 := dx2.length
  have sz2 : as.length ≤ 500 ∧ bs.length ≤ 500 := by
    have sz : szD (.tuple [.tuple as, .tuple bs, .int i]) ≤ 500 := sz
    have e : szD (.tuple [.tuple as, .tuple bs, .int i]) = 1 + ((1 + szL as) + ((1 + szL bs) + (szD (.int i) + 0))) := rfl
    have := szL_len as
    have := szL_len bs
    omega
  refine ⟨_, rfl, _, rfl, catR_ok (gh _ _ ha1) (gh _ _ ha2) (by omega) fun p H1 s1 hp => ⟨p, rfl, ⟨_, .of hp⟩, for_tup (K := K) (a := p) (xs := xs1 ++ xs2) (fun j σ' H' => ∃ y5 : Option V, σ' = [some (.int n), some (.ref m), some (.ref a), some (.ref a1), some (.ref a2), y5] ∧ H' = H1 ∧ ∀ (k : Nat) e, k < j → (as ++ bs)[k]? = some e → isNum e 0 (n - 1) = true) ?_ ?_ ?_ ?_⟩⟩
  · exact ⟨none, rfl, rfl, fun k e h => absurd h (Nat.not_lt_zero k)⟩
  · rintro j σ' H' - ⟨y5, rfl, rfl, -⟩
    exact .of hp
  · rintro j x σ' H' hx ⟨y5, rfl, rfl, good⟩
    obtain ⟨e, he, de⟩ := (dx1.append dx2).get hx
    have no : isNum e 0 (n - 1) = false → Q (.bl false) H' := fun h => by
      have := q H' s1
      rwa [badC_pts (List.mem_of_getElem? he) h] at this
    refine ⟨_, rfl, x, e, rfl, (de.up gh).up s1, _, rfl, ?_⟩
    cases ie : isI e with
    | false => exact iteBT rfl (iteT (no (num_not _ _ ie)))
    | true =>
    refine iteBF rfl ?_
    obtain ⟨r, rfl⟩ : ∃ r, e = .int r := by
      cases e with
      | int r => exact ⟨r, rfl⟩
      | _ => cases ie
    cases de
    have num : isNum (.int r) 0 (n - 1) = (decide (0 ≤ r) && decide (r ≤ n - 1)) := rfl
    refine ⟨_, rfl, _, _, rfl, rfl, _, rfl, ite2 (fun c => iteT (no ?_)) (fun c => ⟨_, rfl, _, rfl, _, _, rfl, rfl, _, rfl, ite2 (fun c2 => no ?_) (fun c2 => ?_)⟩)⟩
    · have c : r < 0 := dec_of c
      rw [num, decide_eq_false (by omega), Bool.false_and]
    · have c2 : n ≤ r := dec_of c2
      rw [num, decide_eq_false (p := r ≤ n - 1) (by omega), Bool.and_false]
    · have c : ¬ r < 0 := dec_not c
      have c2 : ¬ n ≤ r := dec_not c2
      refine ⟨_, rfl, rfl, fun k e hk hke => ?_⟩
      rcases Nat.lt_or_ge k j with z | z
      · exact good k e z hke
      · obtain rfl : k = j := by omega
        rw [he] at hke
        cases hke
        rw [num, decide_eq_true (by omega), decide_eq_true (p := r ≤ n - 1) (by omega)]
        rfl
  rintro σ' H' ⟨y5, rfl, rfl, good⟩
  have all : ∀ e ∈ as ++ bs, isNum e 0 (n - 1) = true := fun e he => by
    obtain ⟨k, hk⟩ := List.getElem?_of_mem he
    have kl := (List.getElem?_eq_some_iff.mp hk).1
    exact good k e (by rw [List.length_append] at kl ⊢; omega) hk
  have row : ∀ {a : Addr} {xs : List V} {ds : List PyData}, G a = some (.tup xs) → DaAll G xs ds → (∀ e ∈ ds, isNum e 0 (n - 1) = true) → ∃ rs : List Int, ds = rs.map PyData.int ∧ G a = some (.tup (rs.map V.int)) ∧ ∀ r ∈ rs, inR n r := fun {a xs ds} ha dx h => by
    have ed := ints_isNum (List.all_eq_true.mpr h)
    refine ⟨intsOf ds, ed, ?_, fun r hr => ?_⟩
    · rw [ed] at dx
      rw [vals_int dx] at ha
      exact ha
    · have := h (.int r) (by rw [ed]; exact List.mem_map_of_mem hr)
      have this : (decide (0 ≤ r) && decide (r ≤ n - 1)) = true := this
      rw [Bool.and_eq_true, decide_eq_true_eq, decide_eq_true_eq] at this
      exact ⟨this.1, by omega⟩
  obtain ⟨rs, rfl, kr, inr⟩ := row ha1 dx1 fun e he => all e (List.mem_append_left _ he)
  obtain ⟨ss, rfl, ks, ins⟩ := row ha2 dx2 fun e he => all e (List.mem_append_right _ he)
  rw [List.length_map, List.length_map] at sz2
  rw [badC_ints ok inr ins] at q
  unfold badI at q
  have gh1 := gh.trans s1
  refine ⟨_, rfl, _, rfl, _, rfl, G, m, a1, n, ms, L, rs, rfl, gh1, ok.n0, ok.n12, gm, dm, mvL, by omega, .inr (gh1 _ _ kr), inr, by omega, fun v G2 H2 s2 dv => ⟨rfl, _, rfl, ?_⟩⟩
  have S2 := s1.trans s2.hh
  have gh2 := gh1.trans s2.hh
  rcases fault_cases n rs L with ⟨k, r, el, ef⟩ | ⟨e0, k, r, el, ef⟩ | ⟨e0, e1, ef⟩
  · rw [el] at q
    rw [ef] at dv
    obtain ⟨fa, xs, rfl, -⟩ := da_tup dv
    exact iteBT (by simp) (iteT (q H2 S2))
  · rw [el, Bool.and_assoc, Bool.and_assoc, Bool.and_assoc] at q
    rw [ef] at dv
    obtain ⟨fa, xs, rfl, -⟩ := da_tup dv
    rw [show decide (k :: r = []) = false from rfl, Bool.false_and, Bool.and_false] at q
    exact iteBT (by simp) (iteT (q H2 S2))
  rw [ef] at dv
  cases dv
  refine iteBF (by simp) ?_
  rw [decide_eq_true e0, decide_eq_true e1, Bool.true_and, Bool.true_and] at q
  have kr2 := gh2 _ _ kr
  have ks2 := gh2 _ _ ks
  refine ⟨_, rfl, a1, rs, rfl, .of kr2, fun ns p1 H4 pm1 so1 n4 => ⟨_, rfl, a2, ss, rfl, .of (n4.else ks2), fun ms' p2 H5 pm2 so2 n5 => ⟨p1, p2, ns, ms', rfl, rfl, .of (n5.else n4.at), .of n5.at, _, rfl, ?_⟩⟩⟩
  have S5 := (S2.trans n4.same).trans n5.same
  have g5 := gh.trans S5
  rw [perm_sort pm1 so1 pm2 so2]
  cases pe : decide (rs.Perm ss) with
  | false =>
    rw [pe] at q
    exact iteBT rfl (q H5 S5)
  | true =>
  rw [pe, Bool.true_and] at q
  refine iteBF rfl ?_
  have ha5 := g5 _ _ ha
  have num : isNum (.int i) 0 ((ss.length : Nat) - 1) = (decide (0 ≤ i) && decide (i ≤ ((ss.length : Nat) : Int) - 1)) := rfl
  rw [num] at q
  refine ⟨_, rfl, a, _, 2, _, rfl, rfl, .of ha5, rfl, _, _, rfl, rfl, _, rfl, ite2 (fun c => iteT ?_) (fun c => ⟨_, rfl, a, _, 2, _, rfl, rfl, .of ha5, rfl, _, rfl, a2, _, rfl, .inr (.of (g5 _ _ ks)), _, _, rfl, rfl, _, rfl, ite2 (fun c2 => ?_) (fun c2 => ?_)⟩)⟩
  · have c : i < 0 := dec_of c
    rw [decide_eq_false (by omega)] at q
    exact q H5 S5
  · have c2 : (((ss.map V.int).length : Nat) : Int) ≤ i := dec_of c2
    rw [List.length_map] at c2
    rw [decide_eq_false (p := i ≤ ((ss.length : Nat) : Int) - 1) (by omega), Bool.and_false] at q
    exact q H5 S5
  have c : ¬ i < 0 := dec_not c
  have c2 : ¬ (((ss.map V.int).length : Nat) : Int) ≤ i := dec_not c2
  rw [List.length_map] at c2
  rw [decide_eq_true (by omega), decide_eq_true (p := i ≤ ((ss.length : Nat) : Int) - 1) (by omega), Bool.true_and, Bool.true_and] at q
  refine ⟨_, rfl, a, _, 2, _, rfl, rfl, .of ha5, rfl, _, rfl, _, rfl, G, m, a2, n, ms, L, ss, rfl, g5, gm, dm, mvL, .inr (g5 _ _ ks), ins, by omega, fun tq H6 s6 g6 f6 h6 => ?_⟩
  refine ⟨tq, _, rfl, .inl (.of h6), rfl, flat_ints _, ?_⟩
  rw [inV_ints, loose_tight (by omega) (by omega)]
  exact q H6 (S5.trans s6.hh)


/-! ### dicts as a list of keys and what stands at each -/
section
variable {κ α : Type} [DecidableEq κ] [DecidableEq α]
def addK (ks : List α) (a : α) : List α := if a ∈ ks then ks else ks ++ [a]
theorem addK_mem {ks : List α} {a x : α} : x ∈ addK ks a ↔ x ∈ ks ∨ x = a := by
  unfold addK
  split
  · exact ⟨.inl, fun h => h.elim id fun e => e ▸ by assumption⟩
  · simp
theorem addK_nodup {ks : List α} {a : α} (h : ks.Nodup) : (addK ks a).Nodup := by
  unfold addK
  split
  · exact h
  · rename_i c
    rw [List.nodup_append]
    exact ⟨h, by simp, fun x hx y hy e => c (by rw [List.mem_singleton] at hy; rw [← hy, ← e]; exact hx)⟩
theorem enc_val {e : α → κ} (inj : ∀ a b, e a = e b → a = b) (g : α → V) (a : α) : ∀ ks : List α, valV (ks.map fun x => (e x, g x)) (e a) = if a ∈ ks then some (g a) else none
  | [] => by rw [List.map_nil, valV_nil, if_neg (by simp)]
  | b :: ks => by
    rw [List.map_cons]
    by_cases c : b = a
    · subst c
      rw [valV_pos rfl, if_pos List.mem_cons_self]
    · rw [valV_neg (fun z => c (inj _ _ z)), enc_val inj g a ks]
      have : (a ∈ b :: ks) ↔ a ∈ ks := by rw [List.mem_cons]; exact ⟨fun h => h.resolve_left fun z => c z.symm, .inr⟩
      by_cases d : a ∈ ks
      · rw [if_pos d, if_pos (this.mpr d)]
      · rw [if_neg d, if_neg fun z => d (this.mp z)]
theorem enc_put {e : α → κ} (inj : ∀ a b, e a = e b → a = b) (g : α → V) (ks : List α) (a : α) (v : V) : putK (ks.map fun x => (e x, g x)) (e a) v = (addK ks a).map fun x => (e x, if x = a then v else g x) := by
  unfold putK addK
  by_cases c : a ∈ ks
  · rw [if_pos c, if_pos (by rw [List.any_map, List.any_eq_true]; exact ⟨a, c, decide_eq_true rfl⟩), List.map_map]
    refine List.map_congr_left fun x _ => ?_
    show (if e x = e a then (e x, v) else (e x, g x)) = _
    by_cases d : x = a
    · rw [d, if_pos rfl, if_pos rfl]
    · rw [if_neg fun z => d (inj _ _ z), if_neg d]
  · rw [if_neg c, if_neg (by
      rw [List.any_map, List.any_eq_true]
      rintro ⟨x, hx, z⟩
      exact c (inj _ _ (of_decide_eq_true z) ▸ hx)), List.map_append]
    congr 1
    · refine List.map_congr_left fun x hx => ?_
      rw [if_neg fun z : x = a => c (z ▸ hx)]
    · rw [List.map_cons, List.map_nil, if_pos rfl]
def totW (ks : List α) (c W : α → Nat) : Nat := (ks.map fun x => c x * W x).sum
theorem totW_add {ks : List α} {c : α → Nat} (nd : ks.Nodup) {a : α} (m : Nat) (z : a ∉ ks → c a = 0) (W : α → Nat) : totW (addK ks a) (fun x => if x = a then c a + m else c x) W = totW ks c W + m * W a := by
  have out : ∀ ks : List α, a ∉ ks → totW ks (fun x => if x = a then c a + m else c x) W = totW ks c W := fun ks h => by
    unfold totW
    congr 1
    refine List.map_congr_left fun x hx => ?_
    show (if x = a then c a + m else c x) * W x = _
    rw [if_neg fun z : x = a => h (z ▸ hx)]
  unfold addK
  by_cases d : a ∈ ks
  · rw [if_pos d]
    clear z
    induction ks with
    | nil => cases d
    | cons b ks ih =>
      obtain ⟨nb, nd⟩ := List.nodup_cons.mp nd
      by_cases e : b = a
      · subst e
        have := out ks nb
        show (if b = b then c b + m else c b) * W b + totW ks _ W = c b * W b + totW ks c W + m * W b
        rw [this, if_pos rfl, Nat.add_mul]
        omega
      · have := ih nd ((List.mem_cons.mp d).resolve_left fun z => e z.symm)
        show (if b = a then c a + m else c b) * W b + totW ks _ W = c b * W b + totW ks c W + m * W a
        rw [this, if_neg e]
        omega
  · rw [if_neg d]
    have := out ks d
    unfold totW at this ⊢
    rw [List.map_append, List.sum_append, this]
    show _ + ((if a = a then c a + m else c a) * W a + 0) = _
    rw [if_pos rfl, z d, Nat.zero_add]
    rfl
end
/-! ### the orders, counted -/
/-- all of M hold p -/
def stuck (M : List (List Int)) (p : Int) : Bool := M.all fun w => decide (stp w p = p)
theorem stuck_iff {M : List (List Int)} {p : Int} : stuck M p = true ↔ ∀ w ∈ M, stp w p = p := by
  unfold stuck
  rw [List.all_eq_true]
  exact ⟨fun h w hw => of_decide_eq_true (h w hw), fun h w hw => decide_eq_true (h w hw)⟩
/-- how many ways k entries of rs can follow -/
def ext (rs : List Int) : Nat → List (List Int) → Nat
  | 0, _ => 1
  | k + 1, M => ((rs.filter fun p => !stuck M p).map fun p => ext rs k (holdL [p] M)).sum
def extT (rs : List Int) (k : Nat) (M : List (List Int)) (t : Nat) : Nat := (((rs.take t).filter fun p => !stuck M p).map fun p => ext rs k (holdL [p] M)).sum
theorem extT_full (rs : List Int) (k : Nat) (M : List (List Int)) : extT rs k M rs.length = ext rs (k + 1) M := by
  unfold extT
  rw [List.take_length]
  rfl
theorem extT_step {rs : List Int} {k : Nat} {M : List (List Int)} {t : Nat} {p : Int} (h : rs[t]? = some p) : extT rs k M (t + 1) = extT rs k M t + (if stuck M p = true then 0 else ext rs k (holdL [p] M)) := by
  unfold extT
  rw [List.take_add_one, h, List.filter_append, List.map_append, List.sum_append]
  congr 1
  show ((List.filter (fun p => !stuck M p) [p]).map _).sum = _
  cases e : stuck M p with
  | true => rw [List.filter_cons, if_neg (by rw [e]; decide)]; rfl
  | false => rw [List.filter_cons, if_pos (by rw [e]; rfl)]; rfl
/-! ### what a number of points holds -/
def subB (rs : List Int) (b : Nat) : List Int := rs.filter fun r => b.testBit r.toNat
def hb (rs : List Int) (L : List (List Int)) (b : Nat) : List (List Int) := holdL (subB rs b) L
/-- b is of k points of rs -/
def goodB (rs : List Int) (k b : Nat) : Prop := (∀ q : Nat, b.testBit q = true → (q : Int) ∈ rs) ∧ (subB rs b).length = k
theorem filt_one {rs : List Int} {f : Int → Bool} {p : Int} (nd : rs.Nodup) (hp : p ∈ rs) (np : f p = false) : (rs.filter fun r => f r || decide (r = p)).length = (rs.filter f).length + 1 := by
  induction rs with
  | nil => cases hp
  | cons a rs ih =>
    obtain ⟨na, nd⟩ := List.nodup_cons.mp nd
    by_cases e : a = p
    · subst e
      rw [List.filter_cons, if_pos (by simp), List.filter_cons, if_neg (by rw [np]; decide), List.length_cons]
      congr 2
      refine List.filter_congr fun x hx => ?_
      rw [decide_eq_false fun z : x = a => na (z ▸ hx), Bool.or_false]
    · have := ih nd ((List.mem_cons.mp hp).resolve_left fun z => e z.symm)
      rw [List.filter_cons, List.filter_cons, decide_eq_false e, Bool.or_false]
      split
      · rw [List.length_cons, List.length_cons, this]
      · exact this
theorem few_keys {ks : List Nat} (nd : ks.Nodup) (h : ∀ b ∈ ks, b < 4096) : ks.length ≤ 4096 := by
  have := len_subI (L := List.range 4096) nd fun b hb => List.mem_range.mpr (h b hb)
  rwa [List.length_range] at this
structure CntOk (rs : List Int) (k : Nat) (ks : List Nat) (c : Nat → Nat) : Prop where
  nd : ks.Nodup
  zero : ∀ b, b ∉ ks → c b = 0
  good : ∀ b ∈ ks, goodB rs k b
theorem CntOk.add {rs : List Int} {k : Nat} {ks : List Nat} {c : Nat → Nat} (ok : CntOk rs k ks c) {b : Nat} (g : goodB rs k b) (m : Nat) : CntOk rs k (addK ks b) (fun x => if x = b then c b + m else c x) :=
  ⟨addK_nodup ok.nd, fun x h => by
    have h := fun z => h (addK_mem.mpr z)
    show (if x = b then _ else _) = 0
    rw [if_neg fun e => h (.inr e)]
    exact ok.zero x fun z => h (.inl z), fun x hx => (addK_mem.mp hx).elim (ok.good x) fun e => e ▸ g⟩
def drp (d e : Addr) (H : Hp) : Hp := fun b => if b = d ∨ b = e then none else H b
theorem drp_d {d e : Addr} {H : Hp} : drp d e H d = none := if_pos (.inl rfl)
theorem drp_e {d e : Addr} {H : Hp} : drp d e H e = none := if_pos (.inr rfl)
theorem drp_same {d e : Addr} {H : Hp} : Same (drp d e H) H := fun b o h => by
  unfold drp at h
  split at h
  · cases h
  · exact h
theorem drp_at {d e b : Addr} {H : Hp} {o : HO} (nd : b ≠ d) (ne : b ≠ e) (h : H b = some o) : drp d e H b = some o := by
  unfold drp
  rw [if_neg fun z => z.elim nd ne]
  exact h
theorem drp_up {d e : Addr} {G H : Hp} (s : Same G H) (gd : G d = none) (ge : G e = none) : Same G (drp d e H) := fun b o h => drp_at (ne_of_none h gd) (ne_of_none h ge) (s _ _ h)
/-! ### keys of places -/
def ptsK (rs : List Int) (key : List Int) : List Int := key.map fun i => rs.getD i.toNat 0
def ktK (rs : List Int) (L : List (List Int)) (key : List Int) : List (List Int) := holdL (ptsK rs key) L
def wtK (rs : List Int) (L : List (List Int)) (j : Nat) (key : List Int) : Nat := ext rs j (ktK rs L key)
def goodK (rs : List Int) (key : List Int) : Prop := key.Pairwise (· < ·) ∧ ∀ i ∈ key, 0 ≤ i ∧ i < (rs.length : Int)
def encK (ks : List (List Int)) (p : List Int → Addr) : List (List Key × V) := ks.map fun key => ((key.map Sum.inl : List Key), V.ref (p key))
theorem encK_inj : ∀ a b : List Int, (a.map Sum.inl : List Key) = b.map Sum.inl → a = b
  | [], [], _ => rfl
  | [], _ :: _, e => by cases e
  | _ :: _, [], e => by cases e
  | a :: A, b :: B, e => by
    rw [List.map_cons, List.map_cons] at e
    injection e with e1 e2
    rw [Sum.inl.inj e1, encK_inj A B e2]
theorem kV_key (key : List Int) : ((key.map Sum.inl : List Key).map kV) = key.map V.int := by
  rw [List.map_map]
  rfl
theorem few_keysK {rs : List Int} (l12 : rs.length ≤ 12) {ks : List (List Int)} (nd : ks.Nodup) (g : ∀ key ∈ ks, goodK rs key) : ks.length ≤ 4096 := by
  have up : ∀ key ∈ ks, (key.map Int.toNat).Pairwise (· < ·) := fun key hk => up_nat (g key hk).1 fun i hi => ((g key hk).2 i hi).1
  have back : ∀ key ∈ ks, (key.map Int.toNat).map (fun (j : Nat) => (j : Int)) = key := fun key hk => by
    rw [List.map_map]
    refine (List.map_congr_left fun i hi => ?_).trans (List.map_id _)
    exact Int.toNat_of_nonneg ((g key hk).2 i hi).1
  have nd2 : (ks.map fun key => bitsN (key.map Int.toNat)).Nodup := by
    show List.Pairwise _ _
    rw [List.pairwise_map]
    refine List.Pairwise.imp_of_mem (fun {a b} ha hb ne e => ne ?_) nd
    have := congrArg lotN e
    rw [lot_bits (up a ha), lot_bits (up b hb)] at this
    rw [← back a ha, ← back b hb, this]
  have := few_keys nd2 fun b hb => by
    obtain ⟨key, hk, rfl⟩ := List.mem_map.mp hb
    refine Nat.lt_of_lt_of_le (bitsN_lt _ rfl (up key hk) (n := 12) fun p hp => ?_) (by decide)
    obtain ⟨i, hi, rfl⟩ := List.mem_map.mp hp
    have := (g key hk).2 i hi
    omega
  rwa [List.length_map] at this
structure OcOk (G : Hp) (rs : List Int) (L : List (List Int)) (ks : List (List Int)) (c : List Int → Nat) (p : List Int → Addr) : Prop where
  nd : ks.Nodup
  zero : ∀ key, key ∉ ks → c key = 0
  good : ∀ key ∈ ks, goodK rs key
  at_ : ∀ key ∈ ks, ∃ (f : Addr) (vs : List V), G (p key) = some (.lst [.int ((c key : Nat) : Int), .ref f]) ∧ G f = some (.lst vs) ∧ DaAll G vs ((ktK rs L key).map rowD)
theorem OcOk.up {G G' : Hp} {rs : List Int} {L : List (List Int)} {ks : List (List Int)} {c : List Int → Nat} {p : List Int → Addr} (s : OcOk G rs L ks c p) (g : Same G G') : OcOk G' rs L ks c p :=
  ⟨s.nd, s.zero, s.good, fun key hk => by
    obtain ⟨f, vs, h1, h2, h3⟩ := s.at_ key hk
    exact ⟨f, vs, g _ _ h1, g _ _ h2, h3.up g⟩⟩
/-- the place's points, one more -/
theorem ptsK_add {rs : List Int} {L : List (List Int)} {key ns : List Int} {t : Nat} {r : Int} (hr : rs[t]? = some r) (pm : ns.Perm (key ++ [(t : Int)])) : ktK rs L ns = holdL [r] (ktK rs L key) := by
  unfold ktK
  rw [← holdL_snoc]
  refine holdL_congr fun x => ?_
  unfold ptsK
  rw [List.mem_append, List.mem_singleton, List.mem_map, List.mem_map]
  have et : rs.getD ((t : Int)).toNat 0 = r := by rw [Int.toNat_natCast, List.getD_eq_getElem?_getD, hr]; rfl
  constructor
  · rintro ⟨i, hi, rfl⟩
    rcases List.mem_append.mp (pm.mem_iff.mp hi) with h | h
    · exact .inl ⟨i, h, rfl⟩
    · rw [List.mem_singleton.mp h]
      exact .inr et
  · rintro (⟨i, hi, rfl⟩ | rfl)
    · exact ⟨i, pm.mem_iff.mpr (List.mem_append_left _ hi), rfl⟩
    · exact ⟨(t : Int), pm.mem_iff.mpr (List.mem_append_right _ List.mem_cons_self), et⟩
theorem goodK_add {rs key ns : List Int} (g : goodK rs key) {t : Nat} (ht : t < rs.length) (no : (t : Int) ∉ key) (pm : ns.Perm (key ++ [(t : Int)])) (so : ns.Pairwise (· ≤ ·)) : goodK rs ns := by
  have nd : ns.Nodup := by
    refine pm.nodup_iff.mpr ?_
    rw [List.nodup_append]
    refine ⟨g.1.imp fun h => by omega, by simp, fun x hx y hy e => no ?_⟩
    rw [List.mem_singleton] at hy
    rw [← hy, ← e]
    exact hx
  refine ⟨(so.and nd).imp fun h => by omega, fun i hi => ?_⟩
  rcases List.mem_append.mp (pm.mem_iff.mp hi) with h | h
  · exact g.2 i h
  · rw [List.mem_singleton.mp h]
    omega
theorem stuckK {rs : List Int} {L : List (List Int)} {key : List Int} {t : Nat} {r : Int} (hr : rs[t]? = some r) (h : (t : Int) ∈ key) : stuck (ktK rs L key) r = true := stuck_iff.mpr fun w hw => by
  have h2 := ((List.mem_filter (p := holdB (ptsK rs key))).mp hw).2
  unfold holdB at h2
  rw [decide_eq_true_eq, aft_self] at h2
  refine h2 r (List.mem_map.mpr ⟨(t : Int), h, ?_⟩)
  rw [Int.toNat_natCast, List.getD_eq_getElem?_getD, hr]
  rfl
theorem stuck_len {M : List (List Int)} {r : Int} : decide ((holdL [r] M).length < M.length) = !stuck M r := by
  have l := List.length_filter_le (fun m => decide (stp m r = r)) M
  rw [holdL_one]
  cases e : stuck M r with
  | true =>
    have := List.length_filter_eq_length_iff.mpr fun w hw => decide_eq_true (stuck_iff.mp e w hw)
    exact decide_eq_false (by omega)
  | false =>
    refine decide_eq_true (Nat.lt_of_le_of_ne l fun z => ?_)
    rw [stuck_iff.mpr fun w hw => of_decide_eq_true (List.length_filter_eq_length_iff.mp z w hw)] at e
    cases e
theorem totW_takeK {ks : List (List Int)} {c W : List Int → Nat} {i : Nat} {b : List Int} (h : ks[i]? = some b) : totW (ks.take (i + 1)) c W = totW (ks.take i) c W + c b * W b := by
  unfold totW
  rw [List.take_add_one, h, List.map_append, List.sum_append]
  rfl
theorem old_of {G : Hp} {rs : List Int} {L : List (List Int)} {ks : List (List Int)} {c : List Int → Nat} {p : List Int → Addr} (s : OcOk G rs L ks c p) {ol z : Addr} (gl : G ol = some (.lst [.int 0, .ref z])) (key : List Int) :
    ∃ oa f : Addr, (valV (encK ks p) (key.map Sum.inl)).getD (.ref ol) = .ref oa ∧ G oa = some (.lst [.int ((c key : Nat) : Int), .ref f]) := by
  have := enc_val (e := fun key : List Int => (key.map Sum.inl : List Key)) encK_inj (fun key => V.ref (p key)) key ks
  have this : valV (encK ks p) (key.map Sum.inl) = _ := this
  rw [this]
  by_cases h : key ∈ ks
  · rw [if_pos h]
    obtain ⟨f, vs, h1, -⟩ := s.at_ key h
    exact ⟨p key, f, rfl, h1⟩
  · rw [if_neg h, s.zero key h]
    exact ⟨ol, z, rfl, gl⟩
theorem encK_put (ks : List (List Int)) (p : List Int → Addr) (key : List Int) (a : Addr) : putK (encK ks p) (key.map Sum.inl) (V.ref a) = encK (addK ks key) (fun x => if x = key then a else p x) := by
  have := enc_put (e := fun key : List Int => (key.map Sum.inl : List Key)) encK_inj (fun key => V.ref (p key)) ks key (V.ref a)
  refine Eq.trans this ?_
  unfold encK
  refine List.map_congr_left fun x _ => ?_
  show (_, _) = (x.map Sum.inl, V.ref (if x = key then a else p x))
  by_cases h : x = key
  · rw [if_pos h, if_pos h]
  · rw [if_neg h, if_neg h]
theorem OcOk.add {G G' : Hp} {rs : List Int} {L : List (List Int)} {ks : List (List Int)} {c : List Int → Nat} {p : List Int → Addr} (s : OcOk G rs L ks c p) (g : Same G G') {key : List Int} (gk : goodK rs key) {a z : Addr} {zs : List V} {m : Nat} (h1 : G' a = some (.lst [.int ((c key + m : Nat) : Int), .ref z])) (h2 : G' z = some (.lst zs)) (h3 : DaAll G' zs ((ktK rs L key).map rowD)) :
    OcOk G' rs L (addK ks key) (fun x => if x = key then c key + m else c x) (fun x => if x = key then a else p x) := by
  have s' := s.up g
  refine ⟨addK_nodup s.nd, fun x h => ?_, fun x hx => (addK_mem.mp hx).elim (s.good x) fun e => e ▸ gk, fun x hx => ?_⟩
  · have h := fun z => h (addK_mem.mpr z)
    show (if x = key then _ else _) = 0
    rw [if_neg fun e => h (.inr e)]
    exact s.zero x fun z => h (.inl z)
  · show ∃ (f : Addr) (vs : List V), G' (if x = key then a else p x) = some (.lst [.int (((if x = key then c key + m else c x) : Nat) : Int), .ref f]) ∧ _
    by_cases e : x = key
    · subst e
      rw [if_pos rfl, if_pos rfl]
      exact ⟨z, zs, h1, h2, h3⟩
    · rw [if_neg e, if_neg e]
      exact s'.at_ x ((addK_mem.mp hx).resolve_right e)
theorem sum_cast : ∀ (ks : List (List Int)) (c : List Int → Nat), ((ks.map fun x => ((c x : Nat) : Int)).sum) = ((totW ks c (fun _ => 1) : Nat) : Int)
  | [], _ => rfl
  | k :: ks, c => by
    rw [List.map_cons, List.sum_cons, sum_cast ks c]
    show _ = (((c k * 1 + totW ks c (fun _ => 1)) : Nat) : Int)
    omega


def spOrdCnt : Sp := fun vs H Q _ => ∃ (G : Hp) (m lo : Addr) (n : Int) (ms : List V) (L : List (List Int)) (rs : List Int), vs = [.ref m, .ref lo] ∧ Same G H ∧ G m = some (.lst ms) ∧ DaAll G ms (L.map rowD) ∧ AllMv n L ∧ L.length ≤ 1000 ∧ n ≤ 12 ∧ H lo = some (.lst (rs.map V.int)) ∧ (∀ r ∈ rs, inR n r) ∧ lsx rs L = [] ∧
  ∀ H', Same H H' → Q (.int ((ext rs rs.length L : Nat) : Int)) H'
theorem oc_start {G : Hp} {rs : List Int} {L : List (List Int)} {p0 m : Addr} {ms : List V} (h0 : G p0 = some (.lst [.int 1, .ref m])) (hm : G m = some (.lst ms)) (dm : DaAll G ms (L.map rowD)) : OcOk G rs L [[]] (fun key => if key = [] then 1 else 0) (fun _ => p0) :=
  ⟨by simp, fun key h => if_neg fun e => h (List.mem_singleton.mpr e), fun key h => by
    rw [List.mem_singleton.mp h]
    exact ⟨List.Pairwise.nil, fun i hi => by cases hi⟩, fun key h => by
    rw [List.mem_singleton.mp h]
    refine ⟨m, ms, h0, hm, ?_⟩
    have : ktK rs L [] = L := holdL_nil L
    rw [this]
    exact dm⟩
theorem ok_order_count (Z : Zs mg) (D : Ds K mg) : Cal P w K mg base "_law_order_count" 1 ["made", "row"] spOrdCnt := by
  refine Def.cal D.d_law_order_count sc_law_order_count (fun vs H Q E h => ?_) (fun f cdv A outer s H vs Q E hr h => ?_)
  · obtain ⟨G, m, lo, n, ms, L, rs, rfl, gh, gm, dm, mvL, lL, n12, hlo, inr, tr, q⟩ := h
    rfl
  obtain ⟨G, m, lo, n, ms, L, rs, rfl, gh, gm, dm, mvL, lL, n12, hlo, inr, tr, q⟩ := h
  refine ⟨_, (pss_cons (ps_set (i := 2) sc_law_order_count.nd rfl (Or.inl rfl) (pe_dispT1 (hu_of hr) (pe_tupN pa_nil) (pe_lstN (pa_cons pe_int (pa_cons (pv 0) pa_nil)))))
      (pss_cons (ps_for PassesOwn.never rfl (pi_range1 (by rfl) Z.z_range (pa_cons (pe_callB call_len_seq (by rfl) Z.z_len (by decide +kernel) (pa_cons (pv 1) pa_nil)) pa_nil)) (pg_name (i := 3) sc_law_order_count.nd rfl (Or.inl rfl)) (pss_cons (ps_set (i := 4) sc_law_order_count.nd rfl (Or.inl rfl) pe_dnewT)
      (pss_cons (ps_unl (ps_for PassesOwn.never rfl (pi_itemsT (pe_bm0 PySem.F.plainAttrs_dict PySem.F.slot_dict_items PySem.F.type_dict_items DX.mt_itemsT (pv 2))) (pg_tup rfl (pgs_cons (pg_name (i := 5) sc_law_order_count.nd rfl (Or.inl rfl)) (pgs_cons (pg_name (i := 6) sc_law_order_count.nd rfl (Or.inl rfl)) pgs_nil))) (pss_one (ps_for PassesOwn.never rfl (pi_range1 (by rfl) Z.z_range (pa_cons (pe_callB call_len_seq (by rfl) Z.z_len (by decide +kernel) (pa_cons (pv 1) pa_nil)) pa_nil)) (pg_name (i := 7) sc_law_order_count.nd rfl (Or.inr rfl)) (pss_one (ps_if (pt_cmpR op_notIn_seq (pv 7) (pv 5) (by with_unfolding_all rfl)) (pss_cons (ps_setLc (i := 8) (own := [("move", 11)]) (g := gName 11) (by rfl) sc_law_order_count.nd rfl rfl (sw_true rfl rfl rfl (by decide +kernel)) (pi_list (pe_ix ix_list (pv 6) pe_int (fun _ _ => rfl))) (blkOk_by (N := ["made", "row", "states", "k", "wider", "key", "pair", "at", "fewer", "spot", "old", "move"]) (sc := defScope s_law_order_count) (by decide +kernel)) (fun _ _ _ _ _ => pg_name (i := 11) sc_law_order_count.nd rfl (Or.inl rfl)) (fun _ _ _ _ _ => pts_one (pt_cmp (pc_eqI (pe_ix (ix_tupK (K := K) rfl) (pv 11) (pe_ix (ix_listK (K := K) rfl) (pv 1) (pv 7) (fun _ _ => rfl)) (fun _ _ => rfl)) (pe_ix (ix_listK (K := K) rfl) (pv 1) (pv 7) (fun _ _ => rfl))) (nomark _))) (fun _ _ _ _ _ => (pv 11)))
      (pss_one (ps_if (pt_cmp (pc_lt (pe_callB call_len_seq (by rfl) Z.z_len (by decide +kernel) (pa_cons (pv 8) pa_nil)) (pe_callB call_len_seq (by rfl) Z.z_len (by decide +kernel) (pa_cons (pe_ix ix_list (pv 6) pe_int (fun _ _ => rfl)) pa_nil))) (nomark _)) (pss_cons (ps_set (i := 9) sc_law_order_count.nd rfl (Or.inl rfl) (pe_callTy call_tupleN (by rfl) Z.z_tuple (by decide +kernel) (pa_cons (pe_callB call_sortT (by rfl) Z.z_sorted (by decide +kernel) (pa_cons (pe_op op_catA (pv 5) (pe_tupN (pa_cons (pv 7) pa_nil))) pa_nil)) pa_nil)))
      (pss_cons (ps_set (i := 10) sc_law_order_count.nd rfl (Or.inl rfl) (pe_dget2 (hu_of hr) (pv 4) (pv 9) (pe_lstN (pa_cons pe_int (pa_cons (pv 8) pa_nil))) ⟨rfl, rfl, rfl, rfl⟩))
      (pss_one (ps_dput (hu_of hr) (pv 4) (pv 9) (pe_lstN (pa_cons (pe_op op_add (pe_ix ix_list (pv 10) pe_int (fun _ _ => rfl)) (pe_ix ix_list (pv 6) pe_int (fun _ _ => rfl))) (pa_cons (pv 8) pa_nil))) rfl)))) pss_nil))) pss_nil))))))
      (pss_one (ps_set (i := 2) sc_law_order_count.nd rfl (Or.inl rfl) (pv 4))))))
      (pss_one (ps_ret (pe_callB (cr_sum rfl) (by rfl) Z.z_sum (by decide +kernel) (pa_cons (pe_unl (pe_lc (own := [("pair", 6)]) (g := gName 6) (tt := tYes) (by rfl) sc_law_order_count.nd (pi_valsT (pe_bm0 PySem.F.plainAttrs_dict PySem.F.slot_dict_values PySem.F.type_dict_values mt_valsT (pv 2))) (blkOk_by (N := ["made", "row", "states", "k", "wider", "key", "pair", "at", "fewer", "spot", "old", "move"]) (sc := defScope s_law_order_count) (by decide +kernel)) (fun _ _ _ _ _ => pg_name (i := 6) sc_law_order_count.nd rfl (Or.inl rfl)) (fun _ _ _ _ _ => pts_nil) (fun _ _ _ _ _ => (pe_ix (ix_listK (K := K) rfl) (pv 6) pe_int (fun _ _ => rfl))))) pa_nil)))))), ?_⟩
  have nd := tight_nodup tr
  have l12 := inR_len n12 nd inr
  refine fun d hd => ?_
  have n1 : New H d (.dT []) (upd H d (.dT [])) := ⟨hd, rfl⟩
  generalize upd H d (.dT []) = H1 at n1 ⊢
  refine ⟨by show 0 ≤ sizeLine; omega, fun e0 H2 n2 => ⟨_, rfl, by show 2 ≤ sizeLine; decide, fun p0 H3 n3 => ?_⟩⟩
  have s3 := (n1.same.trans n2.same).trans n3.same
  have hd3 := n3.else (n2.else n1.at)
  refine ⟨hd3, e0, [], rfl, n3.else n2.at, ?_⟩
  have s4 : Same H (upd H3 d (.dT [([], .ref p0)])) := same_mut s3 hd rfl
  have np0 : p0 ≠ d := fun e => by
    have := n3.at
    rw [e, hd3] at this
    cases this
  have h4p : upd H3 d (.dT [([], .ref p0)]) p0 = some (.lst [.int 1, .ref m]) := by rw [upd_ne np0]; exact n3.at
  have h4d : upd H3 d (.dT [([], .ref p0)]) d = some (.dT (encK [[]] fun _ => p0)) := upd_same
  generalize upd H3 d (.dT [([], .ref p0)]) = H4 at s4 h4p h4d ⊢
  have sB4 : Same (drp d d H4) H4 := drp_same
  have ndm : m ≠ d := fun e => by have := gh _ _ gm; rw [e, hd] at this; cases this
  have gB4 : Same G (drp d d H4) := fun b o h => by
    have hb := gh _ _ h
    have nb : b ≠ d := fun e => by rw [e, hd] at hb; cases hb
    exact drp_at nb nb (s4 _ _ hb)
  refine ⟨_, rfl, lo, _, rfl, .inl (.of (s4 _ _ hlo)), _, rfl, by rw [List.length_map]; omega, by rw [List.length_map]; omega, ?_⟩
  rw [List.length_map]
  refine for_range (lo := 0) (n := ((rs.length : Nat) : Int).toNat) (fun j σ' H' => ∃ (GB : Hp) (d : Addr) (ks : List (List Int)) (c : List Int → Nat) (p : List Int → Addr) (y3 y4 y5 y6 y7 y8 y9 y10 : Option V), σ' = [some (.ref m), some (.ref lo), some (.ref d), y3, y4, y5, y6, y7, y8, y9, y10, none] ∧ Same H H' ∧ H d = none ∧ Same GB H' ∧ GB d = none ∧ H' d = some (.dT (encK ks p)) ∧ OcOk GB rs L ks c p ∧ ∀ t, totW ks c (wtK rs L t) = ext rs (t + j) L) ?_ ?_ ?_
  · refine ⟨drp d d H4, d, [[]], _, fun _ => p0, none, none, none, none, none, none, none, none, rfl, s4, hd, sB4, drp_d, h4d, oc_start (drp_at np0 np0 h4p) (gB4 _ _ gm) (dm.up gB4), fun t => ?_⟩
    show (1 * wtK rs L t [] + 0) = _
    unfold wtK
    have : ktK rs L [] = L := holdL_nil L
    rw [this, Nat.one_mul]
    rfl
  · rintro j σ' H5 hj ⟨GB, d, ks, c, p, y3, y4, y5, y6, y7, y8, y9, y10, rfl, s5, hd, sB, gd, h5, oc, tot⟩
    refine fun wd hwd => ?_
    have n6 : New H5 wd (.dT []) (upd H5 wd (.dT [])) := ⟨hwd, rfl⟩
    generalize upd H5 wd (.dT []) = H6 at n6 ⊢
    have fw : H wd = none := s5.free hwd
    have fwB : GB wd = none := sB.free hwd
    have ndw : d ≠ wd := fun e => by rw [e, hwd] at h5; cases h5
    refine ⟨d, _, n6.else h5, trivial, ?_⟩
    refine ⟨_, rfl, .inr (.inr (.inl ⟨rfl, .inr ⟨_, n6.else h5⟩⟩)), d, _, rfl, rfl, n6.else h5, fun pv hpv => ?_⟩
    have n7 : New H6 pv (DX.itemsO pv d) (upd H6 pv (DX.itemsO pv d)) := ⟨hpv, rfl⟩
    generalize upd H6 pv (DX.itemsO pv d) = H7 at n7 ⊢
    refine ⟨pv, d, _, rfl, n7.at, n7.else (n6.else h5), fun od => ?_⟩
    have s8 : Same H (upd H7 d (.frz od (.dT (encK ks p)))) := same_mut (s5.trans (n6.same.trans n7.same)) hd rfl
    have sB8 : Same GB (upd H7 d (.frz od (.dT (encK ks p)))) := same_mut (sB.trans (n6.same.trans n7.same)) gd rfl
    have h8d : upd H7 d (.frz od (.dT (encK ks p))) d = some (.frz od (.dT (encK ks p))) := upd_same
    have h8w : upd H7 d (.frz od (.dT (encK ks p))) wd = some (.dT (encK [] p)) := by rw [upd_ne (Ne.symm ndw)]; exact n7.else n6.at
    generalize upd H7 d (.frz od (.dT (encK ks p))) = H8 at s8 sB8 h8d h8w ⊢
    refine for_itemsT (fun i σ' H' => ∃ (G' : Hp) (ks' : List (List Int)) (c' : List Int → Nat) (p' : List Int → Addr) (y5 y6 y7 y8 y9 y10 : Option V), σ' = [some (.ref m), some (.ref lo), some (.ref d), some (.int (j : Int)), some (.ref wd), y5, y6, y7, y8, y9, y10, none] ∧ Same H H' ∧ Same GB G' ∧ Same G' H' ∧ G' d = none ∧ G' wd = none ∧ H' d = some (.frz od (.dT (encK ks p))) ∧ H' wd = some (.dT (encK ks' p')) ∧ OcOk G' rs L ks' c' p' ∧ ∀ t, totW ks' c' (wtK rs L t) = totW (ks.take i) c (wtK rs L (t + 1))) ?_ ?_ ?_ ?_
    · rw [Int.zero_add]
      exact ⟨drp d wd H8, [], fun _ => 0, p, _, _, _, _, _, _, rfl, s8, drp_up sB8 gd fwB, drp_same, drp_d, drp_e, h8d, h8w, ⟨List.nodup_nil, fun _ _ => rfl, fun _ h => by (cases h), fun _ h => by (cases h)⟩, fun t => rfl⟩
    · rintro i σ' H' ⟨G', ks', c', p', y5, y6, y7, y8, y9, y10, rfl, -, -, -, -, -, h, -⟩
      exact h
    · rintro i key' v q' T σ' H9 HA hi ⟨G', ks', c', p', y5, y6, y7, y8, y9, y10, rfl, s9, sBG, sG, gd', gw', h9d, h9w, oc', tot'⟩ hq nT
      unfold encK at hi
      rw [List.getElem?_map] at hi
      obtain ⟨key, hik, e⟩ := Option.map_eq_some_iff.mp hi
      obtain ⟨rfl, rfl⟩ := Prod.mk.inj e
      rw [kV_key] at hq
      have gk := oc.good key (List.mem_of_getElem? hik)
      obtain ⟨f, vs, k1, k2, k3⟩ := oc.at_ key (List.mem_of_getElem? hik)
      refine ⟨T, _, rfl, .of nT.at, rfl, _, _, rfl, _, _, rfl, rfl, ?_⟩
      have sA := s9.trans nT.same
      have sGA := sG.trans nT.same
      have hAd := nT.else h9d
      have hAw := nT.else h9w
      have hAq := nT.else hq
      have nqd : q' ≠ d := fun e => by rw [e, h9d] at hq; cases hq
      have nqw : q' ≠ wd := fun e => by rw [e, h9w] at hq; cases hq
      have A1 : Same G' (drp d wd HA) := drp_up sGA gd' gw'
      have A2 := (sBG.trans A1)
      have Aq : drp d wd HA q' = some (.tup (key.map V.int)) := drp_at nqd nqw hAq
      have Ad : drp d wd HA d = none := drp_d
      have Aw : drp d wd HA wd = none := drp_e
      have AS : Same (drp d wd HA) HA := drp_same
      generalize drp d wd HA = A at A1 A2 Aq Ad Aw AS
      refine ⟨_, rfl, lo, _, rfl, .inl (.of (sA _ _ hlo)), _, rfl, by rw [List.length_map]; omega, by rw [List.length_map]; omega, ?_⟩
      rw [List.length_map]
      refine for_range (lo := 0) (n := ((rs.length : Nat) : Int).toNat) (fun t σ' H' => ∃ (G' : Hp) (ks' : List (List Int)) (c' : List Int → Nat) (p' : List Int → Addr) (y7 y8 y9 y10 : Option V), σ' = [some (.ref m), some (.ref lo), some (.ref d), some (.int (j : Int)), some (.ref wd), some (.ref q'), some (.ref (p key)), y7, y8, y9, y10, none] ∧ Same H H' ∧ Same A G' ∧ Same G' H' ∧ G' d = none ∧ G' wd = none ∧ H' d = some (.frz od (.dT (encK ks p))) ∧ H' wd = some (.dT (encK ks' p')) ∧ OcOk G' rs L ks' c' p' ∧ ∀ u, totW ks' c' (wtK rs L u) = totW (ks.take i) c (wtK rs L (u + 1)) + c key * extT rs u (ktK rs L key) t) ?_ ?_ ?_
      · exact ⟨A, ks', c', p', _, _, _, _, rfl, sA, Same.refl _, AS, Ad, Aw, hAd, hAw, oc'.up A1, fun u => by rw [tot' u]; rfl⟩
      · rintro t σ' HB ht ⟨G2, ks2, c2, p2, y7, y8, y9, y10, rfl, sB', sAG, sGB, g2d, g2w, hBd, hBw, oc2, tot2⟩
        rw [Int.zero_add]
        have tl : t < rs.length := by omega
        have hr : rs[t]? = some rs[t] := List.getElem?_eq_getElem tl
        have rin := inr _ (List.mem_of_getElem? hr)
        have at_ : atI (rs.map V.int) (t : Int) = some (V.int rs[t]) := atI_nat (by rw [List.getElem?_map, hr]; rfl)
        generalize rs[t] = r at hr rin at_
        have hloB := sB' _ _ hlo
        have hpk := sGB _ _ (sAG _ _ (A2 _ _ k1))
        have hf := sGB _ _ (sAG _ _ (A2 _ _ k2))
        have dk := (k3.up A2).up sAG
        have lv := dk.length
        rw [List.length_map] at lv
        have lkt : (ktK rs L key).length ≤ 1000 := Nat.le_trans holdL_len lL
        refine ⟨_, rfl, _, rfl, q', _, rfl, .inr (.of (sGB _ _ (sAG _ _ Aq))), rfl, flat_ints _, _, rfl, ?_⟩
        rw [inV_ints]
        refine ite2 (fun c1 => ?_) (fun c1 => ?_)
        · have no : (t : Int) ∉ key := nd_of c1
          refine ⟨_, rfl, p key, _, 1, _, rfl, rfl, .of hpk, rfl, f, rfl, ⟨_, .of hf⟩, fun z hz => ?_⟩
          refine lc_list (K := K) (a := f) (xs := vs) (fun u H' => ∃ zs : List V, Same HB H' ∧ H' z = some (.lst zs) ∧ DaAll G2 zs ((((ktK rs L key).take u).filter fun w => decide (stp w r = r)).map rowD)) ?_ ?_ ?_ ?_
          · exact ⟨[], New.same (o := .lst []) ⟨hz, rfl⟩, upd_same, .nil⟩
          · rintro u H' - ⟨zs, sC, -⟩
            exact .of (sC _ _ hf)
          · rintro u y HC hy ⟨zs, sC, hCz, dz⟩
            obtain ⟨e, he, de⟩ := dk.get hy
            rw [List.getElem?_map] at he
            obtain ⟨w, hw, rfl⟩ := Option.map_eq_some_iff.mp he
            obtain ⟨c0, rfl, hc⟩ := rows_ref de
            have mv := mvL w (holdL_sub (List.mem_of_getElem? hw))
            obtain ⟨y, e1, e2, -⟩ := atI_ints (ns := w) rin.1 (by have := mv.len; have := rin.2; omega)
            obtain rfl : y = stp w r := Option.some.inj (e1.symm.trans (stp_at mv rin).1)
            have lz := dz.length
            rw [List.length_map] at lz
            have lf := List.length_filter_le (fun w => decide (stp w r = r)) ((ktK rs L key).take u)
            have lt : ((ktK rs L key).take u).length ≤ (ktK rs L key).length := by rw [List.length_take]; omega
            refine ⟨rfl, _, rfl, _, rfl, _, rfl, lo, _, _, _, rfl, rfl, .of (sC _ _ hloB), at_, c0, _, _, _, rfl, rfl, .of (sC _ _ (sGB _ _ hc)), e2, _, rfl, _, rfl, lo, _, _, _, rfl, rfl, .of (sC _ _ hloB), at_, _, _, rfl, rfl, _, rfl, ite2 (fun c3 => ?_) (fun c3 => ?_)⟩
            · refine ⟨_, rfl, _, hCz, Hd.lt (by omega), _, same_mut sC hz rfl, upd_same, ?_⟩
              rw [filter_take hw, if_pos c3, List.map_append]
              exact dz.append (.one de)
            · refine ⟨zs, sC, hCz, ?_⟩
              rw [filter_take hw, if_neg c3, List.append_nil]
              exact dz
          · rintro HC ⟨zs, sC, hCz, dz⟩
            rw [lv, List.take_length, ← holdL_one] at dz
            have lz := dz.length
            rw [List.length_map] at lz
            have sl := stuck_len (M := ktK rs L key) (r := r)
            refine ⟨_, rfl, z, _, rfl, .inl (.of hCz), _, rfl, p key, _, 1, _, rfl, rfl, .of (sC _ _ hpk), rfl, f, _, rfl, .inl (.of (sC _ _ hf)), _, _, rfl, rfl, _, rfl, ite2 (fun c3 => ?_) (fun c3 => ?_)⟩
            · have st : stuck (ktK rs L key) r = false := by
                have : ((zs.length : Nat) : Int) < ((vs.length : Nat) : Int) := of_decide_eq_true c3
                rw [decide_eq_true (by omega)] at sl
                cases e : stuck (ktK rs L key) r with
                | false => rfl
                | true => rw [e] at sl; cases sl
              have sHC := sB'.trans sC
              have hCq := sC _ _ (sGB _ _ (sAG _ _ Aq))
              refine ⟨_, rfl, _, rfl, by show 1 ≤ sizeLine; decide, fun t1 HD nD => catR_ok (nD.else hCq) nD.at ?_ fun p1 HE sE hE => ?_⟩
              · have lk : key.length ≤ 12 := inR_len (n := (rs.length : Int)) (by omega) (gk.1.imp fun h => by omega) fun x hx => ⟨(gk.2 x hx).1, (gk.2 x hx).2⟩
                rw [List.length_map]
                show key.length + 1 ≤ 1000
                omega
              · have hE : HE p1 = some (.tup ((key ++ [(t : Int)]).map V.int)) := by rw [List.map_append]; exact hE
                refine ⟨p1, _, rfl, .of hE, fun ns p3 HF pm so nF => ⟨p3, _, rfl, .of nF.at, fun sp HI nI => ?_⟩⟩
                have gn := goodK_add gk tl no pm so
                have ek := ptsK_add (L := L) hr pm
                have s1 := (((sC.trans nD.same).trans sE).trans nF.same).trans nI.same
                refine ⟨_, rfl, wd, rfl, .inr ⟨_, .of (s1 _ _ hBw)⟩, _, rfl, _, rfl, by show 2 ≤ sizeLine; decide, fun ol HJ nJ => ?_⟩
                have s2 := s1.trans nJ.same
                have hJs := nJ.else nI.at
                have hJw := s2 _ _ hBw
                have sGJ := sGB.trans s2
                refine ⟨_, DGet.t (k := ns.map Sum.inl) hJw (by rw [kV_key]; exact hJs), ?_⟩
                obtain ⟨oa, f', eo, hoa⟩ := old_of (oc2.up (drp_up sGJ g2d g2w)) (drp_at (b := ol) (fun e => by have := s2 _ _ hBd; rw [← e, nJ.at] at this; cases this) (fun e => by rw [← e, nJ.at] at hJw; cases hJw) nJ.at) ns
                have hoa := drp_same _ _ hoa
                rw [eo]
                have hpkJ := s2 _ _ hpk
                refine ⟨_, rfl, oa, _, 0, _, rfl, rfl, .of hoa, rfl, _, rfl, p key, _, 0, _, rfl, rfl, .of hpkJ, rfl, _, _, rfl, rfl, _, rfl, by show 2 ≤ sizeLine; decide, fun nl HK nK => ?_⟩
                have few := few_keysK l12 oc2.nd oc2.good
                have hKw := nK.else hJw
                have s3' := s2.trans nK.same
                refine ⟨_, rfl, _, rfl, wd, _, rfl, DPut.t (k := ns.map Sum.inl) hKw (by rw [kV_key]; exact nK.else hJs) (by unfold encK; rw [List.length_map]; exact Hd.lt (by omega)), ?_⟩
                dsimp only
                rw [encK_put]
                have sGK := sGJ.trans nK.same
                have nlw : nl ≠ wd := fun e => by rw [← e, nK.at] at hKw; cases hKw
                have hKd := s3' _ _ hBd
                have nld : nl ≠ d := fun e => by rw [← e, nK.at] at hKd; cases hKd
                have hKz := nK.else (nJ.else (nI.else (nF.else (sE _ _ (nD.else hCz)))))
                have nzw : z ≠ wd := fun e => by rw [e, hKw] at hKz; cases hKz
                have nzd : z ≠ d := fun e => by rw [e, hKd] at hKz; cases hKz
                refine ⟨drp d wd HK, addK ks2 ns, _, _, _, _, _, _, rfl, same_mut (sB'.trans s3') fw rfl, sAG.trans (drp_up sGK g2d g2w), same_mut drp_same drp_e rfl, drp_d, drp_e, ?_, upd_same, oc2.add (drp_up sGK g2d g2w) gn (m := c key) (drp_at nld nlw ?_) (drp_at nzd nzw hKz) ?_, fun u => ?_⟩
                · rw [upd_ne ndw]
                  exact hKd
                · rw [nK.at, Int.natCast_add]
                · rw [ek]
                  exact dz.up (drp_up sGK g2d g2w)
                · rw [totW_add oc2.nd (c key) (oc2.zero _), tot2 u, extT_step hr, if_neg (by rw [st]; decide), Nat.mul_add, Nat.add_assoc]
                  congr 3
                  unfold wtK
                  rw [ek]
            · have st : stuck (ktK rs L key) r = true := by
                rw [decide_eq_false fun z => c3 (decide_eq_true (show ((zs.length : Nat) : Int) < ((vs.length : Nat) : Int) by omega))] at sl
                cases e : stuck (ktK rs L key) r with
                | true => rfl
                | false => rw [e] at sl; cases sl
              exact ⟨G2, ks2, c2, p2, _, _, _, _, rfl, sB'.trans sC, sAG, sGB.trans sC, g2d, g2w, sC _ _ hBd, sC _ _ hBw, oc2, fun u => by rw [extT_step hr, if_pos st, tot2 u]; rfl⟩
        · have yes : (t : Int) ∈ key := nd_not c1
          exact ⟨G2, ks2, c2, p2, _, _, _, _, rfl, sB', sAG, sGB, g2d, g2w, hBd, hBw, oc2, fun u => by rw [extT_step hr, if_pos (stuckK hr yes), tot2 u]; rfl⟩
      · rintro σ' HB ⟨G2, ks2, c2, p2, y7, y8, y9, y10, rfl, sB', sAG, sGB, g2d, g2w, hBd, hBw, oc2, tot2⟩
        refine ⟨G2, ks2, c2, p2, _, _, _, _, _, _, rfl, sB', A2.trans sAG, sGB, g2d, g2w, hBd, hBw, oc2, fun u => ?_⟩
        rw [tot2 u, totW_takeK hik, Int.toNat_natCast, extT_full]
        rfl
    · rintro σ' HB ⟨G2, ks2, c2, p2, y5, y6, y7, y8, y9, y10, rfl, sB', sBG, sGB, g2d, g2w, hBd, hBw, oc2, tot2⟩
      rw [show (encK ks p).length = ks.length from List.length_map _, List.take_length] at tot2
      refine ⟨od, hBd, _, rfl, G2, wd, ks2, c2, p2, _, _, _, _, _, _, _, _, rfl, same_mut sB' hd rfl, fw, same_mut sGB g2d rfl, g2w, by rw [upd_ne (Ne.symm ndw)]; exact hBw, oc2, fun t => ?_⟩
      rw [tot2 t, tot (t + 1)]
      congr 1
      omega
  · rintro σ' H5 ⟨GB, d, ks, c, p, y3, y4, y5, y6, y7, y8, y9, y10, rfl, s5, hd, sB, gd, h5, oc, tot⟩
    rw [Int.toNat_natCast] at tot
    refine ⟨d, _, h5, trivial, ?_⟩
    refine ⟨_, rfl, .inr (.inr (.inl ⟨rfl, .inr ⟨_, h5⟩⟩)), d, _, rfl, rfl, h5, fun pv hpv => ?_⟩
    have n7 : New H5 pv (valsO pv d) (upd H5 pv (valsO pv d)) := ⟨hpv, rfl⟩
    generalize upd H5 pv (valsO pv d) = H7 at n7 ⊢
    refine ⟨pv, d, _, rfl, n7.at, n7.else h5, fun od => ?_⟩
    have s8 : Same H (upd H7 d (.frz od (.dT (encK ks p)))) := same_mut (s5.trans n7.same) hd rfl
    have sB8 : Same GB (upd H7 d (.frz od (.dT (encK ks p)))) := same_mut (sB.trans n7.same) gd rfl
    have h8d : upd H7 d (.frz od (.dT (encK ks p))) d = some (.frz od (.dT (encK ks p))) := upd_same
    generalize upd H7 d (.frz od (.dT (encK ks p))) = H8 at s8 sB8 h8d ⊢
    refine fun l hl => ?_
    have few := few_keysK l12 oc.nd oc.good
    refine lc_valsT (fun i H' => Same H8 H' ∧ H' l = some (.lst (((ks.take i).map fun x => ((c x : Nat) : Int)).map V.int))) ?_ ?_ ?_ ?_
    · exact ⟨New.same (o := .lst []) ⟨hl, rfl⟩, upd_same⟩
    · rintro i H' ⟨s9, -⟩
      exact s9 _ _ h8d
    · rintro i k x H9 hi ⟨s9, h9⟩
      unfold encK at hi
      rw [List.getElem?_map] at hi
      obtain ⟨key, hik, e⟩ := Option.map_eq_some_iff.mp hi
      obtain ⟨rfl, rfl⟩ := Prod.mk.inj e
      obtain ⟨f, vs, k1, k2, k3⟩ := oc.at_ key (List.mem_of_getElem? hik)
      refine ⟨rfl, yesT ⟨_, rfl, p key, _, 0, _, rfl, rfl, .of (s9 _ _ (sB8 _ _ k1)), rfl, _, h9, ?_, same_mut s9 hl rfl, ?_⟩⟩
      · rw [List.length_map, List.length_map, List.length_take]
        exact Hd.lt (by omega)
      · rw [upd_same, List.take_add_one, hik, List.map_append, List.map_append]
        rfl
    · rintro H9 ⟨s9, h9⟩
      rw [show (encK ks p).length = ks.length from List.length_map _, List.take_length] at h9
      have nld : l ≠ d := fun e => by rw [e, s9 _ _ h8d] at h9; cases h9
      refine ⟨od, s9 _ _ h8d, l, _, rfl, .of (by rw [upd_ne nld]; exact h9), ?_⟩
      rw [sum_cast]
      have := tot 0
      rw [Nat.zero_add] at this
      have e1 : totW ks c (fun _ => 1) = ext rs rs.length L := this
      rw [e1]
      exact q _ (same_mut (s8.trans s9) hd rfl)


def rTupOf (K : PySem.W.Frag) : List V → Hp → VK → Prop := fun xs H Q => ∃ p ys, xs = [.ref p] ∧ ((SqL K H p ys ∧ ∀ l, H l = none → Q (.ref l) (upd H l (.tup ys))) ∨ (SqT K H p ys ∧ Q (.ref p) H))
theorem call_tupOf {X : Cx} : CallR X (.type "tuple") (rTupOf X.K) := call_tuple_of
theorem next_of {D : Ends} {σ : L2.St} {H : Hp} (h : D.nx σ H) : tNext D σ H := h
/-- the indexes without which the same moves hold the row -/
def ndB (rs : List Int) (L : List (List Int)) (k : Nat) : Bool := decide ((holdL (rs.eraseIdx k) L).length = (holdL rs L).length)
def ndx (rs : List Int) (L : List (List Int)) : List Int := pts (ndB rs L) rs.length
theorem ndx_at {rs : List Int} {L : List (List Int)} {k : Int} {r : List Int} (h : ndx rs L = k :: r) : 0 ≤ k ∧ k.toNat < rs.length ∧ ndB rs L k.toNat = true := pts_mem.mp (by
  show k ∈ ndx rs L
  rw [h]
  exact List.mem_cons_self)
theorem erase_cut (ds : List PyData) (k : Nat) : cutD ds none (some (k : Int)) ++ cutD ds (some ((k : Int) + 1)) none = ds.eraseIdx k := by
  have e1 : HT.sIx ds.length ds.length (some (k : Int)) = min k ds.length := HT.sIx_nat _ _ k
  have e2 : HT.sIx ds.length 0 none = 0 := rfl
  have e3 : HT.sIx ds.length 0 (some ((k : Int) + 1)) = min (k + 1) ds.length := HT.sIx_nat _ _ (k + 1)
  have e4 : HT.sIx ds.length ds.length none = ds.length := rfl
  unfold cutD
  rw [e1, e2, e3, e4, List.drop_zero, Nat.sub_zero, List.eraseIdx_eq_take_drop_succ]
  congr 1
  · rcases Nat.lt_or_ge ds.length k with c | c
    · rw [Nat.min_eq_right (by omega), List.take_length, List.take_of_length_le (by omega)]
    · rw [Nat.min_eq_left c]
  · rw [List.take_of_length_le (by rw [List.length_drop]; omega)]
    rcases Nat.lt_or_ge ds.length (k + 1) with c | c
    · rw [Nat.min_eq_right (by omega), List.drop_length, List.drop_of_length_le (by omega)]
    · rw [Nat.min_eq_left c]
/-- tuple(a[lo:hi]) of a list or a tuple -/
theorem ev_cutT {G0 : Hp} {σ : L2.St} {K : PySem.W.Frag} {i : Nat} {a : Addr} {xs : List V} {ds : List PyData} {tl th : TO} {lo hi : Option Int} (e : σ[i]? = some (some (.ref a))) (ha : HasL G0 a xs) (dx : DaAll G0 xs ds) (hl : EvO G0 σ tl lo) (hh : EvO G0 σ th hi) :
    Ev G0 σ (tCB (rTupOf K) (tCons (tSl (fun x lo hi H Q => rSlLN K x lo hi H Q ∨ rSlA K x lo hi H Q) (tVar i) tl th) tNil)) (.tuple (cutD ds lo hi)) := fun G H Q g gh q =>
  ⟨_, e, hl H _ (g.trans gh) (hh H _ (g.trans gh) (by
    have kc := (dx.up g).cut lo hi
    rcases ha with ha | ha
    · refine .inl ⟨a, xs, rfl, .of (gh _ _ (g _ _ ha)), fun p H1 n1 => ⟨p, _, rfl, .inl ⟨.of n1.at, fun l hl => ?_⟩⟩⟩
      obtain ⟨G2, s2, g2, k2, -⟩ := ((Stq.refl gh).pure n1.same).know2 (p := l) (o := .tup (cutV xs lo hi)) ⟨hl, rfl⟩
      exact q _ G2 _ s2 (.tup k2 (kc.up g2))
    · refine .inr ⟨a, xs, rfl, .of (gh _ _ (g _ _ ha)), fun e => ⟨a, _, rfl, .inr ⟨.of (gh _ _ (g _ _ ha)), ?_⟩⟩, fun _ p hp => ⟨p, cutV xs lo hi, rfl, .inr ⟨.of upd_same, ?_⟩⟩⟩
      · have ex : cutV xs lo hi = xs := by
          unfold cutV
          rw [e.1, e.2, List.drop_zero]
          exact List.take_of_length_le (by omega)
        rw [ex] at kc
        exact q _ G H (Stq.refl gh) (.tup (g _ _ ha) kc)
      · obtain ⟨G2, s2, g2, k2, -⟩ := (Stq.refl gh).know2 (p := p) (o := .tup (cutV xs lo hi)) ⟨hp, rfl⟩
        exact q _ G2 _ s2 (.tup k2 (kc.up g2))))⟩
theorem erase_map {α β : Type} (f : α → β) : ∀ (l : List α) (k : Nat), (l.map f).eraseIdx k = (l.eraseIdx k).map f
  | [], _ => rfl
  | _ :: _, 0 => rfl
  | a :: l, k + 1 => by
    show f a :: (l.map f).eraseIdx k = f a :: (l.eraseIdx k).map f
    rw [erase_map f l k]
/-- the row without its entry at the index -/
def spWithout : Sp := fun vs H Q _ => ∃ (G : Hp) (a : Addr) (rs : List Int) (k : Nat), vs = [.ref a, .int (k : Int)] ∧ Same G H ∧ HasL G a (rs.map V.int) ∧ rs.length ≤ 24 ∧ ∀ (v : V) (G' H' : Hp), Stq G H G' H' → Da G' v (.tuple ((rs.eraseIdx k).map .int)) → Q v H'
theorem ok_without (Z : Zs mg) (D : Ds K mg) : Cal P w K mg base "without" 1 ["row", "index"] spWithout := by
  refine Def.cal D.d_without sc_without (fun vs H Q E h => ?_) (fun f cdv A outer s H vs Q E hr h => ?_)
  · obtain ⟨G, a, rs, k, rfl, gh, ha, lr, q⟩ := h
    rfl
  obtain ⟨G, a, rs, k, rfl, gh, ha, lr, q⟩ := h
  refine ⟨_, (pss_one (ps_ret (pe_op op_catA (pe_callTy call_tupOf (by rfl) Z.z_tuple (by decide +kernel) (pa_cons (pe_slice (SlR.or sl_listN sl_tupA) (pv 0) po_none (po_some (pv 1))) pa_nil)) (pe_callTy call_tupOf (by rfl) Z.z_tuple (by decide +kernel) (pa_cons (pe_slice (SlR.or sl_listN sl_tupA) (pv 0) (po_some (pe_op op_add (pv 1) pe_int)) po_none) pa_nil))))), ?_⟩
  have I : EvI G [some (.ref a), some (.int (k : Int))] (tVar 1) (k : Int) := evi_var rfl
  have c1 := ev_cutT (K := K) (i := 0) (tl := tNoPart) (th := tPart (tVar 1)) (σ := [some (.ref a), some (.int (k : Int))]) rfl ha (DaAll.ints rs) evo_none (evo_some I)
  have c2 := ev_cutT (K := K) (i := 0) (th := tNoPart) (tl := tPart (tOp (rI0 fun i j => .int (i + j)) (tVar 1) (tC (.int 1)))) (σ := [some (.ref a), some (.int (k : Int))]) rfl ha (DaAll.ints rs) (evo_some (evi_op I (evi_c 1))) evo_none
  have c3 := ev_cat (K := K) c1 c2 (by
    have l1 : ∀ lo hi, (cutD (rs.map PyData.int) lo hi).length ≤ 24 := fun lo hi => by
      unfold cutD
      rw [List.length_take, List.length_drop, List.length_map]
      omega
    have := l1 none (some (k : Int))
    have := l1 (some ((k : Int) + 1)) none
    omega)
  rw [erase_cut, erase_map] at c3
  exact c3 G H _ (Same.refl _) gh fun v G' H' s d => q v G' H' s d
def spNeedless (K : PySem.W.Frag) (C : Addr) : Sp := fun vs H Q _ => ∃ (G : Hp) (x a : Addr) (n : Int) (T L : List (List Int)) (rs : List Int), vs = [.ref x, .ref a] ∧ Same G H ∧ WAt C G x n T L ∧ WOk n T L ∧ HasL G a (rs.map V.int) ∧ (∀ r ∈ rs, inR n r) ∧ rs.length ≤ 24 ∧
  ∀ (p : Addr) (G' H' : Hp), Stq G H G' H' → G' p = some (.tup ((ndx rs L).map V.int)) → Q (.ref p) H'
theorem ok_needless {CW DP DT : Addr} (Z : Zs mg) (D : Ds K mg) (c_holders : CalX P w K mg base "holders" 5 ["world", "lot"] (spHolders K CW DP DT)) (c_without : Cal P w K mg base "without" 1 ["row", "index"] spWithout) : Cal P w K mg base "needless_indexes" 6 ["world", "row"] (spNeedless K CW) := by
  refine Def.cal D.d_needless_indexes sc_needless_indexes (fun vs H Q E h => ?_) (fun f cdv A outer s H vs Q E hr h => ?_)
  · obtain ⟨G, x, a, n, T, L, rs, rfl, gh, wat, ok, ha, inr, lr, q⟩ := h
    rfl
  obtain ⟨G, x, a, n, T, L, rs, rfl, gh, wat, ok, ha, inr, lr, q⟩ := h
  refine ⟨_, (pss_cons (ps_set (i := 2) sc_needless_indexes.nd rfl (Or.inr rfl) (pe_callB call_len_seq (by rfl) Z.z_len (by decide +kernel) (pa_cons (pe_calQ c_holders (hr.mono (by first | decide | omega)) (by rfl) (pa_cons (pv 0) (pa_cons (pv 1) pa_nil))) pa_nil)))
      (pss_one (ps_ret (pe_callTy call_tupleN (by rfl) Z.z_tuple (by decide +kernel) (pa_cons (pe_lc (own := [("index", 3)]) (g := gName 3) (by rfl) sc_needless_indexes.nd (pi_range1 (by rfl) Z.z_range (pa_cons (pe_callB call_len (by rfl) Z.z_len (by decide +kernel) (pa_cons (pv 1) pa_nil)) pa_nil)) (blkOk_by (N := ["world", "row", "many", "index"]) (sc := defScope s_needless_indexes) (by decide +kernel)) (fun _ _ _ _ _ => pg_name (i := 3) sc_needless_indexes.nd rfl (Or.inl rfl)) (fun _ _ _ _ _ => pts_one (pt_cmp (pc_eqI (pe_callB (call_len_seqK (K := K) rfl) (by rfl) Z.z_len (by decide +kernel) (pa_cons (pe_calQ c_holders (hr.mono (by first | decide | omega)) (by rfl) (pa_cons (pv 0) (pa_cons (pe_cal c_without (hr.mono (by first | decide | omega)) (by rfl) (pa_cons (pv 1) (pa_cons (pv 3) pa_nil))) pa_nil))) pa_nil)) (pv 2)) (nomark _))) (fun _ _ _ _ _ => (pv 3))) pa_nil))))), ?_⟩
  refine ⟨_, rfl, _, rfl, G, x, a, n, T, L, _, _, rfl, gh, wat, ok, .inl (ha.up gh), DaAll.ints rs, rowJ_good inr lr fun p ys G1 H1 s1 gp fp hp dy => ?_⟩
  have ly := dy.length
  rw [List.length_map] at ly
  have ha1 := (ha.up gh).up s1.hh
  refine ⟨p, _, rfl, .inl (.of hp), _, rfl, _, _, rfl, ha1.lenV, _, rfl, by rw [List.length_map]; omega, by rw [List.length_map]; omega, fun z hz => ?_⟩
  rw [List.length_map]
  refine lc_range (lo := 0) (n := ((rs.length : Nat) : Int).toNat) (fun i H' => Same H1 H' ∧ H1 z = none ∧ H' z = some (.lst ((pts (ndB rs L) i).map V.int))) ?_ ?_ ?_
  · exact ⟨New.same (o := .lst []) ⟨hz, rfl⟩, hz, upd_same⟩
  · rintro i H2 hi ⟨s2, fz, hz2⟩
    rw [Int.zero_add]
    have g2 := gh.trans (s1.hh.trans s2)
    refine ⟨rfl, _, rfl, _, rfl, _, rfl, G, a, rs, i, rfl, g2, ha, lr, fun v G3 H3 s3 d3 => ?_⟩
    obtain ⟨b, xs3, rfl, hb, dx3⟩ := da_tup d3
    obtain rfl := vals_int dx3
    have ine : ∀ r ∈ rs.eraseIdx i, inR n r := fun r hr => inr r (List.mem_of_mem_eraseIdx hr)
    have lre : (rs.eraseIdx i).length ≤ 24 := Nat.le_trans (List.length_eraseIdx_le ..) lr
    refine ⟨G3, x, b, n, T, L, _, _, rfl, s3.gh, wat.up s3.gg, ok, .inl (.inr (s3.gh _ _ hb)), DaAll.ints _, rowJ_good ine lre fun p4 ys4 G4 H4 s4 gp4 fp4 hp4 dy4 => ?_⟩
    have ly4 := dy4.length
    rw [List.length_map] at ly4
    have hz4 := s4.hh _ _ (s3.hh _ _ hz2)
    have s24 := (s2.trans s3.hh).trans s4.hh
    have lp := pts_len (ndB rs L) i
    refine ⟨p4, _, rfl, .inl (.of hp4), _, rfl, _, _, rfl, rfl, _, rfl, ?_⟩
    have eqv : decide ((((ys4.length : Nat) : Int)) = ((ys.length : Nat) : Int)) = ndB rs L i := decide_eq_decide.mpr ⟨fun e => by omega, fun e => by omega⟩
    refine ite2 (fun c => ?_) (fun c => ?_)
    · refine ⟨_, rfl, _, hz4, by rw [List.length_map]; exact Hd.lt (by omega), same_mut s24 fz rfl, fz, ?_⟩
      rw [upd_same, pts_step, if_pos (eqv.symm.trans c), List.map_append]
      rfl
    · refine ⟨s24, fz, ?_⟩
      rw [hz4, pts_step, if_neg (by rw [← eqv]; exact c), List.append_nil]
  · rintro H2 ⟨s2, fz, hz2⟩
    refine ⟨z, _, rfl, .of hz2, fun tp H3 n3 => ?_⟩
    obtain ⟨G3, s3, g3, k3, -⟩ := (s1.pure s2).know2 n3
    rw [show ((rs.length : Nat) : Int).toNat = rs.length by omega] at k3
    exact q tp G3 H3 s3 k3
/-- the bad order of a row -/
def boD (rs : List Int) (L : List (List Int)) : PyData := match ndx rs L with
  | [] => .none
  | k :: _ => .tuple [.tuple (rs.map .int), .tuple (((rs.eraseIdx k.toNat) ++ [rs.getD k.toNat 0]).map .int), .int ((rs.length : Nat) - 1 : Int)]
theorem boD_nil {rs : List Int} {L : List (List Int)} (e : ndx rs L = []) : boD rs L = .none := by
  unfold boD
  rw [e]
theorem boD_cons {rs : List Int} {L : List (List Int)} {k : Nat} {r : List Int} (e : ndx rs L = (k : Int) :: r) : boD rs L = .tuple [.tuple (rs.map .int), .tuple (((rs.eraseIdx k) ++ [rs.getD k 0]).map .int), .int ((rs.length : Nat) - 1 : Int)] := by
  unfold boD
  rw [e]
  rfl
def spBadOrd (K : PySem.W.Frag) (C DP DT DI DF : Addr) : Sp := fun vs H Q E => ∃ (G : Hp) (x a : Addr) (n : Int) (T L : List (List Int)) (xs : List V) (ds : List PyData), vs = [.ref x, .ref a] ∧ Same G H ∧ WAt C G x n T L ∧ WOk n T L ∧ HasL G a xs ∧ DaAll G xs ds ∧
  RowJ n xs ds DP DT E H fun rs => TFJ n rs L DI DF E H (∀ (v : V) (G' H' : Hp), Stq G H G' H' → Da G' v (boD rs L) → Q v H')
theorem tupOf_ok {K : PySem.W.Frag} {G H G1 H1 : Hp} {a : Addr} {xs : List V} {Q : VK} (s : Stq G H G1 H1) (ha : HasL G1 a xs) (q : ∀ (p : Addr) (G2 H2 : Hp), Stq G H G2 H2 → Same G1 G2 → G2 p = some (.tup xs) → Q (.ref p) H2) : rTupOf K [.ref a] H1 Q := by
  rcases ha with ha | ha
  · refine ⟨a, xs, rfl, .inl ⟨.of (s.gh _ _ ha), fun l hl => ?_⟩⟩
    obtain ⟨G2, s2, g2, k2, -⟩ := s.know2 (p := l) (o := .tup xs) ⟨hl, rfl⟩
    exact q l G2 _ s2 g2 k2
  · exact ⟨a, xs, rfl, .inr ⟨.of (s.gh _ _ ha), q a G1 H1 s (Same.refl _) ha⟩⟩
theorem ixSeq_ok {K : PySem.W.Frag} {H : Hp} {a : Addr} {xs : List V} {i : Int} {y : V} {Q : VK} (ha : HasL H a xs) (e : atI xs i = some y) (q : Q y H) : rIx K (.ref a) (.int i) H Q := ha.elim (fun h => .inl ⟨a, xs, i, y, rfl, rfl, .of h, e, q⟩) fun h => .inr (.inl ⟨a, xs, i, y, rfl, rfl, .of h, e, q⟩)
theorem catS_ok {K : PySem.W.Frag} {G H G1 H1 : Hp} {a b : Addr} {xs ys : List V} {Q : VK} (s : Stq G H G1 H1) (ka : G1 a = some (.tup xs)) (kb : G1 b = some (.tup ys)) (l : xs.length + ys.length ≤ 1000) (q : ∀ (p : Addr) (G2 H2 : Hp), Stq G H G2 H2 → Same G1 G2 → G2 p = some (.tup (xs ++ ys)) → Q (.ref p) H2) : rCatA K (.ref a) (.ref b) H1 Q := by
  refine ⟨a, b, xs, ys, rfl, rfl, .of (s.gh _ _ ka), .of (s.gh _ _ kb), Nat.le_trans l (by decide), fun e => ?_, fun _ e => ?_, fun _ _ p hp => ?_⟩
  · subst e
    exact q b G1 H1 s (Same.refl _) kb
  · subst e
    exact q a G1 H1 s (Same.refl _) (by rw [List.append_nil]; exact ka)
  · obtain ⟨G2, s2, g2, k2, -⟩ := s.know2 (p := p) (o := .tup (xs ++ ys)) ⟨hp, rfl⟩
    exact q p G2 _ s2 g2 k2
theorem ok_bad_order {CW DP DT DI DF : Addr} (Z : Zs mg) (D : Ds K mg) (W : Dw K mg CW) (c_World_points : CalP P w K mg base CW "points" 1 ["self"] (spPoints CW)) (c_check_row : CalX P w K mg base "check_row" 4 ["points", "row"] (spCheckRow K DP DT)) (c_check_tight_full : CalX P w K mg base "check_tight_full" 8 ["world", "row"] (spChkTF K CW DP DT DI DF)) (c_needless_indexes : Cal P w K mg base "needless_indexes" 6 ["world", "row"] (spNeedless K CW)) (c_without : Cal P w K mg base "without" 1 ["row", "index"] spWithout) : CalX P w K mg base "bad_order" 9 ["world", "row"] (spBadOrd K CW DP DT DI DF) := by
  refine Def.calX D.d_bad_order sc_bad_order (fun vs H Q E h => ?_) (fun f cdv A outer s H vs Q E hr h => ?_)
  · obtain ⟨G, x, a, n, T, L, xs, ds, rfl, gh, wat, ok, ha, dx, q1, q2, q3⟩ := h
    rfl
  obtain ⟨G, x, a, n, T, L, xs, ds, rfl, gh, wat, ok, ha, dx, q1, q2, q3⟩ := h
  refine ⟨_, (pss_cons (ps_expr (pe_calX c_check_row (L2N.takes_of rfl rfl rfl rfl) (hr.mono (by first | decide | omega)) (by rfl) (pa_cons (pe_propQ W.wc c_World_points (hr.mono (by first | decide | omega)) (pv 0)) (pa_cons (pv 1) pa_nil))))
      (pss_cons (ps_expr (pe_calX c_check_tight_full (L2N.takes_of rfl rfl rfl rfl) (hr.mono (by first | decide | omega)) (by rfl) (pa_cons (pv 0) (pa_cons (pv 1) pa_nil))))
      (pss_cons (ps_set (i := 2) sc_bad_order.nd rfl (Or.inl rfl) (pe_cal c_needless_indexes (hr.mono (by first | decide | omega)) (by rfl) (pa_cons (pv 0) (pa_cons (pv 1) pa_nil))))
      (pss_cons (ps_if (pt_not (pt_truth (pv 2) (by intro _; rfl))) (pss_one (ps_ret pe_non)) pss_nil)
      (pss_one (ps_ret (pe_tupN (pa_cons (pe_callTy call_tupOf (by rfl) Z.z_tuple (by decide +kernel) (pa_cons (pv 1) pa_nil)) (pa_cons (pe_op op_catA (pe_cal c_without (hr.mono (by first | decide | omega)) (by rfl) (pa_cons (pv 1) (pa_cons (pe_ix ix_tup (pv 2) pe_int (fun _ _ => rfl)) pa_nil))) (pe_tupN (pa_cons (pe_ix ix_seq (pv 1) (pe_ix ix_tup (pv 2) pe_int (fun _ _ => rfl)) (fun _ _ => rfl)) pa_nil))) (pa_cons (pe_op op_sub (pe_callB call_len (by rfl) Z.z_len (by decide +kernel) (pa_cons (pv 1) pa_nil)) pe_int) pa_nil)))))))))), ?_⟩
  obtain ⟨dx0, ml, tl, ms, ts, h1, h2, h3, h4, h5⟩ := id wat
  refine ⟨_, rfl, x, dx0, _, rfl, gh _ _ h1, G, x, n, T, L, rfl, gh, wat, _, rfl, G, a, xs, ds, n, rfl, gh, .inl (ha.up gh), dx, q1, q2, fun l24 rs e inr H1 s1 => ?_⟩
  have j := q3 l24 rs e inr
  subst e
  obtain rfl := vals_int dx
  rw [List.length_map] at l24
  have g1 := gh.trans s1
  refine ⟨_, rfl, _, rfl, G, x, a, n, T, L, _, _, rfl, g1, wat, ok, .inl (ha.up g1), dx, rowJ_good inr l24 ⟨fun k r e => Errs.upS s1 (j.loose k r e), fun e0 k r e1 => Errs.upS s1 (j.open_ e0 k r e1), fun e0 e1 H2 s2 => ?_⟩⟩
  have q := j.good e0 e1
  have s12 := s1.trans s2
  refine ⟨_, rfl, _, rfl, G, x, a, n, T, L, rs, rfl, gh.trans s12, wat, ok, ha, inr, l24, fun p G3 H3 s3 kp => ?_⟩
  have S3 : Stq G H G3 H3 := ((Stq.refl gh).pure s12).trans s3
  refine ⟨_, rfl, !((ndx rs L).map V.int).isEmpty, .inr (.inl ⟨_, .of (s3.gh _ _ kp), rfl⟩), ?_⟩
  cases en : ndx rs L with
  | nil =>
    refine iteT (q _ G3 H3 S3 ?_)
    unfold boD
    rw [en]
    exact .non
  | cons k r =>
    obtain ⟨k0, kl, -⟩ := ndx_at en
    obtain ⟨kn, rfl⟩ := Int.eq_ofNat_of_zero_le k0
    rw [Int.toNat_natCast] at kl
    rw [en] at kp
    have hr : rs[kn]? = some rs[kn] := List.getElem?_eq_getElem kl
    have gd : rs.getD kn 0 = rs[kn] := by rw [List.getD_eq_getElem?_getD, hr]; rfl
    have at_ : atI (rs.map V.int) (kn : Int) = some (V.int rs[kn]) := atI_nat (by rw [List.getElem?_map, hr]; rfl)
    refine iteF (next_of ⟨_, rfl, ?_⟩)
    dsimp only [tNil]
    refine tupOf_ok S3 (ha.up S3.gg) fun p4 G4 H4 S4 g4 k4 => ?_
    have kp4 := g4 _ _ kp
    refine ⟨_, rfl, _, rfl, p, _, 0, _, rfl, rfl, .of (S4.gh _ _ kp4), atI_nat (j := 0) rfl, G4, a, rs, kn, rfl, S4.gh, ha.up S4.gg, l24, fun v5 G5 H5 s5 d5 => ?_⟩
    have S5 := S4.trans s5
    have kp5 := s5.gg _ _ kp4
    obtain ⟨b5, xs5, rfl, h5', dx5⟩ := da_tup d5
    obtain rfl := vals_int dx5
    refine ⟨_, rfl, _, rfl, p, _, 0, _, rfl, rfl, .of (S5.gh _ _ kp5), atI_nat (j := 0) rfl, ixSeq_ok ((ha.up S5.gg).up S5.gh) at_ ?_⟩
    refine ⟨by show 1 ≤ sizeLine; decide, fun t6 H6 n6 => ?_⟩
    obtain ⟨G6, S6, g6, k6, -⟩ := S5.know2 n6
    refine catS_ok S6 (g6 _ _ h5') k6 (by
      have := List.length_eraseIdx_le rs kn
      rw [List.length_map]
      show _ + 1 ≤ 1000
      omega) fun p7 G7 H7 S7 g7 k7 => ?_
    refine ⟨_, rfl, _, _, rfl, ((ha.up S7.gg).up S7.gh).lenV, _, _, rfl, rfl, by show 3 ≤ sizeLine; decide, fun t8 H8 n8 => ?_⟩
    obtain ⟨G8, S8, g8, k8, -⟩ := S7.know2 n8
    refine q _ G8 H8 S8 ?_
    rw [boD_cons en, gd]
    have k7' : G8 p7 = some (.tup (((rs.eraseIdx kn) ++ [rs[kn]]).map V.int)) := by
      rw [List.map_append]
      exact g8 _ _ k7
    rw [List.length_map] at k8
    exact .tup k8 (.cons (.tup (g8 _ _ (g7 _ _ (g6 _ _ (s5.gg _ _ k4)))) (DaAll.ints rs)) (.cons (.tup k7' (DaAll.ints _)) (.cons (.int _) .nil)))
def spEvery (K : PySem.W.Frag) (C DP DT DI DF : Addr) : Sp := fun vs H Q E => ∃ (G : Hp) (x a : Addr) (n : Int) (T L : List (List Int)) (xs : List V) (ds : List PyData), vs = [.ref x, .ref a] ∧ Same G H ∧ WAt C G x n T L ∧ WOk n T L ∧ HasL G a xs ∧ DaAll G xs ds ∧
  RowJ n xs ds DP DT E H fun rs => TFJ n rs L DI DF E H (∀ H' : Hp, Same H H' → Q (.bl (decide (ndx rs L = []))) H')
theorem ok_every {CW DP DT DI DF : Addr} (Z : Zs mg) (D : Ds K mg) (c_bad_order : CalX P w K mg base "bad_order" 9 ["world", "row"] (spBadOrd K CW DP DT DI DF)) : CalX P w K mg base "every_order_tight" 10 ["world", "row"] (spEvery K CW DP DT DI DF) := by
  refine Def.calX D.d_every_order_tight sc_every_order_tight (fun vs H Q E h => ?_) (fun f cdv A outer s H vs Q E hr h => ?_)
  · obtain ⟨G, x, a, n, T, L, xs, ds, rfl, gh, wat, ok, ha, dx, q1, q2, q3⟩ := h
    rfl
  obtain ⟨G, x, a, n, T, L, xs, ds, rfl, gh, wat, ok, ha, dx, q1, q2, q3⟩ := h
  refine ⟨_, (pss_one (ps_ret (pe_cmpR op_isN (pe_calX c_bad_order (L2N.takes_of rfl rfl rfl rfl) (hr.mono (by first | decide | omega)) (by rfl) (pa_cons (pv 0) (pa_cons (pv 1) pa_nil))) pe_non (nomark _)))), ?_⟩
  refine ⟨_, rfl, _, rfl, G, x, a, n, T, L, xs, ds, rfl, gh, wat, ok, ha, dx, q1, q2, fun l24 rs e inr => ?_⟩
  have j := q3 l24 rs e inr
  refine ⟨j.loose, j.open_, fun e0 e1 v G1 H1 s1 dv => ?_⟩
  have q := j.good e0 e1 H1 s1.hh
  unfold boD at dv
  cases en : ndx rs L with
  | nil =>
    rw [en] at dv q
    cases dv
    exact ⟨rfl, q⟩
  | cons k r =>
    rw [en] at dv q
    obtain ⟨b, ys, rfl, -⟩ := da_tup dv
    exact ⟨rfl, q⟩


def spKinds (K : PySem.W.Frag) (mg : Str → Option Value) : SpH := fun p vs H Q _ => ∃ (k : Nat) (nm : Str) (D d : Addr) (fs : List (Str × V)), vs = [.ref p.1] ∧ Es K mg k nm D ∧ ErrAt D d fs H p ∧ ∀ H', Same H H' → Q (.int 1) H'
theorem sum_one : ∀ k, k < 15 → (([k == 0, k == 1, k == 2, k == 3, k == 4, k == 5, k == 6, k == 7, k == 8, k == 9, k == 10, k == 11, k == 12, k == 13, k == 14] : List Bool).map fun b => if b = true then (1 : Int) else 0).sum = 1 := by decide
theorem ok_kinds_h (Z : Zs mg) (D : Ds K mg) : CalE P w K mg base "_law_kinds" 1 ["error"] (spKinds K mg) := by
  refine Def.calE D.d_law_kinds sc_law_kinds (fun p vs H Q E h => ?_) (fun f cdv A outer s H vs Q E p hot hr h => ?_)
  · obtain ⟨k, nm, C, d, fs, rfl, es, er, q⟩ := h
    rfl
  obtain ⟨k, nm, C, d, fs, rfl, es, er, q⟩ := h
  have ec := es.ec
  obtain ⟨C_BadNumber, g_BadNumber, t_BadNumber⟩ := es.i_BadNumber
  obtain ⟨C_NoSuchLength, g_NoSuchLength, t_NoSuchLength⟩ := es.i_NoSuchLength
  obtain ⟨C_NotABase, g_NotABase, t_NotABase⟩ := es.i_NotABase
  obtain ⟨C_NotAFailing, g_NotAFailing, t_NotAFailing⟩ := es.i_NotAFailing
  obtain ⟨C_NotAMove, g_NotAMove, t_NotAMove⟩ := es.i_NotAMove
  obtain ⟨C_NotAPoint, g_NotAPoint, t_NotAPoint⟩ := es.i_NotAPoint
  obtain ⟨C_NotAnOrder, g_NotAnOrder, t_NotAnOrder⟩ := es.i_NotAnOrder
  obtain ⟨C_NotFull, g_NotFull, t_NotFull⟩ := es.i_NotFull
  obtain ⟨C_NotNeighbours, g_NotNeighbours, t_NotNeighbours⟩ := es.i_NotNeighbours
  obtain ⟨C_NotShorter, g_NotShorter, t_NotShorter⟩ := es.i_NotShorter
  obtain ⟨C_NotTight, g_NotTight, t_NotTight⟩ := es.i_NotTight
  obtain ⟨C_OrderMatters, g_OrderMatters, t_OrderMatters⟩ := es.i_OrderMatters
  obtain ⟨C_SameLength, g_SameLength, t_SameLength⟩ := es.i_SameLength
  obtain ⟨C_TooMany, g_TooMany, t_TooMany⟩ := es.i_TooMany
  obtain ⟨C_UnlikeSizes, g_UnlikeSizes, t_UnlikeSizes⟩ := es.i_UnlikeSizes
  refine ⟨_, (pss_cons (ps_set (i := 1) sc_law_kinds.nd rfl (Or.inl rfl) (pe_lstN (pa_cons (pe_callB (call_isErr (d := d) ec List.mem_cons_self) (by rfl) Z.z_isinstance (by decide +kernel) (pa_cons (pv 0) (pa_cons (pe_cls (by rfl) g_BadNumber) pa_nil))) (pa_cons (pe_callB (call_isErr (d := d) ec List.mem_cons_self) (by rfl) Z.z_isinstance (by decide +kernel) (pa_cons (pv 0) (pa_cons (pe_cls (by rfl) g_NoSuchLength) pa_nil))) (pa_cons (pe_callB (call_isErr (d := d) ec List.mem_cons_self) (by rfl) Z.z_isinstance (by decide +kernel) (pa_cons (pv 0) (pa_cons (pe_cls (by rfl) g_NotABase) pa_nil))) (pa_cons (pe_callB (call_isErr (d := d) ec List.mem_cons_self) (by rfl) Z.z_isinstance (by decide +kernel) (pa_cons (pv 0) (pa_cons (pe_cls (by rfl) g_NotAFailing) pa_nil))) (pa_cons (pe_callB (call_isErr (d := d) ec List.mem_cons_self) (by rfl) Z.z_isinstance (by decide +kernel) (pa_cons (pv 0) (pa_cons (pe_cls (by rfl) g_NotAMove) pa_nil))) (pa_cons (pe_callB (call_isErr (d := d) ec List.mem_cons_self) (by rfl) Z.z_isinstance (by decide +kernel) (pa_cons (pv 0) (pa_cons (pe_cls (by rfl) g_NotAPoint) pa_nil))) (pa_cons (pe_callB (call_isErr (d := d) ec List.mem_cons_self) (by rfl) Z.z_isinstance (by decide +kernel) (pa_cons (pv 0) (pa_cons (pe_cls (by rfl) g_NotAnOrder) pa_nil))) (pa_cons (pe_callB (call_isErr (d := d) ec List.mem_cons_self) (by rfl) Z.z_isinstance (by decide +kernel) (pa_cons (pv 0) (pa_cons (pe_cls (by rfl) g_NotFull) pa_nil))) (pa_cons (pe_callB (call_isErr (d := d) ec List.mem_cons_self) (by rfl) Z.z_isinstance (by decide +kernel) (pa_cons (pv 0) (pa_cons (pe_cls (by rfl) g_NotNeighbours) pa_nil))) (pa_cons (pe_callB (call_isErr (d := d) ec List.mem_cons_self) (by rfl) Z.z_isinstance (by decide +kernel) (pa_cons (pv 0) (pa_cons (pe_cls (by rfl) g_NotShorter) pa_nil))) (pa_cons (pe_callB (call_isErr (d := d) ec List.mem_cons_self) (by rfl) Z.z_isinstance (by decide +kernel) (pa_cons (pv 0) (pa_cons (pe_cls (by rfl) g_NotTight) pa_nil))) (pa_cons (pe_callB (call_isErr (d := d) ec List.mem_cons_self) (by rfl) Z.z_isinstance (by decide +kernel) (pa_cons (pv 0) (pa_cons (pe_cls (by rfl) g_OrderMatters) pa_nil))) (pa_cons (pe_callB (call_isErr (d := d) ec List.mem_cons_self) (by rfl) Z.z_isinstance (by decide +kernel) (pa_cons (pv 0) (pa_cons (pe_cls (by rfl) g_SameLength) pa_nil))) (pa_cons (pe_callB (call_isErr (d := d) ec List.mem_cons_self) (by rfl) Z.z_isinstance (by decide +kernel) (pa_cons (pv 0) (pa_cons (pe_cls (by rfl) g_TooMany) pa_nil))) (pa_cons (pe_callB (call_isErr (d := d) ec List.mem_cons_self) (by rfl) Z.z_isinstance (by decide +kernel) (pa_cons (pv 0) (pa_cons (pe_cls (by rfl) g_UnlikeSizes) pa_nil))) pa_nil)))))))))))))))))
      (pss_one (ps_ret (pe_callB (cr_sumH (hot_in hot List.mem_cons_self)) (by rfl) Z.z_sum (by decide +kernel) (pa_cons (pe_lcH (own := [("flag", 2)]) (g := gName 2) (tt := tYes) (hot_in hot List.mem_cons_self) sc_law_kinds.nd (ih_list (pv 1)) (blkOk_by (N := ["error", "kinds", "flag"]) (sc := defScope s_law_kinds) (by decide +kernel)) (fun _ _ _ _ _ => pg_name (i := 2) sc_law_kinds.nd rfl (Or.inl rfl)) (fun _ _ _ _ _ => pts_nil) (fun _ _ _ _ _ => (pe_callTy call_int1 (by rfl) Z.z_int (by decide +kernel) (pa_cons (pv 2) pa_nil)))) pa_nil))))), ?_⟩
  refine ⟨_, rfl, .ref C_BadNumber, .ref C_BadNumber, _, fs, rfl, fun u r => r, t_BadNumber, er, _, rfl, .ref C_NoSuchLength, .ref C_NoSuchLength, _, fs, rfl, fun u r => r, t_NoSuchLength, er, _, rfl, .ref C_NotABase, .ref C_NotABase, _, fs, rfl, fun u r => r, t_NotABase, er, _, rfl, .ref C_NotAFailing, .ref C_NotAFailing, _, fs, rfl, fun u r => r, t_NotAFailing, er, _, rfl, .ref C_NotAMove, .ref C_NotAMove, _, fs, rfl, fun u r => r, t_NotAMove, er, _, rfl, .ref C_NotAPoint, .ref C_NotAPoint, _, fs, rfl, fun u r => r, t_NotAPoint, er, _, rfl, .ref C_NotAnOrder, .ref C_NotAnOrder, _, fs, rfl, fun u r => r, t_NotAnOrder, er, _, rfl, .ref C_NotFull, .ref C_NotFull, _, fs, rfl, fun u r => r, t_NotFull, er, _, rfl, .ref C_NotNeighbours, .ref C_NotNeighbours, _, fs, rfl, fun u r => r, t_NotNeighbours, er, _, rfl, .ref C_NotShorter, .ref C_NotShorter, _, fs, rfl, fun u r => r, t_NotShorter, er, _, rfl, .ref C_NotTight, .ref C_NotTight, _, fs, rfl, fun u r => r, t_NotTight, er, _, rfl, .ref C_OrderMatters, .ref C_OrderMatters, _, fs, rfl, fun u r => r, t_OrderMatters, er, _, rfl, .ref C_SameLength, .ref C_SameLength, _, fs, rfl, fun u r => r, t_SameLength, er, _, rfl, .ref C_TooMany, .ref C_TooMany, _, fs, rfl, fun u r => r, t_TooMany, er, _, rfl, .ref C_UnlikeSizes, .ref C_UnlikeSizes, _, fs, rfl, fun u r => r, t_UnlikeSizes, er, by show 15 ≤ sizeLine; decide, fun a1 H1 n1 => ?_⟩
  have one := sum_one k es.lt
  have hl1 := n1.at
  generalize hbs : ([k == 0, k == 1, k == 2, k == 3, k == 4, k == 5, k == 6, k == 7, k == 8, k == 9, k == 10, k == 11, k == 12, k == 13, k == 14] : List Bool) = bs at one
  have hl1 : H1 a1 = some (.lst (bs.map V.bl)) := by
    rw [hl1, ← hbs]
    rfl
  have lb : bs.length = 15 := by rw [← hbs]; rfl
  refine ⟨_, rfl, a1, rfl, ⟨_, .of hl1⟩, fun l hl => lc_list (xs := bs.map V.bl) (fun i H' => H' l = some (.lst (((bs.take i).map fun b => if b = true then (1 : Int) else 0).map V.int)) ∧ Same H1 H') ?_ ?_ ?_ ?_⟩
  · exact ⟨upd_same, same_put (Same.refl _) hl⟩
  · rintro i H' - ⟨-, s⟩
    exact .of (s _ _ hl1)
  · rintro i x H' hi ⟨hz, s⟩
    have hb : bs[i]?.map V.bl = some x := by rw [← List.getElem?_map]; exact hi
    obtain ⟨b, eb, rfl⟩ := Option.map_eq_some_iff.mp hb
    have ilt : i < 15 := lb ▸ (List.getElem?_eq_some_iff.mp eb).1
    refine ⟨rfl, yesT ⟨_, rfl, .inr ⟨b, rfl, _, hz, ?_, ?_, same_put s hl⟩⟩⟩
    · rw [List.length_map, List.length_map, List.length_take]
      exact lt (by omega)
    · rw [upd_same, List.take_add_one, eb, List.map_append, List.map_append]
      rfl
  · rintro H' ⟨hz, s⟩
    rw [List.length_map, List.take_length] at hz
    refine ⟨l, bs.map fun b => if b = true then (1 : Int) else 0, rfl, .of hz, ?_⟩
    rw [one]
    exact q _ (n1.same.trans s)


/-- a field of an exception -/
def Fd (K : PySem.W.Frag) (C : Addr) (G : Hp) (fs : List (Str × V)) (f : Str) (d : PyData) : Prop := PySem.W.findIn K (.ref C) f = some none ∧ ∃ v, fs.lookup f = some v ∧ Da G v d
theorem Fd.up {K : PySem.W.Frag} {C : Addr} {G G' : Hp} {fs : List (Str × V)} {f : Str} {d : PyData} (h : Fd K C G fs f d) (g : Same G G') : Fd K C G' fs f d := ⟨h.1, h.2.imp fun _ z => ⟨z.1, z.2.up g⟩⟩
/-- an exception, and what is due for it -/
def ErrDue (K : PySem.W.Frag) (mg : Str → Option Value) (G : Hp) (C : Addr) (fs : List (Str × V)) (due : PyData) : Prop := ∃ (k : Nat) (nm : Str), Es K mg k nm C ∧ ((k = 5 ∧ ∃ (d0 : PyData), Fd K C G fs "value" d0 ∧ due = .tuple [.str "NotAPoint", d0]) ∨ (k = 7 ∧ ∃ (d0 : PyData), Fd K C G fs "point" d0 ∧ due = .tuple [.str "NotFull", d0]) ∨ (k = 10 ∧ ∃ (d0 : PyData), Fd K C G fs "index" d0 ∧ due = .tuple [.str "NotTight", d0]) ∨ (k = 13 ∧ ∃ (d0 d1 : PyData), Fd K C G fs "what" d0 ∧ Fd K C G fs "limit" d1 ∧ due = .tuple [.str "TooMany", d0, d1]))
def spRight (K : PySem.W.Frag) (mg : Str → Option Value) : SpH := fun p vs H Q _ => ∃ (G : Hp) (C d : Addr) (fs : List (Str × V)) (w : V) (due : PyData), vs = [.ref p.1, w] ∧ Same G H ∧ ErrAt C d fs H p ∧ ErrDue K mg G C fs due ∧ Da G w due ∧ szD due ≤ 1000 ∧ lv 4 due = true ∧ ∀ H', Same H H' → Q (.bl true) H'
theorem ok_right_h (Z : Zs mg) (D : Ds K mg) (c__law_kinds_h : CalE P w K mg base "_law_kinds" 1 ["error"] (spKinds K mg)) (c__law_agree_h : CalE P w K mg base "_law_agree" 5 ["actual", "due"] (fun _ => spAgree 4)) : CalE P w K mg base "_law_right_error" 6 ["error", "due"] (spRight K mg) := by
  refine Def.calE D.d_law_right_error sc_law_right_error (fun p vs H Q E h => ?_) (fun f cdv A outer s H vs Q E p hot hr h => ?_)
  · obtain ⟨G, C, d, fs, w, due, rfl, gh, er, is, hw, sz, hlv, q⟩ := h
    rfl
  obtain ⟨G, C, d, fs, w, due, rfl, gh, er, is, hw, sz, hlv, q⟩ := h
  obtain ⟨k, nm, es, cases_⟩ := id is
  have ec := es.ec
  obtain ⟨C_NotAPoint, g_NotAPoint, t_NotAPoint⟩ := es.i_NotAPoint
  obtain ⟨C_NotFull, g_NotFull, t_NotFull⟩ := es.i_NotFull
  obtain ⟨C_NotTight, g_NotTight, t_NotTight⟩ := es.i_NotTight
  obtain ⟨C_TooMany, g_TooMany, t_TooMany⟩ := es.i_TooMany
  obtain ⟨C_HeldorderError, g_HeldorderError, t_HeldorderError⟩ := es.iH
  refine ⟨_, (pss_cons (ps_set (i := 2) sc_law_right_error.nd rfl (Or.inl rfl) pe_non)
      (Evl.pss_cut (ps_if (pt_val (pe_callB (call_isErr (d := d) ec List.mem_cons_self) (by rfl) Z.z_isinstance (by decide +kernel) (pa_cons (pv 0) (pa_cons (pe_cls (by rfl) g_NotAPoint) pa_nil)))) (pss_one (ps_set (i := 2) sc_law_right_error.nd rfl (Or.inl rfl) (pe_tupN (pa_cons pe_str (pa_cons (pe_errG (d := d) ec List.mem_cons_self (pv 0)) pa_nil))))) pss_nil)
      (Evl.pss_cut (ps_if (pt_val (pe_callB (call_isErr (d := d) ec List.mem_cons_self) (by rfl) Z.z_isinstance (by decide +kernel) (pa_cons (pv 0) (pa_cons (pe_cls (by rfl) g_NotFull) pa_nil)))) (pss_one (ps_set (i := 2) sc_law_right_error.nd rfl (Or.inl rfl) (pe_tupN (pa_cons pe_str (pa_cons (pe_errG (d := d) ec List.mem_cons_self (pv 0)) pa_nil))))) pss_nil)
      (Evl.pss_cut (ps_if (pt_val (pe_callB (call_isErr (d := d) ec List.mem_cons_self) (by rfl) Z.z_isinstance (by decide +kernel) (pa_cons (pv 0) (pa_cons (pe_cls (by rfl) g_NotTight) pa_nil)))) (pss_one (ps_set (i := 2) sc_law_right_error.nd rfl (Or.inl rfl) (pe_tupN (pa_cons pe_str (pa_cons (pe_errG (d := d) ec List.mem_cons_self (pv 0)) pa_nil))))) pss_nil)
      (Evl.pss_cut (ps_if (pt_val (pe_callB (call_isErr (d := d) ec List.mem_cons_self) (by rfl) Z.z_isinstance (by decide +kernel) (pa_cons (pv 0) (pa_cons (pe_cls (by rfl) g_TooMany) pa_nil)))) (pss_one (ps_set (i := 2) sc_law_right_error.nd rfl (Or.inl rfl) (pe_tupN (pa_cons pe_str (pa_cons (pe_errG (d := d) ec List.mem_cons_self (pv 0)) (pa_cons (pe_errG (d := d) ec List.mem_cons_self (pv 0)) pa_nil)))))) pss_nil)
      (pss_cons (ps_set (i := 3) sc_law_right_error.nd rfl (Or.inl rfl) (pe_and (pe_callB (call_isErr (d := d) ec List.mem_cons_self) (by rfl) Z.z_isinstance (by decide +kernel) (pa_cons (pv 0) (pa_cons (pe_cls (by rfl) g_HeldorderError) pa_nil))) (pe_and (pe_callB (call_isErr (d := d) ec List.mem_cons_self) (by rfl) Z.z_isinstance (by decide +kernel) (pa_cons (pv 0) (pa_cons (pe_bltn (v := .ty "ValueError") (by rfl) Z.z_ValueError (by decide +kernel) rfl) pa_nil))) (pe_one (pe_cmp (pc_eqI (pe_calE c__law_kinds_h (hr.mono (by first | decide | omega)) hot List.mem_cons_self (by rfl) (pa_cons (pv 0) pa_nil)) pe_int) (nomark _))))))
      (pss_one (ps_ret (pe_and (pv 3) (pe_one (pe_calE c__law_agree_h (hr.mono (by first | decide | omega)) hot List.mem_cons_self (by rfl) (pa_cons (pv 2) (pa_cons (pv 1) pa_nil))))))))))))), ?_⟩
  have s0 : Same H H := Same.refl H
  have hu0 : k ∈ ([] : List Nat) → ∃ G', Same G G' ∧ Same G' H ∧ Da G' .non due := fun h => by cases h
  refine ⟨fun σ' H' => ∃ u : V, σ' = [some (.ref p.1), some w, some u, none] ∧ Same H H' ∧ (k ∈ [5] → ∃ G', Same G G' ∧ Same G' H' ∧ Da G' u due), ?_, ?_⟩
  · have er1 := er.same s0
    rcases cases_ with ⟨rfl, d0, ⟨nf_value, v0, l0, a0⟩, rfl⟩ | ⟨rfl, d0, ⟨nf_point, v0, l0, a0⟩, rfl⟩ | ⟨rfl, d0, ⟨nf_index, v0, l0, a0⟩, rfl⟩ | ⟨rfl, d0, d1, ⟨nf_what, v0, l0, a0⟩, ⟨nf_limit, v1, l1, a1⟩, rfl⟩
    · refine ⟨_, rfl, .ref C_NotAPoint, .ref C_NotAPoint, _, fs, rfl, fun u r => r, t_NotAPoint, er1, _, rfl, iteBT rfl ⟨_, rfl, rfl, nf_value, fs, _, er1, l0, by show 2 ≤ sizeLine; decide, fun t H9 n9 => ?_⟩⟩
      obtain ⟨G9, s9, g9, k9, -⟩ := (Stq.refl (gh.trans s0)).know2 n9
      exact ⟨.ref t, rfl, s0.trans n9.same, fun _ => ⟨G9, s9.gg, s9.gh, .tup k9 (.cons (.str _) (.cons (a0.up s9.gg) .nil))⟩⟩
    · exact ⟨_, rfl, .ref C_NotAPoint, .ref C_NotAPoint, _, fs, rfl, fun u r => r, t_NotAPoint, er1, _, rfl, iteBF rfl ⟨V.non, rfl, s0, fun h => absurd h (by decide)⟩⟩
    · exact ⟨_, rfl, .ref C_NotAPoint, .ref C_NotAPoint, _, fs, rfl, fun u r => r, t_NotAPoint, er1, _, rfl, iteBF rfl ⟨V.non, rfl, s0, fun h => absurd h (by decide)⟩⟩
    · exact ⟨_, rfl, .ref C_NotAPoint, .ref C_NotAPoint, _, fs, rfl, fun u r => r, t_NotAPoint, er1, _, rfl, iteBF rfl ⟨V.non, rfl, s0, fun h => absurd h (by decide)⟩⟩
  rintro σ' H1 ⟨u, rfl, s1, hu1⟩
  refine ⟨fun σ' H' => ∃ u : V, σ' = [some (.ref p.1), some w, some u, none] ∧ Same H H' ∧ (k ∈ [5, 7] → ∃ G', Same G G' ∧ Same G' H' ∧ Da G' u due), ?_, ?_⟩
  · have er1 := er.same s1
    rcases cases_ with ⟨rfl, d0, ⟨nf_value, v0, l0, a0⟩, rfl⟩ | ⟨rfl, d0, ⟨nf_point, v0, l0, a0⟩, rfl⟩ | ⟨rfl, d0, ⟨nf_index, v0, l0, a0⟩, rfl⟩ | ⟨rfl, d0, d1, ⟨nf_what, v0, l0, a0⟩, ⟨nf_limit, v1, l1, a1⟩, rfl⟩
    · exact ⟨_, rfl, .ref C_NotFull, .ref C_NotFull, _, fs, rfl, fun u r => r, t_NotFull, er1, _, rfl, iteBF rfl ⟨u, rfl, s1, fun _ => hu1 (by decide)⟩⟩
    · refine ⟨_, rfl, .ref C_NotFull, .ref C_NotFull, _, fs, rfl, fun u r => r, t_NotFull, er1, _, rfl, iteBT rfl ⟨_, rfl, rfl, nf_point, fs, _, er1, l0, by show 2 ≤ sizeLine; decide, fun t H9 n9 => ?_⟩⟩
      obtain ⟨G9, s9, g9, k9, -⟩ := (Stq.refl (gh.trans s1)).know2 n9
      exact ⟨.ref t, rfl, s1.trans n9.same, fun _ => ⟨G9, s9.gg, s9.gh, .tup k9 (.cons (.str _) (.cons (a0.up s9.gg) .nil))⟩⟩
    · exact ⟨_, rfl, .ref C_NotFull, .ref C_NotFull, _, fs, rfl, fun u r => r, t_NotFull, er1, _, rfl, iteBF rfl ⟨u, rfl, s1, fun h => absurd h (by decide)⟩⟩
    · exact ⟨_, rfl, .ref C_NotFull, .ref C_NotFull, _, fs, rfl, fun u r => r, t_NotFull, er1, _, rfl, iteBF rfl ⟨u, rfl, s1, fun h => absurd h (by decide)⟩⟩
  rintro σ' H2 ⟨u, rfl, s2, hu2⟩
  refine ⟨fun σ' H' => ∃ u : V, σ' = [some (.ref p.1), some w, some u, none] ∧ Same H H' ∧ (k ∈ [5, 7, 10] → ∃ G', Same G G' ∧ Same G' H' ∧ Da G' u due), ?_, ?_⟩
  · have er1 := er.same s2
    rcases cases_ with ⟨rfl, d0, ⟨nf_value, v0, l0, a0⟩, rfl⟩ | ⟨rfl, d0, ⟨nf_point, v0, l0, a0⟩, rfl⟩ | ⟨rfl, d0, ⟨nf_index, v0, l0, a0⟩, rfl⟩ | ⟨rfl, d0, d1, ⟨nf_what, v0, l0, a0⟩, ⟨nf_limit, v1, l1, a1⟩, rfl⟩
    · exact ⟨_, rfl, .ref C_NotTight, .ref C_NotTight, _, fs, rfl, fun u r => r, t_NotTight, er1, _, rfl, iteBF rfl ⟨u, rfl, s2, fun _ => hu2 (by decide)⟩⟩
    · exact ⟨_, rfl, .ref C_NotTight, .ref C_NotTight, _, fs, rfl, fun u r => r, t_NotTight, er1, _, rfl, iteBF rfl ⟨u, rfl, s2, fun _ => hu2 (by decide)⟩⟩
    · refine ⟨_, rfl, .ref C_NotTight, .ref C_NotTight, _, fs, rfl, fun u r => r, t_NotTight, er1, _, rfl, iteBT rfl ⟨_, rfl, rfl, nf_index, fs, _, er1, l0, by show 2 ≤ sizeLine; decide, fun t H9 n9 => ?_⟩⟩
      obtain ⟨G9, s9, g9, k9, -⟩ := (Stq.refl (gh.trans s2)).know2 n9
      exact ⟨.ref t, rfl, s2.trans n9.same, fun _ => ⟨G9, s9.gg, s9.gh, .tup k9 (.cons (.str _) (.cons (a0.up s9.gg) .nil))⟩⟩
    · exact ⟨_, rfl, .ref C_NotTight, .ref C_NotTight, _, fs, rfl, fun u r => r, t_NotTight, er1, _, rfl, iteBF rfl ⟨u, rfl, s2, fun h => absurd h (by decide)⟩⟩
  rintro σ' H3 ⟨u, rfl, s3, hu3⟩
  refine ⟨fun σ' H' => ∃ u : V, σ' = [some (.ref p.1), some w, some u, none] ∧ Same H H' ∧ (k ∈ [5, 7, 10, 13] → ∃ G', Same G G' ∧ Same G' H' ∧ Da G' u due), ?_, ?_⟩
  · have er1 := er.same s3
    rcases cases_ with ⟨rfl, d0, ⟨nf_value, v0, l0, a0⟩, rfl⟩ | ⟨rfl, d0, ⟨nf_point, v0, l0, a0⟩, rfl⟩ | ⟨rfl, d0, ⟨nf_index, v0, l0, a0⟩, rfl⟩ | ⟨rfl, d0, d1, ⟨nf_what, v0, l0, a0⟩, ⟨nf_limit, v1, l1, a1⟩, rfl⟩
    · exact ⟨_, rfl, .ref C_TooMany, .ref C_TooMany, _, fs, rfl, fun u r => r, t_TooMany, er1, _, rfl, iteBF rfl ⟨u, rfl, s3, fun _ => hu3 (by decide)⟩⟩
    · exact ⟨_, rfl, .ref C_TooMany, .ref C_TooMany, _, fs, rfl, fun u r => r, t_TooMany, er1, _, rfl, iteBF rfl ⟨u, rfl, s3, fun _ => hu3 (by decide)⟩⟩
    · exact ⟨_, rfl, .ref C_TooMany, .ref C_TooMany, _, fs, rfl, fun u r => r, t_TooMany, er1, _, rfl, iteBF rfl ⟨u, rfl, s3, fun _ => hu3 (by decide)⟩⟩
    · refine ⟨_, rfl, .ref C_TooMany, .ref C_TooMany, _, fs, rfl, fun u r => r, t_TooMany, er1, _, rfl, iteBT rfl ⟨_, rfl, rfl, nf_what, fs, _, er1, l0, _, rfl, rfl, nf_limit, fs, _, er1, l1, by show 3 ≤ sizeLine; decide, fun t H9 n9 => ?_⟩⟩
      obtain ⟨G9, s9, g9, k9, -⟩ := (Stq.refl (gh.trans s3)).know2 n9
      exact ⟨.ref t, rfl, s3.trans n9.same, fun _ => ⟨G9, s9.gg, s9.gh, .tup k9 (.cons (.str _) (.cons (a0.up s9.gg) (.cons (a1.up s9.gg) .nil)))⟩⟩
  rintro σ' H4 ⟨u, rfl, s4, hu4⟩
  obtain ⟨G2, g2, gh2, du⟩ := hu4 (by rcases cases_ with ⟨rfl, -⟩ | ⟨rfl, -⟩ | ⟨rfl, -⟩ | ⟨rfl, -⟩ <;> decide)
  have er2 := er.same s4
  refine ⟨_, rfl, .ref C_HeldorderError, .ref C_HeldorderError, _, fs, rfl, fun u r => r, t_HeldorderError, er2, true, rfl, iteT ⟨_, rfl, .ty "ValueError", _, _, fs, rfl, fun u r => r, es.iV, er2, true, rfl, iteT ?_⟩⟩
  refine ⟨_, rfl, k, nm, C, d, fs, rfl, es, er2, fun H8 s8 => ?_⟩
  refine ⟨_, _, rfl, rfl, ?_⟩
  refine ⟨_, rfl, _, rfl, iteDT rfl ⟨_, rfl, _, rfl, u, w, due, rfl, (du.up gh2).up s8, ((hw.up g2).up gh2).up s8, by show szD due + 0 ≤ 100000; omega, hlv, fun H9 s9 => ?_⟩⟩
  exact q H9 ((s4.trans s8).trans s9)
/-- the classes that the law knows -/
structure ErcR (K : PySem.W.Frag) (mg : Str → Option Value) (D_NotAPoint D_NotFull D_NotTight D_TooMany : Addr) : Prop where
  e_NotAPoint : Es K mg 5 "NotAPoint" D_NotAPoint
  n_NotAPoint_value : PySem.W.findIn K (.ref D_NotAPoint) "value" = some none
  e_NotFull : Es K mg 7 "NotFull" D_NotFull
  n_NotFull_point : PySem.W.findIn K (.ref D_NotFull) "point" = some none
  e_NotTight : Es K mg 10 "NotTight" D_NotTight
  n_NotTight_index : PySem.W.findIn K (.ref D_NotTight) "index" = some none
  e_TooMany : Es K mg 13 "TooMany" D_TooMany
  n_TooMany_what : PySem.W.findIn K (.ref D_TooMany) "what" = some none
  n_TooMany_limit : PySem.W.findIn K (.ref D_TooMany) "limit" = some none


theorem ints_inj : ∀ {A B : List Int}, A.map PyData.int = B.map PyData.int → A = B
  | [], [], _ => rfl
  | [], _ :: _, e => by cases e
  | _ :: _, [], e => by cases e
  | a :: A, b :: B, e => by
    rw [List.map_cons, List.map_cons] at e
    injection e with e1 e2
    rw [PyData.int.inj e1, ints_inj e2]
theorem due_ok {nm : Str} {ds : List PyData} (hn : szD (.str nm) ≤ 100) (l : ds.length ≤ 10) (h : ∀ d ∈ ds, szD d ≤ 50 ∧ lv 3 d = true) : szD (.tuple (.str nm :: ds)) ≤ 1000 ∧ lv 4 (.tuple (.str nm :: ds)) = true := by
  constructor
  · have : ∀ ds : List PyData, (∀ d ∈ ds, szD d ≤ 50) → szL ds ≤ 50 * ds.length := fun ds => by
      induction ds with
      | nil => intro _; exact Nat.le_refl _
      | cons d ds ih =>
        intro h
        have h1 := h d List.mem_cons_self
        have h2 := ih fun e he => h e (List.mem_cons_of_mem _ he)
        show szD d + szL ds ≤ _
        rw [List.length_cons]
        omega
    have := this ds fun d hd => (h d hd).1
    show 1 + (szD (.str nm) + szL ds) ≤ _
    omega
  · show (PyData.str nm :: ds).all (lv 3) = true
    rw [List.all_cons, List.all_eq_true.mpr fun d hd => (h d hd).2]
    rfl
theorem bad_one {n : Int} {ds : List PyData} {i j : Nat} (a : badPt n ds i) (b : badPt n ds j) : i = j := by
  obtain ⟨⟨d, h1, h2⟩, h3⟩ := a
  obtain ⟨⟨e, k1, k2⟩, k3⟩ := b
  rcases Nat.lt_trichotomy i j with c | c | c
  · rw [k3 i d c h1] at h2
    cases h2
  · exact c
  · rw [h3 j e c k1] at k2
    cases k2
theorem no_bad {n : Int} {rs : List Int} {i : Nat} (inr : ∀ r ∈ rs, inR n r) : ¬ badPt n (rs.map PyData.int) i := fun ⟨⟨d, h1, h2⟩, _⟩ => by
  rw [List.getElem?_map] at h1
  obtain ⟨r, hr, rfl⟩ := Option.map_eq_some_iff.mp h1
  rw [yes_pt (inr r (List.mem_of_getElem? hr))] at h2
  cases h2
theorem BadRw.no {G : Hp} {n : Int} {p : Addr} {t : Bool} {xs : List V} {ds : List PyData} {due : PyData} (b : BadRw G n p t xs ds due) {rs : List Int} (l : ds.length ≤ 24) (e : ds = rs.map PyData.int) (inr : ∀ r ∈ rs, inR n r) : False := by
  rcases b.due with ⟨c, -⟩ | ⟨-, j, w, d, hj, hb, -⟩
  · omega
  · rw [e] at hb
    exact no_bad inr hb


theorem erase_cutV (xs : List V) (k : Nat) : cutV xs none (some (k : Int)) ++ cutV xs (some ((k : Int) + 1)) none = xs.eraseIdx k := by
  have e1 : HT.sIx xs.length xs.length (some (k : Int)) = min k xs.length := HT.sIx_nat _ _ k
  have e2 : HT.sIx xs.length 0 none = 0 := rfl
  have e3 : HT.sIx xs.length 0 (some ((k : Int) + 1)) = min (k + 1) xs.length := HT.sIx_nat _ _ (k + 1)
  have e4 : HT.sIx xs.length xs.length none = xs.length := rfl
  unfold cutV
  rw [e1, e2, e3, e4, List.drop_zero, Nat.sub_zero, List.eraseIdx_eq_take_drop_succ]
  congr 1
  · rcases Nat.lt_or_ge xs.length k with c | c
    · rw [Nat.min_eq_right (by omega), List.take_length, List.take_of_length_le (by omega)]
    · rw [Nat.min_eq_left c]
  · rw [List.take_of_length_le (by rw [List.length_drop]; omega)]
    rcases Nat.lt_or_ge xs.length (k + 1) with c | c
    · rw [Nat.min_eq_right (by omega), List.drop_length, List.drop_of_length_le (by omega)]
    · rw [Nat.min_eq_left c]
def spLNeed : Sp := fun vs H Q _ => ∃ (G : Hp) (m lo : Addr) (n : Int) (ms : List V) (L : List (List Int)) (rs : List Int), vs = [.ref m, .ref lo] ∧ Same G H ∧ G m = some (.lst ms) ∧ DaAll G ms (L.map rowD) ∧ AllMv n L ∧ L.length ≤ 1000 ∧ G lo = some (.lst (rs.map V.int)) ∧ (∀ r ∈ rs, inR n r) ∧ rs.length ≤ 24 ∧
  ∀ (p : Addr) (H' : Hp), Same H H' → H' p = some (.lst ((ndx rs L).map V.int)) → Q (.ref p) H'
theorem ok_lneed (Z : Zs mg) (D : Ds K mg) (c__law_holders : Cal P w K mg base "_law_holders" 1 ["made", "row"] (spHoldersOf K)) : Cal P w K mg base "_law_needless" 2 ["made", "row"] spLNeed := by
  refine Def.cal D.d_law_needless sc_law_needless (fun vs H Q E h => ?_) (fun f cdv A outer s H vs Q E hr h => ?_)
  · obtain ⟨G, m, lo, n, ms, L, rs, rfl, gh, gm, dm, mvL, lL, glo, inr, lr, q⟩ := h
    rfl
  obtain ⟨G, m, lo, n, ms, L, rs, rfl, gh, gm, dm, mvL, lL, glo, inr, lr, q⟩ := h
  refine ⟨_, (pss_cons (ps_set (i := 2) sc_law_needless.nd rfl (Or.inr rfl) (pe_callB call_len_seq (by rfl) Z.z_len (by decide +kernel) (pa_cons (pe_cal c__law_holders (hr.mono (by first | decide | omega)) (by rfl) (pa_cons (pv 0) (pa_cons (pv 1) pa_nil))) pa_nil)))
      (pss_one (ps_ret (pe_lc (own := [("k", 3)]) (g := gName 3) (by rfl) sc_law_needless.nd (pi_range1 (by rfl) Z.z_range (pa_cons (pe_callB call_len_seq (by rfl) Z.z_len (by decide +kernel) (pa_cons (pv 1) pa_nil)) pa_nil)) (blkOk_by (N := ["made", "row", "many", "k"]) (sc := defScope s_law_needless) (by decide +kernel)) (fun _ _ _ _ _ => pg_name (i := 3) sc_law_needless.nd rfl (Or.inl rfl)) (fun _ _ _ _ _ => pts_one (pt_cmp (pc_eqI (pe_callB (call_len_seqK (K := K) rfl) (by rfl) Z.z_len (by decide +kernel) (pa_cons (pe_cal c__law_holders (hr.mono (by first | decide | omega)) (by rfl) (pa_cons (pv 0) (pa_cons (pe_op op_catN (pe_slice (sl_listNK (K := K) rfl) (pv 1) po_none (po_some (pv 3))) (pe_slice (sl_listNK (K := K) rfl) (pv 1) (po_some (pe_op op_add (pv 3) pe_int)) po_none)) pa_nil))) pa_nil)) (pv 2)) (nomark _))) (fun _ _ _ _ _ => (pv 3)))))), ?_⟩
  refine ⟨_, rfl, _, rfl, G, m, lo, n, ms, L, rs, rfl, gh, gm, dm, mvL, lL, .inl (.inl (gh _ _ glo)), inr, fun p ys H1 s1 gp fp hp dy => ?_⟩
  have ly := dy.length
  rw [List.length_map] at ly
  refine ⟨p, _, rfl, .inl (.of hp), _, rfl, lo, _, rfl, .inl (.of (s1.gh _ _ glo)), _, rfl, by rw [List.length_map]; omega, by rw [List.length_map]; omega, fun z hz => ?_⟩
  rw [List.length_map]
  refine lc_range (lo := 0) (n := ((rs.length : Nat) : Int).toNat) (fun i H' => Same H1 H' ∧ H1 z = none ∧ H' z = some (.lst ((pts (ndB rs L) i).map V.int))) ?_ ?_ ?_
  · exact ⟨New.same (o := .lst []) ⟨hz, rfl⟩, hz, upd_same⟩
  · rintro i H2 hi ⟨s2, fz, hz2⟩
    rw [Int.zero_add]
    have g2 := s1.gh.trans s2
    refine ⟨rfl, _, rfl, _, rfl, _, rfl, i, rfl, lo, _, rfl, .of (g2 _ _ glo), fun a1 H3 n3 => ?_⟩
    have s3 := s2.trans n3.same
    have g3 := s1.gh.trans s3
    refine ⟨_, rfl, _, rfl, _, _, rfl, rfl, (i : Int) + 1, rfl, lo, _, rfl, .of (g3 _ _ glo), fun a2 H4 n4 => ?_⟩
    have s4 := s3.trans n4.same
    have lre : (rs.eraseIdx i).length ≤ 24 := Nat.le_trans (List.length_eraseIdx_le ..) lr
    have ecat : cutV (rs.map V.int) none (some (i : Int)) ++ cutV (rs.map V.int) (some ((i : Int) + 1)) none = (rs.eraseIdx i).map V.int := by rw [erase_cutV, erase_map]
    refine ⟨a1, a2, _, _, rfl, rfl, n4.else n3.at, n4.at, by
      have := congrArg List.length ecat
      rw [List.length_append, List.length_map] at this
      rw [this]
      exact Nat.le_trans lre (by decide), fun a3 H5 n5 => ?_⟩
    rw [ecat] at n5
    have s5 := s4.trans n5.same
    have ine : ∀ r ∈ rs.eraseIdx i, inR n r := fun r hr => inr r (List.mem_of_mem_eraseIdx hr)
    refine ⟨G, m, a3, n, ms, L, _, rfl, s1.gh.trans s5, gm, dm, mvL, lL, .inl (.inl n5.at), ine, fun p6 ys6 H6 s6 gp6 fp6 hp6 dy6 => ?_⟩
    have ly6 := dy6.length
    rw [List.length_map] at ly6
    have S6 := s5.trans s6.hh
    have hz6 := ((n3.same.trans n4.same).trans (n5.same.trans s6.hh)) _ _ hz2
    have lp := pts_len (ndB rs L) i
    refine ⟨p6, _, rfl, .inl (.of hp6), _, rfl, _, _, rfl, rfl, _, rfl, ?_⟩
    have eqv : decide ((((ys6.length : Nat) : Int)) = ((ys.length : Nat) : Int)) = ndB rs L i := decide_eq_decide.mpr ⟨fun e => by omega, fun e => by omega⟩
    refine ite2 (fun c => ?_) (fun c => ?_)
    · refine ⟨_, rfl, _, hz6, by rw [List.length_map]; exact Hd.lt (by omega), same_mut S6 fz rfl, fz, ?_⟩
      rw [upd_same, pts_step, if_pos (eqv.symm.trans c), List.map_append]
      rfl
    · refine ⟨S6, fz, ?_⟩
      rw [hz6, pts_step, if_neg (by rw [← eqv]; exact c), List.append_nil]
  · rintro H2 ⟨s2, fz, hz2⟩
    rw [show ((rs.length : Nat) : Int).toNat = rs.length by omega] at hz2
    exact q z H2 (s1.hh.trans s2) hz2
/-- why a row is refused -/
def RowBad (G : Hp) (n : Int) (a : Addr) (L : List (List Int)) (xs : List V) (ds : List PyData) (due : PyData) : Prop :=
  (∃ t, BadRw G n a t xs ds due) ∨ (∃ rs : List Int, ds = rs.map PyData.int ∧ (∀ r ∈ rs, inR n r) ∧ rs.length ≤ 24 ∧ due = faultD n rs L ∧ due ≠ .none)
def spRefusesB (C : Addr) : Sp := fun vs H Q _ => ∃ (G : Hp) (x a : Addr) (o : Bool) (z : V) (n : Int) (T L : List (List Int)) (xs : List V) (ds : List PyData) (due : PyData), vs = [.ref x, .ref a, .bl o, z] ∧ Same G H ∧ WAt C G x n T L ∧ WOk n T L ∧ HasL G a xs ∧ DaAll G xs ds ∧ Da G z due ∧ RowBad G n a L xs ds due ∧
  ∀ H', Same H H' → Q (.bl true) H'
theorem ok_refusesB {CW DP DF DI DT : Addr} (Z : Zs mg) (D : Ds K mg) (er : ErcR K mg DP DF DI DT) (c_bad_order : CalX P w K mg base "bad_order" 9 ["world", "row"] (spBadOrd K CW DP DT DI DF)) (c_every_order_tight : CalX P w K mg base "every_order_tight" 10 ["world", "row"] (spEvery K CW DP DT DI DF)) (c__law_right_error_h : CalE P w K mg base "_law_right_error" 6 ["error", "due"] (spRight K mg)) : Cal P w K mg base "_law_refuses" 11 ["world", "row", "order", "due"] (spRefusesB CW) := by
  obtain ⟨CH, g_HeldorderError, ex0⟩ := er.e_NotAPoint.hH
  obtain ⟨CH', g', ex1⟩ := er.e_NotFull.hH
  obtain rfl : CH = CH' := by
    rw [g_HeldorderError] at g'
    cases g'
    rfl
  obtain ⟨CH', g', ex2⟩ := er.e_NotTight.hH
  obtain rfl : CH = CH' := by
    rw [g_HeldorderError] at g'
    cases g'
    rfl
  obtain ⟨CH', g', ex3⟩ := er.e_TooMany.hH
  obtain rfl : CH = CH' := by
    rw [g_HeldorderError] at g'
    cases g'
    rfl
  refine Def.cal D.d_law_refuses sc_law_refuses (fun vs H Q E h => ?_) (fun f cdv A outer s H vs Q E hr h => ?_)
  · obtain ⟨G, x, a, o, z, n, T, L, xs, ds, due, rfl, gh, wat, ok, ha, dx, hz, hh, q⟩ := h
    rfl
  obtain ⟨G, x, a, o, z, n, T, L, xs, ds, due, rfl, gh, wat, ok, ha, dx, hz, hh, q⟩ := h
  refine ⟨_, (pss_cons (ps_try_E (i := 4) rfl rfl sc_law_refuses.nd rfl rfl ⟨rfl, by decide, .inl g_HeldorderError⟩ nothing_taken (fun Wx pn xe tk po => (pss_one (ps_if (pt_val (pv 2)) (pss_one (ps_expr (pe_calX c_bad_order tk (hr.mono (by first | decide | omega)) (by rfl) (pa_cons (pv 0) (pa_cons (pv 1) pa_nil))))) (pss_one (ps_expr (pe_calX c_every_order_tight tk (hr.mono (by first | decide | omega)) (by rfl) (pa_cons (pv 0) (pa_cons (pv 1) pa_nil)))))))) (fun a oe cls d pn hz hf => (pss_one (ps_ret (pe_calE c__law_right_error_h (room_suite (hr.mono (by first | decide | omega)) _) (suite_hot hz hf) List.mem_cons_self (by rfl) (pa_cons (pv 4) (pa_cons (pv 3) pa_nil)))))))
      (pss_one (ps_ret pe_bl))), ?_⟩
  have one : ∀ {nm : Str} {d : PyData}, szD (.str nm) ≤ 100 → szD d ≤ 50 → lv 3 d = true → szD (.tuple [.str nm, d]) ≤ 1000 ∧ lv 4 (.tuple [.str nm, d]) = true := fun {nm d} h1 h2 h3 => due_ok (ds := [d]) h1 (by show 1 ≤ 10; decide) fun e he => by
    rw [List.mem_singleton.mp he]
    exact ⟨h2, h3⟩
  have okT : szD (.tuple [.str "TooMany", .str "row", .int 24]) ≤ 1000 ∧ lv 4 (.tuple [.str "TooMany", .str "row", .int 24]) = true := ⟨by decide, rfl⟩
  cases o
  · refine ⟨_, rfl, _, rfl, iteF ⟨_, rfl, _, rfl, G, x, a, n, T, L, xs, ds, rfl, gh, wat, ok, ha, dx, fun c d1 H1 s1 h1 => ?_, fun c i v hi hv d1 H1 s1 h1 => ?_, fun l24 rs e inr => ⟨fun k r el d1 H1 s1 h1 => ?_, fun e0 k r eo d1 H1 s1 h1 => ?_, fun e0 e1 => ?_⟩⟩⟩
    · have e : due = .tuple [.str "TooMany", .str "row", .int 24] := by
        rcases hh with ⟨t, bad⟩ | ⟨rs, e, inr, l24, -⟩
        · exact (bad.due.resolve_right fun z => by omega).2
        · rw [e, List.length_map] at c; omega
      subst e
      exact ⟨true, ex3, fun _ a1 ha1 => fun oe1 hz1 hf1 => ⟨_, rfl, _, rfl, G, DT, d1, _, z, _, rfl, gh.trans s1, suite_err hz1 hf1 h1, ⟨13, "TooMany", er.e_TooMany, .inr (.inr (.inr ⟨rfl, _, _, ⟨er.n_TooMany_what, _, rfl, .str _⟩, ⟨er.n_TooMany_limit, _, rfl, .int _⟩, rfl⟩))⟩, hz, okT.1, okT.2, fun H2 s2 => q H2 (s1.trans s2)⟩, fun z => nomatch z⟩
    · obtain ⟨d, bt, e⟩ : ∃ d, BadTo (n - 1) G v d ∧ due = .tuple [.str "NotAPoint", d] := by
        rcases hh with ⟨t, bad⟩ | ⟨rs, e, inr, l24, -⟩
        · obtain ⟨-, j, w, d, hj, hbd, hd, bt, e⟩ := bad.due.resolve_left fun z => by omega
          obtain rfl := bad_one hi hbd
          obtain rfl : w = v := Option.some.inj (hj.symm.trans hv)
          exact ⟨d, bt, e⟩
        · rw [e] at hi; exact absurd hi (no_bad inr)
      subst e
      obtain ⟨z1, z2⟩ := one (nm := "NotAPoint") (by decide) (Nat.le_trans bt.sz (by decide)) bt.lv
      exact ⟨true, ex0, fun _ a1 ha1 => fun oe1 hz1 hf1 => ⟨_, rfl, _, rfl, G, DP, d1, _, z, _, rfl, gh.trans s1, suite_err hz1 hf1 h1, ⟨5, "NotAPoint", er.e_NotAPoint, .inl ⟨rfl, d, ⟨er.n_NotAPoint_value, _, rfl, bt.da⟩, rfl⟩⟩, hz, z1, z2, fun H2 s2 => q H2 (s1.trans s2)⟩, fun z => nomatch z⟩
    all_goals
      have both : due = faultD n rs L ∧ due ≠ .none := by
        rcases hh with ⟨t, bad⟩ | ⟨rs', k1, -, -, k3, k4⟩
        · exact (bad.no l24 e inr).elim
        · obtain rfl := ints_inj (e.symm.trans k1)
          exact ⟨k3, k4⟩
      obtain ⟨ed, nd⟩ := both
    · rw [fault_loose el] at ed
      have ed : due = .tuple [.str "NotTight", .int k] := ed
      subst ed
      obtain ⟨z1, z2⟩ := one (nm := "NotTight") (d := .int k) (by decide) (by show 1 ≤ 50; decide) rfl
      exact ⟨true, ex2, fun _ a1 ha1 => fun oe1 hz1 hf1 => ⟨_, rfl, _, rfl, G, DI, d1, _, z, _, rfl, gh.trans s1, suite_err hz1 hf1 h1, ⟨10, "NotTight", er.e_NotTight, .inr (.inr (.inl ⟨rfl, _, ⟨er.n_NotTight_index, _, rfl, .int _⟩, rfl⟩))⟩, hz, z1, z2, fun H2 s2 => q H2 (s1.trans s2)⟩, fun z => nomatch z⟩
    · rw [fault_open e0 eo] at ed
      have ed : due = .tuple [.str "NotFull", .int k] := ed
      subst ed
      obtain ⟨z1, z2⟩ := one (nm := "NotFull") (d := .int k) (by decide) (by show 1 ≤ 50; decide) rfl
      exact ⟨true, ex1, fun _ a1 ha1 => fun oe1 hz1 hf1 => ⟨_, rfl, _, rfl, G, DF, d1, _, z, _, rfl, gh.trans s1, suite_err hz1 hf1 h1, ⟨7, "NotFull", er.e_NotFull, .inr (.inl ⟨rfl, _, ⟨er.n_NotFull_point, _, rfl, .int _⟩, rfl⟩)⟩, hz, z1, z2, fun H2 s2 => q H2 (s1.trans s2)⟩, fun z => nomatch z⟩
    · rw [fault_none e0 e1] at ed
      exact absurd ed nd
  · refine ⟨_, rfl, _, rfl, iteT ⟨_, rfl, _, rfl, G, x, a, n, T, L, xs, ds, rfl, gh, wat, ok, ha, dx, fun c d1 H1 s1 h1 => ?_, fun c i v hi hv d1 H1 s1 h1 => ?_, fun l24 rs e inr => ⟨fun k r el d1 H1 s1 h1 => ?_, fun e0 k r eo d1 H1 s1 h1 => ?_, fun e0 e1 => ?_⟩⟩⟩
    · have e : due = .tuple [.str "TooMany", .str "row", .int 24] := by
        rcases hh with ⟨t, bad⟩ | ⟨rs, e, inr, l24, -⟩
        · exact (bad.due.resolve_right fun z => by omega).2
        · rw [e, List.length_map] at c; omega
      subst e
      exact ⟨true, ex3, fun _ a1 ha1 => fun oe1 hz1 hf1 => ⟨_, rfl, _, rfl, G, DT, d1, _, z, _, rfl, gh.trans s1, suite_err hz1 hf1 h1, ⟨13, "TooMany", er.e_TooMany, .inr (.inr (.inr ⟨rfl, _, _, ⟨er.n_TooMany_what, _, rfl, .str _⟩, ⟨er.n_TooMany_limit, _, rfl, .int _⟩, rfl⟩))⟩, hz, okT.1, okT.2, fun H2 s2 => q H2 (s1.trans s2)⟩, fun z => nomatch z⟩
    · obtain ⟨d, bt, e⟩ : ∃ d, BadTo (n - 1) G v d ∧ due = .tuple [.str "NotAPoint", d] := by
        rcases hh with ⟨t, bad⟩ | ⟨rs, e, inr, l24, -⟩
        · obtain ⟨-, j, w, d, hj, hbd, hd, bt, e⟩ := bad.due.resolve_left fun z => by omega
          obtain rfl := bad_one hi hbd
          obtain rfl : w = v := Option.some.inj (hj.symm.trans hv)
          exact ⟨d, bt, e⟩
        · rw [e] at hi; exact absurd hi (no_bad inr)
      subst e
      obtain ⟨z1, z2⟩ := one (nm := "NotAPoint") (by decide) (Nat.le_trans bt.sz (by decide)) bt.lv
      exact ⟨true, ex0, fun _ a1 ha1 => fun oe1 hz1 hf1 => ⟨_, rfl, _, rfl, G, DP, d1, _, z, _, rfl, gh.trans s1, suite_err hz1 hf1 h1, ⟨5, "NotAPoint", er.e_NotAPoint, .inl ⟨rfl, d, ⟨er.n_NotAPoint_value, _, rfl, bt.da⟩, rfl⟩⟩, hz, z1, z2, fun H2 s2 => q H2 (s1.trans s2)⟩, fun z => nomatch z⟩
    all_goals
      have both : due = faultD n rs L ∧ due ≠ .none := by
        rcases hh with ⟨t, bad⟩ | ⟨rs', k1, -, -, k3, k4⟩
        · exact (bad.no l24 e inr).elim
        · obtain rfl := ints_inj (e.symm.trans k1)
          exact ⟨k3, k4⟩
      obtain ⟨ed, nd⟩ := both
    · rw [fault_loose el] at ed
      have ed : due = .tuple [.str "NotTight", .int k] := ed
      subst ed
      obtain ⟨z1, z2⟩ := one (nm := "NotTight") (d := .int k) (by decide) (by show 1 ≤ 50; decide) rfl
      exact ⟨true, ex2, fun _ a1 ha1 => fun oe1 hz1 hf1 => ⟨_, rfl, _, rfl, G, DI, d1, _, z, _, rfl, gh.trans s1, suite_err hz1 hf1 h1, ⟨10, "NotTight", er.e_NotTight, .inr (.inr (.inl ⟨rfl, _, ⟨er.n_NotTight_index, _, rfl, .int _⟩, rfl⟩))⟩, hz, z1, z2, fun H2 s2 => q H2 (s1.trans s2)⟩, fun z => nomatch z⟩
    · rw [fault_open e0 eo] at ed
      have ed : due = .tuple [.str "NotFull", .int k] := ed
      subst ed
      obtain ⟨z1, z2⟩ := one (nm := "NotFull") (d := .int k) (by decide) (by show 1 ≤ 50; decide) rfl
      exact ⟨true, ex1, fun _ a1 ha1 => fun oe1 hz1 hf1 => ⟨_, rfl, _, rfl, G, DF, d1, _, z, _, rfl, gh.trans s1, suite_err hz1 hf1 h1, ⟨7, "NotFull", er.e_NotFull, .inr (.inl ⟨rfl, _, ⟨er.n_NotFull_point, _, rfl, .int _⟩, rfl⟩)⟩, hz, z1, z2, fun H2 s2 => q H2 (s1.trans s2)⟩, fun z => nomatch z⟩
    · rw [fault_none e0 e1] at ed
      exact absurd ed nd


/-! ### all orders are tight where none can be left out -/
def fct : Nat → Nat
  | 0 => 1
  | k + 1 => (k + 1) * fct k
theorem fct_pos : ∀ k, 0 < fct k
  | 0 => Nat.one_pos
  | k + 1 => Nat.mul_pos (Nat.succ_pos k) (fct_pos k)
theorem sum_filt (M : List (List Int)) (g : Int → Nat) : ∀ rs : List Int, ((rs.filter fun p => !stuck M p).map g).sum = (rs.map fun p => if stuck M p = true then 0 else g p).sum
  | [] => rfl
  | a :: rs => by
    rw [List.map_cons, List.sum_cons, ← sum_filt M g rs, List.filter_cons]
    cases e : stuck M a with
    | true => rw [if_neg (by decide), if_pos rfl, Nat.zero_add]
    | false => rw [if_pos (by decide), if_neg (by decide), List.map_cons, List.sum_cons]
theorem ext_sum (rs : List Int) (k : Nat) (M : List (List Int)) : ext rs (k + 1) M = (rs.map fun p => if stuck M p = true then 0 else ext rs k (holdL [p] M)).sum := sum_filt M _ rs
theorem cnt_sum (ps : List Int) (c : Nat) : ∀ rs : List Int, (rs.map fun p => if p ∈ ps then 0 else c).sum = (rs.filter fun r => !decide (r ∈ ps)).length * c
  | [] => (Nat.zero_mul c).symm
  | a :: rs => by
    rw [List.map_cons, List.sum_cons, cnt_sum ps c rs, List.filter_cons]
    by_cases h : a ∈ ps
    · rw [if_pos h, decide_eq_true h, if_neg (by decide), Nat.zero_add]
    · rw [if_neg h, decide_eq_false h, if_pos (by decide), List.length_cons, Nat.succ_mul, Nat.add_comm]
theorem cnt_add {rs ps : List Int} {p : Int} (nd : rs.Nodup) (hp : p ∈ rs) (np : p ∉ ps) : (rs.filter fun r => !decide (r ∈ ps)).length = (rs.filter fun r => !decide (r ∈ ps ++ [p])).length + 1 := by
  rw [← filt_one (f := fun r => !decide (r ∈ ps ++ [p])) nd hp (by rw [decide_eq_true (List.mem_append_right _ List.mem_cons_self)]; rfl)]
  congr 1
  refine List.filter_congr fun x _ => ?_
  by_cases e : x = p
  · subst e
    rw [decide_eq_false np, decide_eq_true (p := x = x) rfl, Bool.or_true]
    rfl
  · rw [decide_eq_false e, Bool.or_false]
    congr 1
    refine decide_eq_decide.mpr ?_
    rw [List.mem_append, List.mem_singleton]
    exact ⟨.inl, fun h => h.resolve_right e⟩
theorem sum_le {f g : Int → Nat} : ∀ {rs : List Int}, (∀ p ∈ rs, f p ≤ g p) → (rs.map f).sum ≤ (rs.map g).sum
  | [], _ => Nat.le_refl _
  | a :: rs, h => by
    have := h a List.mem_cons_self
    have := sum_le (rs := rs) fun p hp => h p (List.mem_cons_of_mem _ hp)
    rw [List.map_cons, List.sum_cons, List.map_cons, List.sum_cons]
    omega
theorem sum_lt {f g : Int → Nat} {q : Int} : ∀ {rs : List Int}, (∀ p ∈ rs, f p ≤ g p) → q ∈ rs → f q < g q → (rs.map f).sum < (rs.map g).sum
  | [], _, hq, _ => by cases hq
  | a :: rs, h, hq, lt => by
    have ha := h a List.mem_cons_self
    have hr : ∀ p ∈ rs, f p ≤ g p := fun p hp => h p (List.mem_cons_of_mem _ hp)
    rw [List.map_cons, List.sum_cons, List.map_cons, List.sum_cons]
    rcases List.mem_cons.mp hq with rfl | hq
    · have := sum_le hr
      omega
    · have := sum_lt hr hq lt
      omega
theorem hold_all {ps : List Int} {L : List (List Int)} {w : List Int} (h : w ∈ holdL ps L) {p : Int} (hp : p ∈ ps) : stp w p = p := by
  have h2 := ((List.mem_filter (p := holdB ps)).mp h).2
  unfold holdB at h2
  rw [decide_eq_true_eq, aft_self] at h2
  exact h2 p hp
theorem hold_in {ps : List Int} {L : List (List Int)} {w : List Int} (hL : w ∈ L) (h : ∀ p ∈ ps, stp w p = p) : w ∈ holdL ps L := by
  refine (List.mem_filter (p := holdB ps)).mpr ⟨hL, ?_⟩
  unfold holdB
  rw [decide_eq_true_eq, aft_self]
  exact h
theorem stuck_mem {ps : List Int} {L : List (List Int)} {p : Int} (hp : p ∈ ps) : stuck (holdL ps L) p = true := stuck_iff.mpr fun _ hw => hold_all hw hp
theorem mem_erase {rs : List Int} {i : Nat} (il : i < rs.length) (x : Int) : x ∈ rs ↔ x ∈ rs.eraseIdx i ++ [rs[i]] := by
  rw [List.mem_append, List.mem_singleton]
  constructor
  · intro h
    by_cases e : x = rs[i]
    · exact .inr e
    · obtain ⟨j, hj⟩ := List.getElem?_of_mem h
      refine .inl (List.mem_eraseIdx_iff_getElem?.mpr ⟨j, fun z => e ?_, hj⟩)
      rw [z, List.getElem?_eq_getElem il] at hj
      exact (Option.some.inj hj).symm
  · rintro (h | rfl)
    · exact List.mem_of_mem_eraseIdx h
    · exact List.getElem_mem il
theorem erase_ne {rs : List Int} (nd : rs.Nodup) {i : Nat} (il : i < rs.length) {x : Int} (h : x ∈ rs.eraseIdx i) : x ≠ rs[i] := by
  obtain ⟨j, ne, hj⟩ := List.mem_eraseIdx_iff_getElem?.mp h
  obtain ⟨jl, e⟩ := List.getElem?_eq_some_iff.mp hj
  intro z
  have z := e.trans z
  have pw := List.pairwise_iff_getElem.mp nd
  rcases Nat.lt_or_ge j i with c | c
  · exact pw j i jl il c z
  · exact pw i j il jl (by omega) z.symm
theorem nd_iff {rs : List Int} {L : List (List Int)} {i : Nat} (il : i < rs.length) : ndB rs L i = true ↔ ∀ w ∈ holdL (rs.eraseIdx i) L, stp w rs[i] = rs[i] := by
  have e : holdL rs L = holdL [rs[i]] (holdL (rs.eraseIdx i) L) := by
    rw [← holdL_snoc]
    exact holdL_congr (mem_erase il)
  unfold ndB
  rw [decide_eq_true_eq, e, holdL_one]
  constructor
  · intro h w hw
    exact of_decide_eq_true (List.length_filter_eq_length_iff.mp h.symm w hw)
  · intro h
    exact (List.length_filter_eq_length_iff.mpr fun w hw => decide_eq_true (h w hw)).symm
section
variable {rs : List Int} {L : List (List Int)}
theorem term_le (nd : rs.Nodup) {k : Nat} (ih : ∀ ps, (rs.filter fun r => !decide (r ∈ ps)).length = k → ext rs k (holdL ps L) ≤ fct k) {ps : List Int} (l : (rs.filter fun r => !decide (r ∈ ps)).length = k + 1) : ∀ p ∈ rs, (if stuck (holdL ps L) p = true then 0 else ext rs k (holdL [p] (holdL ps L))) ≤ if p ∈ ps then 0 else fct k := fun p hp => by
  by_cases h : p ∈ ps
  · rw [if_pos h, if_pos (stuck_mem h)]
    exact Nat.le_refl _
  · rw [if_neg h]
    split
    · exact Nat.zero_le _
    · rw [← holdL_snoc]
      have := cnt_add nd hp h
      exact ih _ (by omega)
theorem ext_le (nd : rs.Nodup) : ∀ k ps, (rs.filter fun r => !decide (r ∈ ps)).length = k → ext rs k (holdL ps L) ≤ fct k
  | 0, _, _ => Nat.le_refl _
  | k + 1, ps, l => by
    have e : fct (k + 1) = (rs.map fun p => if p ∈ ps then 0 else fct k).sum := by rw [cnt_sum, l]; rfl
    rw [ext_sum, e]
    exact sum_le (term_le nd (ext_le nd k) l)
theorem ext_lt (nd : rs.Nodup) {i : Nat} (il : i < rs.length) (need : ndB rs L i = true) : ∀ k ps, (rs.filter fun r => !decide (r ∈ ps)).length = k + 1 → rs[i] ∉ ps → ext rs (k + 1) (holdL ps L) < fct (k + 1)
  | k, ps, l, no => by
    have e : fct (k + 1) = (rs.map fun p => if p ∈ ps then 0 else fct k).sum := by rw [cnt_sum, l]; rfl
    have fl : ∀ {x}, x ∈ (rs.filter fun r => !decide (r ∈ ps)) ↔ x ∈ rs ∧ x ∉ ps := fun {x} => by
      rw [List.mem_filter, Bool.not_eq_true', decide_eq_false_iff_not]
    have ndf : (rs.filter fun r => !decide (r ∈ ps)).Nodup := List.Pairwise.filter _ nd
    rw [ext_sum, e]
    cases k with
    | zero =>
      refine sum_lt (term_le nd (ext_le nd 0) l) (List.getElem_mem il) ?_
      rw [if_neg no, if_pos]
      · exact fct_pos 0
      refine stuck_iff.mpr fun w hw => (nd_iff il).mp need w (hold_in (holdL_sub hw) fun p hp => hold_all hw ?_)
      cases c : decide (p ∈ ps) with
      | true => exact of_decide_eq_true c
      | false =>
        exfalso
        have pr := List.mem_of_mem_eraseIdx hp
        have two : ([p, rs[i]] : List Int).Nodup := by
          rw [List.nodup_cons, List.mem_singleton]
          exact ⟨erase_ne nd il hp, by simp⟩
        have := len_subI (L := rs.filter fun r => !decide (r ∈ ps)) two fun x hx => by
          rcases List.mem_cons.mp hx with rfl | hx
          · exact fl.mpr ⟨pr, of_decide_eq_false c⟩
          · rw [List.mem_singleton.mp hx]
            exact fl.mpr ⟨List.getElem_mem il, no⟩
        have : 2 ≤ _ := this
        omega
    | succ k =>
      obtain ⟨p, hp, ne⟩ : ∃ p ∈ (rs.filter fun r => !decide (r ∈ ps)), p ≠ rs[i] := by
        refine Classical.byContradiction fun h => ?_
        have := len_subI (L := [rs[i]]) ndf fun x hx => List.mem_singleton.mpr (Classical.byContradiction fun z => h ⟨x, hx, z⟩)
        have : _ ≤ 1 := this
        omega
      obtain ⟨pr, np⟩ := fl.mp hp
      refine sum_lt (term_le nd (ext_le nd (k + 1)) l) pr ?_
      rw [if_neg np]
      split
      · exact fct_pos _
      · rw [← holdL_snoc]
        have := cnt_add nd pr np
        refine ext_lt nd il need k _ (by omega) fun h => ?_
        rcases List.mem_append.mp h with h | h
        · exact no h
        · exact ne (List.mem_singleton.mp h).symm
theorem ext_eq (nd : rs.Nodup) (none : ∀ i, i < rs.length → ndB rs L i = false) : ∀ k ps, (∀ x ∈ ps, x ∈ rs) → (rs.filter fun r => !decide (r ∈ ps)).length = k → ext rs k (holdL ps L) = fct k
  | 0, _, _, _ => rfl
  | k + 1, ps, sub, l => by
    have e : fct (k + 1) = (rs.map fun p => if p ∈ ps then 0 else fct k).sum := by rw [cnt_sum, l]; rfl
    rw [ext_sum, e]
    congr 1
    refine List.map_congr_left fun p hp => ?_
    by_cases h : p ∈ ps
    · rw [if_pos h, if_pos (stuck_mem h)]
    · obtain ⟨i, hi⟩ := List.getElem?_of_mem hp
      obtain ⟨il, rfl⟩ := List.getElem?_eq_some_iff.mp hi
      have no : ¬ stuck (holdL ps L) rs[i] = true := fun st => by
        have := (nd_iff (L := L) il).mpr fun w hw => stuck_iff.mp st w (hold_in (holdL_sub hw) fun x hx => hold_all hw (by
          rcases List.mem_append.mp ((mem_erase il x).mp (sub x hx)) with z | z
          · exact z
          · exact absurd (by rw [← List.mem_singleton.mp z]; exact hx) h))
        rw [none i il] at this
        cases this
      rw [if_neg h, if_neg no, ← holdL_snoc]
      have := cnt_add nd hp h
      exact ext_eq nd none k _ (fun x hx => (List.mem_append.mp hx).elim (sub x) fun z => by rw [List.mem_singleton.mp z]; exact hp) (by omega)
theorem ndx_nil : ndx rs L = [] ↔ ∀ i, i < rs.length → ndB rs L i = false := by
  constructor
  · intro h i il
    cases e : ndB rs L i with
    | false => rfl
    | true =>
      exfalso
      have : (i : Int) ∈ ndx rs L := pts_mem.mpr ⟨by omega, by rw [Int.toNat_natCast]; exact il, by rw [Int.toNat_natCast]; exact e⟩
      rw [h] at this
      cases this
  · intro h
    cases e : ndx rs L with
    | nil => rfl
    | cons k r =>
      obtain ⟨k0, kl, b⟩ := ndx_at e
      rw [h _ kl] at b
      cases b
theorem ext_fct (nd : rs.Nodup) : decide (((ext rs rs.length L : Nat) : Int) = ((fct rs.length : Nat) : Int)) = decide (ndx rs L = []) := by
  have l0 : (rs.filter fun r => !decide (r ∈ ([] : List Int))).length = rs.length := by
    congr 1
    exact List.filter_eq_self.mpr fun x _ => rfl
  refine decide_eq_decide.mpr ⟨fun h => ndx_nil.mpr fun i il => ?_, fun h => ?_⟩
  · cases e : ndB rs L i with
    | false => rfl
    | true =>
      exfalso
      obtain ⟨k, hk⟩ : ∃ k, rs.length = k + 1 := ⟨rs.length - 1, by omega⟩
      have := ext_lt nd il e k [] (l0.trans hk) (by simp)
      rw [holdL_nil, ← hk] at this
      omega
  · have := ext_eq nd (ndx_nil.mp h) rs.length [] (fun x hx => by cases hx) l0
    rw [holdL_nil] at this
    rw [this]
end


theorem ndx_at2 {rs : List Int} {L : List (List Int)} {k : Int} {r : List Int} (h : ndx rs L = k :: r) : ∃ kn : Nat, k = (kn : Int) ∧ kn < rs.length ∧ ndB rs L kn = true := by
  obtain ⟨k0, kl, b⟩ := ndx_at h
  obtain ⟨kn, rfl⟩ := Int.eq_ofNat_of_zero_le k0
  rw [Int.toNat_natCast] at kl b
  exact ⟨kn, rfl, kl, b⟩
theorem erase_perm {rs : List Int} {k : Nat} (kl : k < rs.length) : rs.Perm (rs.eraseIdx k ++ [rs[k]]) := by
  have e1 : rs = rs.take k ++ ([rs[k]] ++ rs.drop (k + 1)) := by
    have := (List.take_append_drop k rs).symm
    rw [List.drop_eq_getElem_cons kl] at this
    exact this
  have e2 : rs.eraseIdx k ++ [rs[k]] = rs.take k ++ (rs.drop (k + 1) ++ [rs[k]]) := by rw [List.eraseIdx_eq_take_drop_succ, List.append_assoc]
  rw [e2]
  exact (List.Perm.of_eq e1).trans (List.Perm.append_left _ List.perm_append_comm)
theorem bo_bad {n : Int} {T L : List (List Int)} {rs : List Int} (ok : WOk n T L) (inr : ∀ r ∈ rs, inR n r) (l24 : rs.length ≤ 24) (tr : lsx rs L = []) (fr : opL n rs L = []) : badB n L (boD rs L) = !decide (ndx rs L = []) := by
  cases en : ndx rs L with
  | nil =>
    rw [boD_nil en]
    rfl
  | cons k r =>
    obtain ⟨kn, rfl, kl, b⟩ := ndx_at2 en
    have gd : rs.getD kn 0 = rs[kn] := by rw [List.getD_eq_getElem?_getD, List.getElem?_eq_getElem kl]; rfl
    have pm := erase_perm kl
    have lE := List.length_eraseIdx_of_lt kl
    have ins : ∀ r ∈ rs.eraseIdx kn ++ [rs[kn]], inR n r := fun r hr => inr r (pm.mem_iff.mpr hr)
    have ls : (rs.eraseIdx kn ++ [rs[kn]]).length = rs.length := pm.length_eq.symm
    rw [boD_cons en, gd]
    show badC n L (rs.map .int) ((rs.eraseIdx kn ++ [rs[kn]]).map .int) (.int ((rs.length : Nat) - 1 : Int)) = _
    unfold badC
    rw [ints_row inr l24, ints_row ins (by omega), intsOf_ints, intsOf_ints, full_one ok inr, decide_eq_true tr, decide_eq_true fr, decide_eq_true pm, List.length_map, ls]
    have e1 : isNum (.int ((rs.length : Nat) - 1 : Int)) 0 ((rs.length : Nat) - 1) = true := by
      show (decide (0 ≤ ((rs.length : Nat) - 1 : Int)) && decide (((rs.length : Nat) - 1 : Int) ≤ ((rs.length : Nat) - 1 : Int))) = true
      rw [decide_eq_true (by omega), decide_eq_true (Int.le_refl _)]
      rfl
    have e2 : lsAt (rs.eraseIdx kn ++ [rs[kn]]) L (.int ((rs.length : Nat) - 1 : Int)) = true := by
      show decide (((rs.length : Nat) - 1 : Int) ∈ lsx (rs.eraseIdx kn ++ [rs[kn]]) L) = true
      refine decide_eq_true (pts_mem.mpr ⟨by omega, by omega, ?_⟩)
      have t : (((rs.length : Nat) : Int) - 1).toNat = (rs.eraseIdx kn).length := by omega
      rw [t]
      unfold lsB
      rw [List.take_left' rfl, List.take_of_length_le (by rw [List.length_append]; exact Nat.le_refl _), holdL_congr (ss := rs) fun x => (mem_erase kl x).symm]
      unfold ndB at b
      rw [of_decide_eq_true b]
      exact decide_eq_true rfl
    rw [e1, e2]
    rfl


theorem bo_sz {rs : List Int} {L : List (List Int)} (lr : rs.length ≤ 24) : szD (boD rs L) ≤ 200 := by
  cases en : ndx rs L with
  | nil =>
    rw [boD_nil en]
    decide
  | cons k r =>
    obtain ⟨kn, rfl, kl, -⟩ := ndx_at2 en
    rw [boD_cons en]
    have h1 : szL (rs.map .int) = rs.length := szL_ints rs
    have h2 : szL ((rs.eraseIdx kn ++ [rs.getD kn 0]).map .int) = (rs.eraseIdx kn ++ [rs.getD kn 0]).length := szL_ints _
    have lE := List.length_eraseIdx_of_lt kl
    rw [List.length_append, lE] at h2
    have h2 : szL ((rs.eraseIdx kn ++ [rs.getD kn 0]).map .int) = rs.length - 1 + 1 := h2
    show 1 + ((1 + szL (rs.map .int)) + ((1 + szL ((rs.eraseIdx kn ++ [rs.getD kn 0]).map .int)) + (1 + 0))) ≤ 200
    omega
theorem lvt_ints (ns : List Int) : lv 2 (.tuple (ns.map PyData.int)) = true := by
  cases ns with
  | nil => rfl
  | cons n ns =>
    show ((n :: ns).map PyData.int).all (lv 1) = true
    rw [List.all_eq_true]
    intro x hx
    obtain ⟨i, -, rfl⟩ := List.mem_map.mp hx
    rfl
theorem bo_lv {rs : List Int} {L : List (List Int)} : lv 3 (boD rs L) = true := by
  cases en : ndx rs L with
  | nil =>
    rw [boD_nil en]
    rfl
  | cons k r =>
    obtain ⟨kn, rfl, kl, -⟩ := ndx_at2 en
    rw [boD_cons en]
    show ([.tuple (rs.map .int), .tuple ((rs.eraseIdx kn ++ [rs.getD kn 0]).map .int), .int _] : List PyData).all (lv 2) = true
    rw [List.all_eq_true]
    intro e he
    simp only [List.mem_cons, List.not_mem_nil, or_false] at he
    rcases he with rfl | rfl | rfl
    · exact lvt_ints rs
    · exact lvt_ints _
    · rfl
theorem bo_non {G : Hp} {v : V} {rs : List Int} {L : List (List Int)} (h : Da G v (boD rs L)) : decide (v = .non) = decide (ndx rs L = []) := by
  cases en : ndx rs L with
  | nil =>
    rw [boD_nil en] at h
    cases h
    rfl
  | cons k r =>
    obtain ⟨kn, rfl, kl, -⟩ := ndx_at2 en
    rw [boD_cons en] at h
    obtain ⟨b, ys, rfl, -⟩ := da_tup h
    rfl
def spOrdHolds (C : Addr) : Sp := fun vs H Q _ => ∃ (S : Sr) (G : Hp) (x p lo : Addr) (n : Int) (T L : List (List Int)) (rs : List Int), vs = [.ref S.a, .ref x, .ref p, .ref lo] ∧ Wd S G H ∧ WAt C G x n T L ∧ Frz G p n T L ∧ G lo = some (.lst (rs.map V.int)) ∧ (∀ r ∈ rs, inR n r) ∧ rs.length ≤ 24 ∧ ∀ G' H', Go S G H G' H' → Q (.bl true) H'
theorem ok_ord_holds {CW DP DI DF DT : Addr} (Z : Zs mg) (D : Ds K mg) (c__law_either : Cal P w K mg base "_law_either" 3 ["store", "entries"] spEither) (c__law_drawn : Cal P w K mg base "_law_drawn" 3 ["store", "things", "many"] spDrawn) (c__law_take : Cal P w K mg base "_law_take" 2 ["store", "many"] spTake) (c__law_row_fault : Cal P w K mg base "_law_row_fault" 2 ["points", "made", "row"] spFault) (c__law_refuses : Cal P w K mg base "_law_refuses" 11 ["world", "row", "order", "due"] (spRefusesB CW)) (c__law_order_count : Cal P w K mg base "_law_order_count" 1 ["made", "row"] spOrdCnt) (c__law_needless : Cal P w K mg base "_law_needless" 2 ["made", "row"] spLNeed) (c_every_order_tight : CalX P w K mg base "every_order_tight" 10 ["world", "row"] (spEvery K CW DP DT DI DF)) (c_bad_order : CalX P w K mg base "bad_order" 9 ["world", "row"] (spBadOrd K CW DP DT DI DF)) (c_is_bad_order : Cal P w K mg base "is_bad_order" 9 ["world", "value"] (spBad CW)) (c__law_is_order : Cal P w K mg base "_law_is_order" 3 ["points", "made", "value"] spIsOrd) (c__law_agree : Cal P w K mg base "_law_agree" 5 ["actual", "due"] (spAgree 4)) : Cal P w K mg base "_law_orders_hold" 12 ["store", "world", "drawn", "row"] (spOrdHolds CW) := by
  refine Def.cal D.d_law_orders_hold sc_law_orders_hold (fun vs H Q E h => ?_) (fun f cdv A outer s H vs Q E hr h => ?_)
  · obtain ⟨S, G0, x, p, lo, n, T, L, rs, rfl, wdd, wat0, frz0, glo0, inr, lr, q⟩ := h
    rfl
  obtain ⟨S, G0, x, p, lo, n, T, L, rs, rfl, wdd, wat0, frz0, glo0, inr, lr, q⟩ := h
  refine ⟨_, (pss_cons (ps_set (i := 4) sc_law_orders_hold.nd rfl (Or.inl rfl) (pe_ix ix_list (pv 2) pe_int (fun _ _ => rfl)))
      (pss_cons (ps_set (i := 5) sc_law_orders_hold.nd rfl (Or.inl rfl) (pe_cal c__law_either (hr.mono (by first | decide | omega)) (by rfl) (pa_cons (pv 0) (pa_cons (pv 3) pa_nil))))
      (pss_cons (ps_set (i := 6) sc_law_orders_hold.nd rfl (Or.inl rfl) (pe_cal c__law_row_fault (hr.mono (by first | decide | omega)) (by rfl) (pa_cons (pe_ix ix_list (pv 2) pe_int (fun _ _ => rfl)) (pa_cons (pv 4) (pa_cons (pv 3) pa_nil)))))
      (pss_cons (ps_if (pt_cmpR op_notN (pv 6) pe_non (nomark _)) (pss_one (ps_ret (pe_and (pe_cal c__law_refuses (hr.mono (by first | decide | omega)) (by rfl) (pa_cons (pv 1) (pa_cons (pv 5) (pa_cons pe_bl (pa_cons (pv 6) pa_nil))))) (pe_one (pe_cal c__law_refuses (hr.mono (by first | decide | omega)) (by rfl) (pa_cons (pv 1) (pa_cons (pv 5) (pa_cons pe_bl (pa_cons (pv 6) pa_nil))))))))) pss_nil)
      (pss_cons (ps_set (i := 7) sc_law_orders_hold.nd rfl (Or.inl rfl) pe_int)
      (pss_cons (ps_for PassesOwn.never rfl (pi_range1 (by rfl) Z.z_range (pa_cons (pe_callB call_len_seq (by rfl) Z.z_len (by decide +kernel) (pa_cons (pv 3) pa_nil)) pa_nil)) (pg_name (i := 8) sc_law_orders_hold.nd rfl (Or.inl rfl)) (pss_one (ps_set (i := 7) sc_law_orders_hold.nd rfl (Or.inl rfl) (pe_op op_mul (pv 7) (pe_op op_add (pv 8) pe_int)))))
      (pss_cons (ps_set (i := 9) sc_law_orders_hold.nd rfl (Or.inl rfl) (pe_cmp (pc_eqI (pe_cal c__law_order_count (hr.mono (by first | decide | omega)) (by rfl) (pa_cons (pv 4) (pa_cons (pv 3) pa_nil))) (pv 7)) (nomark _)))
      (pss_cons (ps_set (i := 10) sc_law_orders_hold.nd rfl (Or.inl rfl) (pe_cal c__law_needless (hr.mono (by first | decide | omega)) (by rfl) (pa_cons (pv 4) (pa_cons (pv 3) pa_nil))))
      (pss_cons (ps_set (i := 11) sc_law_orders_hold.nd rfl (Or.inl rfl) pe_non)
      (Evl.pss_cut (ps_if (pt_cmp (pc_gt (pe_callB call_len_seq (by rfl) Z.z_len (by decide +kernel) (pa_cons (pv 10) pa_nil)) pe_int) (nomark _)) (pss_cons (ps_set (i := 12) sc_law_orders_hold.nd rfl (Or.inl rfl) (pe_ix ix_list (pv 10) pe_int (fun _ _ => rfl)))
      (pss_one (ps_set (i := 11) sc_law_orders_hold.nd rfl (Or.inl rfl) (pe_tupN (pa_cons (pe_callTy call_tupleN (by rfl) Z.z_tuple (by decide +kernel) (pa_cons (pv 3) pa_nil)) (pa_cons (pe_callTy call_tupleN (by rfl) Z.z_tuple (by decide +kernel) (pa_cons (pe_op op_catN (pe_op op_catN (pe_slice sl_listN (pv 3) po_none (po_some (pv 12))) (pe_slice sl_listN (pv 3) (po_some (pe_op op_add (pv 12) pe_int)) po_none)) (pe_lstN (pa_cons (pe_ix ix_list (pv 3) (pv 12) (fun _ _ => rfl)) pa_nil))) pa_nil)) (pa_cons (pe_op op_sub (pe_callB call_len_seq (by rfl) Z.z_len (by decide +kernel) (pa_cons (pv 3) pa_nil)) pe_int) pa_nil))))))) pss_nil)
      (pss_cons (ps_set (i := 13) sc_law_orders_hold.nd rfl (Or.inl rfl) (pe_lstN (pa_cons (pe_calQ c_every_order_tight (hr.mono (by first | decide | omega)) (by rfl) (pa_cons (pv 1) (pa_cons (pv 5) pa_nil))) (pa_cons (pe_calQ c_bad_order (hr.mono (by first | decide | omega)) (by rfl) (pa_cons (pv 1) (pa_cons (pv 5) pa_nil))) (pa_cons (pe_callTy call_listN (by rfl) Z.z_list (by decide +kernel) (pa_cons (pv 5) pa_nil)) (pa_cons (pe_cal c_is_bad_order (hr.mono (by first | decide | omega)) (by rfl) (pa_cons (pv 1) (pa_cons (pv 11) pa_nil))) pa_nil))))))
      (pss_cons (ps_if (PW.pt (pw_or (pt_not (pt_val (pe_cal c__law_agree (hr.mono (by first | decide | omega)) (by rfl) (pa_cons (pv 13) (pa_cons (pe_lstN (pa_cons (pv 9) (pa_cons (pv 11) (pa_cons (pv 3) (pa_cons (pe_cmpR op_notN (pv 11) pe_non (nomark _)) pa_nil))))) pa_nil))))) (pw_or1 (pt_cmpR (op_neD hr.units) (pv 9) (pe_cmpR op_isN (pv 11) pe_non (nomark _)) (nomark _))))) (pss_one (ps_ret pe_bl)) pss_nil)
      (pss_cons (ps_for PassesOwn.never rfl (pi_range1 (by rfl) Z.z_range (pa_cons pe_int pa_nil)) (pg_name (i := 8) sc_law_orders_hold.nd rfl (Or.inl rfl)) (pss_cons (ps_set (i := 14) sc_law_orders_hold.nd rfl (Or.inl rfl) (pe_callTy call_tupleN (by rfl) Z.z_tuple (by decide +kernel) (pa_cons (pe_cal c__law_drawn (hr.mono (by first | decide | omega)) (by rfl) (pa_cons (pv 0) (pa_cons (pv 3) (pa_cons (pe_callB call_len_seq (by rfl) Z.z_len (by decide +kernel) (pa_cons (pv 3) pa_nil)) pa_nil)))) pa_nil)))
      (pss_cons (ps_set (i := 15) sc_law_orders_hold.nd rfl (Or.inl rfl) (pe_tupN (pa_cons (pe_callTy call_tupleN (by rfl) Z.z_tuple (by decide +kernel) (pa_cons (pv 3) pa_nil)) (pa_cons (pv 14) (pa_cons (pe_cal c__law_take (hr.mono (by first | decide | omega)) (by rfl) (pa_cons (pv 0) (pa_cons (pe_op op_add (pe_callB call_len_seq (by rfl) Z.z_len (by decide +kernel) (pa_cons (pv 3) pa_nil)) pe_int) pa_nil))) pa_nil)))))
      (pss_one (ps_if (pt_not (pt_val (pe_cal c__law_agree (hr.mono (by first | decide | omega)) (by rfl) (pa_cons (pe_cal c_is_bad_order (hr.mono (by first | decide | omega)) (by rfl) (pa_cons (pv 1) (pa_cons (pv 15) pa_nil))) (pa_cons (pe_cal c__law_is_order (hr.mono (by first | decide | omega)) (by rfl) (pa_cons (pe_ix ix_list (pv 2) pe_int (fun _ _ => rfl)) (pa_cons (pv 4) (pa_cons (pv 15) pa_nil)))) pa_nil))))) (pss_one (ps_ret pe_bl)) pss_nil)))))
      (pss_one (ps_ret pe_bl))))))))))))))), ?_⟩
  obtain ⟨k0, m, ks, ms, gp0, gk0, gm0, dT0, dL0, ok⟩ := id frz0
  have mvL : AllMv n L := fun w hw => made_mv ok.n0 ok.mv ((ok.grp.mem w).mp hw)
  have lL := ok.lL
  have n12 := ok.n12
  refine ⟨_, rfl, p, _, 2, _, rfl, rfl, .of (wdd.gh _ _ gp0), rfl, ?_⟩
  refine ⟨_, rfl, _, rfl, S, G0, lo, _, rfl, wdd, wdd.ne glo0, wdd.gh _ _ glo0, fun op t1 H1 s1 g1 f1 h1 => ?_⟩
  obtain ⟨G1, S1, gg1, k1, -⟩ := s1.frz g1 f1 h1
  refine ⟨_, rfl, p, _, 0, _, rfl, rfl, .of (S1.gh _ _ (gg1 _ _ gp0)), rfl, _, rfl, _, rfl, G1, m, lo, n, ms, L, rs, rfl, S1.gh, ok.n0, ok.n12, gg1 _ _ gm0, dL0.up gg1, mvL, by omega, gg1 _ _ glo0, inr, lr, fun v G2 H2 s2 dv => ?_⟩
  have S2 := S1.q s2
  have g2 := gg1.trans s2.gg
  have gp := g2 _ _ gp0
  have gm := g2 _ _ gm0
  have dL := dL0.up g2
  have glo := g2 _ _ glo0
  have wat := wat0.up g2
  have hop : HasL G2 op (rs.map V.int) := (if_L k1).up s2.gg
  clear s1 g1 f1 h1 gg1 k1 S1 s2 g2
  by_cases hn : faultD n rs L = .none
  case neg =>
    have vn : v ≠ .non := fun e => by
      subst e
      generalize faultD n rs L = fd at dv hn
      cases dv
      exact hn rfl
    refine ⟨_, rfl, rfl, _, rfl, iteBT (by rw [decide_eq_false vn]; rfl) ?_⟩
    have bad : RowBad G2 n op L (rs.map V.int) (rs.map PyData.int) (faultD n rs L) := .inr ⟨rs, rfl, inr, lr, rfl, hn⟩
    refine ⟨_, rfl, _, rfl, _, rfl, G2, x, op, false, v, n, T, L, _, _, _, rfl, S2.gh, wat, ok, hop, DaAll.ints rs, dv, bad, fun H3 s3 => ⟨_, rfl, iteT ?_⟩⟩
    have S3 := S2.pure s3
    exact ⟨_, rfl, _, rfl, _, rfl, G2, x, op, true, v, n, T, L, _, _, _, rfl, S3.gh, wat, ok, hop, DaAll.ints rs, dv, bad, fun H4 s4 => q G2 H4 (S3.pure s4)⟩
  obtain ⟨e0, e1⟩ : lsx rs L = [] ∧ opL n rs L = [] := by
    rcases fault_cases n rs L with ⟨k, r, el, ef⟩ | ⟨e0, k, r, el, ef⟩ | ⟨e0, e1, ef⟩
    · rw [ef] at hn; cases hn
    · rw [ef] at hn; cases hn
    · exact ⟨e0, e1⟩
  rw [hn] at dv
  cases dv
  have nd := tight_nodup e0
  have r12 := inR_len n12 nd inr
  refine ⟨_, rfl, rfl, _, rfl, iteBF (by simp) ?_⟩
  refine ⟨_, rfl, lo, _, rfl, .inl (.of (S2.gh _ _ glo)), _, rfl, by rw [List.length_map]; omega, by rw [List.length_map]; omega, ?_⟩
  rw [List.length_map]
  refine for_range (lo := 0) (n := rs.length) (fun i σ' H' => ∃ y8 : Option V, σ' = [some (.ref S.a), some (.ref x), some (.ref p), some (.ref lo), some (.ref m), some (.ref op), some .non, some (.int ((fct i : Nat) : Int)), y8, none, none, none, none, none, none, none] ∧ H' = H2) ⟨none, rfl, rfl⟩ ?_ ?_
  · rintro i σ' H' hi ⟨y8, rfl, rfl⟩
    rw [Int.zero_add]
    have e : ((fct i : Nat) : Int) * ((i : Int) + 1) = ((fct (i + 1) : Nat) : Int) := by
      rw [show fct (i + 1) = (i + 1) * fct i from rfl, Int.natCast_mul, Int.mul_comm]
      rfl
    exact ⟨_, rfl, _, rfl, _, _, rfl, rfl, _, _, rfl, rfl, .inr ⟨by omega, by omega⟩, _, by rw [← e]; rfl, rfl⟩
  rintro σ' H' ⟨y8, rfl, rfl⟩
  refine ⟨_, rfl, _, rfl, G2, m, lo, n, ms, L, rs, rfl, S2.gh, gm, dL, mvL, by omega, n12, S2.gh _ _ glo, inr, e0, fun H3 s3 => ⟨_, rfl, _, _, rfl, rfl, ?_⟩⟩
  dsimp only
  rw [ext_fct nd]
  have S3 := S2.pure s3
  refine ⟨_, rfl, _, rfl, G2, m, lo, n, ms, L, rs, rfl, S3.gh, gm, dL, mvL, by omega, glo, inr, lr, fun np H4 s4 hnp => ?_⟩
  have S4 := S3.pure s4
  refine ⟨fun σ' H' => ∃ (G' : Hp) (v : V) (y12 : Option V), σ' = [some (.ref S.a), some (.ref x), some (.ref p), some (.ref lo), some (.ref m), some (.ref op), some .non, some (.int ((fct rs.length : Nat) : Int)), y8, some (.bl (decide (ndx rs L = []))), some (.ref np), some v, y12, none, none, none] ∧ Go S G0 H G' H' ∧ Same G2 G' ∧ Da G' v (boD rs L), ?_, ?_⟩
  · refine ⟨_, rfl, np, _, rfl, .inl (.of hnp), _, _, rfl, rfl, _, rfl, ite2 (fun c => ?_) (fun c => ?_)⟩
    · have c : (0 : Int) < ((((ndx rs L).map V.int).length : Nat) : Int) := dec_of c
      cases en : ndx rs L with
      | nil =>
        rw [en] at c
        exact absurd c (by decide)
      | cons k r =>
        obtain ⟨kn, rfl, kl, -⟩ := ndx_at2 en
        rw [en] at hnp
        have hr : rs[kn]? = some rs[kn] := List.getElem?_eq_getElem kl
        have gd : rs.getD kn 0 = rs[kn] := by rw [List.getD_eq_getElem?_getD, hr]; rfl
        have at_ : atI (rs.map V.int) (kn : Int) = some (V.int rs[kn]) := atI_nat (by rw [List.getElem?_map, hr]; rfl)
        have sz1 : ∀ {k : Nat}, k ≤ 1000 → k ≤ sizeLine := fun h => Nat.le_trans h (by decide)
        have lE := List.length_eraseIdx_of_lt kl
        refine ⟨_, rfl, np, _, 0, _, rfl, rfl, .of hnp, atI_nat (j := 0) rfl, ?_⟩
        refine ⟨_, rfl, lo, _, rfl, .of (S4.gh _ _ glo), fun t1 H5 n5 => ?_⟩
        obtain ⟨G5, S5, g5, k5, -⟩ := S4.know n5
        refine ⟨_, rfl, _, rfl, kn, rfl, lo, _, rfl, .of (S5.gh _ _ (g5 _ _ glo)), fun a1 H6 n6 => ?_⟩
        have S6 := (S5.loc n6).1
        refine ⟨_, rfl, _, rfl, _, _, rfl, rfl, (kn : Int) + 1, rfl, lo, _, rfl, .of (S6.gh _ _ (g5 _ _ glo)), fun a2 H7 n7 => ?_⟩
        have S7 := (S6.loc n7).1
        have ecat : cutV (rs.map V.int) none (some (kn : Int)) ++ cutV (rs.map V.int) (some ((kn : Int) + 1)) none = (rs.eraseIdx kn).map V.int := by rw [erase_cutV, erase_map]
        refine ⟨a1, a2, _, _, rfl, rfl, n7.else n6.at, n7.at, by
          have := congrArg List.length ecat
          rw [List.length_append, List.length_map] at this
          exact sz1 (by omega), fun a3 H8 n8 => ?_⟩
        rw [ecat] at n8
        have S8 := (S7.loc n8).1
        refine ⟨_, rfl, _, rfl, lo, _, _, _, rfl, rfl, .of (S8.gh _ _ (g5 _ _ glo)), at_, by show 1 ≤ sizeLine; decide, fun a4 H9 n9 => ?_⟩
        have S9 := (S8.loc n9).1
        refine ⟨a3, a4, _, _, rfl, rfl, n9.else n8.at, n9.at, by
          rw [List.length_map]
          exact sz1 (by show _ + 1 ≤ 1000; omega), fun a5 HA nA => ?_⟩
        have SA := (S9.loc nA).1
        refine ⟨a5, _, rfl, .of nA.at, fun t2 HB nB => ?_⟩
        obtain ⟨GB, SB, gB, kB, -⟩ := SA.know nB
        refine ⟨_, rfl, lo, _, rfl, .inl (.of (SB.gh _ _ (gB _ _ (g5 _ _ glo)))), _, _, rfl, rfl, by show 3 ≤ sizeLine; decide, fun t3 HC nC => ?_⟩
        obtain ⟨GC, SC, gC, kC, -⟩ := SB.know nC
        refine ⟨GC, .ref t3, _, rfl, SC, g5.trans (gB.trans gC), ?_⟩
        rw [boD_cons en, gd]
        have kB' : GC t2 = some (.tup (((rs.eraseIdx kn) ++ [rs[kn]]).map V.int)) := by
          rw [List.map_append]
          exact gC _ _ kB
        rw [List.length_map] at kC
        exact .tup kC (.cons (.tup (gC _ _ (gB _ _ k5)) (DaAll.ints rs)) (.cons (.tup kB' (DaAll.ints _)) (.cons (.int _) .nil)))
    · have c : ¬ (0 : Int) < ((((ndx rs L).map V.int).length : Nat) : Int) := dec_not c
      have en : ndx rs L = [] := by
        cases e : ndx rs L with
        | nil => rfl
        | cons k r =>
          rw [e] at c
          exact absurd (by rw [List.length_map, List.length_cons]; omega) c
      refine ⟨G2, .non, _, rfl, S4, Same.refl _, ?_⟩
      rw [boD_nil en]
      exact .non
  clear hnp s4 S3 S4
  rintro σ' H5 ⟨G5, v, y12, rfl, S5, g25, dv⟩
  have gp5 := g25 _ _ gp
  have gm5 := g25 _ _ gm
  have dL5 := dL.up g25
  have glo5 := g25 _ _ glo
  have wat5 := wat.up g25
  have hop5 := hop.up g25
  have eb := bo_bad ok inr lr e0 e1
  -- what the program answers
  refine ⟨_, rfl, _, rfl, G5, x, op, n, T, L, _, _, rfl, S5.gh, wat5, ok, hop5, DaAll.ints rs, rowJ_good inr lr ⟨fun k r e => by (rw [e0] at e; cases e), fun _ k r e => by (rw [e1] at e; cases e), fun _ _ H6 s6 => ?_⟩⟩
  have S6 := S5.pure s6
  refine ⟨_, rfl, _, rfl, G5, x, op, n, T, L, _, _, rfl, S6.gh, wat5, ok, hop5, DaAll.ints rs, rowJ_good inr lr ⟨fun k r e => by (rw [e0] at e; cases e), fun _ k r e => by (rw [e1] at e; cases e), fun _ _ v7 G7 H7 s7 dv7 => ?_⟩⟩
  have S7 := S6.q s7
  have hop7 := (hop5.up s7.gg).up s7.gh
  refine ⟨_, rfl, op, _, rfl, hop7.len, fun u1 H8 n8 => ?_⟩
  obtain ⟨G8, S8, g8, k8, -⟩ := S7.know n8
  have g58 := s7.gg.trans g8
  have dv8 := dv.up g58
  refine ⟨_, rfl, _, rfl, G8, x, v, _, n, T, L, rfl, S8.gh, wat5.up g58, ok, dv8, fun H9 s9 => ?_⟩
  rw [eb]
  have S9 := S8.pure s9
  refine ⟨by show 4 ≤ sizeLine; decide, fun al HA nA => ?_⟩
  obtain ⟨GA, SA, gA, kA, -⟩ := S9.know nA
  refine ⟨_, rfl, _, rfl, _, rfl, _, rfl, _, rfl, rfl, by show 4 ≤ sizeLine; decide, fun bl HB nB => ?_⟩
  obtain ⟨GB, SB, gB, kB, -⟩ := SA.know nB
  have g5B := g58.trans (gA.trans gB)
  have da1 : Da GB (.ref al) (.list [.bool (decide (ndx rs L = [])), boD rs L, .list (rs.map .int), .bool (!decide (ndx rs L = []))]) := .lst (gB _ _ kA) (.cons (.bl _) (.cons ((dv7.up g8).up (gA.trans gB)) (.cons (.lst ((gA.trans gB) _ _ k8) (DaAll.ints rs)) (.cons (.bl _) .nil))))
  rw [bo_non dv] at kB
  have da2 : Da GB (.ref bl) (.list [.bool (decide (ndx rs L = [])), boD rs L, .list (rs.map .int), .bool (!decide (ndx rs L = []))]) := .lst kB (.cons (.bl _) (.cons (dv.up g5B) (.cons (.lst (g5B _ _ glo5) (DaAll.ints rs)) (.cons (.bl _) .nil))))
  have szb := bo_sz (L := L) lr
  have szr : szL (rs.map .int) = rs.length := szL_ints rs
  dsimp only [tNil]
  refine agree_ok (da1.up SB.gh) (da2.up SB.gh) (by
    show 1 + (1 + (szD (boD rs L) + ((1 + szL (rs.map .int)) + (1 + 0)))) ≤ 100000
    omega) (by
    show ([.bool (decide (ndx rs L = [])), boD rs L, .list (rs.map .int), .bool (!decide (ndx rs L = []))] : List PyData).all (lv 3) = true
    rw [List.all_eq_true]
    intro e he
    simp only [List.mem_cons, List.not_mem_nil, or_false] at he
    rcases he with rfl | rfl | rfl | rfl
    · rfl
    · exact bo_lv
    · exact lv_ints 1 rs
    · rfl) fun HC sC => ⟨_, rfl, iteBF rfl ?_⟩
  have SC := SB.pure sC
  refine ⟨_, rfl, _, rfl, rfl, .bool (decide (ndx rs L = [])), .bool (decide (v = .non)), .bl _, .bl _, rfl, rfl, ?_⟩
  rw [show (!PyData.eqv (.bool (decide (ndx rs L = []))) (.bool (decide (v = .non)))) = false from by
    rw [bo_non dv]
    cases decide (ndx rs L = []) <;> rfl]
  refine ⟨_, rfl, iteBF rfl ?_⟩
  have gpB := g5B _ _ gp5
  have gmB := g5B _ _ gm5
  have dLB := dL5.up g5B
  have gloB := g5B _ _ glo5
  have watB := wat5.up g5B
  clear da1 da2 dv7 dv8 dv hop7 hop5 hop k8 kA kB szb nA nB n8 S6 S7 S8 S9 SA SB s6 s9 sC s7
  -- other orders
  refine ⟨4, rfl, by decide, by decide, ?_⟩
  refine for_range (lo := 0) (n := (4 : Int).toNat) (fun i σ' H' => ∃ (G' : Hp) (y8 y14 y15 : Option V), σ' = [some (.ref S.a), some (.ref x), some (.ref p), some (.ref lo), some (.ref m), some (.ref op), some .non, some (.int ((fct rs.length : Nat) : Int)), y8, some (.bl (decide (ndx rs L = []))), some (.ref np), some v, y12, some (.ref al), y14, y15] ∧ Go S G0 H G' H' ∧ Same GB G') ⟨GB, _, _, _, rfl, SC, Same.refl _⟩ ?_ ?_
  · rintro i σ' H' hi ⟨GD, y8', y14, y15, rfl, SD, gBD⟩
    rw [Int.zero_add]
    have gloD := gBD _ _ gloB
    refine ⟨_, rfl, _, rfl, _, rfl, lo, _, rfl, .inl (.of (SD.gh _ _ gloD)), S, GD, lo, _, _, rfl, SD.wd, .inl (SD.gh _ _ gloD), by rw [List.length_map]; omega, by omega, by rw [List.length_map]; omega, fun l ys rest HE sE gl fl hl pm ly => ?_⟩
    obtain ⟨ss, ms', rfl, rfl, pm2⟩ := perm_ints pm
    have lss : ss.length = rs.length := by
      rw [List.length_map, List.length_map, Int.toNat_natCast, Nat.min_self] at ly
      exact ly
    obtain ⟨GE, SE, gE, kl, -⟩ := (SD.trans sE).frz gl (SD.fresh fl) hl
    refine ⟨l, _, rfl, .of (SE.gh _ _ kl), fun tp HF nF => ?_⟩
    obtain ⟨GF, SF, gF, kF, -⟩ := SE.know nF
    have gBF := gBD.trans (gE.trans gF)
    have gloF := gBF _ _ gloB
    refine ⟨_, rfl, lo, _, rfl, .of (SF.gh _ _ gloF), fun tq HG nG => ?_⟩
    obtain ⟨GG, SG, gG, kG, -⟩ := SF.know nG
    have gBG := gBF.trans gG
    refine ⟨_, rfl, _, rfl, _, rfl, lo, _, rfl, .inl (.of (SG.gh _ _ (gG _ _ gloF))), _, _, rfl, rfl, S, GG, _, rfl, SG.wd, by rw [List.length_map]; omega, fun d HH d0 d1 sH => ?_⟩
    have SH := SG.trans sH
    refine ⟨by show 3 ≤ sizeLine; decide, fun tr HI nI => ?_⟩
    obtain ⟨GI, SI, gI, kI, -⟩ := SH.know nI
    have gBI := gBG.trans (sH.gg.trans gI)
    have dd : Da GI (.ref tr) (.tuple [.tuple (rs.map .int), .tuple (ss.map .int), .int d]) := .tup kI (.cons (.tup ((sH.gg.trans gI) _ _ kG) (DaAll.ints rs)) (.cons (.tup ((gG.trans (sH.gg.trans gI)) _ _ kF) (DaAll.ints ss)) (.cons (.int d) .nil)))
    have szs : szL (ss.map .int) = ss.length := szL_ints ss
    refine ⟨_, rfl, _, rfl, GI, x, .ref tr, _, n, T, L, rfl, SI.gh, watB.up gBI, ok, dd, fun HJ sJ => ?_⟩
    have SJ := SI.pure sJ
    refine ⟨_, rfl, p, _, 0, _, rfl, rfl, .of (SJ.gh _ _ (gBI _ _ gpB)), rfl, _, rfl, _, rfl, GI, m, .ref tr, _, n, ms, T, L, rfl, SJ.gh, ok, gBI _ _ gmB, dLB.up gBI, dd, by
      show 1 + ((1 + szL (rs.map .int)) + ((1 + szL (ss.map .int)) + (1 + 0))) ≤ 500
      omega, fun HK sK => ?_⟩
    dsimp only [tNil]
    exact agree_ok (.bl _) (.bl _) (by show 1 ≤ 100000; decide) rfl fun HL sL => ⟨_, rfl, iteBF rfl ⟨GI, _, _, _, rfl, (SJ.pure sK).pure sL, gBI⟩⟩
  rintro σ' H' ⟨GD, y8', y14, y15, rfl, SD, -⟩
  exact q GD H' SD


theorem ok_law {f : Addr} {fd : FuncData} {CW : Addr} (Z : Zs mg) (D : Ds K mg) (F : Fun K "law" "law" s_law f fd) (W : Dw K mg CW) (c__law_store : Cal P w K mg base "_law_store" 1 ["script"] (spStore K)) (c__law_take : Cal P w K mg base "_law_take" 2 ["store", "many"] spTake) (c__law_pick : Cal P w K mg base "_law_pick" 3 ["store", "things"] spPick) (c__law_any_world : Cal P w K mg base "_law_any_world" 5 ["store", "most"] spAnyWorld) (c__law_tall_world : Cal P w K mg base "_law_tall_world" 4 ["store", "which"] spTall) (c__law_built : Cal P w K mg base "_law_built" 9 ["store", "drawn"] (spBuilt CW)) (c__law_near_row : Cal P w K mg base "_law_near_row" 5 ["store", "points", "made"] spNearRow) (c__law_full_row : Cal P w K mg base "_law_full_row" 4 ["store", "points", "made"] spFullRow) (c__law_orders_hold : Cal P w K mg base "_law_orders_hold" 12 ["store", "world", "drawn", "row"] (spOrdHolds CW))
    (c__law_wrong_row : Cal P w K mg base "_law_wrong_row" 5 ["store", "points", "row"] spWrongRw) (c__law_refuses : Cal P w K mg base "_law_refuses" 11 ["world", "row", "order", "due"] (spRefusesB CW)) : FnOk P w K mg base CX0 13 f fd ["script"] (spLaw K) := by
  refine F.ok sc_law (fun vs H Q E h => ?_) (fun cdv A outer s H vs Q E hr h => ?_)
  · obtain ⟨a, ns, rfl, _⟩ := h
    rfl
  obtain ⟨a, ns, rfl, hS, hn, q⟩ := h
  refine ⟨_, (pss_cons (ps_set (i := 1) sc_law.nd rfl (Or.inl rfl) (pe_cal c__law_store (hr.mono (by first | decide | omega)) (by rfl) (pa_cons (pv 0) pa_nil)))
      (pss_cons (ps_set (i := 2) sc_law.nd rfl (Or.inl rfl) (pe_cal c__law_any_world (hr.mono (by first | decide | omega)) (by rfl) (pa_cons (pv 1) (pa_cons (pe_cal c__law_pick (hr.mono (by first | decide | omega)) (by rfl) (pa_cons (pv 1) (pa_cons (pe_op op_catN (pe_op op_repL (pe_lstN (pa_cons pe_int pa_nil)) pe_int) (pe_lstN (pa_cons pe_int pa_nil))) pa_nil))) pa_nil))))
      (Evl.pss_cut (ps_if (pt_cmp (pc_eqI (pe_cal c__law_take (hr.mono (by first | decide | omega)) (by rfl) (pa_cons (pv 1) (pa_cons pe_int pa_nil))) pe_int) (nomark _)) (pss_one (ps_set (i := 2) sc_law.nd rfl (Or.inl rfl) (pe_cal c__law_tall_world (hr.mono (by first | decide | omega)) (by rfl) (pa_cons (pv 1) (pa_cons (pe_cal c__law_pick (hr.mono (by first | decide | omega)) (by rfl) (pa_cons (pv 1) (pa_cons (pe_lstN (pa_cons pe_int (pa_cons pe_int (pa_cons pe_int (pa_cons pe_int (pa_cons pe_int pa_nil)))))) pa_nil))) pa_nil))))) pss_nil)
      (pss_cons (ps_set (i := 3) sc_law.nd rfl (Or.inl rfl) (pe_cal c__law_built (hr.mono (by first | decide | omega)) (by rfl) (pa_cons (pv 1) (pa_cons (pv 2) pa_nil))))
      (pss_cons (ps_set (i := 4) sc_law.nd rfl (Or.inl rfl) (pe_cal c__law_any_world (hr.mono (by first | decide | omega)) (by rfl) (pa_cons (pv 1) (pa_cons pe_int pa_nil))))
      (pss_cons (ps_set (i := 5) sc_law.nd rfl (Or.inl rfl) (pe_cal c__law_built (hr.mono (by first | decide | omega)) (by rfl) (pa_cons (pv 1) (pa_cons (pv 4) pa_nil))))
      (pss_cons (ps_set (i := 6) sc_law.nd rfl (Or.inl rfl) (pe_cal c__law_near_row (hr.mono (by first | decide | omega)) (by rfl) (pa_cons (pv 1) (pa_cons (pe_ix ix_list (pv 2) pe_int (fun _ _ => rfl)) (pa_cons (pe_ix ix_list (pv 2) pe_int (fun _ _ => rfl)) pa_nil)))))
      (pss_cons (ps_set (i := 7) sc_law.nd rfl (Or.inl rfl) (pe_cal c__law_near_row (hr.mono (by first | decide | omega)) (by rfl) (pa_cons (pv 1) (pa_cons (pe_ix ix_list (pv 4) pe_int (fun _ _ => rfl)) (pa_cons (pe_ix ix_list (pv 4) pe_int (fun _ _ => rfl)) pa_nil)))))
      (pss_cons (ps_set (i := 8) sc_law.nd rfl (Or.inl rfl) (pe_cal c__law_orders_hold (hr.mono (by first | decide | omega)) (by rfl) (pa_cons (pv 1) (pa_cons (pv 3) (pa_cons (pv 2) (pa_cons (pv 6) pa_nil))))))
      (pss_cons (ps_if (pt_cmp (pc_eqI (pe_callB call_len (by rfl) Z.z_len (by decide +kernel) (pa_cons (pe_ix ix_list (pv 2) pe_int (fun _ _ => rfl)) pa_nil)) pe_int) (nomark _)) (pss_one (ps_ret (pv 8))) pss_nil)
      (pss_cons (ps_set (i := 8) sc_law.nd rfl (Or.inl rfl) (pe_and (pv 8) (pe_one (pe_cal c__law_orders_hold (hr.mono (by first | decide | omega)) (by rfl) (pa_cons (pv 1) (pa_cons (pv 5) (pa_cons (pv 4) (pa_cons (pv 7) pa_nil))))))))
      (pss_cons (ps_set (i := 9) sc_law.nd rfl (Or.inl rfl) (pe_cal c__law_wrong_row (hr.mono (by first | decide | omega)) (by rfl) (pa_cons (pv 1) (pa_cons (pe_ix ix_list (pv 2) pe_int (fun _ _ => rfl)) (pa_cons (pv 6) pa_nil)))))
      (pss_cons (ps_set (i := 8) sc_law.nd rfl (Or.inl rfl) (pe_and (pv 8) (pe_one (pe_cal c__law_refuses (hr.mono (by first | decide | omega)) (by rfl) (pa_cons (pv 3) (pa_cons (pe_ix ix_list (pv 9) pe_int (fun _ _ => rfl)) (pa_cons (pe_cmp (pc_eqI (pe_cal c__law_take (hr.mono (by first | decide | omega)) (by rfl) (pa_cons (pv 1) (pa_cons pe_int pa_nil))) pe_int) (nomark _)) (pa_cons (pe_ix ix_list (pv 9) pe_int (fun _ _ => rfl)) pa_nil))))))))
      (pss_cons (ps_set (i := 10) sc_law.nd rfl (Or.inl rfl) (pe_cal c__law_full_row (hr.mono (by first | decide | omega)) (by rfl) (pa_cons (pv 1) (pa_cons (pe_ix ix_list (pv 2) pe_int (fun _ _ => rfl)) (pa_cons (pe_ix ix_list (pv 2) pe_int (fun _ _ => rfl)) pa_nil)))))
      (pss_one (ps_ret (pe_and (pv 8) (pe_and (pe_cal c__law_orders_hold (hr.mono (by first | decide | omega)) (by rfl) (pa_cons (pv 1) (pa_cons (pv 3) (pa_cons (pv 2) (pa_cons (pv 10) pa_nil))))) (pe_one (pe_cal c__law_orders_hold (hr.mono (by first | decide | omega)) (by rfl) (pa_cons (pv 1) (pa_cons (pv 3) (pa_cons (pv 2) (pa_cons (pv 6) pa_nil)))))))))))))))))))))))), ?_⟩
  have sz1 : ∀ {k : Nat}, k ≤ 1000 → k ≤ sizeLine := fun h => Nat.le_trans h (by decide)
  refine ⟨_, rfl, a, ns, rfl, hS, hn, fun S H1 w1 => ?_⟩
  refine ⟨_, rfl, _, rfl, by show 1 ≤ sizeLine; decide, fun l1 H2 n2 => ?_⟩
  have s2 := ((Go.refl w1).loc n2).1
  refine ⟨l1, _, _, rfl, rfl, n2.at, by decide, by decide, sz1 (by decide), fun l2 H3 n3 => ?_⟩
  rw [rep_one3] at n3
  have s3 := (s2.loc n3).1
  refine ⟨by show 1 ≤ sizeLine; decide, fun l3 H4 n4 => ?_⟩
  have s4 := (s3.loc n4).1
  refine ⟨l2, l3, _, _, rfl, rfl, n4.else n3.at, n4.at, sz1 (by decide), fun l4 H5 n5 => ?_⟩
  obtain ⟨s5, g5, h5, f5⟩ := s4.loc n5
  refine ⟨S, H, .ref l4, _, rfl, s5.wd, .inl ⟨l4, rfl, s5.ns f5, h5⟩, by decide, by decide, fun x H6 hx s6 => ?_⟩
  obtain ⟨most, rfl, m1, m4⟩ : ∃ most : Int, x = .int most ∧ 1 ≤ most ∧ most ≤ 400 := by
    rcases List.mem_append.mp hx with hx | hx
    · rw [List.eq_of_mem_replicate hx]
      exact ⟨24, rfl, by decide, by decide⟩
    · rw [List.mem_singleton.mp hx]
      exact ⟨400, rfl, by decide, by decide⟩
  have s6 := s5.trans s6
  refine ⟨S, H, most, rfl, s6.wd, m1, m4, fun p n T L H7 arn lL => ?_⟩
  obtain ⟨G7, s7, frz⟩ := arn.frz
  have S7 := s6.trans s7
  clear s2 s3 s4 s5 s6 s7 h5 hx arn lL
  refine ⟨fun σ' H' => ∃ (G' : Hp) (p : Addr) (n : Int) (T L : List (List Int)), σ' = [some (.ref a), some (.ref S.a), some (.ref p), none, none, none, none, none, none, none, none] ∧ Go S H H1 G' H' ∧ Frz G' p n T L, ?_, ?_⟩
  · refine ⟨_, rfl, S, G7, 48, rfl, S7.wd, by omega, fun d H8 d0 d1 s8 => ⟨_, _, rfl, rfl, _, rfl, ite2 (fun c => ?_) (fun c => ⟨G7, p, n, T, L, rfl, S7.trans s8, frz⟩)⟩⟩
    have S8 := S7.trans s8
    refine ⟨_, rfl, _, rfl, by show 5 ≤ sizeLine; decide, fun lq HA nA => ?_⟩
    obtain ⟨SA, gA, hA, fA⟩ := S8.loc nA
    refine ⟨S, G7, .ref lq, _, rfl, SA.wd, .inl ⟨lq, rfl, SA.ns fA, hA⟩, by show 0 < 5; decide, by show 5 < 1000000; decide, fun y HB hy sB => ?_⟩
    obtain ⟨k, rfl, k2⟩ : ∃ k : Nat, y = .int (k : Int) ∧ k ≤ 2 := by
      simp only [List.mem_cons, List.not_mem_nil, or_false] at hy
      rcases hy with rfl | rfl | rfl | rfl | rfl
      · exact ⟨1, rfl, by decide⟩
      · exact ⟨2, rfl, by decide⟩
      · exact ⟨1, rfl, by decide⟩
      · exact ⟨2, rfl, by decide⟩
      · exact ⟨0, rfl, by decide⟩
    have SB := SA.trans sB
    exact ⟨S, G7, k, rfl, SB.wd, k2, fun p T L GC HC sC frz => ⟨GC, p, 12, T, L, rfl, SB.trans sC, frz⟩⟩
  clear frz S7
  rintro σ' H7 ⟨G7, p, n, T, L, rfl, S7, frz⟩
  obtain ⟨k0, m0, ks, ms, gp, gk, gm, dT, dL, ok⟩ := id frz
  have mvL : AllMv n L := fun w hw => made_mv ok.n0 ok.mv ((ok.grp.mem w).mp hw)
  have lL4 := ok.lL
  refine ⟨_, rfl, _, rfl, S, G7, p, n, T, L, rfl, S7.wd, frz, fun x G8 H8 s8 wat => ?_⟩
  have S8 := S7.trans s8
  -- a second world
  refine ⟨_, rfl, S, G8, 24, rfl, S8.wd, by decide, by decide, fun p2 n2 T2 L2 H9 arn2 lL2 => ?_⟩
  obtain ⟨G9, s9, frz2⟩ := arn2.frz
  have S9 := S8.trans s9
  obtain ⟨k2, m2, ks2, ms2, gp2, gk2, gm2, dT2, dL2, ok2⟩ := id frz2
  have mvL2 : AllMv n2 L2 := fun w hw => made_mv ok2.n0 ok2.mv ((ok2.grp.mem w).mp hw)
  have lL24 := ok2.lL
  refine ⟨_, rfl, _, rfl, S, G9, p2, n2, T2, L2, rfl, S9.wd, frz2, fun x2 GA HA sA wat2 => ?_⟩
  have SA := S9.trans sA
  have g7A := s8.gg.trans (s9.gg.trans sA.gg)
  have gpA := g7A _ _ gp
  have gmA := g7A _ _ gm
  have dLA := dL.up g7A
  -- the rows
  refine ⟨_, rfl, _, rfl, p, _, 0, _, rfl, rfl, .of (SA.gh _ _ gpA), rfl, _, rfl, p, _, 2, _, rfl, rfl, .of (SA.gh _ _ gpA), rfl, S, GA, m0, n, ms, L, rfl, SA.wd, ok.n0, ok.n12, gmA, dLA, mvL, by omega, fun rp rs GB HB sB gr fr hr inr lr => ?_⟩
  obtain ⟨GC, SC, gC, kr, -⟩ := (SA.trans sB).frz gr (SA.fresh fr) hr
  have gAC := sB.gg.trans gC
  have gp2C := (sA.gg.trans gAC) _ _ gp2
  have gm2C := (sA.gg.trans gAC) _ _ gm2
  have dL2C := dL2.up (sA.gg.trans gAC)
  refine ⟨_, rfl, _, rfl, p2, _, 0, _, rfl, rfl, .of (SC.gh _ _ gp2C), rfl, _, rfl, p2, _, 2, _, rfl, rfl, .of (SC.gh _ _ gp2C), rfl, S, GC, m2, n2, ms2, L2, rfl, SC.wd, ok2.n0, ok2.n12, gm2C, dL2C, mvL2, by omega, fun fp fs GD HD sD gf ff hf inf lf => ?_⟩
  obtain ⟨GE, SE, gE, kf, -⟩ := (SC.trans sD).frz gf (SC.fresh ff) hf
  have gCE := sD.gg.trans gE
  have g7E := g7A.trans (gAC.trans gCE)
  have watE : WAt CW GE x n T L := wat.up (s9.gg.trans (sA.gg.trans (gAC.trans gCE)))
  have frzE := frz.up g7E
  have krE := gCE _ _ kr
  refine ⟨_, rfl, _, rfl, _, rfl, _, rfl, S, GE, x, p, rp, n, T, L, rs, rfl, SE.wd, watE, frzE, krE, inr, lr, fun GF HF sF => ?_⟩
  have SF := SE.trans sF
  have gpF := (g7E.trans sF.gg) _ _ gp
  have gmF := (g7E.trans sF.gg) _ _ gm
  refine ⟨_, rfl, p, _, 2, _, rfl, rfl, .of (SF.gh _ _ gpF), rfl, _, _, rfl, HasL.lenV (.inl (SF.gh _ _ gmF)), _, _, rfl, rfl, _, rfl, ite2 (fun c => ⟨_, rfl, q HF⟩) (fun c => ?_)⟩
  have wat2F := wat2.up (gAC.trans (gCE.trans sF.gg))
  have frz2F := frz2.up (sA.gg.trans (gAC.trans (gCE.trans sF.gg)))
  refine ⟨_, rfl, _, rfl, iteT ⟨_, rfl, _, rfl, _, rfl, _, rfl, S, GF, x2, p2, fp, n2, T2, L2, fs, rfl, SF.wd, wat2F, frz2F, sF.gg _ _ kf, inf, lf, fun GG HG sG => ?_⟩⟩
  have SG := SF.trans sG
  have g7G := g7E.trans (sF.gg.trans sG.gg)
  have gpG := g7G _ _ gp
  have gmG := g7G _ _ gm
  -- what is refused
  have gEG := sF.gg.trans sG.gg
  have krG := gEG _ _ krE
  refine ⟨_, rfl, _, rfl, p, _, 0, _, rfl, rfl, .of (SG.gh _ _ gpG), rfl, _, rfl, S, GG, n, rp, rs, rfl, SG.wd, ok.n0, ok.n12, SG.wd.ne krG, SG.gh _ _ krG, inr, lr, fun bl bp bdu bt bxs bds due GO HO_ sO kbl bad dd => ?_⟩
  have SO := SG.trans sO
  have gEO := gEG.trans sO.gg
  refine ⟨_, rfl, _, rfl, iteT ⟨_, rfl, _, rfl, bl, _, 0, _, rfl, rfl, .of (SO.gh _ _ kbl), rfl, _, rfl, S, GO, 2, rfl, SO.wd, by omega, fun d HP d0 d1 sP => ⟨_, _, rfl, rfl, ?_⟩⟩⟩
  have SP0 := SO.trans sP
  refine ⟨_, rfl, bl, _, 1, _, rfl, rfl, .of (SP0.gh _ _ (sP.gg _ _ kbl)), rfl, GO, x, bp, _, .ref bdu, n, T, L, bxs, bds, due, rfl, SP0.gh, watE.up gEO, ok, if_L bad.at_, bad.da, dd, .inl ⟨bt, bad⟩, fun HQ sQ => ?_⟩
  have SQ := SP0.pure sQ
  have g7O := g7E.trans gEO
  -- a full row
  refine ⟨_, rfl, _, rfl, p, _, 0, _, rfl, rfl, .of (SQ.gh _ _ (g7O _ _ gp)), rfl, _, rfl, p, _, 2, _, rfl, rfl, .of (SQ.gh _ _ (g7O _ _ gp)), rfl, S, GO, m0, n, ms, L, rfl, SQ.wd, ok.n0, ok.n12, g7O _ _ gm, dL.up g7O, mvL, by omega, fun mp us GH HH sH gu fu hu inu lu => ?_⟩
  obtain ⟨GI, SI, gI, ku, -⟩ := (SQ.trans sH).frz gu (SQ.fresh fu) hu
  have gEI := gEO.trans (sH.gg.trans gI)
  refine ⟨_, rfl, _, rfl, iteT ⟨_, rfl, _, rfl, _, rfl, _, rfl, S, GI, x, p, mp, n, T, L, us, rfl, SI.wd, watE.up gEI, frzE.up gEI, ku, inu, by omega, fun GM HM sM => ⟨_, rfl, iteT ?_⟩⟩⟩
  have SM := SI.trans sM
  have gEM := gEI.trans sM.gg
  exact ⟨_, rfl, _, rfl, _, rfl, _, rfl, S, GM, x, p, rp, n, T, L, rs, rfl, SM.wd, watE.up gEM, frzE.up gEM, gEM _ _ krE, inr, lr, fun GT HT sT => q HT⟩

end
theorem w_Z {P : Program} {w : World} {K : PySem.W.Frag} {h : Heap} {mg : Str → Option Value} (X : K.In h) (G : h.Ns mainGlobals mg) (c : SaysW faL fnL exL K) : Zs mg := ⟨He.free_ok X G (c.fact 1 (f := .free "ValueError") rfl),
    He.free_ok X G (c.fact 2 (f := .free "isinstance") rfl),
    He.free_ok X G (c.fact 3 (f := .free "int") rfl),
    He.free_ok X G (c.fact 4 (f := .free "bool") rfl),
    He.free_ok X G (c.fact 5 (f := .free "str") rfl),
    He.free_ok X G (c.fact 6 (f := .free "tuple") rfl),
    He.free_ok X G (c.fact 7 (f := .free "list") rfl),
    He.free_ok X G (c.fact 8 (f := .free "len") rfl),
    He.free_ok X G (c.fact 9 (f := .free "range") rfl),
    He.free_ok X G (c.fact 10 (f := .free "all") rfl),
    He.free_ok X G (c.fact 11 (f := .free "sorted") rfl),
    He.free_ok X G (c.fact 12 (f := .free "min") rfl),
    He.free_ok X G (c.fact 13 (f := .free "sum") rfl),
    He.free_ok X G (c.fact 14 (f := .free "enumerate") rfl),
    He.free_ok X G (c.fact 15 (f := .free "iter") rfl),
    He.free_ok X G (c.fact 16 (f := .free "set") rfl),
    He.int_ok X G (c.fact 17 (f := .int "MOST_POINTS" 12) rfl),
    He.int_ok X G (c.fact 18 (f := .int "MOST_TOLD" 8) rfl),
    He.int_ok X G (c.fact 19 (f := .int "MOST_MADE" 400) rfl),
    He.int_ok X G (c.fact 20 (f := .int "MOST_ROW" 24) rfl)⟩
theorem w_D {P : Program} {w : World} {K : PySem.W.Frag} {h : Heap} {mg : Str → Option Value} (X : K.In h) (G : h.Ns mainGlobals mg) (c : SaysW faL fnL exL K) : Ds K mg := ⟨def_w X G (c.def_ 1 (d := dFn "is_number" s_is_number) rfl) (c.fact 21 (f := .glo "is_number") rfl) (fun _ _ _ _ _ _ us hl => match us, hl with | [_, _, _], _ => rfl),
    def_w X G (c.def_ 2 (d := dFn "is_point" s_is_point) rfl) (c.fact 22 (f := .glo "is_point") rfl) (fun _ _ _ _ _ _ us hl => match us, hl with | [_, _], _ => rfl),
    def_w X G (c.def_ 3 (d := dFn "is_row_of" s_is_row_of) rfl) (c.fact 23 (f := .glo "is_row_of") rfl) (fun _ _ _ _ _ _ us hl => match us, hl with | [_, _], _ => rfl),
    def_w X G (c.def_ 4 (d := dFn "is_tuple_of" s_is_tuple_of) rfl) (c.fact 24 (f := .glo "is_tuple_of") rfl) (fun _ _ _ _ _ _ us hl => match us, hl with | [_, _], _ => rfl),
    def_w X G (c.def_ 5 (d := dFn "is_move_on" s_is_move_on) rfl) (c.fact 25 (f := .glo "is_move_on") rfl) (fun _ _ _ _ _ _ us hl => match us, hl with | [_, _], _ => rfl),
    def_w X G (c.def_ 6 (d := dFn "check_number" s_check_number) rfl) (c.fact 26 (f := .glo "check_number") rfl) (fun _ _ _ _ _ _ us hl => match us, hl with | [_, _, _], _ => rfl),
    def_w X G (c.def_ 7 (d := dFn "check_points" s_check_points) rfl) (c.fact 27 (f := .glo "check_points") rfl) (fun _ _ _ _ _ _ us hl => match us, hl with | [_], _ => rfl),
    def_w X G (c.def_ 8 (d := dFn "check_point" s_check_point) rfl) (c.fact 28 (f := .glo "check_point") rfl) (fun _ _ _ _ _ _ us hl => match us, hl with | [_, _], _ => rfl),
    def_w X G (c.def_ 9 (d := dFn "check_row" s_check_row) rfl) (c.fact 29 (f := .glo "check_row") rfl) (fun _ _ _ _ _ _ us hl => match us, hl with | [_, _], _ => rfl),
    def_w X G (c.def_ 10 (d := dFn "check_moves" s_check_moves) rfl) (c.fact 30 (f := .glo "check_moves") rfl) (fun _ _ _ _ _ _ us hl => match us, hl with | [_, _, _, _], _ => rfl),
    def_w X G (c.def_ 11 (d := dFn "closure" s_closure) rfl) (c.fact 31 (f := .glo "closure") rfl) (fun _ _ _ _ _ _ us hl => match us, hl with | [_, _], _ => rfl),
    def_w X G (c.def_ 12 (d := dFn "bits_of" s_bits_of) rfl) (c.fact 32 (f := .glo "bits_of") rfl) (fun _ _ _ _ _ _ us hl => match us, hl with | [_], _ => rfl),
    def_w X G (c.def_ 13 (d := dFn "lot_of" s_lot_of) rfl) (c.fact 33 (f := .glo "lot_of") rfl) (fun _ _ _ _ _ _ us hl => match us, hl with | [_], _ => rfl),
    def_w X G (c.def_ 14 (d := dFn "has_point" s_has_point) rfl) (c.fact 34 (f := .glo "has_point") rfl) (fun _ _ _ _ _ _ us hl => match us, hl with | [_, _], _ => rfl),
    def_w X G (c.def_ 15 (d := dFn "mark_bits" s_mark_bits) rfl) (c.fact 35 (f := .glo "mark_bits") rfl) (fun _ _ _ _ _ _ us hl => match us, hl with | [_], _ => rfl),
    def_w X G (c.def_ 16 (d := dFn "closed_bits" s_closed_bits) rfl) (c.fact 36 (f := .glo "closed_bits") rfl) (fun _ _ _ _ _ _ us hl => match us, hl with | [_, _], _ => rfl),
    def_w X G (c.def_ 17 (d := dFn "carry" s_carry) rfl) (c.fact 37 (f := .glo "carry") rfl) (fun _ _ _ _ _ _ us hl => match us, hl with | [_, _], _ => rfl),
    def_w X G (c.def_ 18 (d := dFn "still_move" s_still_move) rfl) (c.fact 38 (f := .glo "still_move") rfl) (fun _ _ _ _ _ _ us hl => match us, hl with | [_], _ => rfl),
    def_w X G (c.def_ 19 (d := dFn "best_words" s_best_words) rfl) (c.fact 39 (f := .glo "best_words") rfl) (fun _ _ _ _ _ _ us hl => match us, hl with | [_, _], _ => rfl),
    defD_w X G (c.def_ 20 (d := dFnD "make_all" s_make_all) rfl) (c.fact 40 (f := .glo "make_all") rfl) (fun _ _ _ _ _ _ _ us its hl h1 => match us, hl, its, h1 with | [_, _], _, [_], _ => ⟨_, rfl, rfl⟩),
    def_w X G (c.def_ 21 (d := dFn "_next_layer" s_next_layer) rfl) (c.fact 41 (f := .glo "_next_layer") rfl) (fun _ _ _ _ _ _ us hl => match us, hl with | [_, _, _], _ => rfl),
    def_w X G (c.def_ 22 (d := dFn "those_holding" s_those_holding) rfl) (c.fact 42 (f := .glo "those_holding") rfl) (fun _ _ _ _ _ _ us hl => match us, hl with | [_, _], _ => rfl),
    def_w X G (c.def_ 23 (d := dFn "holders" s_holders) rfl) (c.fact 43 (f := .glo "holders") rfl) (fun _ _ _ _ _ _ us hl => match us, hl with | [_, _], _ => rfl),
    def_w X G (c.def_ 24 (d := dFn "holder_counts" s_holder_counts) rfl) (c.fact 44 (f := .glo "holder_counts") rfl) (fun _ _ _ _ _ _ us hl => match us, hl with | [_, _], _ => rfl),
    def_w X G (c.def_ 25 (d := dFn "loose_indexes" s_loose_indexes) rfl) (c.fact 45 (f := .glo "loose_indexes") rfl) (fun _ _ _ _ _ _ us hl => match us, hl with | [_, _], _ => rfl),
    def_w X G (c.def_ 26 (d := dFn "is_tight" s_is_tight) rfl) (c.fact 46 (f := .glo "is_tight") rfl) (fun _ _ _ _ _ _ us hl => match us, hl with | [_, _], _ => rfl),
    def_w X G (c.def_ 27 (d := dFn "is_full" s_is_full) rfl) (c.fact 47 (f := .glo "is_full") rfl) (fun _ _ _ _ _ _ us hl => match us, hl with | [_, _], _ => rfl),
    def_w X G (c.def_ 28 (d := dFn "needless_indexes" s_needless_indexes) rfl) (c.fact 48 (f := .glo "needless_indexes") rfl) (fun _ _ _ _ _ _ us hl => match us, hl with | [_, _], _ => rfl),
    def_w X G (c.def_ 29 (d := dFn "without" s_without) rfl) (c.fact 49 (f := .glo "without") rfl) (fun _ _ _ _ _ _ us hl => match us, hl with | [_, _], _ => rfl),
    def_w X G (c.def_ 30 (d := dFn "check_tight" s_check_tight) rfl) (c.fact 50 (f := .glo "check_tight") rfl) (fun _ _ _ _ _ _ us hl => match us, hl with | [_, _], _ => rfl),
    def_w X G (c.def_ 31 (d := dFn "check_full" s_check_full) rfl) (c.fact 51 (f := .glo "check_full") rfl) (fun _ _ _ _ _ _ us hl => match us, hl with | [_, _], _ => rfl),
    def_w X G (c.def_ 32 (d := dFn "is_tight_full_row" s_is_tight_full_row) rfl) (c.fact 52 (f := .glo "is_tight_full_row") rfl) (fun _ _ _ _ _ _ us hl => match us, hl with | [_, _], _ => rfl),
    def_w X G (c.def_ 33 (d := dFn "check_tight_full" s_check_tight_full) rfl) (c.fact 53 (f := .glo "check_tight_full") rfl) (fun _ _ _ _ _ _ us hl => match us, hl with | [_, _], _ => rfl),
    def_w X G (c.def_ 34 (d := dFn "every_order_tight" s_every_order_tight) rfl) (c.fact 54 (f := .glo "every_order_tight") rfl) (fun _ _ _ _ _ _ us hl => match us, hl with | [_, _], _ => rfl),
    def_w X G (c.def_ 35 (d := dFn "bad_order" s_bad_order) rfl) (c.fact 55 (f := .glo "bad_order") rfl) (fun _ _ _ _ _ _ us hl => match us, hl with | [_, _], _ => rfl),
    def_w X G (c.def_ 36 (d := dFn "is_bad_order" s_is_bad_order) rfl) (c.fact 56 (f := .glo "is_bad_order") rfl) (fun _ _ _ _ _ _ us hl => match us, hl with | [_, _], _ => rfl),
    def_w X G (c.def_ 37 (d := dFn "_law_store" s_law_store) rfl) (c.fact 57 (f := .glo "_law_store") rfl) (fun _ _ _ _ _ _ us hl => match us, hl with | [_], _ => rfl),
    def_w X G (c.def_ 38 (d := dFn "_law_mixed" s_law_mixed) rfl) (c.fact 58 (f := .glo "_law_mixed") rfl) (fun _ _ _ _ _ _ us hl => match us, hl with | [_, _], _ => rfl),
    def_w X G (c.def_ 39 (d := dFn "_law_take" s_law_take) rfl) (c.fact 59 (f := .glo "_law_take") rfl) (fun _ _ _ _ _ _ us hl => match us, hl with | [_, _], _ => rfl),
    def_w X G (c.def_ 40 (d := dFn "_law_pick" s_law_pick) rfl) (c.fact 60 (f := .glo "_law_pick") rfl) (fun _ _ _ _ _ _ us hl => match us, hl with | [_, _], _ => rfl),
    def_w X G (c.def_ 41 (d := dFn "_law_place" s_law_place) rfl) (c.fact 61 (f := .glo "_law_place") rfl) (fun _ _ _ _ _ _ us hl => match us, hl with | [_, _], _ => rfl),
    def_w X G (c.def_ 42 (d := dFn "_law_drawn" s_law_drawn) rfl) (c.fact 62 (f := .glo "_law_drawn") rfl) (fun _ _ _ _ _ _ us hl => match us, hl with | [_, _, _], _ => rfl),
    def_w X G (c.def_ 43 (d := dFn "_law_either" s_law_either) rfl) (c.fact 63 (f := .glo "_law_either") rfl) (fun _ _ _ _ _ _ us hl => match us, hl with | [_, _], _ => rfl),
    def_w X G (c.def_ 44 (d := dFn "_law_is_whole" s_law_is_whole) rfl) (c.fact 64 (f := .glo "_law_is_whole") rfl) (fun _ _ _ _ _ _ us hl => match us, hl with | [_], _ => rfl),
    def_w X G (c.def_ 45 (d := dFn "_law_after" s_law_after) rfl) (c.fact 65 (f := .glo "_law_after") rfl) (fun _ _ _ _ _ _ us hl => match us, hl with | [_, _], _ => rfl),
    def_w X G (c.def_ 46 (d := dFn "_law_renamed" s_law_renamed) rfl) (c.fact 66 (f := .glo "_law_renamed") rfl) (fun _ _ _ _ _ _ us hl => match us, hl with | [_, _], _ => rfl),
    def_w X G (c.def_ 47 (d := dFn "_law_group" s_law_group) rfl) (c.fact 67 (f := .glo "_law_group") rfl) (fun _ _ _ _ _ _ us hl => match us, hl with | [_, _, _], _ => rfl),
    def_w X G (c.def_ 48 (d := dFn "_law_cut" s_law_cut) rfl) (c.fact 68 (f := .glo "_law_cut") rfl) (fun _ _ _ _ _ _ us hl => match us, hl with | [_, _, _], _ => rfl),
    def_w X G (c.def_ 49 (d := dFn "_law_holders" s_law_holders) rfl) (c.fact 69 (f := .glo "_law_holders") rfl) (fun _ _ _ _ _ _ us hl => match us, hl with | [_, _], _ => rfl),
    def_w X G (c.def_ 50 (d := dFn "_law_turns" s_law_turns) rfl) (c.fact 70 (f := .glo "_law_turns") rfl) (fun _ _ _ _ _ _ us hl => match us, hl with | [_], _ => rfl),
    def_w X G (c.def_ 51 (d := dFn "_law_any_world" s_law_any_world) rfl) (c.fact 71 (f := .glo "_law_any_world") rfl) (fun _ _ _ _ _ _ us hl => match us, hl with | [_, _], _ => rfl),
    def_w X G (c.def_ 52 (d := dFn "_law_built" s_law_built) rfl) (c.fact 72 (f := .glo "_law_built") rfl) (fun _ _ _ _ _ _ us hl => match us, hl with | [_, _], _ => rfl),
    def_w X G (c.def_ 53 (d := dFn "_law_wrong_number" s_law_wrong_number) rfl) (c.fact 73 (f := .glo "_law_wrong_number") rfl) (fun _ _ _ _ _ _ us hl => match us, hl with | [_, _, _], _ => rfl),
    def_w X G (c.def_ 54 (d := dFn "_law_wrong_row" s_law_wrong_row) rfl) (c.fact 74 (f := .glo "_law_wrong_row") rfl) (fun _ _ _ _ _ _ us hl => match us, hl with | [_, _, _], _ => rfl),
    def_w X G (c.def_ 55 (d := dFn "_law_tight_at" s_law_tight_at) rfl) (c.fact 75 (f := .glo "_law_tight_at") rfl) (fun _ _ _ _ _ _ us hl => match us, hl with | [_, _], _ => rfl),
    def_w X G (c.def_ 56 (d := dFn "_law_row_fault" s_law_row_fault) rfl) (c.fact 76 (f := .glo "_law_row_fault") rfl) (fun _ _ _ _ _ _ us hl => match us, hl with | [_, _, _], _ => rfl),
    def_w X G (c.def_ 57 (d := dFn "_law_near_row" s_law_near_row) rfl) (c.fact 77 (f := .glo "_law_near_row") rfl) (fun _ _ _ _ _ _ us hl => match us, hl with | [_, _, _], _ => rfl),
    def_w X G (c.def_ 58 (d := dFn "_law_tall_world" s_law_tall_world) rfl) (c.fact 78 (f := .glo "_law_tall_world") rfl) (fun _ _ _ _ _ _ us hl => match us, hl with | [_, _], _ => rfl),
    def_w X G (c.def_ 59 (d := dFn "_law_order_count" s_law_order_count) rfl) (c.fact 79 (f := .glo "_law_order_count") rfl) (fun _ _ _ _ _ _ us hl => match us, hl with | [_, _], _ => rfl),
    def_w X G (c.def_ 60 (d := dFn "_law_needless" s_law_needless) rfl) (c.fact 80 (f := .glo "_law_needless") rfl) (fun _ _ _ _ _ _ us hl => match us, hl with | [_, _], _ => rfl),
    def_w X G (c.def_ 61 (d := dFn "_law_is_order" s_law_is_order) rfl) (c.fact 81 (f := .glo "_law_is_order") rfl) (fun _ _ _ _ _ _ us hl => match us, hl with | [_, _, _], _ => rfl),
    def_w X G (c.def_ 62 (d := dFn "_law_some_move" s_law_some_move) rfl) (c.fact 82 (f := .glo "_law_some_move") rfl) (fun _ _ _ _ _ _ us hl => match us, hl with | [_, _], _ => rfl),
    def_w X G (c.def_ 63 (d := dFn "_law_agree" s_law_agree) rfl) (c.fact 83 (f := .glo "_law_agree") rfl) (fun _ _ _ _ _ _ us hl => match us, hl with | [_, _], _ => rfl),
    def_w X G (c.def_ 64 (d := dFn "_law_moved" s_law_moved) rfl) (c.fact 84 (f := .glo "_law_moved") rfl) (fun _ _ _ _ _ _ us hl => match us, hl with | [_, _], _ => rfl),
    def_w X G (c.def_ 65 (d := dFn "_law_full_row" s_law_full_row) rfl) (c.fact 85 (f := .glo "_law_full_row") rfl) (fun _ _ _ _ _ _ us hl => match us, hl with | [_, _, _], _ => rfl),
    def_w X G (c.def_ 66 (d := dFn "_law_kinds" s_law_kinds) rfl) (c.fact 86 (f := .glo "_law_kinds") rfl) (fun _ _ _ _ _ _ us hl => match us, hl with | [_], _ => rfl),
    def_w X G (c.def_ 67 (d := dFn "_law_right_error" s_law_right_error) rfl) (c.fact 87 (f := .glo "_law_right_error") rfl) (fun _ _ _ _ _ _ us hl => match us, hl with | [_, _], _ => rfl),
    def_w X G (c.def_ 68 (d := dFn "_law_refuses" s_law_refuses) rfl) (c.fact 88 (f := .glo "_law_refuses") rfl) (fun _ _ _ _ _ _ us hl => match us, hl with | [_, _, _, _], _ => rfl),
    def_w X G (c.def_ 69 (d := dFn "_law_orders_hold" s_law_orders_hold) rfl) (c.fact 89 (f := .glo "_law_orders_hold") rfl) (fun _ _ _ _ _ _ us hl => match us, hl with | [_, _, _, _], _ => rfl)⟩
theorem w_W {P : Program} {w : World} {K : PySem.W.Frag} {h : Heap} {mg : Str → Option Value} (X : K.In h) (G : h.Ns mainGlobals mg) (c : SaysW faL fnL exL K) : Dw K mg (He.ga K "World") := ⟨wc_w X G (c.fact 90 (f := .glo "World") rfl) (c.more 0 (f := wcB "World") rfl),
    He.noat_ok (c.fact 91 (f := .noat "World" "_made") rfl),
    He.noat_ok (c.fact 92 (f := .noat "World" "_points") rfl),
    He.noat_ok (c.fact 93 (f := .noat "World" "_told") rfl),
    mdefD_w (c.def_ 70 (d := dMeD "World" "__init__" "World.__init__" s_World___init__) rfl) (c.fact 94 (f := .meth "World" "__init__") rfl) (fun _ _ _ _ _ _ _ us its hl h1 => match us, hl, its, h1 with | [_, _, _], _, [_], _ => ⟨_, rfl, rfl⟩),
    pdef_w (c.def_ 71 (d := dPr "World" "points" "World.points" s_World_points) rfl) (c.more 1 (f := prB "World" "points") rfl) (fun _ _ _ _ _ _ us hl => match us, hl with | [_], _ => rfl),
    pdef_w (c.def_ 72 (d := dPr "World" "told" "World.told" s_World_told) rfl) (c.more 2 (f := prB "World" "told") rfl) (fun _ _ _ _ _ _ us hl => match us, hl with | [_], _ => rfl),
    pdef_w (c.def_ 73 (d := dPr "World" "made" "World.made" s_World_made) rfl) (c.more 3 (f := prB "World" "made") rfl) (fun _ _ _ _ _ _ us hl => match us, hl with | [_], _ => rfl),
    mdef_w (c.def_ 74 (d := dMe "World" "__len__" "World.__len__" s_World___len__) rfl) (c.fact 95 (f := .meth "World" "__len__") rfl) (fun _ _ _ _ _ _ us hl => match us, hl with | [_], _ => rfl),
    mdef_w (c.def_ 75 (d := dMe "World" "__iter__" "World.__iter__" s_World___iter__) rfl) (c.fact 96 (f := .meth "World" "__iter__") rfl) (fun _ _ _ _ _ _ us hl => match us, hl with | [_], _ => rfl),
    mdef_w (c.def_ 76 (d := dMe "World" "__contains__" "World.__contains__" s_World___contains__) rfl) (c.fact 97 (f := .meth "World" "__contains__") rfl) (fun _ _ _ _ _ _ us hl => match us, hl with | [_, _], _ => rfl),
    mdef_w (c.def_ 77 (d := dMe "World" "__eq__" "World.__eq__" s_World___eq__) rfl) (c.fact 98 (f := .meth "World" "__eq__") rfl) (fun _ _ _ _ _ _ us hl => match us, hl with | [_, _], _ => rfl)⟩
theorem w_ec_BadNumber {P : Program} {w : World} {K : PySem.W.Frag} {h : Heap} {mg : Str → Option Value} (X : K.In h) (G : h.Ns mainGlobals mg) (c : SaysW faL fnL exL K) : Ec K mg "BadNumber" (He.ga K "BadNumber") := ec_w X G (c.fact 99 (f := .glo "BadNumber") rfl) (c.more 4 (f := ecB "BadNumber") rfl)
theorem w_ec_NotAMove {P : Program} {w : World} {K : PySem.W.Frag} {h : Heap} {mg : Str → Option Value} (X : K.In h) (G : h.Ns mainGlobals mg) (c : SaysW faL fnL exL K) : Ec K mg "NotAMove" (He.ga K "NotAMove") := ec_w X G (c.fact 100 (f := .glo "NotAMove") rfl) (c.more 6 (f := ecB "NotAMove") rfl)
theorem w_ec_TooMany {P : Program} {w : World} {K : PySem.W.Frag} {h : Heap} {mg : Str → Option Value} (X : K.In h) (G : h.Ns mainGlobals mg) (c : SaysW faL fnL exL K) : Ec K mg "TooMany" (He.ga K "TooMany") := ec_w X G (c.fact 101 (f := .glo "TooMany") rfl) (c.more 8 (f := ecB "TooMany") rfl)
theorem w_es_TooMany {P : Program} {w : World} {K : PySem.W.Frag} {h : Heap} {mg : Str → Option Value} (X : K.In h) (G : h.Ns mainGlobals mg) (c : SaysW faL fnL exL K) : Es K mg 13 "TooMany" (He.ga K "TooMany") := ⟨(w_ec_TooMany (P := P) (w := w) X G c), by decide, is_w X G (c.fact 99 (f := .glo "BadNumber") rfl) (c.more 9 (f := isB "TooMany" "BadNumber" false) rfl),
    is_w X G (c.fact 102 (f := .glo "NoSuchLength") rfl) (c.more 10 (f := isB "TooMany" "NoSuchLength" false) rfl),
    is_w X G (c.fact 103 (f := .glo "NotABase") rfl) (c.more 11 (f := isB "TooMany" "NotABase" false) rfl),
    is_w X G (c.fact 104 (f := .glo "NotAFailing") rfl) (c.more 12 (f := isB "TooMany" "NotAFailing" false) rfl),
    is_w X G (c.fact 100 (f := .glo "NotAMove") rfl) (c.more 13 (f := isB "TooMany" "NotAMove" false) rfl),
    is_w X G (c.fact 105 (f := .glo "NotAPoint") rfl) (c.more 14 (f := isB "TooMany" "NotAPoint" false) rfl),
    is_w X G (c.fact 106 (f := .glo "NotAnOrder") rfl) (c.more 15 (f := isB "TooMany" "NotAnOrder" false) rfl),
    is_w X G (c.fact 107 (f := .glo "NotFull") rfl) (c.more 16 (f := isB "TooMany" "NotFull" false) rfl),
    is_w X G (c.fact 108 (f := .glo "NotNeighbours") rfl) (c.more 17 (f := isB "TooMany" "NotNeighbours" false) rfl),
    is_w X G (c.fact 109 (f := .glo "NotShorter") rfl) (c.more 18 (f := isB "TooMany" "NotShorter" false) rfl),
    is_w X G (c.fact 110 (f := .glo "NotTight") rfl) (c.more 19 (f := isB "TooMany" "NotTight" false) rfl),
    is_w X G (c.fact 111 (f := .glo "OrderMatters") rfl) (c.more 20 (f := isB "TooMany" "OrderMatters" false) rfl),
    is_w X G (c.fact 112 (f := .glo "SameLength") rfl) (c.more 21 (f := isB "TooMany" "SameLength" false) rfl),
    is_w X G (c.fact 101 (f := .glo "TooMany") rfl) (c.more 22 (f := isB "TooMany" "TooMany" true) rfl),
    is_w X G (c.fact 113 (f := .glo "UnlikeSizes") rfl) (c.more 23 (f := isB "TooMany" "UnlikeSizes" false) rfl),
    is_w X G (c.fact 114 (f := .glo "HeldorderError") rfl) (c.more 24 (f := isB "TooMany" "HeldorderError" true) rfl),
    hn_w X G (c.fact 114 (f := .glo "HeldorderError") rfl) (c.more 25 (f := hnB "TooMany" "HeldorderError" true) rfl),
    of_decide_eq_true (c.more 26 (f := ivB "TooMany") rfl)⟩
theorem w_ec_NotAPoint {P : Program} {w : World} {K : PySem.W.Frag} {h : Heap} {mg : Str → Option Value} (X : K.In h) (G : h.Ns mainGlobals mg) (c : SaysW faL fnL exL K) : Ec K mg "NotAPoint" (He.ga K "NotAPoint") := ec_w X G (c.fact 105 (f := .glo "NotAPoint") rfl) (c.more 28 (f := ecB "NotAPoint") rfl)
theorem w_es_NotAPoint {P : Program} {w : World} {K : PySem.W.Frag} {h : Heap} {mg : Str → Option Value} (X : K.In h) (G : h.Ns mainGlobals mg) (c : SaysW faL fnL exL K) : Es K mg 5 "NotAPoint" (He.ga K "NotAPoint") := ⟨(w_ec_NotAPoint (P := P) (w := w) X G c), by decide, is_w X G (c.fact 99 (f := .glo "BadNumber") rfl) (c.more 29 (f := isB "NotAPoint" "BadNumber" false) rfl),
    is_w X G (c.fact 102 (f := .glo "NoSuchLength") rfl) (c.more 30 (f := isB "NotAPoint" "NoSuchLength" false) rfl),
    is_w X G (c.fact 103 (f := .glo "NotABase") rfl) (c.more 31 (f := isB "NotAPoint" "NotABase" false) rfl),
    is_w X G (c.fact 104 (f := .glo "NotAFailing") rfl) (c.more 32 (f := isB "NotAPoint" "NotAFailing" false) rfl),
    is_w X G (c.fact 100 (f := .glo "NotAMove") rfl) (c.more 33 (f := isB "NotAPoint" "NotAMove" false) rfl),
    is_w X G (c.fact 105 (f := .glo "NotAPoint") rfl) (c.more 34 (f := isB "NotAPoint" "NotAPoint" true) rfl),
    is_w X G (c.fact 106 (f := .glo "NotAnOrder") rfl) (c.more 35 (f := isB "NotAPoint" "NotAnOrder" false) rfl),
    is_w X G (c.fact 107 (f := .glo "NotFull") rfl) (c.more 36 (f := isB "NotAPoint" "NotFull" false) rfl),
    is_w X G (c.fact 108 (f := .glo "NotNeighbours") rfl) (c.more 37 (f := isB "NotAPoint" "NotNeighbours" false) rfl),
    is_w X G (c.fact 109 (f := .glo "NotShorter") rfl) (c.more 38 (f := isB "NotAPoint" "NotShorter" false) rfl),
    is_w X G (c.fact 110 (f := .glo "NotTight") rfl) (c.more 39 (f := isB "NotAPoint" "NotTight" false) rfl),
    is_w X G (c.fact 111 (f := .glo "OrderMatters") rfl) (c.more 40 (f := isB "NotAPoint" "OrderMatters" false) rfl),
    is_w X G (c.fact 112 (f := .glo "SameLength") rfl) (c.more 41 (f := isB "NotAPoint" "SameLength" false) rfl),
    is_w X G (c.fact 101 (f := .glo "TooMany") rfl) (c.more 42 (f := isB "NotAPoint" "TooMany" false) rfl),
    is_w X G (c.fact 113 (f := .glo "UnlikeSizes") rfl) (c.more 43 (f := isB "NotAPoint" "UnlikeSizes" false) rfl),
    is_w X G (c.fact 114 (f := .glo "HeldorderError") rfl) (c.more 44 (f := isB "NotAPoint" "HeldorderError" true) rfl),
    hn_w X G (c.fact 114 (f := .glo "HeldorderError") rfl) (c.more 45 (f := hnB "NotAPoint" "HeldorderError" true) rfl),
    of_decide_eq_true (c.more 46 (f := ivB "NotAPoint") rfl)⟩
theorem w_ec_NotTight {P : Program} {w : World} {K : PySem.W.Frag} {h : Heap} {mg : Str → Option Value} (X : K.In h) (G : h.Ns mainGlobals mg) (c : SaysW faL fnL exL K) : Ec K mg "NotTight" (He.ga K "NotTight") := ec_w X G (c.fact 110 (f := .glo "NotTight") rfl) (c.more 48 (f := ecB "NotTight") rfl)
theorem w_es_NotTight {P : Program} {w : World} {K : PySem.W.Frag} {h : Heap} {mg : Str → Option Value} (X : K.In h) (G : h.Ns mainGlobals mg) (c : SaysW faL fnL exL K) : Es K mg 10 "NotTight" (He.ga K "NotTight") := ⟨(w_ec_NotTight (P := P) (w := w) X G c), by decide, is_w X G (c.fact 99 (f := .glo "BadNumber") rfl) (c.more 49 (f := isB "NotTight" "BadNumber" false) rfl),
    is_w X G (c.fact 102 (f := .glo "NoSuchLength") rfl) (c.more 50 (f := isB "NotTight" "NoSuchLength" false) rfl),
    is_w X G (c.fact 103 (f := .glo "NotABase") rfl) (c.more 51 (f := isB "NotTight" "NotABase" false) rfl),
    is_w X G (c.fact 104 (f := .glo "NotAFailing") rfl) (c.more 52 (f := isB "NotTight" "NotAFailing" false) rfl),
    is_w X G (c.fact 100 (f := .glo "NotAMove") rfl) (c.more 53 (f := isB "NotTight" "NotAMove" false) rfl),
    is_w X G (c.fact 105 (f := .glo "NotAPoint") rfl) (c.more 54 (f := isB "NotTight" "NotAPoint" false) rfl),
    is_w X G (c.fact 106 (f := .glo "NotAnOrder") rfl) (c.more 55 (f := isB "NotTight" "NotAnOrder" false) rfl),
    is_w X G (c.fact 107 (f := .glo "NotFull") rfl) (c.more 56 (f := isB "NotTight" "NotFull" false) rfl),
    is_w X G (c.fact 108 (f := .glo "NotNeighbours") rfl) (c.more 57 (f := isB "NotTight" "NotNeighbours" false) rfl),
    is_w X G (c.fact 109 (f := .glo "NotShorter") rfl) (c.more 58 (f := isB "NotTight" "NotShorter" false) rfl),
    is_w X G (c.fact 110 (f := .glo "NotTight") rfl) (c.more 59 (f := isB "NotTight" "NotTight" true) rfl),
    is_w X G (c.fact 111 (f := .glo "OrderMatters") rfl) (c.more 60 (f := isB "NotTight" "OrderMatters" false) rfl),
    is_w X G (c.fact 112 (f := .glo "SameLength") rfl) (c.more 61 (f := isB "NotTight" "SameLength" false) rfl),
    is_w X G (c.fact 101 (f := .glo "TooMany") rfl) (c.more 62 (f := isB "NotTight" "TooMany" false) rfl),
    is_w X G (c.fact 113 (f := .glo "UnlikeSizes") rfl) (c.more 63 (f := isB "NotTight" "UnlikeSizes" false) rfl),
    is_w X G (c.fact 114 (f := .glo "HeldorderError") rfl) (c.more 64 (f := isB "NotTight" "HeldorderError" true) rfl),
    hn_w X G (c.fact 114 (f := .glo "HeldorderError") rfl) (c.more 65 (f := hnB "NotTight" "HeldorderError" true) rfl),
    of_decide_eq_true (c.more 66 (f := ivB "NotTight") rfl)⟩
theorem w_ec_NotFull {P : Program} {w : World} {K : PySem.W.Frag} {h : Heap} {mg : Str → Option Value} (X : K.In h) (G : h.Ns mainGlobals mg) (c : SaysW faL fnL exL K) : Ec K mg "NotFull" (He.ga K "NotFull") := ec_w X G (c.fact 107 (f := .glo "NotFull") rfl) (c.more 68 (f := ecB "NotFull") rfl)
theorem w_es_NotFull {P : Program} {w : World} {K : PySem.W.Frag} {h : Heap} {mg : Str → Option Value} (X : K.In h) (G : h.Ns mainGlobals mg) (c : SaysW faL fnL exL K) : Es K mg 7 "NotFull" (He.ga K "NotFull") := ⟨(w_ec_NotFull (P := P) (w := w) X G c), by decide, is_w X G (c.fact 99 (f := .glo "BadNumber") rfl) (c.more 69 (f := isB "NotFull" "BadNumber" false) rfl),
    is_w X G (c.fact 102 (f := .glo "NoSuchLength") rfl) (c.more 70 (f := isB "NotFull" "NoSuchLength" false) rfl),
    is_w X G (c.fact 103 (f := .glo "NotABase") rfl) (c.more 71 (f := isB "NotFull" "NotABase" false) rfl),
    is_w X G (c.fact 104 (f := .glo "NotAFailing") rfl) (c.more 72 (f := isB "NotFull" "NotAFailing" false) rfl),
    is_w X G (c.fact 100 (f := .glo "NotAMove") rfl) (c.more 73 (f := isB "NotFull" "NotAMove" false) rfl),
    is_w X G (c.fact 105 (f := .glo "NotAPoint") rfl) (c.more 74 (f := isB "NotFull" "NotAPoint" false) rfl),
    is_w X G (c.fact 106 (f := .glo "NotAnOrder") rfl) (c.more 75 (f := isB "NotFull" "NotAnOrder" false) rfl),
    is_w X G (c.fact 107 (f := .glo "NotFull") rfl) (c.more 76 (f := isB "NotFull" "NotFull" true) rfl),
    is_w X G (c.fact 108 (f := .glo "NotNeighbours") rfl) (c.more 77 (f := isB "NotFull" "NotNeighbours" false) rfl),
    is_w X G (c.fact 109 (f := .glo "NotShorter") rfl) (c.more 78 (f := isB "NotFull" "NotShorter" false) rfl),
    is_w X G (c.fact 110 (f := .glo "NotTight") rfl) (c.more 79 (f := isB "NotFull" "NotTight" false) rfl),
    is_w X G (c.fact 111 (f := .glo "OrderMatters") rfl) (c.more 80 (f := isB "NotFull" "OrderMatters" false) rfl),
    is_w X G (c.fact 112 (f := .glo "SameLength") rfl) (c.more 81 (f := isB "NotFull" "SameLength" false) rfl),
    is_w X G (c.fact 101 (f := .glo "TooMany") rfl) (c.more 82 (f := isB "NotFull" "TooMany" false) rfl),
    is_w X G (c.fact 113 (f := .glo "UnlikeSizes") rfl) (c.more 83 (f := isB "NotFull" "UnlikeSizes" false) rfl),
    is_w X G (c.fact 114 (f := .glo "HeldorderError") rfl) (c.more 84 (f := isB "NotFull" "HeldorderError" true) rfl),
    hn_w X G (c.fact 114 (f := .glo "HeldorderError") rfl) (c.more 85 (f := hnB "NotFull" "HeldorderError" true) rfl),
    of_decide_eq_true (c.more 86 (f := ivB "NotFull") rfl)⟩
theorem all_w {P : Program} {w : World} {K : PySem.W.Frag} {h : Heap} {mg : Str → Option Value} {f : Addr} (X : K.In h) (G : h.Ns mainGlobals mg) (hfa : mg ("law" : Str) = some (.ref f)) (c : SaysW faL fnL exL K) :
    ∃ fd : FuncData, (∀ (s : Shared) (v : Value), BindsTo s fd ⟨[v], []⟩ [("script", v)]) ∧ ∀ base : Heap, K.In base → base.Ns mainGlobals mg → FnOk P w K mg base CX0 13 f fd ["script"] (spLaw K) := by
  obtain ⟨fd, F⟩ := (c.def_ 0 (d := dFn "law" s_law) rfl)
  have e := hfa.symm.trans (He.glo_ok X G (c.fact 0 (f := .glo "law") rfl))
  cases e
  have b := FunD.bindsA (ps := ["script"]) F fun _ _ _ _ _ _ us hl => match us, hl with | [_], _ => rfl
  refine ⟨fd, fun s v => b s [v] rfl, fun base _ _ => ?_⟩
  have Z : Zs mg := w_Z (P := P) (w := w) X G c
  have D : Ds K mg := w_D (P := P) (w := w) X G c
  have W : Dw K mg (He.ga K "World") := w_W (P := P) (w := w) X G c
  have ec_BadNumber : Ec K mg "BadNumber" (He.ga K "BadNumber") := w_ec_BadNumber (P := P) (w := w) X G c
  have nf_BadNumber_value := xi_no (c.more 5 (f := xiB "BadNumber" ["value", "low", "high"]) rfl) (f := "value") (by simp)
  have nf_BadNumber_low := xi_no (c.more 5 (f := xiB "BadNumber" ["value", "low", "high"]) rfl) (f := "low") (by simp)
  have nf_BadNumber_high := xi_no (c.more 5 (f := xiB "BadNumber" ["value", "low", "high"]) rfl) (f := "high") (by simp)
  obtain ⟨fd_BadNumber, F_BadNumber⟩ := (c.def_ 78 (d := dMe "BadNumber" "__init__" "BadNumber.__init__" s_ini_BadNumber) rfl)
  have F_BadNumber : FunD K "__init__" "BadNumber.__init__" (defArgs s_ini_BadNumber) (defBody s_ini_BadNumber) (defScope s_ini_BadNumber) [] [] (He.ma K (He.ga K "BadNumber") "__init__") fd_BadNumber := F_BadNumber
  have bi_BadNumber := bindsM (ps := ["self", "value", "low", "high"]) (fun _ _ _ _ _ _ us hl => match us, hl with | [_, _, _, _], _ => rfl) F_BadNumber
  have m_BadNumber : Xm P w K mg base "BadNumber" (He.ga K "BadNumber") ["value", "low", "high"] := xm_w ec_BadNumber (c.more 5 (f := xiB "BadNumber" ["value", "low", "high"]) rfl) (ini3 sc_ini_BadNumber ⟨_, _, _, _, _, _, _, _, _, _, _, _, rfl⟩ ec_BadNumber.ox rfl rfl (by decide) (by decide) nf_BadNumber_value rfl (by decide) (by decide) nf_BadNumber_low rfl (by decide) (by decide) nf_BadNumber_high (He5.fun_of F_BadNumber)) bi_BadNumber
  have ec_NotAMove : Ec K mg "NotAMove" (He.ga K "NotAMove") := w_ec_NotAMove (P := P) (w := w) X G c
  have nf_NotAMove_index := xi_no (c.more 7 (f := xiB "NotAMove" ["index"]) rfl) (f := "index") (by simp)
  obtain ⟨fd_NotAMove, F_NotAMove⟩ := (c.def_ 79 (d := dMe "NotAMove" "__init__" "NotAMove.__init__" s_ini_NotAMove) rfl)
  have F_NotAMove : FunD K "__init__" "NotAMove.__init__" (defArgs s_ini_NotAMove) (defBody s_ini_NotAMove) (defScope s_ini_NotAMove) [] [] (He.ma K (He.ga K "NotAMove") "__init__") fd_NotAMove := F_NotAMove
  have bi_NotAMove := bindsM (ps := ["self", "index"]) (fun _ _ _ _ _ _ us hl => match us, hl with | [_, _], _ => rfl) F_NotAMove
  have m_NotAMove : Xm P w K mg base "NotAMove" (He.ga K "NotAMove") ["index"] := xm_w ec_NotAMove (c.more 7 (f := xiB "NotAMove" ["index"]) rfl) (ini1 sc_ini_NotAMove ⟨_, _, _, _, rfl⟩ ec_NotAMove.ox rfl rfl (by decide) (by decide) nf_NotAMove_index (He5.fun_of F_NotAMove)) bi_NotAMove
  have ec_TooMany : Ec K mg "TooMany" (He.ga K "TooMany") := w_ec_TooMany (P := P) (w := w) X G c
  have es_TooMany : Es K mg 13 "TooMany" (He.ga K "TooMany") := w_es_TooMany (P := P) (w := w) X G c
  have nf_TooMany_what := xi_no (c.more 27 (f := xiB "TooMany" ["what", "limit"]) rfl) (f := "what") (by simp)
  have nf_TooMany_limit := xi_no (c.more 27 (f := xiB "TooMany" ["what", "limit"]) rfl) (f := "limit") (by simp)
  obtain ⟨fd_TooMany, F_TooMany⟩ := (c.def_ 80 (d := dMe "TooMany" "__init__" "TooMany.__init__" s_ini_TooMany) rfl)
  have F_TooMany : FunD K "__init__" "TooMany.__init__" (defArgs s_ini_TooMany) (defBody s_ini_TooMany) (defScope s_ini_TooMany) [] [] (He.ma K (He.ga K "TooMany") "__init__") fd_TooMany := F_TooMany
  have bi_TooMany := bindsM (ps := ["self", "what", "limit"]) (fun _ _ _ _ _ _ us hl => match us, hl with | [_, _, _], _ => rfl) F_TooMany
  have m_TooMany : Xm P w K mg base "TooMany" (He.ga K "TooMany") ["what", "limit"] := xm_w ec_TooMany (c.more 27 (f := xiB "TooMany" ["what", "limit"]) rfl) (ini2 sc_ini_TooMany ⟨_, _, _, _, _, _, _, _, rfl⟩ ec_TooMany.ox rfl rfl (by decide) (by decide) nf_TooMany_what rfl (by decide) (by decide) nf_TooMany_limit (He5.fun_of F_TooMany)) bi_TooMany
  have ec_NotAPoint : Ec K mg "NotAPoint" (He.ga K "NotAPoint") := w_ec_NotAPoint (P := P) (w := w) X G c
  have es_NotAPoint : Es K mg 5 "NotAPoint" (He.ga K "NotAPoint") := w_es_NotAPoint (P := P) (w := w) X G c
  have nf_NotAPoint_value := xi_no (c.more 47 (f := xiB "NotAPoint" ["value"]) rfl) (f := "value") (by simp)
  obtain ⟨fd_NotAPoint, F_NotAPoint⟩ := (c.def_ 81 (d := dMe "NotAPoint" "__init__" "NotAPoint.__init__" s_ini_NotAPoint) rfl)
  have F_NotAPoint : FunD K "__init__" "NotAPoint.__init__" (defArgs s_ini_NotAPoint) (defBody s_ini_NotAPoint) (defScope s_ini_NotAPoint) [] [] (He.ma K (He.ga K "NotAPoint") "__init__") fd_NotAPoint := F_NotAPoint
  have bi_NotAPoint := bindsM (ps := ["self", "value"]) (fun _ _ _ _ _ _ us hl => match us, hl with | [_, _], _ => rfl) F_NotAPoint
  have m_NotAPoint : Xm P w K mg base "NotAPoint" (He.ga K "NotAPoint") ["value"] := xm_w ec_NotAPoint (c.more 47 (f := xiB "NotAPoint" ["value"]) rfl) (ini1 sc_ini_NotAPoint ⟨_, _, _, _, rfl⟩ ec_NotAPoint.ox rfl rfl (by decide) (by decide) nf_NotAPoint_value (He5.fun_of F_NotAPoint)) bi_NotAPoint
  have ec_NotTight : Ec K mg "NotTight" (He.ga K "NotTight") := w_ec_NotTight (P := P) (w := w) X G c
  have es_NotTight : Es K mg 10 "NotTight" (He.ga K "NotTight") := w_es_NotTight (P := P) (w := w) X G c
  have nf_NotTight_index := xi_no (c.more 67 (f := xiB "NotTight" ["index"]) rfl) (f := "index") (by simp)
  obtain ⟨fd_NotTight, F_NotTight⟩ := (c.def_ 82 (d := dMe "NotTight" "__init__" "NotTight.__init__" s_ini_NotTight) rfl)
  have F_NotTight : FunD K "__init__" "NotTight.__init__" (defArgs s_ini_NotTight) (defBody s_ini_NotTight) (defScope s_ini_NotTight) [] [] (He.ma K (He.ga K "NotTight") "__init__") fd_NotTight := F_NotTight
  have bi_NotTight := bindsM (ps := ["self", "index"]) (fun _ _ _ _ _ _ us hl => match us, hl with | [_, _], _ => rfl) F_NotTight
  have m_NotTight : Xm P w K mg base "NotTight" (He.ga K "NotTight") ["index"] := xm_w ec_NotTight (c.more 67 (f := xiB "NotTight" ["index"]) rfl) (ini1 sc_ini_NotTight ⟨_, _, _, _, rfl⟩ ec_NotTight.ox rfl rfl (by decide) (by decide) nf_NotTight_index (He5.fun_of F_NotTight)) bi_NotTight
  have ec_NotFull : Ec K mg "NotFull" (He.ga K "NotFull") := w_ec_NotFull (P := P) (w := w) X G c
  have es_NotFull : Es K mg 7 "NotFull" (He.ga K "NotFull") := w_es_NotFull (P := P) (w := w) X G c
  have nf_NotFull_point := xi_no (c.more 87 (f := xiB "NotFull" ["point"]) rfl) (f := "point") (by simp)
  obtain ⟨fd_NotFull, F_NotFull⟩ := (c.def_ 83 (d := dMe "NotFull" "__init__" "NotFull.__init__" s_ini_NotFull) rfl)
  have F_NotFull : FunD K "__init__" "NotFull.__init__" (defArgs s_ini_NotFull) (defBody s_ini_NotFull) (defScope s_ini_NotFull) [] [] (He.ma K (He.ga K "NotFull") "__init__") fd_NotFull := F_NotFull
  have bi_NotFull := bindsM (ps := ["self", "point"]) (fun _ _ _ _ _ _ us hl => match us, hl with | [_, _], _ => rfl) F_NotFull
  have m_NotFull : Xm P w K mg base "NotFull" (He.ga K "NotFull") ["point"] := xm_w ec_NotFull (c.more 87 (f := xiB "NotFull" ["point"]) rfl) (ini1 sc_ini_NotFull ⟨_, _, _, _, rfl⟩ ec_NotFull.ox rfl rfl (by decide) (by decide) nf_NotFull_point (He5.fun_of F_NotFull)) bi_NotFull
  have c__law_mixed := ok_mixed (P := P) (w := w) (K := K) (mg := mg) (base := base) Z D
  have c__law_take := ok_take (P := P) (w := w) (K := K) (mg := mg) (base := base) Z D c__law_mixed
  have c__law_pick := ok_pick (P := P) (w := w) (K := K) (mg := mg) (base := base) Z D c__law_take
  have c__law_place := ok_place (P := P) (w := w) (K := K) (mg := mg) (base := base) Z D c__law_take
  have c__law_drawn := ok_drawn (P := P) (w := w) (K := K) (mg := mg) (base := base) Z D c__law_take
  have c__law_either := ok_either (P := P) (w := w) (K := K) (mg := mg) (base := base) Z D c__law_take
  have c__law_is_whole := ok_is_whole (P := P) (w := w) (K := K) (mg := mg) (base := base) Z D
  have c__law_is_whole_h := ok_is_whole_h (P := P) (w := w) (K := K) (mg := mg) (base := base) Z D
  have c_is_number := ok_is_number (P := P) (w := w) (K := K) (mg := mg) (base := base) Z D
  have c_is_point := ok_is_point (P := P) (w := w) (K := K) (mg := mg) (base := base) Z D c_is_number
  have c_is_move_on := ok_is_move_on (P := P) (w := w) (K := K) (mg := mg) (base := base) Z D c_is_point
  have c__law_store := ok_store (P := P) (w := w) (K := K) (mg := mg) (base := base) Z D
  have c_carry__w := ok_carry__w (P := P) (w := w) (K := K) (mg := mg) (base := base) Z D
  have c_carry := ok_carry (P := P) (w := w) (K := K) (mg := mg) (base := base) Z D c_carry__w
  have c__law_after := ok_after (P := P) (w := w) (K := K) (mg := mg) (base := base) Z D
  have c_check_number := ok_check_number (P := P) (w := w) (K := K) (mg := mg) (base := base) Z D m_BadNumber c_is_number
  have c_check_points := ok_check_points (P := P) (w := w) (K := K) (mg := mg) (base := base) Z D c_check_number
  have c_check_moves := ok_check_moves (P := P) (w := w) (K := K) (mg := mg) (base := base) Z D m_NotAMove m_TooMany c_is_move_on
  have c_still_move := ok_still (P := P) (w := w) (K := K) (mg := mg) (base := base) Z D c_check_points
  have c__next_layer := ok_next (P := P) (w := w) (K := K) (mg := mg) (base := base) Z D c_carry
  have c_best_words := ok_best (P := P) (w := w) (K := K) (mg := mg) (base := base) Z D m_TooMany c__next_layer
  have c_make_all := ok_make_all (P := P) (w := w) (K := K) (mg := mg) (base := base) Z D c_check_points c_check_moves c_still_move c_best_words
  have c_World___init__ := ok_init (P := P) (w := w) (K := K) (mg := mg) (base := base) Z D W c_make_all
  have c_World_points := ok_points (P := P) (w := w) (K := K) (mg := mg) (base := base) Z D W
  have c_World_told := ok_wtold (P := P) (w := w) (K := K) (mg := mg) (base := base) Z D W
  have c_World_made := ok_wmade (P := P) (w := w) (K := K) (mg := mg) (base := base) Z D W
  have c_World___len__ := ok_wlen (P := P) (w := w) (K := K) (mg := mg) (base := base) Z D W
  have c_World___eq__ := ok_weq (P := P) (w := w) (K := K) (mg := mg) (base := base) Z D W
  have c__law_group := ok_group (P := P) (w := w) (K := K) (mg := mg) (base := base) Z D c__law_after
  have c_check_point := ok_check_point (P := P) (w := w) (K := K) (mg := mg) (base := base) Z D m_NotAPoint c_is_point
  have c_check_row := ok_check_row (P := P) (w := w) (K := K) (mg := mg) (base := base) Z D m_TooMany c_check_point
  have c_World___iter__ := ok_witer (P := P) (w := w) (K := K) (mg := mg) (base := base) Z D W
  have c_those_holding := ok_those (P := P) (w := w) (K := K) (mg := mg) (base := base) Z D W c_carry__w c_World___iter__
  have c_holders := ok_holders (P := P) (w := w) (K := K) (mg := mg) (base := base) Z D W c_World_points c_check_row c_those_holding
  have c_those_holding__l := ok_those__l (P := P) (w := w) (K := K) (mg := mg) (base := base) Z D c_carry__w
  have c_holder_counts := ok_holder_counts (P := P) (w := w) (K := K) (mg := mg) (base := base) Z D W c_World_points c_World_made c_check_row c_those_holding__l
  have c__law_holders := ok_law_holders (P := P) (w := w) (K := K) (mg := mg) (base := base) Z D
  have c_loose_indexes := ok_loose (P := P) (w := w) (K := K) (mg := mg) (base := base) Z D c_holder_counts
  have c_is_tight := ok_is_tight (P := P) (w := w) (K := K) (mg := mg) (base := base) Z D c_loose_indexes
  have c_is_full := ok_is_full (P := P) (w := w) (K := K) (mg := mg) (base := base) Z D c_holders
  have c__law_turns := ok_turns (P := P) (w := w) (K := K) (mg := mg) (base := base) Z D c__law_take c__law_pick
  have c__law_some_move := ok_some_move (P := P) (w := w) (K := K) (mg := mg) (base := base) Z D c__law_take c__law_drawn
  have c__law_moved := ok_lmoved (P := P) (w := w) (K := K) (mg := mg) (base := base) Z D
  have c__law_full_row := ok_full_row (P := P) (w := w) (K := K) (mg := mg) (base := base) Z D c__law_pick c__law_moved c__law_holders
  have c__law_near_row := ok_near_row (P := P) (w := w) (K := K) (mg := mg) (base := base) Z D c__law_take c__law_place c__law_full_row
  have c__law_renamed := ok_renamed (P := P) (w := w) (K := K) (mg := mg) (base := base) Z D
  have c__law_cut := ok_cut (P := P) (w := w) (K := K) (mg := mg) (base := base) Z D c__law_group
  have c__law_any_world := ok_any_world (P := P) (w := w) (K := K) (mg := mg) (base := base) Z D c__law_take c__law_pick c__law_drawn c__law_some_move c__law_turns c__law_renamed c__law_cut
  have c__law_built := ok_built (P := P) (w := w) (K := K) (mg := mg) (base := base) Z D W c__law_either c_World___init__
  have c__law_tight_at := ok_tight_at (P := P) (w := w) (K := K) (mg := mg) (base := base) Z D
  have c__law_wrong_number := ok_wrong_to (P := P) (w := w) (K := K) (mg := mg) (base := base) Z D c__law_take c__law_pick
  have c__law_wrong_row := ok_wrong_rw (P := P) (w := w) (K := K) (mg := mg) (base := base) Z D c__law_take c__law_pick c__law_either c__law_wrong_number
  have c_has_point := ok_has_point (P := P) (w := w) (K := K) (mg := mg) (base := base) Z D
  have c_bits_of := ok_bits_of (P := P) (w := w) (K := K) (mg := mg) (base := base) Z D
  have c_lot_of := ok_lotof (P := P) (w := w) (K := K) (mg := mg) (base := base) Z D c_has_point
  have c_closed_bits := ok_closed_bits (P := P) (w := w) (K := K) (mg := mg) (base := base) Z D
  have c_mark_bits := ok_mark_bits (P := P) (w := w) (K := K) (mg := mg) (base := base) Z D W c_World___iter__
  have c_closure := ok_closure (P := P) (w := w) (K := K) (mg := mg) (base := base) Z D W c_World_points c_check_row c_mark_bits c_bits_of c_closed_bits c_lot_of
  have c_check_tight := ok_check_tight (P := P) (w := w) (K := K) (mg := mg) (base := base) Z D m_NotTight c_loose_indexes
  have c_check_full := ok_check_full (P := P) (w := w) (K := K) (mg := mg) (base := base) Z D W m_NotFull c_World_points c_closure
  have c_check_tight_full := ok_check_tf (P := P) (w := w) (K := K) (mg := mg) (base := base) Z D c_check_tight c_check_full
  have c__law_row_fault := ok_fault (P := P) (w := w) (K := K) (mg := mg) (base := base) Z D c__law_tight_at c__law_moved c__law_holders
  have c__law_tall_world := ok_tall (P := P) (w := w) (K := K) (mg := mg) (base := base) Z D c__law_drawn c__law_renamed c__law_group
  have c__law_tight_at__b := ok_tight_at__b (P := P) (w := w) (K := K) (mg := mg) (base := base) Z D
  have c__law_row_fault__b := ok_row_fault__b (P := P) (w := w) (K := K) (mg := mg) (base := base) Z D c__law_tight_at__b c__law_moved c__law_holders
  have c_is_row_of := ok_is_row_of (P := P) (w := w) (K := K) (mg := mg) (base := base) Z D c_is_point
  have c_is_tuple_of := ok_is_tuple_of (P := P) (w := w) (K := K) (mg := mg) (base := base) Z D c_is_row_of
  have c_is_tight_full_row := ok_is_tfr (P := P) (w := w) (K := K) (mg := mg) (base := base) Z D W c_World_points c_is_row_of c_is_tight c_is_full
  have c_is_bad_order := ok_is_bad_order (P := P) (w := w) (K := K) (mg := mg) (base := base) Z D W c_World_points c_is_tuple_of c_is_tight_full_row c_is_number c_loose_indexes
  have c__law_is_order := ok_is_order (P := P) (w := w) (K := K) (mg := mg) (base := base) Z D c__law_is_whole c__law_row_fault__b c__law_tight_at__b
  have c__law_order_count := ok_order_count (P := P) (w := w) (K := K) (mg := mg) (base := base) Z D
  have c_without := ok_without (P := P) (w := w) (K := K) (mg := mg) (base := base) Z D
  have c_needless_indexes := ok_needless (P := P) (w := w) (K := K) (mg := mg) (base := base) Z D c_holders c_without
  have c_bad_order := ok_bad_order (P := P) (w := w) (K := K) (mg := mg) (base := base) Z D W c_World_points c_check_row c_check_tight_full c_needless_indexes c_without
  have c_every_order_tight := ok_every (P := P) (w := w) (K := K) (mg := mg) (base := base) Z D c_bad_order
  have c__law_kinds_h := ok_kinds_h (P := P) (w := w) (K := K) (mg := mg) (base := base) Z D
  have c__law_needless := ok_lneed (P := P) (w := w) (K := K) (mg := mg) (base := base) Z D c__law_holders
  have c__law_agree := ok_agree (P := P) (w := w) (K := K) (mg := mg) (base := base) Z D c__law_is_whole 4
  have c__law_agree_h := ok_agree_h (P := P) (w := w) (K := K) (mg := mg) (base := base) Z D c__law_is_whole_h 4
  have c__law_right_error_h := ok_right_h (P := P) (w := w) (K := K) (mg := mg) (base := base) Z D c__law_kinds_h c__law_agree_h
  have c__law_refuses := ok_refusesB (P := P) (w := w) (K := K) (mg := mg) (base := base) Z D (ErcR.mk es_NotAPoint nf_NotAPoint_value es_NotFull nf_NotFull_point es_NotTight nf_NotTight_index es_TooMany nf_TooMany_what nf_TooMany_limit) c_bad_order c_every_order_tight c__law_right_error_h
  have c__law_orders_hold := ok_ord_holds (P := P) (w := w) (K := K) (mg := mg) (base := base) Z D c__law_either c__law_drawn c__law_take c__law_row_fault c__law_refuses c__law_order_count c__law_needless c_every_order_tight c_bad_order c_is_bad_order c__law_is_order c__law_agree
  exact ok_law Z D (He5.fun_of F) W c__law_store c__law_take c__law_pick c__law_any_world c__law_tall_world c__law_built c__law_near_row c__law_full_row c__law_orders_hold c__law_wrong_row c__law_refuses
end Hd
open PySem PySem.W PySem.Calls PyProof.Rows
set_option maxHeartbeats 0 in
theorem PySem.Challenge.cw_heldorder_k56_every_order_is_tight_if_le_holds : PySem.Challenge.rw_heldorder_k56_every_order_is_tight_if_le.Holds := by
  w_on; o_law
  refine HandSHeadRun.head_any (r := OpenLaw.row PySem.Challenge.rw_heldorder_k56_every_order_is_tight_if_le) (q := view (OpenLaw.row PySem.Challenge.rw_heldorder_k56_every_order_is_tight_if_le).prog [100]) (H := Hd.hkL) (ob := Hd.obL) (M := 12000) (loose := Hd.looseL) (d := HandSHeadRun.topDef (OpenLaw.row PySem.Challenge.rw_heldorder_k56_every_order_is_tight_if_le).prog 100) (kwd := []) Hd.obL_eq
    (by kernel_rfl) (fun s => by kernel_rfl) Hd.runL (by kernel_rfl) (by kernel_rfl) (by kernel_rfl) (by rfl) (by first | assumption | decide +kernel) (by decide +kernel) ⟨rfl, rfl, rfl, rfl, rfl, by decide +kernel⟩ ?hw ?hc
  case hw => w_witness2
  case hc =>
    refine L2.walk_ofE (l := PySem.Challenge.rw_heldorder_k56_every_order_is_tight_if_le) (n := 63) (k := 13) (x := "script") (CX := L2.CX0) rfl (by decide) (by kernel_rfl) ⟨rfl, by decide, by decide⟩ ?F (fun _ _ _ _ z => z)
    intro w mg fa h Y G hmg0
    obtain ⟨K, KX, c⟩ := Y
    have hmg : mg ("law" : PySem.Str) = some (.ref fa) := by
      have e : (HandSHeadRun.topDef (OpenLaw.row PySem.Challenge.rw_heldorder_k56_every_order_is_tight_if_le).prog 100).name = ("law" : PySem.Str) := by kernel_rfl
      rw [← e]
      exact hmg0
    obtain ⟨fd, hb, hF⟩ := Hd.all_w (P := (PySem.Challenge.rw_heldorder_k56_every_order_is_tight_if_le).prog) (w := w) KX G hmg c
    exact ⟨K, fd, Hd.spLaw K, KX, hb, fun H a ns hl _ hS => Hd.spLaw_of hl hS, hF⟩
