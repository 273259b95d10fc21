import PyProof.Rows.All
import Wide.All
import OpenK.AllK
import Wide.FinOn
import HandS.ForMost
import HandS.IsInst
import HandS.Conv
import HandS.SortInts
import HandS.Style
import HandS.TupAny
import HandS.Deep
import HandS.TupMul
import HandS.More
import HandS.Evl
import KE.KEqSeq
import HandS.HotCalls
import HandS.ExcCtx
import HandS.ExcInit
import HandS.ExcInitHot
import HandS.ExcField
import HandS.ExcIs
import HandS.RaiseFrom
import KE.KExcIs
import KE.GoesMore
import HandS.SetFor
import HandS.ExcValue
import HandS.Strs
import HandS.TupLen
import HandS.NamedTupSort
import KE.KDictSum
import HandS.Property
import HandS.Defaults
import HandS.OwnEq
import HandS.HeadNt
import HandS.Head0
import HandS.Head1
import HandS.Head2
import HandS.HeadEnd
import HandS.IterVal
import HandS.IterNext
import HandS.TupLe
import PyProof.Rows.ReprR
import PyProof.ReprLen
import HandS.SetBool
import HandS.Flow
import PyProof.InstNe
import HandS.DictComp
import PyProof.SumWalkG
import PySem.Challenge.RW_heldorder_k51_the_swap_path_turns_two_ro
set_option Elab.async false
set_option linter.all false
set_option maxRecDepth 100000
set_option maxHeartbeats 4000000
namespace Hd
open PySem PySem.Spec PyProof.Rows L2

/-! ### defs of the text, promises of callees -/
def Def (K : PySem.W.Frag) (mg : Str → Option Value) (x : Str) (st : Stmt) (ps : List Str) : Prop :=
  ∃ f fd, Fun K x x st f fd ∧ mg x = some (.ref f) ∧ Binds K fd ps []
def Cal (P : Program) (w : World) (K : PySem.W.Frag) (mg : Str → Option Value) (base : Heap) (x : Str) (k : Nat) (ps : List Str) (sp : Sp) : Prop :=
  ∃ f fd, FnOk P w K mg base CX0 k f fd ps sp ∧ mg x = some (.ref f) ∧ PySem.W.keepIn K (.ref f) = true ∧ Binds K fd ps []
section
variable {P : Program} {w : World} {K : PySem.W.Frag} {mg : Str → Option Value} {base : Heap} {x : Str} {st : Stmt} {ps N : List Str} {k : Nat} {sp : Sp}
theorem Def.cal (D : Def K mg x st ps) (S : FnScope N ps (defScope st)) (len : ∀ vs H Q E, sp vs H Q E → vs.length = ps.length)
    (hbody : ∀ (f : Addr) (cdv : Value) (A : Around) (outer : List Env) (s : Shared) (H : Hp) (vs : List V) (Q : VK) (E : XK), Room k (A.deeper (envOfC x (defScope st) s.heap.objs.size f cdv)) → sp vs H Q E →
      ∃ t, PSs (cxOf CX0 P w K mg base N x (defScope st) f cdv A outer s H E).nox (defBody st) t ∧ t { nx := fun _ H' => Q .non H', rt := Q } (start N vs) H) : Cal P w K mg base x (k + 1) ps sp := by
  obtain ⟨f, fd, F, g, b⟩ := D
  exact ⟨f, fd, F.ok S len (fun cdv A outer s H vs Q E hr h => hbody f cdv A outer s H vs Q E hr h), g, F.kp, b⟩
end
section
variable {X : Cx} {x : Str} {p pos : Pos} {e : Expr} {es : List Expr} {k : Nat} {ps : List Str} {sp : Sp} {t : TA}
theorem pe_cal (C : Cal X.prog X.w X.K X.mg X.base x k ps sp) (hr : Room k X.A) (hg : Gl X x) (ha : PA X (e :: es) t) (hdb : (x == ("__debug__" : Str)) = false := by decide)
    (he : starEach (e :: es) X.env = (false, eval e X.env) :: starEach es X.env := by rfl) (hpl : (backTo pos (starEach es X.env)).any (·.1) = false := by rfl) :
    PE X (.Call (.Name x p) (e :: es) [] pos) (tCall sp [] E0 t) := by
  obtain ⟨f, fd, F, g, kp, b⟩ := C
  exact pe_call F hr hg g kp b .nil pass0 ha hdb he hpl
end
section
variable {X : Cx}
theorem pe_globI {x : Str} {n : Int} {pos : Pos} (hg : Gl X x) (hm : ∃ t, X.mg x = some (.int n t)) (hd : (x == ("__debug__" : Str)) = false := by decide) : PE X (.Name x pos) (tC (.int n)) := by
  obtain ⟨t, h⟩ := hm
  exact pe_glob hg h ⟨t, rfl⟩ hd
end
/-! ### nested data that stands in a part of the heap -/
mutual
inductive Da (H : Hp) : V → PyData → Prop
  | non : Da H .non .none
  | bl (b : Bool) : Da H (.bl b) (.bool b)
  | int (i : Int) : Da H (.int i) (.int i)
  | str (x : Str) : Da H (.str x) (.str x)
  | lst {a : Addr} {xs : List V} {ds : List PyData} : H a = some (.lst xs) → DaAll H xs ds → Da H (.ref a) (.list ds)
  | tup {a : Addr} {xs : List V} {ds : List PyData} : H a = some (.tup xs) → DaAll H xs ds → Da H (.ref a) (.tuple ds)
inductive DaAll (H : Hp) : List V → List PyData → Prop
  | nil : DaAll H [] []
  | cons {v : V} {vs : List V} {d : PyData} {ds : List PyData} : Da H v d → DaAll H vs ds → DaAll H (v :: vs) (d :: ds)
end
mutual
theorem Da.mono {H H' : Hp} (g : Same H H') : ∀ (d : PyData) (v : V), Da H v d → Da H' v d
  | .none, _, h => by cases h; exact .non
  | .bool b, _, h => by cases h; exact .bl b
  | .int b, _, h => by cases h; exact .int b
  | .str b, _, h => by cases h; exact .str b
  | .list ds, _, h => by
    cases h with
    | lst a b => exact .lst (g _ _ a) (DaAll.mono g ds _ b)
  | .tuple ds, _, h => by
    cases h with
    | tup a b => exact .tup (g _ _ a) (DaAll.mono g ds _ b)
  | .dict _, _, h => by cases h
theorem DaAll.mono {H H' : Hp} (g : Same H H') : ∀ (ds : List PyData) (vs : List V), DaAll H vs ds → DaAll H' vs ds
  | [], _, h => by cases h; exact .nil
  | d :: ds, _, h => by
    cases h with
    | cons a b => exact .cons (Da.mono g d _ a) (DaAll.mono g ds _ b)
end
theorem Da.up {H H' : Hp} (g : Same H H') {v : V} {d : PyData} (h : Da H v d) : Da H' v d := Da.mono g d v h
theorem DaAll.up {H H' : Hp} (g : Same H H') {v : List V} {d : List PyData} (h : DaAll H v d) : DaAll H' v d := DaAll.mono g d v h
mutual
theorem Da.dp {K : PySem.W.Frag} {H : Hp} : ∀ (d : PyData) (v : V), Da H v d → Dp K H v d
  | .none, _, h => by cases h; exact .non
  | .bool b, _, h => by cases h; exact .bl b
  | .int b, _, h => by cases h; exact .int b
  | .str b, _, h => by cases h; exact .str b
  | .list ds, _, h => by
    cases h with
    | lst a b => exact .lst (.inl (.inl a)) (DaAll.dp ds _ b)
  | .tuple ds, _, h => by
    cases h with
    | tup a b => exact .tup (.inl (.inl a)) (DaAll.dp ds _ b)
  | .dict _, _, h => by cases h
theorem DaAll.dp {K : PySem.W.Frag} {H : Hp} : ∀ (ds : List PyData) (vs : List V), DaAll H vs ds → DpAll K H vs ds
  | [], _, h => by cases h; exact .nil
  | d :: ds, _, h => by
    cases h with
    | cons a b => exact .cons (Da.dp d _ a) (DaAll.dp ds _ b)
end
theorem DaAll.length {H : Hp} : ∀ {ds : List PyData} {vs : List V}, DaAll H vs ds → vs.length = ds.length
  | [], _, h => by cases h; rfl
  | d :: ds, _, h => by
    cases h with
    | cons a b => rw [List.length_cons, List.length_cons, DaAll.length b]
theorem DaAll.get {H : Hp} : ∀ {ds : List PyData} {vs : List V} {i : Nat} {v : V}, DaAll H vs ds → vs[i]? = some v → ∃ d, ds[i]? = some d ∧ Da H v d
  | [], _, i, v, h, e => by cases h; simp at e
  | d :: ds, _, 0, v, h, e => by
    cases h with
    | cons a b =>
      have e' := Option.some.inj e
      subst e'
      exact ⟨d, rfl, a⟩
  | d :: ds, _, i + 1, v, h, e => by
    cases h with
    | cons a b => exact DaAll.get (i := i) b e
/-- isinstance of nested data -/
def tyD : PyData → String
  | .none => "NoneType"
  | .bool _ => "bool"
  | .int _ => "int"
  | .str _ => "str"
  | .list _ => "list"
  | .tuple _ => "tuple"
  | .dict _ => "dict"
theorem Da.ty {K : PySem.W.Frag} {G H : Hp} (g : Same G H) {v : V} {d : PyData} (h : Da G v d) : TyX K H v (.type (tyD d)) := by
  cases h with
  | non => exact .base .non
  | bl b => exact .base (.bl b)
  | int b => exact .base (.int b)
  | str b => exact .base (.str b)
  | lst a b => exact .base (.lst (g _ _ a))
  | tup a b => exact .base (.tup (g _ _ a))
def isI : PyData → Bool
  | .int _ => true
  | _ => false
/-- isinstance(x, T) for T of int, bool, tuple, list, str: the answer -/
def instB (d : PyData) (T : String) : Bool := tyD d == T || (T == "int" && tyD d == "bool")
theorem kit_da {K : PySem.W.Frag} {H : Hp} {v : V} {d : PyData} (h : Da H v d) {T : String} (hT : T = "int" ∨ T = "bool" ∨ T = "tuple" ∨ T = "list" ∨ T = "str") : PySem.W.kitOne K (.type (tyD d)) (.type T) = some (instB d T) := by
  refine kit_ty ?_
  have e : tyD d = "NoneType" ∨ tyD d = "bool" ∨ tyD d = "int" ∨ tyD d = "str" ∨ tyD d = "list" ∨ tyD d = "tuple" := by
    cases h with
    | non => exact .inl rfl
    | bl b => exact .inr (.inl rfl)
    | int b => exact .inr (.inr (.inl rfl))
    | str b => exact .inr (.inr (.inr (.inl rfl)))
    | lst a b => exact .inr (.inr (.inr (.inr (.inl rfl))))
    | tup a b => exact .inr (.inr (.inr (.inr (.inr rfl))))
  unfold instB
  rcases hT with rfl | rfl | rfl | rfl | rfl <;> rcases e with e | e | e | e | e | e <;> rw [e] <;> decide +kernel
theorem rIsi_da {K : PySem.W.Frag} {G H : Hp} {Q : VK} (g : Same G H) {v : V} {d : PyData} (h : Da G v d) {T : String} (hT : T = "int" ∨ T = "bool" ∨ T = "tuple" ∨ T = "list" ∨ T = "str") (q : Q (.bl (instB d T)) H) : rIsi K [v, .ty T] H Q :=
  ⟨v, .ty T, _, _, instB d T, rfl, ClsV.ty T, h.ty g, kit_da h hT, q⟩
end Hd

namespace Hd
open PySem PySem.Spec PyProof.Rows L2
/-! ### heaps: what changed -/
/-- a new object o at p -/
structure New (H : Hp) (p : Addr) (o : HO) (H' : Hp) : Prop where
  fr : H p = none
  eq : H' = upd H p o
theorem New.at {H H' : Hp} {p : Addr} {o : HO} (n : New H p o H') : H' p = some o := by rw [n.eq]; exact upd_same
theorem New.same {H H' : Hp} {p : Addr} {o : HO} (n : New H p o H') : Same H H' := fun b u e => by
  rw [n.eq, upd_ne (ne_of_none e n.fr)]
  exact e
theorem New.ne {H H' : Hp} {p a : Addr} {o : HO} (n : New H p o H') (h : H a ≠ none) : a ≠ p := fun e => h (by rw [e]; exact n.fr)
/-- a tuple: it never changes, so it may be known at any time -/
def isT : HO → Bool
  | .tup _ => true
  | _ => false
/-- G is the part of the heap H that no longer changes; from (G, H) to (G', H'): all of G kept, only new objects known, all objects of H but that at S kept -/
structure Stp (S : Addr) (G H G' H' : Hp) : Prop where
  gg : Same G G'
  gh : Same G' H'
  nw : ∀ b o, H b = some o → isT o = false → G b = none → G' b = none
  hh : ∀ b o, b ≠ S → H b = some o → H' b = some o
  al : ∀ b o, H b = some o → ∃ o', H' b = some o' ∧ (isT o = false → isT o' = false)
structure Stq (G H G' H' : Hp) : Prop where
  gg : Same G G'
  gh : Same G' H'
  nw : ∀ b o, H b = some o → isT o = false → G b = none → G' b = none
  hh : Same H H'
theorem ne_none {H : Hp} {b : Addr} {o : HO} (h : H b = some o) : H b ≠ none := by rw [h]; intro z; cases z
theorem Stq.al {G H G' H' : Hp} (s : Stq G H G' H') : ∀ b o, H b = some o → ∃ o', H' b = some o' ∧ (isT o = false → isT o' = false) := fun b o h => ⟨o, s.hh _ _ h, id⟩
theorem Stp.refl {S : Addr} {G H : Hp} (g : Same G H) : Stp S G H G H := ⟨Same.refl _, g, fun _ _ _ _ h => h, fun _ _ _ h => h, fun _ o h => ⟨o, h, id⟩⟩
theorem Stq.refl {G H : Hp} (g : Same G H) : Stq G H G H := ⟨Same.refl _, g, fun _ _ _ _ h => h, Same.refl _⟩
theorem Stp.trans {S : Addr} {G H G1 H1 G2 H2 : Hp} (a : Stp S G H G1 H1) (b : Stp S G1 H1 G2 H2) : Stp S G H G2 H2 :=
  ⟨a.gg.trans b.gg, b.gh, fun c o h t g => by
    obtain ⟨o1, h1, k⟩ := a.al c o h
    exact b.nw c o1 h1 (k t) (a.nw c o h t g), fun c o n h => b.hh c o n (a.hh c o n h), fun c o h => by
    obtain ⟨o1, h1, k⟩ := a.al c o h
    obtain ⟨o2, h2, k2⟩ := b.al c o1 h1
    exact ⟨o2, h2, fun t => k2 (k t)⟩⟩
theorem Stq.trans {G H G1 H1 G2 H2 : Hp} (a : Stq G H G1 H1) (b : Stq G1 H1 G2 H2) : Stq G H G2 H2 :=
  ⟨a.gg.trans b.gg, b.gh, fun c o h t g => b.nw c o (a.hh c o h) t (a.nw c o h t g), a.hh.trans b.hh⟩
theorem Stq.p {S : Addr} {G H G' H' : Hp} (s : Stq G H G' H') : Stp S G H G' H' := ⟨s.gg, s.gh, s.nw, fun b o _ h => s.hh b o h, s.al⟩
theorem Stp.q {S : Addr} {G H G1 H1 G2 H2 : Hp} (a : Stp S G H G1 H1) (b : Stq G1 H1 G2 H2) : Stp S G H G2 H2 := a.trans b.p
/-- a new object, known -/
theorem same_upd {G H : Hp} (g : Same G H) {p : Addr} {o : HO} (h : H p = none) : Same (upd G p o) (L2.upd H p o) := fun b u e => by
  by_cases hb : b = p
  · subst hb
    rw [upd_same] at e
    rw [upd_same]
    exact e
  · rw [upd_ne hb] at e
    rw [upd_ne hb]
    exact g _ _ e
theorem Stq.know {G H H' : Hp} {p : Addr} {o : HO} (g : Same G H) (n : New H p o H') : ∃ G', Stq G H G' H' ∧ G' p = some o ∧ ∀ b, b ≠ p → G' b = G b := by
  refine ⟨upd G p o, ⟨fun b u e => ?_, ?_, fun b o' h _ e => ?_, n.same⟩, upd_same, fun b h => upd_ne h⟩
  · rw [upd_ne (ne_of_none (g _ _ e) n.fr)]
    exact e
  · rw [n.eq]
    exact same_upd g n.fr
  · rw [upd_ne (n.ne (ne_none h))]
    exact e
/-- a new object, not (yet) known: it may change -/
theorem Stq.loc {G H H' : Hp} {p : Addr} {o : HO} (g : Same G H) (n : New H p o H') : Stq G H G H' ∧ G p = none ∧ H' p = some o :=
  ⟨⟨Same.refl _, g.trans n.same, fun _ _ _ _ h => h, n.same⟩, g.free n.fr, n.at⟩
/-- it has changed -/
theorem Stp.mut {S : Addr} {G0 H0 G H H' : Hp} (s : Stp S G0 H0 G H) {l : Addr} {o : HO} (g : G l = none) (f : H0 l = none) (e : H' = upd H l o) : Stp S G0 H0 G H' := by
  subst e
  refine ⟨s.gg, fun b u h => ?_, s.nw, fun b u n h => ?_, fun b u h => ?_⟩
  · rw [upd_ne (ne_of_none h g)]
    exact s.gh _ _ h
  · rw [upd_ne (ne_of_none h f)]
    exact s.hh b u n h
  · rw [upd_ne (ne_of_none h f)]
    exact s.al b u h
theorem Stq.mut {G0 H0 G H H' : Hp} (s : Stq G0 H0 G H) {l : Addr} {o : HO} (g : G l = none) (f : H0 l = none) (e : H' = upd H l o) : Stq G0 H0 G H' := by
  subst e
  refine ⟨s.gg, fun b u h => ?_, s.nw, fun b u h => ?_⟩
  · rw [upd_ne (ne_of_none h g)]
    exact s.gh _ _ h
  · rw [upd_ne (ne_of_none h f)]
    exact s.hh b u h
/-- it is known from now on -/
theorem Stp.frz {S : Addr} {G0 H0 G H : Hp} (s : Stp S G0 H0 G H) {l : Addr} {o : HO} (g : G l = none) (f : H0 l = none) (h : H l = some o) : ∃ G', Stp S G0 H0 G' H ∧ Same G G' ∧ G' l = some o ∧ ∀ b, b ≠ l → G' b = G b := by
  have gn : Same G (upd G l o) := fun b u e => by
    rw [upd_ne (ne_of_none e g)]
    exact e
  refine ⟨upd G l o, ⟨s.gg.trans gn, fun b u e => ?_, fun b u hb t e => ?_, s.hh, s.al⟩, gn, upd_same, fun b h => upd_ne h⟩
  · by_cases q : b = l
    · subst q
      rw [upd_same] at e
      rw [h]
      exact e
    · rw [upd_ne q] at e
      exact s.gh _ _ e
  · rw [upd_ne (ne_of_none hb f)]
    exact s.nw b u hb t e
theorem Stq.frz {G0 H0 G H : Hp} (s : Stq G0 H0 G H) {l : Addr} {o : HO} (g : G l = none) (f : H0 l = none) (h : H l = some o) : ∃ G', Stq G0 H0 G' H ∧ Same G G' ∧ G' l = some o ∧ ∀ b, b ≠ l → G' b = G b := by
  have gn : Same G (upd G l o) := fun b u e => by
    rw [upd_ne (ne_of_none e g)]
    exact e
  refine ⟨upd G l o, ⟨s.gg.trans gn, fun b u e => ?_, fun b u hb t e => ?_, s.hh⟩, gn, upd_same, fun b h => upd_ne h⟩
  · by_cases q : b = l
    · subst q
      rw [upd_same] at e
      rw [h]
      exact e
    · rw [upd_ne q] at e
      exact s.gh _ _ e
  · rw [upd_ne (ne_of_none hb f)]
    exact s.nw b u hb t e
/-! ### readings in a form of our own -/
section
variable {X : Cx} {e : Expr} {t t' : TE}
theorem PE.mono (h : PE X e t) (m : ∀ σ H Q, t' σ H Q → t σ H Q) : PE X e t' := ⟨fun pins s σ H Q I q => h.run pins s σ H Q I (m σ H Q q)⟩
theorem PT.mono {t t' : TT} (h : PT X e t) (m : ∀ σ H Q, t' σ H Q → t σ H Q) : PT X e t' := ⟨fun pins s σ H Q I q => h.run pins s σ H Q I (m σ H Q q)⟩
theorem callR_mono {f : Value} {r r' : List V → Hp → VK → Prop} (h : CallR X f r) (m : ∀ xs H Q, r' xs H Q → r xs H Q) : CallR X f r' := fun pins s σ H xs us Q I rv q => h pins s σ H xs us Q I rv (m _ _ _ q)
theorem opR_mono {f : Value → Value → Sem Value} {r r' : R2} (h : OpR X f r) (m : ∀ x y H Q, r' x y H Q → r x y H Q) : OpR X f r' := fun pins s σ H x y v u Q I rx ry q => h pins s σ H x y v u Q I rx ry (m _ _ _ _ q)
theorem mtR_mono {id : String} {r r' : V → List V → Hp → VK → Prop} (h : MtR X id r) (m : ∀ x xs H Q, r' x xs H Q → r x xs H Q) : MtR X id r' := fun pins s σ H x xs v us Q I rx rxs q => h pins s σ H x xs v us Q I rx rxs (m _ _ _ _ q)
theorem slR_mono {r r' : V → Option Int → Option Int → Hp → VK → Prop} (h : SlR X r) (m : ∀ x a b H Q, r' x a b H Q → r x a b H Q) : SlR X r' := fun pins s σ H x v vl vu lo hi sl Q I rx hs pl pu q => h pins s σ H x v vl vu lo hi sl Q I rx hs pl pu (m _ _ _ _ _ q)
end
section
variable {X : Cx}
def rLstN (t : TA) : TE := fun σ H Q => t σ H fun xs H1 => xs.length ≤ sizeLine ∧ ∀ p H2, New H1 p (.lst xs) H2 → Q (.ref p) H2
def rTupN (t : TA) : TE := fun σ H Q => t σ H fun xs H1 => xs.length ≤ sizeLine ∧ ∀ p H2, New H1 p (.tup xs) H2 → Q (.ref p) H2
theorem newAll {H : Hp} {o : HO} {K : Addr → Hp → Prop} : (∀ p H2, New H p o H2 → K p H2) ↔ ∀ p, H p = none → K p (upd H p o) :=
  ⟨fun h p e => h p _ ⟨e, rfl⟩, fun h p H2 n => by rw [n.eq]; exact h p n.fr⟩
theorem rLstN_eq (t : TA) : rLstN t = tLst t := funext fun σ => funext fun H => funext fun Q =>
  congrArg (t σ H) (funext fun xs => funext fun H1 => propext (and_congr_right fun _ => newAll (K := fun p H2 => Q (.ref p) H2)))
theorem rTupN_eq (t : TA) : rTupN t = tTup t := funext fun σ => funext fun H => funext fun Q =>
  congrArg (t σ H) (funext fun xs => funext fun H1 => propext (and_congr_right fun _ => newAll (K := fun p H2 => Q (.ref p) H2)))
theorem pe_lstN {es : List Expr} {t : TA} {pos : Pos} (h : PA X es t) : PE X (.List es pos) (rLstN t) := by
  rw [rLstN_eq]
  exact pe_lst h
theorem pe_tupN {es : List Expr} {t : TA} {x1 : Nat} {pos : Pos} (h : PA X es t) : PE X (.Tuple es x1 pos) (rTupN t) := by
  rw [rTupN_eq]
  exact pe_tup h
/-- list(xs), of a list or tuple -/
def rListN (K : PySem.W.Frag) : List V → Hp → VK → Prop := fun xs H Q => ∃ p ys, xs = [.ref p] ∧ (SqL K H p ys ∨ SqT K H p ys) ∧ ∀ l H2, New H l (.lst ys) H2 → Q (.ref l) H2
theorem call_listN : CallR X (.type "list") (rListN X.K) := callR_mono call_list_of fun xs H Q h => by
  obtain ⟨p, ys, e, h, q⟩ := h
  exact ⟨p, ys, e, h, fun l hl => q l _ ⟨hl, rfl⟩⟩
/-- tuple(xs), of a list -/
def rTupleN (K : PySem.W.Frag) : List V → Hp → VK → Prop := fun xs H Q => ∃ p ys, xs = [.ref p] ∧ SqL K H p ys ∧ ∀ l H2, New H l (.tup ys) H2 → Q (.ref l) H2
theorem call_tupleN : CallR X (.type "tuple") (rTupleN X.K) := callR_mono call_tuple_of fun xs H Q h => by
  obtain ⟨p, ys, e, h, q⟩ := h
  exact ⟨p, ys, e, .inl ⟨h, fun l hl => q l _ ⟨hl, rfl⟩⟩⟩
/-- list(range(..)) -/
def tLstRgN (te : L2.St → Hp → (Int → Int → Hp → Prop) → Prop) : TE := fun σ H Q => te σ H fun a b H1 => RgOk a b ∧ ∀ q H2, New H1 q (.lst (rgV a b)) H2 → Q (.ref q) H2
/-- xs[a:b] of a list -/
def rSlLN (K : PySem.W.Frag) : V → Option Int → Option Int → Hp → VK → Prop := fun x lo hi H Q => ∃ a xs, x = .ref a ∧ SqL K H a xs ∧ ∀ p H2, New H p (.lst (cutV xs lo hi)) H2 → Q (.ref p) H2
theorem sl_listN : SlR X (rSlLN X.K) := slR_mono sl_list fun x lo hi H Q h => by
  obtain ⟨a, xs, e, h, q⟩ := h
  exact ⟨a, xs, e, h, fun p hp => q p _ ⟨hp, rfl⟩⟩
/-- methods that change a list -/
def rAppendN : V → List V → Hp → VK → Prop := fun x vs H Q => ∃ l xs y, x = .ref l ∧ vs = [y] ∧ H l = some (.lst xs) ∧ xs.length < sizeLine ∧ ∀ H2, H2 = upd H l (.lst (xs ++ [y])) → Q .non H2
theorem mt_appendN : MtR X "list.append" rAppendN := mtR_mono mt_append fun x xs H Q h => by
  obtain ⟨l, zs, y, e1, e2, h, z, q⟩ := h
  exact ⟨l, zs, y, e1, e2, h, z, q _ rfl⟩
def rSetN : V → V → V → Hp → (Hp → Prop) → Prop := fun o i v H Q => ∃ p xs k, o = .ref p ∧ i = .int ((k : Nat) : Int) ∧ H p = some (.lst xs) ∧ k < xs.length ∧ ∀ H2, H2 = upd H p (.lst (xs.set k v)) → Q H2
theorem ixN_of {n k : Nat} (h : k < n) : ixN n (k : Int) = some k := by
  unfold ixN
  rw [if_pos (by omega), if_pos (by omega)]
  rfl
theorem set_listN : PSet X rSetN := fun pins s σ H o i v uo ui uv Q I ro ri rv h => by
  obtain ⟨p, xs, k, e1, e2, h, z, q⟩ := h
  exact set_list pins s σ H o i v uo ui uv Q I ro ri rv ⟨p, xs, _, k, e1, e2, h, ixN_of z, q _ rfl⟩
/-- xs + ys of two lists -/
def rCatN : R2 := fun x y H Q => ∃ l b xs zs, x = .ref l ∧ y = .ref b ∧ H l = some (.lst xs) ∧ H b = some (.lst zs) ∧ xs.length + zs.length ≤ sizeLine ∧ ∀ p H2, New H p (.lst (xs ++ zs)) H2 → Q (.ref p) H2
theorem op_catN : OpR X (binaryOp .Add) rCatN := opR_mono op_cat fun x y H Q h => by
  obtain ⟨l, b, xs, zs, e1, e2, h1, h2, z, q⟩ := h
  exact ⟨l, b, xs, zs, e1, e2, h1, h2, z, fun p hp => q p _ ⟨hp, rfl⟩⟩
/-- isinstance(x, T) of nested data -/
def okT (T : String) : Prop := T = "int" ∨ T = "bool" ∨ T = "tuple" ∨ T = "list" ∨ T = "str"
theorem ok_int : okT "int" := .inl rfl
theorem ok_bool : okT "bool" := .inr (.inl rfl)
theorem ok_tuple : okT "tuple" := .inr (.inr (.inl rfl))
theorem ok_list : okT "list" := .inr (.inr (.inr (.inl rfl)))
theorem ok_str : okT "str" := .inr (.inr (.inr (.inr rfl)))
def rIsD : List V → Hp → VK → Prop := fun xs H Q => ∃ v d T, xs = [v, .ty T] ∧ Da H v d ∧ okT T ∧ Q (.bl (instB d T)) H
theorem call_isD : CallR X (.builtin "isinstance") rIsD := callR_mono call_isi fun xs H Q h => by
  obtain ⟨v, d, T, rfl, hd, hT, q⟩ := h
  exact rIsi_da (Same.refl H) hd hT q
section
variable {e : Expr} {te : L2.St → Hp → (Int → Int → Hp → Prop) → Prop}
theorem lstRg_eq (te : L2.St → Hp → (Int → Int → Hp → Prop) → Prop) : tLstRgN te = tLstRg te := funext fun σ => funext fun H => funext fun Q =>
  congrArg (te σ H) (funext fun a => funext fun b => funext fun H1 => propext (and_congr_right fun _ => newAll (K := fun p H2 => Q (.ref p) H2)))
theorem pe_listRgN {p pos : Pos} (hc : X.calm = true) (hg : Gl X "list") (hm : X.mg "list" = none) (he : PRg X e te) (na : starEach [e] X.env = (false, eval e X.env) :: starEach [] X.env := by rfl) :
    PE X (.Call (.Name "list" p) [e] [] pos) (tLstRgN te) := by
  rw [lstRg_eq]
  exact pe_listRg hc hg hm he na
end
/-- is, is not: nested data against True, False -/
def rIsBD : R2 := fun x y H Q => ∃ d b, Da H x d ∧ y = .bl b ∧ Q (.bl (decide (x = .bl b))) H
theorem plain_bl {H : Hp} {x : V} {d : PyData} {v : Value} {b : Bool} (h : Da H x d) (r : RelV x v) : plainIs v (.bool b) = true := by
  cases h with
  | non => cases r; rfl
  | bl c => cases r; rfl
  | int i => obtain ⟨t, rfl⟩ := r; rfl
  | str i => obtain ⟨t, rfl⟩ := r; rfl
  | lst a c => cases r; rfl
  | tup a c => cases r; rfl
theorem rel_bl {H : Hp} {x : V} {d : PyData} {v : Value} {b : Bool} (h : Da H x d) (r : RelV x v) : v = .bool b ↔ x = .bl b := by
  cases h with
  | non => cases r; exact ⟨(fun z => nomatch z), (fun z => nomatch z)⟩
  | bl c => cases r; exact ⟨fun z => by cases z; rfl, fun z => by cases z; rfl⟩
  | int i => obtain ⟨t, rfl⟩ := r; exact ⟨(fun z => nomatch z), (fun z => nomatch z)⟩
  | str i => obtain ⟨t, rfl⟩ := r; exact ⟨(fun z => nomatch z), (fun z => nomatch z)⟩
  | lst a c => cases r; exact ⟨(fun z => nomatch z), (fun z => nomatch z)⟩
  | tup a c => cases r; exact ⟨(fun z => nomatch z), (fun z => nomatch z)⟩
theorem op_isBD : OpR X (compareOp .Is) rIsBD := by
  intro pins s σ H x y v u Q I rx ry h
  obtain ⟨d, b, hd, rfl, q⟩ := h
  cases (show u = Value.bool b from ry)
  have q' : Q (.bl (decide (x = .bl b))) H := q
  by_cases e : x = .bl b
  · have ev := (rel_bl hd rx).mpr e
    subst ev
    rw [decide_eq_true e] at q'
    exact wpAny_is_self (by rfl) ⟨.bl true, H, I, rfl, q'⟩
  · rw [decide_eq_false e] at q'
    exact wpAny_is_other (plain_bl hd rx) (fun z => e ((rel_bl hd rx).mp z)) ⟨.bl false, H, I, rfl, q'⟩
/-! ### sorted of a tuple of ints -/
section
variable {prog : Program} {w : World} {A : Around} {E : Value → Shared → Prop} {s : Shared}
end
end
end Hd

namespace Hd
open PySem PySem.Spec PyProof.Rows L2
/-! ### the store of draws -/
structure Sr where
  a : Addr
  c : Addr
  ns : List Int
def StOk (S : Sr) (H : Hp) : Prop := ∃ i1 i2 i3 i4 i5 i6 : Int, H S.a = some (.lst [.ref S.c, .int i1, .int i2, .int i3, .int i4, .int i5, .int i6]) ∧ H S.c = some (.lst (S.ns.map V.int)) ∧ 0 ≤ i1
theorem StOk.ca {S : Sr} {H : Hp} (h : StOk S H) : S.c ≠ S.a := by
  obtain ⟨i1, i2, i3, i4, i5, i6, h1, h2, _⟩ := h
  intro e
  rw [e, h1] at h2
  have := HO.lst.inj (Option.some.inj h2)
  cases hn : S.ns with
  | nil => rw [hn] at this; cases this
  | cons x r => rw [hn] at this; cases this
structure Wd (S : Sr) (G H : Hp) : Prop where
  gh : Same G H
  gs : G S.a = none
  st : StOk S H
structure Go (S : Sr) (G H G' H' : Hp) : Prop where
  s : Stp S.a G H G' H'
  w0 : Wd S G H
  st : StOk S H'
section
variable {S : Sr} {G H G1 H1 G2 H2 : Hp}
theorem StOk.na (h : StOk S H) : H S.a ≠ none := by
  obtain ⟨i1, i2, i3, i4, i5, i6, h1, h2, _⟩ := h
  exact ne_none h1
theorem StOk.nc (h : StOk S H) : H S.c ≠ none := by
  obtain ⟨i1, i2, i3, i4, i5, i6, h1, h2, _⟩ := h
  exact ne_none h2
theorem StOk.up (h : StOk S H) (g : Same H H1) : StOk S H1 := by
  obtain ⟨i1, i2, i3, i4, i5, i6, h1, h2, z⟩ := h
  exact ⟨i1, i2, i3, i4, i5, i6, g _ _ h1, g _ _ h2, z⟩
theorem Go.wd (s : Go S G H G1 H1) : Wd S G1 H1 := ⟨s.s.gh, by
  obtain ⟨i1, i2, i3, i4, i5, i6, h1, h2, _⟩ := s.w0.st
  exact s.s.nw _ _ h1 rfl s.w0.gs, s.st⟩
theorem Go.refl (w : Wd S G H) : Go S G H G H := ⟨.refl w.gh, w, w.st⟩
theorem Go.trans (a : Go S G H G1 H1) (b : Go S G1 H1 G2 H2) : Go S G H G2 H2 := ⟨a.s.trans b.s, a.w0, b.st⟩
theorem Go.q (a : Go S G H G1 H1) (b : Stq G1 H1 G2 H2) : Go S G H G2 H2 := ⟨a.s.q b, a.w0, a.st.up b.hh⟩
theorem Go.gg (a : Go S G H G1 H1) : Same G G1 := a.s.gg
theorem Go.gh (a : Go S G H G1 H1) : Same G1 H1 := a.s.gh
theorem Go.hh (a : Go S G H G1 H1) {b : Addr} {o : HO} (h : H b = some o) (n : b ≠ S.a) : H1 b = some o := a.s.hh b o n h
theorem Go.nw (a : Go S G H G1 H1) {b : Addr} {o : HO} (h : H b = some o) (g : G b = none) (t : isT o = false := by rfl) : G1 b = none := a.s.nw b o h t g
theorem Go.know {p : Addr} {o : HO} (a : Go S G H G1 H1) (n : New H1 p o H2) : ∃ G2, Go S G H G2 H2 ∧ Same G1 G2 ∧ G2 p = some o ∧ ∀ b, b ≠ p → G2 b = G1 b := by
  obtain ⟨G2, s, e, k⟩ := Stq.know a.gh n
  exact ⟨G2, a.q s, s.gg, e, k⟩
theorem Go.fresh {p : Addr} (a : Go S G H G1 H1) (n : H1 p = none) : H p = none := by
  cases e : H p with
  | none => rfl
  | some o =>
    obtain ⟨o', h, _⟩ := a.s.al p o e
    rw [n] at h
    cases h
theorem Go.loc {p : Addr} {o : HO} (a : Go S G H G1 H1) (n : New H1 p o H2) : Go S G H G1 H2 ∧ G1 p = none ∧ H2 p = some o ∧ H p = none := by
  obtain ⟨s, g, e⟩ := Stq.loc a.gh n
  exact ⟨a.q s, g, e, a.fresh n.fr⟩
theorem Go.mut {l : Addr} {o : HO} (a : Go S G H G1 H1) (g : G1 l = none) (f : H l = none) (e : H2 = upd H1 l o) : Go S G H G1 H2 := by
  refine ⟨a.s.mut g f e, a.w0, ?_⟩
  have n1 : S.a ≠ l := fun q => a.w0.st.na (by rw [q]; exact f)
  have n2 : S.c ≠ l := fun q => a.w0.st.nc (by rw [q]; exact f)
  subst e
  obtain ⟨i1, i2, i3, i4, i5, i6, h1, h2, z⟩ := a.st
  exact ⟨i1, i2, i3, i4, i5, i6, by rw [upd_ne n1]; exact h1, by rw [upd_ne n2]; exact h2, z⟩
theorem Go.put {i1 i2 i3 i4 i5 i6 : Int} (a : Go S G H G1 H1) (e : H2 = upd H1 S.a (.lst [.ref S.c, .int i1, .int i2, .int i3, .int i4, .int i5, .int i6])) (z : 0 ≤ i1) : Go S G H G1 H2 := by
  have gs := a.wd.gs
  subst e
  refine ⟨⟨a.s.gg, fun b u h => ?_, a.s.nw, fun b u n h => ?_, fun b u h => ?_⟩, a.w0, ?_⟩
  · rw [upd_ne (ne_of_none h gs)]
    exact a.s.gh _ _ h
  · rw [upd_ne n]
    exact a.s.hh b u n h
  · by_cases q : b = S.a
    · rw [q, upd_same]
      exact ⟨_, rfl, fun _ => rfl⟩
    · rw [upd_ne q]
      exact a.s.al b u h
  · obtain ⟨j1, j2, j3, j4, j5, j6, h1, h2, _⟩ := a.st
    exact ⟨i1, i2, i3, i4, i5, i6, upd_same, by rw [upd_ne a.st.ca]; exact h2, z⟩
theorem Go.frz {l : Addr} {o : HO} (a : Go S G H G1 H1) (g : G1 l = none) (f : H l = none) (h : H1 l = some o) : ∃ G2, Go S G H G2 H1 ∧ Same G1 G2 ∧ G2 l = some o ∧ ∀ b, b ≠ l → G2 b = G1 b := by
  obtain ⟨G2, s, e, k, u⟩ := a.s.frz (l := l) g f h
  exact ⟨G2, ⟨s, a.w0, a.st⟩, e, k, u⟩
theorem Go.ns (a : Go S G H G1 H1) {l : Addr} (f : H l = none) : l ≠ S.a := fun q => a.w0.st.na (by rw [← q]; exact f)
theorem Wd.ne (w : Wd S G H) {b : Addr} {o : HO} (h : G b = some o) : b ≠ S.a := fun q => by
  rw [q, w.gs] at h
  cases h
end
theorem upd_at {H H2 : Hp} {l : Addr} {o : HO} (e : H2 = upd H l o) : H2 l = some o := by rw [e]; exact upd_same
theorem upd_else {H H2 : Hp} {l b : Addr} {o u : HO} (e : H2 = upd H l o) (h : H b = some u) (n : b ≠ l) : H2 b = some u := by rw [e, upd_ne n]; exact h
theorem New.else {H H2 : Hp} {p b : Addr} {o u : HO} (n : New H p o H2) (h : H b = some u) : H2 b = some u := n.same _ _ h
theorem dec_of {p : Prop} [Decidable p] (h : decide p = true) : p := of_decide_eq_true h
theorem dec_not {p : Prop} [Decidable p] (h : ¬ decide p = true) : ¬ p := fun q => h (decide_eq_true q)
/-! ### promises of the draws -/
def spMixed : Sp := fun vs H Q _ => ∃ a b : Int, vs = [.int a, .int b] ∧ ∀ r : Int, Q (.int r) H
def spTake : Sp := fun vs H Q _ => ∃ (S : Sr) (G : Hp) (n : Int), vs = [.ref S.a, .int n] ∧ Wd S G H ∧ n < 1073741824 ∧ ∀ (d : Int) (H' : Hp), 0 ≤ d → (d < n ∨ (n < 1 ∧ d = 0)) → Go S G H G H' → Q (.int d) H'
/-- a sequence of known items -/
def SeqV (H : Hp) (S : Sr) (v : V) (xs : List V) : Prop :=
  (∃ a, v = .ref a ∧ a ≠ S.a ∧ H a = some (.lst xs)) ∨ (∃ a, v = .ref a ∧ a ≠ S.a ∧ H a = some (.tup xs)) ∨ ∃ z : Str, v = .str z ∧ z.length ≤ 1000000 ∧ xs = z.cps.toList.map fun c => V.str ⟨#[c]⟩
def spPick : Sp := fun vs H Q _ => ∃ (S : Sr) (G : Hp) (v : V) (xs : List V), vs = [.ref S.a, v] ∧ Wd S G H ∧ SeqV H S v xs ∧ 0 < xs.length ∧ xs.length < 1000000 ∧ ∀ (x : V) (H' : Hp), x ∈ xs → Go S G H G H' → Q x H'
def spPlace : Sp := fun vs H Q _ => ∃ (S : Sr) (G : Hp) (n : Int), vs = [.ref S.a, .int n] ∧ Wd S G H ∧ 1 ≤ n ∧ n < 1073741824 ∧ ∀ (d : Int) (H' : Hp), 0 ≤ d → d < n → Go S G H G H' → Q (.int d) H'
end Hd

namespace Hd
open PySem PySem.Spec PyProof.Rows L2
theorem at_int {xs : List V} {d : Int} (h0 : 0 ≤ d) (h1 : d < (xs.length : Nat)) : ∃ x, xs[d.toNat]? = some x ∧ atI xs d = some x ∧ x ∈ xs := by
  have k : d.toNat < xs.length := by omega
  have e : xs[d.toNat]? = some xs[d.toNat] := List.getElem?_eq_getElem k
  refine ⟨xs[d.toNat], e, ?_, List.getElem_mem k⟩
  have q := atI_nat e
  rwa [show ((d.toNat : Nat) : Int) = d by omega] at q
theorem at_str {z : Str} {d : Int} (h0 : 0 ≤ d) (h1 : d < (z.length : Nat)) : ∃ c, atI z.cps.toList d = some c ∧ z.cps.toList[d.toNat]? = some c := by
  have hl : z.cps.toList.length = z.length := Array.length_toList
  have k : d.toNat < z.cps.toList.length := by omega
  have e : z.cps.toList[d.toNat]? = some z.cps.toList[d.toNat] := List.getElem?_eq_getElem k
  refine ⟨_, ?_, e⟩
  have q := atI_nat e
  rwa [show ((d.toNat : Nat) : Int) = d by omega] at q
theorem ln {n : Nat} (h : n ≤ 1000000) : n ≤ sizeLine := Nat.le_trans h (by decide)
theorem lt {n : Nat} (h : n < 1000000) : n < sizeLine := Nat.lt_of_lt_of_le h (by decide)
/-! ### sizes of nested data -/
mutual
def szD : PyData → Nat
  | .list ds => 1 + szL ds
  | .tuple ds => 1 + szL ds
  | .str x => 1 + x.length
  | _ => 1
def szL : List PyData → Nat
  | [] => 0
  | d :: ds => szD d + szL ds
end
theorem szD_pos : ∀ d, 1 ≤ szD d
  | .none => Nat.le_refl _
  | .bool _ => Nat.le_refl _
  | .int _ => Nat.le_refl _
  | .str _ => by unfold szD; omega
  | .list ds => by unfold szD; omega
  | .tuple ds => by unfold szD; omega
  | .dict _ => Nat.le_refl _
theorem szL_len : ∀ (a : List PyData), a.length ≤ szL a
  | [] => Nat.zero_le _
  | d :: a => by
    have := szL_len a
    have := szD_pos d
    show a.length + 1 ≤ szD d + szL a
    omega
theorem szL_get : ∀ {a : List PyData} {i : Nat} {d : PyData}, a[i]? = some d → szD d ≤ szL a
  | [], i, d, h => by simp at h
  | x :: a, 0, d, h => by
    have e := Option.some.inj h
    subst e
    show szD _ ≤ szD _ + szL a
    omega
  | x :: a, i + 1, d, h => by
    have := szL_get (a := a) (i := i) h
    show szD d ≤ szD x + szL a
    omega
/-! ### lists of nested data -/
section
variable {G : Hp}
theorem DaAll.append : ∀ {vs ws : List V} {ds es : List PyData}, DaAll G vs ds → DaAll G ws es → DaAll G (vs ++ ws) (ds ++ es)
  | [], ws, _, es, h, k => by cases h; exact k
  | v :: vs, ws, _, es, h, k => by
    cases h with
    | cons a b => exact .cons a (DaAll.append b k)
theorem DaAll.take : ∀ (n : Nat) {vs : List V} {ds : List PyData}, DaAll G vs ds → DaAll G (vs.take n) (ds.take n)
  | 0, _, _, h => by
    rw [List.take_zero, List.take_zero]
    exact .nil
  | n + 1, [], _, h => by cases h; exact .nil
  | n + 1, v :: vs, _, h => by
    cases h with
    | cons a b => exact .cons a (DaAll.take n b)
theorem DaAll.drop : ∀ (n : Nat) {vs : List V} {ds : List PyData}, DaAll G vs ds → DaAll G (vs.drop n) (ds.drop n)
  | 0, _, _, h => h
  | n + 1, [], _, h => by cases h; exact .nil
  | n + 1, v :: vs, _, h => by
    cases h with
    | cons a b => exact DaAll.drop n b
theorem DaAll.set {v : V} {d : PyData} (k : Da G v d) : ∀ (n : Nat) {vs : List V} {ds : List PyData}, DaAll G vs ds → DaAll G (vs.set n v) (ds.set n d)
  | _, [], _, h => by cases h; exact .nil
  | 0, _ :: _, _, h => by
    cases h with
    | cons a b => exact .cons k b
  | n + 1, _ :: _, _, h => by
    cases h with
    | cons a b => exact .cons a (DaAll.set k n b)
theorem DaAll.one {v : V} {d : PyData} (k : Da G v d) : DaAll G [v] [d] := .cons k .nil
theorem DaAll.ints : ∀ (ns : List Int), DaAll G (ns.map V.int) (ns.map PyData.int)
  | [] => .nil
  | n :: ns => .cons (.int n) (DaAll.ints ns)
theorem DaAll.reverse {vs : List V} {ds : List PyData} (h : DaAll G vs ds) : DaAll G vs.reverse ds.reverse := by
  induction vs generalizing ds with
  | nil => cases h; exact .nil
  | cons v vs ih =>
    cases h with
    | cons a b =>
      rw [List.reverse_cons, List.reverse_cons]
      exact (ih b).append (.one a)
end
theorem szL_ints : ∀ (ns : List Int), szL (ns.map PyData.int) = ns.length
  | [] => rfl
  | n :: ns => by
    show 1 + szL (ns.map PyData.int) = ns.length + 1
    rw [szL_ints ns]
    omega
/-! ### leaves -/
inductive Leaf : V → PyData → Prop
  | non : Leaf .non .none
  | bl (b : Bool) : Leaf (.bl b) (.bool b)
  | int (i : Int) : Leaf (.int i) (.int i)
  | str (x : Str) : x.length ≤ 100 → Leaf (.str x) (.str x)
theorem Leaf.da {G : Hp} {v : V} {d : PyData} (h : Leaf v d) : Da G v d := by
  cases h with
  | non => exact .non
  | bl b => exact .bl b
  | int i => exact .int i
  | str x _ => exact .str x
theorem Leaf.sz {v : V} {d : PyData} (h : Leaf v d) : szD d ≤ 101 := by
  cases h with
  | str x hx => unfold szD; omega
  | _ => show 1 ≤ 101; decide
/-! ### texts -/
theorem yesT {σ : L2.St} {H : Hp} {A B : Hp → Prop} (h : A H) : tYes σ H (fun b H3 => if b = true then A H3 else B H3) := iteT (B := B H) h
/-! ### promises -/
abbrev HasL (H : Hp) (a : Addr) (xs : List V) : Prop := H a = some (.lst xs) ∨ H a = some (.tup xs)
theorem HasL.len {K : PySem.W.Frag} {H : Hp} {a : Addr} {xs : List V} (h : HasL H a xs) : SqL K H a xs ∨ SqT K H a xs := h.elim (fun h => .inl (.of h)) (fun h => .inr (.of h))
def spEither : Sp := fun vs H Q _ => ∃ (S : Sr) (G : Hp) (a : Addr) (xs : List V), vs = [.ref S.a, .ref a] ∧ Wd S G H ∧ a ≠ S.a ∧ H a = some (.lst xs) ∧
  ∀ (p : Addr) (b : Bool) (H' : Hp), Go S G H G H' → G p = none → H p = none → H' p = some (if b then .tup xs else .lst xs) → Q (.ref p) H'
/-- a tuple of whole numbers, a move on n points -/
def IsMv (ns : List Int) (n : Int) : Prop := ns.Perm ((List.range n.toNat).map fun (i : Nat) => (i : Int))
end Hd

namespace Hd
open PySem PySem.Spec PyProof.Rows L2
/-! ### equal data -/
mutual
def sameD : PyData → PyData → Bool
  | .none, .none => true
  | .bool a, .bool b => decide (a = b)
  | .int a, .int b => decide (a = b)
  | .str a, .str b => decide (a = b)
  | .list a, .list b => sameL a b
  | .tuple a, .tuple b => sameL a b
  | _, _ => false
def sameL : List PyData → List PyData → Bool
  | [], [] => true
  | x :: a, y :: b => sameD x y && sameL a b
  | _, _ => false
end
def noDict : PyData → Bool
  | .dict _ => false
  | _ => true
mutual
theorem sameD_self {G : Hp} : ∀ (d : PyData) (v : V), Da G v d → sameD d d = true
  | .none, _, _ => rfl
  | .bool a, _, _ => decide_eq_true rfl
  | .int a, _, _ => decide_eq_true rfl
  | .str a, _, _ => decide_eq_true rfl
  | .list a, _, h => by
    cases h with
    | lst h1 h2 => exact sameL_self a _ h2
  | .tuple a, _, h => by
    cases h with
    | tup h1 h2 => exact sameL_self a _ h2
  | .dict _, _, h => by cases h
theorem sameL_self {G : Hp} : ∀ (ds : List PyData) (vs : List V), DaAll G vs ds → sameL ds ds = true
  | [], _, _ => rfl
  | d :: ds, _, h => by
    cases h with
    | cons a b =>
      show (sameD d d && sameL ds ds) = true
      rw [sameD_self d _ a, sameL_self ds _ b]
      rfl
end
section
variable {G : Hp} {v w : V} {d e : PyData}
end
theorem ib_none_int  : instB PyData.none "int" = false := by simp [instB, tyD]
theorem ib_bool_int (x : Bool) : instB (.bool x) "int" = true := by simp [instB, tyD]
theorem ib_bool_bool (x : Bool) : instB (.bool x) "bool" = true := by simp [instB, tyD]
theorem ib_int_int (x : Int) : instB (.int x) "int" = true := by simp [instB, tyD]
theorem ib_int_bool (x : Int) : instB (.int x) "bool" = false := by simp [instB, tyD]
theorem ib_str_int (x : Str) : instB (.str x) "int" = false := by simp [instB, tyD]
theorem ib_str_str (x : Str) : instB (.str x) "str" = true := by simp [instB, tyD]
theorem ib_list_int (x : List PyData) : instB (.list x) "int" = false := by simp [instB, tyD]
theorem ib_list_tuple (x : List PyData) : instB (.list x) "tuple" = false := by simp [instB, tyD]
theorem ib_list_list (x : List PyData) : instB (.list x) "list" = true := by simp [instB, tyD]
theorem ib_tuple_int (x : List PyData) : instB (.tuple x) "int" = false := by simp [instB, tyD]
theorem ib_tuple_tuple (x : List PyData) : instB (.tuple x) "tuple" = true := by simp [instB, tyD]
theorem iteDT {c A B : Prop} [Decidable c] (h : c) (k : A) : if decide c = true then A else B := by rw [decide_eq_true h]; exact iteT k
theorem iteDF {c A B : Prop} [Decidable c] (h : ¬ c) (k : B) : if decide c = true then A else B := by rw [decide_eq_false h]; exact iteF k
theorem iteBT {b : Bool} {A B : Prop} (h : b = true) (k : A) : if b = true then A else B := by rw [h]; exact iteT k
theorem iteBF {b : Bool} {A B : Prop} (h : b = false) (k : B) : if b = true then A else B := by rw [h]; exact iteF k
theorem rIx_of {K : PySem.W.Frag} {H : Hp} {Q : VK} {a : Addr} {xs : List V} {i : Int} {x : V} (h : HasL H a xs) (e : atI xs i = some x) (q : Q x H) : rIx K (.ref a) (.int i) H Q :=
  h.elim (fun h => .inl ⟨a, xs, i, x, rfl, rfl, .of h, e, q⟩) (fun h => .inr (.inl ⟨a, xs, i, x, rfl, rfl, .of h, e, q⟩))
theorem HasL.lenV {K : PySem.W.Frag} {H : Hp} {a : Addr} {xs : List V} (h : HasL H a xs) : LenV K (.ref a) H xs.length := h.elim (fun h => .inl ⟨xs, .of h, rfl⟩) (fun h => .inr ⟨xs, .of h, rfl⟩)
theorem HasL.up {H H' : Hp} {a : Addr} {xs : List V} (h : HasL H a xs) (g : Same H H') : HasL H' a xs := h.elim (fun h => .inl (g _ _ h)) (fun h => .inr (g _ _ h))
theorem at_nat {xs : List V} {i : Nat} (h : i < xs.length) : ∃ x, xs[i]? = some x ∧ atI xs (0 + (i : Int)) = some x := by
  have e : xs[i]? = some xs[i] := List.getElem?_eq_getElem h
  refine ⟨xs[i], e, ?_⟩
  rw [Int.zero_add]
  exact atI_nat e
def sqD (t : Bool) (ds : List PyData) : PyData := if t then .tuple ds else .list ds
theorem sqD_sz (t : Bool) (ds : List PyData) : szD (sqD t ds) = 1 + szL ds := by cases t <;> rfl
theorem Da.kind {G : Hp} {v : V} {d : PyData} (h : Da G v d) : (v = .non ∧ d = .none) ∨ (∃ b, v = .bl b ∧ d = .bool b) ∨ (∃ i, v = .int i ∧ d = .int i) ∨ (∃ x, v = .str x ∧ d = .str x) ∨
    ∃ a xs ds t, v = .ref a ∧ HasL G a xs ∧ (t = true → G a = some (.tup xs)) ∧ (t = false → G a = some (.lst xs)) ∧ DaAll G xs ds ∧ d = sqD t ds := by
  cases h with
  | non => exact .inl ⟨rfl, rfl⟩
  | bl b => exact .inr (.inl ⟨b, rfl, rfl⟩)
  | int i => exact .inr (.inr (.inl ⟨i, rfl, rfl⟩))
  | str x => exact .inr (.inr (.inr (.inl ⟨x, rfl, rfl⟩)))
  | lst a b => exact .inr (.inr (.inr (.inr ⟨_, _, _, false, rfl, .inl a, (fun z => nomatch z), fun _ => a, b, rfl⟩)))
  | tup a b => exact .inr (.inr (.inr (.inr ⟨_, _, _, true, rfl, .inr a, fun _ => a, (fun z => nomatch z), b, rfl⟩)))
/-- pairs that are still to be compared -/
structure Pr where
  a : Addr
  v : V
  w : V
  d : PyData
  e : PyData
def PairAt (G H : Hp) (x : Pr) : Prop := H x.a = some (.tup [x.v, x.w]) ∧ Da G x.v x.d ∧ Da G x.w x.e
theorem PairAt.new {G H H' : Hp} {x : Pr} {p : Addr} {o : HO} (h : PairAt G H x) (n : New H p o H') : PairAt G H' x := ⟨n.else h.1, h.2⟩
theorem PairAt.put {G H H' : Hp} {x : Pr} {l : Addr} {xs ys : List V} (h : PairAt G H x) (hl : H l = some (.lst xs)) (e : H' = upd H l (.lst ys)) : PairAt G H' x := ⟨upd_else e h.1 (ne_of h.1 hl (by intro z; cases z)), h.2⟩
def spIsWhole : Sp := fun vs H Q _ => ∃ (v : V) (d : PyData), vs = [v] ∧ Da H v d ∧ Q (.bl (isI d)) H
theorem isI_inst (d : PyData) (h : noDict d = true) : (instB d "int" && !instB d "bool") = isI d := by
  cases d <;> first | rfl | cases h | decide +kernel
theorem Da.nd {G : Hp} {v : V} {d : PyData} (h : Da G v d) : noDict d = true := by cases h <;> rfl
end Hd

namespace Hd
open PySem PySem.Spec PyProof.Rows L2
/-! ### == of lists of ints -/
theorem DpAll.ints {K : PySem.W.Frag} {H : Hp} : ∀ (ns : List Int), DpAll K H (ns.map V.int) (ns.map PyData.int)
  | [] => .nil
  | n :: ns => .cons (.int n) (DpAll.ints ns)
theorem eqv_ints : ∀ (ns ms : List Int), PyData.eqvAll (ns.map PyData.int) (ms.map PyData.int) = decide (ns = ms)
  | [], [] => rfl
  | [], _ :: _ => rfl
  | _ :: _, [] => rfl
  | a :: ns, b :: ms => by
    show (PyData.eqv (.int a) (.int b) && PyData.eqvAll (ns.map PyData.int) (ms.map PyData.int)) = _
    rw [eqv_ints ns ms]
    show ((a == b) && decide (ns = ms)) = decide (a :: ns = b :: ms)
    by_cases h : a = b
    · subst h
      by_cases k : ns = ms
      · subst k; simp
      · simp [k]
    · simp [h]
def rEqLI (K : PySem.W.Frag) : R2 := fun x y H Q => ∃ (a b : Addr) (ns ms : List Int), x = .ref a ∧ y = .ref b ∧ SqL K H a (ns.map V.int) ∧ SqL K H b (ms.map V.int) ∧ Q (.bl (decide (ns = ms))) H
theorem op_eqLI {X : Cx} (hu : X.A.units + 64 < cLine) : OpR X (compareOp .Eq) (rEqLI X.K) := opR_mono (op_eqD hu) fun x y H Q h => by
  obtain ⟨a, b, ns, ms, rfl, rfl, ha, hb, q⟩ := h
  refine ⟨.list (ns.map .int), .list (ms.map .int), .lst ha (DpAll.ints ns), .lst hb (DpAll.ints ms), PySem.W.ke_shaped_ints ns, PySem.W.ke_shaped_ints ms, ?_⟩
  rw [PyData.eqv, eqv_ints]
  exact q
/-! ### steps without a store -/
section
variable {G H G1 H1 H2 : Hp} {p l : Addr} {o : HO}
theorem Stq.know2 (s : Stq G H G1 H1) (n : New H1 p o H2) : ∃ G2, Stq G H G2 H2 ∧ Same G1 G2 ∧ G2 p = some o ∧ ∀ b, b ≠ p → G2 b = G1 b := by
  obtain ⟨G2, t, e, k⟩ := Stq.know s.gh n
  exact ⟨G2, s.trans t, t.gg, e, k⟩
end
/-! ### what frozen says -/
def frz : Nat → PyData → PyData
  | k + 1, .list ds => .tuple [.str "list", .tuple (ds.map (frz k))]
  | k + 1, .tuple ds => .tuple [.str "tuple", .tuple (ds.map (frz k))]
  | _, d => d
/-! ### what counted says -/
/-! ### what is_move says -/
def isNum (d : PyData) (lo hi : Int) : Bool := match d with
  | .int i => decide (lo ≤ i) && decide (i ≤ hi)
  | _ => false
def spIsNum : Sp := fun vs H Q _ => ∃ v d lo hi, vs = [v, .int lo, .int hi] ∧ Da H v d ∧ Q (.bl (isNum d lo hi)) H
end Hd

namespace Hd
open PySem PySem.Spec PyProof.Rows L2
def rngI (n : Int) : List Int := (List.range n.toNat).map fun (i : Nat) => (i : Int)
theorem rngI_len (n : Int) : (rngI n).length = n.toNat := by unfold rngI; rw [List.length_map, List.length_range]
theorem rngI_mem {n k : Int} : k ∈ rngI n ↔ 0 ≤ k ∧ k < n := by
  unfold rngI
  rw [List.mem_map]
  constructor
  · rintro ⟨i, hi, rfl⟩
    have := List.mem_range.mp hi
    omega
  · intro h
    exact ⟨k.toNat, List.mem_range.mpr (by omega), by omega⟩
theorem vals_int {G : Hp} : ∀ {xs : List V} {ns : List Int}, DaAll G xs (ns.map PyData.int) → xs = ns.map V.int
  | [], [], _ => rfl
  | [], _ :: _, h => by cases h
  | _ :: _, [], h => by cases h
  | x :: xs, n :: ns, h => by
    cases h with
    | cons a b =>
      cases a
      rw [vals_int (ns := ns) b]
      rfl
end Hd

namespace L2
open PySem PySem.Spec PyProof.Rows
end L2
namespace Hd
open PySem PySem.Spec PyProof.Rows L2
/-! ### xs[::-1] -/
section
variable {X : Cx}
end
end Hd

namespace Hd
open PySem PySem.Spec PyProof.Rows L2
/-! ### moves -/
theorem IsMv.len {ns : List Int} {n : Int} (h : IsMv ns n) : ns.length = n.toNat := by
  have := List.Perm.length_eq h
  rwa [show ((List.range n.toNat).map fun (i : Nat) => (i : Int)) = rngI n from rfl, rngI_len] at this
theorem IsMv.mem {ns : List Int} {n : Int} (h : IsMv ns n) {x : Int} : x ∈ ns ↔ 0 ≤ x ∧ x < n := (List.Perm.mem_iff h).trans rngI_mem
def intV : V → Int
  | .int i => i
  | _ => 0
theorem map_intV (ns : List Int) : (ns.map V.int).map intV = ns := by
  rw [List.map_map]
  exact List.map_id'' (fun _ => rfl) _
/-- the ring of the points rs on n points, the first i of them set -/
def Ring (n : Nat) (rs : List Int) (i : Nat) (L : List Int) : Prop :=
  L.length = n ∧ (∀ j r, j < i → rs[j]? = some r → ∃ t, rs[(j + 1) % rs.length]? = some t ∧ L[r.toNat]? = some t) ∧
    ∀ x : Nat, x < n → (∀ j, j < i → rs[j]? ≠ some (x : Int)) → L[x]? = some (x : Int)
theorem Ring.start (n : Int) (rs : List Int) : Ring n.toNat rs 0 (rngI n) := by
  refine ⟨rngI_len n, fun j r h => absurd h (Nat.not_lt_zero _), fun x hx _ => ?_⟩
  unfold rngI
  rw [List.getElem?_map, List.getElem?_range hx]
  rfl
theorem Ring.step {n : Nat} {rs : List Int} {i : Nat} {L : List Int} {r t : Int} (h : Ring n rs i L) (nd : rs.Nodup) (hb : ∀ x ∈ rs, 0 ≤ x ∧ x < (n : Int)) (hr : rs[i]? = some r) (ht : rs[(i + 1) % rs.length]? = some t) : Ring n rs (i + 1) (L.set r.toNat t) := by
  obtain ⟨h1, h2, h3⟩ := h
  have br := hb r (List.mem_of_getElem? hr)
  refine ⟨by rw [List.length_set]; exact h1, fun j q hj hq => ?_, fun x hx hno => ?_⟩
  · by_cases e : j = i
    · subst e
      rw [hr] at hq
      cases hq
      exact ⟨t, ht, List.getElem?_set_self (by omega)⟩
    · obtain ⟨u, f1, f2⟩ := h2 j q (by omega) hq
      refine ⟨u, f1, ?_⟩
      have bq := hb q (List.mem_of_getElem? hq)
      have ne : r ≠ q := fun z => by
        subst z
        obtain ⟨a1, a2⟩ := List.getElem?_eq_some_iff.mp hr
        obtain ⟨b1, b2⟩ := List.getElem?_eq_some_iff.mp hq
        exact e ((List.getElem_inj nd).mp (b2.trans a2.symm))
      rw [List.getElem?_set_ne (by omega)]
      exact f2
  · have ne : (x : Int) ≠ r := fun z => hno i (by omega) (by rw [z]; exact hr)
    rw [List.getElem?_set_ne (by omega)]
    exact h3 x hx fun j hj => hno j (by omega)
end Hd

namespace Hd
open PySem PySem.Spec PyProof.Rows L2
/-- a value without parts -/
def Flat (v : V) (d : PyData) : Prop := (v = .non ∧ d = .none) ∨ (∃ b, v = .bl b ∧ d = .bool b) ∨ (∃ i, v = .int i ∧ d = .int i) ∨ ∃ x, v = .str x ∧ d = .str x
theorem Flat.da {G : Hp} {v : V} {d : PyData} (h : Flat v d) : Da G v d := by
  rcases h with ⟨rfl, rfl⟩ | ⟨b, rfl, rfl⟩ | ⟨i, rfl, rfl⟩ | ⟨x, rfl, rfl⟩
  · exact .non
  · exact .bl b
  · exact .int i
  · exact .str x
def cutD (ds : List PyData) (lo hi : Option Int) : List PyData := (ds.drop (HT.sIx ds.length 0 lo)).take (HT.sIx ds.length ds.length hi - HT.sIx ds.length 0 lo)
theorem DaAll.cut {G : Hp} {xs : List V} {ds : List PyData} (h : DaAll G xs ds) (lo hi : Option Int) : DaAll G (cutV xs lo hi) (cutD ds lo hi) := by
  unfold cutV cutD
  rw [h.length]
  exact (h.drop _).take _
/-- a container on the way down: its object, its items, their data, its kind, the place that is gone to; and the tuple that keeps it -/
structure Pth where
  tp : Addr
  a : Addr
  xs : List V
  ds : List PyData
  t : Bool
  i : Nat
def PthAt (G : Hp) (p : Pth) : Prop := G p.tp = some (.tup [.ref p.a, .int (p.i : Int)]) ∧ G p.a = some (if p.t then .tup p.xs else .lst p.xs) ∧ DaAll G p.xs p.ds ∧ p.i < p.xs.length
theorem PthAt.up {G G' : Hp} {p : Pth} (h : PthAt G p) (g : Same G G') : PthAt G' p := ⟨g _ _ h.1, g _ _ h.2.1, h.2.2.1.up g, h.2.2.2⟩
theorem hasL_if {G : Hp} {a : Addr} {t : Bool} {xs : List V} (h : G a = some (if t then HO.tup xs else HO.lst xs)) : HasL G a xs := by
  cases t with
  | true => exact .inr h
  | false => exact .inl h
theorem Da.ints {G : Hp} {p : Addr} {ns : List Int} (h : G p = some (.tup (ns.map V.int))) : Da G (.ref p) (.tuple (ns.map PyData.int)) := .tup h (DaAll.ints ns)
theorem sz_ints (ns : List Int) : szD (.tuple (ns.map PyData.int)) = 1 + ns.length := by
  show 1 + szL _ = _
  rw [szL_ints]
theorem Go.pure {S : Sr} {G H G1 H1 H2 : Hp} (a : Go S G H G1 H1) (g : Same H1 H2) : Go S G H G1 H2 := a.q ⟨Same.refl _, a.gh.trans g, fun _ _ _ _ h => h, g⟩
def spStore (K : PySem.W.Frag) : Sp := fun vs H Q _ => ∃ (a : Addr) (ns : List Int), vs = [.ref a] ∧ SqL K H a (ns.map V.int) ∧ ns.length ≤ 63 ∧ ∀ (S : Sr) (H' : Hp), Wd S H H' → Q (.ref S.a) H'
def spLaw (K : PySem.W.Frag) : Sp := fun vs H Q _ => ∃ (a : Addr) (ns : List Int), vs = [.ref a] ∧ SqL K H a (ns.map V.int) ∧ ns.length ≤ 63 ∧ ∀ H', Q (.bl true) H'
theorem spLaw_of {K : PySem.W.Frag} {H : Hp} {a : Addr} {ns : List Int} (hl : ns.length ≤ 63) (hS : SqL K H a (ns.map V.int)) : spLaw K [.ref a] H (fun v _ => v = .bl true) fun _ _ _ => False := ⟨a, ns, rfl, hS, hl, fun _ => rfl⟩
theorem cut_all {xs : List V} {n : Nat} (h : xs.length ≤ n) : cutV xs none (some (n : Int)) = xs := by
  unfold cutV
  rw [show HT.sIx xs.length xs.length (some (n : Int)) = min n xs.length from HT.sIx_nat xs.length xs.length n, HT.sIx_none, List.drop_zero, Nat.sub_zero, Nat.min_eq_right h]
  exact List.take_length
end Hd

namespace Hd
open PySem PySem.Spec PyProof.Rows L2

/-! ### the end of a walk while an exception is handled -/
section
variable {prog : Program} {w : World} {A : Around} {s : Shared}
theorem stop_raised {α : Type} {x1 : Addr} {Q : α → Shared → Prop} {E : Value → Shared → Prop} (hot : HotX.HotAt A x1 s.heap)
    (out : ∀ (a : Addr) (o : Obj) (g : Heap), g.get? a = some o → o.cls = .type "StopIteration" → (∀ b u, s.heap.get? b = some u → g.get? b = some u) → E (.ref a) { s with heap := g }) :
    wpAny (model prog w) A (newExc (.type "StopIteration") [] >>= fun e => (raiseNew e : Sem α)) Q E s := by
  obtain ⟨hd, o1, v1, g1, k1, c1⟩ := hot
  have up : ∀ {b : Addr} {u : Obj} {t r : Obj}, s.heap.get? b = some u → ((s.heap.push t).push r).get? b = some u := fun z => Heap.get?_push_of_some _ (Heap.get?_push_of_some _ z)
  apply wpAny_bind
  simp only [newExc, newTuple]
  apply wpAny_bind
  apply wpAny_newObj_type
  · apply wpAny_bind (m := firstArgMember _ _)
    refine wpAny_of_eq (a := Value.none) (by first | rfl | (simp only [firstArgMember]; rfl)) ?_
    apply wpAny_newObj_type
    · refine HotX.raiseNew_hot ⟨hd, o1, v1, up g1, k1, c1⟩ (Nat.ne_of_lt (Heap.lt_size (Heap.get?_push_of_some _ g1))) (Heap.get?_push_size _ rfl) rfl (by first | (simp; done) | (simp; omega)) ?_
      refine out _ _ _ (Heap.get?_update_self _ (Heap.get?_push_size _ rfl) rfl) rfl fun b u z => ?_
      rw [Heap.get?_update_other _ _ (Nat.ne_of_gt (Heap.lt_size (Heap.get?_push_of_some _ z)))]
      exact up z
    · size_fits
  · size_fits
theorem upd_hot {x1 it : Addr} {g : Obj → Obj} (n : x1 ≠ it) (c : HotX.HotAt A x1 s.heap) : HotX.HotAt A x1 (s.heap.update it g) := by
  obtain ⟨hd, o1, v1, g1, r⟩ := c
  exact ⟨hd, o1, v1, (Heap.get?_update_other _ _ (Ne.symm n)).trans g1, r⟩
theorem listEnd_hot {it l x1 : Addr} {i : Nat} {items : Array Value} {Q : Option Value → Shared → Prop} {E : Value → Shared → Prop} (hot : HotX.HotAt A x1 s.heap) (n : x1 ≠ it) (hit : s.heap.IsListIter it l i)
    (hl : s.heap.IsList l items) (hx : items[i]? = none) (hQ : ∀ g, Heap.ExtBut it s.heap g → Q none { s with heap := g }) : wpAny (model prog w) A (pyNext (.ref it)) Q E s := by
  have T := Heap.IsListIter.typeIs hit
  obtain ⟨oi, gi, ci, di⟩ := hit
  obtain ⟨ol, gl, cl, nl, dl⟩ := hl
  unfold pyNext
  apply wpAny_bind
  apply wpAny_attempt
  refine wpAny_callSpecial?_slot (name := Str.ofString "__next__") T slot_listiter_next ?_
  refine wpAny_call_entry slot_listiter_next T entry_listiter_next ?_ (args_listiter_next _)
  change wpAny _ _ (field (Value.ref it) 0 >>= _) _ _ _
  refine wpAny_bind (wpAny_field gi di (x := Value.ref l) rfl ?_)
  change wpAny _ _ (ite ((Value.ref l == Value.none) = true) _ _) _ _ _
  rw [if_neg (show ¬((Value.ref l == Value.none) = true) from fun z => Bool.noConfusion z)]
  change wpAny _ _ (field (Value.ref it) 1 >>= _) _ _ _
  refine wpAny_bind (wpAny_field gi di (x := Value.int i 0) rfl ?_)
  change wpAny _ _ (seqItems? (Value.ref l) >>= _) _ _ _
  refine wpAny_bind (wpAny_seqItems gl dl ?_)
  simp only [hx, Int.toNat_natCast]
  refine wpAny_bind (wpAny_rule (wpAny_bind (wpAny_setField gi di (by simp) ?_)))
  refine stop_raised (upd_hot (g := _) n hot : HotX.HotAt A x1 _) fun a o g go co k => ?_
  refine wpAny_bind (wpAny_isInstance (b := true) (T := "StopIteration") ⟨o, go, co⟩ isSubtype_stop (wpAny_pure (hQ g fun b u hb z => ?_)))
  exact k b u ((Heap.get?_update_other _ _ (Ne.symm hb)).trans z)
end
/-! ### walks over lists and tuples there -/
section
variable {P : Program} {w : World} {K : PySem.W.Frag} {tg : Expr}
theorem HotC.out {X : Cx} {pins : List (Addr × Obj)} {σ : L2.St} {H : Hp} {s : Shared} {b : Addr} (c : L2H.HotC X) (I : Inv X pins σ H s) (f : FpOk X pins H b) : ∃ x1, HotX.HotAt X.A x1 s.heap ∧ x1 ≠ b := by
  obtain ⟨p, ⟨hd, v1, k1, c1⟩, m⟩ := c
  obtain ⟨-, -, -, -, -, f5⟩ := f
  exact ⟨p.1, ⟨hd, p.2, v1, (I.pin p (List.mem_append_left _ m)).1, k1, c1⟩, f5 p (List.mem_append_left _ m)⟩
theorem walk_list (a it : Addr) : L2H.TurnH P w K tg (Itl K a) [it] it (fun i h => h.IsListIter it a i) := by
  constructor
  case mem => exact List.mem_singleton.mpr rfl
  case obj =>
    intro i h st b hb
    obtain rfl := List.mem_singleton.mp hb
    obtain ⟨o, e, -, d⟩ := st
    exact ⟨o, e, fun v z => Data.noConfusion (d.symm.trans z)⟩
  case keep => exact fun i h h' st k => st.at fun o e => k it (List.mem_singleton.mpr rfl) o e
  case self => exact fun A i s Q E st q => wpAny_pyIter_listiter st q
  case item =>
    rintro X rfl rfl rfl hc i pins s σ H E I fp st ⟨xs, x, sq, at_⟩
    obtain ⟨vs, rv, pl, -⟩ := I.list sq
    obtain ⟨u, hu, ru⟩ := rv.get at_
    obtain ⟨f0, f1, f2, f3, f4, f5⟩ := fp it (List.mem_singleton.mpr rfl)
    refine wpAny_pyNext_list_item st pl.isList (x := u) (by simpa using hu) fun g sg keep => ⟨u, rfl, ?_⟩
    have J : Inv X pins σ H { s with heap := g } := I.turned (t' := s.toks) (fun b o n z => (keep.2 b n).trans z) f0 f1 f3 f4 f5
    obtain ⟨o, e, c, d⟩ := id sg
    refine go_of (s := { s with heap := g }) e c d (by decide) ⟨x, H, J, ru, ⟨rfl, fun ys hy => ?_⟩, sg, fun b hb => (fp b hb).1⟩
    rw [I.list_inj hy sq]
    exact at_
  case done =>
    rintro X rfl rfl rfl hc i pins s σ H E I fp st ⟨xs, sq, le⟩
    obtain ⟨vs, rv, pl, -⟩ := I.list sq
    obtain ⟨x1, hot, ne⟩ := HotC.out hc I (fp it (List.mem_singleton.mpr rfl))
    obtain ⟨f0, f1, f2, f3, f4, f5⟩ := fp it (List.mem_singleton.mpr rfl)
    have hl := rv.length
    exact listEnd_hot hot ne st pl.isList (by simp; omega) fun g eb => ⟨rfl, I.turned (t' := s.toks) (fun b o n z => eb b o n z) f0 f1 f3 f4 f5⟩
end
section
variable {X : Cx} {tg l : Expr} {tl : TE}
theorem new_fp {pins : List (Addr × Obj)} {σ : L2.St} {H : Hp} {s : Shared} (I : Inv X pins σ H s) : ∀ b ∈ [s.heap.objs.size], FpOk X pins H b := fun b hb => by
  obtain rfl := List.mem_singleton.mp hb
  exact I.fpOk (Nat.le_refl _) (I.hok.fresh (Nat.le_refl _))
theorem ih_list (hl : PE X l tl) : L2H.PIH X tg l (iList X.K tl) := by
  constructor
  intro pins s σ H R I h
  apply thn (hl.run pins s σ H _ I h)
  rintro v s1 ⟨x, H1, I1, r1, a, rfl, ⟨xs, sq⟩, q⟩
  cases r1
  obtain ⟨vs, rv, pl, -⟩ := I1.list sq
  exact wpAny_pyIter_list pl.isList ⟨_, _, _, _, H1, rfl, I1.kept (t' := s1.toks) fun b o z => Heap.get?_push_of_some _ z, walk_list a _, ⟨_, Heap.get?_push_size _ rfl, rfl, rfl⟩, new_fp I1, q⟩
end
/-! ### comprehensions there -/
/-- a block's context that keeps what is pinned -/
abbrev blkH (X : Cx) (s : Shared) (H : Hp) (scope : Scope) (cenv : Env) (fp : List Addr) : Cx := (X.blk s H scope cenv fp).tr X.pn fun _ _ => False
section
variable {X : Cx} {pins : List (Addr × Obj)} {σ : L2.St} {H : Hp} {s : Shared}
theorem start_blkH {scope : Scope} {own : List (Str × Nat)} {fp : List Addr} {h' : Heap} (I : Inv X pins σ H s) (ce : Env) (cL : ce.locals = s.heap.objs.size) (k : ∀ b o, s.heap.get? b = some o → h'.get? b = some o)
    (J : Inv (X.blk s H scope ce fp) [] (wipe σ (own.map (·.2))) H { s with heap := h' }) : Inv (blkH X s H scope ce fp) [] (wipe σ (own.map (·.2))) H { s with heap := h' } := by
  refine Inv.toTry (X := X.blk s H scope ce fp) (pins := X.pn) (J.pins_of fun p hp => ?_) _
  obtain ⟨e, n, ne, nf, d⟩ := I.pin p (List.mem_append_left _ hp)
  refine ⟨k _ _ e, n, fun z => ?_, fun m => ?_, d⟩
  · have z' : p.1 = s.heap.objs.size := z.trans cL
    exact absurd (Heap.lt_size e) (by rw [z']; exact Nat.lt_irrefl _)
  · exact (List.mem_cons.mp (I.stkSub p.1 m)).elim ne nf
theorem pe_lcH {elt tg iter : Expr} {ifs : List Expr} {scope : Scope} {own : List (Str × Nat)} {pos : Pos} {wi : TI} {g : TG} {tt : TT} {te : TE} (hc : L2H.HotC X) (hN : X.N.Nodup) (hi : L2H.PIH X tg iter wi) (ok : BlkOk X.N X.env.scope scope own)
    (hg : ∀ (s : Shared) (H : Hp) (C : Addr) (cl : List (Str × Addr)) (fp : List Addr), PG (blkH X s H scope (compEnvC scope cl C X.env) fp) tg g)
    (ht : ∀ (s : Shared) (H : Hp) (C : Addr) (cl : List (Str × Addr)) (fp : List Addr), PTs (blkH X s H scope (compEnvC scope cl C X.env) fp) ifs tt)
    (he : ∀ (s : Shared) (H : Hp) (C : Addr) (cl : List (Str × Addr)) (fp : List Addr), PE (blkH X s H scope (compEnvC scope cl C X.env) fp) elt te) (hs : ∀ x, foldedSetIterable iter X.env x = pure x := by intro _; rfl) :
    PE X (.ListComp elt [⟨tg, iter, ifs, 0⟩] scope pos) (tLc wi g tt te (own.map (·.2))) := by
  constructor
  intro pins s σ H Q I h
  rw [eval_ListComp]
  have cells : ∀ y ∈ scope.names, y.2 = .free → ∃ c, X.env.cells.lookup y.1 = some c := fun y hy e => I.ok.has _ (ok.free y hy e)
  refine wpAny_comprehension_free (use := none) rfl hs (closure_ok cells) ok.kind (fun y hy e => (ok.uniq y hy).trans (congrArg some e)) (thn (hi.run pins s σ H _ I h) fun xv s1 hx => thn hx fun itv s2 h2 => ?_)
  obtain ⟨it, fp, tn, J, H2, rfl, I2, T, st2, f2, q⟩ := h2
  refine wpAny_newObj_type (newEnv_comp ?_) (by show 0 ≤ sizeLine; decide)
  obtain ⟨W, ⟨m0, w0⟩, turn⟩ := q s2.heap.objs.size (I2.hok.fresh (Nat.le_refl _))
  have up3 : ∀ b o, s2.heap.get? b = some o → (s2.heap.push { cls := .type "list", data := .seq ([] : List Value).toArray }).get? b = some o := fun b o e => Heap.get?_push_of_some _ e
  have I3 : Inv X pins σ (upd H2 s2.heap.objs.size (.lst [])) { s2 with heap := s2.heap.push { cls := .type "list", data := .seq ([] : List Value).toArray } } :=
    I2.laid (t' := s2.toks) up3 (Nat.le_refl _) ⟨Nat.zero_le _, [], 0, .nil, Heap.get?_push_size _ rfl⟩
  have f3 : ∀ b ∈ fp, FpOk X pins (upd H2 s2.heap.objs.size (.lst [])) b ∧ b < (s2.heap.push { cls := .type "list", data := .seq ([] : List Value).toArray }).objs.size := fun b hb => by
    obtain ⟨o, e, -⟩ := T.obj _ _ st2 b hb
    have lt := Heap.lt_size e
    refine ⟨⟨(upd_ne (Nat.ne_of_lt lt)).trans (f2 b hb).1, (f2 b hb).2⟩, ?_⟩
    rw [Heap.size_push]
    exact Nat.lt_succ_of_lt lt
  have nf3 : ∀ b ∈ fp, (upd H2 s2.heap.objs.size (.lst [])) b = none := fun b hb => (f3 b hb).1.1
  have st3 := T.keep _ _ _ st2 fun b _ o e => up3 b o e
  generalize hD : s2.heap.objs.size = D at *
  generalize hs3 : ({ s2 with heap := s2.heap.push { cls := .type "list", data := .seq ([] : List Value).toArray } } : Shared) = s3 at *
  have hh3 : s2.heap.push { cls := .type "list", data := .seq ([] : List Value).toArray } = s3.heap := by rw [← hs3]
  rw [hh3] at f3 st3
  have k4 : ∀ b o, s3.heap.get? b = some o → (pushCells (s3.heap.push { cls := .type "dict", data := .dict #[] }) scope.names).get? b = some o := fun b o e => pushCells_keeps _ _ _ _ (Heap.get?_push_of_some _ e)
  have J4 := block_start I3 ok hN f3
  generalize hcl : cellsFrom (s3.heap.objs.size + 1) scope.names (cloFrom X.env.cells scope.names []) = cl at J4
  have G := hg s3 (upd H2 D (.lst [])) s3.heap.objs.size cl fp
  have TT := ht s3 (upd H2 D (.lst [])) s3.heap.objs.size cl fp
  have EE := he s3 (upd H2 D (.lst [])) s3.heap.objs.size cl fp
  have I4 := start_blkH I3 (compEnvC scope cl s3.heap.objs.size X.env) rfl k4 J4
  have st4 := T.keep _ _ _ st3 fun b _ o e => k4 b o e
  have hotB : L2H.HotC (blkH X s3 (upd H2 D (.lst [])) scope (compEnvC scope cl s3.heap.objs.size X.env) fp) := hc
  change codeAny _ X.A (Code.compStart (.ListComp elt [⟨tg, iter, ifs, 0⟩] scope pos) 0 (Value.ref it) (Value.ref D) (compEnvC scope cl s3.heap.objs.size X.env))
    (compPost (model X.prog X.w) X.A X.xe none (EP X pins σ Q) (Value.ref D) s3.heap.objs.size) _
  generalize hce : compEnvC scope cl s3.heap.objs.size X.env = ce at *
  have eL : ce.locals = s3.heap.objs.size := by rw [← hce]; rfl
  generalize hs4 : ({ s3 with heap := pushCells (s3.heap.push { cls := .type "dict", data := .dict #[] }) scope.names } : Shared) = s4 at *
  have e4 : pushCells (s3.heap.push { cls := .type "dict", data := .dict #[] }) scope.names = s4.heap := by rw [← hs4]
  rw [e4] at st4
  generalize hH3 : upd H2 D (.lst []) = H3 at *
  have vs := own.map (·.2)
  have still : ∀ {τ : L2.St} {g : Hp} {z : Shared}, Inv (blkH X s3 H3 scope ce fp) [] τ g z → (∀ b ∈ fp, g b = none) → ∀ b ∈ fp, FpOk (blkH X s3 H3 scope ce fp) [] g b := fun {τ g z} J hn b hb =>
    ⟨hn b hb, (J.ok.exf b hb).1, J.ok.exfs b hb, .inl hb, fun x c e => (J.ok.exf b hb).2 x c e, fun p hp => (f3 b hb).1.2.2.2.2.2 p (List.mem_append_left _ (by rw [List.append_nil] at hp; exact hp))⟩
  have body : codeAny (model X.prog X.w) X.A (Code.compLoop (.ListComp elt [⟨tg, iter, ifs, 0⟩] scope pos) 0 (Value.ref it) (Value.ref D) ce) (compPost (model X.prog X.w) X.A X.xe none (EP X pins σ Q) (Value.ref D) s3.heap.objs.size) s4 := by
    refine compLoop_any (fun n z => ∃ i g, Inv (blkH X s3 H3 scope ce fp) [] (wipe σ (own.map (·.2))) g z ∧ tn i z.heap ∧ (∀ b ∈ fp, g b = none) ∧ W i n g) ?_ m0 ⟨0, H3, I4, st4, nf3, w0⟩
    rintro n s5 ⟨i, H5, I5, st5, n5, w5⟩
    obtain ⟨stop, qq⟩ | ⟨go, Nx, hNx, step⟩ := turn i n H5 w5
    · refine thnF (T.done (blkH X s3 H3 scope ce fp) rfl rfl rfl hotB i [] s5 _ H5 (fun _ _ => False) I5 (still I5 n5) st5 stop) ?_
      rintro _ s6 ⟨rfl, I6⟩
      have I7 : Inv X pins σ H5 s6 := I3.call' (ch := fp) I6.os I6.base I6.hok I6.bare fun b hb => ⟨(f3 b hb).1.2.2.2.1, (f3 b hb).1.2.1, (f3 b hb).1.2.2.2.2⟩
      have n6 : H5 s3.heap.objs.size = none := by
        rw [← eL]
        exact I6.free
      obtain ⟨m, hn, -⟩ := I6.loc
      obtain ⟨f0, f1, f2', f4, f5, f6⟩ := I3.fpOk (Nat.le_refl _) n6
      refine ⟨m, by rw [← eL]; exact hn, fun g sb => ⟨.ref D, H5, ?_, rfl, qq⟩⟩
      exact I7.turned (t' := s6.toks) (fun b o nb e => (sb.2 b nb).trans e) f0 f1 f4 f5 f6
    · refine thnF (T.item (blkH X s3 H3 scope ce fp) rfl rfl rfl hotB i [] s5 _ H5 (fun _ _ => False) I5 (still I5 n5) st5 go) ?_
      rintro _ s6 ⟨u, rfl, h6⟩
      refine thnF h6 ?_
      rintro - s7 ⟨x, H7, I7, r7, y7, st7, n7⟩
      have K7 := I7.pinned (still I7 n7) (T.obj _ _ st7)
      refine thnF (G.run _ s7 _ H7 x u _ K7 r7 (step x H7 y7)) ?_
      rintro - s8 ⟨σ8, H8, I8, w8, q8⟩
      have pinned : ∀ {z : Shared} {g : Hp}, Inv (blkH X s3 H3 scope ce fp) ([] ++ pinsAt fp s7.heap) σ8 g z → ∀ b ∈ fp, ∀ o, s7.heap.get? b = some o → z.heap.get? b = some o ∧ g b = none := fun {z g} J b hb o e => by
        have at_ := J.pin (b, o) (List.mem_append_right _ (List.mem_append_right _ (mem_pinsAt hb e)))
        exact ⟨at_.1, at_.2.1⟩
      have again : ∀ {z : Shared} {g : Hp}, Inv (blkH X s3 H3 scope ce fp) ([] ++ pinsAt fp s7.heap) σ8 g z → Nx g → ∃ m, m < n ∧ ∃ i g, Inv (blkH X s3 H3 scope ce fp) [] (wipe σ (own.map (·.2))) g z ∧ tn i z.heap ∧ (∀ b ∈ fp, g b = none) ∧ W i m g := by
        intro z g J nx
        obtain ⟨m', lt, w'⟩ := hNx g nx
        have len : (wipe σ (own.map (·.2))).length = σ8.length := by rw [← w8, wipe_length]
        refine ⟨m', lt, i + 1, g, J.unpinned.weak len (fun j v e => ?_), T.keep _ _ _ st7 fun b hb o e => (pinned J b hb o e).1, fun b hb => ?_, w'⟩
        · exact (wipe_some (w8 ▸ e)).1
        · obtain ⟨o, e, -⟩ := T.obj _ _ st7 b hb
          exact (pinned J b hb o e).2
      refine thnF (TT.run _ s8 σ8 H8 _ I8 q8) ?_
      rintro b s9 ⟨H9, I9, q9⟩
      cases b
      · exact again I9 q9
      · refine thnF (EE.run _ s9 σ8 H9 _ I9 q9) ?_
        rintro z s10 ⟨y, H10, I10, r10, acc, at_, lt, nx⟩
        exact app_ok (X := blkH X s3 H3 scope ce fp) I10 at_ lt r10 fun s11 I11 => again I11 nx
  exact codeAny_compStart_list body (T.self X.A 0 _ _ _ st4 body)
end
end Hd

namespace Hd
open PySem PySem.Spec PyProof.Rows L2

/-! ### own exception classes -/
/-- what the written part tells of such a class: x its name, D its place -/
structure Ec (K : PySem.W.Frag) (mg : Str → Option Value) (x : Str) (D : Addr) : Prop where
  gC : mg x = some (.ref D)
  ox : OexC K D
  xf : XfC K D
  ca : PySem.W.findIn K (.ref D) "__class__" = some (some (.builtin "object.__class__"))
  sg : PySem.W.specialIn K (.builtin "object.__class__") "__get__" = some (some (.builtin "getset_descriptor.__get__"))
  tk : PySem.W.takesIn K (.builtin "object.__class__") = some true
  mo : PySem.W.mroIn K D (.type "object") = some true
  ic : PySem.W.isClsIn K D = true
/-- the class named x answers b to isinstance of an instance of the class at D -/
def Isx (K : PySem.W.Frag) (mg : Str → Option Value) (D : Addr) (x : Str) (b : Bool) : Prop := ∃ C : Addr, mg x = some (.ref C) ∧ PySem.W.kitOne K (.ref D) (.ref C) = some b
/-- an exception at p of the class at D, its attributes fs standing at d -/
structure ErrAt (D d : Addr) (fs : List (Str × V)) (H : Hp) (p : Addr × Obj) : Prop where
  cls : p.2.cls = .ref D
  dict : p.2.dict = some d
  data : ∃ vs, p.2.data = .fields vs
  at_ : H d = some (.xd fs)
theorem ErrAt.up {D d : Addr} {fs : List (Str × V)} {H H' : Hp} {p : Addr × Obj} (e : ErrAt D d fs H p) (h : H' d = H d) : ErrAt D d fs H' p := ⟨e.cls, e.dict, e.data, h.trans e.at_⟩
section
variable {X : Cx} {p : Addr × Obj} {D d : Addr} {fs : List (Str × V)}
theorem ErrAt.inst {pins : List (Addr × Obj)} {σ : L2.St} {H : Hp} {s : Shared} (e : ErrAt D d fs H p) (hp : p ∈ X.pn) (I : Inv X pins σ H s) : ∃ od mA, PySem.W.InstAt s.heap p.1 p.2 D (some od) ∧ s.heap.Ns1 d mA ∧ (∀ f, RelO (fs.lookup f) (mA f)) ∧ ∀ n, PySem.W.lookIn n od = some (mA n) := by
  have at_ : ObjOk X.prog X.w H s.heap d (.xd fs) := I.hok d _ e.at_
  obtain ⟨mA, hns, hr⟩ := at_
  obtain ⟨od, ho, hl⟩ := lookIn_ns hns
  obtain ⟨vs, dv⟩ := e.data
  refine ⟨od, mA, ⟨(I.pin p (List.mem_append_left _ hp)).1, e.cls, ?_, ?_⟩, hns, hr, hl⟩
  · unfold PySem.W.notCls
    rw [dv] <;> rfl
  · rw [e.dict]
    exact ho
/-- isinstance of it -/
def rIsErr (K : PySem.W.Frag) (p : Addr × Obj) (D d : Addr) : List V → Hp → VK → Prop := fun xs H Q => ∃ (c : V) (cv : Value) (b : Bool) (fs : List (Str × V)), xs = [.ref p.1, c] ∧ (∀ u, RelV c u → u = cv) ∧ PySem.W.kitOne K (.ref D) cv = some b ∧ ErrAt D d fs H p ∧ Q (.bl b) H
theorem call_isErr {x : Str} (T : Ec X.K X.mg x D) (hp : p ∈ X.pn) : CallR X (.builtin "isinstance") (rIsErr X.K p D d) := by
  rintro pins s σ H xs us Q I r ⟨c, cv, b, fs, rfl, hcv, e, at_, q⟩
  cases r with
  | cons r1 rr =>
    cases rr with
    | cons r2 rr =>
      cases rr
      cases r1
      obtain rfl := hcv _ r2
      obtain ⟨od, mA, J, -⟩ := at_.inst hp I
      have kit := PySem.W.kitx_exc (x := p.1) (ox := p.2) (od := some od) T.ic T.xf.ga T.xf.gg T.xf.exC T.ca T.sg T.tk T.mo
      exact PySem.W.kia_one kit I.kIn J e (fun z => nomatch z) fun tk => ⟨.bl b, H, I.kept (t' := tk) fun _ _ z => z, rfl, q⟩
end
/-! ### defs called while an exception is handled; their promise may speak of that exception -/
abbrev SpH := Addr × Obj → Sp
structure FnE (P : Program) (w : World) (K : PySem.W.Frag) (mg : Str → Option Value) (base : Heap) (k : Nat) (f : Addr) (fd : FuncData) (ps : List Str) (sp : SpH) : Prop where
  len : ∀ p vs H Q E, sp p vs H Q E → vs.length = ps.length
  go : ∀ (A : Around) (outer : List Env) (s : Shared) (H : Hp) (args : Args) (us : List Value) (vs : List V) (Q : VK) (E : XK) (p : Addr × Obj), L2H.RoomH k A → L2H.Hot1 A p → L2H.PinOk outer H s p → Env0 P w K mg base A outer s H → BindsTo s fd args (ps.zip us) →
    Vals vs us → sp p vs H Q E → codeAny (model P w) A (.call (.ref f) args) (CR CX0 outer P w H s Q E) s
def CalE (P : Program) (w : World) (K : PySem.W.Frag) (mg : Str → Option Value) (base : Heap) (x : Str) (k : Nat) (ps : List Str) (sp : SpH) : Prop :=
  ∃ f fd, FnE P w K mg base k f fd ps sp ∧ mg x = some (.ref f) ∧ PySem.W.keepIn K (.ref f) = true ∧ Binds K fd ps []
section
variable {P : Program} {w : World} {K : PySem.W.Frag} {mg : Str → Option Value} {base : Heap} {x : Str} {st : Stmt} {ps N : List Str} {k : Nat} {sp : SpH}
theorem Def.calE (D : Def K mg x st ps) (S : FnScope N ps (defScope st)) (len : ∀ p vs H Q E, sp p vs H Q E → vs.length = ps.length)
    (hbody : ∀ (f : Addr) (cdv : Value) (A : Around) (outer : List Env) (s : Shared) (H : Hp) (vs : List V) (Q : VK) (E : XK) (p : Addr × Obj), L2H.Hot1 A p → L2H.RoomH k (A.deeper (envOfC x (defScope st) s.heap.objs.size f cdv)) → sp p vs H Q E →
      ∃ t, PSs (L2H.cxH CX0 P w K mg base N x (defScope st) f cdv A outer s H E p).nox (defBody st) t ∧ t { nx := fun _ H' => Q .non H', rt := Q } (start N vs) H) : CalE P w K mg base x (k + 1) ps sp := by
  obtain ⟨f, fd, F, g, b⟩ := D
  refine ⟨f, fd, ⟨len, ?_⟩, g, F.kp, b⟩
  obtain ⟨oc, od, kV, doc, pm, an, cdv, ct, osl, rfl, lk, hcd⟩ := F.ex
  intro A outer s H args us vs Q E p hr hot pin e0 hb r hsp
  have KX : K.In s.heap := e0.mod.kin.keeps fun b o e => (e0.bs b o e).1
  have free : s.heap.NoLimit := e0.mod.nolimit.keeps fun b o e => (e0.bs b o e).1
  have kinds : ∀ y ∈ ps.zip us, (defScope st).names.lookup y.1 = some .local ∨ ((defScope st).names.lookup y.1 = some .cell ∧ ((cellsFrom (s.heap.objs.size + 1) (defScope st).names []).lookup y.1).isSome = true) := fun ⟨n, v⟩ hy =>
    (S.par n (List.of_mem_zip hy).1).imp id fun q => ⟨q, PySem.W.cellsFrom_some _ _ _ (.inl q)⟩
  apply codeAny_call_function hr.depth (KX _ _ lk) rfl S.co S.gen rfl (PySem.W.codeRec_of KX hcd) (hb _ _ _ _ _)
  refine wpAny_newFunctionEnv_cells S.kind kinds ?_
  rintro env rfl s1 x
  refine ⟨free.keeps x.toInCall.keep, codeAny_func ?_⟩
  obtain ⟨t, ht, hq⟩ := hbody f cdv A outer s H vs Q E p hot (hr.deeper _) hsp
  have I := L2H.inv_startH (CX := CX0) (E := E) S pin e0 (len _ _ _ _ _ hsp) r x
  refine wpAny_mono (ht.nox.run [] s1 (start N vs) H _ I hq) ?_ fun e s' hs => hs
  intro fl s' hs
  cases fl
  · obtain ⟨σ', H', J, q⟩ := hs
    exact ⟨V.non, H', J.os, J.bare, J.base, J.hok, rfl, q⟩
  · obtain ⟨_, _, _, q⟩ := hs
    exact q.elim
  · obtain ⟨_, _, _, q⟩ := hs
    exact q.elim
  · obtain ⟨v, σ', H', J, rv, q⟩ := hs
    exact ⟨v, H', J.os, J.bare, J.base, J.hok, rv, q⟩
end
section
variable {X : Cx} {x : Str} {q pos : Pos} {e : Expr} {es : List Expr} {k : Nat} {ps : List Str} {sp : SpH} {t : TA} {p : Addr × Obj}
theorem pe_calE (C : CalE X.prog X.w X.K X.mg X.base x k ps sp) (hr : L2H.RoomH k X.A) (hot : L2H.Hot1 X.A p) (hp : p ∈ X.pn) (hg : Gl X x) (ha : PA X (e :: es) t) (hdb : (x == ("__debug__" : Str)) = false := by decide)
    (he : starEach (e :: es) X.env = (false, eval e X.env) :: starEach es X.env := by rfl) (hpl : (backTo pos (starEach es X.env)).any (·.1) = false := by rfl) :
    PE X (.Call (.Name x q) (e :: es) [] pos) (tCall (sp p) [] E0 t) := by
  obtain ⟨f, fd, F, g, kp, b⟩ := C
  constructor
  intro pins s σ H Q I h
  apply wpAny_Call_Name_kw (ld_glob I hg g _ hdb)
  refine PySem.W.callWith_K (h₀ := X.base) I.ok.mod.kin kp (thn (ha.run pos pins s σ H _ I h) ?_) he hpl
  rintro us s1 ⟨vs, H1, I1, r, sq⟩
  rw [List.append_nil] at sq
  refine ⟨I1.kIn, wpAny_call ?_⟩
  have ln : us.length = ps.length := r.length.symm.trans (F.len _ _ _ _ _ sq)
  have bd := b s1 us I1.kIn ((congrArg List.length (List.append_nil us)).trans ln)
  rw [List.append_nil] at bd
  obtain ⟨p1, p2, p3, p4, p5⟩ := I1.pin p (List.mem_append_left _ hp)
  have pin : L2H.PinOk X.stack H1 s1 p := ⟨p1, p2, fun m => (List.mem_cons.mp (I1.stkSub p.1 m)).elim p3 p4, p5⟩
  refine codeAny_mono (F.go X.A X.stack s1 H1 ⟨us, []⟩ us vs Q E0 p hr hot pin I1.env0 bd r sq) ?_
  intro res s' hq
  cases res with
  | error _ => exact hq.elim
  | ok fl =>
    cases fl
    · exact hq.elim
    · exact hq.elim
    · exact hq.elim
    · exact I1.after hq
end
end Hd

namespace Hd
open PySem PySem.Spec PyProof.Rows L2

/-! ### defs that may raise -/
theorem nothing_out {X : Cx} : Passes (L2N.CX X.prog X.w) X E0 := by
  rintro pins σ H s e s' I ⟨_, _, _, _, _, _, _, _, _, _, _, _, z⟩
  exact z.elim
theorem nothing_taken {X : Cx} : L2N.Takes X (fun _ _ _ _ => False) := by
  rintro u s' ⟨_, _, _, _, _, _, _, _, _, _, _, _, _, _, _, _, z⟩
  exact z.elim
def CalX (P : Program) (w : World) (K : PySem.W.Frag) (mg : Str → Option Value) (base : Heap) (x : Str) (k : Nat) (ps : List Str) (sp : Sp) : Prop :=
  ∃ f fd, FnOk P w K mg base (L2N.CX P w) k f fd ps sp ∧ mg x = some (.ref f) ∧ PySem.W.keepIn K (.ref f) = true ∧ Binds K fd ps []
section
variable {P : Program} {w : World} {K : PySem.W.Frag} {mg : Str → Option Value} {base : Heap} {x : Str} {st : Stmt} {ps N : List Str} {k : Nat} {sp : Sp}
theorem Def.calX (D : Def K mg x st ps) (S : FnScope N ps (defScope st)) (len : ∀ vs H Q E, sp vs H Q E → vs.length = ps.length)
    (hbody : ∀ (f : Addr) (cdv : Value) (A : Around) (outer : List Env) (s : Shared) (H : Hp) (vs : List V) (Q : VK) (E : XK), Room k (A.deeper (envOfC x (defScope st) s.heap.objs.size f cdv)) → sp vs H Q E →
      ∃ t, PSs (cxOf (L2N.CX P w) P w K mg base N x (defScope st) f cdv A outer s H E) (defBody st) t ∧ t { nx := fun _ H' => Q .non H', rt := Q } (start N vs) H) : CalX P w K mg base x (k + 1) ps sp := by
  obtain ⟨f, fd, F, g, b⟩ := D
  have kp := F.kp
  obtain ⟨oc, od, kV, doc, pm, an, cdv, ct, osl, rfl, lk, hcd⟩ := F.ex
  exact ⟨f, _, fn_of lk hcd S len fun A outer s H vs Q E hr h => hbody f cdv A outer s H vs Q E hr h, g, kp, b⟩
end
section
variable {X : Cx} {x : Str} {p pos : Pos} {e : Expr} {es : List Expr} {k : Nat} {ps : List Str} {sp : Sp} {t : TA}
/-- within a try, or in a def that lets it out -/
theorem pe_calX {W : WX} (C : CalX X.prog X.w X.K X.mg X.base x k ps sp) (tk : L2N.Takes X W) (hr : Room k X.A) (hg : Gl X x) (ha : PA X (e :: es) t) (hdb : (x == ("__debug__" : Str)) = false := by decide)
    (he : starEach (e :: es) X.env = (false, eval e X.env) :: starEach es X.env := by rfl) (hpl : (backTo pos (starEach es X.env)).any (·.1) = false := by rfl) :
    PE X (.Call (.Name x p) (e :: es) [] pos) (tCallS sp (WE W) t) := by
  obtain ⟨f, fd, F, g, kp, b⟩ := C
  exact pe_callS F hr hg g kp b (fun σ => L2N.passAt tk σ) ha hdb he hpl
/-- where it is known that nothing is raised -/
theorem pe_calQ (C : CalX X.prog X.w X.K X.mg X.base x k ps sp) (hr : Room k X.A) (hg : Gl X x) (ha : PA X (e :: es) t) (hdb : (x == ("__debug__" : Str)) = false := by decide)
    (he : starEach (e :: es) X.env = (false, eval e X.env) :: starEach es X.env := by rfl) (hpl : (backTo pos (starEach es X.env)).any (·.1) = false := by rfl) :
    PE X (.Call (.Name x p) (e :: es) [] pos) (tCall sp [] E0 t) := by
  obtain ⟨f, fd, F, g, kp, b⟩ := C
  exact pe_call F hr hg g kp b .nil nothing_out ha hdb he hpl
end
/-! ### own exceptions made where nothing is handled -/
section
variable {X : Cx} {C fI : Addr} {k : Nat} {fd : FuncData} {ps : List Str} {sp : Sp} {e : Expr} {es : List Expr} {ta : TA} {p pos : Pos} {x : Str}
theorem mk_calm (T : OexC X.K C) (iC : PySem.W.findIn X.K (.ref C) "__init__" = some (some (.ref fI))) (tI : PySem.W.typeIn X.K (.ref fI) = some (.type "function")) (F1 : FnOk X.prog X.w X.K X.mg X.base CX0 k fI fd ps sp) (hr : Room (k + 1) X.A)
    (hb : Binds X.K fd ps []) (hg : Gl X x) (hm : X.mg x = some (.ref C)) (ha : PA X (e :: es) ta) (hdb : (x == ("__debug__" : Str)) = false := by decide)
    (he : starEach (e :: es) X.env = (false, eval e X.env) :: starEach es X.env := by rfl) (hpl : (backTo pos (starEach es X.env)).any (·.1) = false := by rfl) : L2N.PMk X (.Call (.Name x p) (e :: es) [] pos) (tMkO C sp [] ta) := by
  rintro pins s σ H Q I h
  obtain ⟨nm, q, N, bs, bm, sn, sub, ab, col, dd, k0, k1, k2, k3, k5, hC, hbm⟩ := T.cls
  apply wpAny_Call_Name_kw (ld_glob I hg hm _ hdb)
  refine PySem.W.callWith_K (h₀ := X.base) I.ok.mod.kin T.kC (thn (ha.run pos pins s σ H _ I h) ?_) he hpl
  rintro us ⟨hp, g, dr, tk, os⟩ ⟨vs, H1, I1, r1, hz, q1⟩
  refine ⟨I1.kIn, ?_⟩
  change wpAny _ _ (call (.ref C) us) _ _ _
  generalize hn : hp.objs.size + 1 = a
  have big : hp.objs.size ≤ a := by omega
  have new : H1 a = none := I1.hok.fresh big
  have sq := q1 a new
  rw [List.append_nil] at sq
  have up : ∀ b o, hp.get? b = some o → ((hp.push (PySem.W.kdv_tup us)).push (PySem.HandSPX.excO C hp.objs.size)).get? b = some o := fun b o z => Heap.get?_push_of_some _ (Heap.get?_push_of_some _ z)
  have at_ : ((hp.push (PySem.W.kdv_tup us)).push (PySem.HandSPX.excO C hp.objs.size)).get? a = some (PySem.HandSPX.excO C hp.objs.size) := by subst hn; heap_get
  have I2 : Inv X pins σ (upd H1 a (exo a C none)) ⟨(hp.push (PySem.W.kdv_tup us)).push (PySem.HandSPX.excO C hp.objs.size), g, dr, tk, os⟩ := I1.laid (t' := tk) up big (exo_ok at_)
  have r2 : Vals (V.ref a :: vs) (Value.ref a :: us) := .cons rfl r1
  have ln : (Value.ref a :: us).length = ps.length := r2.length.symm.trans (F1.len _ _ _ _ sq)
  have bd := hb ⟨(hp.push (PySem.W.kdv_tup us)).push (PySem.HandSPX.excO C hp.objs.size), g, dr, tk, os⟩ (Value.ref a :: us) I2.kIn ((congrArg List.length (List.append_nil _)).trans ln)
  rw [List.append_nil] at bd
  have few : us.length ≤ sizeLine := by
    have := r1.length
    rw [sizeLine_eq]
    omega
  subst hn
  refine wpAny_call (PySem.HandSPX.call_own F.excBase_ValueError (fun Y => PySem.HandSPX.refsVE_contains Y bm hbm) (I1.kIn _ _ hC) (PySem.W.looks_findIn I1.kIn iC) (fun self => PySem.W.bind_fn I1.kIn self tI) few ?_)
  refine codeAny_mono (F1.run _ X.stack _ _ ⟨_, []⟩ _ _ _ (fun _ _ _ => False) (hr.make C us []) (I2.env0.make C us []) bd r2 sq) ?_
  intro res s' hq
  cases res with
  | error _ => exact hq.elim
  | ok fl =>
    cases fl
    · exact hq.elim
    · exact hq.elim
    · exact hq.elim
    · obtain ⟨v, H2, os2, bare2, un2, hok2, rv, rfl, d, fs, ea, ed, hd1, q2⟩ := hq
      obtain ⟨h2, g2, d2, t2, os'⟩ := s'
      obtain ⟨t0, G, J, kG, ge, hoe, na⟩ := mk_end0 (d2 := d2) (t2 := t2) I1 big up un2 hok2 os2 bare2 ea ed hd1
      refine ⟨rv, _, _, _, ⟨G, g2, d2, t2, os'⟩, _, .ref C, some d, rfl, J, kG, ge, hoe, ⟨rfl, rfl, ?_⟩, rfl, rfl, na, rfl, bare2, raises_own T.exC T.tyC, q2⟩
      intro vs hv
      cases hv
      rfl
end
/-! ### __init__ that keeps its arguments, one after the other -/
def clsB (s : Stmt) : List Stmt := match s with
  | .ClassDef _ _ _ b _ _ _ _ _ _ _ => b
  | _ => []
/-- the class named x at D, and its __init__ -/
structure Xc (K : PySem.W.Frag) (mg : Str → Option Value) (x q : Str) (st : Stmt) (ps : List Str) (D : Addr) : Prop where
  ec : Ec K mg x D
  ini : ∃ fI fd, PySem.W.findIn K (.ref D) "__init__" = some (some (.ref fI)) ∧ PySem.W.typeIn K (.ref fI) = some (.type "function") ∧ Fun K "__init__" q st fI fd ∧ Binds K fd ps []
  no : ∀ f ∈ ps.tail, PySem.W.findIn K (.ref D) f = some none
section
variable {X : Cx} {K : PySem.W.Frag} {mg : Str → Option Value} {x q f g : Str} {st : Stmt} {D : Addr} {P : Program} {w : World} {base : Heap} {e : Expr} {es : List Expr} {ta : TA} {p pos : Pos}
def spIni (D : Addr) (gs : List Str) : Sp := fun vs H Q _ => ∃ (a : Addr) (us : List V), vs = .ref a :: us ∧ us.length = gs.length ∧ H a = some (exo a D none) ∧ ∀ dx, H dx = none → dx ≠ a → Q .non (upd (upd H dx (exd dx ((gs.zip us).reverse))) a (exo a D (some dx)))
theorem ini_end {gs : List Str} {us : List V} {H1 : Hp} {Q : XK} {E : XK} (h1 : us.length = gs.length) (hl : us.length ≤ 1000) (q : ∀ d, H1 d = none → Q (.ref D) (some d) (upd H1 d (.xd ((gs.zip us).reverse)))) :
    us.length ≤ 1000 ∧ ∀ a, H1 a = none → spIni D gs (.ref a :: (us ++ [])) (upd H1 a (exo a D none)) (fun v H2 => v = .non ∧ ∃ (d : Addr) (fs : List (Str × V)), H2 a = some (exo a D (some d)) ∧ H2 d = some (exd d fs) ∧ H1 d = none ∧ Q (.ref D) (some d) (upd (del H2 a) d (.xd fs))) E := by
  refine ⟨hl, fun a ha => ⟨a, us, by rw [List.append_nil], h1, upd_same, fun dx hdx ne => ⟨rfl, dx, _, upd_same, (upd_ne ne).trans upd_same, ?_, ?_⟩⟩⟩
  · rw [upd_ne ne] at hdx
    exact hdx
  · rw [upd_ne ne] at hdx
    have e : upd (del (upd (upd (upd H1 a (exo a D none)) dx (exd dx ((gs.zip us).reverse))) a (exo a D (some dx))) a) dx (.xd ((gs.zip us).reverse)) = upd H1 dx (.xd ((gs.zip us).reverse)) := by
      funext b
      by_cases h : b = dx
      · rw [h, upd_same, upd_same]
      · rw [upd_ne h, upd_ne h]
        by_cases k : b = a
        · rw [k, del_same, ha]
        · rw [del_ne k, upd_ne k, upd_ne h, upd_ne k]
    rw [e]
    exact q dx hdx
theorem ini2 {f g : Str} (S : FnScope ["self", f, g] ["self", f, g] (defScope st)) (hb : ∃ p00 p01 p02 p03 p10 p11 p12 p13, defBody st = [.Assign [.Attribute (.Name "self" p00) f p01] (.Name f p02) p03, .Assign [.Attribute (.Name "self" p10) g p11] (.Name g p12) p13])
    (T : OexC K D) (vs0 : (defScope st).names.lookup ("self" : Str) = some NameKind.local) (vf : (defScope st).names.lookup f = some NameKind.local) (df : (f == ("__debug__" : Str)) = false) (cf : (f == ("__classdict__" : Str)) = false) (nof : PySem.W.findIn K (.ref D) f = some none) (vg : (defScope st).names.lookup g = some NameKind.local) (dg : (g == ("__debug__" : Str)) = false) (cg : (g == ("__classdict__" : Str)) = false) (nog : PySem.W.findIn K (.ref D) g = some none)
    {fI : Addr} {fd : FuncData} (F : Fun K "__init__" q st fI fd) : FnOk P w K mg base CX0 1 fI fd ["self", f, g] (spIni D [f, g]) := by
  obtain ⟨p00, p01, p02, p03, p10, p11, p12, p13, hb⟩ := hb
  refine F.ok S ?_ ?_
  · rintro vs H Q E ⟨a, us, rfl, l, -⟩
    rw [List.length_cons, l] <;> rfl
  · rintro cdv A outer s H vs Q E hr ⟨a, us, rfl, l, ea, q⟩
    obtain ⟨u, v, rfl⟩ : ∃ u v, us = [u, v] := by
      match us, l with
      | [u, v], _ => exact ⟨u, v, rfl⟩
    rw [hb]
    refine ⟨_, (pss_cons (ps_ost (pv 0 rfl (.inl vs0)) (pv 1 rfl (.inl vf) df cf)) (pss_one (ps_ost (pv 0 rfl (.inl vs0)) (pv 2 rfl (.inl vg) dg cg)))), ?_⟩
    refine ⟨_, rfl, _, rfl, a, D, rfl, T, nof, .inl ⟨ea, fun dx n ne => ?_⟩⟩
    refine ⟨_, rfl, _, rfl, a, D, rfl, T, nog, .inr ⟨dx, _, upd_same, (upd_ne ne).trans upd_same, (by simp), ?_⟩⟩
    have r := q dx n ne
    have e : upd (upd (upd H dx (exd dx [(f, u)])) a (exo a D (some dx))) dx (exd dx [(g, v), (f, u)]) = upd (upd H dx (exd dx [(g, v), (f, u)])) a (exo a D (some dx)) := by
      funext b
      by_cases h : b = dx
      · rw [h, upd_same, upd_ne ne, upd_same]
      · by_cases k : b = a
        · simp only [k, upd_same, upd_ne (Ne.symm ne)]
        · simp only [upd_ne h, upd_ne k]
    show Q .non (upd (upd (upd H dx (exd dx [(f, u)])) a (exo a D (some dx))) dx (exd dx [(g, v), (f, u)]))
    rw [e]
    exact r
theorem ini3 {f g k : Str} (S : FnScope ["self", f, g, k] ["self", f, g, k] (defScope st)) (hb : ∃ p00 p01 p02 p03 p10 p11 p12 p13 p20 p21 p22 p23, defBody st = [.Assign [.Attribute (.Name "self" p00) f p01] (.Name f p02) p03, .Assign [.Attribute (.Name "self" p10) g p11] (.Name g p12) p13, .Assign [.Attribute (.Name "self" p20) k p21] (.Name k p22) p23])
    (T : OexC K D) (vs0 : (defScope st).names.lookup ("self" : Str) = some NameKind.local) (vf : (defScope st).names.lookup f = some NameKind.local) (df : (f == ("__debug__" : Str)) = false) (cf : (f == ("__classdict__" : Str)) = false) (nof : PySem.W.findIn K (.ref D) f = some none) (vg : (defScope st).names.lookup g = some NameKind.local) (dg : (g == ("__debug__" : Str)) = false) (cg : (g == ("__classdict__" : Str)) = false) (nog : PySem.W.findIn K (.ref D) g = some none) (vk : (defScope st).names.lookup k = some NameKind.local) (dk : (k == ("__debug__" : Str)) = false) (ck : (k == ("__classdict__" : Str)) = false) (nok : PySem.W.findIn K (.ref D) k = some none)
    {fI : Addr} {fd : FuncData} (F : Fun K "__init__" q st fI fd) : FnOk P w K mg base CX0 1 fI fd ["self", f, g, k] (spIni D [f, g, k]) := by
  obtain ⟨p00, p01, p02, p03, p10, p11, p12, p13, p20, p21, p22, p23, hb⟩ := hb
  refine F.ok S ?_ ?_
  · rintro vs H Q E ⟨a, us, rfl, l, -⟩
    rw [List.length_cons, l] <;> rfl
  · rintro cdv A outer s H vs Q E hr ⟨a, us, rfl, l, ea, q⟩
    obtain ⟨u, v, z, rfl⟩ : ∃ u v z, us = [u, v, z] := by
      match us, l with
      | [u, v, z], _ => exact ⟨u, v, z, rfl⟩
    rw [hb]
    refine ⟨_, (pss_cons (ps_ost (pv 0 rfl (.inl vs0)) (pv 1 rfl (.inl vf) df cf)) (pss_cons (ps_ost (pv 0 rfl (.inl vs0)) (pv 2 rfl (.inl vg) dg cg)) (pss_one (ps_ost (pv 0 rfl (.inl vs0)) (pv 3 rfl (.inl vk) dk ck))))), ?_⟩
    refine ⟨_, rfl, _, rfl, a, D, rfl, T, nof, .inl ⟨ea, fun dx n ne => ?_⟩⟩
    refine ⟨_, rfl, _, rfl, a, D, rfl, T, nog, .inr ⟨dx, _, upd_same, (upd_ne ne).trans upd_same, (by simp), ?_⟩⟩
    refine ⟨_, rfl, _, rfl, a, D, rfl, T, nok, .inr ⟨dx, _, (upd_ne (Ne.symm ne)).trans upd_same, upd_same, (by simp), ?_⟩⟩
    have r := q dx n ne
    have e : upd (upd (upd (upd H dx (exd dx [(f, u)])) a (exo a D (some dx))) dx (exd dx [(g, v), (f, u)])) dx (exd dx [(k, z), (g, v), (f, u)]) = upd (upd H dx (exd dx [(k, z), (g, v), (f, u)])) a (exo a D (some dx)) := by
      funext b
      by_cases h : b = dx
      · rw [h, upd_same, upd_ne ne, upd_same]
      · by_cases k : b = a
        · simp only [k, upd_same, upd_ne (Ne.symm ne)]
        · simp only [upd_ne h, upd_ne k]
    show Q .non (upd (upd (upd (upd H dx (exd dx [(f, u)])) a (exo a D (some dx))) dx (exd dx [(g, v), (f, u)])) dx (exd dx [(k, z), (g, v), (f, u)]))
    rw [e]
    exact r
end
end Hd

namespace Hd
open PySem PySem.Spec PyProof.Rows L2

/-- the class named x at D, made from the arguments gs -/
def Xm (P : Program) (w : World) (K : PySem.W.Frag) (mg : Str → Option Value) (base : Heap) (x : Str) (D : Addr) (gs : List Str) : Prop :=
  Ec K mg x D ∧ (∀ f ∈ gs, PySem.W.findIn K (.ref D) f = some none) ∧ ∃ fI fd, PySem.W.findIn K (.ref D) "__init__" = some (some (.ref fI)) ∧ PySem.W.typeIn K (.ref fI) = some (.type "function") ∧ FnOk P w K mg base CX0 1 fI fd ("self" :: gs) (spIni D gs) ∧ Binds K fd ("self" :: gs) []
section
variable {X : Cx} {x : Str} {D : Addr} {gs : List Str} {e : Expr} {es : List Expr} {ta : TA} {p pos : Pos}
theorem pmk_x (M : Xm X.prog X.w X.K X.mg X.base x D gs) (hr : Room 2 X.A) (hg : Gl X x) (ha : PA X (e :: es) ta) (hdb : (x == ("__debug__" : Str)) = false := by decide)
    (he : starEach (e :: es) X.env = (false, eval e X.env) :: starEach es X.env := by rfl) (hpl : (backTo pos (starEach es X.env)).any (·.1) = false := by rfl) : L2N.PMk X (.Call (.Name x p) (e :: es) [] pos) (tMkO D (spIni D gs) [] ta) := by
  obtain ⟨T, no, fI, fd, iC, tI, F1, bd⟩ := M
  exact mk_calm T.ox iC tI F1 hr bd hg T.gC ha hdb he hpl
end
/-- an except clause's name: the base class, and that it takes the class at D -/
def Hnd (K : PySem.W.Frag) (mg : Str → Option Value) (x : Str) (D : Addr) (b : Bool) : Prop := ∃ C : Addr, mg x = some (.ref C) ∧ PySem.W.exmOne K (.ref D) (.ref C) = some b
/-- an except suite, whatever the exception's object is -/
def tSuite (t : Addr → Obj → Value → Option Addr → TS) (a : Addr) (cls : Value) (d : Option Addr) : TS := fun D σ H => ∀ oe, L2N.Zn cls d oe → (∃ vs, oe.data = .fields vs) → t a oe cls d D σ H
theorem suite_of {X : Cx} {a : Addr} {oe : Obj} {cls : Value} {d : Option Addr} {pn : List (Addr × Obj)} {b : List Stmt} {t : Addr → Obj → Value → Option Addr → TS} (hz : L2N.Zn cls d oe) (hf : ∃ vs, oe.data = .fields vs)
    (h : PSs (X.suite a ((a, oe) :: pn)) b (t a oe cls d)) : PSs (X.suite a ((a, oe) :: pn)) b (tSuite t a cls d) := ⟨fun pins s σ H D I q => h.run pins s σ H D I (q oe hz hf)⟩
theorem ps_try_E {X : Cx} {x n : Str} {c : Value} {i : Nat} {body suite : List Stmt} {b₀ : Stmt} {np pos pos' : Pos} {tb : WX → TS} {t : Addr → Obj → Value → Option Addr → TS} {Wout : WX} (hs : X.stack = X.env :: X.outer) (hf : X.env.frame = some X.env.locals) (hN : X.N.Nodup)
    (hi : X.N[i]? = some n) (hln : X.env.kindOf n = some .local) (hc : Names X x c) (tk : L2N.Takes X Wout)
    (hb : ∀ (W : WX) (pn : List (Addr × Obj)) (xe : Value → Shared → Prop), L2N.Takes (X.tr pn xe) W → PassesOwn (model X.prog X.w) X.A X.env xe → PSs (X.tr pn xe) body (tb W))
    (hsu : ∀ (a : Addr) (oe : Obj) (cls : Value) (d : Option Addr) (pn : List (Addr × Obj)), L2N.Zn cls d oe → (∃ vs, oe.data = .fields vs) → PSs (X.suite a ((a, oe) :: pn)) (b₀ :: suite) (t a oe cls d)) :
    PS X (.Try body [.ExceptHandler (some (.Name x np)) (some n) (b₀ :: suite) pos'] [] [] pos) (fun D σ H => tb (wAs X.K c i (tSuite t) Wout D) D σ H) :=
  L2N.ps_try_as hs hf hN hi hln hc tk hb fun a oe cls d pn hz h => suite_of hz h (hsu a oe cls d pn hz h)
theorem suite_hot {X : Cx} {a : Addr} {oe : Obj} {cls : Value} {d : Option Addr} {pn : List (Addr × Obj)} (hz : L2N.Zn cls d oe) (hf : ∃ vs, oe.data = .fields vs) : L2H.Hot1 (X.suite a ((a, oe) :: pn)).A (a, oe) := by
  obtain ⟨vs, hd⟩ := hf
  exact ⟨rfl, vs, hd, hz.2.2 vs hd⟩
theorem suite_err {a D d : Addr} {oe : Obj} {fs : List (Str × V)} {H : Hp} (hz : L2N.Zn (.ref D) (some d) oe) (hf : ∃ vs, oe.data = .fields vs) (h : H d = some (.xd fs)) : ErrAt D d fs H (a, oe) := ⟨hz.1, hz.2.1, hf, h⟩
theorem room_suite {k : Nat} {A : Around} (r : Room k A) (h : Option Value) : L2H.RoomH k (A.mark h) := L2H.roomH_mark r h
theorem hot_in {X : Cx} {p : Addr × Obj} (h : L2H.Hot1 X.A p) (m : p ∈ X.pn) : L2H.HotC X := ⟨p, h, m⟩
theorem pe_cls {X : Cx} {x : Str} {C : Addr} {pos : Pos} (hg : Gl X x) (h : X.mg x = some (.ref C)) (hd : (x == ("__debug__" : Str)) = false := by decide) : PE X (.Name x pos) (tC (.ref C)) := pe_glob hg h rfl hd
end Hd

namespace Hd
open PySem PySem.Spec PyProof.Rows L2

/-! ### enumerate(tuple) -/
set_option maxHeartbeats 8000000 in
section
variable {P : Program} {w : World} {K : PySem.W.Frag} {elts : List Expr} {kk : Nat} {tpos : Pos}
end
/-! ### min(tuple of ints) -/
/-! ### rules whose reading names the written part, for the block of a comprehension -/
section
variable {X : Cx} {K : PySem.W.Frag} (hk : X.K = K)
include hk
theorem ix_seqK : IxR X (rIx K) := hk ▸ ix_seq
end
end Hd

namespace Hd
open PySem PySem.Spec PyProof.Rows L2

/-! ### the cycles of a move -/
def stp (ns : List Int) (p : Int) : Int := (ns[p.toNat]?).getD 0
def itn (ns : List Int) : Nat → Int → Int
  | 0, s => s
  | k + 1, s => stp ns (itn ns k s)
def inR (n p : Int) : Prop := 0 ≤ p ∧ p < n
section
variable {ns : List Int} {n : Int} (h : IsMv ns n)
include h
theorem stp_at {p : Int} (hp : inR n p) : ns[p.toNat]? = some (stp ns p) ∧ inR n (stp ns p) := by
  have l := h.len
  have lt : p.toNat < ns.length := by have := hp.1; have := hp.2; omega
  have e : ns[p.toNat]? = some ns[p.toNat] := List.getElem?_eq_getElem lt
  have es : stp ns p = ns[p.toNat] := by unfold stp; rw [e]; rfl
  refine ⟨by rw [es]; exact e, ?_⟩
  rw [es]
  exact h.mem.mp (List.getElem_mem lt)
end
def IsPer (ns : List Int) (s : Int) (m : Nat) : Prop := 1 ≤ m ∧ itn ns m s = s ∧ ∀ k, 1 ≤ k → k < m → itn ns k s ≠ s
theorem IsPer.uniq {ns : List Int} {s : Int} {a b : Nat} (x : IsPer ns s a) (y : IsPer ns s b) : a = b := by
  rcases Nat.lt_trichotomy a b with l | l | l
  · exact absurd x.2.1 (y.2.2 a x.1 l)
  · exact l
  · exact absurd y.2.1 (x.2.2 b y.1 l)
section
variable {ns : List Int} {n : Int} (h : IsMv ns n)
include h
end
end Hd

namespace Hd
open PySem PySem.Spec PyProof.Rows L2

section
variable {ns : List Int} {n : Int} (h : IsMv ns n)
include h
end
theorem ErrAt.new {D d p' : Addr} {fs : List (Str × V)} {H H' : Hp} {p : Addr × Obj} {o : HO} (e : ErrAt D d fs H p) (n : New H p' o H') : ErrAt D d fs H' p := ⟨e.cls, e.dict, e.data, n.else e.at_⟩
theorem ErrAt.same {D d : Addr} {fs : List (Str × V)} {H H' : Hp} {p : Addr × Obj} (e : ErrAt D d fs H p) (s : Same H H') : ErrAt D d fs H' p := ⟨e.cls, e.dict, e.data, s _ _ e.at_⟩
theorem same_put {H H' : Hp} {l : Addr} {o : HO} (s : Same H H') (h : H l = none) : Same H (upd H' l o) := fun b u e => by
  rw [upd_ne fun z => by rw [z, h] at e; cases e]
  exact s _ _ e
/-- an error of the class at D with these attributes leaves -/
def Errs (E : XK) (D : Addr) (fs : List (Str × V)) (H : Hp) : Prop := ∀ (d : Addr) (H' : Hp), Same H H' → H' d = some (.xd fs) → E (.ref D) (some d) H'
theorem Errs.up {E : XK} {D : Addr} {fs : List (Str × V)} {H H' : Hp} (e : Errs E D fs H) (s : Same H H') : Errs E D fs H' := fun d H2 s2 h => e d H2 (s.trans s2) h
end Hd
namespace Hd
open PySem PySem.Spec PyProof.Rows L2
section
variable {ns : List Int} {n : Int} (h : IsMv ns n)
include h
end
theorem Stq.pure {G H G1 H1 H2 : Hp} (s : Stq G H G1 H1) (g : Same H1 H2) : Stq G H G1 H2 := ⟨s.gg, s.gh.trans g, s.nw, s.hh.trans g⟩
end Hd

namespace Hd
open PySem PySem.Spec PyProof.Rows L2
/-! ### the facts of the head, put together -/
section
variable {K : PySem.W.Frag} {h : Heap} {mg : Str → Option Value} {x : Str} {D C CH : Addr}
end
end Hd

namespace Hd
open PySem PySem.Spec PyProof.Rows L2
/-! ### exceptions held as values -/
/-- at a: a new exception of the class at D, its attributes fs at d -/
structure MkX (H H' : Hp) (a d D : Addr) (fs : List (Str × V)) : Prop where
  na : H a = none
  nd : H d = none
  ne : d ≠ a
  at_ : H' a = some (exo a D (some d))
  dc : H' d = some (exd d fs)
  old : ∀ b, b ≠ a → b ≠ d → H' b = H b
theorem MkX.same {H H' : Hp} {a d D : Addr} {fs : List (Str × V)} (m : MkX H H' a d D fs) : Same H H' := fun b u e => by
  rw [m.old b (fun z => by rw [z, m.na] at e; cases e) fun z => by rw [z, m.nd] at e; cases e]
  exact e
section
variable {X : Cx} {x : Str} {D : Addr} {gs : List Str} {e : Expr} {es : List Expr} {ta : TA} {p pos : Pos}
end
/-- what isinstance wants of a class of exceptions -/
structure EcI (K : PySem.W.Frag) (D : Addr) : Prop where
  ga : PySem.W.findIn K (.ref D) "__getattribute__" = some (some (.builtin "BaseException.__getattribute__"))
  gg : PySem.W.findIn K (.ref D) "__getattr__" = some none
  ex : PySem.W.subIn K (.ref D) (.type "BaseException") = some true
  ca : PySem.W.findIn K (.ref D) "__class__" = some (some (.builtin "object.__class__"))
  sg : PySem.W.specialIn K (.builtin "object.__class__") "__get__" = some (some (.builtin "getset_descriptor.__get__"))
  tk : PySem.W.takesIn K (.builtin "object.__class__") = some true
  mo : PySem.W.mroIn K D (.type "object") = some true
  ic : PySem.W.isClsIn K D = true
theorem Ec.i {K : PySem.W.Frag} {mg : Str → Option Value} {x : Str} {D : Addr} (e : Ec K mg x D) : EcI K D := ⟨e.xf.ga, e.xf.gg, e.xf.exC, e.ca, e.sg, e.tk, e.mo, e.ic⟩
/-- an exception of the class at D stands at a -/
def ErV (H : Hp) (a D : Addr) : Prop := (∃ d fs, H a = some (exo a D (some d)) ∧ H d = some (exd d fs)) ∨ H a = some (ExO (.ref D) a)
theorem ErV.up {H H' : Hp} {a D : Addr} (e : ErV H a D) (s : Same H H') : ErV H' a D := e.imp (fun ⟨d, fs, h1, h2⟩ => ⟨d, fs, s _ _ h1, s _ _ h2⟩) (fun h => s _ _ h)
section
variable {X : Cx} {D a d : Addr}
theorem ErV.inst {pins : List (Addr × Obj)} {σ : L2.St} {H : Hp} {s : Shared} (e : ErV H a D) (I : Inv X pins σ H s) : ∃ oe od, PySem.W.InstAt s.heap a oe D od := by
  rcases e with ⟨d, fs, h1, h2⟩ | h1
  · obtain ⟨t1, ho⟩ := exo_at I.hok h1
    obtain ⟨mA, ⟨o, es, ep, hd, hr⟩, -⟩ := exd_at I.hok h2
    exact ⟨_, some o, ho, rfl, rfl, hd⟩
  · have z : ObjOk X.prog X.w H s.heap a (.ext fun h => ∃ (oe : Obj) (vs : Array Value), h.get? a = some oe ∧ Zc (.ref D) none oe ∧ oe.data = .fields vs ∧ vs[1]? = some .none ∧ vs[2]? = some .none ∧ 4 < vs.size) := I.hok a _ h1
    obtain ⟨⟨oe, vs, ho, hz, hd, -⟩, -, -⟩ := z
    refine ⟨oe, none, ho, hz.1, ?_, ?_⟩
    · unfold PySem.W.notCls
      rw [hd] <;> rfl
    · rw [hz.2]
      trivial
end
end Hd

namespace Hd
open PySem PySem.Spec PyProof.Rows L2
/-! ### moves done one after the other -/
def aft (ns ms : List Int) : List Int := ns.map (stp ms)
theorem aft_len (ns ms : List Int) : (aft ns ms).length = ns.length := List.length_map ..
section
variable {ns ms : List Int} {n : Int} (hn : IsMv ns n) (hm : IsMv ms n)
include hn
include hm
end
/-- ms undoes ns -/
def Undo (n : Int) (ns ms : List Int) : Prop := ∀ p, inR n p → stp ns (stp ms p) = p
section
variable {ns ms : List Int} {n : Int} (hn : IsMv ns n) (hm : IsMv ms n) (u : Undo n ns ms)
include hn hm u
end
/-! ### tuple.index of ints -/
end Hd

namespace Hd
open PySem PySem.Spec PyProof.Rows L2
/-! ### sorted of tuples of ints, any number of them -/
def rowD (r : List Int) : PyData := .tuple (r.map PyData.int)
section
variable {prog : Program} {w : World} {A : Around} {E : Value → Shared → Prop} {s : Shared}
end
theorem rows_ref {H : Hp} {x : V} {r : List Int} (h : Da H x (rowD r)) : ∃ t, x = .ref t ∧ H t = some (.tup (r.map V.int)) := by
  unfold rowD at h
  cases h with
  | tup ha dx =>
    obtain rfl := vals_int dx
    exact ⟨_, rfl, ha⟩
section
variable {X : Cx}
/-- sorted of a dict with such keys -/
def keyL (r : List Int) : List L2.Key := r.map Sum.inl
theorem keyL_kV (r : List Int) : (keyL r).map kV = r.map V.int := by
  unfold keyL
  rw [List.map_map]
  rfl
theorem keyL_inj {a b : List Int} (e : keyL a = keyL b) : a = b := by
  have := congrArg (List.map kV) e
  rw [keyL_kV, keyL_kV] at this
  have z := congrArg (List.map intV) this
  rwa [map_intV, map_intV] at z
end
end Hd

namespace Hd
open PySem PySem.Spec PyProof.Rows L2
/-! ### rows reached by doing moves in turn -/
inductive Rch (T : List (List Int)) (r : List Int) : List Int → Prop
  | base : Rch T r r
  | step {w m : List Int} : Rch T r w → m ∈ T → Rch T r (aft w m)
def AllMv (n : Int) (T : List (List Int)) : Prop := ∀ m ∈ T, IsMv m n
def RowIn (n : Int) (w : List Int) : Prop := ∀ p ∈ w, inR n p
theorem RowIn.aft {n : Int} {w m : List Int} (h : RowIn n w) (hm : IsMv m n) : RowIn n (aft w m) := fun p hp => by
  obtain ⟨q, hq, rfl⟩ := List.mem_map.mp hp
  exact (stp_at hm (h q hq)).2
theorem IsMv.row {n : Int} {m : List Int} (h : IsMv m n) : RowIn n m := fun p hp => h.mem.mp hp
section
variable {n : Int} {T : List (List Int)} {r : List Int}
theorem Rch.row (hT : AllMv n T) (h : RowIn n r) {w : List Int} (c : Rch T r w) : RowIn n w ∧ w.length = r.length := by
  induction c with
  | base => exact ⟨h, rfl⟩
  | step _ hm ih => exact ⟨ih.1.aft (hT _ hm), by rw [aft_len]; exact ih.2⟩
theorem Rch.mono {T' : List (List Int)} (h : ∀ m ∈ T, m ∈ T') {w : List Int} (c : Rch T r w) : Rch T' r w := by
  induction c with
  | base => exact .base
  | step _ hm ih => exact .step ih (h _ hm)
end
abbrev Mk' (n : Int) (T : List (List Int)) (w : List Int) : Prop := Rch T (rngI n) w
section
variable {n : Int} {T : List (List Int)}
end
/-! ### lists in order -/
theorem lex_irr (xs : List Int) : HT.lexLt xs xs = false := by
  cases e : HT.lexLt xs xs with
  | false => rfl
  | true => rw [NtL.lex_asym xs xs e] at e; cases e
/-- ascending, no two alike -/
def Asc (L : List (List Int)) : Prop := L.Pairwise fun x y => HT.lexLt x y = true
theorem asc_eq : ∀ {L M : List (List Int)}, Asc L → Asc M → (∀ x, x ∈ L ↔ x ∈ M) → L = M
  | [], [], _, _, _ => rfl
  | [], y :: M, _, _, h => absurd ((h y).mpr List.mem_cons_self) (by simp)
  | x :: L, [], _, _, h => absurd ((h x).mp List.mem_cons_self) (by simp)
  | x :: L, y :: M, hl, hm, h => by
    obtain ⟨l1, l2⟩ := List.pairwise_cons.mp hl
    obtain ⟨m1, m2⟩ := List.pairwise_cons.mp hm
    have e : x = y := by
      rcases List.mem_cons.mp ((h x).mp List.mem_cons_self) with e | hx
      · exact e
      · rcases List.mem_cons.mp ((h y).mpr List.mem_cons_self) with e | hy
        · exact e.symm
        · have a := m1 x hx
          have b := l1 y hy
          rw [NtL.lex_asym _ _ a] at b
          cases b
    subst e
    have nx : x ∉ L := fun z => by have := l1 x z; rw [lex_irr] at this; cases this
    have ny : x ∉ M := fun z => by have := m1 x z; rw [lex_irr] at this; cases this
    rw [asc_eq l2 m2 fun z => ?_]
    constructor
    · intro hz
      rcases List.mem_cons.mp ((h z).mp (List.mem_cons_of_mem _ hz)) with e | k
      · rw [e] at hz; exact absurd hz nx
      · exact k
    · intro hz
      rcases List.mem_cons.mp ((h z).mpr (List.mem_cons_of_mem _ hz)) with e | k
      · rw [e] at hz; exact absurd hz ny
      · exact k
/-- L: all that is made, in order -/
structure Grp (n : Int) (T L : List (List Int)) : Prop where
  asc : Asc L
  mem : ∀ w, w ∈ L ↔ Mk' n T w
theorem Grp.uniq {n : Int} {T L M : List (List Int)} (a : Grp n T L) (b : Grp n T M) : L = M := asc_eq a.asc b.asc fun x => (a.mem x).trans (b.mem x).symm
theorem Grp.still {n : Int} {T L : List (List Int)} (g : Grp n T L) : rngI n ∈ L := (g.mem _).mpr .base
theorem Grp.none {n : Int} : Grp n [] [rngI n] := ⟨List.pairwise_singleton _ _, fun w => ⟨fun h => by rw [List.mem_singleton.mp h]; exact .base, fun h => by
  cases h with
  | base => exact List.mem_singleton.mpr rfl
  | step _ hm => cases hm⟩⟩
end Hd

namespace Hd
open PySem PySem.Spec PyProof.Rows L2
/-! ### a walk that is one of two -/
/-! ### defs with defaults, all arguments given -/
def DefD (K : PySem.W.Frag) (mg : Str → Option Value) (x : Str) (st : Stmt) (ps : List Str) : Prop :=
  ∃ f fd dvs, FunD K x x (defArgs st) (defBody st) (defScope st) dvs [] f fd ∧ mg x = some (.ref f) ∧ Binds K fd ps []
section
variable {P : Program} {w : World} {K : PySem.W.Frag} {mg : Str → Option Value} {base : Heap} {x : Str} {st : Stmt} {ps N : List Str} {k : Nat} {sp : Sp}
theorem DefD.calX (D : DefD K mg x st ps) (S : FnScope N ps (defScope st)) (len : ∀ vs H Q E, sp vs H Q E → vs.length = ps.length)
    (hbody : ∀ (f : Addr) (cdv : Value) (A : Around) (outer : List Env) (s : Shared) (H : Hp) (vs : List V) (Q : VK) (E : XK), Room k (A.deeper (envOfC x (defScope st) s.heap.objs.size f cdv)) → sp vs H Q E →
      ∃ t, PSs (cxOf (L2N.CX P w) P w K mg base N x (defScope st) f cdv A outer s H E) (defBody st) t ∧ t { nx := fun _ H' => Q .non H', rt := Q } (start N vs) H) : CalX P w K mg base x (k + 1) ps sp := by
  obtain ⟨f, fd, dvs, F, g, b⟩ := D
  exact ⟨f, fd, F.ok S len fun cdv A outer s H vs Q E hr h => hbody f cdv A outer s H vs Q E hr h, g, F.kp, b⟩
end
/-! ### methods that may raise -/
def CalM (P : Program) (w : World) (K : PySem.W.Frag) (mg : Str → Option Value) (base : Heap) (C : Addr) (m : Str) (k : Nat) (ps : List Str) (sp : Sp) : Prop :=
  ∃ f fd, FnOk P w K mg base (L2N.CX P w) k f fd ps sp ∧ PySem.W.findIn K (.ref C) m = some (some (.ref f)) ∧ PySem.W.isFn K (.ref f) = true ∧ PySem.W.keepIn K (.ref f) = true ∧ Binds K fd ps []
theorem Fun.D {K : PySem.W.Frag} {x qual : Str} {st : Stmt} {f : Addr} {fd : FuncData} (F : Fun K x qual st f fd) : FunD K x qual (defArgs st) (defBody st) (defScope st) [] [] f fd := by
  obtain ⟨oc, od, kV, doc, pm, an, cdv, ct, osl, rfl, lk, hcd⟩ := F.ex
  exact ⟨⟨oc, od, .none, kV, doc, pm, an, cdv, ct, osl, rfl, lk, hcd, .inl ⟨rfl, rfl⟩, .inl rfl⟩, F.kp⟩
section
variable {P : Program} {w : World} {K : PySem.W.Frag} {mg : Str → Option Value} {base : Heap} {C : Addr} {m qual : Str} {st : Stmt} {ps N : List Str} {k : Nat} {sp : Sp}
end
structure WCls (K : PySem.W.Frag) (mg : Str → Option Value) (x : Str) (C : Addr) : Prop where
  cl : Cls K C
  gC : mg x = some (.ref C)
  mks : PySem.W.makesIn K C = true
  kp : PySem.W.keepIn K (.ref C) = true
  ca : PySem.W.findIn K (.ref C) "__class__" = some (some (.builtin "object.__class__"))
  sg : PySem.W.specialIn K (.builtin "object.__class__") "__get__" = some (some (.builtin "getset_descriptor.__get__"))
  tk : PySem.W.takesIn K (.builtin "object.__class__") = some true
  mo : PySem.W.mroIn K C (.type "object") = some true
section
variable {X : Cx} {C : Addr} {m x : Str} {k : Nat} {ps : List Str} {sp : Sp} {e : Expr} {es : List Expr} {te : TE} {t : TA} {p pos : Pos}
theorem WCls.ty (c : WCls X.K X.mg x C) {H : Hp} {a dx : Addr} {fs : List (Str × V)} (h : H a = some (.ins C dx fs)) : TyX X.K H (.ref a) (.ref C) := .base (.ins h c.cl c.ca c.sg c.tk c.mo)
end
/-! ### {k: v}, k a tuple -/
end Hd

namespace Hd
open PySem PySem.Spec PyProof.Rows L2
/-! ### rows reached, layer by layer, each with its word -/
abbrev WL := List (List Int × List Int)
def lookW (W : WL) (r : List Int) : List Int := ((W.find? fun p => decide (p.1 = r)).map (·.2)).getD []
def put1 (r wd m : List Int) (i : Int) (W : WL) : WL := if aft r m ∈ W.map (·.1) then W else W ++ [(aft r m, wd ++ [i])]
def nl1 (T : List (List Int)) (r : List Int) (W : WL) : Nat → WL
  | 0 => W
  | k + 1 => match T[k]? with
    | some m => put1 r (lookW W r) m (k : Int) (nl1 T r W k)
    | none => nl1 T r W k
def nl (T R : List (List Int)) (W : WL) : Nat → WL
  | 0 => W
  | i + 1 => match R[i]? with
    | some r => nl1 T r (nl T R W i) T.length
    | none => nl T R W i
/-! ### all layers -/
structure LayOk (T : List (List Int)) (r : List Int) (W : WL) (L : List (List Int)) (k : Nat) : Prop where
  nd : (W.map (·.1)).Nodup
  rch : ∀ x ∈ W.map (·.1), Rch T r x
  base : r ∈ W.map (·.1)
  sub : ∀ x ∈ L, x ∈ W.map (·.1)
  clo : ∀ x ∈ W.map (·.1), x ∉ L → ∀ m ∈ T, aft x m ∈ W.map (·.1)
  wl : ∀ p ∈ W, p.2.length ≤ k
  kl : k ≤ W.length
  kL : L ≠ [] → k + 1 ≤ W.length
  lL : L.length ≤ W.length
/-! ### the dict that holds them -/
abbrev Wds (G : Hp) : List (List L2.Key × V) → WL → Prop := Paired fun p q => p.1 = keyL q.1 ∧ Da G p.2 (rowD q.2)
theorem Wds.up {G G' : Hp} (g : Same G G') {kvs : List (List L2.Key × V)} {W : WL} (h : Wds G kvs W) : Wds G' kvs W := by
  induction h with
  | nil => exact .nil
  | cons a t ih => exact .cons ⟨a.1, a.2.up g⟩ ih
theorem Wds.keys {G : Hp} {kvs : List (List L2.Key × V)} {W : WL} (h : Wds G kvs W) : kvs.map (·.1) = (W.map (·.1)).map keyL := by
  induction h with
  | nil => rfl
  | cons a t ih => rw [List.map_cons, List.map_cons, List.map_cons, a.1, ih]
theorem Wds.none {G : Hp} {kvs : List (List L2.Key × V)} {W : WL} (h : Wds G kvs W) {r : List Int} (n : r ∉ W.map (·.1)) : valV kvs (keyL r) = Option.none := by
  induction h with
  | nil => rfl
  | @cons p q ps qs a t ih =>
    rw [List.map_cons, List.mem_cons, not_or] at n
    rw [valV_neg (fun e => n.1 (keyL_inj (e.symm.trans a.1))), ih n.2]
theorem Wds.some {G : Hp} {kvs : List (List L2.Key × V)} {W : WL} (h : Wds G kvs W) {r : List Int} (n : r ∈ W.map (·.1)) : ∃ v, valV kvs (keyL r) = Option.some v ∧ Da G v (rowD (lookW W r)) := by
  induction h with
  | nil => cases n
  | @cons p q ps qs a t ih =>
    by_cases e : q.1 = r
    · refine ⟨p.2, valV_pos (by rw [a.1, e]), ?_⟩
      have : lookW (q :: qs) r = q.2 := by
        unfold lookW
        rw [List.find?_cons_of_pos (by exact decide_eq_true e)]
        rfl
      rw [this]
      exact a.2
    · rw [List.map_cons, List.mem_cons] at n
      obtain ⟨v, h1, h2⟩ := ih (n.resolve_left fun z => e z.symm)
      refine ⟨v, by rw [valV_neg (fun z => e (keyL_inj (a.1.symm.trans z))), h1], ?_⟩
      have : lookW (q :: qs) r = lookW qs r := by
        unfold lookW
        rw [List.find?_cons_of_neg (by exact fun z => e (of_decide_eq_true z))]
      rw [this]
      exact h2
theorem Stq.stp {S : Addr} {G H G1 H1 G2 H2 : Hp} (a : Stq G H G1 H1) (b : Stp S G1 H1 G2 H2) (f : H S = none) : Stq G H G2 H2 :=
  ⟨fun c u z => b.gg _ _ (a.gg _ _ z), b.gh, fun c o h t z => b.nw c o (a.hh c o h) t (a.nw c o h t z), fun c u z => b.hh c u (fun e => by rw [e, f] at z; cases z) (a.hh c u z)⟩
/-! ### all tuples that stand may be known -/
def fullG (G H : Hp) : Hp := fun b => match G b with
  | some o => some o
  | none => match H b with
    | some (.tup xs) => some (.tup xs)
    | _ => none
theorem full_same {G H : Hp} : Same G (fullG G H) := fun b u e => by unfold fullG; rw [e]
theorem full_up {G H : Hp} (g : Same G H) : Same (fullG G H) H := fun b u e => by
  unfold fullG at e
  cases h : G b with
  | some o =>
    rw [h] at e
    cases e
    exact g _ _ h
  | none =>
    rw [h] at e
    cases h2 : H b with
    | none => rw [h2] at e; cases e
    | some o =>
      rw [h2] at e
      cases o with
      | tup xs => exact e
      | _ => cases e
theorem full_tup {G H : Hp} (g : Same G H) {b : Addr} {xs : List V} (h : H b = some (.tup xs)) : fullG G H b = some (.tup xs) := by
  unfold fullG
  cases e : G b with
  | some o =>
    have := g _ _ e
    rw [h] at this
    exact this.symm
  | none =>
    show (match H b with | some (.tup xs) => some (HO.tup xs) | _ => none) = _
    rw [h]
theorem full_else {G H : Hp} {b : Addr} {o : HO} (h : H b = some o) (t : isT o = false) (g : G b = none) : fullG G H b = none := by
  unfold fullG
  rw [g]
  show (match H b with | some (.tup xs) => some (HO.tup xs) | _ => none) = _
  rw [h]
  cases o with
  | tup xs => cases t
  | _ => rfl
theorem Stq.full {G H G1 H1 : Hp} (s : Stq G H G1 H1) : Stq G H (fullG G1 H1) H1 :=
  ⟨s.gg.trans full_same, full_up s.gh, fun b o h t g => full_else (s.hh _ _ h) t (s.nw b o h t g), s.hh⟩
theorem Stp.full {S : Addr} {G H G1 H1 : Hp} (s : Stp S G H G1 H1) : Stp S G H (fullG G1 H1) H1 :=
  ⟨s.gg.trans full_same, full_up s.gh, fun b o h t g => by
    obtain ⟨o', h', k⟩ := s.al b o h
    exact full_else h' (k t) (s.nw b o h t g), s.hh, s.al⟩
theorem Go.full {S : Sr} {G H G1 H1 : Hp} (a : Go S G H G1 H1) : Go S G H (fullG G1 H1) H1 := ⟨a.s.full, a.w0, a.st⟩
theorem rows_full {G H : Hp} (g : Same G H) : ∀ {xs : List V} {Ls : List (List Int)}, DaAll H xs (Ls.map rowD) → DaAll (fullG G H) xs (Ls.map rowD)
  | _, [], .nil => .nil
  | _, r :: Ls, .cons h t => by
    refine .cons ?_ (rows_full g t)
    obtain ⟨a, rfl, ha⟩ := rows_ref h
    exact .tup (full_tup g ha) (DaAll.ints r)
/-! ### what is a move on n points -/
/-! ### lists of rows compared -/
theorem cut_to {xs : List V} {n : Nat} (h : n ≤ xs.length) : cutV xs none (some (n : Int)) = xs.take n := by
  unfold cutV
  rw [show HT.sIx xs.length xs.length (some (n : Int)) = min n xs.length from HT.sIx_nat xs.length xs.length n, HT.sIx_none, List.drop_zero, Nat.sub_zero, Nat.min_eq_left h]
/-! ### needless moves -/
/-! ### rows reached, one queue -/
structure QOk (T : List (List Int)) (r : List Int) (Qs : List (List Int)) (at_ j : Nat) : Prop where
  nd : Qs.Nodup
  rch : ∀ x ∈ Qs, Rch T r x
  base : r ∈ Qs
  done : ∀ (i : Nat) (x m : List Int), i < at_ → Qs[i]? = some x → m ∈ T → aft x m ∈ Qs
  cur : ∀ (x : List Int) (k : Nat) (m : List Int), Qs[at_]? = some x → k < j → T[k]? = some m → aft x m ∈ Qs
theorem QOk.same {T : List (List Int)} {r : List Int} {Qs : List (List Int)} {at_ j : Nat} {x m : List Int} (h : QOk T r Qs at_ j) (hx : Qs[at_]? = some x) (hm : T[j]? = some m) (c : aft x m ∈ Qs) : QOk T r Qs at_ (j + 1) :=
  ⟨h.nd, h.rch, h.base, h.done, fun y k m' hy hk hm' => by
    rcases Nat.lt_or_ge k j with z | z
    · exact h.cur y k m' hy z hm'
    · have : k = j := by omega
      subst this
      rw [hx] at hy
      rw [hm] at hm'
      cases hy
      cases hm'
      exact c⟩
theorem QOk.next {T : List (List Int)} {r : List Int} {Qs : List (List Int)} {at_ : Nat} (h : QOk T r Qs at_ T.length) : QOk T r Qs (at_ + 1) 0 :=
  ⟨h.nd, h.rch, h.base, fun i x m hi hx hm => by
    rcases Nat.lt_or_ge i at_ with z | z
    · exact h.done i x m z hx hm
    · have : i = at_ := by omega
      subst this
      obtain ⟨k, hk⟩ := List.getElem?_of_mem hm
      exact h.cur x k m hx (List.getElem?_eq_some_iff.mp hk).1 hk, fun x k m _ hk => absurd hk (Nat.not_lt_zero k)⟩
theorem QOk.start (T : List (List Int)) (r : List Int) : QOk T r [r] 0 0 := ⟨List.pairwise_singleton _ _, fun x hx => by rw [List.mem_singleton.mp hx]; exact .base, List.mem_singleton.mpr rfl, fun i _ _ hi => absurd hi (Nat.not_lt_zero i), fun _ k _ _ hk => absurd hk (Nat.not_lt_zero k)⟩
end Hd

namespace Hd
open PySem PySem.Spec PyProof.Rows L2
/-! ### what the top leaves, by facts -/
def obsW (fa : List He.Fa) (fn : List He5.DefA) (ex : List (PySem.W.Frag → Bool)) (K : PySem.W.Frag) : He.AlD := (((fa.all fun f => f.ok K) && fn.all fun d => d.ok K) && ex.all fun e => e K, fn.map fun d => He5.fnA K (d.at_ K))
def SaysW (fa : List He.Fa) (fn : List He5.DefA) (ex : List (PySem.W.Frag → Bool)) (K : PySem.W.Frag) : Prop := obsW fa fn ex K = He5.valA fn
def kidsW (g : Addr → Option Obj) (a : Addr) : List Addr := match g a with
  | some o => He.refsO o
  | none => []
/-- what is told of: the module's names; their code and defaults; what their classes hold -/
def asW (g : Addr → Option Obj) : List Addr := mainGlobals :: (kidsW g mainGlobals).flatMap fun a => match g a with
  | some ⟨_, _, .cls cd, _⟩ => a :: cd.ns :: (kidsW g cd.ns).flatMap fun b => b :: (kidsW g b).flatMap fun c => c :: (kidsW g c).flatMap fun d => d :: kidsW g d
  | some ⟨_, _, .func _, _⟩ => a :: (kidsW g a).flatMap fun c => c :: kidsW g c
  | _ => [a]
def obsWG (fa : List He.Fa) (fn : List He5.DefA) (ex : List (PySem.W.Frag → Bool)) (g : Addr → Option Obj) : He.AlD := obsW fa fn ex (He.frG g (asW g))
def hookW (fa : List He.Fa) (fn : List He5.DefA) (ex : List (PySem.W.Frag → Bool)) : PySem.W.Hook where
  α := He.AlD
  obs := fun s => obsWG fa fn ex s.heap.get?
  val := fun _ => He5.valA fn
  says := fun _ h => ∃ K : PySem.W.Frag, K.In h ∧ SaysW fa fn ex K
  of := fun _ _ e => ⟨_, He.frG_in, e⟩
  keeps := fun _ _ _ ⟨K, hK, c⟩ k => ⟨K, PySem.W.Frag.In.keeps hK k, c⟩
theorem obsWG_eq {fa : List He.Fa} {fn : List He5.DefA} {ex : List (PySem.W.Frag → Bool)} {g : Addr → Option Obj} {s : Shared} (h : ∀ a, g a = s.heap.get? a) : obsWG fa fn ex g = (hookW fa fn ex).obs s := by
  have e : g = s.heap.get? := funext h
  rw [e] <;> rfl
section
variable {fa : List He.Fa} {fn : List He5.DefA} {ex : List (PySem.W.Frag → Bool)} {K : PySem.W.Frag}
theorem SaysW.bools (c : SaysW fa fn ex K) : ((fa.all fun f => f.ok K) = true ∧ (fn.all fun d => d.ok K) = true) ∧ (ex.all fun e => e K) = true := by
  have := congrArg (fun z : He.AlD => z.1) c
  have h : (((fa.all fun f => f.ok K) && fn.all fun d => d.ok K) && ex.all fun e => e K) = true := this
  rw [Bool.and_eq_true, Bool.and_eq_true] at h
  exact h
theorem SaysW.fact (c : SaysW fa fn ex K) (i : Nat) {f : He.Fa} (h : fa[i]? = some f := by rfl) : f.ok K = true := List.all_eq_true.mp c.bools.1.1 f (List.mem_of_getElem? h)
theorem SaysW.more (c : SaysW fa fn ex K) (i : Nat) {f : PySem.W.Frag → Bool} (h : ex[i]? = some f := by rfl) : f K = true := List.all_eq_true.mp c.bools.2 f (List.mem_of_getElem? h)
theorem SaysW.def_ (c : SaysW fa fn ex K) (i : Nat) {d : He5.DefA} (h : fn[i]? = some d := by rfl) : ∃ fd, FunD K d.name d.qual d.params d.body d.scope (d.dvs K) (d.kws K) (d.at_ K) fd := by
  have e : fn.map (fun d => He5.fnA K (d.at_ K)) = fn.map He5.DefA.val := congrArg (fun z : He.AlD => z.2) c
  have e2 : (fn.map fun d => He5.fnA K (d.at_ K))[i]? = (fn.map He5.DefA.val)[i]? := by rw [e]
  rw [List.getElem?_map, List.getElem?_map, h] at e2
  exact He5.DefA.funD (Option.some.inj e2) (List.all_eq_true.mp c.bools.1.2 d (List.mem_of_getElem? h))
end
/-- defs -/
abbrev dFn (x : Str) (st : Stmt) : He5.DefA := ⟨fun K => He.ga K x, x, x, defArgs st, defBody st, defScope st, [], []⟩
abbrev dMe (x m q : Str) (st : Stmt) : He5.DefA := ⟨fun K => He.ma K (He.ga K x) m, m, q, defArgs st, defBody st, defScope st, [], []⟩
section
variable {K : PySem.W.Frag} {h : Heap} {mg : Str → Option Value} {x m q : Str} {st : Stmt} {ps : List Str}
theorem def_w (X : K.In h) (G : h.Ns mainGlobals mg) (F : ∃ fd, FunD K x x (defArgs st) (defBody st) (defScope st) [] [] (He.ga K x) fd) (g : (He.Fa.glo x).ok K = true)
    (hb : ∀ (kV doc pm : Value) (an : Option Addr) (cdv ct : Value) (us : List Value), us.length = ps.length → bindArgs (PySem.W.fnOf x x (defArgs st) (defBody st) (defScope st) .none kV doc pm an cdv ct) ⟨us, []⟩ = pure (ps.zip us)) : Def K mg x st ps := by
  obtain ⟨fd, F⟩ := F
  exact ⟨_, fd, He5.fun_of F, He.glo_ok X G g, FunD.bindsN F hb⟩
theorem bindsM (hb : ∀ (kV doc pm : Value) (an : Option Addr) (cdv ct : Value) (us : List Value), us.length = ps.length → bindArgs (PySem.W.fnOf m q (defArgs st) (defBody st) (defScope st) .none kV doc pm an cdv ct) ⟨us, []⟩ = pure (ps.zip us)) {f : Addr} {fd : FuncData}
    (F : FunD K m q (defArgs st) (defBody st) (defScope st) [] [] f fd) : Binds K fd ps [] := FunD.bindsN F hb
/-- an own exception class -/
def exShape (C : Addr) (K : PySem.W.Frag) : Bool := match K.lookup C with
  | some ⟨.type "type", _, .cls cd, sl⟩ => (match cd.mro, sl.toList with
    | .ref C' :: bm, [_, _, _, _, some (.builtin n), _] => C' == C && n == "ValueError.__new__" && !cd.hasDel && cd.hasDict && PySem.HandSPX.refsVE bm
    | _, _ => false)
  | _ => false
theorem exShape_ok {C : Addr} (g : exShape C K = true) : ∃ nm q N bs bm sn sub ab col dd k0 k1 k2 k3 k5, K.lookup C = some (excClassObj nm q C N bs bm true sn sub ab col dd k0 k1 k2 k3 k5 "ValueError.__new__") ∧ PySem.HandSPX.refsVE bm = true := by
  unfold exShape at g
  split at g
  · rename_i dd cd sl ho
    split at g
    · rename_i C' bm k0 k1 k2 k3 n k5 hm hs
      simp only [Bool.and_eq_true, beq_iff_eq, Bool.not_eq_true'] at g
      obtain ⟨⟨⟨⟨rfl, rfl⟩, hdel⟩, hdc⟩, ht⟩ := g
      obtain ⟨nm, bs, mro, ns, qn, hd, sn, sub, ab, col, del⟩ := cd
      dsimp only at hm hdel hdc
      subst hm hdel hdc
      have hsl : sl = #[k0, k1, k2, k3, some (.builtin "ValueError.__new__"), k5] := by
        obtain ⟨l⟩ := sl
        simp only at hs
        rw [hs]
      subst hsl
      exact ⟨nm, qn, ns, bs, bm, sn, sub, ab, col, dd, k0, k1, k2, k3, k5, ho, ht⟩
    · cases g
  · cases g
def ecB (x : Str) (K : PySem.W.Frag) : Bool := exShape (He.ga K x) K && (He.eqO (PySem.W.findIn K (.ref (He.ga K x)) "__setattr__") (some (some (.builtin "object.__setattr__"))) && (decide (PySem.W.subIn K (.ref (He.ga K x)) (.type "BaseException") = some true) &&
  (decide (PySem.W.typeIn K (.ref (He.ga K x)) = some (.type "type")) && (PySem.W.keepIn K (.ref (He.ga K x)) && (xfB K (He.ga K x) && (He.eqO (PySem.W.findIn K (.ref (He.ga K x)) "__class__") (some (some (.builtin "object.__class__"))) &&
  (He.eqO (PySem.W.specialIn K (.builtin "object.__class__") "__get__") (some (some (.builtin "getset_descriptor.__get__"))) && (decide (PySem.W.takesIn K (.builtin "object.__class__") = some true) && (decide (PySem.W.mroIn K (He.ga K x) (.type "object") = some true) && PySem.W.isClsIn K (He.ga K x))))))))))
theorem ec_w (X : K.In h) (G : h.Ns mainGlobals mg) (g : (He.Fa.glo x).ok K = true) (b : ecB x K = true) : Ec K mg x (He.ga K x) := by
  obtain ⟨b1, b⟩ := He.ba b
  obtain ⟨b2, b⟩ := He.ba b
  obtain ⟨b3, b⟩ := He.ba b
  obtain ⟨b4, b⟩ := He.ba b
  obtain ⟨b5, b⟩ := He.ba b
  obtain ⟨b6, b⟩ := He.ba b
  obtain ⟨b7, b⟩ := He.ba b
  obtain ⟨b8, b⟩ := He.ba b
  obtain ⟨b9, b⟩ := He.ba b
  obtain ⟨b10, b11⟩ := He.ba b
  exact { gC := He.glo_ok X G g, ox := ⟨exShape_ok b1, He.eqO_ok b2, of_decide_eq_true b3, of_decide_eq_true b4, b5⟩, xf := xfB_ok b6, ca := He.eqO_ok b7, sg := He.eqO_ok b8, tk := of_decide_eq_true b9, mo := of_decide_eq_true b10, ic := b11 }
/-- its __init__ is found, its arguments are no names of the class -/
def xiB (x : Str) (gs : List Str) (K : PySem.W.Frag) : Bool := He.eqO (PySem.W.findIn K (.ref (He.ga K x)) "__init__") (some (some (.ref (He.ma K (He.ga K x) "__init__")))) && (decide (PySem.W.typeIn K (.ref (He.ma K (He.ga K x) "__init__")) = some (.type "function")) &&
  gs.all fun f => He.eqO (PySem.W.findIn K (.ref (He.ga K x)) f) (some none))
theorem xm_w {P : Program} {w : World} {base : Heap} {gs : List Str} (ec : Ec K mg x (He.ga K x)) (b : xiB x gs K = true) {fd : FuncData} (F : FnOk P w K mg base CX0 1 (He.ma K (He.ga K x) "__init__") fd ("self" :: gs) (spIni (He.ga K x) gs))
    (bi : Binds K fd ("self" :: gs) []) : Xm P w K mg base x (He.ga K x) gs := by
  obtain ⟨b1, b⟩ := He.ba b
  obtain ⟨b2, b3⟩ := He.ba b
  exact ⟨ec, fun f hf => He.eqO_ok (List.all_eq_true.mp b3 f hf), _, fd, He.eqO_ok b1, of_decide_eq_true b2, F, bi⟩
theorem xi_no {gs : List Str} (b : xiB x gs K = true) {f : Str} (hf : f ∈ gs) : PySem.W.findIn K (.ref (He.ga K x)) f = some none := by
  obtain ⟨b1, b⟩ := He.ba b
  obtain ⟨b2, b3⟩ := He.ba b
  exact He.eqO_ok (List.all_eq_true.mp b3 f hf)
/-- isinstance of an instance of x: the class c -/
def isB (x c : Str) (b : Bool) (K : PySem.W.Frag) : Bool := decide (PySem.W.kitOne K (.ref (He.ga K x)) (.ref (He.ga K c)) = some b)
theorem is_w {c : Str} {b : Bool} (X : K.In h) (G : h.Ns mainGlobals mg) (g : (He.Fa.glo c).ok K = true) (e : isB x c b K = true) : Isx K mg (He.ga K x) c b := ⟨_, He.glo_ok X G g, of_decide_eq_true e⟩
/-- an except clause's class takes it -/
def hnB (x c : Str) (b : Bool) (K : PySem.W.Frag) : Bool := decide (PySem.W.exmOne K (.ref (He.ga K x)) (.ref (He.ga K c)) = some b)
theorem hn_w {c : Str} {b : Bool} (X : K.In h) (G : h.Ns mainGlobals mg) (g : (He.Fa.glo c).ok K = true) (e : hnB x c b K = true) : Hnd K mg c (He.ga K x) b := ⟨_, He.glo_ok X G g, of_decide_eq_true e⟩
def ivB (x : Str) (K : PySem.W.Frag) : Bool := decide (PySem.W.kitOne K (.ref (He.ga K x)) (.type "ValueError") = some true)
end
end Hd

namespace Hd
open PySem PySem.Spec PyProof.Rows L2
/-! ### a def whose promise may speak of the size of the heap at its call -/
section
variable {P : Program} {w : World} {K : PySem.W.Frag} {mg : Str → Option Value} {base : Heap}
structure FnS (P : Program) (w : World) (K : PySem.W.Frag) (mg : Str → Option Value) (base : Heap) (k : Nat) (f : Addr) (fd : FuncData) (ps : List Str) (sp : Nat → Sp) : Prop where
  leS : ∀ n vs H Q E, sp n vs H Q E → vs.length = ps.length
  go : ∀ (A : Around) (st : List Env) (s : Shared) (H : Hp) (args : Args) (us : List Value) (vs : List V) (Q : VK) (E : XK), Room k A → Env0 P w K mg base A st s H → BindsTo s fd args (ps.zip us) → Vals vs us → sp s.heap.objs.size vs H Q E → codeAny (model P w) A (.call (.ref f) args) (CR CX0 st P w H s Q E) s
end
/-! ### for x in o, its own __iter__ gives a list's iterator -/
section
variable {X : Cx} {C : Addr} {k : Nat} {ps : List Str}
end
end Hd

namespace Hd
open PySem PySem.Spec PyProof.Rows L2
/-! ### t >= u -/
end Hd

namespace Hd
open PySem PySem.Spec PyProof.Rows L2
/-! ### a list, a tuple, or a tuple that is a constant of the module -/
abbrev KTup (K : PySem.W.Frag) (a : Addr) (xs : List V) : Prop := ∃ (o : Obj) (its : Array Value) (n : Nat), K.lookup a = some o ∧ o.cls = .type "tuple" ∧ o.data = .seq its n ∧ its.size ≤ sizeLine ∧ Vals xs its.toList
abbrev HasS (K : PySem.W.Frag) (H : Hp) (a : Addr) (xs : List V) : Prop := HasL H a xs ∨ KTup K a xs
theorem HasS.len {K : PySem.W.Frag} {H : Hp} {a : Addr} {xs : List V} (h : HasS K H a xs) : SqL K H a xs ∨ SqT K H a xs := h.elim (fun h => h.len) fun h => .inr (.inr h)
theorem HasS.lenV {K : PySem.W.Frag} {H : Hp} {a : Addr} {xs : List V} (h : HasS K H a xs) : LenV K (.ref a) H xs.length := h.len.imp (fun z => ⟨_, z, rfl⟩) fun z => ⟨_, z, rfl⟩
theorem HasS.up {K : PySem.W.Frag} {H H' : Hp} (g : Same H H') {a : Addr} {xs : List V} (h : HasS K H a xs) : HasS K H' a xs := h.imp (fun h => h.imp (g _ _) (g _ _)) id
end Hd

namespace Hd
open PySem PySem.Spec PyProof.Rows L2
/-! ### defs whose last parameter has an empty tuple as its default, called with and without it, and by its name -/
structure Bd (K : PySem.W.Frag) (fd : FuncData) (ps : List Str) (E : Addr) (kn : Str) : Prop where
  all : Binds K fd ps []
  dfl : Binds K fd ps [.ref E]
  kw : KBn K fd ps (ps.length - 1) [kn] (fun us ws => us ++ ws) (fun vs zs => vs ++ zs)
  emp : KTup K E []
def CalB (P : Program) (w : World) (K : PySem.W.Frag) (mg : Str → Option Value) (base : Heap) (x : Str) (k : Nat) (ps : List Str) (sp : Sp) (E : Addr) (kn : Str) : Prop :=
  ∃ f fd, FnOk P w K mg base (L2N.CX P w) k f fd ps sp ∧ mg x = some (.ref f) ∧ PySem.W.keepIn K (.ref f) = true ∧ Bd K fd ps E kn
def CalMB (P : Program) (w : World) (K : PySem.W.Frag) (mg : Str → Option Value) (base : Heap) (C : Addr) (m : Str) (k : Nat) (ps : List Str) (sp : Sp) (E : Addr) : Prop :=
  ∃ f fd, FnOk P w K mg base (L2N.CX P w) k f fd ps sp ∧ PySem.W.findIn K (.ref C) m = some (some (.ref f)) ∧ PySem.W.isFn K (.ref f) = true ∧ PySem.W.keepIn K (.ref f) = true ∧ Binds K fd ps [] ∧ Binds K fd ps [.ref E] ∧ KTup K E []
section
variable {P : Program} {w : World} {K : PySem.W.Frag} {mg : Str → Option Value} {base : Heap} {x m qual kn : Str} {st : Stmt} {ps N : List Str} {k : Nat} {sp : Sp} {C E : Addr}
theorem CalB.cx (c : CalB P w K mg base x k ps sp E kn) : CalX P w K mg base x k ps sp := by
  obtain ⟨f, fd, F, g, kp, b⟩ := c
  exact ⟨f, fd, F, g, kp, b.all⟩
theorem CalMB.cx (c : CalMB P w K mg base C m k ps sp E) : CalM P w K mg base C m k ps sp := by
  obtain ⟨f, fd, F, g, i, kp, b, -⟩ := c
  exact ⟨f, fd, F, g, i, kp, b⟩
theorem CalB.emp (c : CalB P w K mg base x k ps sp E kn) : KTup K E [] := by
  obtain ⟨f, fd, F, g, kp, b⟩ := c
  exact b.emp
theorem CalMB.emp (c : CalMB P w K mg base C m k ps sp E) : KTup K E [] := by
  obtain ⟨f, fd, F, g, i, kp, b, b2, e⟩ := c
  exact e
end
section
variable {X : Cx} {x kn : Str} {k : Nat} {ps : List Str} {sp : Sp} {C E : Addr} {e : Expr} {es : List Expr} {kws : List Keyword} {t tk : TA} {p pos : Pos}
end
/-! ### where they come from -/
section
variable {K : PySem.W.Frag} {h : Heap} {mg : Str → Option Value} {x m q kn : Str} {st : Stmt} {ps : List Str} {E f : Addr} {fd : FuncData}
end
section
variable {K : PySem.W.Frag} {h : Heap} {mg : Str → Option Value} {x m q kn : Str} {st : Stmt} {ps : List Str} {E : Addr}
end
end Hd

namespace Hd
open PySem PySem.Spec PyProof.Rows L2
/-! ### defs that may call repr: nothing is being shown around them -/
section
variable {P : Program} {w : World} {K : PySem.W.Frag} {mg : Str → Option Value} {base : Heap}
structure FnG (P : Program) (w : World) (K : PySem.W.Frag) (mg : Str → Option Value) (base : Heap) (k : Nat) (f : Addr) (fd : FuncData) (ps : List Str) (sp : Sp) : Prop where
  leG : ∀ vs H Q E, sp vs H Q E → vs.length = ps.length
  go : ∀ (A : Around) (st : List Env) (s : Shared) (H : Hp) (args : Args) (us : List Value) (vs : List V) (Q : VK) (E : XK), A.guards = some [] → Room k A → Env0 P w K mg base A st s H → BindsTo s fd args (ps.zip us) → Vals vs us → sp vs H Q E → codeAny (model P w) A (.call (.ref f) args) (CR CX0 st P w H s Q E) s
end
section
variable {X : Cx} {x : Str} {q pos : Pos} {e : Expr} {es : List Expr} {k : Nat} {ps : List Str} {sp : Sp} {t : TA}
end
end Hd
namespace Hd
open PySem PySem.Spec PyProof.Rows L2
/-! ### the law's own call: nothing is being shown -/
/-- H tracks the script at most -/
structure Just (K : PySem.W.Frag) (P : Program) (w : World) (H : Hp) (a : Addr) (s0 : Shared) : Prop where
  only : Only H
  ok : HOk P w H s0.heap
  at_ : ∀ b, H b ≠ none → b = a ∧ K.lookup a = none
end Hd

namespace Hd
open PySem PySem.Spec PyProof.Rows L2
/-! ### d.keys(), list(d.keys()) -/
section
variable {X : Cx}
end
/-! ### slices -/
/-! ### rows of whole numbers, alike or not -/
section
variable {X : Cx}
end
end Hd

namespace Hd
open PySem PySem.Spec PyProof.Rows L2
/-! ### what may be shown -/
structure Shw (d : PyData) : Prop where
  sh : d.showable = true
  nd : d.hasDict = false
  dp : d.depth < 60
  fit : d.shown.length ≤ sizeLine
/-- an entry of what is shown -/
structure ShwE (d : PyData) : Prop where
  sh : d.showable = true
  nd : d.hasDict = false
  dp : d.depth ≤ 4
  ls : d.leavesShort 100 = true
  wt : d.weight ≤ 500
theorem ShwE.int {i : Int} (h : i.natAbs < 10 ^ 40) : ShwE (.int i) := by
  have lg : i.natAbs.log2 < 133 := by
    by_cases e : i.natAbs = 0
    · rw [e]; decide
    · rw [Nat.log2_lt e]
      exact Nat.lt_trans h (by decide +kernel)
  refine ⟨decide_eq_true (Nat.lt_trans lg (by decide)), rfl, Nat.zero_le _, decide_eq_true ?_, ?_⟩
  · have := int_text_length_le10 (k := 40) (by decide) h
    show (Str.ofString (toString i)).length ≤ 100
    rw [PySem.ofString_length]
    omega
  · show (if i == 0 then 0 else i.natAbs.log2 + 1) ≤ 500
    split <;> omega
theorem ShwE.small {i : Int} (h0 : -1000 ≤ i) (h1 : i ≤ 1000) : ShwE (.int i) := .int (Nat.lt_of_le_of_lt (show i.natAbs ≤ 1000 by omega) (by decide +kernel))
section
variable {X : Cx}
end
end Hd

namespace Hd
open PySem PySem.Spec PyProof.Rows L2
/-! ### a comprehension within a comprehension's block -/
section
variable {X : Cx} {K : PySem.W.Frag}
end
end Hd

namespace Hd
open PySem PySem.Spec PyProof.Rows L2
section
variable {X : Cx} {p : Addr × Obj} {D d : Addr}
/-- err.n, where the class has no n of its own -/
def tErrG (K : PySem.W.Frag) (p : Addr × Obj) (D d : Addr) (n : Str) (te : TE) : TE := fun σ H Q => te σ H fun x H1 => x = .ref p.1 ∧ PySem.W.findIn K (.ref D) n = some none ∧ ∃ (fs : List (Str × V)) (v : V), ErrAt D d fs H1 p ∧ fs.lookup n = some v ∧ Q v H1
theorem pe_errG {x : Str} {e : Expr} {te : TE} {pos : Pos} {n : Str} (T : Ec X.K X.mg x D) (hp : p ∈ X.pn) (he : PE X e te) (hb : attributeBase e n X.env (eval e X.env) = eval e X.env := by rfl) :
    PE X (.Attribute e n pos) (tErrG X.K p D d n te) := by
  constructor
  intro pins s σ H Q I h
  refine attr_of hb (thn (he.run pins s σ H _ I h) ?_)
  rintro u s1 ⟨y, H1, I1, ry, rfl, hno, fs, v, at_, l, q⟩
  obtain rfl : u = Value.ref p.1 := ry
  obtain ⟨od, mA, J, hns, hr, hl⟩ := at_.inst hp I1
  obtain ⟨u, hu, ru⟩ := RelO.some_of (v := v) (o := mA n) (by rw [← l]; exact hr n)
  exact HandSPX.exc_get I1.kIn J T.xf.ga T.xf.gg T.xf.exC (PySem.W.findObj_own T.xf.hdC hno rfl (by rw [hl, hu])) (handed_of ru) ⟨v, H1, I1.tok _, ru, q⟩
end
end Hd

namespace Hd
open PySem PySem.Spec PyProof.Rows L2
/-! ### all(list) while an exception is handled -/
theorem hotAt_keep {A : Around} {x1 : Addr} {h h' : Heap} (k : HotX.HotAt A x1 h) (e : ∀ o, h.get? x1 = some o → h'.get? x1 = some o) : HotX.HotAt A x1 h' := by
  obtain ⟨a, o, vs, b, c, d⟩ := k
  exact ⟨a, o, vs, e _ b, c, d⟩
theorem walks_hot {prog : Program} {w : World} {A : Around} {x1 : Addr} (it ax : Addr) (hne : ax ≠ it) (nx : x1 ≠ it) (items : Array Value) :
    Walks prog w A it [it, ax, x1] [it] items.size (fun i v => items[i]? = some v) (fun i h => h.IsListIter it ax i ∧ h.IsList ax items ∧ HotX.HotAt A x1 h) where
  sub := fun b hb => by
    rw [List.mem_singleton.mp hb]
    exact List.mem_cons_self
  frame := fun i h h' st k => ⟨st.1.at fun o e => k it (by simp) o e, st.2.1.at fun o e => k ax (by simp) o e, hotAt_keep st.2.2 fun o e => k x1 (by simp) o e⟩
  item := fun i s Q E hi st hQ => by
    refine wpAny_pyNext_list_item st.1 st.2.1 (x := items[i]) (by simp [hi]) fun h' hit' hs' => ?_
    exact hQ _ h' s.toks (by simp [hi]) ⟨hit', st.2.1.extBut hs'.extBut hne, hotAt_keep st.2.2 fun o e => hs'.extBut x1 o nx e⟩ fun b o hb e => hs'.extBut b o (fun h => hb (by simp [h])) e
  done := fun s Q E st hQ => listEnd_hot st.2.2 nx st.1 st.2.1 (by simp) fun h' he' => hQ h' s.toks fun b o hb e => he' b o (fun h => hb (by simp [h])) e
  self := fun i s Q E st hQ => wpAny_pyIter_listiter st.1 hQ
theorem cr_allH {X : Cx} (hot : L2H.HotC X) : CallR X (.builtin "all") (rAll X.K) := by
  intro pins s σ H vs us Q I r h
  obtain ⟨a, bs, rfl, hs, q⟩ := h
  obtain ⟨its, rv, hl, _⟩ := I.list hs
  rw [Vals.ref1 r]
  have hb := rv.bls
  obtain ⟨x1, hx⟩ := hot.at I
  refine call_all_walk (iter_any hl.isList fun s2 e2 st hne => ?_)
  subst e2
  have n1 : x1 ≠ s.heap.objs.size := by
    obtain ⟨_, o, _, e, _⟩ := hx
    exact Nat.ne_of_lt (Heap.lt_size e)
  refine ⟨_, _, _, _, _, _, _, rfl, walks_hot (A := X.A.in1) (x1 := x1) _ a hne n1 its.toArray, ⟨st.1, st.2, hotAt_keep (A := X.A.in1) (h := s.heap) hx fun o e => Heap.get?_push_of_some _ e⟩, truth_bools hb, fun h' tk hk => ?_⟩
  refine ⟨.bl _, H, I.kept fun b o eo => hk b o (fun hmem => ?_) (Heap.get?_push_of_some _ eo), ?_, q⟩
  · rcases List.mem_cons.mp hmem with e1 | hmem
    · exact absurd (e1 ▸ Heap.lt_size eo) (Nat.lt_irrefl _)
    · cases hmem
  · show Value.bool _ = Value.bool _
    rw [← L2.all_range, hb, List.size_toArray, List.length_map]
end Hd

namespace Hd
open PySem PySem.Spec PyProof.Rows L2
/-! ### rows, alike and their sizes -/
end Hd

namespace Hd
open PySem PySem.Spec PyProof.Rows L2
section
variable {X : Cx}
end
end Hd

namespace Hd
open PySem PySem.Spec PyProof.Rows L2
/-! ### moves made out of others, one that is new at a time -/
end Hd

/-! Sc: set comprehensions of ints, sorted of such a set of any size. -/
namespace Hd
open PySem PySem.Spec PyProof.Rows L2
section
variable {X : Cx}
end
end Hd
namespace Hd
open PySem PySem.Spec PyProof.Rows L2
section
variable {X : Cx}
end
end Hd
namespace Hd
open PySem PySem.Spec PyProof.Rows L2
/-! ### the members of such a set -/
/-- how many different ints -/
def many : List Int → Nat
  | [] => 0
  | k :: l => if k ∈ l then many l else many l + 1
end Hd
namespace Hd
open PySem PySem.Spec PyProof.Rows L2
end Hd
namespace Hd
end Hd
namespace Hd
open PySem PySem.Spec PyProof.Rows L2
end Hd

/-! Kt: keys() of a dict whose keys are tuples, list of it -/
namespace Hd
open PySem PySem.Spec PyProof.Rows L2
section
variable {prog : Program} {w : World} {A : Around} {E : Value → Shared → Prop} {s : Shared} {o : Obj} {es : Array DictEntry} {ep : Nat}
end
section
variable {X : Cx}
end
end Hd
namespace Hd
end Hd

/-! Mx: C(e, ..) where the making may raise, within a try or in a def that lets it out. -/
namespace Hd
open PySem PySem.Spec PyProof.Rows L2
section
variable {X : Cx} {C : Addr} {x : Str} {k : Nat} {ps : List Str} {sp : Sp} {e : Expr} {es : List Expr} {t : TA} {p pos : Pos}
end
end Hd

namespace Hd
open PySem PySem.Spec PyProof.Rows L2
/-! ### a != b, and == with what is no instance: the first one's own __eq__ -/
section
variable {prog : Program} {w : World} {A : Around} {E : Value → Shared → Prop} {s : Shared} {K : PySem.W.Frag} {x C f L : Addr} {h₀ : Heap} {m : Str → Option Value} {ox : Obj} {od : Option Obj} {b tb : Value}
end
section
variable {X : Cx} {C : Addr} {k : Nat} {ps : List Str} {sp : Sp}
end
/-- what is asked of the class for these -/
structure Nc (K : PySem.W.Frag) (C : Addr) : Prop where
  ne : PySem.W.findIn K (.ref C) "__ne__" = some (some (.builtin "object.__ne__"))
  mo : PySem.W.mroIn K C (.type "object") = some true
  cl : (PySem.W.clsIn K C).isSome = true
  ty : PySem.W.typeIn K (.ref C) = some (.type "type")
/-! ### <= of tuples -/
end Hd

namespace Hd
open PySem PySem.Spec PyProof.Rows L2
/-! ### t[::-1] of a tuple -/
section
variable {prog : Program} {w : World} {A : Around} {E : Value → Shared → Prop} {s : Shared}
end
section
variable {X : Cx}
end
end Hd

/-! Dt: dict comprehensions whose keys are tuples. -/
namespace Hd
open PySem PySem.Spec PyProof.Rows L2
section
variable {X : Cx}
end
end Hd

/-! Wk: one rule for the loops of comprehensions, whatever is walked. -/
namespace Hd
open PySem PySem.Spec PyProof.Rows L2
/-- J walks xs where `held` -/
structure Walk (J : It) (held : Hp → Prop) (xs : List V) : Prop where
  stop : ∀ H i, held H → xs.length ≤ i → J.stop i H
  go : ∀ H i, held H → i < xs.length → J.go i H
  yld : ∀ H i x H', held H → J.yld i H x H' → H' = H ∧ xs[i]? = some x
/-! ### >= of tuples -/
end Hd

namespace Hd
open PySem PySem.Spec PyProof.Rows L2
/-! ### sum(list of ints) while an exception is handled -/
theorem preSum_take (ns : List Int) : ∀ n, n ≤ ns.length → preSum (fun i => (ns[i]?).getD 0) n = (ns.take n).sum
  | 0, _ => by rw [List.take_zero]; rfl
  | n + 1, h => by
    have ih := preSum_take ns n (by omega)
    show preSum _ n + (ns[n]?).getD 0 = _
    rw [ih, List.take_add_one, List.getElem?_eq_getElem (by omega), List.sum_append]
    show _ + _ = _ + (ns[n] + 0)
    rw [Int.add_zero]
    rfl
theorem ints_at : ∀ {ns : List Int} {us : List Value}, Vals (ns.map V.int) us → us.length = ns.length ∧ ∀ (i : Nat) v, us[i]? = some v → ∃ t, v = .int ((ns[i]?).getD 0) t := by
  intro ns
  induction ns with
  | nil =>
    intro us r
    cases r
    exact ⟨rfl, fun i v h => by simp at h⟩
  | cons n ns ih =>
    intro us r
    cases r with
    | cons r1 r2 =>
      obtain ⟨l, k⟩ := ih r2
      obtain ⟨t, rfl⟩ := r1
      refine ⟨by rw [List.length_cons, List.length_cons, l], fun i v h => ?_⟩
      cases i with
      | zero => exact ⟨t, (Option.some.inj h).symm⟩
      | succ i => exact k i v h
theorem cr_sumH {X : Cx} (hot : L2H.HotC X) : CallR X (.builtin "sum") (rSum X.K) := by
  intro pins s σ H vs us Q I r h
  obtain ⟨a, ns, rfl, hs, q⟩ := h
  obtain ⟨its, rv, hl, _⟩ := I.list hs
  rw [Vals.ref1 r]
  obtain ⟨li, ia⟩ := ints_at rv
  obtain ⟨x1, hx⟩ := hot.at I
  refine call_sum_walkG (iter_any hl.isList fun s2 e2 st hne => ?_)
  subst e2
  have p1 : x1 < s.heap.objs.size := by
    obtain ⟨_, o, _, e, _⟩ := hx
    exact Heap.lt_size e
  have n1 : x1 ≠ s.heap.objs.size := Nat.ne_of_lt p1
  refine ⟨_, _, _, _, _, _, fun i => (ns[i]?).getD 0, rfl, walks_hot (A := X.A.in1) (x1 := x1) _ a hne n1 its.toArray, ⟨st.1, st.2, hotAt_keep (A := X.A.in1) (h := s.heap) hx fun o e => Heap.get?_push_of_some _ e⟩, ?_, ?_, fun h' tk t' hk => ?_⟩
  · have pa : a < s.heap.objs.size := by
      obtain ⟨o, eo, _⟩ := hl.isList
      exact Heap.lt_size eo
    intro b hb
    have sz : (s.heap.push { cls := Value.type "list_iterator", data := Data.fields #[Value.ref a, Value.int 0 0] }).objs.size = s.heap.objs.size + 1 := Array.size_push ..
    rw [sz]
    simp only [List.mem_cons, List.not_mem_nil, or_false] at hb
    rcases hb with rfl | rfl | rfl
    · exact Nat.lt_succ_self _
    · exact Nat.lt_succ_of_lt pa
    · exact Nat.lt_succ_of_lt p1
  · exact fun i v hv => ia i v (by rw [← hv, List.getElem?_toArray])
  refine ⟨.int _, H, I.kept fun b o eo => hk b o (fun hmem => ?_) (Heap.get?_push_of_some _ eo), ?_, q⟩
  · rcases List.mem_cons.mp hmem with e1 | hmem
    · exact absurd (e1 ▸ Heap.lt_size eo) (Nat.lt_irrefl _)
    · cases hmem
  · refine ⟨t', ?_⟩
    rw [List.size_toArray, li, preSum_take ns _ (Nat.le_refl _), List.take_length]
/-! ### defs all of whose arguments are given by their names -/
def idK (us ws : List Value) : List Value := us ++ ws
def idV (vs zs : List V) : List V := vs ++ zs
def DefK (K : PySem.W.Frag) (mg : Str → Option Value) (x : Str) (st : Stmt) (ps : List Str) : Prop :=
  ∃ f fd, Fun K x x st f fd ∧ mg x = some (.ref f) ∧ Binds K fd ps [] ∧ KBn K fd ps 0 ps idK idV
def CalK (P : Program) (w : World) (K : PySem.W.Frag) (mg : Str → Option Value) (base : Heap) (x : Str) (k : Nat) (ps : List Str) (sp : Sp) : Prop :=
  ∃ f fd, FnOk P w K mg base (L2N.CX P w) k f fd ps sp ∧ mg x = some (.ref f) ∧ PySem.W.keepIn K (.ref f) = true ∧ Binds K fd ps [] ∧ KBn K fd ps 0 ps idK idV
section
variable {P : Program} {w : World} {K : PySem.W.Frag} {mg : Str → Option Value} {base : Heap} {x m qual kn : Str} {st : Stmt} {ps N : List Str} {k : Nat} {sp : Sp} {C E : Addr}
theorem CalK.cx (c : CalK P w K mg base x k ps sp) : CalX P w K mg base x k ps sp := by
  obtain ⟨f, fd, F, g, kp, b, -⟩ := c
  exact ⟨f, fd, F, g, kp, b⟩
theorem DefK.def_ (D : DefK K mg x st ps) : Def K mg x st ps := by
  obtain ⟨f, fd, F, g, b, -⟩ := D
  exact ⟨f, fd, F, g, b⟩
theorem DefK.calK (D : DefK K mg x st ps) (S : FnScope N ps (defScope st)) (len : ∀ vs H Q E, sp vs H Q E → vs.length = ps.length)
    (hb : ∀ (f : Addr) (cdv : Value) (A : Around) (outer : List Env) (s : Shared) (H : Hp) (vs : List V) (Q : VK) (E : XK), Room k (A.deeper (envOfC x (defScope st) s.heap.objs.size f cdv)) → sp vs H Q E →
      ∃ t, PSs (cxOf (L2N.CX P w) P w K mg base N x (defScope st) f cdv A outer s H E) (defBody st) t ∧ t { nx := fun _ H' => Q .non H', rt := Q } (start N vs) H) : CalK P w K mg base x (k + 1) ps sp := by
  obtain ⟨f, fd, F, g, b⟩ := D
  have kp := F.kp
  obtain ⟨oc, od, kV, doc, pm, an, cdv, ct, osl, rfl, lk, hcd⟩ := F.ex
  exact ⟨f, _, fn_of lk hcd S len fun A outer s H vs Q E hr h => hb f cdv A outer s H vs Q E hr h, g, kp, b⟩
theorem defK_w {h : Heap} (X : K.In h) (G : h.Ns mainGlobals mg) (F : ∃ fd, FunD K x x (defArgs st) (defBody st) (defScope st) [] [] (He.ga K x) fd) (g : (He.Fa.glo x).ok K = true)
    (hb : ∀ (kV doc pm : Value) (an : Option Addr) (cdv ct : Value) (us : List Value), us.length = ps.length → bindArgs (PySem.W.fnOf x x (defArgs st) (defBody st) (defScope st) .none kV doc pm an cdv ct) ⟨us, []⟩ = pure (ps.zip us))
    (hk : ∀ (kV doc pm : Value) (an : Option Addr) (cdv ct : Value) (ws : List Value), ws.length = ps.length → bindArgs (PySem.W.fnOf x x (defArgs st) (defBody st) (defScope st) .none kV doc pm an cdv ct) ⟨[], ps.zip ws⟩ = pure (ps.zip ws)) : DefK K mg x st ps := by
  obtain ⟨fd, F⟩ := F
  refine ⟨_, fd, He5.fun_of F, He.glo_ok X G g, FunD.bindsN F hb, fun s us ws _ l1 l2 => ?_, fun r1 r2 => r1.append r2⟩
  obtain ⟨oc, od, dV, kV, doc, pm, an, cdv, ct, osl, rfl, lk, hcd, hD, hK⟩ := F.ex
  have : us = [] := List.eq_nil_of_length_eq_zero l1
  subst this
  rcases hD with ⟨_, rfl⟩ | ⟨e, _⟩
  · exact .of_eq (hk kV doc pm an cdv ct ws l2)
  · exact absurd rfl e
end
section
variable {X : Cx} {x : Str} {k : Nat} {ps : List Str} {sp : Sp} {kws : List Keyword} {tk : TA} {p pos : Pos}
/-- x(a = v, ..), where nothing is raised -/
theorem pe_calK0 (c : CalK X.prog X.w X.K X.mg X.base x k ps sp) (hr : Room k X.A) (hg : Gl X x) (hkw : PK X kws tk) (hall : (backToKw pos (keywordEach kws X.env)).all (·.1.isSome) = true := by rfl) (hks : (backToKw pos (keywordEach kws X.env)).filterMap (·.1) = ps := by rfl)
    (hdb : (x == ("__debug__" : Str)) = false := by decide)
    (hpl : ((backTo pos (starEach [] X.env)).any (·.1) || (backToKw pos (keywordEach kws X.env)).any (·.1.isNone)) = false := by rfl) : PE X (.Call (.Name x p) [] kws pos) (tCallN 0 ps.length sp idV E0 tNil tk) := by
  obtain ⟨f, fd, F, g, kp, b, bk⟩ := c
  refine ⟨fun pins s σ H Q I h => ?_⟩
  refine wpAny_Call_Name_kw (ld_glob I hg g ?_ hdb)
  refine PySem.W.callWith_KW0 (h₀ := X.base) I.ok.mod.kin kp hall (thn (hkw.run pos pins s σ H _ I h) fun ws s2 ⟨zs, H2, I2, rz, l1, l2, q2⟩ => ⟨I2.kIn, ?_⟩) hpl
  rw [hks]
  exact run_fnN (us := []) (vs := []) F hr bk nothing_out I2 .nil rz l1 l2 q2
end
end Hd

namespace Hd
open PySem PySem.Spec PyProof.Rows L2
def topS (i : Nat) : Stmt := PySem.Challenge.pw_heldorder_k51_the_swap_path_turns_two_ro.main.body.getD i (.Pass ⟨0, 0, 0, 0⟩)
abbrev s_is_number : Stmt := topS 36
theorem sc_is_number : FnScope ["value", "low", "high"] ["value", "low", "high"] (defScope s_is_number) := ⟨rfl, rfl, rfl, by decide +kernel, rfl, by decide +kernel, by decide +kernel⟩
abbrev s_check_number : Stmt := topS 37
theorem sc_check_number : FnScope ["value", "low", "high"] ["value", "low", "high"] (defScope s_check_number) := ⟨rfl, rfl, rfl, by decide +kernel, rfl, by decide +kernel, by decide +kernel⟩
abbrev s_check_entries : Stmt := topS 39
theorem sc_check_entries : FnScope ["row", "limit"] ["row", "limit"] (defScope s_check_entries) := ⟨rfl, rfl, rfl, by decide +kernel, rfl, by decide +kernel, by decide +kernel⟩
abbrev s_swapped : Stmt := topS 42
theorem sc_swapped : FnScope ["row", "index"] ["row", "index"] (defScope s_swapped) := ⟨rfl, rfl, rfl, by decide +kernel, rfl, by decide +kernel, by decide +kernel⟩
abbrev s_exchanged : Stmt := topS 43
theorem sc_exchanged : FnScope ["row", "index"] ["row", "index"] (defScope s_exchanged) := ⟨rfl, rfl, rfl, by decide +kernel, rfl, by decide +kernel, by decide +kernel⟩
abbrev s_swap_path : Stmt := topS 44
theorem sc_swap_path : FnScope ["first", "second", "k", "index"] ["first", "second"] (defScope s_swap_path) := ⟨rfl, rfl, rfl, by decide +kernel, rfl, by decide +kernel, by decide +kernel⟩
abbrev s_path_words : Stmt := topS 45
theorem sc_path_words : FnScope ["first", "second", "words", "index"] ["first", "second"] (defScope s_path_words) := ⟨rfl, rfl, rfl, by decide +kernel, rfl, by decide +kernel, by decide +kernel⟩
abbrev s_law_store : Stmt := topS 47
theorem sc_law_store : FnScope ["script", "cell"] ["script"] (defScope s_law_store) := ⟨rfl, rfl, rfl, by decide +kernel, rfl, by decide +kernel, by decide +kernel⟩
abbrev s_law_mixed : Stmt := topS 48
theorem sc_law_mixed : FnScope ["seed", "turn", "first", "second"] ["seed", "turn"] (defScope s_law_mixed) := ⟨rfl, rfl, rfl, by decide +kernel, rfl, by decide +kernel, by decide +kernel⟩
abbrev s_law_take : Stmt := topS 49
theorem sc_law_take : FnScope ["store", "many", "cell", "digit"] ["store", "many"] (defScope s_law_take) := ⟨rfl, rfl, rfl, by decide +kernel, rfl, by decide +kernel, by decide +kernel⟩
abbrev s_law_pick : Stmt := topS 50
theorem sc_law_pick : FnScope ["store", "things"] ["store", "things"] (defScope s_law_pick) := ⟨rfl, rfl, rfl, by decide +kernel, rfl, by decide +kernel, by decide +kernel⟩
abbrev s_law_place : Stmt := topS 51
theorem sc_law_place : FnScope ["store", "size", "pick"] ["store", "size"] (defScope s_law_place) := ⟨rfl, rfl, rfl, by decide +kernel, rfl, by decide +kernel, by decide +kernel⟩
abbrev s_law_either : Stmt := topS 52
theorem sc_law_either : FnScope ["store", "entries"] ["store", "entries"] (defScope s_law_either) := ⟨rfl, rfl, rfl, by decide +kernel, rfl, by decide +kernel, by decide +kernel⟩
abbrev s_law_is_whole : Stmt := topS 53
theorem sc_law_is_whole : FnScope ["value"] ["value"] (defScope s_law_is_whole) := ⟨rfl, rfl, rfl, by decide +kernel, rfl, by decide +kernel, by decide +kernel⟩
abbrev s_law_wrong_number : Stmt := topS 54
theorem sc_law_wrong_number : FnScope ["store", "low", "high", "far"] ["store", "low", "high"] (defScope s_law_wrong_number) := ⟨rfl, rfl, rfl, by decide +kernel, rfl, by decide +kernel, by decide +kernel⟩
abbrev s_law_agree : Stmt := topS 55
theorem sc_law_agree : FnScope ["actual", "due", "k"] ["actual", "due"] (defScope s_law_agree) := ⟨rfl, rfl, rfl, by decide +kernel, rfl, by decide +kernel, by decide +kernel⟩
abbrev s_law_big : Stmt := topS 56
theorem sc_law_big : FnScope ["store", "far"] ["store"] (defScope s_law_big) := ⟨rfl, rfl, rfl, by decide +kernel, rfl, by decide +kernel, by decide +kernel⟩
abbrev s_law_words : Stmt := topS 57
theorem sc_law_words : FnScope ["first", "second", "words", "t", "k", "cut"] ["first", "second"] (defScope s_law_words) := ⟨rfl, rfl, rfl, by decide +kernel, rfl, by decide +kernel, by decide +kernel⟩
abbrev s_law_kinds : Stmt := topS 58
theorem sc_law_kinds : FnScope ["error", "kinds", "flag"] ["error"] (defScope s_law_kinds) := ⟨rfl, rfl, rfl, by decide +kernel, rfl, by decide +kernel, by decide +kernel⟩
abbrev s_law_right_error : Stmt := topS 59
theorem sc_law_right_error : FnScope ["error", "due", "told", "one"] ["error", "due"] (defScope s_law_right_error) := ⟨rfl, rfl, rfl, by decide +kernel, rfl, by decide +kernel, by decide +kernel⟩
abbrev s_law_path : Stmt := topS 60
theorem sc_law_path : FnScope ["first", "second", "path", "t"] ["first", "second"] (defScope s_law_path) := ⟨rfl, rfl, rfl, by decide +kernel, rfl, by decide +kernel, by decide +kernel⟩
abbrev s_law_path_turns : Stmt := topS 61
theorem sc_law_path_turns : FnScope ["path", "many", "more", "row", "at", "k"] ["path", "many", "more"] (defScope s_law_path_turns) := ⟨rfl, rfl, rfl, by decide +kernel, rfl, by decide +kernel, by decide +kernel⟩
abbrev s_law_path_holds : Stmt := topS 62
theorem sc_law_path_holds : FnScope ["many", "more", "due", "path"] ["many", "more"] (defScope s_law_path_holds) := ⟨rfl, rfl, rfl, by decide +kernel, rfl, by decide +kernel, by decide +kernel⟩
abbrev s_law_words_hold : Stmt := topS 63
theorem sc_law_words_hold : FnScope ["store", "first", "second", "due", "one", "two", "words", "again", "path", "k"] ["store", "first", "second"] (defScope s_law_words_hold) := ⟨rfl, rfl, rfl, by decide +kernel, rfl, by decide +kernel, by decide +kernel⟩
abbrev s_law_refuses : Stmt := topS 64
theorem sc_law_refuses : FnScope ["rows", "one", "two", "due", "error"] ["rows", "one", "two", "due"] (defScope s_law_refuses) := ⟨rfl, rfl, rfl, by decide +kernel, rfl, by decide +kernel, by decide +kernel⟩
abbrev s_law : Stmt := topS 65
theorem sc_law : FnScope ["script", "store", "many", "more", "first", "second", "bad", "wide", "k"] ["script"] (defScope s_law) := ⟨rfl, rfl, rfl, by decide +kernel, rfl, by decide +kernel, by decide +kernel⟩
structure Zs (mg : Str → Option Value) : Prop where
  z_ValueError : mg "ValueError" = none
  z_isinstance : mg "isinstance" = none
  z_int : mg "int" = none
  z_bool : mg "bool" = none
  z_str : mg "str" = none
  z_tuple : mg "tuple" = none
  z_list : mg "list" = none
  z_len : mg "len" = none
  z_range : mg "range" = none
  z_all : mg "all" = none
  z_sum : mg "sum" = none
  c_MOST_ROW : ∃ t, mg "MOST_ROW" = some (.int 24 t)
  c_MOST_PATH_ROW : ∃ t, mg "MOST_PATH_ROW" = some (.int 12 t)
structure Ds (K : PySem.W.Frag) (mg : Str → Option Value) : Prop where
  d_is_number : Def K mg "is_number" s_is_number ["value", "low", "high"]
  d_check_number : Def K mg "check_number" s_check_number ["value", "low", "high"]
  d_check_entries : Def K mg "check_entries" s_check_entries ["row", "limit"]
  d_swapped : Def K mg "swapped" s_swapped ["row", "index"]
  d_exchanged : Def K mg "exchanged" s_exchanged ["row", "index"]
  d_swap_path : Def K mg "swap_path" s_swap_path ["first", "second"]
  d_path_words : Def K mg "path_words" s_path_words ["first", "second"]
  d_law_store : Def K mg "_law_store" s_law_store ["script"]
  d_law_mixed : Def K mg "_law_mixed" s_law_mixed ["seed", "turn"]
  d_law_take : Def K mg "_law_take" s_law_take ["store", "many"]
  d_law_pick : Def K mg "_law_pick" s_law_pick ["store", "things"]
  d_law_place : Def K mg "_law_place" s_law_place ["store", "size"]
  d_law_either : Def K mg "_law_either" s_law_either ["store", "entries"]
  d_law_is_whole : Def K mg "_law_is_whole" s_law_is_whole ["value"]
  d_law_wrong_number : Def K mg "_law_wrong_number" s_law_wrong_number ["store", "low", "high"]
  d_law_agree : Def K mg "_law_agree" s_law_agree ["actual", "due"]
  d_law_big : Def K mg "_law_big" s_law_big ["store"]
  d_law_words : Def K mg "_law_words" s_law_words ["first", "second"]
  d_law_kinds : Def K mg "_law_kinds" s_law_kinds ["error"]
  d_law_right_error : Def K mg "_law_right_error" s_law_right_error ["error", "due"]
  d_law_path : Def K mg "_law_path" s_law_path ["first", "second"]
  d_law_path_turns : Def K mg "_law_path_turns" s_law_path_turns ["path", "many", "more"]
  d_law_path_holds : Def K mg "_law_path_holds" s_law_path_holds ["many", "more"]
  d_law_words_hold : Def K mg "_law_words_hold" s_law_words_hold ["store", "first", "second"]
  d_law_refuses : Def K mg "_law_refuses" s_law_refuses ["rows", "one", "two", "due"]
/-- the class named nm at D, the k-th of those that are told apart -/
structure Es (K : PySem.W.Frag) (mg : Str → Option Value) (k : Nat) (nm : Str) (D : Addr) : Prop where
  ec : Ec K mg nm D
  lt : k < 32
  i_BadEdit : Isx K mg D "BadEdit" (k == 0)
  i_BadNumber : Isx K mg D "BadNumber" (k == 1)
  i_BadText : Isx K mg D "BadText" (k == 2)
  i_FullLot : Isx K mg D "FullLot" (k == 3)
  i_GameOver : Isx K mg D "GameOver" (k == 4)
  i_NoSuchLength : Isx K mg D "NoSuchLength" (k == 5)
  i_NotABase : Isx K mg D "NotABase" (k == 6)
  i_NotAChain : Isx K mg D "NotAChain" (k == 7)
  i_NotAColumn : Isx K mg D "NotAColumn" (k == 8)
  i_NotACount : Isx K mg D "NotACount" (k == 9)
  i_NotAFailing : Isx K mg D "NotAFailing" (k == 10)
  i_NotAMove : Isx K mg D "NotAMove" (k == 11)
  i_NotAPaper : Isx K mg D "NotAPaper" (k == 12)
  i_NotAPoint : Isx K mg D "NotAPoint" (k == 13)
  i_NotAWord : Isx K mg D "NotAWord" (k == 14)
  i_NotAllowed : Isx K mg D "NotAllowed" (k == 15)
  i_NotAnOrder : Isx K mg D "NotAnOrder" (k == 16)
  i_NotFull : Isx K mg D "NotFull" (k == 17)
  i_NotInside : Isx K mg D "NotInside" (k == 18)
  i_NotMade : Isx K mg D "NotMade" (k == 19)
  i_NotNeighbours : Isx K mg D "NotNeighbours" (k == 20)
  i_NotShorter : Isx K mg D "NotShorter" (k == 21)
  i_NotTight : Isx K mg D "NotTight" (k == 22)
  i_NothingKept : Isx K mg D "NothingKept" (k == 23)
  i_NothingToRedo : Isx K mg D "NothingToRedo" (k == 24)
  i_NothingToUndo : Isx K mg D "NothingToUndo" (k == 25)
  i_OrderMatters : Isx K mg D "OrderMatters" (k == 26)
  i_RepeatedPoint : Isx K mg D "RepeatedPoint" (k == 27)
  i_SameLength : Isx K mg D "SameLength" (k == 28)
  i_TooMany : Isx K mg D "TooMany" (k == 29)
  i_UnknownName : Isx K mg D "UnknownName" (k == 30)
  i_UnlikeSizes : Isx K mg D "UnlikeSizes" (k == 31)
  iH : Isx K mg D "HeldorderError" true
  hH : Hnd K mg "HeldorderError" D true
  iV : PySem.W.kitOne K (.ref D) (.type "ValueError") = some true
abbrev s_ini_BadNumber : Stmt := (clsB (topS 3)).getD 0 (.Pass ⟨0, 0, 0, 0⟩)
theorem sc_ini_BadNumber : FnScope ["self", "value", "low", "high"] ["self", "value", "low", "high"] (defScope s_ini_BadNumber) := ⟨rfl, rfl, rfl, by decide +kernel, rfl, by decide +kernel, by decide +kernel⟩
abbrev s_ini_TooMany : Stmt := (clsB (topS 6)).getD 0 (.Pass ⟨0, 0, 0, 0⟩)
theorem sc_ini_TooMany : FnScope ["self", "what", "limit"] ["self", "what", "limit"] (defScope s_ini_TooMany) := ⟨rfl, rfl, rfl, by decide +kernel, rfl, by decide +kernel, by decide +kernel⟩
def faL : List He.Fa := ([.glo "law", .free "ValueError", .free "isinstance", .free "int", .free "bool", .free "str", .free "tuple", .free "list", .free "len", .free "range", .free "all", .free "sum", .int "MOST_ROW" 24, .int "MOST_PATH_ROW" 12, .glo "is_number", .glo "check_number", .glo "check_entries", .glo "swapped", .glo "exchanged", .glo "swap_path", .glo "path_words", .glo "_law_store", .glo "_law_mixed", .glo "_law_take", .glo "_law_pick", .glo "_law_place", .glo "_law_either", .glo "_law_is_whole", .glo "_law_wrong_number", .glo "_law_agree", .glo "_law_big", .glo "_law_words", .glo "_law_kinds", .glo "_law_right_error", .glo "_law_path", .glo "_law_path_turns", .glo "_law_path_holds", .glo "_law_words_hold", .glo "_law_refuses", .glo "BadNumber"] : List (He.Fa)) ++ ([.glo "BadEdit", .glo "BadText", .glo "FullLot", .glo "GameOver", .glo "NoSuchLength", .glo "NotABase", .glo "NotAChain", .glo "NotAColumn", .glo "NotACount", .glo "NotAFailing", .glo "NotAMove", .glo "NotAPaper", .glo "NotAPoint", .glo "NotAWord", .glo "NotAllowed", .glo "NotAnOrder", .glo "NotFull", .glo "NotInside", .glo "NotMade", .glo "NotNeighbours", .glo "NotShorter", .glo "NotTight", .glo "NothingKept", .glo "NothingToRedo", .glo "NothingToUndo", .glo "OrderMatters", .glo "RepeatedPoint", .glo "SameLength", .glo "TooMany", .glo "UnknownName", .glo "UnlikeSizes", .glo "HeldorderError"] : List (He.Fa))
def fnL0 : List He5.DefA := [dFn "law" s_law, dFn "is_number" s_is_number, dFn "check_number" s_check_number, dFn "check_entries" s_check_entries, dFn "swapped" s_swapped, dFn "exchanged" s_exchanged, dFn "swap_path" s_swap_path, dFn "path_words" s_path_words, dFn "_law_store" s_law_store, dFn "_law_mixed" s_law_mixed, dFn "_law_take" s_law_take, dFn "_law_pick" s_law_pick, dFn "_law_place" s_law_place, dFn "_law_either" s_law_either, dFn "_law_is_whole" s_law_is_whole, dFn "_law_wrong_number" s_law_wrong_number, dFn "_law_agree" s_law_agree, dFn "_law_big" s_law_big, dFn "_law_words" s_law_words, dFn "_law_kinds" s_law_kinds, dFn "_law_right_error" s_law_right_error, dFn "_law_path" s_law_path, dFn "_law_path_turns" s_law_path_turns, dFn "_law_path_holds" s_law_path_holds, dFn "_law_words_hold" s_law_words_hold, dFn "_law_refuses" s_law_refuses, dMe "BadNumber" "__init__" "BadNumber.__init__" s_ini_BadNumber, dMe "TooMany" "__init__" "TooMany.__init__" s_ini_TooMany]
def fnL : List He5.DefA := fnL0
def exL : List (PySem.W.Frag → Bool) := ([ecB "BadNumber", isB "BadNumber" "BadEdit" false, isB "BadNumber" "BadNumber" true, isB "BadNumber" "BadText" false, isB "BadNumber" "FullLot" false, isB "BadNumber" "GameOver" false, isB "BadNumber" "NoSuchLength" false, isB "BadNumber" "NotABase" false, isB "BadNumber" "NotAChain" false, isB "BadNumber" "NotAColumn" false, isB "BadNumber" "NotACount" false, isB "BadNumber" "NotAFailing" false, isB "BadNumber" "NotAMove" false, isB "BadNumber" "NotAPaper" false, isB "BadNumber" "NotAPoint" false, isB "BadNumber" "NotAWord" false, isB "BadNumber" "NotAllowed" false, isB "BadNumber" "NotAnOrder" false, isB "BadNumber" "NotFull" false, isB "BadNumber" "NotInside" false, isB "BadNumber" "NotMade" false, isB "BadNumber" "NotNeighbours" false, isB "BadNumber" "NotShorter" false, isB "BadNumber" "NotTight" false, isB "BadNumber" "NothingKept" false, isB "BadNumber" "NothingToRedo" false, isB "BadNumber" "NothingToUndo" false, isB "BadNumber" "OrderMatters" false, isB "BadNumber" "RepeatedPoint" false, isB "BadNumber" "SameLength" false, isB "BadNumber" "TooMany" false, isB "BadNumber" "UnknownName" false, isB "BadNumber" "UnlikeSizes" false, isB "BadNumber" "HeldorderError" true, hnB "BadNumber" "HeldorderError" true, ivB "BadNumber", xiB "BadNumber" ["value", "low", "high"], ecB "TooMany", isB "TooMany" "BadEdit" false, isB "TooMany" "BadNumber" false] : List (PySem.W.Frag → Bool)) ++ ([isB "TooMany" "BadText" false, isB "TooMany" "FullLot" false, isB "TooMany" "GameOver" false, isB "TooMany" "NoSuchLength" false, isB "TooMany" "NotABase" false, isB "TooMany" "NotAChain" false, isB "TooMany" "NotAColumn" false, isB "TooMany" "NotACount" false, isB "TooMany" "NotAFailing" false, isB "TooMany" "NotAMove" false, isB "TooMany" "NotAPaper" false, isB "TooMany" "NotAPoint" false, isB "TooMany" "NotAWord" false, isB "TooMany" "NotAllowed" false, isB "TooMany" "NotAnOrder" false, isB "TooMany" "NotFull" false, isB "TooMany" "NotInside" false, isB "TooMany" "NotMade" false, isB "TooMany" "NotNeighbours" false, isB "TooMany" "NotShorter" false, isB "TooMany" "NotTight" false, isB "TooMany" "NothingKept" false, isB "TooMany" "NothingToRedo" false, isB "TooMany" "NothingToUndo" false, isB "TooMany" "OrderMatters" false, isB "TooMany" "RepeatedPoint" false, isB "TooMany" "SameLength" false, isB "TooMany" "TooMany" true, isB "TooMany" "UnknownName" false, isB "TooMany" "UnlikeSizes" false, isB "TooMany" "HeldorderError" true, hnB "TooMany" "HeldorderError" true, ivB "TooMany", xiB "TooMany" ["what", "limit"]] : List (PySem.W.Frag → Bool))
abbrev rowL : PySem.W.OpenRow := PySem.W.OpenLaw.row PySem.Challenge.rw_heldorder_k51_the_swap_path_turns_two_ro
abbrev hkL : PySem.W.Hook := hookW faL fnL exL
def obL (s : PySem.W.SharedT) : He.AlD := obsWG faL fnL exL (HandSHeadRun.getT s)
theorem obL_eq (s : PySem.W.SharedT) : obL s = hkL.obs s.abs := obsWG_eq (HandSHeadRun.getT_eq s)
def looseL : List Str := ([("is_number" : Str), ("check_number" : Str), ("check_entries" : Str), ("swapped" : Str), ("exchanged" : Str), ("swap_path" : Str), ("path_words" : Str), ("_law_store" : Str), ("_law_mixed" : Str), ("_law_take" : Str)] : List (Str)) ++ ([("_law_pick" : Str), ("_law_place" : Str), ("_law_either" : Str), ("_law_is_whole" : Str), ("_law_wrong_number" : Str), ("_law_agree" : Str), ("_law_big" : Str), ("_law_words" : Str), ("_law_kinds" : Str), ("_law_right_error" : Str)] : List (Str)) ++ ([("_law_path" : Str), ("_law_path_turns" : Str), ("_law_path_holds" : Str), ("_law_words_hold" : Str), ("_law_refuses" : Str), ("HeldorderError" : Str), ("BadNumber" : Str), ("NotAPoint" : Str), ("NotAMove" : Str), ("TooMany" : Str)] : List (Str)) ++ ([("UnlikeSizes" : Str), ("RepeatedPoint" : Str), ("BadText" : Str), ("NotMade" : Str), ("NotTight" : Str), ("NotFull" : Str), ("NotAFailing" : Str), ("NotNeighbours" : Str), ("NotShorter" : Str), ("SameLength" : Str)] : List (Str)) ++ ([("NoSuchLength" : Str), ("NotAnOrder" : Str), ("NotAChain" : Str), ("NotABase" : Str), ("NotInside" : Str), ("OrderMatters" : Str), ("FullLot" : Str), ("NotAWord" : Str), ("NotAColumn" : Str), ("NotACount" : Str)] : List (Str)) ++ ([("GameOver" : Str), ("NotAllowed" : Str), ("NothingToUndo" : Str), ("NothingToRedo" : Str), ("NothingKept" : Str), ("BadEdit" : Str), ("UnknownName" : Str), ("NotAPaper" : Str), ("MOST_ROW" : Str), ("MOST_PATH_ROW" : Str)] : List (Str))
noncomputable def endL (w : World) (os : OsState) : Option PySem.W.SharedT := HandSHeadRun.endF (HandSHeadRun.stepQ (HandSHeadRun.denQ HandSHeadRun.tabQ) rowL.prog w) 12000 rowL.prog w os
def frL (s : PySem.W.SharedT) : PySem.W.Frag := He.frG (HandSHeadRun.getT s) (asW (HandSHeadRun.getT s))
theorem tp_seen (w : World) (os : OsState) : (endL w os).map (fun s => (HandSHeadRun.looksF rowL.prog (PySem.W.boot_heap w.params) s.abs, HandSHeadRun.seenQ (PySem.W.view rowL.prog [65]) looseL (importedModules rowL.prog.main.body) (fun s => PySem.W.xlAt (PySem.W.view rowL.prog [65]) [] s && PySem.W.recOk rowL.toRowW.records s) s.abs)) = some (true, PySem.W.openGood (PySem.W.view rowL.prog [65]) looseL) := by
  kernel_rfl
theorem tp_fa (w : World) (os : OsState) : (endL w os).map (fun s => (faL.all fun f => f.ok (frL s)) && exL.all fun e => e (frL s)) = some true := by
  kernel_rfl
theorem tp_fn0 (w : World) (os : OsState) : (endL w os).map (fun s => fnL0.all fun d => d.ok (frL s)) = some true := by
  kernel_rfl
theorem tp_at (w : World) (os : OsState) : (endL w os).map (fun s => fnL.map fun d => He5.fnA (frL s) (d.at_ (frL s))) = some (fnL.map He5.DefA.val) := by
  kernel_rfl
theorem tp_fn (w : World) (os : OsState) : (endL w os).map (fun s => fnL.all fun d => d.ok (frL s)) = some true := by
  have a0 := tp_fn0 w os
  cases e : endL w os with
  | none =>
    rw [e] at a0
    cases a0
  | some s =>
    rw [e, Option.map_some] at a0
    rw [Option.map_some]
    have b0 := Option.some.inj a0
    rw [show fnL = fnL0 from rfl]
    rw [b0]
theorem obL_parts (s : PySem.W.SharedT) : obL s = ((((faL.all fun f => f.ok (frL s)) && (fnL.all fun d => d.ok (frL s))) && exL.all fun e => e (frL s)), fnL.map fun d => He5.fnA (frL s) (d.at_ (frL s))) := rfl
theorem runL (w : World) : HandSHeadRun.RunEq rowL (PySem.W.view rowL.prog [65]) hkL obL 12000 looseL w := fun os => by
  have h1 := tp_seen w os
  have h2 := tp_fa w os
  have h3 := tp_fn w os
  have h4 := tp_at w os
  show (endL w os).map _ = _
  cases e : endL w os with
  | none =>
    rw [e] at h1
    cases h1
  | some s =>
    rw [e, Option.map_some] at h1 h2 h3 h4
    have k1 := Option.some.inj h1
    have k2 := Option.some.inj h2
    have k3 := Option.some.inj h3
    have k4 := Option.some.inj h4
    rw [Bool.and_eq_true] at k2
    rw [Option.map_some, obL_parts, k2.1, k2.2, k3, k4]
    rw [Prod.mk.injEq] at k1
    rw [k1.1, k1.2]
    rfl

section
variable {P : Program} {w : World} {K : PySem.W.Frag} {mg : Str → Option Value} {base : Heap}

theorem ok_mixed (Z : Zs mg) (D : Ds K mg) : Cal P w K mg base "_law_mixed" 1 ["seed", "turn"] spMixed := by
  refine Def.cal D.d_law_mixed sc_law_mixed (fun vs H Q E h => ?_) (fun f cdv A outer s H vs Q E hr h => ?_)
  · obtain ⟨a, b, rfl, q⟩ := h
    rfl
  obtain ⟨a, b, rfl, q⟩ := h
  refine ⟨_, (pss_cons (ps_set (i := 2) sc_law_mixed.nd rfl (Or.inl rfl) (pe_op op_mod (pe_callTy call_int1 (by rfl) Z.z_int (by decide +kernel) (pa_cons (pe_op op_add (pe_op op_add (pe_op op_mul (pv 0) pe_int) (pe_op op_mul (pv 1) pe_int)) pe_int) pa_nil)) pe_int))
      (pss_cons (ps_set (i := 3) sc_law_mixed.nd rfl (Or.inl rfl) (pe_op op_mod (pe_callTy call_int1 (by rfl) Z.z_int (by decide +kernel) (pa_cons (pe_op op_add (pe_op op_add (pe_op op_mul (pv 2) (pv 2)) (pe_op op_mul (pv 0) pe_int)) (pv 1)) pa_nil)) pe_int))
      (pss_one (ps_ret (pe_op op_mod (pe_callTy call_int1 (by rfl) Z.z_int (by decide +kernel) (pa_cons (pe_op op_add (pe_op op_mul (pv 3) (pv 3)) (pv 2)) pa_nil)) pe_int))))), ?_⟩
  have c1 : CMul a 48271 := .inr ⟨by omega, by omega⟩
  have c2 : CMul b 69621 := .inr ⟨by omega, by omega⟩
  refine ⟨_, rfl, _, _, rfl, rfl, c1, _, rfl, _, _, rfl, rfl, c2, _, _, rfl, rfl, _, _, rfl, rfl, .inl ⟨_, rfl, _, _, rfl, rfl, (by omega), ?_⟩⟩
  obtain ⟨f1, e1⟩ : ∃ f1, f1 = (a * 48271 + b * 69621 + 1013904223) % 2147483647 := ⟨_, rfl⟩
  have b1 : 0 ≤ f1 ∧ f1 < 2147483647 := by omega
  have c3 : CMul f1 f1 := .inl ⟨by omega, by omega⟩
  have c4 : CMul a 7 := .inr ⟨by omega, by omega⟩
  rw [show (fun i j => V.int (i % j)) (a * 48271 + b * 69621 + 1013904223) 2147483647 = V.int f1 from congrArg V.int e1.symm]
  refine ⟨_, rfl, _, rfl, _, _, rfl, rfl, c3, _, rfl, _, _, rfl, rfl, c4, _, _, rfl, rfl, _, rfl, _, _, rfl, rfl, .inl ⟨_, rfl, _, _, rfl, rfl, (by omega), ?_⟩⟩
  obtain ⟨f2, e2⟩ : ∃ f2, f2 = (f1 * f1 + a * 7 + b) % 2147483563 := ⟨_, rfl⟩
  have b2 : 0 ≤ f2 ∧ f2 < 2147483563 := by omega
  have c5 : CMul f2 f2 := .inl ⟨by omega, by omega⟩
  rw [show (fun i j => V.int (i % j)) (f1 * f1 + a * 7 + b) 2147483563 = V.int f2 from congrArg V.int e2.symm]
  refine ⟨_, rfl, _, rfl, _, _, rfl, rfl, c5, _, rfl, _, _, rfl, rfl, .inl ⟨_, rfl, _, _, rfl, rfl, (by omega), ?_⟩⟩
  exact q _
theorem ok_take (Z : Zs mg) (D : Ds K mg) (c__law_mixed : Cal P w K mg base "_law_mixed" 1 ["seed", "turn"] spMixed) : Cal P w K mg base "_law_take" 2 ["store", "many"] spTake := by
  refine Def.cal D.d_law_take sc_law_take (fun vs H Q E h => ?_) (fun f cdv A outer s H vs Q E hr h => ?_)
  · obtain ⟨S, G, n, rfl, wd, hn, q⟩ := h
    rfl
  obtain ⟨S, G, n, rfl, wd, hn, q⟩ := h
  refine ⟨_, (pss_cons (ps_if (pt_cmp (pc_lt (pv 1) pe_int) (nomark _)) (pss_one (ps_ret pe_int)) pss_nil)
      (Evl.pss_cut (ps_if (PW.pt (pw_and (pt_cmp (pc_lt (pe_ix ix_list (pv 0) pe_int (fun _ _ => rfl)) pe_int) (nomark _)) (pw_and (pt_cmp (pc_eqI (pe_ix ix_list (pv 0) pe_int (fun _ _ => rfl)) pe_int) (nomark _)) (pw_and1 (pt_cmp (pc_lt (pe_ix ix_list (pv 0) pe_int (fun _ _ => rfl)) (pe_callB call_len_seq (by rfl) Z.z_len (by decide +kernel) (pa_cons (pe_ix ix_list (pv 0) pe_int (fun _ _ => rfl)) pa_nil))) (nomark _)))))) (pss_cons (ps_set (i := 2) sc_law_take.nd rfl (Or.inl rfl) (pe_ix ix_list (pe_ix ix_list (pv 0) pe_int (fun _ _ => rfl)) (pe_ix ix_list (pv 0) pe_int (fun _ _ => rfl)) (fun _ _ => rfl)))
      (pss_cons (ps_asg (pe_op op_add (pe_ix ix_list (pv 0) pe_int (fun _ _ => rfl)) pe_int) (pg_sub (pv 0) pe_int set_listN))
      (pss_cons (ps_asg (pe_op op_mod (pe_callTy call_int1 (by rfl) Z.z_int (by decide +kernel) (pa_cons (pe_op op_add (pe_op op_add (pe_op op_mul (pe_ix ix_list (pv 0) pe_int (fun _ _ => rfl)) pe_int) (pe_op op_mod (pe_callTy call_int1 (by rfl) Z.z_int (by decide +kernel) (pa_cons (pv 2) pa_nil)) pe_int)) pe_int) pa_nil)) pe_int) (pg_sub (pv 0) pe_int set_listN))
      (pss_one (ps_if (pt_cmp (pc_ge (pv 2) (pe_op op_pow pe_int pe_int)) (nomark _)) (pss_one (ps_asg (pv 2) (pg_sub (pv 0) pe_int set_listN))) (pss_cons (ps_asg pe_int (pg_sub (pv 0) pe_int set_listN))
      (pss_one (ps_asg (pe_op op_mod (pe_callTy call_int1 (by rfl) Z.z_int (by decide +kernel) (pa_cons (pv 2) pa_nil)) pe_int) (pg_sub (pv 0) pe_int set_listN))))))))) pss_nil)
      (pss_cons (ps_if (pt_cmp (pc_ge (pe_ix ix_list (pv 0) pe_int (fun _ _ => rfl)) pe_int) (nomark _)) (pss_cons (ps_set (i := 3) sc_law_take.nd rfl (Or.inl rfl) (pe_op op_mod (pe_callTy call_int1 (by rfl) Z.z_int (by decide +kernel) (pa_cons (pe_ix ix_list (pv 0) pe_int (fun _ _ => rfl)) pa_nil)) (pv 1)))
      (pss_cons (ps_asg (pe_op op_fdiv (pe_ix ix_list (pv 0) pe_int (fun _ _ => rfl)) (pv 1)) (pg_sub (pv 0) pe_int set_listN))
      (pss_one (ps_ret (pv 3))))) pss_nil)
      (pss_cons (ps_asg (pe_op op_add (pe_ix ix_list (pv 0) pe_int (fun _ _ => rfl)) pe_int) (pg_sub (pv 0) pe_int set_listN))
      (pss_cons (ps_if (pt_cmp (pc_gt (pe_ix ix_list (pv 0) pe_int (fun _ _ => rfl)) pe_int) (nomark _)) (pss_cons (ps_asg (pe_op op_sub (pe_ix ix_list (pv 0) pe_int (fun _ _ => rfl)) pe_int) (pg_sub (pv 0) pe_int set_listN))
      (pss_one (ps_ret (pe_op op_mod (pe_callTy call_int1 (by rfl) Z.z_int (by decide +kernel) (pa_cons (pe_cal c__law_mixed (hr.mono (by first | decide | omega)) (by rfl) (pa_cons (pe_ix ix_list (pv 0) pe_int (fun _ _ => rfl)) (pa_cons (pe_ix ix_list (pv 0) pe_int (fun _ _ => rfl)) pa_nil))) pa_nil)) (pv 1))))) pss_nil)
      (pss_one (ps_ret (pe_op op_mod (pe_callTy call_int1 (by rfl) Z.z_int (by decide +kernel) (pa_cons (pe_cal c__law_mixed (hr.mono (by first | decide | omega)) (by rfl) (pa_cons (pe_ix ix_list (pv 0) pe_int (fun _ _ => rfl)) (pa_cons (pe_ix ix_list (pv 0) pe_int (fun _ _ => rfl)) pa_nil))) pa_nil)) (pv 1))))))))), ?_⟩
  refine ⟨_, rfl, _, _, rfl, rfl, _, rfl, ite2 (fun c => ?_) (fun c => ?_)⟩
  · have c := dec_of c
    exact q 0 H (by omega) (by omega) (.refl wd)
  have c := dec_not c
  refine ⟨fun σ' H' => ∃ y2, σ' = [some (.ref S.a), some (.int n), y2, none] ∧ Go S G H G H', ?_, ?_⟩
  · obtain ⟨i1, i2, i3, i4, i5, i6, h1, h2, z⟩ := wd.st
    refine ⟨_, rfl, S.a, _, 2, .int i2, rfl, rfl, .of h1, rfl, _, _, rfl, rfl, _, rfl, ite2 (fun c2 => ?_) (fun c2 => iteF ⟨none, rfl, .refl wd⟩)⟩
    refine ⟨_, rfl, S.a, _, 3, .int i3, rfl, rfl, .of h1, rfl, _, _, rfl, rfl, _, rfl, ite2 (fun c3 => ?_) (fun c3 => iteF ⟨none, rfl, .refl wd⟩)⟩
    refine ⟨_, rfl, S.a, _, 1, .int i1, rfl, rfl, .of h1, rfl, _, rfl, S.a, _, 0, .ref S.c, rfl, rfl, .of h1, rfl, _, _, rfl, .inl (.of h2), _, _, rfl, rfl, _, rfl, ite2 (fun c1 => ?_) (fun c1 => ⟨none, rfl, .refl wd⟩)⟩
    have c1 : i1 < ((S.ns.map V.int).length : Nat) := dec_of c1
    rw [List.length_map] at c1
    have k1 : i1.toNat < S.ns.length := by omega
    have a1 : atI (S.ns.map V.int) i1 = some (.int S.ns[i1.toNat]) := by
      have q := atI_nat (xs := S.ns.map V.int) (j := i1.toNat) (v := .int S.ns[i1.toNat]) (by rw [List.getElem?_map, List.getElem?_eq_getElem k1]; rfl)
      rwa [show ((i1.toNat : Nat) : Int) = i1 by omega] at q
    generalize S.ns[i1.toNat] = x at a1
    -- cell = store[0][store[1]]; store[1] = store[1] + 1
    refine ⟨_, rfl, S.a, _, 0, .ref S.c, rfl, rfl, .of h1, rfl, _, rfl, S.a, _, 1, .int i1, rfl, rfl, .of h1, rfl, S.c, _, i1, .int x, rfl, rfl, .of h2, a1, ?_⟩
    refine ⟨_, rfl, S.a, _, 1, .int i1, rfl, rfl, .of h1, rfl, _, _, rfl, rfl, _, rfl, S.a, _, 1, rfl, rfl, h1, (by show 1 < 7; decide), fun H1 e1 => ?_⟩
    have s1 : Go S G H G H1 := (Go.refl wd).put e1 (by omega)
    have h1 : H1 S.a = _ := upd_at e1
    have m5 : CMul i5 31 := .inr ⟨by omega, by omega⟩
    refine ⟨_, rfl, S.a, _, 5, .int i5, rfl, rfl, .of h1, rfl, _, _, rfl, rfl, m5, _, rfl, .inl ⟨_, rfl, _, _, rfl, rfl, (by omega), _, _, rfl, rfl, _, _, rfl, rfl, .inl ⟨_, rfl, _, _, rfl, rfl, (by omega), ?_⟩⟩⟩
    refine ⟨_, rfl, S.a, _, 5, rfl, rfl, h1, (by show 5 < 7; decide), fun H2 e2 => ?_⟩
    have s1 : Go S G H G H2 := s1.put e2 (by omega)
    have h1 : H2 S.a = _ := upd_at e2
    refine ⟨_, rfl, _, _, rfl, rfl, ⟨by omega, by omega, by decide⟩, _, _, rfl, rfl, _, rfl, ite2 (fun c => ?_) (fun c => ?_)⟩
    · refine ⟨_, rfl, _, rfl, S.a, _, 2, rfl, rfl, h1, (by show 2 < 7; decide), fun H3 e3 => ?_⟩
      exact ⟨_, rfl, s1.put e3 (by omega)⟩
    · refine ⟨_, rfl, S.a, _, 3, rfl, rfl, h1, (by show 3 < 7; decide), fun H3 e3 => ?_⟩
      have s1 : Go S G H G H3 := s1.put e3 (by omega)
      have h1 : H3 S.a = _ := upd_at e3
      refine ⟨_, rfl, .inl ⟨_, rfl, _, _, rfl, rfl, (by omega), _, rfl, S.a, _, 6, rfl, rfl, h1, (by show 6 < 7; decide), fun H4 e4 => ?_⟩⟩
      exact ⟨_, rfl, s1.put e4 (by omega)⟩
  · rintro σ' H1 ⟨y2, rfl, s1⟩
    obtain ⟨i1, i2, i3, i4, i5, i6, h1, h2, z⟩ := s1.st
    refine ⟨_, rfl, S.a, _, 2, .int i2, rfl, rfl, .of h1, rfl, _, _, rfl, rfl, _, rfl, ite2 (fun c2 => ?_) (fun c2 => ?_)⟩
    · refine ⟨_, rfl, S.a, _, 2, .int i2, rfl, rfl, .of h1, rfl, .inl ⟨_, rfl, _, rfl, _, _, rfl, rfl, (by omega), ?_⟩⟩
      refine ⟨_, rfl, S.a, _, 2, .int i2, rfl, rfl, .of h1, rfl, _, rfl, _, _, rfl, rfl, ⟨by omega, by omega⟩, _, rfl, S.a, _, 2, rfl, rfl, h1, (by show 2 < 7; decide), fun H2 e2 => ?_⟩
      have s1 : Go S G H G H2 := s1.put e2 (by omega)
      refine ⟨_, rfl, ?_⟩
      exact q _ _ (Int.emod_nonneg _ (by omega)) (.inl (Int.emod_lt_of_pos _ (by omega))) s1
    refine ⟨_, rfl, S.a, _, 4, .int i4, rfl, rfl, .of h1, rfl, _, _, rfl, rfl, _, rfl, S.a, _, 4, rfl, rfl, h1, (by show 4 < 7; decide), fun H2 e2 => ?_⟩
    have s1 : Go S G H G H2 := s1.put e2 (by omega)
    have h1 : H2 S.a = _ := upd_at e2
    refine ⟨_, rfl, S.a, _, 3, .int i3, rfl, rfl, .of h1, rfl, _, _, rfl, rfl, _, rfl, ite2 (fun c3 => ?_) (fun c3 => ?_)⟩
    · refine ⟨_, rfl, S.a, _, 3, .int i3, rfl, rfl, .of h1, rfl, _, _, rfl, rfl, _, rfl, S.a, _, 3, rfl, rfl, h1, (by show 3 < 7; decide), fun H3 e3 => ?_⟩
      have s1 : Go S G H G H3 := s1.put e3 (by omega)
      have h1 : H3 S.a = _ := upd_at e3
      refine ⟨_, rfl, S.a, _, 6, .int i6, rfl, rfl, .of h1, rfl, _, rfl, S.a, _, 4, _, rfl, rfl, .of h1, rfl, _, _, rfl, fun r => ?_⟩
      refine .inl ⟨_, rfl, _, rfl, _, _, rfl, rfl, (by omega), ?_⟩
      exact q _ _ (Int.emod_nonneg _ (by omega)) (.inl (Int.emod_lt_of_pos _ (by omega))) s1
    · refine ⟨_, rfl, S.a, _, 5, .int i5, rfl, rfl, .of h1, rfl, _, rfl, S.a, _, 4, _, rfl, rfl, .of h1, rfl, _, _, rfl, fun r => ?_⟩
      refine .inl ⟨_, rfl, _, rfl, _, _, rfl, rfl, (by omega), ?_⟩
      exact q _ _ (Int.emod_nonneg _ (by omega)) (.inl (Int.emod_lt_of_pos _ (by omega))) s1


theorem ok_pick (Z : Zs mg) (D : Ds K mg) (c__law_take : Cal P w K mg base "_law_take" 2 ["store", "many"] spTake) : Cal P w K mg base "_law_pick" 3 ["store", "things"] spPick := by
  refine Def.cal D.d_law_pick sc_law_pick (fun vs H Q E h => ?_) (fun f cdv A outer s H vs Q E hr h => ?_)
  · obtain ⟨S, G, v, xs, rfl, wd, hv, h0, h1, q⟩ := h
    rfl
  obtain ⟨S, G, v, xs, rfl, wd, hv, h0, h1, q⟩ := h
  refine ⟨_, (pss_one (ps_ret (pe_ix ix_seq (pv 1) (pe_cal c__law_take (hr.mono (by first | decide | omega)) (by rfl) (pa_cons (pv 0) (pa_cons (pe_callB call_len (by rfl) Z.z_len (by decide +kernel) (pa_cons (pv 1) pa_nil)) pa_nil))) (fun _ _ => rfl)))), ?_⟩
  rcases hv with ⟨a, rfl, na, ha⟩ | ⟨a, rfl, na, ha⟩ | ⟨z, rfl, hz, rfl⟩
  · refine ⟨_, rfl, _, rfl, _, rfl, .ref a, xs.length, rfl, .inl ⟨xs, .of ha, rfl⟩, S, G, _, rfl, wd, by omega, fun d H1 p0 p1 s1 => ?_⟩
    obtain ⟨x, _, e, m⟩ := at_int (xs := xs) p0 (by omega)
    exact .inl ⟨a, xs, d, x, rfl, rfl, .of (s1.hh ha na), e, q _ _ m s1⟩
  · refine ⟨_, rfl, _, rfl, _, rfl, .ref a, xs.length, rfl, .inr ⟨xs, .of ha, rfl⟩, S, G, _, rfl, wd, by omega, fun d H1 p0 p1 s1 => ?_⟩
    obtain ⟨x, _, e, m⟩ := at_int (xs := xs) p0 (by omega)
    exact .inr (.inl ⟨a, xs, d, x, rfl, rfl, .of (s1.hh ha na), e, q _ _ m s1⟩)
  · have hl : z.cps.toList.length = z.length := Array.length_toList
    rw [List.length_map, hl] at h0 h1
    refine ⟨_, rfl, _, rfl, _, rfl, .str z, z.length, rfl, ⟨ln (by omega), rfl⟩, S, G, _, rfl, wd, by omega, fun d H1 p0 p1 s1 => ?_⟩
    obtain ⟨c, e, g⟩ := at_str (z := z) p0 (by omega)
    exact .inr (.inr ⟨z, d, c, rfl, rfl, ln (by omega), e, q _ _ (List.mem_map.mpr ⟨c, List.mem_of_getElem? g, rfl⟩) s1⟩)
theorem ok_place (Z : Zs mg) (D : Ds K mg) (c__law_take : Cal P w K mg base "_law_take" 2 ["store", "many"] spTake) : Cal P w K mg base "_law_place" 3 ["store", "size"] spPlace := by
  refine Def.cal D.d_law_place sc_law_place (fun vs H Q E h => ?_) (fun f cdv A outer s H vs Q E hr h => ?_)
  · obtain ⟨S, G, n, rfl, wd, h1, hn, q⟩ := h
    rfl
  obtain ⟨S, G, n, rfl, wd, h1, hn, q⟩ := h
  refine ⟨_, (pss_cons (ps_set (i := 2) sc_law_place.nd rfl (Or.inl rfl) (pe_cal c__law_take (hr.mono (by first | decide | omega)) (by rfl) (pa_cons (pv 0) (pa_cons pe_int pa_nil))))
      (pss_cons (ps_if (pt_cmp (pc_eqI (pv 2) pe_int) (nomark _)) (pss_one (ps_ret pe_int)) pss_nil)
      (pss_cons (ps_if (pt_cmp (pc_eqI (pv 2) pe_int) (nomark _)) (pss_one (ps_ret (pe_op op_sub (pv 1) pe_int))) pss_nil)
      (pss_one (ps_ret (pe_cal c__law_take (hr.mono (by first | decide | omega)) (by rfl) (pa_cons (pv 0) (pa_cons (pv 1) pa_nil)))))))), ?_⟩
  refine ⟨_, rfl, S, G, 6, rfl, wd, by omega, fun d1 H1 p0 p1 s1 => ?_⟩
  refine ⟨_, rfl, _, _, rfl, rfl, _, rfl, ite2 (fun c => q _ _ (by omega) (by omega) s1) (fun c => ?_)⟩
  refine ⟨_, rfl, _, _, rfl, rfl, _, rfl, ite2 (fun c => ⟨_, rfl, _, _, rfl, rfl, q _ _ (by omega) (by omega) s1⟩) (fun c => ?_)⟩
  exact ⟨_, rfl, _, rfl, S, G, n, rfl, s1.wd, hn, fun d2 H2 r0 r1 s2 => q _ _ (by omega) (by omega) (s1.trans s2)⟩
theorem ok_either (Z : Zs mg) (D : Ds K mg) (c__law_take : Cal P w K mg base "_law_take" 2 ["store", "many"] spTake) : Cal P w K mg base "_law_either" 3 ["store", "entries"] spEither := by
  refine Def.cal D.d_law_either sc_law_either (fun vs H Q E h => ?_) (fun f cdv A outer s H vs Q E hr h => ?_)
  · obtain ⟨S, G, a, xs, rfl, wd, na, ha, q⟩ := h
    rfl
  obtain ⟨S, G, a, xs, rfl, wd, na, ha, q⟩ := h
  refine ⟨_, (pss_cons (ps_if (pt_cmp (pc_eqI (pe_cal c__law_take (hr.mono (by first | decide | omega)) (by rfl) (pa_cons (pv 0) (pa_cons pe_int pa_nil))) pe_int) (nomark _)) (pss_one (ps_ret (pe_callTy call_tupleN (by rfl) Z.z_tuple (by decide +kernel) (pa_cons (pv 1) pa_nil)))) pss_nil)
      (pss_one (ps_ret (pe_callTy call_listN (by rfl) Z.z_list (by decide +kernel) (pa_cons (pv 1) pa_nil))))), ?_⟩
  refine ⟨_, rfl, S, G, 2, rfl, wd, by omega, fun d1 H1 p0 p1 s1 => ?_⟩
  have ha := s1.hh ha na
  refine ⟨_, _, rfl, rfl, _, rfl, ite2 (fun c => ?_) (fun c => ?_)⟩
  · refine ⟨_, rfl, a, xs, rfl, .of ha, fun p H2 n2 => ?_⟩
    obtain ⟨s2, gp, hp, fp⟩ := s1.loc n2
    exact q p true H2 s2 gp fp hp
  · refine ⟨_, rfl, a, xs, rfl, .inl (.of ha), fun p H2 n2 => ?_⟩
    obtain ⟨s2, gp, hp, fp⟩ := s1.loc n2
    exact q p false H2 s2 gp fp hp


theorem ok_is_whole (Z : Zs mg) (D : Ds K mg) : Cal P w K mg base "_law_is_whole" 1 ["value"] spIsWhole := by
  refine Def.cal D.d_law_is_whole sc_law_is_whole (fun vs H Q E h => ?_) (fun f cdv A outer s H vs Q E hr h => ?_)
  · obtain ⟨v, d, rfl, hd, q⟩ := h
    rfl
  obtain ⟨v, d, rfl, hd, q⟩ := h
  refine ⟨_, (pss_one (ps_ret (pe_and (pe_callB call_isD (by rfl) Z.z_isinstance (by decide +kernel) (pa_cons (pv 0) (pa_cons (pe_bltn (v := .ty "int") (by rfl) Z.z_int (by decide +kernel) rfl) pa_nil))) (pe_one (pe_not (pe_callB call_isD (by rfl) Z.z_isinstance (by decide +kernel) (pa_cons (pv 0) (pa_cons (pe_bltn (v := .ty "bool") (by rfl) Z.z_bool (by decide +kernel) rfl) pa_nil)))))))), ?_⟩
  rw [← isI_inst d hd.nd] at q
  refine ⟨_, rfl, v, d, "int", rfl, hd, .inl rfl, _, rfl, ?_⟩
  cases e : instB d "int" with
  | true =>
    rw [e] at q
    exact iteT ⟨_, rfl, v, d, "bool", rfl, hd, .inr (.inl rfl), _, rfl, q⟩
  | false =>
    rw [e] at q
    exact iteF q

theorem ok_is_whole_h (Z : Zs mg) (D : Ds K mg) : CalE P w K mg base "_law_is_whole" 1 ["value"] (fun _ => spIsWhole) := by
  refine Def.calE D.d_law_is_whole sc_law_is_whole (fun p vs H Q E h => ?_) (fun f cdv A outer s H vs Q E p hot hr h => ?_)
  · obtain ⟨v, d, rfl, hd, q⟩ := h
    rfl
  obtain ⟨v, d, rfl, hd, q⟩ := h
  refine ⟨_, (pss_one (ps_ret (pe_and (pe_callB call_isD (by rfl) Z.z_isinstance (by decide +kernel) (pa_cons (pv 0) (pa_cons (pe_bltn (v := .ty "int") (by rfl) Z.z_int (by decide +kernel) rfl) pa_nil))) (pe_one (pe_not (pe_callB call_isD (by rfl) Z.z_isinstance (by decide +kernel) (pa_cons (pv 0) (pa_cons (pe_bltn (v := .ty "bool") (by rfl) Z.z_bool (by decide +kernel) rfl) pa_nil)))))))), ?_⟩
  rw [← isI_inst d hd.nd] at q
  refine ⟨_, rfl, v, d, "int", rfl, hd, .inl rfl, _, rfl, ?_⟩
  cases e : instB d "int" with
  | true =>
    rw [e] at q
    exact iteT ⟨_, rfl, v, d, "bool", rfl, hd, .inr (.inl rfl), _, rfl, q⟩
  | false =>
    rw [e] at q
    exact iteF q

theorem ok_is_number (Z : Zs mg) (D : Ds K mg) : Cal P w K mg base "is_number" 1 ["value", "low", "high"] spIsNum := by
  refine Def.cal D.d_is_number sc_is_number (fun vs H Q E h => ?_) (fun f cdv A outer s H vs Q E hr h => ?_)
  · obtain ⟨v, d, lo, hi, rfl, hd, q⟩ := h
    rfl
  obtain ⟨v, d, lo, hi, rfl, hd, q⟩ := h
  refine ⟨_, (pss_one (ps_ret (pe_and (pe_callB call_isD (by rfl) Z.z_isinstance (by decide +kernel) (pa_cons (pv 0) (pa_cons (pe_bltn (v := .ty "int") (by rfl) Z.z_int (by decide +kernel) rfl) pa_nil))) (pe_and (pe_not (pe_callB call_isD (by rfl) Z.z_isinstance (by decide +kernel) (pa_cons (pv 0) (pa_cons (pe_bltn (v := .ty "bool") (by rfl) Z.z_bool (by decide +kernel) rfl) pa_nil)))) (pe_one (pe_chain op_le op_le (pv 1) (pv 0) (pv 2))))))), ?_⟩
  refine ⟨_, rfl, v, d, "int", rfl, hd, ok_int, _, rfl, ?_⟩
  rcases hd.kind with ⟨rfl, rfl⟩ | ⟨b, rfl, rfl⟩ | ⟨i, rfl, rfl⟩ | ⟨j, rfl, rfl⟩ | ⟨a, xs, ds, t, rfl, ha, hat, hal, dxs, rfl⟩
  · exact iteBF ib_none_int q
  · exact iteBT (ib_bool_int b) ⟨_, rfl, _, _, "bool", rfl, hd, ok_bool, _, rfl, _, rfl, iteBF (by rw [ib_bool_bool]; rfl) q⟩
  · refine iteBT (ib_int_int i) ⟨_, rfl, _, _, "bool", rfl, hd, ok_bool, _, rfl, _, rfl, iteBT (by rw [ib_int_bool]; rfl) ⟨_, rfl, _, rfl, _, _, rfl, rfl, _, rfl, ?_⟩⟩
    have q : Q (.bl (decide (lo ≤ i) && decide (i ≤ hi))) H := q
    refine ite2 (fun c => ⟨_, rfl, _, _, rfl, rfl, ?_⟩) (fun c => ?_)
    · rw [c, Bool.true_and] at q
      exact q
    · rw [Bool.eq_false_iff.mpr c, Bool.false_and] at q
      exact q
  · exact iteBF (ib_str_int j) q
  · cases t with
    | true => exact iteBF (ib_tuple_int ds) q
    | false => exact iteBF (ib_list_int ds) q

theorem ok_store (Z : Zs mg) (D : Ds K mg) : Cal P w K mg base "_law_store" 1 ["script"] (spStore K) := by
  refine Def.cal D.d_law_store sc_law_store (fun vs H Q E h => ?_) (fun f cdv A outer s H vs Q E hr h => ?_)
  · obtain ⟨a, ns, rfl, hS, hn, q⟩ := h
    rfl
  obtain ⟨a, ns, rfl, hS, hn, q⟩ := h
  refine ⟨_, (pss_one (ps_ret (pe_lstN (pa_cons (pe_lc (own := [("cell", 1)]) (g := gName 1) (tt := tYes) (by rfl) sc_law_store.nd (pi_list (pe_slice sl_listN (pv 0) po_none (po_some pe_int))) (blkOk_by (N := ["script", "cell"]) (sc := defScope s_law_store) (by decide +kernel)) (fun _ _ _ _ _ => pg_name (i := 1) sc_law_store.nd rfl (Or.inl rfl)) (fun _ _ _ _ _ => pts_nil) (fun _ _ _ _ _ => (pe_callTy call_int1 (by rfl) Z.z_int (by decide +kernel) (pa_cons (pv 1) pa_nil)))) (pa_cons pe_int (pa_cons pe_int (pa_cons pe_int (pa_cons pe_int (pa_cons pe_int (pa_cons pe_int pa_nil)))))))))), ?_⟩
  refine ⟨_, rfl, _, rfl, a, _, rfl, hS, fun p H1 n1 => ?_⟩
  have h1 := n1.at
  have ec : cutV (ns.map V.int) none (some 63) = ns.map V.int := cut_all (n := 63) (by rw [List.length_map]; exact hn)
  rw [ec] at h1
  refine ⟨p, rfl, ⟨_, .of h1⟩, fun c hc => ?_⟩
  refine lc_list (xs := ns.map V.int) (fun i H' => Same H H' ∧ H c = none ∧ H' p = some (.lst (ns.map V.int)) ∧ c ≠ p ∧ H' c = some (.lst ((ns.take i).map V.int))) ?_ ?_ ?_ ?_
  · have nc : c ≠ p := (ne_of_none h1 hc).symm
    exact ⟨n1.same.trans (New.same (o := .lst []) ⟨hc, rfl⟩), n1.same.free hc, by rw [upd_ne nc.symm]; exact h1, nc, upd_same⟩
  · rintro i H' _ ⟨_, _, hp, _⟩
    exact .of hp
  · rintro i x H2 hx ⟨g, fc, hp, nc, hc2⟩
    have hi := (List.getElem?_eq_some_iff.mp hx).1
    rw [List.length_map] at hi
    have ex : x = V.int ns[i] := by
      rw [List.getElem?_map, List.getElem?_eq_getElem hi] at hx
      exact (Option.some.inj hx).symm
    subst ex
    refine ⟨rfl, yesT ⟨_, rfl, .inl ⟨_, rfl, _, hc2, by rw [List.length_map, List.length_take]; exact lt (by omega), fun b o h => ?_, fc, by rw [upd_ne nc.symm]; exact hp, nc, ?_⟩⟩⟩
    · rw [upd_ne (ne_of_none h fc)]
      exact g _ _ h
    · rw [upd_same, List.take_add_one, List.getElem?_eq_getElem hi, List.map_append]
      rfl
  · rintro H2 ⟨g, fc, hp, nc, hc2⟩
    rw [List.length_map, List.take_length] at hc2
    refine ⟨by show 7 ≤ sizeLine; decide, fun s H3 n3 => ?_⟩
    exact q ⟨s, c, ns⟩ H3 ⟨g.trans n3.same, g.free n3.fr, 0, 0, 0, 0, 0, 0, n3.at, n3.else hc2, Int.le_refl _⟩


def spCheckNum (DB : Addr) : Sp := fun vs H Q E => ∃ (v : V) (d : PyData) (lo hi : Int), vs = [v, .int lo, .int hi] ∧ Da H v d ∧ (isNum d lo hi = true → Q .non H) ∧ (isNum d lo hi = false → Errs E DB [(("high" : Str), .int hi), (("low" : Str), .int lo), (("value" : Str), v)] H)
theorem ok_check_number {DB : Addr} (Z : Zs mg) (D : Ds K mg) (m_BadNumber : Xm P w K mg base "BadNumber" DB ["value", "low", "high"]) (c_is_number : Cal P w K mg base "is_number" 1 ["value", "low", "high"] spIsNum) : CalX P w K mg base "check_number" 3 ["value", "low", "high"] (spCheckNum DB) := by
  refine Def.calX D.d_check_number sc_check_number (fun vs H Q E h => ?_) (fun f cdv A outer s H vs Q E hr h => ?_)
  · obtain ⟨v, d, lo, hi, rfl, hd, q1, q2⟩ := h
    rfl
  obtain ⟨v, d, lo, hi, rfl, hd, q1, q2⟩ := h
  refine ⟨_, (pss_one (ps_if (pt_not (pt_val (pe_cal c_is_number (hr.mono (by first | decide | omega)) (by rfl) (pa_cons (pv 0) (pa_cons (pv 1) (pa_cons (pv 2) pa_nil)))))) (pss_one (L2N.ps_raise rfl (L2N.takes_of rfl rfl rfl rfl) (pmk_x m_BadNumber (hr.mono (by first | decide | omega)) (by rfl) (pa_cons (pv 0) (pa_cons (pv 1) (pa_cons (pv 2) pa_nil)))))) pss_nil)), ?_⟩
  refine ⟨_, rfl, _, rfl, _, rfl, v, d, lo, hi, rfl, hd, ?_⟩
  cases e : isNum d lo hi with
  | true => exact ⟨_, rfl, iteF (q1 e)⟩
  | false => exact ⟨_, rfl, iteT ⟨_, rfl, _, rfl, _, rfl, ini_end rfl (by show 3 ≤ 1000; decide) fun dd hdd => q2 e dd _ (same_put (Same.refl _) hdd) upd_same⟩⟩
theorem same_mut {H H' H2 : Hp} {l : Addr} {o : HO} (s : Same H H') (f : H l = none) (e : H2 = upd H' l o) : Same H H2 := fun b u h => by
  rw [e, upd_ne (ne_of_none h f)]
  exact s b u h
theorem loopF {J : It} (n : Nat) (f : Nat → V) (hs : ∀ H i, n ≤ i → J.stop i H) (hg : ∀ H i, i < n → J.go i H) (hy : ∀ H i x H', J.yld i H x H' → H' = H ∧ x = f i) {H0 : Hp} {Z : Hp → Prop} {B : (Hp → Prop) → V → Hp → Prop} (Pv : Nat → Hp → Prop) (h0 : Pv 0 H0)
    (turn : ∀ i H, i < n → Pv i H → B (Pv (i + 1)) (f i) H) (fin : ∀ H, Pv n H → Z H) :
    ∃ W : Nat → Nat → Hp → Prop, (∃ m, W 0 m H0) ∧ ∀ i m H, W i m H → (J.stop i H ∧ Z H) ∨ (J.go i H ∧ ∃ Nx : Hp → Prop, (∀ H', Nx H' → ∃ m', m' < m ∧ W (i + 1) m' H') ∧ ∀ x H', J.yld i H x H' → B Nx x H') := by
  refine ⟨fun i m H => i + m = n ∧ Pv i H, ⟨n, Nat.zero_add _, h0⟩, fun i m H ⟨im, p⟩ => ?_⟩
  cases m with
  | zero =>
    obtain rfl : i = n := by omega
    exact .inl ⟨hs H _ (Nat.le_refl _), fin H p⟩
  | succ m =>
    refine .inr ⟨hg H i (by omega), Pv (i + 1), fun H' p2 => ⟨m, Nat.lt_succ_self _, by omega, p2⟩, fun x H' y => ?_⟩
    obtain ⟨rfl, rfl⟩ := hy H i x H' y
    exact turn i _ (by omega) p
theorem loopR {lo : Int} {n : Nat} {H0 : Hp} {Z : Hp → Prop} {B : (Hp → Prop) → V → Hp → Prop} (Pv : Nat → Hp → Prop) (h0 : Pv 0 H0) (turn : ∀ i H, i < n → Pv i H → B (Pv (i + 1)) (.int (lo + (i : Nat))) H) (fin : ∀ H, Pv n H → Z H) :
    ∃ W : Nat → Nat → Hp → Prop, (∃ m, W 0 m H0) ∧ ∀ i m H, W i m H → ((Itr lo n).stop i H ∧ Z H) ∨ ((Itr lo n).go i H ∧ ∃ Nx : Hp → Prop, (∀ H', Nx H' → ∃ m', m' < m ∧ W (i + 1) m' H') ∧ ∀ x H', (Itr lo n).yld i H x H' → B Nx x H') :=
  loopF n (fun i => .int (lo + (i : Nat))) (fun _ _ h => h) (fun _ _ h => h) (fun _ _ _ _ h => h) Pv h0 turn fin
theorem loopC {lo c : Int} {n : Nat} {H0 : Hp} {Z : Hp → Prop} {B : (Hp → Prop) → V → Hp → Prop} (Pv : Nat → Hp → Prop) (h0 : Pv 0 H0) (turn : ∀ i H, i < n → Pv i H → B (Pv (i + 1)) (.int (lo + (i : Nat) * c)) H) (fin : ∀ H, Pv n H → Z H) :
    ∃ W : Nat → Nat → Hp → Prop, (∃ m, W 0 m H0) ∧ ∀ i m H, W i m H → ((Itc lo c n).stop i H ∧ Z H) ∨ ((Itc lo c n).go i H ∧ ∃ Nx : Hp → Prop, (∀ H', Nx H' → ∃ m', m' < m ∧ W (i + 1) m' H') ∧ ∀ x H', (Itc lo c n).yld i H x H' → B Nx x H') :=
  loopF n (fun i => .int (lo + (i : Nat) * c)) (fun _ _ h => h) (fun _ _ h => h) (fun _ _ _ _ h => h) Pv h0 turn fin
/-! ### tuples that lie in the heap -/
def rTupR : List V → Hp → VK → Prop := fun xs H Q => ∃ (p : Addr) (ys : List V), xs = [.ref p] ∧ HasL H p ys ∧ ∀ (t : Addr) (H' : Hp), Same H H' → H' t = some (.tup ys) → Q (.ref t) H'
theorem call_tupleR {X : Cx} : CallR X (.type "tuple") rTupR := callR_mono call_tuple_of fun xs H Q h => by
  obtain ⟨p, ys, rfl, hp, q⟩ := h
  refine ⟨p, ys, rfl, ?_⟩
  rcases hp with hp | hp
  · exact .inl ⟨.of hp, fun l hl => q l _ (New.same (o := .tup ys) ⟨hl, rfl⟩) upd_same⟩
  · exact .inr ⟨.of hp, q p H (Same.refl _) hp⟩
theorem cut_whole {xs : List V} {lo hi : Option Int} (h : HT.sIx xs.length 0 lo = 0 ∧ HT.sIx xs.length xs.length hi = xs.length) : cutV xs lo hi = xs := by
  unfold cutV
  rw [h.1, h.2, List.drop_zero, Nat.sub_zero, List.take_length]
theorem slR_ok {K : PySem.W.Frag} {H : Hp} {a : Addr} {xs : List V} {lo hi : Option Int} {Q : VK} (ha : H a = some (.tup xs)) (q : ∀ (p : Addr) (H' : Hp), Same H H' → H' p = some (.tup (cutV xs lo hi)) → Q (.ref p) H') : rSlA K (.ref a) lo hi H Q :=
  ⟨a, xs, rfl, .of ha, fun h => q a H (Same.refl _) (by rw [cut_whole h]; exact ha), fun _ p hp => q p _ (New.same (o := .tup (cutV xs lo hi)) ⟨hp, rfl⟩) upd_same⟩
theorem catR_ok {K : PySem.W.Frag} {H : Hp} {a b : Addr} {xs ys : List V} {Q : VK} (ha : H a = some (.tup xs)) (hb : H b = some (.tup ys)) (l : xs.length + ys.length ≤ 1000) (q : ∀ (p : Addr) (H' : Hp), Same H H' → H' p = some (.tup (xs ++ ys)) → Q (.ref p) H') : rCatA K (.ref a) (.ref b) H Q := by
  refine ⟨a, b, xs, ys, rfl, rfl, .of ha, .of hb, Nat.le_trans l (by decide), fun e => ?_, fun _ e => ?_, fun _ _ p hp => q p _ (New.same (o := .tup (xs ++ ys)) ⟨hp, rfl⟩) upd_same⟩
  · subst e
    exact q b H (Same.refl _) hb
  · subst e
    exact q a H (Same.refl _) (by rw [List.append_nil]; exact ha)
theorem cut_upto {xs : List V} {n : Nat} : cutV xs none (some (n : Int)) = xs.take n := by
  rcases Nat.lt_or_ge xs.length n with h | h
  · have : cutV xs none (some (n : Int)) = xs.take xs.length := by
      unfold cutV
      rw [show HT.sIx xs.length xs.length (some (n : Int)) = min n xs.length from HT.sIx_nat xs.length xs.length n, HT.sIx_none, List.drop_zero, Nat.sub_zero, Nat.min_eq_right (by omega)]
    rw [this, List.take_length, List.take_of_length_le (by omega)]
  · exact cut_to h
theorem cut_fr {xs : List V} {n : Nat} : cutV xs (some (n : Int)) none = xs.drop n := by
  unfold cutV
  rw [show HT.sIx xs.length 0 (some (n : Int)) = min n xs.length from HT.sIx_nat xs.length 0 n, HT.sIx_none]
  rcases Nat.lt_or_ge xs.length n with h | h
  · rw [Nat.min_eq_right (by omega), List.drop_length, List.drop_of_length_le (by omega)]
    simp
  · rw [Nat.min_eq_left h]
    exact List.take_of_length_le (by rw [List.length_drop]; omega)
/-- two neighbours change places -/
def exch (i : Nat) (xs : List Int) : List Int := xs.take i ++ [(xs[i + 1]?).getD 0, (xs[i]?).getD 0] ++ xs.drop (i + 2)
theorem exch_at {i : Nat} {xs : List Int} (il : i + 1 < xs.length) : (xs[i + 1]?).getD 0 = xs[i + 1] ∧ (xs[i]?).getD 0 = xs[i] ∧ atI (xs.map V.int) (i : Int) = some (.int xs[i]) ∧ atI (xs.map V.int) ((i : Int) + 1) = some (.int xs[i + 1]) := by
  refine ⟨by rw [List.getElem?_eq_getElem il]; rfl, by rw [List.getElem?_eq_getElem (by omega)]; rfl, atI_nat (by rw [List.getElem?_map, List.getElem?_eq_getElem (by omega)]; rfl), ?_⟩
  have := atI_nat (xs := xs.map V.int) (j := i + 1) (v := .int xs[i + 1]) (by rw [List.getElem?_map, List.getElem?_eq_getElem il]; rfl)
  exact this
theorem exch_map {i : Nat} {xs : List Int} {u v : Int} (e0 : (xs[i + 1]?).getD 0 = u) (e1 : (xs[i]?).getD 0 = v) : (exch i xs).map V.int = (xs.take i).map V.int ++ [V.int u, V.int v] ++ (xs.drop (i + 2)).map V.int := by
  unfold exch
  rw [e0, e1, List.map_append, List.map_append]
  rfl
def spSwapped (t : Bool) : Sp := fun vs H Q _ => ∃ (a : Addr) (i : Nat) (xs : List Int), vs = [.ref a, .int (i : Int)] ∧ H a = some (if t then .tup (xs.map V.int) else .lst (xs.map V.int)) ∧ i + 1 < xs.length ∧ xs.length ≤ 24 ∧ ∀ (p : Addr) (H' : Hp), Same H H' → H' p = some (.tup ((exch i xs).map V.int)) → Q (.ref p) H'
def spExch (t : Bool) : Sp := fun vs H Q _ => ∃ (a : Addr) (i : Nat) (xs : List Int), vs = [.ref a, .int (i : Int)] ∧ H a = some (if t then .tup (xs.map V.int) else .lst (xs.map V.int)) ∧ i + 1 < xs.length ∧ xs.length ≤ 500 ∧ ∀ (p : Addr) (H' : Hp), Same H H' → H' p = some (.tup ((exch i xs).map V.int)) → Q (.ref p) H'
theorem ok_exchanged (Z : Zs mg) (D : Ds K mg) : Cal P w K mg base "exchanged" 1 ["row", "index"] (spExch true) := by
  refine Def.cal D.d_exchanged sc_exchanged (fun vs H Q E h => ?_) (fun f cdv A outer s H vs Q E hr h => ?_)
  · obtain ⟨a, i, xs, rfl, ha, il, l5, q⟩ := h
    rfl
  obtain ⟨a, i, xs, rfl, ha, il, l5, q⟩ := h
  refine ⟨_, (pss_one (ps_ret (pe_op op_catA (pe_op op_catA (pe_callTy call_tupleT (by rfl) Z.z_tuple (by decide +kernel) (pa_cons (pe_slice sl_tupA (pv 0) po_none (po_some (pv 1))) pa_nil)) (pe_tupN (pa_cons (pe_ix ix_tup (pv 0) (pe_op op_add (pv 1) pe_int) (fun _ _ => rfl)) (pa_cons (pe_ix ix_tup (pv 0) (pv 1) (fun _ _ => rfl)) pa_nil)))) (pe_callTy call_tupleT (by rfl) Z.z_tuple (by decide +kernel) (pa_cons (pe_slice sl_tupA (pv 0) (po_some (pe_op op_add (pv 1) pe_int)) po_none) pa_nil))))), ?_⟩
  have ha : H a = some (.tup (xs.map V.int)) := ha
  obtain ⟨e0, e1, p0, p1⟩ := exch_at il
  refine ⟨_, rfl, _, rfl, _, rfl, slR_ok ha fun p1' H1 s1 h1 => ?_⟩
  rw [cut_upto, ← List.map_take] at h1
  refine ⟨p1', _, rfl, .of h1, ?_⟩
  refine ⟨_, rfl, _, rfl, _, _, rfl, rfl, a, _, _, _, rfl, rfl, .of (s1 _ _ ha), p1, _, rfl, _, rfl, a, _, _, _, rfl, rfl, .of (s1 _ _ ha), p0, by show 2 ≤ sizeLine; decide, fun t2 H2 n2 => ?_⟩
  refine catR_ok (n2.else h1) n2.at (by rw [List.length_map, List.length_take]; show _ + 2 ≤ 1000; omega) fun p3 H3 s3 h3 => ?_
  have ha3 := s3 _ _ (n2.else (s1 _ _ ha))
  refine ⟨_, rfl, _, rfl, _, _, rfl, rfl, _, rfl, ?_⟩
  dsimp only [tNoPart]
  refine slR_ok ha3 fun p4 H4 s4 h4 => ?_
  rw [show ((i : Int) + 2) = ((i + 2 : Nat) : Int) from rfl, cut_fr, ← List.map_drop] at h4
  refine ⟨p4, _, rfl, .of h4, ?_⟩
  refine catR_ok (s4 _ _ h3) h4 (by rw [List.length_append, List.length_map, List.length_take, List.length_map, List.length_drop]; show _ + 2 + _ ≤ 1000; omega) fun p5 H5 s5 h5 => ?_
  refine q p5 H5 ((((s1.trans n2.same).trans s3).trans s4).trans s5) ?_
  rw [h5, exch_map e0 e1]
theorem ok_exchanged__l (Z : Zs mg) (D : Ds K mg) : Cal P w K mg base "exchanged" 1 ["row", "index"] (spExch false) := by
  refine Def.cal D.d_exchanged sc_exchanged (fun vs H Q E h => ?_) (fun f cdv A outer s H vs Q E hr h => ?_)
  · obtain ⟨a, i, xs, rfl, ha, il, l5, q⟩ := h
    rfl
  obtain ⟨a, i, xs, rfl, ha, il, l5, q⟩ := h
  refine ⟨_, (pss_one (ps_ret (pe_op op_catA (pe_op op_catA (pe_callTy call_tupleN (by rfl) Z.z_tuple (by decide +kernel) (pa_cons (pe_slice sl_listN (pv 0) po_none (po_some (pv 1))) pa_nil)) (pe_tupN (pa_cons (pe_ix ix_list (pv 0) (pe_op op_add (pv 1) pe_int) (fun _ _ => rfl)) (pa_cons (pe_ix ix_list (pv 0) (pv 1) (fun _ _ => rfl)) pa_nil)))) (pe_callTy call_tupleN (by rfl) Z.z_tuple (by decide +kernel) (pa_cons (pe_slice sl_listN (pv 0) (po_some (pe_op op_add (pv 1) pe_int)) po_none) pa_nil))))), ?_⟩
  have ha : H a = some (.lst (xs.map V.int)) := ha
  obtain ⟨e0, e1, p0, p1⟩ := exch_at il
  refine ⟨_, rfl, _, rfl, _, rfl, a, _, rfl, .of ha, fun p1' H1 n1 => ?_⟩
  rw [cut_upto, ← List.map_take] at n1
  refine ⟨p1', _, rfl, .of n1.at, fun t1 H1' n1' => ?_⟩
  have s1 := n1.same.trans n1'.same
  have h1 := n1'.at
  refine ⟨_, rfl, _, rfl, _, _, rfl, rfl, a, _, _, _, rfl, rfl, .of (s1 _ _ ha), p1, _, rfl, _, rfl, a, _, _, _, rfl, rfl, .of (s1 _ _ ha), p0, by show 2 ≤ sizeLine; decide, fun t2 H2 n2 => ?_⟩
  refine catR_ok (n2.else h1) n2.at (by rw [List.length_map, List.length_take]; show _ + 2 ≤ 1000; omega) fun p3 H3 s3 h3 => ?_
  have ha3 := s3 _ _ (n2.else (s1 _ _ ha))
  refine ⟨_, rfl, _, rfl, _, _, rfl, rfl, _, rfl, ?_⟩
  dsimp only [tNoPart]
  refine ⟨a, _, rfl, .of ha3, fun p4 H4 n4 => ?_⟩
  rw [show ((i : Int) + 2) = ((i + 2 : Nat) : Int) from rfl, cut_fr, ← List.map_drop] at n4
  refine ⟨p4, _, rfl, .of n4.at, fun t4 H4' n4' => ?_⟩
  refine catR_ok (n4'.else (n4.else h3)) n4'.at (by rw [List.length_append, List.length_map, List.length_take, List.length_map, List.length_drop]; show _ + 2 + _ ≤ 1000; omega) fun p5 H5 s5 h5 => ?_
  refine q p5 H5 ((((((s1.trans n2.same).trans s3).trans n4.same).trans n4'.same)).trans s5) ?_
  rw [h5, exch_map e0 e1]
def spChkEnt (K : PySem.W.Frag) (DT : Addr) : Sp := fun vs H Q E => ∃ (a : Addr) (xs : List V) (lim : Int), vs = [.ref a, .int lim] ∧ HasL H a xs ∧ (((xs.length : Nat) : Int) ≤ lim → Q .non H) ∧ (lim < ((xs.length : Nat) : Int) → Errs E DT [(("limit" : Str), .int lim), (("what" : Str), .str "row")] H)
theorem ok_check_entries {DT : Addr} (Z : Zs mg) (D : Ds K mg) (m_TooMany : Xm P w K mg base "TooMany" DT ["what", "limit"]) : CalX P w K mg base "check_entries" 3 ["row", "limit"] (spChkEnt K DT) := by
  refine Def.calX D.d_check_entries sc_check_entries (fun vs H Q E h => ?_) (fun f cdv A outer s H vs Q E hr h => ?_)
  · obtain ⟨a, xs, lim, rfl, hl, j1, j2⟩ := h
    rfl
  obtain ⟨a, xs, lim, rfl, hl, j1, j2⟩ := h
  refine ⟨_, (pss_one (ps_if (pt_cmp (pc_gt (pe_callB call_len (by rfl) Z.z_len (by decide +kernel) (pa_cons (pv 0) pa_nil)) (pv 1)) (nomark _)) (pss_one (L2N.ps_raise rfl (L2N.takes_of rfl rfl rfl rfl) (pmk_x m_TooMany (hr.mono (by first | decide | omega)) (by rfl) (pa_cons pe_str (pa_cons (pv 1) pa_nil))))) pss_nil)), ?_⟩
  refine ⟨_, rfl, _, xs.length, rfl, HasL.lenV hl, _, rfl, _, _, rfl, rfl, _, rfl, ite2 (fun c => ?_) (fun c => ?_)⟩
  · have c : lim < ((xs.length : Nat) : Int) := dec_of c
    refine ⟨_, rfl, ?_⟩
    exact ini_end rfl (by show 2 ≤ 1000; decide) fun dd hdd => j2 c dd _ (same_put (Same.refl _) hdd) upd_same
  · have c : ¬ lim < ((xs.length : Nat) : Int) := dec_not c
    exact j1 (by omega)
theorem ok_swapped {DB DT : Addr} (Z : Zs mg) (D : Ds K mg) (c_check_entries : CalX P w K mg base "check_entries" 3 ["row", "limit"] (spChkEnt K DT)) (c_check_number : CalX P w K mg base "check_number" 3 ["value", "low", "high"] (spCheckNum DB)) (c_exchanged : Cal P w K mg base "exchanged" 1 ["row", "index"] (spExch true)) : CalX P w K mg base "swapped" 4 ["row", "index"] (spSwapped true) := by
  refine Def.calX D.d_swapped sc_swapped (fun vs H Q E h => ?_) (fun f cdv A outer s H vs Q E hr h => ?_)
  · obtain ⟨a, i, xs, rfl, ha, il, l24, q⟩ := h
    rfl
  obtain ⟨a, i, xs, rfl, ha, il, l24, q⟩ := h
  refine ⟨_, (pss_cons (ps_expr (pe_calX c_check_entries (L2N.takes_of rfl rfl rfl rfl) (hr.mono (by first | decide | omega)) (by rfl) (pa_cons (pv 0) (pa_cons (pe_globI (by rfl) Z.c_MOST_ROW) pa_nil))))
      (pss_cons (ps_expr (pe_calX c_check_number (L2N.takes_of rfl rfl rfl rfl) (hr.mono (by first | decide | omega)) (by rfl) (pa_cons (pv 1) (pa_cons pe_int (pa_cons (pe_op op_sub (pe_callB call_len_seq (by rfl) Z.z_len (by decide +kernel) (pa_cons (pv 0) pa_nil)) pe_int) pa_nil)))))
      (pss_one (ps_ret (pe_cal c_exchanged (hr.mono (by first | decide | omega)) (by rfl) (pa_cons (pv 0) (pa_cons (pv 1) pa_nil))))))), ?_⟩
  refine ⟨_, rfl, a, _, 24, rfl, .inr ha, fun _ => ?_, fun c => absurd c (by rw [List.length_map]; omega)⟩
  refine ⟨_, rfl, _, rfl, a, _, rfl, .inr (.of ha), _, _, rfl, rfl, _, .int (i : Int), 0, _, rfl, .int _, fun _ => ?_, fun e => ?_⟩
  · exact ⟨_, rfl, _, rfl, a, i, xs, rfl, ha, il, by omega, q⟩
  · have e : (decide (0 ≤ (i : Int)) && decide ((i : Int) ≤ (((xs.map V.int).length : Nat) : Int) - 2)) = false := e
    rw [List.length_map, decide_eq_true (show 0 ≤ (i : Int) by omega), decide_eq_true (show (i : Int) ≤ ((xs.length : Nat) : Int) - 2 by omega)] at e
    cases e
theorem ok_swapped__l {DB DT : Addr} (Z : Zs mg) (D : Ds K mg) (c_check_entries : CalX P w K mg base "check_entries" 3 ["row", "limit"] (spChkEnt K DT)) (c_check_number : CalX P w K mg base "check_number" 3 ["value", "low", "high"] (spCheckNum DB)) (c_exchanged__l : Cal P w K mg base "exchanged" 1 ["row", "index"] (spExch false)) : CalX P w K mg base "swapped" 4 ["row", "index"] (spSwapped false) := by
  refine Def.calX D.d_swapped sc_swapped (fun vs H Q E h => ?_) (fun f cdv A outer s H vs Q E hr h => ?_)
  · obtain ⟨a, i, xs, rfl, ha, il, l24, q⟩ := h
    rfl
  obtain ⟨a, i, xs, rfl, ha, il, l24, q⟩ := h
  refine ⟨_, (pss_cons (ps_expr (pe_calX c_check_entries (L2N.takes_of rfl rfl rfl rfl) (hr.mono (by first | decide | omega)) (by rfl) (pa_cons (pv 0) (pa_cons (pe_globI (by rfl) Z.c_MOST_ROW) pa_nil))))
      (pss_cons (ps_expr (pe_calX c_check_number (L2N.takes_of rfl rfl rfl rfl) (hr.mono (by first | decide | omega)) (by rfl) (pa_cons (pv 1) (pa_cons pe_int (pa_cons (pe_op op_sub (pe_callB call_len_seq (by rfl) Z.z_len (by decide +kernel) (pa_cons (pv 0) pa_nil)) pe_int) pa_nil)))))
      (pss_one (ps_ret (pe_cal c_exchanged__l (hr.mono (by first | decide | omega)) (by rfl) (pa_cons (pv 0) (pa_cons (pv 1) pa_nil))))))), ?_⟩
  refine ⟨_, rfl, a, _, 24, rfl, .inl ha, fun _ => ?_, fun c => absurd c (by rw [List.length_map]; omega)⟩
  refine ⟨_, rfl, _, rfl, a, _, rfl, .inl (.of ha), _, _, rfl, rfl, _, .int (i : Int), 0, _, rfl, .int _, fun _ => ?_, fun e => ?_⟩
  · exact ⟨_, rfl, _, rfl, a, i, xs, rfl, ha, il, by omega, q⟩
  · have e : (decide (0 ≤ (i : Int)) && decide ((i : Int) ≤ (((xs.map V.int).length : Nat) : Int) - 2)) = false := e
    rw [List.length_map, decide_eq_true (show 0 ≤ (i : Int) by omega), decide_eq_true (show (i : Int) ≤ ((xs.length : Nat) : Int) - 2 by omega)] at e
    cases e
/-- the swap path of two lengths -/
def pathL (n m : Nat) : List Int := (List.range (n * m)).map fun t : Nat => (n : Int) + ((t / n : Nat) : Int) - 1 - ((t % n : Nat) : Int)
def spSwapPath (DB : Addr) : Sp := fun vs H Q E => ∃ (v u : V) (dv du : PyData), vs = [v, u] ∧ Da H v dv ∧ Da H u du ∧ (isNum dv 0 24 = false → Errs E DB [(("high" : Str), .int 24), (("low" : Str), .int 0), (("value" : Str), v)] H) ∧
  (isNum dv 0 24 = true → isNum du 0 24 = false → Errs E DB [(("high" : Str), .int 24), (("low" : Str), .int 0), (("value" : Str), u)] H) ∧
  ∀ n m : Nat, dv = .int (n : Int) → du = .int (m : Int) → n ≤ 24 → m ≤ 24 → ∀ (l : Addr) (H' : Hp), Same H H' → H l = none → H' l = some (.lst ((pathL n m).map V.int)) → Q (.ref l) H'
theorem path_step {n k i : Nat} (hi : i < n) : (List.range (n * k + i + 1)).map (fun t : Nat => (n : Int) + ((t / n : Nat) : Int) - 1 - ((t % n : Nat) : Int)) = (List.range (n * k + i)).map (fun t : Nat => (n : Int) + ((t / n : Nat) : Int) - 1 - ((t % n : Nat) : Int)) ++ [(n : Int) + (k : Int) - 1 + (i : Int) * (-1)] := by
  rw [List.range_succ, List.map_append]
  have e1 : (n * k + i) / n = k := by
    rw [Nat.mul_add_div (by omega), Nat.div_eq_of_lt hi]
    rfl
  have e2 : (n * k + i) % n = i := by
    rw [Nat.mul_add_mod, Nat.mod_eq_of_lt hi]
  show _ ++ [(n : Int) + (((n * k + i) / n : Nat) : Int) - 1 - (((n * k + i) % n : Nat) : Int)] = _
  rw [e1, e2]
  congr 2
  omega
theorem num24 {d : PyData} (e : isNum d 0 24 = true) : ∃ n : Nat, d = .int (n : Int) ∧ n ≤ 24 := by
  cases d with
  | int i =>
    have e : (decide (0 ≤ i) && decide (i ≤ 24)) = true := e
    rw [Bool.and_eq_true] at e
    have a := of_decide_eq_true e.1
    have b := of_decide_eq_true e.2
    exact ⟨i.toNat, by rw [Int.toNat_of_nonneg a], by omega⟩
  | _ => cases e
theorem ok_swap_path_k {DB : Addr} (Z : Zs mg) (D : Ds K mg) (B_swap_path : DefK K mg "swap_path" s_swap_path ["first", "second"]) (c_check_number : CalX P w K mg base "check_number" 3 ["value", "low", "high"] (spCheckNum DB)) : CalK P w K mg base "swap_path" 4 ["first", "second"] (spSwapPath DB) := by
  refine DefK.calK B_swap_path sc_swap_path (fun vs H Q E h => ?_) (fun f cdv A outer s H vs Q E hr h => ?_)
  · obtain ⟨v, u, dv, du, rfl, hv, hu, j1, j2, j3⟩ := h
    rfl
  obtain ⟨v, u, dv, du, rfl, hv, hu, j1, j2, j3⟩ := h
  refine ⟨_, (pss_cons (ps_expr (pe_calX c_check_number (L2N.takes_of rfl rfl rfl rfl) (hr.mono (by first | decide | omega)) (by rfl) (pa_cons (pv 0) (pa_cons pe_int (pa_cons (pe_globI (by rfl) Z.c_MOST_ROW) pa_nil)))))
      (pss_cons (ps_expr (pe_calX c_check_number (L2N.takes_of rfl rfl rfl rfl) (hr.mono (by first | decide | omega)) (by rfl) (pa_cons (pv 1) (pa_cons pe_int (pa_cons (pe_globI (by rfl) Z.c_MOST_ROW) pa_nil)))))
      (pss_one (ps_ret (pe_lc2 (own := [("k", 2), ("index", 3)]) (vs1 := [3]) (g := gName 2) (g1 := gName 3) (tt := tYes) (tt1 := tYes) (by rfl) sc_swap_path.nd (pi_range1 (by rfl) Z.z_range (pa_cons (pv 1) pa_nil)) (blkOk_by (N := ["first", "second", "k", "index"]) (sc := defScope s_swap_path) (by decide +kernel)) (by decide) (fun _ _ _ _ _ => pg_name (i := 2) sc_swap_path.nd rfl (Or.inl rfl)) (fun _ _ _ _ _ => pts_nil) (fun _ _ _ _ _ => (pi_range3 (by rfl) Z.z_range (pa_cons (pe_op op_sub (pe_op op_add (pv 0) (pv 2)) pe_int) (pa_cons (pe_op op_sub (pv 2) pe_int) (pa_cons (pe_un un_neg pe_int) pa_nil))))) (fun _ _ _ _ _ => pg_name (i := 3) sc_swap_path.nd rfl (Or.inl rfl)) (fun _ _ _ _ _ => pts_nil) (fun _ _ _ _ _ => (pv 3))))))), ?_⟩
  refine ⟨_, rfl, v, dv, 0, 24, rfl, hv, fun e => ?_, j1⟩
  refine ⟨_, rfl, u, du, 0, 24, rfl, hu, fun e2 => ?_, j2 e⟩
  obtain ⟨n, rfl, n24⟩ := num24 e
  obtain ⟨m, rfl, m24⟩ := num24 e2
  cases hv
  cases hu
  refine ⟨_, rfl, (m : Int), rfl, by omega, by omega, fun l hl => ?_⟩
  have nt : ((m : Int)).toNat = m := Int.toNat_natCast m
  have small : ∀ {a b c : Nat}, a ≤ b → b ≤ 24 → c ≤ 24 → c * a ≤ 576 := fun h1 h2 h3 => Nat.le_trans (Nat.mul_le_mul h3 (Nat.le_trans h1 h2)) (by decide)
  refine loopR (fun k H' => Same H H' ∧ H' l = some (.lst (((List.range (n * k)).map fun t : Nat => (n : Int) + ((t / n : Nat) : Int) - 1 - ((t % n : Nat) : Int)).map V.int))) ?_ ?_ ?_
  · rw [Nat.mul_zero]
    exact ⟨(⟨hl, rfl⟩ : New H l (.lst []) _).same, upd_same⟩
  · rintro k H1 hk ⟨s1, h1⟩
    rw [nt] at hk
    refine ⟨rfl, yesT ?_⟩
    refine ⟨_, rfl, _, rfl, _, _, rfl, rfl, _, _, rfl, rfl, _, rfl, _, _, rfl, rfl, _, rfl, _, _, _, _, rfl, .neg (by omega) (by omega) (by omega) (by omega), ?_⟩
    have cnt : ((n : Int) + (0 + (k : Int)) - 1 - (0 + (k : Int) - 1)).toNat = n := by omega
    rw [cnt]
    refine loopC (fun j H' => Same H H' ∧ H' l = some (.lst (((List.range (n * k + j)).map fun t : Nat => (n : Int) + ((t / n : Nat) : Int) - 1 - ((t % n : Nat) : Int)).map V.int))) ⟨s1, h1⟩ ?_ ?_
    · rintro j H2 hj ⟨s2, h2⟩
      refine ⟨rfl, yesT ⟨_, rfl, _, h2, ?_, ?_, ?_⟩⟩
      · rw [List.length_map, List.length_map, List.length_range]
        have := small (Nat.le_of_lt hk) m24 n24
        exact lt (by omega)
      · exact same_mut s2 hl rfl
      · rw [upd_same, ← Nat.add_assoc, path_step hj, List.map_append]
        show some (HO.lst (_ ++ [V.int _])) = some (HO.lst (_ ++ [V.int _]))
        rw [show (n : Int) + (0 + (k : Int)) - 1 + (j : Int) * -1 = (n : Int) + (k : Int) - 1 + (j : Int) * (-1) by omega]
    · rintro H2 ⟨s2, h2⟩
      exact ⟨s2, by rw [Nat.mul_succ]; exact h2⟩
  · rintro H1 ⟨s1, h1⟩
    rw [nt] at h1
    exact j3 n m rfl rfl n24 m24 l H1 s1 hl h1
theorem ok_swap_path {DB : Addr} (Z : Zs mg) (D : Ds K mg) (c_swap_path_k : CalK P w K mg base "swap_path" 4 ["first", "second"] (spSwapPath DB)) : CalX P w K mg base "swap_path" 4 ["first", "second"] (spSwapPath DB) := c_swap_path_k.cx


/-- the words between two rows, by their numbers -/
def idx (n t : Nat) : Nat := t / n + (n - 1 - t % n)
def wdW (xs ys : List Int) (k c : Nat) : List Int := ys.take k ++ xs.take c ++ [(ys[k]?).getD 0] ++ xs.drop c ++ ys.drop (k + 1)
def wd (xs ys : List Int) : Nat → List Int
  | 0 => xs ++ ys
  | t + 1 => wdW xs ys (t / xs.length) (xs.length - 1 - t % xs.length)
theorem wdW_next {xs ys : List Int} {k : Nat} (h : k + 1 < ys.length) : wdW xs ys k 0 = wdW xs ys (k + 1) xs.length := by
  unfold wdW
  rw [List.take_zero, List.drop_zero, List.append_nil, List.take_length, List.drop_length, List.append_nil, List.getElem?_eq_getElem (show k < ys.length by omega), List.getElem?_eq_getElem h]
  show ys.take k ++ [ys[k]] ++ xs ++ ys.drop (k + 1) = ys.take (k + 1) ++ xs ++ [ys[k + 1]] ++ ys.drop (k + 1 + 1)
  rw [List.take_add_one, List.getElem?_eq_getElem (show k < ys.length by omega), List.drop_eq_getElem_cons h]
  simp [List.append_assoc]
theorem wd_at {xs ys : List Int} : ∀ {t : Nat}, t < xs.length * ys.length → wd xs ys t = wdW xs ys (t / xs.length) (xs.length - t % xs.length) := by
  intro t ht
  have n0 : 0 < xs.length := Nat.pos_of_ne_zero fun e => by rw [e, Nat.zero_mul] at ht; omega
  have m0 : 0 < ys.length := Nat.pos_of_ne_zero fun e => by rw [e, Nat.mul_zero] at ht; omega
  cases t with
  | zero =>
    show xs ++ ys = wdW xs ys (0 / xs.length) (xs.length - 0 % xs.length)
    rw [Nat.zero_div, Nat.zero_mod, Nat.sub_zero]
    unfold wdW
    rw [List.take_zero, List.take_length, List.drop_length, List.append_nil, List.getElem?_eq_getElem m0]
    show xs ++ ys = [] ++ xs ++ [ys[0]] ++ ys.drop (0 + 1)
    rw [List.nil_append, List.append_assoc, List.singleton_append, ← List.drop_eq_getElem_cons m0, List.drop_zero]
  | succ s =>
    show wdW xs ys (s / xs.length) (xs.length - 1 - s % xs.length) = _
    have lt := Nat.mod_lt s n0
    by_cases c : s % xs.length = xs.length - 1
    · have e := Nat.div_add_mod s xs.length
      have e1 : (s + 1) / xs.length = s / xs.length + 1 := by
        have : s + 1 = xs.length * (s / xs.length + 1) := by rw [Nat.mul_add, Nat.mul_one]; omega
        rw [this, Nat.mul_div_cancel_left _ n0]
      have e2 : (s + 1) % xs.length = 0 := by
        have : s + 1 = xs.length * (s / xs.length + 1) := by rw [Nat.mul_add, Nat.mul_one]; omega
        rw [this, Nat.mul_mod_right]
      have km : (s + 1) / xs.length < ys.length := Nat.div_lt_of_lt_mul ht
      rw [e1] at km
      rw [e1, e2, c, Nat.sub_self, Nat.sub_zero]
      exact wdW_next km
    · have e := Nat.div_add_mod s xs.length
      have e1 : (s + 1) / xs.length = s / xs.length := by
        have : s + 1 = xs.length * (s / xs.length) + (s % xs.length + 1) := by omega
        have z : (s % xs.length + 1) / xs.length = 0 := Nat.div_eq_of_lt (by omega)
        conv => lhs; rw [this]
        rw [Nat.mul_add_div n0, z, Nat.add_zero]
      have e2 : (s + 1) % xs.length = s % xs.length + 1 := by
        have : s + 1 = xs.length * (s / xs.length) + (s % xs.length + 1) := by omega
        have z : (s % xs.length + 1) % xs.length = s % xs.length + 1 := Nat.mod_eq_of_lt (by omega)
        conv => lhs; rw [this]
        rw [Nat.mul_add_mod, z]
      rw [e1, e2]
      congr 1
      omega
theorem exch_mid (p s : List Int) (u v : Int) : exch p.length (p ++ [u, v] ++ s) = p ++ [v, u] ++ s := by
  unfold exch
  have e1 : (p ++ [u, v] ++ s)[p.length + 1]? = some v := by
    rw [List.append_assoc, List.getElem?_append_right (by omega)]
    simp
  have e2 : (p ++ [u, v] ++ s)[p.length]? = some u := by
    rw [List.append_assoc, List.getElem?_append_right (by omega)]
    simp
  have e3 : (p ++ [u, v] ++ s).take p.length = p := by
    rw [List.append_assoc, List.take_append_of_le_length (Nat.le_refl _), List.take_length]
  have e4 : (p ++ [u, v] ++ s).drop (p.length + 2) = s := by
    rw [show p.length + 2 = (p ++ [u, v]).length by simp, List.drop_append_of_le_length (Nat.le_refl _), List.drop_length, List.nil_append]
  rw [e1, e2, e3, e4]
  rfl
theorem wdW_exch {xs ys : List Int} {k c : Nat} (hc : c + 1 ≤ xs.length) (hk : k < ys.length) : exch (k + c) (wdW xs ys k (c + 1)) = wdW xs ys k c := by
  have l1 : (ys.take k ++ xs.take c).length = k + c := by
    rw [List.length_append, List.length_take, List.length_take]
    omega
  have e : wdW xs ys k (c + 1) = (ys.take k ++ xs.take c) ++ [xs[c], (ys[k]?).getD 0] ++ (xs.drop (c + 1) ++ ys.drop (k + 1)) := by
    unfold wdW
    rw [List.take_add_one, List.getElem?_eq_getElem (show c < xs.length by omega)]
    simp only [Option.toList_some, List.append_assoc, List.cons_append, List.nil_append]
  rw [e, ← l1, exch_mid]
  unfold wdW
  rw [List.drop_eq_getElem_cons (show c < xs.length by omega)]
  simp only [List.append_assoc, List.cons_append, List.nil_append]
theorem wd_step {xs ys : List Int} {t : Nat} (ht : t < xs.length * ys.length) : wd xs ys (t + 1) = exch (idx xs.length t) (wd xs ys t) := by
  have n0 : 0 < xs.length := Nat.pos_of_ne_zero fun e => by rw [e, Nat.zero_mul] at ht; omega
  have lt := Nat.mod_lt t n0
  have km : t / xs.length < ys.length := Nat.div_lt_of_lt_mul ht
  rw [wd_at ht]
  show wdW xs ys (t / xs.length) (xs.length - 1 - t % xs.length) = exch (t / xs.length + (xs.length - 1 - t % xs.length)) _
  rw [show xs.length - t % xs.length = (xs.length - 1 - t % xs.length) + 1 by omega, wdW_exch (by omega) km]
theorem wd_len {xs ys : List Int} : ∀ {t : Nat}, t ≤ xs.length * ys.length → (wd xs ys t).length = xs.length + ys.length := by
  intro t ht
  cases t with
  | zero => exact List.length_append
  | succ s =>
    have ht : s < xs.length * ys.length := ht
    have n0 : 0 < xs.length := Nat.pos_of_ne_zero fun e => by rw [e, Nat.zero_mul] at ht; omega
    have km : s / xs.length < ys.length := Nat.div_lt_of_lt_mul ht
    show (wdW _ _ _ _).length = _
    unfold wdW
    simp only [List.length_append, List.length_take, List.length_drop, List.length_singleton]
    omega
theorem idx_lt {n m t : Nat} (ht : t < n * m) : idx n t + 1 < n + m := by
  have n0 : 0 < n := Nat.pos_of_ne_zero fun e => by rw [e, Nat.zero_mul] at ht; omega
  have lt := Nat.mod_lt t n0
  have km : t / n < m := Nat.div_lt_of_lt_mul ht
  unfold idx
  omega
theorem path_idx {n m t : Nat} (ht : t < n * m) : (pathL n m)[t]? = some ((idx n t : Nat) : Int) := by
  have n0 : 0 < n := Nat.pos_of_ne_zero fun e => by rw [e, Nat.zero_mul] at ht; omega
  have lt := Nat.mod_lt t n0
  unfold pathL idx
  rw [List.getElem?_map, List.getElem?_range ht]
  show some ((n : Int) + ((t / n : Nat) : Int) - 1 - ((t % n : Nat) : Int)) = _
  congr 1
  omega
theorem path_len (n m : Nat) : (pathL n m).length = n * m := by
  unfold pathL
  rw [List.length_map, List.length_range]
def wordsL (xs ys : List Int) : List (List Int) := (List.range (xs.length * ys.length + 1)).map (wd xs ys)
/-- tuples of ints, each in the heap -/
def TupsAt (H : Hp) (ws : List V) (L : List (List Int)) : Prop := ws.length = L.length ∧ ∀ (j : Nat) w, L[j]? = some w → ∃ c, ws[j]? = some (.ref c) ∧ H c = some (.tup (w.map V.int))
theorem TupsAt.up {H H' : Hp} {ws : List V} {L : List (List Int)} (h : TupsAt H ws L) (s : Same H H') : TupsAt H' ws L := ⟨h.1, fun j w hj => by
  obtain ⟨c, a, b⟩ := h.2 j w hj
  exact ⟨c, a, s _ _ b⟩⟩
theorem TupsAt.put {H : Hp} {ws xs ys : List V} {L : List (List Int)} {l : Addr} (h : TupsAt H ws L) (hl : H l = some (.lst xs)) : TupsAt (upd H l (.lst ys)) ws L := ⟨h.1, fun j w hj => by
  obtain ⟨c, a, b⟩ := h.2 j w hj
  refine ⟨c, a, ?_⟩
  rw [upd_ne fun e => by rw [e, hl] at b; cases b]
  exact b⟩
theorem TupsAt.snoc {H : Hp} {ws : List V} {L : List (List Int)} {c : Addr} {w : List Int} (h : TupsAt H ws L) (hc : H c = some (.tup (w.map V.int))) : TupsAt H (ws ++ [.ref c]) (L ++ [w]) := by
  refine ⟨by rw [List.length_append, List.length_append, h.1]; rfl, fun j u hj => ?_⟩
  rcases Nat.lt_or_ge j L.length with l | l
  · rw [List.getElem?_append_left l] at hj
    obtain ⟨d, a, b⟩ := h.2 j u hj
    exact ⟨d, by rw [List.getElem?_append_left (by rw [h.1]; exact l)]; exact a, b⟩
  · rw [List.getElem?_append_right l] at hj
    obtain ⟨e, rfl⟩ : j - L.length = 0 ∧ w = u := by
      cases e : j - L.length with
      | zero => rw [e] at hj; exact ⟨rfl, Option.some.inj hj⟩
      | succ k => rw [e] at hj; cases hj
    refine ⟨c, ?_, hc⟩
    rw [List.getElem?_append_right (by rw [h.1]; exact l), h.1, e]
    rfl
theorem TupsAt.da {H : Hp} : ∀ {ws : List V} {L : List (List Int)}, TupsAt H ws L → DaAll H ws (L.map rowD) := by
  intro ws L
  induction L generalizing ws with
  | nil =>
    intro h
    rw [List.eq_nil_of_length_eq_zero h.1]
    exact .nil
  | cons w L ih =>
    intro h
    cases ws with
    | nil => exact absurd h.1 (by simp)
    | cons v ws =>
      obtain ⟨c, a, b⟩ := h.2 0 w rfl
      obtain rfl := Option.some.inj a
      refine .cons (.tup b (DaAll.ints _)) (ih ⟨Nat.succ.inj h.1, fun j u hj => ?_⟩)
      exact h.2 (j + 1) u hj
def spPathWords (DT : Addr) : Sp := fun vs H Q E => ∃ (a b : Addr) (xs ys : List Int), vs = [.ref a, .ref b] ∧ HasL H a (xs.map V.int) ∧ HasL H b (ys.map V.int) ∧ (12 < xs.length → Errs E DT [(("limit" : Str), .int 12), (("what" : Str), .str "row")] H) ∧
  (xs.length ≤ 12 → 12 < ys.length → Errs E DT [(("limit" : Str), .int 12), (("what" : Str), .str "row")] H) ∧
  (xs.length ≤ 12 → ys.length ≤ 12 → ∀ (l : Addr) (ws : List V) (H' : Hp), Same H H' → H l = none → H' l = some (.lst ws) → TupsAt H' ws (wordsL xs ys) → Q (.ref l) H')
theorem isNum24 {n : Nat} (h : n ≤ 24) : isNum (.int (n : Int)) 0 24 = true := by
  show (decide (0 ≤ (n : Int)) && decide ((n : Int) ≤ 24)) = true
  rw [Bool.and_eq_true]
  exact ⟨decide_eq_true (by omega), decide_eq_true (by omega)⟩
theorem at_end {ws : List V} {i : Nat} {v : V} (l : ws.length = i + 1) (h : ws[i]? = some v) : atI ws (-1) = some v := by
  have ne : ws ≠ [] := fun e => by rw [e] at l; cases l
  have q := atI_last ws.dropLast (ws.getLast ne)
  rw [List.dropLast_concat_getLast ne] at q
  rw [q, ← h, List.getLast_eq_getElem, List.getElem?_eq_getElem (by omega)]
  congr 1
  congr 1
  omega
theorem words_step {xs ys : List Int} {t : Nat} (h : t < xs.length * ys.length) : (List.range (t + 1 + 1)).map (wd xs ys) = (List.range (t + 1)).map (wd xs ys) ++ [exch (idx xs.length t) (wd xs ys t)] := by
  rw [List.range_succ, List.map_append]
  show _ ++ [wd xs ys (t + 1)] = _
  rw [wd_step h]
theorem ok_path_words {DB DT : Addr} (Z : Zs mg) (D : Ds K mg) (c_check_entries : CalX P w K mg base "check_entries" 3 ["row", "limit"] (spChkEnt K DT)) (c_swap_path : CalX P w K mg base "swap_path" 4 ["first", "second"] (spSwapPath DB)) (c_exchanged : Cal P w K mg base "exchanged" 1 ["row", "index"] (spExch true)) : CalX P w K mg base "path_words" 5 ["first", "second"] (spPathWords DT) := by
  refine Def.calX D.d_path_words sc_path_words (fun vs H Q E h => ?_) (fun f cdv A outer s H vs Q E hr h => ?_)
  · obtain ⟨a, b, xs, ys, rfl, ha, hb, j1, j2, j3⟩ := h
    rfl
  obtain ⟨a, b, xs, ys, rfl, ha, hb, j1, j2, j3⟩ := h
  refine ⟨_, (pss_cons (ps_expr (pe_calX c_check_entries (L2N.takes_of rfl rfl rfl rfl) (hr.mono (by first | decide | omega)) (by rfl) (pa_cons (pv 0) (pa_cons (pe_globI (by rfl) Z.c_MOST_PATH_ROW) pa_nil))))
      (pss_cons (ps_expr (pe_calX c_check_entries (L2N.takes_of rfl rfl rfl rfl) (hr.mono (by first | decide | omega)) (by rfl) (pa_cons (pv 1) (pa_cons (pe_globI (by rfl) Z.c_MOST_PATH_ROW) pa_nil))))
      (pss_cons (ps_set (i := 2) sc_path_words.nd rfl (Or.inl rfl) (pe_lstN (pa_cons (pe_op op_catA (pe_callTy call_tupleR (by rfl) Z.z_tuple (by decide +kernel) (pa_cons (pv 0) pa_nil)) (pe_callTy call_tupleR (by rfl) Z.z_tuple (by decide +kernel) (pa_cons (pv 1) pa_nil))) pa_nil)))
      (pss_cons (ps_for (passes_of rfl) rfl (pi_list (pe_calX c_swap_path (L2N.takes_of rfl rfl rfl rfl) (hr.mono (by first | decide | omega)) (by rfl) (pa_cons (pe_callB call_len (by rfl) Z.z_len (by decide +kernel) (pa_cons (pv 0) pa_nil)) (pa_cons (pe_callB call_len (by rfl) Z.z_len (by decide +kernel) (pa_cons (pv 1) pa_nil)) pa_nil)))) (pg_name (i := 3) sc_path_words.nd rfl (Or.inl rfl)) (pss_one (ps_expr (pe_bm PySem.F.plainAttrs_list PySem.F.slot_list_append PySem.F.type_list_append mt_appendN (pv 2) (pa_cons (pe_cal c_exchanged (hr.mono (by first | decide | omega)) (by rfl) (pa_cons (pe_ix ix_list (pv 2) (pe_un un_neg pe_int) (fun _ _ => rfl)) (pa_cons (pv 3) pa_nil))) pa_nil)))))
      (pss_one (ps_ret (pv 2))))))), ?_⟩
  refine ⟨_, rfl, a, _, 12, rfl, ha, fun c1 => ?_, fun c => j1 (by rw [List.length_map] at c; omega)⟩
  rw [List.length_map] at c1
  have n12 : xs.length ≤ 12 := by omega
  refine ⟨_, rfl, b, _, 12, rfl, hb, fun c2 => ?_, fun c => j2 n12 (by rw [List.length_map] at c; omega)⟩
  rw [List.length_map] at c2
  have m12 : ys.length ≤ 12 := by omega
  refine ⟨_, rfl, a, _, rfl, ha, fun t1 H1 s1 h1 => ⟨_, rfl, b, _, rfl, hb.up s1, fun t2 H2 s2 h2 => ?_⟩⟩
  refine catR_ok (s2 _ _ h1) h2 (by rw [List.length_map, List.length_map]; omega) fun t3 H3 s3 h3 => ⟨by show 1 ≤ sizeLine; decide, fun wl H4 n4 => ?_⟩
  rw [← List.map_append] at h3
  have S4 := ((s1.trans s2).trans s3).trans n4.same
  have fw : H wl = none := ((s1.trans s2).trans s3).free n4.fr
  have h0 : TupsAt H4 [.ref t3] ((List.range (0 + 1)).map (wd xs ys)) := ⟨rfl, fun j w hj => by
    cases j with
    | zero => exact ⟨t3, rfl, by rw [← Option.some.inj hj]; exact n4.else h3⟩
    | succ j => cases hj⟩
  have lx : (xs.map V.int).length = xs.length := List.length_map ..
  have ly : (ys.map V.int).length = ys.length := List.length_map ..
  have hw4 := n4.at
  refine ⟨_, rfl, _, _, rfl, HasL.lenV (ha.up S4), _, rfl, _, _, rfl, HasL.lenV (hb.up S4), _, _, _, _, rfl, .int _, .int _, (fun e => by rw [isNum24 (by omega)] at e; cases e), (fun _ e => by rw [isNum24 (by omega)] at e; cases e), fun n' m' e1 e2 _ _ pl H5 s5 f5 h5 => ?_⟩
  obtain rfl : n' = xs.length := by
    injection e1 with e1
    omega
  obtain rfl : m' = ys.length := by
    injection e2 with e2
    omega
  have npw : pl ≠ wl := fun e => by rw [e, hw4] at f5; cases f5
  refine ⟨pl, rfl, ⟨_, .of h5⟩, for_list (K := K) (a := pl) (xs := (pathL xs.length ys.length).map V.int) (fun i σ' H' => ∃ (y3 : Option V) (ws : List V), σ' = [some (.ref a), some (.ref b), some (.ref wl), y3] ∧ Same H H' ∧ H' wl = some (.lst ws) ∧ H' pl = some (.lst ((pathL xs.length ys.length).map V.int)) ∧ TupsAt H' ws ((List.range (i + 1)).map (wd xs ys))) ⟨_, _, rfl, S4.trans s5, s5 _ _ hw4, h5, h0.up s5⟩ ?_ ?_ ?_⟩
  · rintro i σ' H' - ⟨y3, ws, rfl, s', hw, hp, -⟩
    exact .of hp
  · rintro i y σ' H6 hy ⟨y3, ws, rfl, s6, hw6, hp6, h6⟩
    have it : i < xs.length * ys.length := by
      have := (List.getElem?_eq_some_iff.mp hy).1
      rwa [List.length_map, path_len] at this
    rw [List.getElem?_map, path_idx it] at hy
    obtain rfl := (Option.some.inj hy).symm
    have lw := h6.1
    rw [List.length_map, List.length_range] at lw
    obtain ⟨c, hc, kc⟩ := h6.2 i (wd xs ys i) (by rw [List.getElem?_map, List.getElem?_range (Nat.lt_succ_self i)]; rfl)
    have big : xs.length * ys.length ≤ 144 := Nat.le_trans (Nat.mul_le_mul n12 m12) (by decide)
    refine ⟨_, rfl, .inl ⟨rfl, _, .of hw6⟩, _, rfl, _, rfl, wl, _, -1, _, rfl, rfl, .of hw6, at_end lw hc, _, rfl, c, idx xs.length i, wd xs ys i, rfl, kc, by rw [wd_len (Nat.le_of_lt it)]; exact idx_lt it, by rw [wd_len (Nat.le_of_lt it)]; omega, fun p7 H7 s7 h7 => ⟨wl, ws, .ref p7, rfl, rfl, s7 _ _ hw6, lt (by omega), fun H8 e8 => ?_⟩⟩
    subst e8
    refine ⟨_, ws ++ [.ref p7], rfl, same_mut (s6.trans s7) fw rfl, upd_same, ?_, ?_⟩
    · rw [upd_ne npw]
      exact s7 _ _ hp6
    · rw [words_step it]
      exact ((h6.up s7).snoc h7).put (s7 _ _ hw6)
  · rintro σ' H6 ⟨y3, ws, rfl, s6, hw6, hp6, h6⟩
    rw [List.length_map, path_len] at h6
    exact ⟨_, rfl, j3 n12 m12 wl ws H6 s6 fw hw6 h6⟩


/-- how deep a value is -/
def lv : Nat → PyData → Bool
  | 0, _ => false
  | _ + 1, .list [] => true
  | _ + 1, .tuple [] => true
  | k + 1, .list ds => ds.all (lv k)
  | k + 1, .tuple ds => ds.all (lv k)
  | _ + 1, .dict _ => false
  | _ + 1, _ => true
theorem lv_get {k : Nat} {t : Bool} {ds : List PyData} {d : PyData} (h : lv (k + 1) (sqD t ds) = true) (m : d ∈ ds) : lv k d = true := by
  cases ds with
  | nil => cases m
  | cons e es =>
    have h : (e :: es).all (lv k) = true := by cases t <;> exact h
    exact List.all_eq_true.mp h d m
theorem ifS_then {c : TT} {t u : TS} {D σ H} (y : t D σ H) (g : t D σ H → tIfS c t u D σ H) : tIfS c t u D σ H := g y
theorem sq_of {H : Hp} {v : V} {t : Bool} {ds : List PyData} (h : Da H v (sqD t ds)) : ∃ (a : Addr) (xs : List V), v = .ref a ∧ HasL H a xs ∧ DaAll H xs ds := by
  cases t with
  | true =>
    cases h with
    | tup k a => exact ⟨_, _, rfl, .inr k, a⟩
  | false =>
    cases h with
    | lst k a => exact ⟨_, _, rfl, .inl k, a⟩
def spAgree (k : Nat) : Sp := fun vs H Q _ => ∃ (v w : V) (d : PyData), vs = [v, w] ∧ Da H v d ∧ Da H w d ∧ szL [d] ≤ 100000 ∧ lv k d = true ∧ ∀ H', Same H H' → Q (.bl true) H'
theorem ok_agree_step (Z : Zs mg) (D : Ds K mg) (k : Nat) (c__law_is_whole : Cal P w K mg base "_law_is_whole" 1 ["value"] spIsWhole) (c__law_agree : Cal P w K mg base "_law_agree" (k + 1) ["actual", "due"] (spAgree k)) : Cal P w K mg base "_law_agree" (k + 2) ["actual", "due"] (spAgree (k + 1)) := by
  refine Def.cal D.d_law_agree sc_law_agree (fun vs H Q E h => ?_) (fun f cdv A outer s H vs Q E hr h => ?_)
  · obtain ⟨v, w, d, rfl, hv, hw, sz, hk, q⟩ := h
    rfl
  obtain ⟨v, w, d, rfl, hv, hw, sz, hk, q⟩ := h
  refine ⟨_, (pss_cons (ps_if (PW.pt (pw_or (PW.pt (pw_and (pt_val (pe_callB call_isD (by rfl) Z.z_isinstance (by decide +kernel) (pa_cons (pv 1) (pa_cons (pe_bltn (v := .ty "tuple") (by rfl) Z.z_tuple (by decide +kernel) rfl) pa_nil)))) (pw_and1 (pt_val (pe_callB call_isD (by rfl) Z.z_isinstance (by decide +kernel) (pa_cons (pv 0) (pa_cons (pe_bltn (v := .ty "tuple") (by rfl) Z.z_tuple (by decide +kernel) rfl) pa_nil))))))) (pw_or1 (PW.pt (pw_and (pt_val (pe_callB call_isD (by rfl) Z.z_isinstance (by decide +kernel) (pa_cons (pv 1) (pa_cons (pe_bltn (v := .ty "list") (by rfl) Z.z_list (by decide +kernel) rfl) pa_nil)))) (pw_and1 (pt_val (pe_callB call_isD (by rfl) Z.z_isinstance (by decide +kernel) (pa_cons (pv 0) (pa_cons (pe_bltn (v := .ty "list") (by rfl) Z.z_list (by decide +kernel) rfl) pa_nil)))))))))) (pss_one (ps_ret (pe_and (pe_cmp (pc_eqI (pe_callB call_len (by rfl) Z.z_len (by decide +kernel) (pa_cons (pv 0) pa_nil)) (pe_callB call_len (by rfl) Z.z_len (by decide +kernel) (pa_cons (pv 1) pa_nil))) (nomark _)) (pe_one (pe_callB (cr_all rfl) (by rfl) Z.z_all (by decide +kernel) (pa_cons (pe_lc (own := [("k", 2)]) (g := gName 2) (tt := tYes) (by rfl) sc_law_agree.nd (pi_range1 (by rfl) Z.z_range (pa_cons (pe_callB call_len (by rfl) Z.z_len (by decide +kernel) (pa_cons (pv 1) pa_nil)) pa_nil)) (blkOk_by (N := ["actual", "due", "k"]) (sc := defScope s_law_agree) (by decide +kernel)) (fun _ _ _ _ _ => pg_name (i := 2) sc_law_agree.nd rfl (Or.inl rfl)) (fun _ _ _ _ _ => pts_nil) (fun _ _ _ _ _ => (pe_cal c__law_agree (hr.mono (by first | decide | omega)) (by rfl) (pa_cons (pe_ix (ix_seqK (K := K) rfl) (pv 0) (pv 2) (fun _ _ => rfl)) (pa_cons (pe_ix (ix_seqK (K := K) rfl) (pv 1) (pv 2) (fun _ _ => rfl)) pa_nil))))) pa_nil)))))) pss_nil)
      (pss_cons (ps_if (PW.pt (pw_or (pt_cmpR op_isN (pv 1) pe_non (nomark _)) (pw_or (pt_cmpR op_isBD (pv 1) pe_bl (nomark _)) (pw_or1 (pt_cmpR op_isBD (pv 1) pe_bl (nomark _)))))) (pss_one (ps_ret (pe_or (pe_and (pe_cmpR op_isN (pv 0) pe_non (nomark _)) (pe_one (pe_cmpR op_isN (pv 1) pe_non (nomark _)))) (pe_or (pe_and (pe_cmpR op_isBD (pv 0) pe_bl (nomark _)) (pe_one (pe_cmpR op_isBD (pv 1) pe_bl (nomark _)))) (pe_one (pe_and (pe_cmpR op_isBD (pv 0) pe_bl (nomark _)) (pe_one (pe_cmpR op_isBD (pv 1) pe_bl (nomark _))))))))) pss_nil)
      (pss_cons (ps_if (pt_val (pe_callB call_isD (by rfl) Z.z_isinstance (by decide +kernel) (pa_cons (pv 1) (pa_cons (pe_bltn (v := .ty "int") (by rfl) Z.z_int (by decide +kernel) rfl) pa_nil)))) (pss_one (ps_ret (pe_and (pe_cal c__law_is_whole (hr.mono (by first | decide | omega)) (by rfl) (pa_cons (pv 0) pa_nil)) (pe_one (pe_cmpR op_eq (pv 0) (pv 1) (nomark _)))))) pss_nil)
      (pss_one (ps_ret (pe_and (pe_callB call_isD (by rfl) Z.z_isinstance (by decide +kernel) (pa_cons (pv 1) (pa_cons (pe_bltn (v := .ty "str") (by rfl) Z.z_str (by decide +kernel) rfl) pa_nil))) (pe_and (pe_callB call_isD (by rfl) Z.z_isinstance (by decide +kernel) (pa_cons (pv 0) (pa_cons (pe_bltn (v := .ty "str") (by rfl) Z.z_str (by decide +kernel) rfl) pa_nil))) (pe_one (pe_cmpR op_eq (pv 0) (pv 1) (nomark _)))))))))), ?_⟩
  rcases hw.kind with ⟨rfl, rfl⟩ | ⟨b, rfl, rfl⟩ | ⟨j, rfl, rfl⟩ | ⟨j, rfl, rfl⟩ | ⟨b, ys, es, t, rfl, hb, hbt, hbl, dys, rfl⟩
  · cases hv
    refine ⟨_, rfl, _, _, "tuple", rfl, .non, ok_tuple, _, rfl, iteBF rfl (iteF ⟨_, rfl, _, _, "list", rfl, .non, ok_list, _, rfl, iteBF rfl (iteF ?_)⟩)⟩
    refine ⟨_, rfl, rfl, _, rfl, iteDT rfl (iteT ?_)⟩
    refine ⟨_, rfl, rfl, _, rfl, iteDT rfl ⟨_, rfl, rfl, _, rfl, iteDT rfl ?_⟩⟩
    exact q H (Same.refl _)
  · cases hv
    refine ⟨_, rfl, _, _, "tuple", rfl, .bl b, ok_tuple, _, rfl, iteBF rfl (iteF ⟨_, rfl, _, _, "list", rfl, .bl b, ok_list, _, rfl, iteBF rfl (iteF ?_)⟩)⟩
    refine ⟨_, rfl, rfl, _, rfl, iteDF (by intro z; cases z) ?_⟩
    cases b with
    | true =>
      refine ⟨_, rfl, _, true, .bl true, rfl, _, rfl, iteDT rfl (iteT ?_)⟩
      refine ⟨_, rfl, rfl, _, rfl, iteDF (by intro z; cases z) ?_⟩
      refine ⟨_, rfl, iteF ⟨_, rfl, _, true, .bl true, rfl, _, rfl, iteDT rfl ⟨_, rfl, _, true, .bl true, rfl, _, rfl, iteDT rfl ?_⟩⟩⟩
      exact q H (Same.refl _)
    | false =>
      refine ⟨_, rfl, _, true, .bl false, rfl, _, rfl, iteDF (by intro z; cases z) ⟨_, rfl, _, false, .bl false, rfl, _, rfl, iteDT rfl ?_⟩⟩
      refine ⟨_, rfl, rfl, _, rfl, iteDF (by intro z; cases z) ?_⟩
      refine ⟨_, rfl, iteF ⟨_, rfl, _, true, .bl false, rfl, _, rfl, iteDF (by intro z; cases z) ?_⟩⟩
      refine ⟨_, rfl, iteF ⟨_, rfl, _, false, .bl false, rfl, _, rfl, iteDT rfl ⟨_, rfl, _, false, .bl false, rfl, ?_⟩⟩⟩
      exact q H (Same.refl _)
  · cases hv
    refine ⟨_, rfl, _, _, "tuple", rfl, .int j, ok_tuple, _, rfl, iteBF rfl (iteF ⟨_, rfl, _, _, "list", rfl, .int j, ok_list, _, rfl, iteBF rfl (iteF ?_)⟩)⟩
    refine ⟨_, rfl, rfl, _, rfl, iteDF (by intro z; cases z) ⟨_, rfl, _, true, .int j, rfl, _, rfl, iteDF (by intro z; cases z) ⟨_, rfl, _, false, .int j, rfl, _, rfl, iteDF (by intro z; cases z) ?_⟩⟩⟩
    refine ⟨_, rfl, _, _, "int", rfl, .int j, .inl rfl, _, rfl, iteBT (ib_int_int j) ?_⟩
    refine ⟨_, rfl, _, _, rfl, .int j, _, rfl, iteT ?_⟩
    refine ⟨_, rfl, _, rfl, rfl, ?_⟩
    rw [decide_eq_true rfl]
    exact q H (Same.refl _)
  · cases hv
    refine ⟨_, rfl, _, _, "tuple", rfl, .str j, ok_tuple, _, rfl, iteBF rfl (iteF ⟨_, rfl, _, _, "list", rfl, .str j, ok_list, _, rfl, iteBF rfl (iteF ?_)⟩)⟩
    refine ⟨_, rfl, rfl, _, rfl, iteDF (by intro z; cases z) ⟨_, rfl, _, true, .str j, rfl, _, rfl, iteDF (by intro z; cases z) ⟨_, rfl, _, false, .str j, rfl, _, rfl, iteDF (by intro z; cases z) ?_⟩⟩⟩
    refine ⟨_, rfl, _, _, "int", rfl, .str j, .inl rfl, _, rfl, iteBF (ib_str_int j) ?_⟩
    refine ⟨_, rfl, _, _, "str", rfl, .str j, ok_str, _, rfl, iteBT (ib_str_str j) ⟨_, rfl, _, _, "str", rfl, .str j, ok_str, _, rfl, iteBT (ib_str_str j) ?_⟩⟩
    refine ⟨_, rfl, _, rfl, rfl, ?_⟩
    rw [decide_eq_true rfl]
    exact q H (Same.refl _)
  · obtain ⟨a, xs, rfl, ha, dxs⟩ := sq_of hv
    have lx := dxs.length
    have ly := dys.length
    have sd := sqD_sz t es
    have zs : szD (sqD t es) + 0 ≤ 100000 := sz
    have le := szL_len es
    refine ifS_then ?_ (fun ret => ?_)
    · refine ⟨_, rfl, _, _, rfl, HasL.lenV ha, _, rfl, _, _, rfl, HasL.lenV hb, _, _, rfl, rfl, _, rfl, iteDT (by omega) ?_⟩
      refine ⟨_, rfl, _, _, rfl, HasL.lenV hb, _, rfl, by omega, by omega, fun l hl => ?_⟩
      refine lc_range (lo := 0) (n := ((ys.length : Nat) : Int).toNat) (fun i H' => ∃ bs : List Bool, Same H H' ∧ H' l = some (.lst (bs.map V.bl)) ∧ bs.length = i ∧ bs.all id = true) ?_ ?_ ?_
      · exact ⟨[], (⟨hl, rfl⟩ : New H l (.lst []) _).same, upd_same, rfl, rfl⟩
      · rintro i H1 hi ⟨bs, s1, h1, lb, ab⟩
        obtain ⟨x1, e1, a1⟩ := at_nat (xs := xs) (i := i) (by omega)
        obtain ⟨x2, e2, a2⟩ := at_nat (xs := ys) (i := i) (by omega)
        obtain ⟨d1, f1, k1⟩ := dxs.get e1
        obtain ⟨d2, f2, k2⟩ := dys.get e2
        rw [f1] at f2
        obtain rfl := Option.some.inj f2
        have zd := szL_get f1
        refine ⟨rfl, yesT ⟨_, rfl, _, rfl, rIx_of (ha.up s1) a1 ⟨_, rfl, _, rfl, rIx_of (hb.up s1) a2 ⟨x1, x2, d1, rfl, k1.up s1, k2.up s1, by show szD d1 + 0 ≤ _; omega, lv_get hk (List.mem_of_getElem? f1), fun H2 s2 => ⟨_, s2 _ _ h1, by rw [List.length_map]; exact lt (by omega), bs ++ [true], same_mut (s1.trans s2) hl rfl, ?_, by rw [List.length_append, lb]; rfl, by rw [List.all_append, ab]; rfl⟩⟩⟩⟩⟩
        rw [upd_same, List.map_append]
        rfl
      · rintro H1 ⟨bs, s1, h1, lb, ab⟩
        refine ⟨l, bs, rfl, .of h1, ?_⟩
        rw [ab]
        exact q H1 s1
    · cases t with
      | true => exact ⟨_, rfl, _, _, "tuple", rfl, hw, ok_tuple, _, rfl, iteBT (ib_tuple_tuple es) ⟨_, rfl, _, _, "tuple", rfl, hv, ok_tuple, _, rfl, iteBT (ib_tuple_tuple es) (iteT ret)⟩⟩
      | false => exact ⟨_, rfl, _, _, "tuple", rfl, hw, ok_tuple, _, rfl, iteBF (ib_list_tuple es) (iteF ⟨_, rfl, _, _, "list", rfl, hw, ok_list, _, rfl, iteBT (ib_list_list es) ⟨_, rfl, _, _, "list", rfl, hv, ok_list, _, rfl, iteBT (ib_list_list es) ret⟩⟩)⟩
theorem no_levelN {x : Str} {st : Stmt} {ps : List Str} {sp : Sp} {k : Nat} (D : Def K mg x st ps) (no : ∀ vs H Q E, ¬ sp vs H Q E) : Cal P w K mg base x k ps sp := by
  obtain ⟨f, fd, F, g, b⟩ := D
  exact ⟨f, fd, ⟨fun vs H Q E h => absurd h (no vs H Q E), fun A outer s H args us vs Q E _ _ _ _ h => absurd h (no vs H Q E)⟩, g, F.kp, b⟩
theorem no_levelNE {x : Str} {st : Stmt} {ps : List Str} {sp : SpH} {k : Nat} (D : Def K mg x st ps) (no : ∀ p vs H Q E, ¬ sp p vs H Q E) : CalE P w K mg base x k ps sp := by
  obtain ⟨f, fd, F, g, b⟩ := D
  exact ⟨f, fd, ⟨fun p vs H Q E h => absurd h (no p vs H Q E), fun A outer s H args us vs Q E p _ _ _ _ _ _ h => absurd h (no p vs H Q E)⟩, g, F.kp, b⟩
theorem ok_agree (Z : Zs mg) (D : Ds K mg) (c__law_is_whole : Cal P w K mg base "_law_is_whole" 1 ["value"] spIsWhole) : ∀ k, Cal P w K mg base "_law_agree" (k + 1) ["actual", "due"] (spAgree k)
  | 0 => no_levelN D.d_law_agree fun vs H Q E h => by
    obtain ⟨v, w, d, _, _, _, _, e, _⟩ := h
    cases e
  | k + 1 => ok_agree_step Z D k c__law_is_whole (ok_agree Z D c__law_is_whole k)


theorem ok_agree_step_h (Z : Zs mg) (D : Ds K mg) (k : Nat) (c__law_is_whole_h : CalE P w K mg base "_law_is_whole" 1 ["value"] (fun _ => spIsWhole)) (c__law_agree_h : CalE P w K mg base "_law_agree" (k + 1) ["actual", "due"] (fun _ => spAgree k)) : CalE P w K mg base "_law_agree" (k + 2) ["actual", "due"] (fun _ => spAgree (k + 1)) := by
  refine Def.calE D.d_law_agree sc_law_agree (fun p vs H Q E h => ?_) (fun f cdv A outer s H vs Q E p hot hr h => ?_)
  · obtain ⟨v, w, d, rfl, hv, hw, sz, hk, q⟩ := h
    rfl
  obtain ⟨v, w, d, rfl, hv, hw, sz, hk, q⟩ := h
  refine ⟨_, (pss_cons (ps_if (PW.pt (pw_or (PW.pt (pw_and (pt_val (pe_callB call_isD (by rfl) Z.z_isinstance (by decide +kernel) (pa_cons (pv 1) (pa_cons (pe_bltn (v := .ty "tuple") (by rfl) Z.z_tuple (by decide +kernel) rfl) pa_nil)))) (pw_and1 (pt_val (pe_callB call_isD (by rfl) Z.z_isinstance (by decide +kernel) (pa_cons (pv 0) (pa_cons (pe_bltn (v := .ty "tuple") (by rfl) Z.z_tuple (by decide +kernel) rfl) pa_nil))))))) (pw_or1 (PW.pt (pw_and (pt_val (pe_callB call_isD (by rfl) Z.z_isinstance (by decide +kernel) (pa_cons (pv 1) (pa_cons (pe_bltn (v := .ty "list") (by rfl) Z.z_list (by decide +kernel) rfl) pa_nil)))) (pw_and1 (pt_val (pe_callB call_isD (by rfl) Z.z_isinstance (by decide +kernel) (pa_cons (pv 0) (pa_cons (pe_bltn (v := .ty "list") (by rfl) Z.z_list (by decide +kernel) rfl) pa_nil)))))))))) (pss_one (ps_ret (pe_and (pe_cmp (pc_eqI (pe_callB call_len (by rfl) Z.z_len (by decide +kernel) (pa_cons (pv 0) pa_nil)) (pe_callB call_len (by rfl) Z.z_len (by decide +kernel) (pa_cons (pv 1) pa_nil))) (nomark _)) (pe_one (pe_callB (cr_allH (hot_in hot List.mem_cons_self)) (by rfl) Z.z_all (by decide +kernel) (pa_cons (pe_lcH (own := [("k", 2)]) (g := gName 2) (tt := tYes) (hot_in hot List.mem_cons_self) sc_law_agree.nd (L2H.pi_range1H (by rfl) Z.z_range (pa_cons (pe_callB call_len (by rfl) Z.z_len (by decide +kernel) (pa_cons (pv 1) pa_nil)) pa_nil)) (blkOk_by (N := ["actual", "due", "k"]) (sc := defScope s_law_agree) (by decide +kernel)) (fun _ _ _ _ _ => pg_name (i := 2) sc_law_agree.nd rfl (Or.inl rfl)) (fun _ _ _ _ _ => pts_nil) (fun _ _ _ _ _ => (pe_calE c__law_agree_h (hr.mono (by first | decide | omega)) hot List.mem_cons_self (by rfl) (pa_cons (pe_ix (ix_seqK (K := K) rfl) (pv 0) (pv 2) (fun _ _ => rfl)) (pa_cons (pe_ix (ix_seqK (K := K) rfl) (pv 1) (pv 2) (fun _ _ => rfl)) pa_nil))))) pa_nil)))))) pss_nil)
      (pss_cons (ps_if (PW.pt (pw_or (pt_cmpR op_isN (pv 1) pe_non (nomark _)) (pw_or (pt_cmpR op_isBD (pv 1) pe_bl (nomark _)) (pw_or1 (pt_cmpR op_isBD (pv 1) pe_bl (nomark _)))))) (pss_one (ps_ret (pe_or (pe_and (pe_cmpR op_isN (pv 0) pe_non (nomark _)) (pe_one (pe_cmpR op_isN (pv 1) pe_non (nomark _)))) (pe_or (pe_and (pe_cmpR op_isBD (pv 0) pe_bl (nomark _)) (pe_one (pe_cmpR op_isBD (pv 1) pe_bl (nomark _)))) (pe_one (pe_and (pe_cmpR op_isBD (pv 0) pe_bl (nomark _)) (pe_one (pe_cmpR op_isBD (pv 1) pe_bl (nomark _))))))))) pss_nil)
      (pss_cons (ps_if (pt_val (pe_callB call_isD (by rfl) Z.z_isinstance (by decide +kernel) (pa_cons (pv 1) (pa_cons (pe_bltn (v := .ty "int") (by rfl) Z.z_int (by decide +kernel) rfl) pa_nil)))) (pss_one (ps_ret (pe_and (pe_calE c__law_is_whole_h (hr.mono (by first | decide | omega)) hot List.mem_cons_self (by rfl) (pa_cons (pv 0) pa_nil)) (pe_one (pe_cmpR op_eq (pv 0) (pv 1) (nomark _)))))) pss_nil)
      (pss_one (ps_ret (pe_and (pe_callB call_isD (by rfl) Z.z_isinstance (by decide +kernel) (pa_cons (pv 1) (pa_cons (pe_bltn (v := .ty "str") (by rfl) Z.z_str (by decide +kernel) rfl) pa_nil))) (pe_and (pe_callB call_isD (by rfl) Z.z_isinstance (by decide +kernel) (pa_cons (pv 0) (pa_cons (pe_bltn (v := .ty "str") (by rfl) Z.z_str (by decide +kernel) rfl) pa_nil))) (pe_one (pe_cmpR op_eq (pv 0) (pv 1) (nomark _)))))))))), ?_⟩
  rcases hw.kind with ⟨rfl, rfl⟩ | ⟨b, rfl, rfl⟩ | ⟨j, rfl, rfl⟩ | ⟨j, rfl, rfl⟩ | ⟨b, ys, es, t, rfl, hb, hbt, hbl, dys, rfl⟩
  · cases hv
    refine ⟨_, rfl, _, _, "tuple", rfl, .non, ok_tuple, _, rfl, iteBF rfl (iteF ⟨_, rfl, _, _, "list", rfl, .non, ok_list, _, rfl, iteBF rfl (iteF ?_)⟩)⟩
    refine ⟨_, rfl, rfl, _, rfl, iteDT rfl (iteT ?_)⟩
    refine ⟨_, rfl, rfl, _, rfl, iteDT rfl ⟨_, rfl, rfl, _, rfl, iteDT rfl ?_⟩⟩
    exact q H (Same.refl _)
  · cases hv
    refine ⟨_, rfl, _, _, "tuple", rfl, .bl b, ok_tuple, _, rfl, iteBF rfl (iteF ⟨_, rfl, _, _, "list", rfl, .bl b, ok_list, _, rfl, iteBF rfl (iteF ?_)⟩)⟩
    refine ⟨_, rfl, rfl, _, rfl, iteDF (by intro z; cases z) ?_⟩
    cases b with
    | true =>
      refine ⟨_, rfl, _, true, .bl true, rfl, _, rfl, iteDT rfl (iteT ?_)⟩
      refine ⟨_, rfl, rfl, _, rfl, iteDF (by intro z; cases z) ?_⟩
      refine ⟨_, rfl, iteF ⟨_, rfl, _, true, .bl true, rfl, _, rfl, iteDT rfl ⟨_, rfl, _, true, .bl true, rfl, _, rfl, iteDT rfl ?_⟩⟩⟩
      exact q H (Same.refl _)
    | false =>
      refine ⟨_, rfl, _, true, .bl false, rfl, _, rfl, iteDF (by intro z; cases z) ⟨_, rfl, _, false, .bl false, rfl, _, rfl, iteDT rfl ?_⟩⟩
      refine ⟨_, rfl, rfl, _, rfl, iteDF (by intro z; cases z) ?_⟩
      refine ⟨_, rfl, iteF ⟨_, rfl, _, true, .bl false, rfl, _, rfl, iteDF (by intro z; cases z) ?_⟩⟩
      refine ⟨_, rfl, iteF ⟨_, rfl, _, false, .bl false, rfl, _, rfl, iteDT rfl ⟨_, rfl, _, false, .bl false, rfl, ?_⟩⟩⟩
      exact q H (Same.refl _)
  · cases hv
    refine ⟨_, rfl, _, _, "tuple", rfl, .int j, ok_tuple, _, rfl, iteBF rfl (iteF ⟨_, rfl, _, _, "list", rfl, .int j, ok_list, _, rfl, iteBF rfl (iteF ?_)⟩)⟩
    refine ⟨_, rfl, rfl, _, rfl, iteDF (by intro z; cases z) ⟨_, rfl, _, true, .int j, rfl, _, rfl, iteDF (by intro z; cases z) ⟨_, rfl, _, false, .int j, rfl, _, rfl, iteDF (by intro z; cases z) ?_⟩⟩⟩
    refine ⟨_, rfl, _, _, "int", rfl, .int j, .inl rfl, _, rfl, iteBT (ib_int_int j) ?_⟩
    refine ⟨_, rfl, _, _, rfl, .int j, _, rfl, iteT ?_⟩
    refine ⟨_, rfl, _, rfl, rfl, ?_⟩
    rw [decide_eq_true rfl]
    exact q H (Same.refl _)
  · cases hv
    refine ⟨_, rfl, _, _, "tuple", rfl, .str j, ok_tuple, _, rfl, iteBF rfl (iteF ⟨_, rfl, _, _, "list", rfl, .str j, ok_list, _, rfl, iteBF rfl (iteF ?_)⟩)⟩
    refine ⟨_, rfl, rfl, _, rfl, iteDF (by intro z; cases z) ⟨_, rfl, _, true, .str j, rfl, _, rfl, iteDF (by intro z; cases z) ⟨_, rfl, _, false, .str j, rfl, _, rfl, iteDF (by intro z; cases z) ?_⟩⟩⟩
    refine ⟨_, rfl, _, _, "int", rfl, .str j, .inl rfl, _, rfl, iteBF (ib_str_int j) ?_⟩
    refine ⟨_, rfl, _, _, "str", rfl, .str j, ok_str, _, rfl, iteBT (ib_str_str j) ⟨_, rfl, _, _, "str", rfl, .str j, ok_str, _, rfl, iteBT (ib_str_str j) ?_⟩⟩
    refine ⟨_, rfl, _, rfl, rfl, ?_⟩
    rw [decide_eq_true rfl]
    exact q H (Same.refl _)
  · obtain ⟨a, xs, rfl, ha, dxs⟩ := sq_of hv
    have lx := dxs.length
    have ly := dys.length
    have sd := sqD_sz t es
    have zs : szD (sqD t es) + 0 ≤ 100000 := sz
    have le := szL_len es
    refine ifS_then ?_ (fun ret => ?_)
    · refine ⟨_, rfl, _, _, rfl, HasL.lenV ha, _, rfl, _, _, rfl, HasL.lenV hb, _, _, rfl, rfl, _, rfl, iteDT (by omega) ?_⟩
      refine ⟨_, rfl, _, _, rfl, HasL.lenV hb, _, rfl, by omega, by omega, fun l hl => ?_⟩
      refine lc_range (lo := 0) (n := ((ys.length : Nat) : Int).toNat) (fun i H' => ∃ bs : List Bool, Same H H' ∧ H' l = some (.lst (bs.map V.bl)) ∧ bs.length = i ∧ bs.all id = true) ?_ ?_ ?_
      · exact ⟨[], (⟨hl, rfl⟩ : New H l (.lst []) _).same, upd_same, rfl, rfl⟩
      · rintro i H1 hi ⟨bs, s1, h1, lb, ab⟩
        obtain ⟨x1, e1, a1⟩ := at_nat (xs := xs) (i := i) (by omega)
        obtain ⟨x2, e2, a2⟩ := at_nat (xs := ys) (i := i) (by omega)
        obtain ⟨d1, f1, k1⟩ := dxs.get e1
        obtain ⟨d2, f2, k2⟩ := dys.get e2
        rw [f1] at f2
        obtain rfl := Option.some.inj f2
        have zd := szL_get f1
        refine ⟨rfl, yesT ⟨_, rfl, _, rfl, rIx_of (ha.up s1) a1 ⟨_, rfl, _, rfl, rIx_of (hb.up s1) a2 ⟨x1, x2, d1, rfl, k1.up s1, k2.up s1, by show szD d1 + 0 ≤ _; omega, lv_get hk (List.mem_of_getElem? f1), fun H2 s2 => ⟨_, s2 _ _ h1, by rw [List.length_map]; exact lt (by omega), bs ++ [true], same_mut (s1.trans s2) hl rfl, ?_, by rw [List.length_append, lb]; rfl, by rw [List.all_append, ab]; rfl⟩⟩⟩⟩⟩
        rw [upd_same, List.map_append]
        rfl
      · rintro H1 ⟨bs, s1, h1, lb, ab⟩
        refine ⟨l, bs, rfl, .of h1, ?_⟩
        rw [ab]
        exact q H1 s1
    · cases t with
      | true => exact ⟨_, rfl, _, _, "tuple", rfl, hw, ok_tuple, _, rfl, iteBT (ib_tuple_tuple es) ⟨_, rfl, _, _, "tuple", rfl, hv, ok_tuple, _, rfl, iteBT (ib_tuple_tuple es) (iteT ret)⟩⟩
      | false => exact ⟨_, rfl, _, _, "tuple", rfl, hw, ok_tuple, _, rfl, iteBF (ib_list_tuple es) (iteF ⟨_, rfl, _, _, "list", rfl, hw, ok_list, _, rfl, iteBT (ib_list_list es) ⟨_, rfl, _, _, "list", rfl, hv, ok_list, _, rfl, iteBT (ib_list_list es) ret⟩⟩)⟩
theorem ok_agree_h (Z : Zs mg) (D : Ds K mg) (c__law_is_whole_h : CalE P w K mg base "_law_is_whole" 1 ["value"] (fun _ => spIsWhole)) : ∀ k, CalE P w K mg base "_law_agree" (k + 1) ["actual", "due"] (fun _ => spAgree k)
  | 0 => no_levelNE D.d_law_agree fun _ vs H Q E h => by
    obtain ⟨v, w, d, _, _, _, _, e, _⟩ := h
    cases e
  | k + 1 => ok_agree_step_h Z D k c__law_is_whole_h (ok_agree_h Z D c__law_is_whole_h k)


structure Bad24 (G : Hp) (v : V) (d : PyData) : Prop where
  da : Da G v d
  no : isNum d 0 24 = false
  sz : szD d ≤ 10
  lv : lv 3 d = true
theorem Bad24.up {G G' : Hp} {v : V} {d : PyData} (b : Bad24 G v d) (g : Same G G') : Bad24 G' v d := ⟨b.da.up g, b.no, b.sz, b.lv⟩
theorem bad24_int {G : Hp} {i : Int} (h : i < 0 ∨ 24 < i) : Bad24 G (.int i) (.int i) := by
  refine ⟨.int i, ?_, by show 1 ≤ 10; decide, rfl⟩
  show (decide (0 ≤ i) && decide (i ≤ 24)) = false
  rcases h with h | h
  · rw [decide_eq_false (show ¬ 0 ≤ i by omega), Bool.false_and]
  · rw [decide_eq_false (show ¬ i ≤ 24 by omega), Bool.and_false]
def spWrong24 : Sp := fun vs H Q _ => ∃ (S : Sr) (G : Hp), vs = [.ref S.a, .int 0, .int 24] ∧ Wd S G H ∧ ∀ (v : V) (d : PyData) (G' H' : Hp), Go S G H G' H' → Bad24 G' v d → Q v H'
theorem ok_wrong_number (Z : Zs mg) (D : Ds K mg) (c__law_take : Cal P w K mg base "_law_take" 2 ["store", "many"] spTake) (c__law_pick : Cal P w K mg base "_law_pick" 3 ["store", "things"] spPick) : Cal P w K mg base "_law_wrong_number" 4 ["store", "low", "high"] spWrong24 := by
  refine Def.cal D.d_law_wrong_number sc_law_wrong_number (fun vs H Q E h => ?_) (fun f cdv A outer s H vs Q E hr h => ?_)
  · obtain ⟨S, G, rfl, wd, q⟩ := h
    rfl
  obtain ⟨S, G, rfl, wd, q⟩ := h
  refine ⟨_, (pss_cons (ps_set (i := 3) sc_law_wrong_number.nd rfl (Or.inl rfl) (pe_op op_add pe_int (pe_cal c__law_take (hr.mono (by first | decide | omega)) (by rfl) (pa_cons (pv 0) (pa_cons pe_int pa_nil)))))
      (pss_one (ps_ret (pe_cal c__law_pick (hr.mono (by first | decide | omega)) (by rfl) (pa_cons (pv 0) (pa_cons (pe_lstN (pa_cons (pe_op op_sub (pv 1) pe_int) (pa_cons (pe_op op_add (pv 2) pe_int) (pa_cons (pe_op op_sub (pv 1) (pv 3)) (pa_cons (pe_op op_add (pv 2) (pv 3)) (pa_cons (pe_op op_add (pv 2) (pe_op op_pow pe_int pe_int)) (pa_cons (pe_op op_sub (pv 1) (pe_op op_pow pe_int pe_int)) (pa_cons pe_bl (pa_cons pe_bl (pa_cons pe_non (pa_cons pe_str (pa_cons (pe_callTy call_str_int (by rfl) Z.z_str (by decide +kernel) (pa_cons (pv 1) pa_nil)) (pa_cons pe_str (pa_cons (pe_tupN pa_nil) (pa_cons (pe_tupN (pa_cons (pv 1) pa_nil)) (pa_cons (pe_lstN (pa_cons (pv 1) pa_nil)) (pa_cons (pe_lstN pa_nil) pa_nil))))))))))))))))) pa_nil)))))), ?_⟩
  refine ⟨_, rfl, S, G, 1000000, rfl, wd, by omega, fun f0 H1 a0 a1 s1 => ⟨_, _, rfl, rfl, ?_⟩⟩
  have ten : (10 : Int) ^ (29 : Int).toNat = 100000000000000000000000000000 := by decide +kernel
  refine ⟨_, rfl, _, rfl, _, _, rfl, rfl, _, rfl, _, _, rfl, rfl, _, rfl, _, rfl, _, _, rfl, rfl, _, rfl, _, rfl, _, _, rfl, rfl, _, rfl, _, _, rfl, rfl, ⟨by decide, by decide, by decide⟩, _, _, rfl, rfl, _, rfl, _, _, rfl, rfl, ⟨by decide, by decide, by decide⟩, _, _, rfl, rfl, ?_⟩
  refine ⟨_, rfl, _, rfl, by decide, ?_⟩
  refine ⟨by show 0 ≤ sizeLine; decide, fun t1 H2 n2 => ⟨_, rfl, by show 1 ≤ sizeLine; decide, fun t2 H3 n3 => ⟨_, rfl, by show 1 ≤ sizeLine; decide, fun l1 H4 n4 => ⟨by show 0 ≤ sizeLine; decide, fun l2 H5 n5 => ⟨by show 16 ≤ sizeLine; decide, fun r H6 n6 => ?_⟩⟩⟩⟩⟩
  obtain ⟨G2, s2, g2, k2, -⟩ := s1.know n2
  obtain ⟨G3, s3, g3, k3, -⟩ := s2.know n3
  obtain ⟨G4, s4, g4, k4, -⟩ := s3.know n4
  obtain ⟨G5, s5, g5, k5, -⟩ := s4.know n5
  obtain ⟨s6, gr, hr6, fr⟩ := s5.loc n6
  refine ⟨S, G5, .ref r, _, rfl, s6.wd, .inl ⟨r, rfl, s6.ns fr, hr6⟩, by show 0 < 16; decide, by show 16 < 1000000; decide, fun x H7 hx s7 => ?_⟩
  have bad : ∃ d, Bad24 G5 x d := by
    simp only [List.mem_cons, List.not_mem_nil, or_false] at hx
    rcases hx with rfl | rfl | rfl | rfl | rfl | rfl | rfl | rfl | rfl | rfl | rfl | rfl | rfl | rfl | rfl | rfl
    · exact ⟨_, bad24_int (by omega)⟩
    · exact ⟨_, bad24_int (by omega)⟩
    · exact ⟨_, bad24_int (by omega)⟩
    · exact ⟨_, bad24_int (by omega)⟩
    · exact ⟨_, bad24_int (by rw [ten]; omega)⟩
    · exact ⟨_, bad24_int (by rw [ten]; omega)⟩
    · exact ⟨_, .bl _, rfl, by decide, rfl⟩
    · exact ⟨_, .bl _, rfl, by decide, rfl⟩
    · exact ⟨_, .non, rfl, by decide, rfl⟩
    · exact ⟨_, .str _, rfl, by decide, rfl⟩
    · exact ⟨_, .str _, rfl, by decide +kernel, rfl⟩
    · exact ⟨_, .str _, rfl, by decide, rfl⟩
    · exact ⟨.tuple [], .tup (g5 _ _ (g4 _ _ (g3 _ _ k2))) .nil, rfl, by decide, rfl⟩
    · exact ⟨.tuple [.int 0], .tup (g5 _ _ (g4 _ _ k3)) (.one (.int 0)), rfl, by decide, rfl⟩
    · exact ⟨.list [.int 0], .lst (g5 _ _ k4) (.one (.int 0)), rfl, by decide, rfl⟩
    · exact ⟨.list [], .lst k5 .nil, rfl, by decide, rfl⟩
  obtain ⟨d, bd⟩ := bad
  exact q x d G5 H7 (s6.trans s7) bd
def spBig : Sp := fun vs H Q _ => ∃ (S : Sr) (G : Hp), vs = [.ref S.a] ∧ Wd S G H ∧ ∀ (i : Int) (H' : Hp), Go S G H G H' → Q (.int i) H'
theorem ok_big (Z : Zs mg) (D : Ds K mg) (c__law_take : Cal P w K mg base "_law_take" 2 ["store", "many"] spTake) (c__law_pick : Cal P w K mg base "_law_pick" 3 ["store", "things"] spPick) : Cal P w K mg base "_law_big" 4 ["store"] spBig := by
  refine Def.cal D.d_law_big sc_law_big (fun vs H Q E h => ?_) (fun f cdv A outer s H vs Q E hr h => ?_)
  · obtain ⟨S, G, rfl, wd, q⟩ := h
    rfl
  obtain ⟨S, G, rfl, wd, q⟩ := h
  refine ⟨_, (pss_cons (ps_set (i := 1) sc_law_big.nd rfl (Or.inl rfl) (pe_cal c__law_take (hr.mono (by first | decide | omega)) (by rfl) (pa_cons (pv 0) (pa_cons pe_int pa_nil))))
      (pss_one (ps_ret (pe_cal c__law_pick (hr.mono (by first | decide | omega)) (by rfl) (pa_cons (pv 0) (pa_cons (pe_lstN (pa_cons (pe_op op_sub (pe_op op_mod (pe_callTy call_int1 (by rfl) Z.z_int (by decide +kernel) (pa_cons (pv 1) pa_nil)) pe_int) pe_int) (pa_cons (pe_op op_sub (pv 1) pe_int) (pa_cons (pe_op op_sub (pe_op op_sub (pe_op op_pow pe_int pe_int) pe_int) (pv 1)) (pa_cons (pe_op op_add (pe_op op_sub (pv 1) (pe_op op_pow pe_int pe_int)) pe_int) pa_nil))))) pa_nil)))))), ?_⟩
  refine ⟨_, rfl, S, G, 1000000000, rfl, wd, by omega, fun f0 H1 a0 a1 s1 => ?_⟩
  refine ⟨_, rfl, _, rfl, .inl ⟨_, rfl, _, _, rfl, rfl, by show (0 : Int) < 9; decide, ?_⟩⟩
  refine ⟨_, _, rfl, rfl, _, rfl, _, _, rfl, rfl, _, _, rfl, rfl, ⟨by decide, by decide, by decide⟩, _, _, rfl, rfl, _, rfl, _, _, rfl, rfl, _, rfl, _, _, rfl, rfl, ⟨by decide, by decide, by decide⟩, _, _, rfl, rfl, _, _, rfl, rfl, by show 4 ≤ sizeLine; decide, fun r H2 n2 => ?_⟩
  obtain ⟨s2, gr, hr2, fr⟩ := s1.loc n2
  refine ⟨S, G, .ref r, _, rfl, s2.wd, .inl ⟨r, rfl, s2.ns fr, hr2⟩, by show 0 < 4; decide, by show 4 < 1000000; decide, fun x H3 hx s3 => ?_⟩
  have : ∃ i, x = .int i := by
    simp only [List.mem_cons, List.not_mem_nil, or_false] at hx
    rcases hx with h | h | h | h <;> exact ⟨_, h⟩
  obtain ⟨i, rfl⟩ := this
  exact q i H3 (s2.trans s3)
def spLawPath : Sp := fun vs H Q _ => ∃ n m : Nat, vs = [.int (n : Int), .int (m : Int)] ∧ n ≤ 24 ∧ m ≤ 24 ∧ ∀ (l : Addr) (H' : Hp), Same H H' → H l = none → H' l = some (.lst ((pathL n m).map V.int)) → Q (.ref l) H'
theorem ok_lpath (Z : Zs mg) (D : Ds K mg) : Cal P w K mg base "_law_path" 1 ["first", "second"] spLawPath := by
  refine Def.cal D.d_law_path sc_law_path (fun vs H Q E h => ?_) (fun f cdv A outer s H vs Q E hr h => ?_)
  · obtain ⟨n, m, rfl, n24, m24, q⟩ := h
    rfl
  obtain ⟨n, m, rfl, n24, m24, q⟩ := h
  refine ⟨_, (pss_cons (ps_set (i := 2) sc_law_path.nd rfl (Or.inl rfl) (pe_lstN pa_nil))
      (pss_cons (ps_for PassesOwn.never rfl (pi_range1 (by rfl) Z.z_range (pa_cons (pe_op op_mul (pv 0) (pv 1)) pa_nil)) (pg_name (i := 3) sc_law_path.nd rfl (Or.inl rfl)) (pss_one (ps_expr (pe_bm PySem.F.plainAttrs_list PySem.F.slot_list_append PySem.F.type_list_append mt_appendN (pv 2) (pa_cons (pe_op op_sub (pe_op op_sub (pe_op op_add (pv 0) (pe_op op_fdiv (pv 3) (pv 0))) pe_int) (pe_op op_mod (pe_callTy call_int1 (by rfl) Z.z_int (by decide +kernel) (pa_cons (pv 3) pa_nil)) (pv 0))) pa_nil)))))
      (pss_one (ps_ret (pv 2))))), ?_⟩
  have big : n * m ≤ 576 := Nat.le_trans (Nat.mul_le_mul n24 m24) (by decide)
  have cast : ((n : Int) * (m : Int)) = ((n * m : Nat) : Int) := (Int.natCast_mul n m).symm
  refine ⟨by show 0 ≤ sizeLine; decide, fun l H1 n1 => ?_⟩
  have fl := n1.fr
  refine ⟨_, rfl, _, rfl, _, _, rfl, rfl, .inl ⟨by omega, by omega⟩, (n : Int) * (m : Int), rfl, by omega, by omega, for_range (lo := 0) (n := ((n : Int) * (m : Int)).toNat) (fun i σ' H' => ∃ y3 : Option V, σ' = [some (.int (n : Int)), some (.int (m : Int)), some (.ref l), y3] ∧ Same H H' ∧ H' l = some (.lst (((pathL n m).take i).map V.int))) ⟨_, rfl, n1.same, n1.at⟩ ?_ ?_⟩
  · rintro i σ' H2 hi ⟨y3, rfl, s2, h2⟩
    rw [cast, Int.toNat_natCast] at hi
    have n0 : 0 < n := Nat.pos_of_ne_zero fun e => by rw [e, Nat.zero_mul] at hi; omega
    refine ⟨_, rfl, .inl ⟨rfl, _, .of h2⟩, _, rfl, _, rfl, _, rfl, _, _, rfl, rfl, ⟨by omega, by omega⟩, _, _, rfl, rfl, _, _, rfl, rfl, _, rfl, .inl ⟨_, rfl, _, rfl, _, _, rfl, rfl, by show (0 : Int) < (n : Int); omega, _, _, rfl, rfl, l, _, _, rfl, rfl, h2, ?_, fun H3 e3 => ?_⟩⟩
    · rw [List.length_map, List.length_take, path_len]
      exact lt (by omega)
    · refine ⟨_, rfl, same_mut s2 fl e3, ?_⟩
      rw [upd_at e3, List.take_add_one, List.map_append]
      have := path_idx hi
      unfold pathL at this ⊢
      rw [List.getElem?_map, List.getElem?_range hi]
      show some (HO.lst (_ ++ [V.int _])) = some (HO.lst (_ ++ [V.int _]))
      rw [show ((n : Int) + (0 + (i : Int)) / (n : Int) - 1 - (0 + (i : Int)) % (n : Int)) = (n : Int) + ((i / n : Nat) : Int) - 1 - ((i % n : Nat) : Int) by rw [Int.zero_add, Int.natCast_ediv, Int.natCast_emod]]
  · rintro σ' H2 ⟨y3, rfl, s2, h2⟩
    rw [cast, Int.toNat_natCast, List.take_of_length_le (by rw [path_len]; exact Nat.le_refl _)] at h2
    exact ⟨_, rfl, q l H2 s2 fl h2⟩
theorem words_wd {xs ys : List Int} {t : Nat} : (List.range (t + 1 + 1)).map (wd xs ys) = (List.range (t + 1)).map (wd xs ys) ++ [wdW xs ys (t / xs.length) (xs.length - 1 - t % xs.length)] := by
  rw [List.range_succ, List.map_append]
  rfl
def spLawWords : Sp := fun vs H Q _ => ∃ (a b : Addr) (xs ys : List Int), vs = [.ref a, .ref b] ∧ H a = some (.lst (xs.map V.int)) ∧ H b = some (.lst (ys.map V.int)) ∧ xs.length ≤ 12 ∧ ys.length ≤ 12 ∧ ∀ (l : Addr) (ws : List V) (H' : Hp), Same H H' → H l = none → H' l = some (.lst ws) → TupsAt H' ws (wordsL xs ys) → Q (.ref l) H'
theorem ok_lwords (Z : Zs mg) (D : Ds K mg) : Cal P w K mg base "_law_words" 1 ["first", "second"] spLawWords := by
  refine Def.cal D.d_law_words sc_law_words (fun vs H Q E h => ?_) (fun f cdv A outer s H vs Q E hr h => ?_)
  · obtain ⟨a, b, xs, ys, rfl, ha, hb, n12, m12, q⟩ := h
    rfl
  obtain ⟨a, b, xs, ys, rfl, ha, hb, n12, m12, q⟩ := h
  refine ⟨_, (pss_cons (ps_set (i := 2) sc_law_words.nd rfl (Or.inl rfl) (pe_lstN (pa_cons (pe_callTy call_tupleN (by rfl) Z.z_tuple (by decide +kernel) (pa_cons (pe_op op_catN (pv 0) (pv 1)) pa_nil)) pa_nil)))
      (pss_cons (ps_for PassesOwn.never rfl (pi_range1 (by rfl) Z.z_range (pa_cons (pe_op op_mul (pe_callB call_len_seq (by rfl) Z.z_len (by decide +kernel) (pa_cons (pv 0) pa_nil)) (pe_callB call_len_seq (by rfl) Z.z_len (by decide +kernel) (pa_cons (pv 1) pa_nil))) pa_nil)) (pg_name (i := 3) sc_law_words.nd rfl (Or.inl rfl)) (pss_cons (ps_set (i := 4) sc_law_words.nd rfl (Or.inl rfl) (pe_op op_fdiv (pv 3) (pe_callB call_len_seq (by rfl) Z.z_len (by decide +kernel) (pa_cons (pv 0) pa_nil))))
      (pss_cons (ps_set (i := 5) sc_law_words.nd rfl (Or.inl rfl) (pe_op op_sub (pe_op op_sub (pe_callB call_len_seq (by rfl) Z.z_len (by decide +kernel) (pa_cons (pv 0) pa_nil)) pe_int) (pe_op op_mod (pe_callTy call_int1 (by rfl) Z.z_int (by decide +kernel) (pa_cons (pv 3) pa_nil)) (pe_callB call_len_seq (by rfl) Z.z_len (by decide +kernel) (pa_cons (pv 0) pa_nil)))))
      (pss_one (ps_expr (pe_bm PySem.F.plainAttrs_list PySem.F.slot_list_append PySem.F.type_list_append mt_appendN (pv 2) (pa_cons (pe_callTy call_tupleN (by rfl) Z.z_tuple (by decide +kernel) (pa_cons (pe_op op_catN (pe_op op_catN (pe_op op_catN (pe_op op_catN (pe_slice sl_listN (pv 1) po_none (po_some (pv 4))) (pe_slice sl_listN (pv 0) po_none (po_some (pv 5)))) (pe_lstN (pa_cons (pe_ix ix_list (pv 1) (pv 4) (fun _ _ => rfl)) pa_nil))) (pe_slice sl_listN (pv 0) (po_some (pv 5)) po_none)) (pe_slice sl_listN (pv 1) (po_some (pe_op op_add (pv 4) pe_int)) po_none)) pa_nil)) pa_nil)))))))
      (pss_one (ps_ret (pv 2))))), ?_⟩
  have lx : (xs.map V.int).length = xs.length := List.length_map ..
  have ly : (ys.map V.int).length = ys.length := List.length_map ..
  have big : xs.length * ys.length ≤ 144 := Nat.le_trans (Nat.mul_le_mul n12 m12) (by decide)
  have bg : ∀ {k : Nat}, k ≤ 1000 → k ≤ sizeLine := fun h => Nat.le_trans h (by decide)
  refine ⟨_, rfl, _, rfl, a, b, _, _, rfl, rfl, ha, hb, bg (by omega), fun l0 H1 n1 => ?_⟩
  refine ⟨l0, _, rfl, .of n1.at, fun t0 H2 n2 => ⟨by show 1 ≤ sizeLine; decide, fun wl H3 n3 => ?_⟩⟩
  have s3 := (n1.same.trans n2.same).trans n3.same
  have fw : H wl = none := (n1.same.trans n2.same).free n3.fr
  have k0 := n3.else n2.at
  rw [← List.map_append] at k0
  have h0 : TupsAt H3 [.ref t0] ((List.range (0 + 1)).map (wd xs ys)) := ⟨rfl, fun j w hj => by
    cases j with
    | zero => exact ⟨t0, rfl, by rw [← Option.some.inj hj]; exact k0⟩
    | succ j => cases hj⟩
  have mul : ((((xs.map V.int).length : Nat) : Int) * (((ys.map V.int).length : Nat) : Int)) = ((xs.length * ys.length : Nat) : Int) := by rw [lx, ly, Int.natCast_mul]
  refine ⟨_, rfl, a, _, rfl, .inl (.of (s3 _ _ ha)), _, rfl, b, _, rfl, .inl (.of (s3 _ _ hb)), _, _, rfl, rfl, .inl ⟨by omega, by omega⟩, _, rfl, by omega, by rw [mul]; omega, for_range (lo := 0) (n := ((((xs.map V.int).length : Nat) : Int) * (((ys.map V.int).length : Nat) : Int)).toNat) (fun i σ' H' => ∃ (y3 y4 y5 : Option V) (ws : List V), σ' = [some (.ref a), some (.ref b), some (.ref wl), y3, y4, y5] ∧ Same H H' ∧ H' wl = some (.lst ws) ∧ TupsAt H' ws ((List.range (i + 1)).map (wd xs ys))) ⟨_, _, _, _, rfl, s3, n3.at, h0⟩ ?_ ?_⟩
  · rintro i σ' H4 hi ⟨y3, y4, y5, ws, rfl, s4, hw, h4⟩
    rw [mul, Int.toNat_natCast] at hi
    have n0 : 0 < xs.length := Nat.pos_of_ne_zero fun e => by rw [e, Nat.zero_mul] at hi; omega
    have ltm := Nat.mod_lt i n0
    have km : i / xs.length < ys.length := Nat.div_lt_of_lt_mul hi
    have ha4 := s4 _ _ ha
    have hb4 := s4 _ _ hb
    have lw := h4.1
    rw [List.length_map, List.length_range] at lw
    refine ⟨_, rfl, _, rfl, a, _, rfl, .inl (.of ha4), _, _, rfl, rfl, ⟨by omega, by omega⟩, ?_⟩
    refine ⟨_, rfl, a, _, rfl, .inl (.of ha4), _, _, rfl, rfl, _, rfl, .inl ⟨_, rfl, _, rfl, a, _, rfl, .inl (.of ha4), _, _, rfl, rfl, by show (0 : Int) < (((xs.map V.int).length : Nat) : Int); omega, _, _, rfl, rfl, ?_⟩⟩
    have ek : (0 + (i : Int)) / (((xs.map V.int).length : Nat) : Int) = ((i / xs.length : Nat) : Int) := by rw [Int.zero_add, lx, Int.natCast_ediv]
    have ec : (((xs.map V.int).length : Nat) : Int) - 1 - (0 + (i : Int)) % (((xs.map V.int).length : Nat) : Int) = ((xs.length - 1 - i % xs.length : Nat) : Int) := by
      have : (0 + (i : Int)) % (((xs.map V.int).length : Nat) : Int) = ((i % xs.length : Nat) : Int) := by rw [Int.zero_add, lx, Int.natCast_emod]
      rw [this]
      omega
    have atk : atI (ys.map V.int) ((i / xs.length : Nat) : Int) = some (.int ((ys[i / xs.length]?).getD 0)) := atI_nat (by rw [List.getElem?_map, List.getElem?_eq_getElem km]; rfl)
    refine ⟨_, rfl, .inl ⟨rfl, _, .of hw⟩, ?_⟩
    refine ⟨_, rfl, _, rfl, _, rfl, b, _, rfl, .of hb4, fun p5 H5 n5 => ?_⟩
    rw [ek, cut_upto, ← List.map_take] at n5
    have ha5 := n5.else ha4
    have hb5 := n5.else hb4
    have hw5 := n5.else hw
    refine ⟨_, rfl, _, rfl, _, rfl, a, _, rfl, .of ha5, fun p6 H6 n6 => ?_⟩
    rw [ec, cut_upto, ← List.map_take] at n6
    refine ⟨p5, p6, _, _, rfl, rfl, n6.else n5.at, n6.at, bg (by rw [List.length_map, List.length_map, List.length_take, List.length_take]; omega), fun p7 H7 n7 => ?_⟩
    have hb7 := n7.else (n6.else hb5)
    refine ⟨_, rfl, _, rfl, b, _, _, _, rfl, rfl, .of hb7, by rw [ek]; exact atk, by show 1 ≤ sizeLine; decide, fun p8 H8 n8 => ?_⟩
    refine ⟨p7, p8, _, _, rfl, rfl, n8.else n7.at, n8.at, bg (by rw [List.length_append, List.length_map, List.length_map, List.length_take, List.length_take]; show _ + _ + 1 ≤ 1000; omega), fun p9 H9 n9 => ?_⟩
    have ha9 := n9.else (n8.else (n7.else (n6.else ha5)))
    refine ⟨_, rfl, _, rfl, _, rfl, a, _, rfl, .of ha9, fun pA HA nA => ?_⟩
    rw [ec, cut_fr, ← List.map_drop] at nA
    refine ⟨p9, pA, _, _, rfl, rfl, nA.else n9.at, nA.at, bg (by simp only [List.length_append, List.length_map, List.length_take, List.length_drop, List.length_singleton]; omega), fun pB HB nB => ?_⟩
    have hbB := nB.else (nA.else (n9.else (n8.else hb7)))
    refine ⟨_, rfl, _, rfl, _, _, rfl, rfl, _, rfl, b, _, rfl, .of hbB, fun pC HC nC => ?_⟩
    rw [ek, show (((i / xs.length : Nat) : Int) + 1) = ((i / xs.length + 1 : Nat) : Int) from rfl, cut_fr, ← List.map_drop] at nC
    refine ⟨pB, pC, _, _, rfl, rfl, nC.else nB.at, nC.at, bg (by simp only [List.length_append, List.length_map, List.length_take, List.length_drop, List.length_singleton]; omega), fun pD HD nD => ⟨pD, _, rfl, .of nD.at, fun tE HE nE => ?_⟩⟩
    have sE := ((((((((n5.same.trans n6.same).trans n7.same).trans n8.same).trans n9.same).trans nA.same).trans nB.same).trans nC.same).trans nD.same).trans nE.same
    refine ⟨wl, ws, .ref tE, rfl, rfl, sE _ _ hw, lt (by omega), fun HF eF => ?_⟩
    subst eF
    refine ⟨_, _, _, ws ++ [.ref tE], rfl, same_mut (s4.trans sE) fw rfl, upd_same, ?_⟩
    rw [words_wd]
    refine ((h4.up sE).snoc (w := wdW xs ys (i / xs.length) (xs.length - 1 - i % xs.length)) ?_).put (sE _ _ hw)
    rw [nE.at]
    unfold wdW
    simp only [List.map_append, List.map_cons, List.map_nil]
  · rintro σ' H4 ⟨y3, y4, y5, ws, rfl, s4, hw, h4⟩
    rw [mul, Int.toNat_natCast] at h4
    exact ⟨_, rfl, q wl ws H4 s4 fw hw h4⟩


def spKinds (K : PySem.W.Frag) (mg : Str → Option Value) : SpH := fun p vs H Q _ => ∃ (k : Nat) (nm : Str) (D d : Addr) (fs : List (Str × V)), vs = [.ref p.1] ∧ Es K mg k nm D ∧ ErrAt D d fs H p ∧ ∀ H', Same H H' → Q (.int 1) H'
theorem sum_one : ∀ k, k < 32 → (([k == 0, k == 1, k == 2, k == 3, k == 4, k == 5, k == 6, k == 7, k == 8, k == 9, k == 10, k == 11, k == 12, k == 13, k == 14, k == 15, k == 16, k == 17, k == 18, k == 19, k == 20, k == 21, k == 22, k == 23, k == 24, k == 25, k == 26, k == 27, k == 28, k == 29, k == 30, k == 31] : List Bool).map fun b => if b = true then (1 : Int) else 0).sum = 1 := by decide
theorem ok_kinds_h (Z : Zs mg) (D : Ds K mg) : CalE P w K mg base "_law_kinds" 1 ["error"] (spKinds K mg) := by
  refine Def.calE D.d_law_kinds sc_law_kinds (fun p vs H Q E h => ?_) (fun f cdv A outer s H vs Q E p hot hr h => ?_)
  · obtain ⟨k, nm, C, d, fs, rfl, es, er, q⟩ := h
    rfl
  obtain ⟨k, nm, C, d, fs, rfl, es, er, q⟩ := h
  have ec := es.ec
  obtain ⟨C_BadEdit, g_BadEdit, t_BadEdit⟩ := es.i_BadEdit
  obtain ⟨C_BadNumber, g_BadNumber, t_BadNumber⟩ := es.i_BadNumber
  obtain ⟨C_BadText, g_BadText, t_BadText⟩ := es.i_BadText
  obtain ⟨C_FullLot, g_FullLot, t_FullLot⟩ := es.i_FullLot
  obtain ⟨C_GameOver, g_GameOver, t_GameOver⟩ := es.i_GameOver
  obtain ⟨C_NoSuchLength, g_NoSuchLength, t_NoSuchLength⟩ := es.i_NoSuchLength
  obtain ⟨C_NotABase, g_NotABase, t_NotABase⟩ := es.i_NotABase
  obtain ⟨C_NotAChain, g_NotAChain, t_NotAChain⟩ := es.i_NotAChain
  obtain ⟨C_NotAColumn, g_NotAColumn, t_NotAColumn⟩ := es.i_NotAColumn
  obtain ⟨C_NotACount, g_NotACount, t_NotACount⟩ := es.i_NotACount
  obtain ⟨C_NotAFailing, g_NotAFailing, t_NotAFailing⟩ := es.i_NotAFailing
  obtain ⟨C_NotAMove, g_NotAMove, t_NotAMove⟩ := es.i_NotAMove
  obtain ⟨C_NotAPaper, g_NotAPaper, t_NotAPaper⟩ := es.i_NotAPaper
  obtain ⟨C_NotAPoint, g_NotAPoint, t_NotAPoint⟩ := es.i_NotAPoint
  obtain ⟨C_NotAWord, g_NotAWord, t_NotAWord⟩ := es.i_NotAWord
  obtain ⟨C_NotAllowed, g_NotAllowed, t_NotAllowed⟩ := es.i_NotAllowed
  obtain ⟨C_NotAnOrder, g_NotAnOrder, t_NotAnOrder⟩ := es.i_NotAnOrder
  obtain ⟨C_NotFull, g_NotFull, t_NotFull⟩ := es.i_NotFull
  obtain ⟨C_NotInside, g_NotInside, t_NotInside⟩ := es.i_NotInside
  obtain ⟨C_NotMade, g_NotMade, t_NotMade⟩ := es.i_NotMade
  obtain ⟨C_NotNeighbours, g_NotNeighbours, t_NotNeighbours⟩ := es.i_NotNeighbours
  obtain ⟨C_NotShorter, g_NotShorter, t_NotShorter⟩ := es.i_NotShorter
  obtain ⟨C_NotTight, g_NotTight, t_NotTight⟩ := es.i_NotTight
  obtain ⟨C_NothingKept, g_NothingKept, t_NothingKept⟩ := es.i_NothingKept
  obtain ⟨C_NothingToRedo, g_NothingToRedo, t_NothingToRedo⟩ := es.i_NothingToRedo
  obtain ⟨C_NothingToUndo, g_NothingToUndo, t_NothingToUndo⟩ := es.i_NothingToUndo
  obtain ⟨C_OrderMatters, g_OrderMatters, t_OrderMatters⟩ := es.i_OrderMatters
  obtain ⟨C_RepeatedPoint, g_RepeatedPoint, t_RepeatedPoint⟩ := es.i_RepeatedPoint
  obtain ⟨C_SameLength, g_SameLength, t_SameLength⟩ := es.i_SameLength
  obtain ⟨C_TooMany, g_TooMany, t_TooMany⟩ := es.i_TooMany
  obtain ⟨C_UnknownName, g_UnknownName, t_UnknownName⟩ := es.i_UnknownName
  obtain ⟨C_UnlikeSizes, g_UnlikeSizes, t_UnlikeSizes⟩ := es.i_UnlikeSizes
  refine ⟨_, (pss_cons (ps_set (i := 1) sc_law_kinds.nd rfl (Or.inl rfl) (pe_lstN (pa_cons (pe_callB (call_isErr (d := d) ec List.mem_cons_self) (by rfl) Z.z_isinstance (by decide +kernel) (pa_cons (pv 0) (pa_cons (pe_cls (by rfl) g_BadEdit) pa_nil))) (pa_cons (pe_callB (call_isErr (d := d) ec List.mem_cons_self) (by rfl) Z.z_isinstance (by decide +kernel) (pa_cons (pv 0) (pa_cons (pe_cls (by rfl) g_BadNumber) pa_nil))) (pa_cons (pe_callB (call_isErr (d := d) ec List.mem_cons_self) (by rfl) Z.z_isinstance (by decide +kernel) (pa_cons (pv 0) (pa_cons (pe_cls (by rfl) g_BadText) pa_nil))) (pa_cons (pe_callB (call_isErr (d := d) ec List.mem_cons_self) (by rfl) Z.z_isinstance (by decide +kernel) (pa_cons (pv 0) (pa_cons (pe_cls (by rfl) g_FullLot) pa_nil))) (pa_cons (pe_callB (call_isErr (d := d) ec List.mem_cons_self) (by rfl) Z.z_isinstance (by decide +kernel) (pa_cons (pv 0) (pa_cons (pe_cls (by rfl) g_GameOver) pa_nil))) (pa_cons (pe_callB (call_isErr (d := d) ec List.mem_cons_self) (by rfl) Z.z_isinstance (by decide +kernel) (pa_cons (pv 0) (pa_cons (pe_cls (by rfl) g_NoSuchLength) pa_nil))) (pa_cons (pe_callB (call_isErr (d := d) ec List.mem_cons_self) (by rfl) Z.z_isinstance (by decide +kernel) (pa_cons (pv 0) (pa_cons (pe_cls (by rfl) g_NotABase) pa_nil))) (pa_cons (pe_callB (call_isErr (d := d) ec List.mem_cons_self) (by rfl) Z.z_isinstance (by decide +kernel) (pa_cons (pv 0) (pa_cons (pe_cls (by rfl) g_NotAChain) pa_nil))) (pa_cons (pe_callB (call_isErr (d := d) ec List.mem_cons_self) (by rfl) Z.z_isinstance (by decide +kernel) (pa_cons (pv 0) (pa_cons (pe_cls (by rfl) g_NotAColumn) pa_nil))) (pa_cons (pe_callB (call_isErr (d := d) ec List.mem_cons_self) (by rfl) Z.z_isinstance (by decide +kernel) (pa_cons (pv 0) (pa_cons (pe_cls (by rfl) g_NotACount) pa_nil))) (pa_cons (pe_callB (call_isErr (d := d) ec List.mem_cons_self) (by rfl) Z.z_isinstance (by decide +kernel) (pa_cons (pv 0) (pa_cons (pe_cls (by rfl) g_NotAFailing) pa_nil))) (pa_cons (pe_callB (call_isErr (d := d) ec List.mem_cons_self) (by rfl) Z.z_isinstance (by decide +kernel) (pa_cons (pv 0) (pa_cons (pe_cls (by rfl) g_NotAMove) pa_nil))) (pa_cons (pe_callB (call_isErr (d := d) ec List.mem_cons_self) (by rfl) Z.z_isinstance (by decide +kernel) (pa_cons (pv 0) (pa_cons (pe_cls (by rfl) g_NotAPaper) pa_nil))) (pa_cons (pe_callB (call_isErr (d := d) ec List.mem_cons_self) (by rfl) Z.z_isinstance (by decide +kernel) (pa_cons (pv 0) (pa_cons (pe_cls (by rfl) g_NotAPoint) pa_nil))) (pa_cons (pe_callB (call_isErr (d := d) ec List.mem_cons_self) (by rfl) Z.z_isinstance (by decide +kernel) (pa_cons (pv 0) (pa_cons (pe_cls (by rfl) g_NotAWord) pa_nil))) (pa_cons (pe_callB (call_isErr (d := d) ec List.mem_cons_self) (by rfl) Z.z_isinstance (by decide +kernel) (pa_cons (pv 0) (pa_cons (pe_cls (by rfl) g_NotAllowed) pa_nil))) (pa_cons (pe_callB (call_isErr (d := d) ec List.mem_cons_self) (by rfl) Z.z_isinstance (by decide +kernel) (pa_cons (pv 0) (pa_cons (pe_cls (by rfl) g_NotAnOrder) pa_nil))) (pa_cons (pe_callB (call_isErr (d := d) ec List.mem_cons_self) (by rfl) Z.z_isinstance (by decide +kernel) (pa_cons (pv 0) (pa_cons (pe_cls (by rfl) g_NotFull) pa_nil))) (pa_cons (pe_callB (call_isErr (d := d) ec List.mem_cons_self) (by rfl) Z.z_isinstance (by decide +kernel) (pa_cons (pv 0) (pa_cons (pe_cls (by rfl) g_NotInside) pa_nil))) (pa_cons (pe_callB (call_isErr (d := d) ec List.mem_cons_self) (by rfl) Z.z_isinstance (by decide +kernel) (pa_cons (pv 0) (pa_cons (pe_cls (by rfl) g_NotMade) pa_nil))) (pa_cons (pe_callB (call_isErr (d := d) ec List.mem_cons_self) (by rfl) Z.z_isinstance (by decide +kernel) (pa_cons (pv 0) (pa_cons (pe_cls (by rfl) g_NotNeighbours) pa_nil))) (pa_cons (pe_callB (call_isErr (d := d) ec List.mem_cons_self) (by rfl) Z.z_isinstance (by decide +kernel) (pa_cons (pv 0) (pa_cons (pe_cls (by rfl) g_NotShorter) pa_nil))) (pa_cons (pe_callB (call_isErr (d := d) ec List.mem_cons_self) (by rfl) Z.z_isinstance (by decide +kernel) (pa_cons (pv 0) (pa_cons (pe_cls (by rfl) g_NotTight) pa_nil))) (pa_cons (pe_callB (call_isErr (d := d) ec List.mem_cons_self) (by rfl) Z.z_isinstance (by decide +kernel) (pa_cons (pv 0) (pa_cons (pe_cls (by rfl) g_NothingKept) pa_nil))) (pa_cons (pe_callB (call_isErr (d := d) ec List.mem_cons_self) (by rfl) Z.z_isinstance (by decide +kernel) (pa_cons (pv 0) (pa_cons (pe_cls (by rfl) g_NothingToRedo) pa_nil))) (pa_cons (pe_callB (call_isErr (d := d) ec List.mem_cons_self) (by rfl) Z.z_isinstance (by decide +kernel) (pa_cons (pv 0) (pa_cons (pe_cls (by rfl) g_NothingToUndo) pa_nil))) (pa_cons (pe_callB (call_isErr (d := d) ec List.mem_cons_self) (by rfl) Z.z_isinstance (by decide +kernel) (pa_cons (pv 0) (pa_cons (pe_cls (by rfl) g_OrderMatters) pa_nil))) (pa_cons (pe_callB (call_isErr (d := d) ec List.mem_cons_self) (by rfl) Z.z_isinstance (by decide +kernel) (pa_cons (pv 0) (pa_cons (pe_cls (by rfl) g_RepeatedPoint) pa_nil))) (pa_cons (pe_callB (call_isErr (d := d) ec List.mem_cons_self) (by rfl) Z.z_isinstance (by decide +kernel) (pa_cons (pv 0) (pa_cons (pe_cls (by rfl) g_SameLength) pa_nil))) (pa_cons (pe_callB (call_isErr (d := d) ec List.mem_cons_self) (by rfl) Z.z_isinstance (by decide +kernel) (pa_cons (pv 0) (pa_cons (pe_cls (by rfl) g_TooMany) pa_nil))) (pa_cons (pe_callB (call_isErr (d := d) ec List.mem_cons_self) (by rfl) Z.z_isinstance (by decide +kernel) (pa_cons (pv 0) (pa_cons (pe_cls (by rfl) g_UnknownName) pa_nil))) (pa_cons (pe_callB (call_isErr (d := d) ec List.mem_cons_self) (by rfl) Z.z_isinstance (by decide +kernel) (pa_cons (pv 0) (pa_cons (pe_cls (by rfl) g_UnlikeSizes) pa_nil))) pa_nil))))))))))))))))))))))))))))))))))
      (pss_one (ps_ret (pe_callB (cr_sumH (hot_in hot List.mem_cons_self)) (by rfl) Z.z_sum (by decide +kernel) (pa_cons (pe_lcH (own := [("flag", 2)]) (g := gName 2) (tt := tYes) (hot_in hot List.mem_cons_self) sc_law_kinds.nd (ih_list (pv 1)) (blkOk_by (N := ["error", "kinds", "flag"]) (sc := defScope s_law_kinds) (by decide +kernel)) (fun _ _ _ _ _ => pg_name (i := 2) sc_law_kinds.nd rfl (Or.inl rfl)) (fun _ _ _ _ _ => pts_nil) (fun _ _ _ _ _ => (pe_callTy call_int1 (by rfl) Z.z_int (by decide +kernel) (pa_cons (pv 2) pa_nil)))) pa_nil))))), ?_⟩
  refine ⟨_, rfl, .ref C_BadEdit, .ref C_BadEdit, _, fs, rfl, fun u r => r, t_BadEdit, er, _, rfl, .ref C_BadNumber, .ref C_BadNumber, _, fs, rfl, fun u r => r, t_BadNumber, er, _, rfl, .ref C_BadText, .ref C_BadText, _, fs, rfl, fun u r => r, t_BadText, er, _, rfl, .ref C_FullLot, .ref C_FullLot, _, fs, rfl, fun u r => r, t_FullLot, er, _, rfl, .ref C_GameOver, .ref C_GameOver, _, fs, rfl, fun u r => r, t_GameOver, er, _, rfl, .ref C_NoSuchLength, .ref C_NoSuchLength, _, fs, rfl, fun u r => r, t_NoSuchLength, er, _, rfl, .ref C_NotABase, .ref C_NotABase, _, fs, rfl, fun u r => r, t_NotABase, er, _, rfl, .ref C_NotAChain, .ref C_NotAChain, _, fs, rfl, fun u r => r, t_NotAChain, er, _, rfl, .ref C_NotAColumn, .ref C_NotAColumn, _, fs, rfl, fun u r => r, t_NotAColumn, er, _, rfl, .ref C_NotACount, .ref C_NotACount, _, fs, rfl, fun u r => r, t_NotACount, er, _, rfl, .ref C_NotAFailing, .ref C_NotAFailing, _, fs, rfl, fun u r => r, t_NotAFailing, er, _, rfl, .ref C_NotAMove, .ref C_NotAMove, _, fs, rfl, fun u r => r, t_NotAMove, er, _, rfl, .ref C_NotAPaper, .ref C_NotAPaper, _, fs, rfl, fun u r => r, t_NotAPaper, er, _, rfl, .ref C_NotAPoint, .ref C_NotAPoint, _, fs, rfl, fun u r => r, t_NotAPoint, er, _, rfl, .ref C_NotAWord, .ref C_NotAWord, _, fs, rfl, fun u r => r, t_NotAWord, er, _, rfl, .ref C_NotAllowed, .ref C_NotAllowed, _, fs, rfl, fun u r => r, t_NotAllowed, er, _, rfl, .ref C_NotAnOrder, .ref C_NotAnOrder, _, fs, rfl, fun u r => r, t_NotAnOrder, er, _, rfl, .ref C_NotFull, .ref C_NotFull, _, fs, rfl, fun u r => r, t_NotFull, er, _, rfl, .ref C_NotInside, .ref C_NotInside, _, fs, rfl, fun u r => r, t_NotInside, er, _, rfl, .ref C_NotMade, .ref C_NotMade, _, fs, rfl, fun u r => r, t_NotMade, er, _, rfl, .ref C_NotNeighbours, .ref C_NotNeighbours, _, fs, rfl, fun u r => r, t_NotNeighbours, er, _, rfl, .ref C_NotShorter, .ref C_NotShorter, _, fs, rfl, fun u r => r, t_NotShorter, er, _, rfl, .ref C_NotTight, .ref C_NotTight, _, fs, rfl, fun u r => r, t_NotTight, er, _, rfl, .ref C_NothingKept, .ref C_NothingKept, _, fs, rfl, fun u r => r, t_NothingKept, er, _, rfl, .ref C_NothingToRedo, .ref C_NothingToRedo, _, fs, rfl, fun u r => r, t_NothingToRedo, er, _, rfl, .ref C_NothingToUndo, .ref C_NothingToUndo, _, fs, rfl, fun u r => r, t_NothingToUndo, er, _, rfl, .ref C_OrderMatters, .ref C_OrderMatters, _, fs, rfl, fun u r => r, t_OrderMatters, er, _, rfl, .ref C_RepeatedPoint, .ref C_RepeatedPoint, _, fs, rfl, fun u r => r, t_RepeatedPoint, er, _, rfl, .ref C_SameLength, .ref C_SameLength, _, fs, rfl, fun u r => r, t_SameLength, er, _, rfl, .ref C_TooMany, .ref C_TooMany, _, fs, rfl, fun u r => r, t_TooMany, er, _, rfl, .ref C_UnknownName, .ref C_UnknownName, _, fs, rfl, fun u r => r, t_UnknownName, er, _, rfl, .ref C_UnlikeSizes, .ref C_UnlikeSizes, _, fs, rfl, fun u r => r, t_UnlikeSizes, er, by show 32 ≤ sizeLine; decide, fun a1 H1 n1 => ?_⟩
  have one := sum_one k es.lt
  have hl1 := n1.at
  generalize hbs : ([k == 0, k == 1, k == 2, k == 3, k == 4, k == 5, k == 6, k == 7, k == 8, k == 9, k == 10, k == 11, k == 12, k == 13, k == 14, k == 15, k == 16, k == 17, k == 18, k == 19, k == 20, k == 21, k == 22, k == 23, k == 24, k == 25, k == 26, k == 27, k == 28, k == 29, k == 30, k == 31] : List Bool) = bs at one
  have hl1 : H1 a1 = some (.lst (bs.map V.bl)) := by
    rw [hl1, ← hbs]
    rfl
  have lb : bs.length = 32 := by rw [← hbs]; rfl
  refine ⟨_, rfl, a1, rfl, ⟨_, .of hl1⟩, fun l hl => lc_list (xs := bs.map V.bl) (fun i H' => H' l = some (.lst (((bs.take i).map fun b => if b = true then (1 : Int) else 0).map V.int)) ∧ Same H1 H') ?_ ?_ ?_ ?_⟩
  · exact ⟨upd_same, same_put (Same.refl _) hl⟩
  · rintro i H' - ⟨-, s⟩
    exact .of (s _ _ hl1)
  · rintro i x H' hi ⟨hz, s⟩
    have hb : bs[i]?.map V.bl = some x := by rw [← List.getElem?_map]; exact hi
    obtain ⟨b, eb, rfl⟩ := Option.map_eq_some_iff.mp hb
    have ilt : i < 32 := lb ▸ (List.getElem?_eq_some_iff.mp eb).1
    refine ⟨rfl, yesT ⟨_, rfl, .inr ⟨b, rfl, _, hz, ?_, ?_, same_put s hl⟩⟩⟩
    · rw [List.length_map, List.length_map, List.length_take]
      exact lt (by omega)
    · rw [upd_same, List.take_add_one, eb, List.map_append, List.map_append]
      rfl
  · rintro H' ⟨hz, s⟩
    rw [List.length_map, List.take_length] at hz
    refine ⟨l, bs.map fun b => if b = true then (1 : Int) else 0, rfl, .of hz, ?_⟩
    rw [one]
    exact q _ (n1.same.trans s)
/-- an exception at p, and what is due for it -/
def ErrDue (K : PySem.W.Frag) (mg : Str → Option Value) (G : Hp) (C : Addr) (fs : List (Str × V)) (due : PyData) : Prop := ∃ (k : Nat) (nm : Str), Es K mg k nm C ∧
  ((k = 1 ∧ ∃ (v : V) (dv : PyData) (lo hi : Int), PySem.W.findIn K (.ref C) "value" = some none ∧ PySem.W.findIn K (.ref C) "low" = some none ∧ PySem.W.findIn K (.ref C) "high" = some none ∧ fs.lookup ("value" : Str) = some v ∧ fs.lookup ("low" : Str) = some (.int lo) ∧ fs.lookup ("high" : Str) = some (.int hi) ∧ Da G v dv ∧ due = .tuple [.str "BadNumber", dv, .int lo, .int hi]) ∨
   (k = 29 ∧ ∃ (what : Str) (lim : Int), PySem.W.findIn K (.ref C) "what" = some none ∧ PySem.W.findIn K (.ref C) "limit" = some none ∧ fs.lookup ("what" : Str) = some (.str what) ∧ fs.lookup ("limit" : Str) = some (.int lim) ∧ due = .tuple [.str "TooMany", .str what, .int lim]))
def spRight (K : PySem.W.Frag) (mg : Str → Option Value) : SpH := fun p vs H Q _ => ∃ (G : Hp) (C d : Addr) (fs : List (Str × V)) (w : V) (due : PyData), vs = [.ref p.1, w] ∧ Same G H ∧ ErrAt C d fs H p ∧ ErrDue K mg G C fs due ∧ Da G w due ∧ szD due ≤ 1000 ∧ lv 4 due = true ∧ ∀ H', Same H H' → Q (.bl true) H'
theorem ok_right_h (Z : Zs mg) (D : Ds K mg) (c__law_kinds_h : CalE P w K mg base "_law_kinds" 1 ["error"] (spKinds K mg)) (c__law_agree_h : CalE P w K mg base "_law_agree" 5 ["actual", "due"] (fun _ => spAgree 4)) : CalE P w K mg base "_law_right_error" 6 ["error", "due"] (spRight K mg) := by
  refine Def.calE D.d_law_right_error sc_law_right_error (fun p vs H Q E h => ?_) (fun f cdv A outer s H vs Q E p hot hr h => ?_)
  · obtain ⟨G, C, d, fs, w, due, rfl, gh, er, is, hw, sz, hlv, q⟩ := h
    rfl
  obtain ⟨G, C, d, fs, w, due, rfl, gh, er, is, hw, sz, hlv, q⟩ := h
  obtain ⟨k, nm, es, cases_⟩ := id is
  have ec := es.ec
  obtain ⟨C_BadNumber, g_BadNumber, t_BadNumber⟩ := es.i_BadNumber
  obtain ⟨C_TooMany, g_TooMany, t_TooMany⟩ := es.i_TooMany
  obtain ⟨C_HeldorderError, g_HeldorderError, t_HeldorderError⟩ := es.iH
  refine ⟨_, (pss_cons (ps_set (i := 2) sc_law_right_error.nd rfl (Or.inl rfl) pe_non)
      (Evl.pss_cut (ps_if (pt_val (pe_callB (call_isErr (d := d) ec List.mem_cons_self) (by rfl) Z.z_isinstance (by decide +kernel) (pa_cons (pv 0) (pa_cons (pe_cls (by rfl) g_BadNumber) pa_nil)))) (pss_one (ps_set (i := 2) sc_law_right_error.nd rfl (Or.inl rfl) (pe_tupN (pa_cons pe_str (pa_cons (pe_errG (d := d) ec List.mem_cons_self (pv 0)) (pa_cons (pe_errG (d := d) ec List.mem_cons_self (pv 0)) (pa_cons (pe_errG (d := d) ec List.mem_cons_self (pv 0)) pa_nil))))))) pss_nil)
      (Evl.pss_cut (ps_if (pt_val (pe_callB (call_isErr (d := d) ec List.mem_cons_self) (by rfl) Z.z_isinstance (by decide +kernel) (pa_cons (pv 0) (pa_cons (pe_cls (by rfl) g_TooMany) pa_nil)))) (pss_one (ps_set (i := 2) sc_law_right_error.nd rfl (Or.inl rfl) (pe_tupN (pa_cons pe_str (pa_cons (pe_errG (d := d) ec List.mem_cons_self (pv 0)) (pa_cons (pe_errG (d := d) ec List.mem_cons_self (pv 0)) pa_nil)))))) pss_nil)
      (pss_cons (ps_set (i := 3) sc_law_right_error.nd rfl (Or.inl rfl) (pe_and (pe_callB (call_isErr (d := d) ec List.mem_cons_self) (by rfl) Z.z_isinstance (by decide +kernel) (pa_cons (pv 0) (pa_cons (pe_cls (by rfl) g_HeldorderError) pa_nil))) (pe_and (pe_callB (call_isErr (d := d) ec List.mem_cons_self) (by rfl) Z.z_isinstance (by decide +kernel) (pa_cons (pv 0) (pa_cons (pe_bltn (v := .ty "ValueError") (by rfl) Z.z_ValueError (by decide +kernel) rfl) pa_nil))) (pe_one (pe_cmp (pc_eqI (pe_calE c__law_kinds_h (hr.mono (by first | decide | omega)) hot List.mem_cons_self (by rfl) (pa_cons (pv 0) pa_nil)) pe_int) (nomark _))))))
      (pss_one (ps_ret (pe_and (pv 3) (pe_one (pe_calE c__law_agree_h (hr.mono (by first | decide | omega)) hot List.mem_cons_self (by rfl) (pa_cons (pv 2) (pa_cons (pv 1) pa_nil))))))))))), ?_⟩
  refine ⟨fun σ' H' => ∃ u : V, σ' = [some (.ref p.1), some w, some u, none] ∧ Same H H' ∧ ((k = 1 ∧ ∃ G', Same G G' ∧ Same G' H' ∧ Da G' u due) ∨ (k = 29 ∧ u = .non)), ?_, ?_⟩
  · rcases cases_ with ⟨rfl, v, dv, lo, hi, nf_value, nf_low, nf_high, l1, l2, l3, hv, rfl⟩ | ⟨rfl, what, lim, nf_what, nf_limit, l1, l2, rfl⟩
    · refine ⟨_, rfl, .ref C_BadNumber, .ref C_BadNumber, _, fs, rfl, fun u r => r, t_BadNumber, er, _, rfl, iteBT rfl ⟨_, rfl, rfl, nf_value, fs, _, er, l1, _, rfl, rfl, nf_low, fs, _, er, l2, _, rfl, rfl, nf_high, fs, _, er, l3, by show 4 ≤ sizeLine; decide, fun t H1 n1 => ?_⟩⟩
      obtain ⟨G1, s1, g1, k1, -⟩ := (Stq.refl gh).know2 n1
      exact ⟨.ref t, rfl, n1.same, .inl ⟨rfl, G1, s1.gg, s1.gh, .tup k1 (.cons (.str _) (.cons (hv.up s1.gg) (.cons (.int _) (.cons (.int _) .nil))))⟩⟩
    · exact ⟨_, rfl, .ref C_BadNumber, .ref C_BadNumber, _, fs, rfl, fun u r => r, t_BadNumber, er, _, rfl, iteBF rfl ⟨.non, rfl, Same.refl _, .inr ⟨rfl, rfl⟩⟩⟩
  rintro σ' H1 ⟨u, rfl, s1, hu⟩
  refine ⟨fun σ' H' => ∃ u : V, σ' = [some (.ref p.1), some w, some u, none] ∧ Same H H' ∧ ∃ G', Same G G' ∧ Same G' H' ∧ Da G' u due, ?_, ?_⟩
  · rcases cases_ with ⟨rfl, v, dv, lo, hi, nf_value, nf_low, nf_high, l1, l2, l3, hv, rfl⟩ | ⟨rfl, what, lim, nf_what, nf_limit, l1, l2, rfl⟩
    · obtain ⟨-, hu⟩ := hu.resolve_right fun z => absurd z.1 (by decide)
      exact ⟨_, rfl, .ref C_TooMany, .ref C_TooMany, _, fs, rfl, fun u r => r, t_TooMany, er.same s1, _, rfl, iteBF rfl ⟨u, rfl, s1, hu⟩⟩
    · refine ⟨_, rfl, .ref C_TooMany, .ref C_TooMany, _, fs, rfl, fun u r => r, t_TooMany, er.same s1, _, rfl, iteBT rfl ⟨_, rfl, rfl, nf_what, fs, _, er.same s1, l1, _, rfl, rfl, nf_limit, fs, _, er.same s1, l2, by show 3 ≤ sizeLine; decide, fun t H2 n2 => ?_⟩⟩
      obtain ⟨G1, s2, g1, k1, -⟩ := (Stq.refl (gh.trans s1)).know2 n2
      exact ⟨.ref t, rfl, s1.trans n2.same, G1, s2.gg, s2.gh, .tup k1 (.cons (.str _) (.cons (.str _) (.cons (.int _) .nil)))⟩
  rintro σ' H2 ⟨u, rfl, s2, G2, g2, gh2, du⟩
  have er2 := er.same s2
  refine ⟨_, rfl, .ref C_HeldorderError, .ref C_HeldorderError, _, fs, rfl, fun u r => r, t_HeldorderError, er2, true, rfl, iteT ⟨_, rfl, .ty "ValueError", _, _, fs, rfl, fun u r => r, es.iV, er2, true, rfl, iteT ?_⟩⟩
  refine ⟨_, rfl, k, nm, C, d, fs, rfl, es, er2, fun H3 s3 => ?_⟩
  refine ⟨_, _, rfl, rfl, ?_⟩
  refine ⟨_, rfl, _, rfl, iteDT rfl ⟨_, rfl, _, rfl, u, w, due, rfl, (du.up gh2).up s3, ((hw.up g2).up gh2).up s3, by show szD due + 0 ≤ 100000; omega, hlv, fun H4 s4 => ?_⟩⟩
  exact q H4 ((s2.trans s3).trans s4)
/-- the classes that the law knows -/
structure ErcK (K : PySem.W.Frag) (mg : Str → Option Value) (DB DT : Addr) : Prop where
  b : Es K mg 1 "BadNumber" DB
  b1 : PySem.W.findIn K (.ref DB) "value" = some none
  b2 : PySem.W.findIn K (.ref DB) "low" = some none
  b3 : PySem.W.findIn K (.ref DB) "high" = some none
  t : Es K mg 29 "TooMany" DT
  t1 : PySem.W.findIn K (.ref DT) "what" = some none
  t2 : PySem.W.findIn K (.ref DT) "limit" = some none
/-- a refusal that is due: of swap_path for one of its numbers, or of path_words for one of its rows -/
def spRefuses : Sp := fun vs H Q _ => ∃ (r : Bool) (v u z : V) (due : PyData), vs = [.bl r, v, u, z] ∧ Da H z due ∧
  ((r = false ∧ ∃ dv du x dx : _, Da H v dv ∧ Da H u du ∧ Bad24 H x dx ∧ ((v = x ∧ dv = dx) ∨ (isNum dv 0 24 = true ∧ u = x ∧ du = dx)) ∧ due = .tuple [.str "BadNumber", dx, .int 0, .int 24]) ∨
   (r = true ∧ ∃ (a b : Addr) (xs ys : List Int), v = .ref a ∧ u = .ref b ∧ HasL H a (xs.map V.int) ∧ HasL H b (ys.map V.int) ∧ (12 < xs.length ∨ 12 < ys.length) ∧ due = .tuple [.str "TooMany", .str "row", .int 12])) ∧
  ∀ H', Same H H' → Q (.bl true) H'
theorem ok_refuses {DB DT : Addr} (Z : Zs mg) (D : Ds K mg) (er : ErcK K mg DB DT) (c_path_words : CalX P w K mg base "path_words" 5 ["first", "second"] (spPathWords DT)) (c_swap_path : CalX P w K mg base "swap_path" 4 ["first", "second"] (spSwapPath DB)) (c__law_right_error_h : CalE P w K mg base "_law_right_error" 6 ["error", "due"] (spRight K mg)) : Cal P w K mg base "_law_refuses" 7 ["rows", "one", "two", "due"] spRefuses := by
  obtain ⟨CH, g_HeldorderError, ex0⟩ := er.b.hH
  obtain ⟨CH', g', ex1⟩ := er.t.hH
  obtain rfl : CH = CH' := by
    rw [g_HeldorderError] at g'
    cases g'
    rfl
  refine Def.cal D.d_law_refuses sc_law_refuses (fun vs H Q E h => ?_) (fun f cdv A outer s H vs Q E hr h => ?_)
  · obtain ⟨r, v, u, z, due, rfl, hz, hh, q⟩ := h
    rfl
  obtain ⟨r, v, u, z, due, rfl, hz, hh, q⟩ := h
  refine ⟨_, (pss_cons (ps_try_E (i := 4) rfl rfl sc_law_refuses.nd rfl rfl ⟨rfl, by decide, .inl g_HeldorderError⟩ nothing_taken (fun Wx pn xe tk po => (pss_one (ps_if (pt_val (pv 0)) (pss_one (ps_expr (pe_calX c_path_words tk (hr.mono (by first | decide | omega)) (by rfl) (pa_cons (pv 1) (pa_cons (pv 2) pa_nil))))) (pss_one (ps_expr (pe_calX c_swap_path tk (hr.mono (by first | decide | omega)) (by rfl) (pa_cons (pv 1) (pa_cons (pv 2) pa_nil)))))))) (fun a oe cls d pn hz hf => (pss_one (ps_ret (pe_calE c__law_right_error_h (room_suite (hr.mono (by first | decide | omega)) _) (suite_hot hz hf) List.mem_cons_self (by rfl) (pa_cons (pv 4) (pa_cons (pv 3) pa_nil)))))))
      (pss_one (ps_ret pe_bl))), ?_⟩
  rcases hh with ⟨rfl, dv, du, x, dx, hv, hu, bad, hx, rfl⟩ | ⟨rfl, a, b, xs, ys, rfl, rfl, ha, hb, hl, rfl⟩
  · have zd : szD (.tuple [.str "BadNumber", dx, .int 0, .int 24]) ≤ 1000 := by
      have w1 : szD (.str "BadNumber") ≤ 100 := by decide
      have := bad.sz
      show 1 + (szD (.str "BadNumber") + (szD dx + (1 + (1 + 0)))) ≤ _
      omega
    have lvd : lv 4 (.tuple [.str "BadNumber", dx, .int 0, .int 24]) = true := by
      show ([.str "BadNumber", dx, .int 0, .int 24] : List PyData).all (lv 3) = true
      rw [List.all_eq_true]
      intro e he
      simp only [List.mem_cons, List.not_mem_nil, or_false] at he
      rcases he with rfl | rfl | rfl | rfl
      · rfl
      · exact bad.lv
      · rfl
      · rfl
    have is : ErrDue K mg H DB [(("high" : Str), .int 24), (("low" : Str), .int 0), (("value" : Str), x)] (.tuple [.str "BadNumber", dx, .int 0, .int 24]) := ⟨1, "BadNumber", er.b, .inl ⟨rfl, x, dx, 0, 24, er.b1, er.b2, er.b3, rfl, rfl, rfl, bad.da, rfl⟩⟩
    refine ⟨_, rfl, _, rfl, iteF ⟨_, rfl, _, rfl, v, u, dv, du, rfl, hv, hu, fun e d1 H1 s1 h1 => ?_, fun e1 e2 d1 H1 s1 h1 => ?_, fun n m e1 e2 n24 m24 => ?_⟩⟩
    · obtain ⟨rfl, rfl⟩ := hx.resolve_right fun z => by rw [z.1] at e; cases e
      exact ⟨true, ex0, fun _ a1 ha1 => fun oe1 hz1 hf1 => ⟨_, rfl, _, rfl, H, DB, d1, _, z, _, rfl, s1, suite_err hz1 hf1 h1, is, hz, zd, lvd, fun H2 s2 => q H2 (s1.trans s2)⟩, fun z => nomatch z⟩
    · obtain ⟨-, rfl, rfl⟩ := hx.resolve_left fun z => by
        have := bad.no
        rw [← z.2, e1] at this
        cases this
      exact ⟨true, ex0, fun _ a1 ha1 => fun oe1 hz1 hf1 => ⟨_, rfl, _, rfl, H, DB, d1, _, z, _, rfl, s1, suite_err hz1 hf1 h1, is, hz, zd, lvd, fun H2 s2 => q H2 (s1.trans s2)⟩, fun z => nomatch z⟩
    · exfalso
      have no := bad.no
      rcases hx with ⟨-, rfl⟩ | ⟨-, -, rfl⟩
      · rw [e1, isNum24 n24] at no
        cases no
      · rw [e2, isNum24 m24] at no
        cases no
  · have is : ErrDue K mg H DT [(("limit" : Str), .int 12), (("what" : Str), .str "row")] (.tuple [.str "TooMany", .str "row", .int 12]) := ⟨29, "TooMany", er.t, .inr ⟨rfl, "row", 12, er.t1, er.t2, rfl, rfl, rfl⟩⟩
    have out : ∀ {d1 : Addr} {H1 : Hp}, Same H H1 → H1 d1 = some (.xd [(("limit" : Str), .int 12), (("what" : Str), .str "row")]) → True := fun _ _ => trivial
    clear out
    refine ⟨_, rfl, _, rfl, iteT ⟨_, rfl, _, rfl, a, b, xs, ys, rfl, ha, hb, fun l d1 H1 s1 h1 => ?_, fun l1 l d1 H1 s1 h1 => ?_, fun l1 l2 => by omega⟩⟩
    · exact ⟨true, ex1, fun _ a1 ha1 => fun oe1 hz1 hf1 => ⟨_, rfl, _, rfl, H, DT, d1, _, z, _, rfl, s1, suite_err hz1 hf1 h1, is, hz, by decide, rfl, fun H2 s2 => q H2 (s1.trans s2)⟩, fun z => nomatch z⟩
    · exact ⟨true, ex1, fun _ a1 ha1 => fun oe1 hz1 hf1 => ⟨_, rfl, _, rfl, H, DT, d1, _, z, _, rfl, s1, suite_err hz1 hf1 h1, is, hz, by decide, rfl, fun H2 s2 => q H2 (s1.trans s2)⟩, fun z => nomatch z⟩


def lowL (n : Nat) : List Int := (List.range n).map fun i : Nat => (i : Int)
def highL (n m : Nat) : List Int := (List.range m).map fun i : Nat => (n : Int) + (i : Int)
theorem low_len (n : Nat) : (lowL n).length = n := by
  unfold lowL
  rw [List.length_map, List.length_range]
theorem high_len (n m : Nat) : (highL n m).length = m := by
  unfold highL
  rw [List.length_map, List.length_range]
theorem low_high (n m : Nat) : lowL n ++ highL n m = (List.range (n + m)).map fun i : Nat => (i : Int) := by
  unfold lowL highL
  rw [List.range_add, List.map_append, List.map_map]
  congr 1
theorem wd_end {xs ys : List Int} : wd xs ys (xs.length * ys.length) = ys ++ xs := by
  rcases Nat.eq_zero_or_pos (xs.length * ys.length) with z | z
  · rw [z]
    rcases Nat.mul_eq_zero.mp z with e | e
    · rw [List.eq_nil_of_length_eq_zero e]
      show [] ++ ys = ys ++ []
      rw [List.append_nil, List.nil_append]
    · rw [List.eq_nil_of_length_eq_zero e]
      show xs ++ [] = [] ++ xs
      rw [List.append_nil, List.nil_append]
  · have n0 : 0 < xs.length := Nat.pos_of_ne_zero fun e => by rw [e, Nat.zero_mul] at z; omega
    have m0 : 0 < ys.length := Nat.pos_of_ne_zero fun e => by rw [e, Nat.mul_zero] at z; omega
    obtain ⟨s, es⟩ : ∃ s, xs.length * ys.length = s + 1 := ⟨_, (Nat.succ_pred_eq_of_pos z).symm⟩
    rw [es]
    show wdW xs ys (s / xs.length) (xs.length - 1 - s % xs.length) = _
    have e0 : s = xs.length * (ys.length - 1) + (xs.length - 1) := by
      have : xs.length * ys.length = xs.length * (ys.length - 1) + xs.length := by
        rw [← Nat.mul_succ]
        congr 1
        omega
      omega
    have e1 : s / xs.length = ys.length - 1 := by
      have q : (xs.length - 1) / xs.length = 0 := Nat.div_eq_of_lt (by omega)
      rw [e0, Nat.mul_add_div n0, q, Nat.add_zero]
    have e2 : s % xs.length = xs.length - 1 := by
      have q : (xs.length - 1) % xs.length = xs.length - 1 := Nat.mod_eq_of_lt (by omega)
      rw [e0, Nat.mul_add_mod, q]
    rw [e1, e2, Nat.sub_self]
    unfold wdW
    rw [List.take_zero, List.drop_zero, List.append_nil, List.getElem?_eq_getElem (show ys.length - 1 < ys.length by omega), show ys.length - 1 + 1 = ys.length by omega, List.drop_length, List.append_nil]
    have : ys.take (ys.length - 1) ++ [ys[ys.length - 1]] = ys := by
      have := List.take_add_one (l := ys) (i := ys.length - 1)
      rw [show ys.length - 1 + 1 = ys.length by omega, List.take_length, List.getElem?_eq_getElem (show ys.length - 1 < ys.length by omega)] at this
      exact this.symm
    show ys.take (ys.length - 1) ++ [ys[ys.length - 1]] ++ xs = ys ++ xs
    rw [this]
/-- what stands at the place of an exchange -/
theorem wd_pair {xs ys : List Int} {t : Nat} (ht : t < xs.length * ys.length) : ∃ (c k : Nat) (hc : c < xs.length) (hk : k < ys.length), (wd xs ys t)[idx xs.length t]? = some xs[c] ∧ (wd xs ys t)[idx xs.length t + 1]? = some ys[k] := by
  have n0 : 0 < xs.length := Nat.pos_of_ne_zero fun e => by rw [e, Nat.zero_mul] at ht; omega
  have ltm := Nat.mod_lt t n0
  have km : t / xs.length < ys.length := Nat.div_lt_of_lt_mul ht
  have hc : xs.length - 1 - t % xs.length < xs.length := by omega
  refine ⟨_, _, hc, km, ?_⟩
  have l1 : (ys.take (t / xs.length) ++ xs.take (xs.length - 1 - t % xs.length)).length = idx xs.length t := by
    rw [List.length_append, List.length_take, List.length_take]
    unfold idx
    omega
  have e : wd xs ys t = (ys.take (t / xs.length) ++ xs.take (xs.length - 1 - t % xs.length)) ++ ([xs[xs.length - 1 - t % xs.length], ys[t / xs.length]] ++ (xs.drop (xs.length - 1 - t % xs.length + 1) ++ ys.drop (t / xs.length + 1))) := by
    rw [wd_at ht, show xs.length - t % xs.length = (xs.length - 1 - t % xs.length) + 1 by omega]
    unfold wdW
    rw [List.take_add_one, List.getElem?_eq_getElem hc, List.getElem?_eq_getElem km]
    simp only [Option.toList_some, Option.getD_some, List.append_assoc, List.cons_append, List.nil_append]
  rw [e]
  constructor
  · rw [List.getElem?_append_right (by omega), l1, Nat.sub_self]
    rfl
  · rw [List.getElem?_append_right (by omega), l1, Nat.add_sub_cancel_left]
    rfl
def spTurns : Sp := fun vs H Q _ => ∃ (pl : Addr) (n m : Nat), vs = [.ref pl, .int (n : Int), .int (m : Int)] ∧ H pl = some (.lst ((pathL n m).map V.int)) ∧ n ≤ 24 ∧ m ≤ 24 ∧ ∀ H', Same H H' → Q (.bl true) H'
theorem ok_turns (Z : Zs mg) (D : Ds K mg) (c_swapped__l : CalX P w K mg base "swapped" 4 ["row", "index"] (spSwapped false)) : Cal P w K mg base "_law_path_turns" 5 ["path", "many", "more"] spTurns := by
  refine Def.cal D.d_law_path_turns sc_law_path_turns (fun vs H Q E h => ?_) (fun f cdv A outer s H vs Q E hr h => ?_)
  · obtain ⟨pl, n, m, rfl, hp, n24, m24, q⟩ := h
    rfl
  obtain ⟨pl, n, m, rfl, hp, n24, m24, q⟩ := h
  refine ⟨_, (pss_cons (ps_setLc (i := 3) (own := [("k", 5)]) (g := gName 5) (tt := tYes) (by rfl) sc_law_path_turns.nd rfl rfl (sw_true rfl rfl rfl (by decide +kernel)) (pi_range1 (by rfl) Z.z_range (pa_cons (pe_op op_add (pv 1) (pv 2)) pa_nil)) (blkOk_by (N := ["path", "many", "more", "row", "at", "k"]) (sc := defScope s_law_path_turns) (by decide +kernel)) (fun _ _ _ _ _ => pg_name (i := 5) sc_law_path_turns.nd rfl (Or.inl rfl)) (fun _ _ _ _ _ => pts_nil) (fun _ _ _ _ _ => (pv 5)))
      (pss_cons (ps_for PassesOwn.never rfl (pi_list (pv 0)) (pg_name (i := 4) sc_law_path_turns.nd rfl (Or.inl rfl)) (pss_cons (ps_if (PW.pt (pw_or (pt_cmp (pc_ge (pe_op op_add (pv 4) pe_int) (pe_callB call_len_seq (by rfl) Z.z_len (by decide +kernel) (pa_cons (pv 3) pa_nil))) (nomark _)) (pw_or (pt_cmp (pc_ge (pe_ix ix_list (pv 3) (pv 4) (fun _ _ => rfl)) (pv 1)) (nomark _)) (pw_or1 (pt_cmp (pc_lt (pe_ix ix_list (pv 3) (pe_op op_add (pv 4) pe_int) (fun _ _ => rfl)) (pv 1)) (nomark _)))))) (pss_one (ps_ret pe_bl)) pss_nil)
      (pss_one (ps_if (pt_cmp (pc_le (pe_op op_add (pv 1) (pv 2)) pe_int) (nomark _)) (pss_one (ps_set (i := 3) sc_law_path_turns.nd rfl (Or.inl rfl) (pe_callTy call_listN (by rfl) Z.z_list (by decide +kernel) (pa_cons (pe_calQ c_swapped__l (hr.mono (by first | decide | omega)) (by rfl) (pa_cons (pv 3) (pa_cons (pv 4) pa_nil))) pa_nil)))) (pss_one (ps_set (i := 3) sc_law_path_turns.nd rfl (Or.inl rfl) (pe_op op_catN (pe_op op_catN (pe_slice sl_listN (pv 3) po_none (po_some (pv 4))) (pe_lstN (pa_cons (pe_ix ix_list (pv 3) (pe_op op_add (pv 4) pe_int) (fun _ _ => rfl)) (pa_cons (pe_ix ix_list (pv 3) (pv 4) (fun _ _ => rfl)) pa_nil)))) (pe_slice sl_listN (pv 3) (po_some (pe_op op_add (pv 4) pe_int)) po_none))))))))
      (pss_one (ps_ret (pe_cmpR (op_eqLI hr.units) (pv 3) (pe_op op_catN (pe_listRgN rfl (by rfl) Z.z_list (prg_2 (by rfl) Z.z_range (pv 1) (pe_op op_add (pv 1) (pv 2)))) (pe_listRgN rfl (by rfl) Z.z_list (prg_1 (by rfl) Z.z_range (pv 1)))) (nomark _)))))), ?_⟩
  refine ⟨_, rfl, _, rfl, _, _, rfl, rfl, (n : Int) + (m : Int), rfl, by omega, by omega, fun l hl => ?_⟩
  refine lc_range (lo := 0) (n := ((n : Int) + (m : Int)).toNat) (fun i H' => Same H H' ∧ H' l = some (.lst (((List.range i).map fun i : Nat => (i : Int)).map V.int))) ?_ ?_ ?_
  · exact ⟨(⟨hl, rfl⟩ : New H l (.lst []) _).same, upd_same⟩
  · rintro i H1 hi ⟨s1, h1⟩
    refine ⟨rfl, yesT ⟨_, rfl, _, h1, ?_, same_mut s1 hl rfl, ?_⟩⟩
    · rw [List.length_map, List.length_map, List.length_range]
      exact lt (by omega)
    · rw [upd_same, List.range_succ, List.map_append, List.map_append, Int.zero_add]
      rfl
  rintro H1 ⟨s1, h1⟩
  rw [show ((n : Int) + (m : Int)).toNat = n + m by omega, ← low_high] at h1
  have ln := low_len n
  have lm := high_len n m
  have w0 : lowL n ++ highL n m = wd (lowL n) (highL n m) 0 := rfl
  rw [w0] at h1
  refine ⟨_, rfl, pl, rfl, ⟨_, .of (s1 _ _ hp)⟩, for_list (K := K) (a := pl) (xs := (pathL n m).map V.int) (fun i σ' H' => ∃ (y4 : Option V) (r : Addr), σ' = [some (.ref pl), some (.int (n : Int)), some (.int (m : Int)), some (.ref r), y4, none] ∧ Same H H' ∧ H' r = some (.lst ((wd (lowL n) (highL n m) i).map V.int))) ⟨_, _, rfl, s1, h1⟩ ?_ ?_ ?_⟩
  · rintro i σ' H' - ⟨y4, r, rfl, s', -⟩
    exact .of (s' _ _ hp)
  · rintro i y σ' H2 hy ⟨y4, r, rfl, s2, h2⟩
    have it : i < n * m := by
      have := (List.getElem?_eq_some_iff.mp hy).1
      rwa [List.length_map, path_len] at this
    rw [List.getElem?_map, path_idx it] at hy
    obtain rfl := (Option.some.inj hy).symm
    have it' : i < (lowL n).length * (highL n m).length := by rw [ln, lm]; exact it
    obtain ⟨c, k, hc, hk, p0, p1⟩ := wd_pair it'
    rw [ln] at p0 p1
    have vc : (lowL n)[c] = (c : Int) := by simp [lowL]
    have vk : (highL n m)[k] = (n : Int) + (k : Int) := by simp [highL]
    have hc' : c < n := by rw [← ln]; exact hc
    have hl2 := wd_len (Nat.le_of_lt it')
    rw [ln, lm] at hl2
    have ilt := idx_lt it
    have a0 : atI ((wd (lowL n) (highL n m) i).map V.int) ((idx n i : Nat) : Int) = some (.int (c : Int)) := atI_nat (by rw [List.getElem?_map, p0, vc]; rfl)
    have a1 : atI ((wd (lowL n) (highL n m) i).map V.int) (((idx n i : Nat) : Int) + 1) = some (.int ((n : Int) + (k : Int))) := by
      have := atI_nat (xs := (wd (lowL n) (highL n m) i).map V.int) (j := idx n i + 1) (v := .int ((n : Int) + (k : Int))) (by rw [List.getElem?_map, p1, vk]; rfl)
      exact this
    have next : wd (lowL n) (highL n m) (i + 1) = exch (idx n i) (wd (lowL n) (highL n m) i) := by
      have := wd_step it'
      rwa [ln] at this
    have gt : ∀ {a b : Int}, a < b → ¬ (b ≤ a) := fun h => by omega
    refine ⟨_, rfl, _, _, rfl, rfl, _, rfl, r, _, rfl, .inl (.of h2), _, _, rfl, rfl, _, rfl, ite2 (fun c => absurd (dec_of c) (by rw [List.length_map, hl2]; show ¬ (((n + m : Nat) : Int) ≤ ((idx n i : Nat) : Int) + 1); omega)) (fun _ => ?_)⟩
    refine ⟨_, rfl, _, rfl, r, _, _, _, rfl, rfl, .of h2, a0, _, rfl, _, _, rfl, rfl, _, rfl, ite2 (fun z => absurd (dec_of z) (show ¬ ((n : Int) ≤ (c : Int)) by omega)) (fun _ => ?_)⟩
    refine ⟨_, rfl, _, rfl, _, _, rfl, rfl, r, _, _, _, rfl, rfl, .of h2, a1, _, rfl, _, _, rfl, rfl, _, rfl, ite2 (fun c => absurd (dec_of c) (show ¬ ((n : Int) + (k : Int) < (n : Int)) by omega)) (fun _ => ?_)⟩
    refine ⟨_, rfl, _, rfl, _, _, rfl, rfl, _, _, rfl, rfl, _, rfl, ite2 (fun z => ?_) (fun _ => ?_)⟩
    · have z : (n : Int) + (m : Int) ≤ 24 := dec_of z
      refine ⟨_, rfl, _, rfl, r, idx n i, _, rfl, h2, by rw [hl2]; exact ilt, by rw [hl2]; omega, fun p H3 s3 h3 => ⟨p, _, rfl, .inr (.of h3), fun l3 H4 n4 => ⟨_, l3, rfl, (s2.trans s3).trans n4.same, ?_⟩⟩⟩
      rw [next]
      exact n4.at
    · refine ⟨_, rfl, _, rfl, _, rfl, r, _, rfl, .of h2, fun p3 H3 n3 => ?_⟩
      rw [cut_upto, ← List.map_take] at n3
      have h3 := n3.else h2
      refine ⟨_, rfl, _, rfl, _, _, rfl, rfl, r, _, _, _, rfl, rfl, .of h3, a1, _, rfl, _, rfl, r, _, _, _, rfl, rfl, .of h3, a0, by show 2 ≤ sizeLine; decide, fun p4 H4 n4 => ?_⟩
      have bg : ∀ {k : Nat}, k ≤ 1000 → k ≤ sizeLine := fun h => Nat.le_trans h (by decide)
      refine ⟨p3, p4, _, _, rfl, rfl, n4.else n3.at, n4.at, bg (by rw [List.length_map, List.length_take]; show _ + 2 ≤ 1000; omega), fun p5 H5 n5 => ?_⟩
      have h5 := n5.else (n4.else h3)
      refine ⟨_, rfl, _, rfl, _, _, rfl, rfl, _, rfl, r, _, rfl, .of h5, fun p6 H6 n6 => ?_⟩
      rw [show (((idx n i : Nat) : Int) + 2) = ((idx n i + 2 : Nat) : Int) from rfl, cut_fr, ← List.map_drop] at n6
      refine ⟨p5, p6, _, _, rfl, rfl, n6.else n5.at, n6.at, bg (by rw [List.length_append, List.length_map, List.length_map, List.length_take, List.length_drop, hl2]; show _ + 2 + _ ≤ 1000; omega), fun p7 H7 n7 => ⟨_, p7, rfl, ((((s2.trans n3.same).trans n4.same).trans n5.same).trans n6.same).trans n7.same, ?_⟩⟩
      rw [n7.at, next, exch_map (u := (n : Int) + (k : Int)) (v := (c : Int)) (by rw [p1, vk]; rfl) (by rw [p0, vc]; rfl)]
  rintro σ' H2 ⟨y4, r, rfl, s2, h2⟩
  have e : (pathL n m).map V.int = (pathL n m).map V.int := rfl
  rw [List.length_map, path_len] at h2
  have we : wd (lowL n) (highL n m) (n * m) = highL n m ++ lowL n := by
    have := wd_end (xs := lowL n) (ys := highL n m)
    rwa [ln, lm] at this
  rw [we] at h2
  refine ⟨_, rfl, _, rfl, _, rfl, _, rfl, _, _, rfl, rfl, _, _, rfl, rfl, .of_le (by omega) (by omega) (by omega) (by omega), fun q1 H3 n3 => ?_⟩
  refine ⟨_, rfl, n, rfl, .of_le (by decide) (by omega) (by decide) (by omega), fun q2 H4 n4 => ?_⟩
  have e1 : rgV (n : Int) ((n : Int) + (m : Int)) = (highL n m).map V.int := by
    unfold rgV highL
    rw [List.map_map, show ((n : Int) + (m : Int) - (n : Int)).toNat = m by omega]
    rfl
  have e2 : rgV 0 (n : Int) = (lowL n).map V.int := by
    unfold rgV lowL
    rw [List.map_map, show ((n : Int) - 0).toNat = n by omega]
    refine List.map_congr_left fun i _ => ?_
    show V.int (0 + (i : Int)) = V.int (i : Int)
    rw [Int.zero_add]
  rw [e1] at n3
  rw [e2] at n4
  refine ⟨q1, q2, _, _, rfl, rfl, n4.else n3.at, n4.at, Nat.le_trans (show _ ≤ 100 by rw [List.length_map, List.length_map, ln, lm]; omega) (by decide), fun q3 H5 n5 => ?_⟩
  rw [← List.map_append] at n5
  refine ⟨r, q3, _, _, rfl, rfl, .of (n5.else (n4.else (n3.else h2))), .of n5.at, ?_⟩
  rw [decide_eq_true rfl]
  exact q H5 (((s2.trans n3.same).trans n4.same).trans n5.same)


theorem lv_ints (k : Nat) (ns : List Int) : lv (k + 2) (.list (ns.map PyData.int)) = true := by
  cases ns with
  | nil => rfl
  | cons n ns =>
    show ((n :: ns).map PyData.int).all (lv (k + 1)) = true
    rw [List.all_eq_true]
    intro d hd
    obtain ⟨i, -, rfl⟩ := List.mem_map.mp hd
    rfl
theorem lv_row (k : Nat) (ns : List Int) : lv (k + 2) (rowD ns) = true := by
  cases ns with
  | nil => rfl
  | cons n ns =>
    show ((n :: ns).map PyData.int).all (lv (k + 1)) = true
    rw [List.all_eq_true]
    intro d hd
    obtain ⟨i, -, rfl⟩ := List.mem_map.mp hd
    rfl
theorem lv_rows (k : Nat) (L : List (List Int)) : lv (k + 3) (.list (L.map rowD)) = true := by
  cases L with
  | nil => rfl
  | cons l L =>
    show ((l :: L).map rowD).all (lv (k + 2)) = true
    rw [List.all_eq_true]
    intro d hd
    obtain ⟨i, -, rfl⟩ := List.mem_map.mp hd
    exact lv_row k i
theorem agree_ok {H : Hp} {Q : VK} {E : XK} {v w : V} {d : PyData} (hv : Da H v d) (hw : Da H w d) (sz : szD d ≤ 100000) (l : lv 4 d = true) (q : ∀ H', Same H H' → Q (.bl true) H') : spAgree 4 [v, w] H Q E :=
  ⟨v, w, d, rfl, hv, hw, by show szD d + 0 ≤ _; omega, l, q⟩
theorem sz_path {n m : Nat} (n24 : n ≤ 24) (m24 : m ≤ 24) : szD (.list ((pathL n m).map PyData.int)) ≤ 100000 := by
  have h : szD (.list ((pathL n m).map PyData.int)) = 1 + (pathL n m).length := sz_ints (pathL n m)
  rw [h, path_len]
  have : n * m ≤ 576 := Nat.le_trans (Nat.mul_le_mul n24 m24) (by decide)
  omega
def spHolds : Sp := fun vs H Q _ => ∃ n m : Nat, vs = [.int (n : Int), .int (m : Int)] ∧ n ≤ 24 ∧ m ≤ 24 ∧ ∀ H', Same H H' → Q (.bl true) H'
theorem ok_holds {DB : Addr} (Z : Zs mg) (D : Ds K mg) (c__law_path : Cal P w K mg base "_law_path" 1 ["first", "second"] spLawPath) (c_swap_path : CalX P w K mg base "swap_path" 4 ["first", "second"] (spSwapPath DB)) (c__law_agree : Cal P w K mg base "_law_agree" 5 ["actual", "due"] (spAgree 4)) (c__law_path_turns : Cal P w K mg base "_law_path_turns" 5 ["path", "many", "more"] spTurns) (c_swap_path_k : CalK P w K mg base "swap_path" 4 ["first", "second"] (spSwapPath DB)) : Cal P w K mg base "_law_path_holds" 6 ["many", "more"] spHolds := by
  refine Def.cal D.d_law_path_holds sc_law_path_holds (fun vs H Q E h => ?_) (fun f cdv A outer s H vs Q E hr h => ?_)
  · obtain ⟨n, m, rfl, n24, m24, q⟩ := h
    rfl
  obtain ⟨n, m, rfl, n24, m24, q⟩ := h
  refine ⟨_, (pss_cons (ps_set (i := 2) sc_law_path_holds.nd rfl (Or.inl rfl) (pe_cal c__law_path (hr.mono (by first | decide | omega)) (by rfl) (pa_cons (pv 0) (pa_cons (pv 1) pa_nil))))
      (pss_cons (ps_set (i := 3) sc_law_path_holds.nd rfl (Or.inl rfl) (pe_calQ c_swap_path (hr.mono (by first | decide | omega)) (by rfl) (pa_cons (pv 0) (pa_cons (pv 1) pa_nil))))
      (pss_cons (ps_if (PW.pt (pw_or (pt_not (pt_val (pe_cal c__law_agree (hr.mono (by first | decide | omega)) (by rfl) (pa_cons (pv 3) (pa_cons (pv 2) pa_nil))))) (pw_or1 (pt_not (pt_val (pe_cal c__law_path_turns (hr.mono (by first | decide | omega)) (by rfl) (pa_cons (pv 2) (pa_cons (pv 0) (pa_cons (pv 1) pa_nil))))))))) (pss_one (ps_ret pe_bl)) pss_nil)
      (pss_cons (ps_expr (pe_bm PySem.F.plainAttrs_list PySem.F.slot_list_append PySem.F.type_list_append mt_appendN (pv 3) (pa_cons pe_int pa_nil)))
      (pss_cons (ps_expr (pe_bm0 PySem.F.plainAttrs_list PySem.F.slot_list_reverse PySem.F.type_list_reverse mt_reverse (pv 3)))
      (pss_one (ps_ret (pe_cal c__law_agree (hr.mono (by first | decide | omega)) (by rfl) (pa_cons (pe_calK0 c_swap_path_k (hr.mono (by first | decide | omega)) (by rfl) (pk_cons (pv 0) (pk_cons (pv 1) pk_nil))) (pa_cons (pv 2) pa_nil)))))))))), ?_⟩
  have lvp : lv 4 (.list ((pathL n m).map PyData.int)) = true := lv_ints 2 _
  have szp := sz_path n24 m24
  have swp : ∀ {H1 : Hp} {R : VK}, (∀ (l : Addr) (H' : Hp), Same H1 H' → H1 l = none → H' l = some (.lst ((pathL n m).map V.int)) → R (.ref l) H') → spSwapPath DB [.int (n : Int), .int (m : Int)] H1 R E0 := fun {H1 R} k =>
    ⟨_, _, _, _, rfl, .int _, .int _, (fun e => by rw [isNum24 n24] at e; cases e), (fun _ e => by rw [isNum24 m24] at e; cases e), fun n' m' e1 e2 _ _ l H' s f h => by
      injection e1 with e1
      injection e2 with e2
      obtain rfl : n = n' := by omega
      obtain rfl : m = m' := by omega
      exact k l H' s f h⟩
  refine ⟨_, rfl, _, rfl, n, m, rfl, n24, m24, fun l1 H1 s1 f1 h1 => ?_⟩
  refine ⟨_, rfl, _, rfl, ?_⟩
  dsimp only [tNil]
  refine swp fun l2 H2 s2 f2 h2 => ?_
  have ne : l1 ≠ l2 := fun e => by rw [← e, h1] at f2; cases f2
  have h1 := s2 _ _ h1
  have S2 := s1.trans s2
  refine ⟨_, rfl, _, rfl, ?_⟩
  dsimp only [tNil]
  refine agree_ok (.lst h2 (DaAll.ints _)) (.lst h1 (DaAll.ints _)) szp lvp fun H3 s3 => ⟨_, rfl, iteBF rfl ?_⟩
  have h1 := s3 _ _ h1
  have h2 := s3 _ _ h2
  have S3 := S2.trans s3
  refine ⟨_, rfl, _, rfl, _, rfl, l1, n, m, rfl, h1, n24, m24, fun H4 s4 => ⟨_, rfl, iteBF rfl ?_⟩⟩
  have h1 := s4 _ _ h1
  have h2 := s4 _ _ h2
  have S4 := S3.trans s4
  have fl2 : H l2 = none := s1.free f2
  refine ⟨_, rfl, .inl ⟨rfl, _, .of h2⟩, l2, _, _, rfl, rfl, h2, ?_, fun H5 e5 => ?_⟩
  · rw [List.length_map, path_len]
    have : n * m ≤ 576 := Nat.le_trans (Nat.mul_le_mul n24 m24) (by decide)
    exact lt (by omega)
  subst e5
  have up1 : ∀ {Hx : Hp} {o p : HO}, Hx l1 = some o → (upd Hx l2 p) l1 = some o := fun h => (upd_ne ne).trans h
  have sm : ∀ {Hx : Hp} {p : HO}, Same H Hx → Same H (upd Hx l2 p) := fun h => same_mut h fl2 rfl
  have h1 := up1 (p := .lst ((pathL n m).map V.int ++ [V.int 7])) h1
  have S5 := sm (p := .lst ((pathL n m).map V.int ++ [V.int 7])) S4
  refine ⟨_, rfl, .inl ⟨rfl, _, .of upd_same⟩, l2, _, rfl, rfl, upd_same, ?_⟩
  have h1 := up1 (p := .lst ((pathL n m).map V.int ++ [V.int 7]).reverse) h1
  have S6 := sm (p := .lst ((pathL n m).map V.int ++ [V.int 7]).reverse) S5
  refine ⟨_, rfl, _, rfl, rfl, rfl, ?_⟩
  refine swp fun l3 H7 s7 f7 h7 => ⟨_, rfl, ?_⟩
  dsimp only [tNil]
  exact agree_ok (.lst h7 (DaAll.ints _)) (.lst (s7 _ _ h1) (DaAll.ints _)) szp lvp fun H8 s8 => q H8 ((S6.trans s7).trans s8)


theorem seq_if {K : PySem.W.Frag} {H : Hp} {a : Addr} {t : Bool} {xs : List V} (h : H a = some (if t then HO.tup xs else HO.lst xs)) : SqL K H a xs ∨ SqT K H a xs := by
  cases t with
  | true => exact .inr (.of h)
  | false => exact .inl (.of h)
theorem words_len {xs ys : List Int} : (wordsL xs ys).length = xs.length * ys.length + 1 := by
  unfold wordsL
  rw [List.length_map, List.length_range]
theorem words_at {xs ys : List Int} {t : Nat} (h : t ≤ xs.length * ys.length) : (wordsL xs ys)[t]? = some (wd xs ys t) := by
  unfold wordsL
  rw [List.getElem?_map, List.getElem?_range (by omega)]
  rfl
theorem szL_rows {L : List (List Int)} {z : Nat} (h : ∀ w ∈ L, w.length ≤ z) : szL (L.map rowD) ≤ (z + 1) * L.length := by
  induction L with
  | nil => exact Nat.zero_le _
  | cons w L ih =>
    have h1 := ih fun u hu => h u (List.mem_cons_of_mem w hu)
    have h2 := h w List.mem_cons_self
    have h3 : szD (rowD w) = 1 + w.length := sz_ints w
    show szD (rowD w) + szL (L.map rowD) ≤ (z + 1) * (L.length + 1)
    rw [Nat.mul_succ]
    omega
theorem sz_words {xs ys : List Int} (n12 : xs.length ≤ 12) (m12 : ys.length ≤ 12) : szD (.list ((wordsL xs ys).map rowD)) ≤ 100000 := by
  have h := szL_rows (L := wordsL xs ys) (z := 24) fun w hw => by
    obtain ⟨t, ht, rfl⟩ := List.mem_map.mp hw
    have := List.mem_range.mp ht
    rw [wd_len (by omega)]
    omega
  rw [words_len] at h
  have : xs.length * ys.length ≤ 144 := Nat.le_trans (Nat.mul_le_mul n12 m12) (by decide)
  show 1 + szL ((wordsL xs ys).map rowD) ≤ _
  omega
theorem sz_row12 {xs : List Int} (n : xs.length ≤ 30) : szD (.list (xs.map PyData.int)) ≤ 100000 := by
  have h : szD (.list (xs.map PyData.int)) = 1 + xs.length := sz_ints xs
  omega
def spWordsHold : Sp := fun vs H Q _ => ∃ (S : Sr) (G : Hp) (a b : Addr) (xs ys : List Int), vs = [.ref S.a, .ref a, .ref b] ∧ Wd S G H ∧ G a = some (.lst (xs.map V.int)) ∧ G b = some (.lst (ys.map V.int)) ∧ xs.length ≤ 12 ∧ ys.length ≤ 12 ∧ ∀ G' H', Go S G H G' H' → Q (.bl true) H'
theorem ok_words_hold {DB DT : Addr} (Z : Zs mg) (D : Ds K mg) (c__law_words : Cal P w K mg base "_law_words" 1 ["first", "second"] spLawWords) (c__law_either : Cal P w K mg base "_law_either" 3 ["store", "entries"] spEither) (c_path_words : CalX P w K mg base "path_words" 5 ["first", "second"] (spPathWords DT)) (c__law_agree : Cal P w K mg base "_law_agree" 5 ["actual", "due"] (spAgree 4)) (c_swap_path : CalX P w K mg base "swap_path" 4 ["first", "second"] (spSwapPath DB)) (c_swapped : CalX P w K mg base "swapped" 4 ["row", "index"] (spSwapped true)) : Cal P w K mg base "_law_words_hold" 6 ["store", "first", "second"] spWordsHold := by
  refine Def.cal D.d_law_words_hold sc_law_words_hold (fun vs H Q E h => ?_) (fun f cdv A outer s H vs Q E hr h => ?_)
  · obtain ⟨S, G, a, b, xs, ys, rfl, wd0, ka, kb, n12, m12, q⟩ := h
    rfl
  obtain ⟨S, G, a, b, xs, ys, rfl, wd0, ka, kb, n12, m12, q⟩ := h
  refine ⟨_, (pss_cons (ps_set (i := 3) sc_law_words_hold.nd rfl (Or.inl rfl) (pe_cal c__law_words (hr.mono (by first | decide | omega)) (by rfl) (pa_cons (pv 1) (pa_cons (pv 2) pa_nil))))
      (pss_cons (ps_set (i := 4) sc_law_words_hold.nd rfl (Or.inl rfl) (pe_cal c__law_either (hr.mono (by first | decide | omega)) (by rfl) (pa_cons (pv 0) (pa_cons (pv 1) pa_nil))))
      (pss_cons (ps_set (i := 5) sc_law_words_hold.nd rfl (Or.inl rfl) (pe_cal c__law_either (hr.mono (by first | decide | omega)) (by rfl) (pa_cons (pv 0) (pa_cons (pv 2) pa_nil))))
      (pss_cons (ps_set (i := 6) sc_law_words_hold.nd rfl (Or.inl rfl) (pe_calQ c_path_words (hr.mono (by first | decide | omega)) (by rfl) (pa_cons (pv 4) (pa_cons (pv 5) pa_nil))))
      (pss_cons (ps_if (PW.pt (pw_or (pt_not (pt_val (pe_cal c__law_agree (hr.mono (by first | decide | omega)) (by rfl) (pa_cons (pv 6) (pa_cons (pv 3) pa_nil))))) (pw_or1 (pt_cmp (pc_neI (pe_callB call_len_seq (by rfl) Z.z_len (by decide +kernel) (pa_cons (pv 3) pa_nil)) (pe_op op_add (pe_op op_mul (pe_callB call_len_seq (by rfl) Z.z_len (by decide +kernel) (pa_cons (pv 1) pa_nil)) (pe_callB call_len_seq (by rfl) Z.z_len (by decide +kernel) (pa_cons (pv 2) pa_nil))) pe_int)) (nomark _))))) (pss_one (ps_ret pe_bl)) pss_nil)
      (pss_cons (ps_if (PW.pt (pw_or (pt_not (pt_val (pe_cal c__law_agree (hr.mono (by first | decide | omega)) (by rfl) (pa_cons (pe_callTy call_listN (by rfl) Z.z_list (by decide +kernel) (pa_cons (pv 4) pa_nil)) (pa_cons (pv 1) pa_nil))))) (pw_or1 (pt_not (pt_val (pe_cal c__law_agree (hr.mono (by first | decide | omega)) (by rfl) (pa_cons (pe_callTy call_listN (by rfl) Z.z_list (by decide +kernel) (pa_cons (pv 5) pa_nil)) (pa_cons (pv 2) pa_nil)))))))) (pss_one (ps_ret pe_bl)) pss_nil)
      (pss_cons (ps_expr (pe_bm PySem.F.plainAttrs_list PySem.F.slot_list_append PySem.F.type_list_append mt_appendN (pv 6) (pa_cons (pe_tupN pa_nil) pa_nil)))
      (pss_cons (ps_set (i := 7) sc_law_words_hold.nd rfl (Or.inl rfl) (pe_calQ c_path_words (hr.mono (by first | decide | omega)) (by rfl) (pa_cons (pv 4) (pa_cons (pv 5) pa_nil))))
      (pss_cons (ps_set (i := 8) sc_law_words_hold.nd rfl (Or.inl rfl) (pe_calQ c_swap_path (hr.mono (by first | decide | omega)) (by rfl) (pa_cons (pe_callB call_len_seq (by rfl) Z.z_len (by decide +kernel) (pa_cons (pv 1) pa_nil)) (pa_cons (pe_callB call_len_seq (by rfl) Z.z_len (by decide +kernel) (pa_cons (pv 2) pa_nil)) pa_nil))))
      (pss_cons (ps_for PassesOwn.never rfl (pi_range1 (by rfl) Z.z_range (pa_cons (pe_callB call_len_seq (by rfl) Z.z_len (by decide +kernel) (pa_cons (pv 8) pa_nil)) pa_nil)) (pg_name (i := 9) sc_law_words_hold.nd rfl (Or.inl rfl)) (pss_one (ps_if (pt_not (pt_val (pe_cal c__law_agree (hr.mono (by first | decide | omega)) (by rfl) (pa_cons (pe_calQ c_swapped (hr.mono (by first | decide | omega)) (by rfl) (pa_cons (pe_ix ix_list (pv 7) (pv 9) (fun _ _ => rfl)) (pa_cons (pe_ix ix_list (pv 8) (pv 9) (fun _ _ => rfl)) pa_nil))) (pa_cons (pe_ix ix_list (pv 3) (pe_op op_add (pv 9) pe_int) (fun _ _ => rfl)) pa_nil))))) (pss_one (ps_ret pe_bl)) pss_nil)))
      (pss_one (ps_ret (pe_cal c__law_agree (hr.mono (by first | decide | omega)) (by rfl) (pa_cons (pv 7) (pa_cons (pv 3) pa_nil))))))))))))))), ?_⟩
  have big : xs.length * ys.length ≤ 144 := Nat.le_trans (Nat.mul_le_mul n12 m12) (by decide)
  have lx : (xs.map V.int).length = xs.length := List.length_map ..
  have ly : (ys.map V.int).length = ys.length := List.length_map ..
  refine ⟨_, rfl, _, rfl, a, b, xs, ys, rfl, wd0.gh _ _ ka, wd0.gh _ _ kb, n12, m12, fun l1 ws H1 s1 f1 h1 t1 => ?_⟩
  have S1 := (Go.refl wd0).pure s1
  have F1 := S1.q (Stq.refl S1.gh).full
  obtain ⟨G1, R1, g1, k1, -⟩ := F1.frz (full_else h1 rfl (wd0.gh.free f1)) f1 h1
  have d1 : DaAll G1 ws ((wordsL xs ys).map rowD) := (rows_full S1.gh t1.da).up g1
  have ka := R1.gg _ _ ka
  have kb := R1.gg _ _ kb
  clear S1 F1 t1 h1 g1
  refine ⟨_, rfl, _, rfl, S, G1, a, _, rfl, R1.wd, R1.wd.ne ka, R1.gh _ _ ka, fun p1 b1 H2 s2 gp1 fp1 hp1 => ?_⟩
  have R2 := R1.trans s2
  refine ⟨_, rfl, _, rfl, S, G1, b, _, rfl, R2.wd, R2.wd.ne kb, R2.gh _ _ kb, fun p2 b2 H3 s3 gp2 fp2 hp2 => ?_⟩
  have hp1 := s3.hh hp1 (R2.ns (R1.fresh fp1))
  have R3 := R2.trans s3
  clear R1 R2 s2 s3
  have ke : ∀ {Hx : Hp}, Same H3 Hx → Same G1 Hx := fun s => R3.gh.trans s
  have lvw : lv 4 (.list ((wordsL xs ys).map rowD)) = true := lv_rows 1 _
  have szw := sz_words n12 m12
  have pw : ∀ {Hx : Hp} {R : VK}, Same H3 Hx → (∀ (l : Addr) (w : List V) (H' : Hp), Same Hx H' → Hx l = none → H' l = some (.lst w) → TupsAt H' w (wordsL xs ys) → R (.ref l) H') → spPathWords DT [.ref p1, .ref p2] Hx R E0 := fun {Hx R} s k =>
    ⟨p1, p2, xs, ys, rfl, (hasL_if hp1).up s, (hasL_if hp2).up s, fun c => absurd c (by omega), fun _ c => absurd c (by omega), fun _ _ l w H' s' f h t => k l w H' s' f h t⟩
  refine ⟨_, rfl, _, rfl, ?_⟩
  dsimp only [tNil]
  refine pw (Same.refl _) fun l2 w2 H4 s4 f4 h4 t4 => ?_
  refine ⟨_, rfl, _, rfl, ?_⟩
  dsimp only [tNil]
  refine agree_ok (.lst h4 t4.da) (.lst (ke s4 _ _ k1) (d1.up (ke s4))) szw lvw fun H5 s5 => ⟨_, rfl, iteBF rfl ?_⟩
  have S5 := s4.trans s5
  have h4 := s5 _ _ h4
  have lw := d1.length
  rw [List.length_map, words_len] at lw
  refine ⟨_, rfl, l1, _, rfl, .inl (.of (ke S5 _ _ k1)), _, rfl, a, _, rfl, .inl (.of (ke S5 _ _ ka)), _, rfl, b, _, rfl, .inl (.of (ke S5 _ _ kb)), _, _, rfl, rfl, .inl ⟨by omega, by omega⟩, _, _, rfl, rfl, _, _, rfl, rfl, _, rfl, ?_⟩
  have el : ((ws.length : Nat) : Int) = (((xs.map V.int).length : Nat) : Int) * (((ys.map V.int).length : Nat) : Int) + 1 := by
    rw [lx, ly, ← Int.natCast_mul]
    omega
  refine iteBF (by show (!decide (_ = _)) = false; rw [decide_eq_true el]; rfl) ?_
  have lvi : ∀ ns : List Int, lv 4 (.list (ns.map PyData.int)) = true := fun ns => lv_ints 2 ns
  refine ⟨_, rfl, p1, _, rfl, seq_if (S5 _ _ hp1), fun q1 H6 n6 => ⟨_, rfl, ?_⟩⟩
  dsimp only [tNil]
  have S6 := S5.trans n6.same
  refine agree_ok (.lst n6.at (DaAll.ints _)) (.lst (ke S6 _ _ ka) (DaAll.ints _)) (sz_row12 (by omega)) (lvi _) fun H7 s7 => ⟨_, rfl, iteBF rfl ?_⟩
  have S7 := S6.trans s7
  refine ⟨_, rfl, p2, _, rfl, seq_if (S7 _ _ hp2), fun q2 H8 n8 => ⟨_, rfl, ?_⟩⟩
  dsimp only [tNil]
  have S8 := S7.trans n8.same
  refine agree_ok (.lst n8.at (DaAll.ints _)) (.lst (ke S8 _ _ kb) (DaAll.ints _)) (sz_row12 (by omega)) (lvi _) fun H9 s9 => ⟨_, rfl, iteBF rfl ?_⟩
  have S9 := S8.trans s9
  have h4 := s9 _ _ (n8.else (s7 _ _ (n6.else h4)))
  refine ⟨_, rfl, .inl ⟨rfl, _, .of h4⟩, by show 0 ≤ sizeLine; decide, fun e1 HA nA => ?_⟩
  have lw2 := t4.1
  rw [words_len] at lw2
  refine ⟨l2, _, _, rfl, rfl, nA.else h4, lt (by omega), fun HB eB => ?_⟩
  have SB : Same H3 HB := same_mut (S9.trans nA.same) f4 eB
  clear S5 S6 S7 S8 S9 s7 s9 n6 n8 nA h4 s5
  refine ⟨_, rfl, _, rfl, ?_⟩
  dsimp only [tNil]
  refine pw SB fun l3 w3 HC sC fC hC tC_ => ?_
  have SC := SB.trans sC
  refine ⟨_, rfl, a, _, rfl, .inl (.of (ke SC _ _ ka)), _, rfl, b, _, rfl, .inl (.of (ke SC _ _ kb)), ?_⟩
  refine ⟨_, _, _, _, rfl, .int _, .int _, (fun e => by rw [isNum24 (by omega)] at e; cases e), (fun _ e => by rw [isNum24 (by omega)] at e; cases e), fun n' m' e1 e2 _ _ pl HD sD fD hD => ?_⟩
  obtain rfl : n' = xs.length := by
    injection e1 with e1
    omega
  obtain rfl : m' = ys.length := by
    injection e2 with e2
    omega
  have SD := SC.trans sD
  have hC := sD _ _ hC
  have tD := tC_.up sD
  have lw3 := tD.1
  rw [words_len] at lw3
  have lp : ((pathL xs.length ys.length).map V.int).length = xs.length * ys.length := by rw [List.length_map, path_len]
  refine ⟨_, rfl, pl, _, rfl, .inl (.of hD), _, rfl, by omega, by omega, for_range (lo := 0) (n := (((((pathL xs.length ys.length).map V.int).length : Nat) : Int)).toNat) (fun i σ' H' => ∃ y9 : Option V, σ' = [some (.ref S.a), some (.ref a), some (.ref b), some (.ref l1), some (.ref p1), some (.ref p2), some (.ref l2), some (.ref l3), some (.ref pl), y9] ∧ Same HD H') ⟨_, rfl, Same.refl _⟩ ?_ ?_⟩
  · rintro i σ' HE hi ⟨y9, rfl, sE⟩
    have it : i < xs.length * ys.length := by omega
    obtain ⟨c, hc, kc⟩ := (tD.up sE).2 i _ (words_at (Nat.le_of_lt it))
    have ac : atI w3 (0 + (i : Int)) = some (.ref c) := by rw [Int.zero_add]; exact atI_nat hc
    have ap : atI ((pathL xs.length ys.length).map V.int) (0 + (i : Int)) = some (.int ((idx xs.length i : Nat) : Int)) := by
      rw [Int.zero_add]
      exact atI_nat (by rw [List.getElem?_map, path_idx it]; rfl)
    obtain ⟨v, hv⟩ : ∃ v, ws[i + 1]? = some v := ⟨_, List.getElem?_eq_getElem (by omega)⟩
    obtain ⟨d, hd, dd⟩ := d1.get hv
    rw [List.getElem?_map, words_at (show i + 1 ≤ xs.length * ys.length by omega)] at hd
    obtain rfl := Option.some.inj hd
    have av : atI ws (0 + (i : Int) + 1) = some v := by
      have := atI_nat hv
      rw [Int.zero_add]
      exact this
    have SE := SD.trans sE
    have wl := wd_len (xs := xs) (ys := ys) (Nat.le_of_lt it)
    refine ⟨_, rfl, _, rfl, l3, _, _, _, rfl, rfl, .of (sE _ _ hC), ac, _, rfl, _, rfl, pl, _, _, _, rfl, rfl, .of (sE _ _ hD), ap, ?_⟩
    refine ⟨c, idx xs.length i, wd xs ys i, rfl, kc, by rw [wl]; exact idx_lt it, by rw [wl]; omega, fun p HF sF hF => ?_⟩
    have SF := SE.trans sF
    refine ⟨_, rfl, _, rfl, _, _, rfl, rfl, l1, _, _, _, rfl, rfl, .of (ke SF _ _ k1), av, ?_⟩
    rw [← wd_step it] at hF
    have wl1 := wd_len (xs := xs) (ys := ys) (t := i + 1) it
    dsimp only [tNil]
    refine agree_ok (d := rowD (wd xs ys (i + 1))) (.tup hF (DaAll.ints _)) (dd.up (ke SF)) (by rw [show szD (rowD (wd xs ys (i + 1))) = 1 + (wd xs ys (i + 1)).length from sz_ints _, wl1]; omega) (lv_row 2 _) fun HG sG => ⟨_, rfl, iteBF rfl ⟨_, rfl, (sE.trans sF).trans sG⟩⟩
  rintro σ' HE ⟨y9, rfl, sE⟩
  refine ⟨_, rfl, _, rfl, ?_⟩
  dsimp only [tNil]
  have SE := SD.trans sE
  exact agree_ok (.lst (sE _ _ hC) (tD.up sE).da) (.lst (ke SE _ _ k1) (d1.up (ke SE))) szw lvw fun HF sF => q _ HF (R3.pure (SE.trans sF))


theorem ok_law {f : Addr} {fd : FuncData} (Z : Zs mg) (D : Ds K mg) (F : Fun K "law" "law" s_law f fd) (c__law_store : Cal P w K mg base "_law_store" 1 ["script"] (spStore K)) (c__law_take : Cal P w K mg base "_law_take" 2 ["store", "many"] spTake) (c__law_place : Cal P w K mg base "_law_place" 3 ["store", "size"] spPlace) (c__law_pick : Cal P w K mg base "_law_pick" 3 ["store", "things"] spPick) (c__law_either : Cal P w K mg base "_law_either" 3 ["store", "entries"] spEither) (c__law_path_holds : Cal P w K mg base "_law_path_holds" 6 ["many", "more"] spHolds) (c__law_big : Cal P w K mg base "_law_big" 4 ["store"] spBig) (c__law_words_hold : Cal P w K mg base "_law_words_hold" 6 ["store", "first", "second"] spWordsHold) (c__law_wrong_number : Cal P w K mg base "_law_wrong_number" 4 ["store", "low", "high"] spWrong24) (c__law_refuses : Cal P w K mg base "_law_refuses" 7 ["rows", "one", "two", "due"] spRefuses) : FnOk P w K mg base CX0 8 f fd ["script"] (spLaw K) := by
  refine F.ok sc_law (fun vs H Q E h => ?_) (fun cdv A outer s H vs Q E hr h => ?_)
  · obtain ⟨a, ns, rfl, _⟩ := h
    rfl
  obtain ⟨a, ns, rfl, hS, hn, q⟩ := h
  refine ⟨_, (pss_cons (ps_set (i := 1) sc_law.nd rfl (Or.inr rfl) (pe_cal c__law_store (hr.mono (by first | decide | omega)) (by rfl) (pa_cons (pv 0) pa_nil)))
      (pss_cons (ps_set (i := 2) sc_law.nd rfl (Or.inl rfl) (pe_cal c__law_place (hr.mono (by first | decide | omega)) (by rfl) (pa_cons (pv 1) (pa_cons pe_int pa_nil))))
      (pss_cons (ps_set (i := 3) sc_law.nd rfl (Or.inl rfl) (pe_cal c__law_place (hr.mono (by first | decide | omega)) (by rfl) (pa_cons (pv 1) (pa_cons pe_int pa_nil))))
      (pss_cons (ps_if (PW.pt (pw_or (pt_not (pt_val (pe_cal c__law_path_holds (hr.mono (by first | decide | omega)) (by rfl) (pa_cons (pv 2) (pa_cons (pv 3) pa_nil))))) (pw_or1 (pt_not (pt_val (pe_cal c__law_path_holds (hr.mono (by first | decide | omega)) (by rfl) (pa_cons (pv 3) (pa_cons (pv 2) pa_nil)))))))) (pss_one (ps_ret pe_bl)) pss_nil)
      (pss_cons (ps_setLc (i := 4) (own := [("k", 8)]) (g := gName 8) (tt := tYes) (by rfl) sc_law.nd rfl rfl (sw_true rfl rfl rfl (by decide +kernel)) (pi_range1 (by rfl) Z.z_range (pa_cons (pe_cal c__law_place (hr.mono (by first | decide | omega)) (by rfl) (pa_cons (pv 1) (pa_cons pe_int pa_nil))) pa_nil)) (blkOk_by (N := ["script", "store", "many", "more", "first", "second", "bad", "wide", "k"]) (sc := defScope s_law) (by decide +kernel)) (fun _ _ _ _ _ => pg_name (i := 8) sc_law.nd rfl (Or.inl rfl)) (fun _ _ _ _ _ => pts_nil) (fun _ _ _ _ _ => (pe_cal c__law_big (hr.mono (by first | decide | omega)) (by rfl) (pa_cons (pv 1) pa_nil))))
      (pss_cons (ps_setLc (i := 5) (own := [("k", 8)]) (g := gName 8) (tt := tYes) (by rfl) sc_law.nd rfl rfl (sw_true rfl rfl rfl (by decide +kernel)) (pi_range1 (by rfl) Z.z_range (pa_cons (pe_cal c__law_place (hr.mono (by first | decide | omega)) (by rfl) (pa_cons (pv 1) (pa_cons pe_int pa_nil))) pa_nil)) (blkOk_by (N := ["script", "store", "many", "more", "first", "second", "bad", "wide", "k"]) (sc := defScope s_law) (by decide +kernel)) (fun _ _ _ _ _ => pg_name (i := 8) sc_law.nd rfl (Or.inl rfl)) (fun _ _ _ _ _ => pts_nil) (fun _ _ _ _ _ => (pe_cal c__law_big (hr.mono (by first | decide | omega)) (by rfl) (pa_cons (pv 1) pa_nil))))
      (Evl.pss_cut (ps_if (pt_cmp (pc_eqI (pe_cal c__law_take (hr.mono (by first | decide | omega)) (by rfl) (pa_cons (pv 1) (pa_cons pe_int pa_nil))) pe_int) (nomark _)) (pss_cons (ps_setLc (i := 5) (own := [("k", 8)]) (g := gName 8) (tt := tYes) (by rfl) sc_law.nd rfl rfl (sw_true rfl rfl rfl (by decide +kernel)) (pi_range1 (by rfl) Z.z_range (pa_cons (pe_callB call_len_seq (by rfl) Z.z_len (by decide +kernel) (pa_cons (pv 5) pa_nil)) pa_nil)) (blkOk_by (N := ["script", "store", "many", "more", "first", "second", "bad", "wide", "k"]) (sc := defScope s_law) (by decide +kernel)) (fun _ _ _ _ _ => pg_name (i := 8) sc_law.nd rfl (Or.inl rfl)) (fun _ _ _ _ _ => pts_nil) (fun _ _ _ _ _ => (pe_cal c__law_take (hr.mono (by first | decide | omega)) (by rfl) (pa_cons (pv 1) (pa_cons pe_int pa_nil)))))
      (pss_one (ps_setLc (i := 4) (own := [("k", 8)]) (g := gName 8) (tt := tYes) (by rfl) sc_law.nd rfl rfl (sw_true rfl rfl rfl (by decide +kernel)) (pi_range1 (by rfl) Z.z_range (pa_cons (pe_callB call_len_seq (by rfl) Z.z_len (by decide +kernel) (pa_cons (pv 4) pa_nil)) pa_nil)) (blkOk_by (N := ["script", "store", "many", "more", "first", "second", "bad", "wide", "k"]) (sc := defScope s_law) (by decide +kernel)) (fun _ _ _ _ _ => pg_name (i := 8) sc_law.nd rfl (Or.inl rfl)) (fun _ _ _ _ _ => pts_nil) (fun _ _ _ _ _ => (pe_cal c__law_take (hr.mono (by first | decide | omega)) (by rfl) (pa_cons (pv 1) (pa_cons pe_int pa_nil))))))) pss_nil)
      (pss_cons (ps_if (PW.pt (pw_or (pt_not (pt_val (pe_cal c__law_words_hold (hr.mono (by first | decide | omega)) (by rfl) (pa_cons (pv 1) (pa_cons (pv 4) (pa_cons (pv 5) pa_nil)))))) (pw_or1 (pt_not (pt_val (pe_cal c__law_words_hold (hr.mono (by first | decide | omega)) (by rfl) (pa_cons (pv 1) (pa_cons (pv 5) (pa_cons (pv 4) pa_nil))))))))) (pss_one (ps_ret pe_bl)) pss_nil)
      (pss_cons (ps_set (i := 6) sc_law.nd rfl (Or.inl rfl) (pe_cal c__law_wrong_number (hr.mono (by first | decide | omega)) (by rfl) (pa_cons (pv 1) (pa_cons pe_int (pa_cons pe_int pa_nil)))))
      (pss_cons (ps_if (pt_not (pt_val (pe_cal c__law_refuses (hr.mono (by first | decide | omega)) (by rfl) (pa_cons pe_bl (pa_cons (pv 6) (pa_cons (pe_cal c__law_pick (hr.mono (by first | decide | omega)) (by rfl) (pa_cons (pv 1) (pa_cons (pe_lstN (pa_cons (pv 3) (pa_cons pe_int (pa_cons pe_non pa_nil)))) pa_nil))) (pa_cons (pe_tupN (pa_cons pe_str (pa_cons (pv 6) (pa_cons pe_int (pa_cons pe_int pa_nil))))) pa_nil))))))) (pss_one (ps_ret pe_bl)) pss_nil)
      (pss_cons (ps_if (pt_not (pt_val (pe_cal c__law_refuses (hr.mono (by first | decide | omega)) (by rfl) (pa_cons pe_bl (pa_cons (pv 2) (pa_cons (pv 6) (pa_cons (pe_tupN (pa_cons pe_str (pa_cons (pv 6) (pa_cons pe_int (pa_cons pe_int pa_nil))))) pa_nil))))))) (pss_one (ps_ret pe_bl)) pss_nil)
      (pss_cons (ps_setLc (i := 7) (own := [("k", 8)]) (g := gName 8) (tt := tYes) (by rfl) sc_law.nd rfl rfl (sw_true rfl rfl rfl (by decide +kernel)) (pi_range1 (by rfl) Z.z_range (pa_cons (pe_cal c__law_pick (hr.mono (by first | decide | omega)) (by rfl) (pa_cons (pv 1) (pa_cons (pe_lstN (pa_cons pe_int (pa_cons pe_int (pa_cons pe_int (pa_cons pe_int (pa_cons pe_int pa_nil)))))) pa_nil))) pa_nil)) (blkOk_by (N := ["script", "store", "many", "more", "first", "second", "bad", "wide", "k"]) (sc := defScope s_law) (by decide +kernel)) (fun _ _ _ _ _ => pg_name (i := 8) sc_law.nd rfl (Or.inl rfl)) (fun _ _ _ _ _ => pts_nil) (fun _ _ _ _ _ => (pe_cal c__law_big (hr.mono (by first | decide | omega)) (by rfl) (pa_cons (pv 1) pa_nil))))
      (pss_cons (ps_if (pt_not (pt_val (pe_cal c__law_refuses (hr.mono (by first | decide | omega)) (by rfl) (pa_cons pe_bl (pa_cons (pe_cal c__law_either (hr.mono (by first | decide | omega)) (by rfl) (pa_cons (pv 1) (pa_cons (pv 7) pa_nil))) (pa_cons (pe_cal c__law_either (hr.mono (by first | decide | omega)) (by rfl) (pa_cons (pv 1) (pa_cons (pv 5) pa_nil))) (pa_cons (pe_tupN (pa_cons pe_str (pa_cons pe_str (pa_cons pe_int pa_nil)))) pa_nil))))))) (pss_one (ps_ret pe_bl)) pss_nil)
      (pss_cons (ps_if (pt_not (pt_val (pe_cal c__law_refuses (hr.mono (by first | decide | omega)) (by rfl) (pa_cons pe_bl (pa_cons (pe_cal c__law_either (hr.mono (by first | decide | omega)) (by rfl) (pa_cons (pv 1) (pa_cons (pv 4) pa_nil))) (pa_cons (pe_cal c__law_either (hr.mono (by first | decide | omega)) (by rfl) (pa_cons (pv 1) (pa_cons (pv 7) pa_nil))) (pa_cons (pe_tupN (pa_cons pe_str (pa_cons pe_str (pa_cons pe_int pa_nil)))) pa_nil))))))) (pss_one (ps_ret pe_bl)) pss_nil)
      (pss_one (ps_ret (pe_and (pe_cal c__law_path_holds (hr.mono (by first | decide | omega)) (by rfl) (pa_cons (pv 3) (pa_cons (pv 2) pa_nil))) (pe_one (pe_cal c__law_words_hold (hr.mono (by first | decide | omega)) (by rfl) (pa_cons (pv 1) (pa_cons (pe_slice sl_listN (pv 4) po_none (po_some pe_int)) (pa_cons (pv 5) pa_nil)))))))))))))))))))))), ?_⟩
  refine ⟨_, rfl, a, ns, rfl, hS, hn, fun S H1 w1 => ?_⟩
  refine ⟨_, rfl, S, H, 25, rfl, w1, by decide, by decide, fun nI H2 n0 n1 s2 => ?_⟩
  refine ⟨_, rfl, S, H, 25, rfl, s2.wd, by decide, by decide, fun mI H3 m0 m1 s3 => ?_⟩
  have S3 := s2.trans s3
  obtain ⟨n, rfl⟩ : ∃ n : Nat, nI = (n : Int) := ⟨nI.toNat, by omega⟩
  obtain ⟨m, rfl⟩ : ∃ m : Nat, mI = (m : Int) := ⟨mI.toNat, by omega⟩
  have n24 : n ≤ 24 := by omega
  have m24 : m ≤ 24 := by omega
  refine ⟨_, rfl, _, rfl, n, m, rfl, n24, m24, fun H4 s4 => ⟨_, rfl, iteBF rfl ⟨_, rfl, _, rfl, m, n, rfl, m24, n24, fun H5 s5 => ⟨_, rfl, iteBF rfl ?_⟩⟩⟩⟩
  have S5 := (S3.pure s4).pure s5
  clear s2 s3 S3 s4 s5 n0 n1 m0 m1
  refine ⟨_, rfl, S, H, 13, rfl, S5.wd, by decide, by decide, fun d H6 d0 d1 s6 => ?_⟩
  have S6 := S5.trans s6
  refine ⟨d, rfl, by omega, by omega, fun l hl => ?_⟩
  refine lc_range (lo := 0) (n := d.toNat) (fun i H' => ∃ xs : List Int, Go S H H1 H H' ∧ H l = none ∧ H1 l = none ∧ H' l = some (.lst (xs.map V.int)) ∧ xs.length = i) ?_ ?_ ?_
  · obtain ⟨s7, gl, h7, fl⟩ := S6.loc (p := l) (o := .lst []) ⟨hl, rfl⟩
    exact ⟨[], s7, gl, fl, h7, rfl⟩
  · rintro i H7 hi ⟨xs, s7, gl, fl, h7, lx⟩
    refine ⟨rfl, yesT ⟨_, rfl, S, H, rfl, s7.wd, fun v H8 s8 => ?_⟩⟩
    have h8 := s8.hh h7 (s7.ns fl)
    refine ⟨_, h8, by rw [List.length_map]; exact lt (by omega), xs ++ [v], (s7.trans s8).mut gl fl rfl, gl, fl, ?_, by rw [List.length_append, lx]; rfl⟩
    rw [upd_same, List.map_append]
    rfl
  rintro H7 ⟨xs, s7, gl, fl, h7, lx⟩
  obtain ⟨G7, S7, g7, ka, -⟩ := s7.frz gl fl h7
  have x12 : xs.length ≤ 12 := by omega
  clear S5 s6 S6 s7 gl fl h7 hl d0 d1 lx
  refine ⟨_, rfl, S, G7, 13, rfl, S7.wd, by decide, by decide, fun d H8 d0 d1 s8 => ?_⟩
  have S8 := S7.trans s8
  refine ⟨d, rfl, by omega, by omega, fun l2 hl => ?_⟩
  refine lc_range (lo := 0) (n := d.toNat) (fun i H' => ∃ xs : List Int, Go S H H1 G7 H' ∧ G7 l2 = none ∧ H1 l2 = none ∧ H' l2 = some (.lst (xs.map V.int)) ∧ xs.length = i) ?_ ?_ ?_
  · obtain ⟨s9, gl, h9, fl⟩ := S8.loc (p := l2) (o := .lst []) ⟨hl, rfl⟩
    exact ⟨[], s9, gl, fl, h9, rfl⟩
  · rintro i H9 hi ⟨zs, s9, gl, fl, h9, lz⟩
    refine ⟨rfl, yesT ⟨_, rfl, S, G7, rfl, s9.wd, fun v HA sA => ?_⟩⟩
    have hA := sA.hh h9 (s9.ns fl)
    refine ⟨_, hA, by rw [List.length_map]; exact lt (by omega), zs ++ [v], (s9.trans sA).mut gl fl rfl, gl, fl, ?_, by rw [List.length_append, lz]; rfl⟩
    rw [upd_same, List.map_append]
    rfl
  rintro H9 ⟨ys, s9, gl, fl, h9, ly⟩
  obtain ⟨G9, S9, g9, kb, -⟩ := s9.frz gl fl h9
  have y12 : ys.length ≤ 12 := by omega
  have ka := g9 _ _ ka
  clear s8 S8 s9 gl fl h9 hl d0 d1 ly S7 g7 g9
  refine ⟨fun σ' H' => ∃ (a1 b1 : Addr) (xs ys : List Int) (G' : Hp), σ' = [some (.ref a), some (.ref S.a), some (.int (n : Int)), some (.int (m : Int)), some (.ref a1), some (.ref b1), none, none, none] ∧ Go S H H1 G' H' ∧ G' a1 = some (.lst (xs.map V.int)) ∧ G' b1 = some (.lst (ys.map V.int)) ∧ xs.length ≤ 12 ∧ ys.length ≤ 12, ?_, ?_⟩
  · refine ⟨_, rfl, S, G9, 3, rfl, S9.wd, by omega, fun e HA e0 e1 sA => ⟨_, _, rfl, rfl, _, rfl, ite2 (fun c => ?_) (fun c => ⟨l, l2, xs, ys, G9, rfl, S9.trans sA, ka, kb, x12, y12⟩)⟩⟩
    have SA := S9.trans sA
    have lxs : (xs.map V.int).length = xs.length := List.length_map ..
    have lys : (ys.map V.int).length = ys.length := List.length_map ..
    refine ⟨_, rfl, l2, _, rfl, .inl (.of (SA.gh _ _ kb)), _, rfl, by omega, by omega, fun l3 hl3 => ?_⟩
    refine lc_range (lo := 0) (n := (((ys.map V.int).length : Nat) : Int).toNat) (fun i H' => ∃ zs : List Int, Go S H H1 G9 H' ∧ G9 l3 = none ∧ H1 l3 = none ∧ H' l3 = some (.lst (zs.map V.int)) ∧ zs.length = i) ?_ ?_ ?_
    · obtain ⟨s9, gl, h9, fl⟩ := SA.loc (p := l3) (o := .lst []) ⟨hl3, rfl⟩
      exact ⟨[], s9, gl, fl, h9, rfl⟩
    · rintro i HB hi ⟨zs, sB, gl, fl, hB, lz⟩
      refine ⟨rfl, yesT ⟨_, rfl, S, G9, 3, rfl, sB.wd, by omega, fun v HC v0 v1 sC => ?_⟩⟩
      have hC := sC.hh hB (sB.ns fl)
      refine ⟨_, hC, by rw [List.length_map]; exact lt (by omega), zs ++ [v], (sB.trans sC).mut gl fl rfl, gl, fl, ?_, by rw [List.length_append, lz]; rfl⟩
      rw [upd_same, List.map_append]
      rfl
    rintro HB ⟨ys', sB, gl, fl, hB, ly'⟩
    obtain ⟨GB, SB, gB, kb', -⟩ := sB.frz gl fl hB
    have ka' := gB _ _ ka
    refine ⟨_, rfl, l, _, rfl, .inl (.of (SB.gh _ _ ka')), _, rfl, by omega, by omega, fun l4 hl4 => ?_⟩
    refine lc_range (lo := 0) (n := (((xs.map V.int).length : Nat) : Int).toNat) (fun i H' => ∃ zs : List Int, Go S H H1 GB H' ∧ GB l4 = none ∧ H1 l4 = none ∧ H' l4 = some (.lst (zs.map V.int)) ∧ zs.length = i) ?_ ?_ ?_
    · obtain ⟨s9, gl, h9, fl⟩ := SB.loc (p := l4) (o := .lst []) ⟨hl4, rfl⟩
      exact ⟨[], s9, gl, fl, h9, rfl⟩
    · rintro i HC hi ⟨zs, sC, gl, fl, hC, lz⟩
      refine ⟨rfl, yesT ⟨_, rfl, S, GB, 3, rfl, sC.wd, by omega, fun v HD v0 v1 sD => ?_⟩⟩
      have hD := sD.hh hC (sC.ns fl)
      refine ⟨_, hD, by rw [List.length_map]; exact lt (by omega), zs ++ [v], (sC.trans sD).mut gl fl rfl, gl, fl, ?_, by rw [List.length_append, lz]; rfl⟩
      rw [upd_same, List.map_append]
      rfl
    rintro HC ⟨xs', sC, gl4, fl4, hC, lx'⟩
    obtain ⟨GC, SC, gC, ka'', -⟩ := sC.frz gl4 fl4 hC
    exact ⟨l4, l3, xs', ys', GC, rfl, SC, ka'', gC _ _ kb', by omega, by omega⟩
  clear S9
  rintro σ' H2 ⟨a1, b1, xs, ys, G2, rfl, S2, ka, kb, x12, y12⟩
  refine ⟨_, rfl, _, rfl, _, rfl, S, G2, a1, b1, xs, ys, rfl, S2.wd, ka, kb, x12, y12, fun G3 H3 s3 => ⟨_, rfl, iteBF rfl ?_⟩⟩
  have S3 := S2.trans s3
  have ka := s3.gg _ _ ka
  have kb := s3.gg _ _ kb
  refine ⟨_, rfl, _, rfl, _, rfl, S, G3, b1, a1, ys, xs, rfl, S3.wd, kb, ka, y12, x12, fun G4 H4 s4 => ⟨_, rfl, iteBF rfl ?_⟩⟩
  have S4 := S3.trans s4
  have ka := s4.gg _ _ ka
  have kb := s4.gg _ _ kb
  clear S2 s3 S3 s4
  refine ⟨_, rfl, S, G4, rfl, S4.wd, fun x dx G5 H5 s5 bad => ?_⟩
  have S5 := S4.trans s5
  have ka := s5.gg _ _ ka
  have kb := s5.gg _ _ kb
  clear S4 s5
  refine ⟨_, rfl, _, rfl, _, rfl, by show 3 ≤ sizeLine; decide, fun l H6 n6 => ?_⟩
  obtain ⟨s6, gl, hl, fl⟩ := S5.loc n6
  refine ⟨S, G5, .ref l, _, rfl, s6.wd, .inl ⟨l, rfl, s6.ns fl, hl⟩, by show 0 < 3; decide, by show 3 < 1000000; decide, fun u H7 hu s7 => ?_⟩
  have S7 := s6.trans s7
  have du : ∃ du, Da G5 u du := by
    simp only [List.mem_cons, List.not_mem_nil, or_false] at hu
    rcases hu with rfl | rfl | rfl
    · exact ⟨_, .int _⟩
    · exact ⟨_, .int _⟩
    · exact ⟨_, .non⟩
  obtain ⟨du, du_⟩ := du
  refine ⟨_, rfl, by show 4 ≤ sizeLine; decide, fun z H8 n8 => ?_⟩
  obtain ⟨G8, S8, g8, kz, -⟩ := S7.know n8
  have bad8 := bad.up g8
  have duz : Da G8 (.ref z) (.tuple [.str "BadNumber", dx, .int 0, .int 24]) := .tup kz (.cons (.str _) (.cons bad8.da (.cons (.int _) (.one (.int _)))))
  have ka := g8 _ _ ka
  have kb := g8 _ _ kb
  dsimp only [tNil]
  refine ⟨false, _, _, _, _, rfl, duz.up S8.gh, .inl ⟨rfl, dx, du, x, dx, bad8.da.up S8.gh, (du_.up g8).up S8.gh, bad8.up S8.gh, .inl ⟨rfl, rfl⟩, rfl⟩, fun H9 s9 => ⟨_, rfl, iteBF rfl ?_⟩⟩
  have S9 := S8.pure s9
  clear S5 n6 s6 gl hl fl hu s7 S7 n8 du_ S8 s9 kz duz bad
  refine ⟨_, rfl, _, rfl, _, rfl, by show 4 ≤ sizeLine; decide, fun z HA nA => ?_⟩
  obtain ⟨GA, SA, gA, kz, -⟩ := S9.know nA
  have badA := bad8.up gA
  have duz : Da GA (.ref z) (.tuple [.str "BadNumber", dx, .int 0, .int 24]) := .tup kz (.cons (.str _) (.cons badA.da (.cons (.int _) (.one (.int _)))))
  have ka := gA _ _ ka
  have kb := gA _ _ kb
  dsimp only [tNil]
  refine ⟨false, _, _, _, _, rfl, duz.up SA.gh, .inl ⟨rfl, .int (n : Int), dx, x, dx, .int _, badA.da.up SA.gh, badA.up SA.gh, .inr ⟨isNum24 n24, rfl, rfl⟩, rfl⟩, fun HB sB => ⟨_, rfl, iteBF rfl ?_⟩⟩
  have SB := SA.pure sB
  clear S9 nA gA kz duz bad8 SA sB badA
  refine ⟨_, rfl, by show 5 ≤ sizeLine; decide, fun l HC nC => ?_⟩
  obtain ⟨sC, gl, hl, fl⟩ := SB.loc nC
  refine ⟨S, GA, .ref l, _, rfl, sC.wd, .inl ⟨l, rfl, sC.ns fl, hl⟩, by show 0 < 5; decide, by show 5 < 1000000; decide, fun wv HD hw sD => ?_⟩
  have SD := sC.trans sD
  obtain ⟨wn, rfl, w13, w25⟩ : ∃ wn : Int, wv = .int wn ∧ 13 ≤ wn ∧ wn ≤ 25 := by
    simp only [List.mem_cons, List.not_mem_nil, or_false] at hw
    rcases hw with rfl | rfl | rfl | rfl | rfl <;> exact ⟨_, rfl, by decide, by decide⟩
  refine ⟨wn, rfl, by omega, by omega, fun l5 hl5 => ?_⟩
  refine lc_range (lo := 0) (n := wn.toNat) (fun i H' => ∃ zs : List Int, Go S H H1 GA H' ∧ GA l5 = none ∧ H1 l5 = none ∧ H' l5 = some (.lst (zs.map V.int)) ∧ zs.length = i) ?_ ?_ ?_
  · obtain ⟨s9, gl, h9, fl⟩ := SD.loc (p := l5) (o := .lst []) ⟨hl5, rfl⟩
    exact ⟨[], s9, gl, fl, h9, rfl⟩
  · rintro i HE hi ⟨zs, sE, gl, fl, hE, lz⟩
    refine ⟨rfl, yesT ⟨_, rfl, S, GA, rfl, sE.wd, fun v HF sF => ?_⟩⟩
    have hF := sF.hh hE (sE.ns fl)
    refine ⟨_, hF, by rw [List.length_map]; exact lt (by omega), zs ++ [v], (sE.trans sF).mut gl fl rfl, gl, fl, ?_, by rw [List.length_append, lz]; rfl⟩
    rw [upd_same, List.map_append]
    rfl
  rintro HE ⟨ws, sE, glE, flE, hE, lws⟩
  obtain ⟨GE, SE, gE, kw, -⟩ := sE.frz glE flE hE
  have ka := gE _ _ ka
  have kb := gE _ _ kb
  have w12 : 12 < ws.length := by omega
  clear SB nC sC gl hl fl sD SD hw hl5 sE glE flE hE lws
  -- the wide row first
  refine ⟨_, rfl, _, rfl, S, GE, l5, _, rfl, SE.wd, SE.wd.ne kw, SE.gh _ _ kw, fun p1 t1 HF sF gp1 fp1 hp1 => ?_⟩
  have SF := SE.trans sF
  refine ⟨_, rfl, _, rfl, S, GE, b1, _, rfl, SF.wd, SF.wd.ne kb, SF.gh _ _ kb, fun p2 t2 HG sG gp2 fp2 hp2 => ⟨by show 3 ≤ sizeLine; decide, fun z HH nH => ?_⟩⟩
  have SG := SF.trans sG
  have hp1 := nH.else (sG.hh hp1 (SF.ns (SE.fresh fp1)))
  have hp2 := nH.else hp2
  have SH := (SG.loc nH).1
  dsimp only [tNil]
  refine ⟨true, _, _, _, .tuple [.str "TooMany", .str "row", .int 12], rfl, .tup nH.at (.cons (.str _) (.cons (.str _) (.one (.int _)))), .inr ⟨rfl, p1, p2, ws, ys, rfl, rfl, hasL_if hp1, hasL_if hp2, .inl w12, rfl⟩, fun HI sI => ⟨_, rfl, iteBF rfl ?_⟩⟩
  have SI := SH.pure sI
  clear SE sF gp1 fp1 SF sG gp2 fp2 SG hp1 hp2 nH SH sI
  refine ⟨_, rfl, _, rfl, S, GE, a1, _, rfl, SI.wd, SI.wd.ne ka, SI.gh _ _ ka, fun p1 t1 HF sF gp1 fp1 hp1 => ?_⟩
  have SF := SI.trans sF
  refine ⟨_, rfl, _, rfl, S, GE, l5, _, rfl, SF.wd, SF.wd.ne kw, SF.gh _ _ kw, fun p2 t2 HG sG gp2 fp2 hp2 => ⟨by show 3 ≤ sizeLine; decide, fun z HH nH => ?_⟩⟩
  have SG := SF.trans sG
  have hp1 := nH.else (sG.hh hp1 (SF.ns (SI.fresh fp1)))
  have hp2 := nH.else hp2
  have SH := (SG.loc nH).1
  dsimp only [tNil]
  refine ⟨true, _, _, _, .tuple [.str "TooMany", .str "row", .int 12], rfl, .tup nH.at (.cons (.str _) (.cons (.str _) (.one (.int _)))), .inr ⟨rfl, p1, p2, xs, ws, rfl, rfl, hasL_if hp1, hasL_if hp2, .inr w12, rfl⟩, fun HJ sJ => ⟨_, rfl, iteBF rfl ?_⟩⟩
  have SJ := SH.pure sJ
  clear SI sF gp1 fp1 SF sG gp2 fp2 SG hp1 hp2 nH SH sJ
  refine ⟨_, rfl, _, rfl, m, n, rfl, m24, n24, fun HK sK => ⟨_, rfl, iteT ?_⟩⟩
  have SK := SJ.pure sK
  refine ⟨_, rfl, _, rfl, _, rfl, a1, _, rfl, .of (SK.gh _ _ ka), fun l6 HL nL => ?_⟩
  rw [show (2 : Int) = ((2 : Nat) : Int) from rfl, cut_upto, ← List.map_take] at nL
  obtain ⟨GL, SL, gL, kl6, -⟩ := SK.know nL
  refine ⟨_, rfl, S, GL, l6, b1, xs.take 2, ys, rfl, SL.wd, kl6, gL _ _ kb, by rw [List.length_take]; omega, y12, fun GM HM sM => ?_⟩
  exact q HM

end
theorem w_Z {P : Program} {w : World} {K : PySem.W.Frag} {h : Heap} {mg : Str → Option Value} (X : K.In h) (G : h.Ns mainGlobals mg) (c : SaysW faL fnL exL K) : Zs mg := ⟨He.free_ok X G (c.fact 1 (f := .free "ValueError") rfl),
    He.free_ok X G (c.fact 2 (f := .free "isinstance") rfl),
    He.free_ok X G (c.fact 3 (f := .free "int") rfl),
    He.free_ok X G (c.fact 4 (f := .free "bool") rfl),
    He.free_ok X G (c.fact 5 (f := .free "str") rfl),
    He.free_ok X G (c.fact 6 (f := .free "tuple") rfl),
    He.free_ok X G (c.fact 7 (f := .free "list") rfl),
    He.free_ok X G (c.fact 8 (f := .free "len") rfl),
    He.free_ok X G (c.fact 9 (f := .free "range") rfl),
    He.free_ok X G (c.fact 10 (f := .free "all") rfl),
    He.free_ok X G (c.fact 11 (f := .free "sum") rfl),
    He.int_ok X G (c.fact 12 (f := .int "MOST_ROW" 24) rfl),
    He.int_ok X G (c.fact 13 (f := .int "MOST_PATH_ROW" 12) rfl)⟩
theorem w_D {P : Program} {w : World} {K : PySem.W.Frag} {h : Heap} {mg : Str → Option Value} (X : K.In h) (G : h.Ns mainGlobals mg) (c : SaysW faL fnL exL K) : Ds K mg := ⟨def_w X G (c.def_ 1 (d := dFn "is_number" s_is_number) rfl) (c.fact 14 (f := .glo "is_number") rfl) (fun _ _ _ _ _ _ us hl => match us, hl with | [_, _, _], _ => rfl),
    def_w X G (c.def_ 2 (d := dFn "check_number" s_check_number) rfl) (c.fact 15 (f := .glo "check_number") rfl) (fun _ _ _ _ _ _ us hl => match us, hl with | [_, _, _], _ => rfl),
    def_w X G (c.def_ 3 (d := dFn "check_entries" s_check_entries) rfl) (c.fact 16 (f := .glo "check_entries") rfl) (fun _ _ _ _ _ _ us hl => match us, hl with | [_, _], _ => rfl),
    def_w X G (c.def_ 4 (d := dFn "swapped" s_swapped) rfl) (c.fact 17 (f := .glo "swapped") rfl) (fun _ _ _ _ _ _ us hl => match us, hl with | [_, _], _ => rfl),
    def_w X G (c.def_ 5 (d := dFn "exchanged" s_exchanged) rfl) (c.fact 18 (f := .glo "exchanged") rfl) (fun _ _ _ _ _ _ us hl => match us, hl with | [_, _], _ => rfl),
    def_w X G (c.def_ 6 (d := dFn "swap_path" s_swap_path) rfl) (c.fact 19 (f := .glo "swap_path") rfl) (fun _ _ _ _ _ _ us hl => match us, hl with | [_, _], _ => rfl),
    def_w X G (c.def_ 7 (d := dFn "path_words" s_path_words) rfl) (c.fact 20 (f := .glo "path_words") rfl) (fun _ _ _ _ _ _ us hl => match us, hl with | [_, _], _ => rfl),
    def_w X G (c.def_ 8 (d := dFn "_law_store" s_law_store) rfl) (c.fact 21 (f := .glo "_law_store") rfl) (fun _ _ _ _ _ _ us hl => match us, hl with | [_], _ => rfl),
    def_w X G (c.def_ 9 (d := dFn "_law_mixed" s_law_mixed) rfl) (c.fact 22 (f := .glo "_law_mixed") rfl) (fun _ _ _ _ _ _ us hl => match us, hl with | [_, _], _ => rfl),
    def_w X G (c.def_ 10 (d := dFn "_law_take" s_law_take) rfl) (c.fact 23 (f := .glo "_law_take") rfl) (fun _ _ _ _ _ _ us hl => match us, hl with | [_, _], _ => rfl),
    def_w X G (c.def_ 11 (d := dFn "_law_pick" s_law_pick) rfl) (c.fact 24 (f := .glo "_law_pick") rfl) (fun _ _ _ _ _ _ us hl => match us, hl with | [_, _], _ => rfl),
    def_w X G (c.def_ 12 (d := dFn "_law_place" s_law_place) rfl) (c.fact 25 (f := .glo "_law_place") rfl) (fun _ _ _ _ _ _ us hl => match us, hl with | [_, _], _ => rfl),
    def_w X G (c.def_ 13 (d := dFn "_law_either" s_law_either) rfl) (c.fact 26 (f := .glo "_law_either") rfl) (fun _ _ _ _ _ _ us hl => match us, hl with | [_, _], _ => rfl),
    def_w X G (c.def_ 14 (d := dFn "_law_is_whole" s_law_is_whole) rfl) (c.fact 27 (f := .glo "_law_is_whole") rfl) (fun _ _ _ _ _ _ us hl => match us, hl with | [_], _ => rfl),
    def_w X G (c.def_ 15 (d := dFn "_law_wrong_number" s_law_wrong_number) rfl) (c.fact 28 (f := .glo "_law_wrong_number") rfl) (fun _ _ _ _ _ _ us hl => match us, hl with | [_, _, _], _ => rfl),
    def_w X G (c.def_ 16 (d := dFn "_law_agree" s_law_agree) rfl) (c.fact 29 (f := .glo "_law_agree") rfl) (fun _ _ _ _ _ _ us hl => match us, hl with | [_, _], _ => rfl),
    def_w X G (c.def_ 17 (d := dFn "_law_big" s_law_big) rfl) (c.fact 30 (f := .glo "_law_big") rfl) (fun _ _ _ _ _ _ us hl => match us, hl with | [_], _ => rfl),
    def_w X G (c.def_ 18 (d := dFn "_law_words" s_law_words) rfl) (c.fact 31 (f := .glo "_law_words") rfl) (fun _ _ _ _ _ _ us hl => match us, hl with | [_, _], _ => rfl),
    def_w X G (c.def_ 19 (d := dFn "_law_kinds" s_law_kinds) rfl) (c.fact 32 (f := .glo "_law_kinds") rfl) (fun _ _ _ _ _ _ us hl => match us, hl with | [_], _ => rfl),
    def_w X G (c.def_ 20 (d := dFn "_law_right_error" s_law_right_error) rfl) (c.fact 33 (f := .glo "_law_right_error") rfl) (fun _ _ _ _ _ _ us hl => match us, hl with | [_, _], _ => rfl),
    def_w X G (c.def_ 21 (d := dFn "_law_path" s_law_path) rfl) (c.fact 34 (f := .glo "_law_path") rfl) (fun _ _ _ _ _ _ us hl => match us, hl with | [_, _], _ => rfl),
    def_w X G (c.def_ 22 (d := dFn "_law_path_turns" s_law_path_turns) rfl) (c.fact 35 (f := .glo "_law_path_turns") rfl) (fun _ _ _ _ _ _ us hl => match us, hl with | [_, _, _], _ => rfl),
    def_w X G (c.def_ 23 (d := dFn "_law_path_holds" s_law_path_holds) rfl) (c.fact 36 (f := .glo "_law_path_holds") rfl) (fun _ _ _ _ _ _ us hl => match us, hl with | [_, _], _ => rfl),
    def_w X G (c.def_ 24 (d := dFn "_law_words_hold" s_law_words_hold) rfl) (c.fact 37 (f := .glo "_law_words_hold") rfl) (fun _ _ _ _ _ _ us hl => match us, hl with | [_, _, _], _ => rfl),
    def_w X G (c.def_ 25 (d := dFn "_law_refuses" s_law_refuses) rfl) (c.fact 38 (f := .glo "_law_refuses") rfl) (fun _ _ _ _ _ _ us hl => match us, hl with | [_, _, _, _], _ => rfl)⟩
theorem w_ec_BadNumber {P : Program} {w : World} {K : PySem.W.Frag} {h : Heap} {mg : Str → Option Value} (X : K.In h) (G : h.Ns mainGlobals mg) (c : SaysW faL fnL exL K) : Ec K mg "BadNumber" (He.ga K "BadNumber") := ec_w X G (c.fact 39 (f := .glo "BadNumber") rfl) (c.more 0 (f := ecB "BadNumber") rfl)
theorem w_es_BadNumber {P : Program} {w : World} {K : PySem.W.Frag} {h : Heap} {mg : Str → Option Value} (X : K.In h) (G : h.Ns mainGlobals mg) (c : SaysW faL fnL exL K) : Es K mg 1 "BadNumber" (He.ga K "BadNumber") := ⟨(w_ec_BadNumber (P := P) (w := w) X G c), by decide, is_w X G (c.fact 40 (f := .glo "BadEdit") rfl) (c.more 1 (f := isB "BadNumber" "BadEdit" false) rfl),
    is_w X G (c.fact 39 (f := .glo "BadNumber") rfl) (c.more 2 (f := isB "BadNumber" "BadNumber" true) rfl),
    is_w X G (c.fact 41 (f := .glo "BadText") rfl) (c.more 3 (f := isB "BadNumber" "BadText" false) rfl),
    is_w X G (c.fact 42 (f := .glo "FullLot") rfl) (c.more 4 (f := isB "BadNumber" "FullLot" false) rfl),
    is_w X G (c.fact 43 (f := .glo "GameOver") rfl) (c.more 5 (f := isB "BadNumber" "GameOver" false) rfl),
    is_w X G (c.fact 44 (f := .glo "NoSuchLength") rfl) (c.more 6 (f := isB "BadNumber" "NoSuchLength" false) rfl),
    is_w X G (c.fact 45 (f := .glo "NotABase") rfl) (c.more 7 (f := isB "BadNumber" "NotABase" false) rfl),
    is_w X G (c.fact 46 (f := .glo "NotAChain") rfl) (c.more 8 (f := isB "BadNumber" "NotAChain" false) rfl),
    is_w X G (c.fact 47 (f := .glo "NotAColumn") rfl) (c.more 9 (f := isB "BadNumber" "NotAColumn" false) rfl),
    is_w X G (c.fact 48 (f := .glo "NotACount") rfl) (c.more 10 (f := isB "BadNumber" "NotACount" false) rfl),
    is_w X G (c.fact 49 (f := .glo "NotAFailing") rfl) (c.more 11 (f := isB "BadNumber" "NotAFailing" false) rfl),
    is_w X G (c.fact 50 (f := .glo "NotAMove") rfl) (c.more 12 (f := isB "BadNumber" "NotAMove" false) rfl),
    is_w X G (c.fact 51 (f := .glo "NotAPaper") rfl) (c.more 13 (f := isB "BadNumber" "NotAPaper" false) rfl),
    is_w X G (c.fact 52 (f := .glo "NotAPoint") rfl) (c.more 14 (f := isB "BadNumber" "NotAPoint" false) rfl),
    is_w X G (c.fact 53 (f := .glo "NotAWord") rfl) (c.more 15 (f := isB "BadNumber" "NotAWord" false) rfl),
    is_w X G (c.fact 54 (f := .glo "NotAllowed") rfl) (c.more 16 (f := isB "BadNumber" "NotAllowed" false) rfl),
    is_w X G (c.fact 55 (f := .glo "NotAnOrder") rfl) (c.more 17 (f := isB "BadNumber" "NotAnOrder" false) rfl),
    is_w X G (c.fact 56 (f := .glo "NotFull") rfl) (c.more 18 (f := isB "BadNumber" "NotFull" false) rfl),
    is_w X G (c.fact 57 (f := .glo "NotInside") rfl) (c.more 19 (f := isB "BadNumber" "NotInside" false) rfl),
    is_w X G (c.fact 58 (f := .glo "NotMade") rfl) (c.more 20 (f := isB "BadNumber" "NotMade" false) rfl),
    is_w X G (c.fact 59 (f := .glo "NotNeighbours") rfl) (c.more 21 (f := isB "BadNumber" "NotNeighbours" false) rfl),
    is_w X G (c.fact 60 (f := .glo "NotShorter") rfl) (c.more 22 (f := isB "BadNumber" "NotShorter" false) rfl),
    is_w X G (c.fact 61 (f := .glo "NotTight") rfl) (c.more 23 (f := isB "BadNumber" "NotTight" false) rfl),
    is_w X G (c.fact 62 (f := .glo "NothingKept") rfl) (c.more 24 (f := isB "BadNumber" "NothingKept" false) rfl),
    is_w X G (c.fact 63 (f := .glo "NothingToRedo") rfl) (c.more 25 (f := isB "BadNumber" "NothingToRedo" false) rfl),
    is_w X G (c.fact 64 (f := .glo "NothingToUndo") rfl) (c.more 26 (f := isB "BadNumber" "NothingToUndo" false) rfl),
    is_w X G (c.fact 65 (f := .glo "OrderMatters") rfl) (c.more 27 (f := isB "BadNumber" "OrderMatters" false) rfl),
    is_w X G (c.fact 66 (f := .glo "RepeatedPoint") rfl) (c.more 28 (f := isB "BadNumber" "RepeatedPoint" false) rfl),
    is_w X G (c.fact 67 (f := .glo "SameLength") rfl) (c.more 29 (f := isB "BadNumber" "SameLength" false) rfl),
    is_w X G (c.fact 68 (f := .glo "TooMany") rfl) (c.more 30 (f := isB "BadNumber" "TooMany" false) rfl),
    is_w X G (c.fact 69 (f := .glo "UnknownName") rfl) (c.more 31 (f := isB "BadNumber" "UnknownName" false) rfl),
    is_w X G (c.fact 70 (f := .glo "UnlikeSizes") rfl) (c.more 32 (f := isB "BadNumber" "UnlikeSizes" false) rfl),
    is_w X G (c.fact 71 (f := .glo "HeldorderError") rfl) (c.more 33 (f := isB "BadNumber" "HeldorderError" true) rfl),
    hn_w X G (c.fact 71 (f := .glo "HeldorderError") rfl) (c.more 34 (f := hnB "BadNumber" "HeldorderError" true) rfl),
    of_decide_eq_true (c.more 35 (f := ivB "BadNumber") rfl)⟩
theorem w_ec_TooMany {P : Program} {w : World} {K : PySem.W.Frag} {h : Heap} {mg : Str → Option Value} (X : K.In h) (G : h.Ns mainGlobals mg) (c : SaysW faL fnL exL K) : Ec K mg "TooMany" (He.ga K "TooMany") := ec_w X G (c.fact 68 (f := .glo "TooMany") rfl) (c.more 37 (f := ecB "TooMany") rfl)
theorem w_es_TooMany {P : Program} {w : World} {K : PySem.W.Frag} {h : Heap} {mg : Str → Option Value} (X : K.In h) (G : h.Ns mainGlobals mg) (c : SaysW faL fnL exL K) : Es K mg 29 "TooMany" (He.ga K "TooMany") := ⟨(w_ec_TooMany (P := P) (w := w) X G c), by decide, is_w X G (c.fact 40 (f := .glo "BadEdit") rfl) (c.more 38 (f := isB "TooMany" "BadEdit" false) rfl),
    is_w X G (c.fact 39 (f := .glo "BadNumber") rfl) (c.more 39 (f := isB "TooMany" "BadNumber" false) rfl),
    is_w X G (c.fact 41 (f := .glo "BadText") rfl) (c.more 40 (f := isB "TooMany" "BadText" false) rfl),
    is_w X G (c.fact 42 (f := .glo "FullLot") rfl) (c.more 41 (f := isB "TooMany" "FullLot" false) rfl),
    is_w X G (c.fact 43 (f := .glo "GameOver") rfl) (c.more 42 (f := isB "TooMany" "GameOver" false) rfl),
    is_w X G (c.fact 44 (f := .glo "NoSuchLength") rfl) (c.more 43 (f := isB "TooMany" "NoSuchLength" false) rfl),
    is_w X G (c.fact 45 (f := .glo "NotABase") rfl) (c.more 44 (f := isB "TooMany" "NotABase" false) rfl),
    is_w X G (c.fact 46 (f := .glo "NotAChain") rfl) (c.more 45 (f := isB "TooMany" "NotAChain" false) rfl),
    is_w X G (c.fact 47 (f := .glo "NotAColumn") rfl) (c.more 46 (f := isB "TooMany" "NotAColumn" false) rfl),
    is_w X G (c.fact 48 (f := .glo "NotACount") rfl) (c.more 47 (f := isB "TooMany" "NotACount" false) rfl),
    is_w X G (c.fact 49 (f := .glo "NotAFailing") rfl) (c.more 48 (f := isB "TooMany" "NotAFailing" false) rfl),
    is_w X G (c.fact 50 (f := .glo "NotAMove") rfl) (c.more 49 (f := isB "TooMany" "NotAMove" false) rfl),
    is_w X G (c.fact 51 (f := .glo "NotAPaper") rfl) (c.more 50 (f := isB "TooMany" "NotAPaper" false) rfl),
    is_w X G (c.fact 52 (f := .glo "NotAPoint") rfl) (c.more 51 (f := isB "TooMany" "NotAPoint" false) rfl),
    is_w X G (c.fact 53 (f := .glo "NotAWord") rfl) (c.more 52 (f := isB "TooMany" "NotAWord" false) rfl),
    is_w X G (c.fact 54 (f := .glo "NotAllowed") rfl) (c.more 53 (f := isB "TooMany" "NotAllowed" false) rfl),
    is_w X G (c.fact 55 (f := .glo "NotAnOrder") rfl) (c.more 54 (f := isB "TooMany" "NotAnOrder" false) rfl),
    is_w X G (c.fact 56 (f := .glo "NotFull") rfl) (c.more 55 (f := isB "TooMany" "NotFull" false) rfl),
    is_w X G (c.fact 57 (f := .glo "NotInside") rfl) (c.more 56 (f := isB "TooMany" "NotInside" false) rfl),
    is_w X G (c.fact 58 (f := .glo "NotMade") rfl) (c.more 57 (f := isB "TooMany" "NotMade" false) rfl),
    is_w X G (c.fact 59 (f := .glo "NotNeighbours") rfl) (c.more 58 (f := isB "TooMany" "NotNeighbours" false) rfl),
    is_w X G (c.fact 60 (f := .glo "NotShorter") rfl) (c.more 59 (f := isB "TooMany" "NotShorter" false) rfl),
    is_w X G (c.fact 61 (f := .glo "NotTight") rfl) (c.more 60 (f := isB "TooMany" "NotTight" false) rfl),
    is_w X G (c.fact 62 (f := .glo "NothingKept") rfl) (c.more 61 (f := isB "TooMany" "NothingKept" false) rfl),
    is_w X G (c.fact 63 (f := .glo "NothingToRedo") rfl) (c.more 62 (f := isB "TooMany" "NothingToRedo" false) rfl),
    is_w X G (c.fact 64 (f := .glo "NothingToUndo") rfl) (c.more 63 (f := isB "TooMany" "NothingToUndo" false) rfl),
    is_w X G (c.fact 65 (f := .glo "OrderMatters") rfl) (c.more 64 (f := isB "TooMany" "OrderMatters" false) rfl),
    is_w X G (c.fact 66 (f := .glo "RepeatedPoint") rfl) (c.more 65 (f := isB "TooMany" "RepeatedPoint" false) rfl),
    is_w X G (c.fact 67 (f := .glo "SameLength") rfl) (c.more 66 (f := isB "TooMany" "SameLength" false) rfl),
    is_w X G (c.fact 68 (f := .glo "TooMany") rfl) (c.more 67 (f := isB "TooMany" "TooMany" true) rfl),
    is_w X G (c.fact 69 (f := .glo "UnknownName") rfl) (c.more 68 (f := isB "TooMany" "UnknownName" false) rfl),
    is_w X G (c.fact 70 (f := .glo "UnlikeSizes") rfl) (c.more 69 (f := isB "TooMany" "UnlikeSizes" false) rfl),
    is_w X G (c.fact 71 (f := .glo "HeldorderError") rfl) (c.more 70 (f := isB "TooMany" "HeldorderError" true) rfl),
    hn_w X G (c.fact 71 (f := .glo "HeldorderError") rfl) (c.more 71 (f := hnB "TooMany" "HeldorderError" true) rfl),
    of_decide_eq_true (c.more 72 (f := ivB "TooMany") rfl)⟩
theorem all_w {P : Program} {w : World} {K : PySem.W.Frag} {h : Heap} {mg : Str → Option Value} {f : Addr} (X : K.In h) (G : h.Ns mainGlobals mg) (hfa : mg ("law" : Str) = some (.ref f)) (c : SaysW faL fnL exL K) :
    ∃ fd : FuncData, (∀ (s : Shared) (v : Value), BindsTo s fd ⟨[v], []⟩ [("script", v)]) ∧ ∀ base : Heap, K.In base → base.Ns mainGlobals mg → FnOk P w K mg base CX0 8 f fd ["script"] (spLaw K) := by
  obtain ⟨fd, F⟩ := (c.def_ 0 (d := dFn "law" s_law) rfl)
  have e := hfa.symm.trans (He.glo_ok X G (c.fact 0 (f := .glo "law") rfl))
  cases e
  have b := FunD.bindsA (ps := ["script"]) F fun _ _ _ _ _ _ us hl => match us, hl with | [_], _ => rfl
  refine ⟨fd, fun s v => b s [v] rfl, fun base _ _ => ?_⟩
  have Z : Zs mg := w_Z (P := P) (w := w) X G c
  have D : Ds K mg := w_D (P := P) (w := w) X G c
  have B_swap_path : DefK K mg "swap_path" s_swap_path ["first", "second"] := defK_w X G (c.def_ 6 (d := dFn "swap_path" s_swap_path) rfl) (c.fact 19 (f := .glo "swap_path") rfl) (fun _ _ _ _ _ _ us hl => match us, hl with | [_, _], _ => rfl) (fun _ _ _ _ _ _ ws hl => match ws, hl with | [_, _], _ => rfl)
  have ec_BadNumber : Ec K mg "BadNumber" (He.ga K "BadNumber") := w_ec_BadNumber (P := P) (w := w) X G c
  have es_BadNumber : Es K mg 1 "BadNumber" (He.ga K "BadNumber") := w_es_BadNumber (P := P) (w := w) X G c
  have nf_BadNumber_value := xi_no (c.more 36 (f := xiB "BadNumber" ["value", "low", "high"]) rfl) (f := "value") (by simp)
  have nf_BadNumber_low := xi_no (c.more 36 (f := xiB "BadNumber" ["value", "low", "high"]) rfl) (f := "low") (by simp)
  have nf_BadNumber_high := xi_no (c.more 36 (f := xiB "BadNumber" ["value", "low", "high"]) rfl) (f := "high") (by simp)
  obtain ⟨fd_BadNumber, F_BadNumber⟩ := (c.def_ 26 (d := dMe "BadNumber" "__init__" "BadNumber.__init__" s_ini_BadNumber) rfl)
  have F_BadNumber : FunD K "__init__" "BadNumber.__init__" (defArgs s_ini_BadNumber) (defBody s_ini_BadNumber) (defScope s_ini_BadNumber) [] [] (He.ma K (He.ga K "BadNumber") "__init__") fd_BadNumber := F_BadNumber
  have bi_BadNumber := bindsM (ps := ["self", "value", "low", "high"]) (fun _ _ _ _ _ _ us hl => match us, hl with | [_, _, _, _], _ => rfl) F_BadNumber
  have m_BadNumber : Xm P w K mg base "BadNumber" (He.ga K "BadNumber") ["value", "low", "high"] := xm_w ec_BadNumber (c.more 36 (f := xiB "BadNumber" ["value", "low", "high"]) rfl) (ini3 sc_ini_BadNumber ⟨_, _, _, _, _, _, _, _, _, _, _, _, rfl⟩ ec_BadNumber.ox rfl rfl (by decide) (by decide) nf_BadNumber_value rfl (by decide) (by decide) nf_BadNumber_low rfl (by decide) (by decide) nf_BadNumber_high (He5.fun_of F_BadNumber)) bi_BadNumber
  have ec_TooMany : Ec K mg "TooMany" (He.ga K "TooMany") := w_ec_TooMany (P := P) (w := w) X G c
  have es_TooMany : Es K mg 29 "TooMany" (He.ga K "TooMany") := w_es_TooMany (P := P) (w := w) X G c
  have nf_TooMany_what := xi_no (c.more 73 (f := xiB "TooMany" ["what", "limit"]) rfl) (f := "what") (by simp)
  have nf_TooMany_limit := xi_no (c.more 73 (f := xiB "TooMany" ["what", "limit"]) rfl) (f := "limit") (by simp)
  obtain ⟨fd_TooMany, F_TooMany⟩ := (c.def_ 27 (d := dMe "TooMany" "__init__" "TooMany.__init__" s_ini_TooMany) rfl)
  have F_TooMany : FunD K "__init__" "TooMany.__init__" (defArgs s_ini_TooMany) (defBody s_ini_TooMany) (defScope s_ini_TooMany) [] [] (He.ma K (He.ga K "TooMany") "__init__") fd_TooMany := F_TooMany
  have bi_TooMany := bindsM (ps := ["self", "what", "limit"]) (fun _ _ _ _ _ _ us hl => match us, hl with | [_, _, _], _ => rfl) F_TooMany
  have m_TooMany : Xm P w K mg base "TooMany" (He.ga K "TooMany") ["what", "limit"] := xm_w ec_TooMany (c.more 73 (f := xiB "TooMany" ["what", "limit"]) rfl) (ini2 sc_ini_TooMany ⟨_, _, _, _, _, _, _, _, rfl⟩ ec_TooMany.ox rfl rfl (by decide) (by decide) nf_TooMany_what rfl (by decide) (by decide) nf_TooMany_limit (He5.fun_of F_TooMany)) bi_TooMany
  have c__law_mixed := ok_mixed (P := P) (w := w) (K := K) (mg := mg) (base := base) Z D
  have c__law_take := ok_take (P := P) (w := w) (K := K) (mg := mg) (base := base) Z D c__law_mixed
  have c__law_pick := ok_pick (P := P) (w := w) (K := K) (mg := mg) (base := base) Z D c__law_take
  have c__law_place := ok_place (P := P) (w := w) (K := K) (mg := mg) (base := base) Z D c__law_take
  have c__law_either := ok_either (P := P) (w := w) (K := K) (mg := mg) (base := base) Z D c__law_take
  have c__law_is_whole := ok_is_whole (P := P) (w := w) (K := K) (mg := mg) (base := base) Z D
  have c__law_is_whole_h := ok_is_whole_h (P := P) (w := w) (K := K) (mg := mg) (base := base) Z D
  have c_is_number := ok_is_number (P := P) (w := w) (K := K) (mg := mg) (base := base) Z D
  have c__law_store := ok_store (P := P) (w := w) (K := K) (mg := mg) (base := base) Z D
  have c_check_number := ok_check_number (P := P) (w := w) (K := K) (mg := mg) (base := base) Z D m_BadNumber c_is_number
  have c_exchanged := ok_exchanged (P := P) (w := w) (K := K) (mg := mg) (base := base) Z D
  have c_exchanged__l := ok_exchanged__l (P := P) (w := w) (K := K) (mg := mg) (base := base) Z D
  have c_check_entries := ok_check_entries (P := P) (w := w) (K := K) (mg := mg) (base := base) Z D m_TooMany
  have c_swapped := ok_swapped (P := P) (w := w) (K := K) (mg := mg) (base := base) Z D c_check_entries c_check_number c_exchanged
  have c_swapped__l := ok_swapped__l (P := P) (w := w) (K := K) (mg := mg) (base := base) Z D c_check_entries c_check_number c_exchanged__l
  have c__law_wrong_number := ok_wrong_number (P := P) (w := w) (K := K) (mg := mg) (base := base) Z D c__law_take c__law_pick
  have c__law_big := ok_big (P := P) (w := w) (K := K) (mg := mg) (base := base) Z D c__law_take c__law_pick
  have c__law_path := ok_lpath (P := P) (w := w) (K := K) (mg := mg) (base := base) Z D
  have c__law_words := ok_lwords (P := P) (w := w) (K := K) (mg := mg) (base := base) Z D
  have c__law_kinds_h := ok_kinds_h (P := P) (w := w) (K := K) (mg := mg) (base := base) Z D
  have c__law_path_turns := ok_turns (P := P) (w := w) (K := K) (mg := mg) (base := base) Z D c_swapped__l
  have c__law_agree := ok_agree (P := P) (w := w) (K := K) (mg := mg) (base := base) Z D c__law_is_whole 4
  have c__law_agree_h := ok_agree_h (P := P) (w := w) (K := K) (mg := mg) (base := base) Z D c__law_is_whole_h 4
  have c_swap_path_k := ok_swap_path_k (P := P) (w := w) (K := K) (mg := mg) (base := base) Z D B_swap_path c_check_number
  have c_swap_path := ok_swap_path (P := P) (w := w) (K := K) (mg := mg) (base := base) Z D c_swap_path_k
  have c_path_words := ok_path_words (P := P) (w := w) (K := K) (mg := mg) (base := base) Z D c_check_entries c_swap_path c_exchanged
  have c__law_right_error_h := ok_right_h (P := P) (w := w) (K := K) (mg := mg) (base := base) Z D c__law_kinds_h c__law_agree_h
  have c__law_refuses := ok_refuses (P := P) (w := w) (K := K) (mg := mg) (base := base) Z D (ErcK.mk es_BadNumber nf_BadNumber_value nf_BadNumber_low nf_BadNumber_high es_TooMany nf_TooMany_what nf_TooMany_limit) c_path_words c_swap_path c__law_right_error_h
  have c__law_path_holds := ok_holds (P := P) (w := w) (K := K) (mg := mg) (base := base) Z D c__law_path c_swap_path c__law_agree c__law_path_turns c_swap_path_k
  have c__law_words_hold := ok_words_hold (P := P) (w := w) (K := K) (mg := mg) (base := base) Z D c__law_words c__law_either c_path_words c__law_agree c_swap_path c_swapped
  exact ok_law Z D (He5.fun_of F) c__law_store c__law_take c__law_place c__law_pick c__law_either c__law_path_holds c__law_big c__law_words_hold c__law_wrong_number c__law_refuses
end Hd
open PySem PySem.W PySem.Calls PyProof.Rows
set_option maxHeartbeats 0 in
theorem PySem.Challenge.cw_heldorder_k51_the_swap_path_turns_two_ro_holds : PySem.Challenge.rw_heldorder_k51_the_swap_path_turns_two_ro.Holds := by
  w_on; o_law
  refine HandSHeadRun.head_any (r := OpenLaw.row PySem.Challenge.rw_heldorder_k51_the_swap_path_turns_two_ro) (q := view (OpenLaw.row PySem.Challenge.rw_heldorder_k51_the_swap_path_turns_two_ro).prog [65]) (H := Hd.hkL) (ob := Hd.obL) (M := 12000) (loose := Hd.looseL) (d := HandSHeadRun.topDef (OpenLaw.row PySem.Challenge.rw_heldorder_k51_the_swap_path_turns_two_ro).prog 65) (kwd := []) Hd.obL_eq
    (by kernel_rfl) (fun s => by kernel_rfl) Hd.runL (by kernel_rfl) (by kernel_rfl) (by kernel_rfl) (by rfl) (by first | assumption | decide +kernel) (by decide +kernel) ⟨rfl, rfl, rfl, rfl, rfl, by decide +kernel⟩ ?hw ?hc
  case hw => w_witness2
  case hc =>
    refine L2.walk_ofE (l := PySem.Challenge.rw_heldorder_k51_the_swap_path_turns_two_ro) (n := 63) (k := 8) (x := "script") (CX := L2.CX0) rfl (by decide) (by kernel_rfl) ⟨rfl, by decide, by decide⟩ ?F (fun _ _ _ _ z => z)
    intro w mg fa h Y G hmg0
    obtain ⟨K, KX, c⟩ := Y
    have hmg : mg ("law" : PySem.Str) = some (.ref fa) := by
      have e : (HandSHeadRun.topDef (OpenLaw.row PySem.Challenge.rw_heldorder_k51_the_swap_path_turns_two_ro).prog 65).name = ("law" : PySem.Str) := by kernel_rfl
      rw [← e]
      exact hmg0
    obtain ⟨fd, hb, hF⟩ := Hd.all_w (P := (PySem.Challenge.rw_heldorder_k51_the_swap_path_turns_two_ro).prog) (w := w) KX G hmg c
    exact ⟨K, fd, Hd.spLaw K, KX, hb, fun H a ns hl _ hS => Hd.spLaw_of hl hS, hF⟩
