import PyProof.Rows.All
import Wide.All
import OpenK.AllK
import Wide.FinOn
import HandS.ForMost
import HandS.IsInst
import HandS.Conv
import HandS.SortInts
import HandS.Style
import HandS.TupAny
import HandS.Deep
import HandS.TupMul
import HandS.More
import HandS.Evl
import KE.KEqSeq
import HandS.HotCalls
import HandS.ExcCtx
import HandS.ExcInit
import HandS.ExcInitHot
import HandS.ExcField
import HandS.ExcIs
import HandS.RaiseFrom
import KE.KExcIs
import KE.GoesMore
import HandS.SetFor
import HandS.ExcValue
import HandS.Strs
import HandS.TupLen
import HandS.NamedTupSort
import KE.KDictSum
import HandS.Property
import HandS.Defaults
import HandS.OwnEq
import HandS.HeadNt
import HandS.Head0
import HandS.Head1
import HandS.Head2
import HandS.HeadEnd
import HandS.IterVal
import HandS.IterNext
import HandS.TupLe
import PyProof.Rows.ReprR
import PyProof.ReprLen
import PySem.Challenge.RW_heldorder_k21_common_held
set_option Elab.async false
set_option linter.all false
set_option maxRecDepth 100000
set_option maxHeartbeats 4000000
namespace Hd
open PySem PySem.Spec PyProof.Rows L2

/-! ### defs of the text, promises of callees -/
def Def (K : PySem.W.Frag) (mg : Str → Option Value) (x : Str) (st : Stmt) (ps : List Str) : Prop :=
  ∃ f fd, Fun K x x st f fd ∧ mg x = some (.ref f) ∧ Binds K fd ps []
def Cal (P : Program) (w : World) (K : PySem.W.Frag) (mg : Str → Option Value) (base : Heap) (x : Str) (k : Nat) (ps : List Str) (sp : Sp) : Prop :=
  ∃ f fd, FnOk P w K mg base CX0 k f fd ps sp ∧ mg x = some (.ref f) ∧ PySem.W.keepIn K (.ref f) = true ∧ Binds K fd ps []
theorem def_mk {K : PySem.W.Frag} {h : Heap} {mg : Str → Option Value} {x : Str} {st : Stmt} {ps : List Str} {f : Addr} {oc : Value} {od an : Option Addr} {osl : Array (Option Value)} {kV doc pm cdv ct : Value}
    (X : K.In h) (G : h.Ns mainGlobals mg) (a : PySem.W.nsIn K mainGlobals x = some (some (.ref f)))
    (l : K.lookup f = some ⟨oc, od, .func (PySem.W.fnOf x x (defArgs st) (defBody st) (defScope st) .none kV doc pm an cdv ct), osl⟩)
    (c : PySem.W.codeIn K cdv x = true) (k : PySem.W.keepIn K (.ref f) = true)
    (hb : ∀ (kV doc pm : Value) (an : Option Addr) (cdv ct : Value) (us : List Value), us.length = ps.length → bindArgs (PySem.W.fnOf x x (defArgs st) (defBody st) (defScope st) .none kV doc pm an cdv ct) ⟨us, []⟩ = pure (ps.zip us)) : Def K mg x st ps := by
  have F := fun_mk (x := x) (qual := x) (st := st) l c k
  exact ⟨f, _, F, PySem.W.mg_of X G a, F.binds hb⟩
section
variable {P : Program} {w : World} {K : PySem.W.Frag} {mg : Str → Option Value} {base : Heap} {x : Str} {st : Stmt} {ps N : List Str} {k : Nat} {sp : Sp}
theorem Def.cal (D : Def K mg x st ps) (S : FnScope N ps (defScope st)) (len : ∀ vs H Q E, sp vs H Q E → vs.length = ps.length)
    (hbody : ∀ (f : Addr) (cdv : Value) (A : Around) (outer : List Env) (s : Shared) (H : Hp) (vs : List V) (Q : VK) (E : XK), Room k (A.deeper (envOfC x (defScope st) s.heap.objs.size f cdv)) → sp vs H Q E →
      ∃ t, PSs (cxOf CX0 P w K mg base N x (defScope st) f cdv A outer s H E).nox (defBody st) t ∧ t { nx := fun _ H' => Q .non H', rt := Q } (start N vs) H) : Cal P w K mg base x (k + 1) ps sp := by
  obtain ⟨f, fd, F, g, b⟩ := D
  exact ⟨f, fd, F.ok S len (fun cdv A outer s H vs Q E hr h => hbody f cdv A outer s H vs Q E hr h), g, F.kp, b⟩
end
section
variable {X : Cx} {x : Str} {p pos : Pos} {e : Expr} {es : List Expr} {k : Nat} {ps : List Str} {sp : Sp} {t : TA}
theorem pe_cal (C : Cal X.prog X.w X.K X.mg X.base x k ps sp) (hr : Room k X.A) (hg : Gl X x) (ha : PA X (e :: es) t) (hdb : (x == ("__debug__" : Str)) = false := by decide)
    (he : starEach (e :: es) X.env = (false, eval e X.env) :: starEach es X.env := by rfl) (hpl : (backTo pos (starEach es X.env)).any (·.1) = false := by rfl) :
    PE X (.Call (.Name x p) (e :: es) [] pos) (tCall sp [] E0 t) := by
  obtain ⟨f, fd, F, g, kp, b⟩ := C
  exact pe_call F hr hg g kp b .nil pass0 ha hdb he hpl
theorem pe_cal0 (C : Cal X.prog X.w X.K X.mg X.base x k ps sp) (hr : Room k X.A) (hg : Gl X x) (hdb : (x == ("__debug__" : Str)) = false := by decide) :
    PE X (.Call (.Name x p) [] [] pos) (tCall sp [] E0 tNil) := by
  obtain ⟨f, fd, F, g, kp, b⟩ := C
  exact pe_call0 F hr hg g kp b .nil pass0 hdb
end
section
variable {X : Cx}
theorem pe_globI {x : Str} {n : Int} {pos : Pos} (hg : Gl X x) (hm : ∃ t, X.mg x = some (.int n t)) (hd : (x == ("__debug__" : Str)) = false := by decide) : PE X (.Name x pos) (tC (.int n)) := by
  obtain ⟨t, h⟩ := hm
  exact pe_glob hg h ⟨t, rfl⟩ hd
end
/-! ### nested data that stands in a part of the heap -/
mutual
inductive Da (H : Hp) : V → PyData → Prop
  | non : Da H .non .none
  | bl (b : Bool) : Da H (.bl b) (.bool b)
  | int (i : Int) : Da H (.int i) (.int i)
  | str (x : Str) : Da H (.str x) (.str x)
  | lst {a : Addr} {xs : List V} {ds : List PyData} : H a = some (.lst xs) → DaAll H xs ds → Da H (.ref a) (.list ds)
  | tup {a : Addr} {xs : List V} {ds : List PyData} : H a = some (.tup xs) → DaAll H xs ds → Da H (.ref a) (.tuple ds)
inductive DaAll (H : Hp) : List V → List PyData → Prop
  | nil : DaAll H [] []
  | cons {v : V} {vs : List V} {d : PyData} {ds : List PyData} : Da H v d → DaAll H vs ds → DaAll H (v :: vs) (d :: ds)
end
mutual
theorem Da.mono {H H' : Hp} (g : Same H H') : ∀ (d : PyData) (v : V), Da H v d → Da H' v d
  | .none, _, h => by cases h; exact .non
  | .bool b, _, h => by cases h; exact .bl b
  | .int b, _, h => by cases h; exact .int b
  | .str b, _, h => by cases h; exact .str b
  | .list ds, _, h => by
    cases h with
    | lst a b => exact .lst (g _ _ a) (DaAll.mono g ds _ b)
  | .tuple ds, _, h => by
    cases h with
    | tup a b => exact .tup (g _ _ a) (DaAll.mono g ds _ b)
  | .dict _, _, h => by cases h
theorem DaAll.mono {H H' : Hp} (g : Same H H') : ∀ (ds : List PyData) (vs : List V), DaAll H vs ds → DaAll H' vs ds
  | [], _, h => by cases h; exact .nil
  | d :: ds, _, h => by
    cases h with
    | cons a b => exact .cons (Da.mono g d _ a) (DaAll.mono g ds _ b)
end
theorem Da.up {H H' : Hp} (g : Same H H') {v : V} {d : PyData} (h : Da H v d) : Da H' v d := Da.mono g d v h
theorem DaAll.up {H H' : Hp} (g : Same H H') {v : List V} {d : List PyData} (h : DaAll H v d) : DaAll H' v d := DaAll.mono g d v h
mutual
theorem Da.dp {K : PySem.W.Frag} {H : Hp} : ∀ (d : PyData) (v : V), Da H v d → Dp K H v d
  | .none, _, h => by cases h; exact .non
  | .bool b, _, h => by cases h; exact .bl b
  | .int b, _, h => by cases h; exact .int b
  | .str b, _, h => by cases h; exact .str b
  | .list ds, _, h => by
    cases h with
    | lst a b => exact .lst (.inl (.inl a)) (DaAll.dp ds _ b)
  | .tuple ds, _, h => by
    cases h with
    | tup a b => exact .tup (.inl (.inl a)) (DaAll.dp ds _ b)
  | .dict _, _, h => by cases h
theorem DaAll.dp {K : PySem.W.Frag} {H : Hp} : ∀ (ds : List PyData) (vs : List V), DaAll H vs ds → DpAll K H vs ds
  | [], _, h => by cases h; exact .nil
  | d :: ds, _, h => by
    cases h with
    | cons a b => exact .cons (Da.dp d _ a) (DaAll.dp ds _ b)
end
theorem DaAll.length {H : Hp} : ∀ {ds : List PyData} {vs : List V}, DaAll H vs ds → vs.length = ds.length
  | [], _, h => by cases h; rfl
  | d :: ds, _, h => by
    cases h with
    | cons a b => rw [List.length_cons, List.length_cons, DaAll.length b]
theorem DaAll.get {H : Hp} : ∀ {ds : List PyData} {vs : List V} {i : Nat} {v : V}, DaAll H vs ds → vs[i]? = some v → ∃ d, ds[i]? = some d ∧ Da H v d
  | [], _, i, v, h, e => by cases h; simp at e
  | d :: ds, _, 0, v, h, e => by
    cases h with
    | cons a b =>
      have e' := Option.some.inj e
      subst e'
      exact ⟨d, rfl, a⟩
  | d :: ds, _, i + 1, v, h, e => by
    cases h with
    | cons a b => exact DaAll.get (i := i) b e
/-- isinstance of nested data -/
def tyD : PyData → String
  | .none => "NoneType"
  | .bool _ => "bool"
  | .int _ => "int"
  | .str _ => "str"
  | .list _ => "list"
  | .tuple _ => "tuple"
  | .dict _ => "dict"
theorem Da.ty {K : PySem.W.Frag} {G H : Hp} (g : Same G H) {v : V} {d : PyData} (h : Da G v d) : TyX K H v (.type (tyD d)) := by
  cases h with
  | non => exact .base .non
  | bl b => exact .base (.bl b)
  | int b => exact .base (.int b)
  | str b => exact .base (.str b)
  | lst a b => exact .base (.lst (g _ _ a))
  | tup a b => exact .base (.tup (g _ _ a))
def isI : PyData → Bool
  | .int _ => true
  | _ => false
/-- isinstance(x, T) for T of int, bool, tuple, list, str: the answer -/
def instB (d : PyData) (T : String) : Bool := tyD d == T || (T == "int" && tyD d == "bool")
theorem kit_da {K : PySem.W.Frag} {H : Hp} {v : V} {d : PyData} (h : Da H v d) {T : String} (hT : T = "int" ∨ T = "bool" ∨ T = "tuple" ∨ T = "list" ∨ T = "str") : PySem.W.kitOne K (.type (tyD d)) (.type T) = some (instB d T) := by
  refine kit_ty ?_
  have e : tyD d = "NoneType" ∨ tyD d = "bool" ∨ tyD d = "int" ∨ tyD d = "str" ∨ tyD d = "list" ∨ tyD d = "tuple" := by
    cases h with
    | non => exact .inl rfl
    | bl b => exact .inr (.inl rfl)
    | int b => exact .inr (.inr (.inl rfl))
    | str b => exact .inr (.inr (.inr (.inl rfl)))
    | lst a b => exact .inr (.inr (.inr (.inr (.inl rfl))))
    | tup a b => exact .inr (.inr (.inr (.inr (.inr rfl))))
  unfold instB
  rcases hT with rfl | rfl | rfl | rfl | rfl <;> rcases e with e | e | e | e | e | e <;> rw [e] <;> decide +kernel
theorem rIsi_da {K : PySem.W.Frag} {G H : Hp} {Q : VK} (g : Same G H) {v : V} {d : PyData} (h : Da G v d) {T : String} (hT : T = "int" ∨ T = "bool" ∨ T = "tuple" ∨ T = "list" ∨ T = "str") (q : Q (.bl (instB d T)) H) : rIsi K [v, .ty T] H Q :=
  ⟨v, .ty T, _, _, instB d T, rfl, ClsV.ty T, h.ty g, kit_da h hT, q⟩
end Hd

namespace Hd
open PySem PySem.Spec PyProof.Rows L2
/-! ### heaps: what changed -/
/-- a new object o at p -/
structure New (H : Hp) (p : Addr) (o : HO) (H' : Hp) : Prop where
  fr : H p = none
  eq : H' = upd H p o
theorem New.at {H H' : Hp} {p : Addr} {o : HO} (n : New H p o H') : H' p = some o := by rw [n.eq]; exact upd_same
theorem New.same {H H' : Hp} {p : Addr} {o : HO} (n : New H p o H') : Same H H' := fun b u e => by
  rw [n.eq, upd_ne (ne_of_none e n.fr)]
  exact e
theorem New.ne {H H' : Hp} {p a : Addr} {o : HO} (n : New H p o H') (h : H a ≠ none) : a ≠ p := fun e => h (by rw [e]; exact n.fr)
/-- a tuple: it never changes, so it may be known at any time -/
def isT : HO → Bool
  | .tup _ => true
  | _ => false
/-- G is the part of the heap H that no longer changes; from (G, H) to (G', H'): all of G kept, only new objects known, all objects of H but that at S kept -/
structure Stp (S : Addr) (G H G' H' : Hp) : Prop where
  gg : Same G G'
  gh : Same G' H'
  nw : ∀ b o, H b = some o → isT o = false → G b = none → G' b = none
  hh : ∀ b o, b ≠ S → H b = some o → H' b = some o
  al : ∀ b o, H b = some o → ∃ o', H' b = some o' ∧ (isT o = false → isT o' = false)
structure Stq (G H G' H' : Hp) : Prop where
  gg : Same G G'
  gh : Same G' H'
  nw : ∀ b o, H b = some o → isT o = false → G b = none → G' b = none
  hh : Same H H'
theorem ne_none {H : Hp} {b : Addr} {o : HO} (h : H b = some o) : H b ≠ none := by rw [h]; intro z; cases z
theorem same_ne {H H' : Hp} (g : Same H H') {b : Addr} (h : H b ≠ none) : H' b ≠ none := by
  cases e : H b with
  | none => exact absurd e h
  | some o => exact ne_none (g _ _ e)
theorem Stq.al {G H G' H' : Hp} (s : Stq G H G' H') : ∀ b o, H b = some o → ∃ o', H' b = some o' ∧ (isT o = false → isT o' = false) := fun b o h => ⟨o, s.hh _ _ h, id⟩
theorem Stp.refl {S : Addr} {G H : Hp} (g : Same G H) : Stp S G H G H := ⟨Same.refl _, g, fun _ _ _ _ h => h, fun _ _ _ h => h, fun _ o h => ⟨o, h, id⟩⟩
theorem Stq.refl {G H : Hp} (g : Same G H) : Stq G H G H := ⟨Same.refl _, g, fun _ _ _ _ h => h, Same.refl _⟩
theorem Stp.trans {S : Addr} {G H G1 H1 G2 H2 : Hp} (a : Stp S G H G1 H1) (b : Stp S G1 H1 G2 H2) : Stp S G H G2 H2 :=
  ⟨a.gg.trans b.gg, b.gh, fun c o h t g => by
    obtain ⟨o1, h1, k⟩ := a.al c o h
    exact b.nw c o1 h1 (k t) (a.nw c o h t g), fun c o n h => b.hh c o n (a.hh c o n h), fun c o h => by
    obtain ⟨o1, h1, k⟩ := a.al c o h
    obtain ⟨o2, h2, k2⟩ := b.al c o1 h1
    exact ⟨o2, h2, fun t => k2 (k t)⟩⟩
theorem Stq.trans {G H G1 H1 G2 H2 : Hp} (a : Stq G H G1 H1) (b : Stq G1 H1 G2 H2) : Stq G H G2 H2 :=
  ⟨a.gg.trans b.gg, b.gh, fun c o h t g => b.nw c o (a.hh c o h) t (a.nw c o h t g), a.hh.trans b.hh⟩
theorem Stq.p {S : Addr} {G H G' H' : Hp} (s : Stq G H G' H') : Stp S G H G' H' := ⟨s.gg, s.gh, s.nw, fun b o _ h => s.hh b o h, s.al⟩
theorem Stp.q {S : Addr} {G H G1 H1 G2 H2 : Hp} (a : Stp S G H G1 H1) (b : Stq G1 H1 G2 H2) : Stp S G H G2 H2 := a.trans b.p
/-- a new object, known -/
theorem same_upd {G H : Hp} (g : Same G H) {p : Addr} {o : HO} (h : H p = none) : Same (upd G p o) (L2.upd H p o) := fun b u e => by
  by_cases hb : b = p
  · subst hb
    rw [upd_same] at e
    rw [upd_same]
    exact e
  · rw [upd_ne hb] at e
    rw [upd_ne hb]
    exact g _ _ e
theorem Stq.know {G H H' : Hp} {p : Addr} {o : HO} (g : Same G H) (n : New H p o H') : ∃ G', Stq G H G' H' ∧ G' p = some o ∧ ∀ b, b ≠ p → G' b = G b := by
  refine ⟨upd G p o, ⟨fun b u e => ?_, ?_, fun b o' h _ e => ?_, n.same⟩, upd_same, fun b h => upd_ne h⟩
  · rw [upd_ne (ne_of_none (g _ _ e) n.fr)]
    exact e
  · rw [n.eq]
    exact same_upd g n.fr
  · rw [upd_ne (n.ne (ne_none h))]
    exact e
/-- a new object, not (yet) known: it may change -/
theorem Stq.loc {G H H' : Hp} {p : Addr} {o : HO} (g : Same G H) (n : New H p o H') : Stq G H G H' ∧ G p = none ∧ H' p = some o :=
  ⟨⟨Same.refl _, g.trans n.same, fun _ _ _ _ h => h, n.same⟩, g.free n.fr, n.at⟩
/-- it has changed -/
theorem Stp.mut {S : Addr} {G0 H0 G H H' : Hp} (s : Stp S G0 H0 G H) {l : Addr} {o : HO} (g : G l = none) (f : H0 l = none) (e : H' = upd H l o) : Stp S G0 H0 G H' := by
  subst e
  refine ⟨s.gg, fun b u h => ?_, s.nw, fun b u n h => ?_, fun b u h => ?_⟩
  · rw [upd_ne (ne_of_none h g)]
    exact s.gh _ _ h
  · rw [upd_ne (ne_of_none h f)]
    exact s.hh b u n h
  · rw [upd_ne (ne_of_none h f)]
    exact s.al b u h
theorem Stq.mut {G0 H0 G H H' : Hp} (s : Stq G0 H0 G H) {l : Addr} {o : HO} (g : G l = none) (f : H0 l = none) (e : H' = upd H l o) : Stq G0 H0 G H' := by
  subst e
  refine ⟨s.gg, fun b u h => ?_, s.nw, fun b u h => ?_⟩
  · rw [upd_ne (ne_of_none h g)]
    exact s.gh _ _ h
  · rw [upd_ne (ne_of_none h f)]
    exact s.hh b u h
/-- it is known from now on -/
theorem Stp.frz {S : Addr} {G0 H0 G H : Hp} (s : Stp S G0 H0 G H) {l : Addr} {o : HO} (g : G l = none) (f : H0 l = none) (h : H l = some o) : ∃ G', Stp S G0 H0 G' H ∧ Same G G' ∧ G' l = some o ∧ ∀ b, b ≠ l → G' b = G b := by
  have gn : Same G (upd G l o) := fun b u e => by
    rw [upd_ne (ne_of_none e g)]
    exact e
  refine ⟨upd G l o, ⟨s.gg.trans gn, fun b u e => ?_, fun b u hb t e => ?_, s.hh, s.al⟩, gn, upd_same, fun b h => upd_ne h⟩
  · by_cases q : b = l
    · subst q
      rw [upd_same] at e
      rw [h]
      exact e
    · rw [upd_ne q] at e
      exact s.gh _ _ e
  · rw [upd_ne (ne_of_none hb f)]
    exact s.nw b u hb t e
theorem Stq.frz {G0 H0 G H : Hp} (s : Stq G0 H0 G H) {l : Addr} {o : HO} (g : G l = none) (f : H0 l = none) (h : H l = some o) : ∃ G', Stq G0 H0 G' H ∧ Same G G' ∧ G' l = some o ∧ ∀ b, b ≠ l → G' b = G b := by
  have gn : Same G (upd G l o) := fun b u e => by
    rw [upd_ne (ne_of_none e g)]
    exact e
  refine ⟨upd G l o, ⟨s.gg.trans gn, fun b u e => ?_, fun b u hb t e => ?_, s.hh⟩, gn, upd_same, fun b h => upd_ne h⟩
  · by_cases q : b = l
    · subst q
      rw [upd_same] at e
      rw [h]
      exact e
    · rw [upd_ne q] at e
      exact s.gh _ _ e
  · rw [upd_ne (ne_of_none hb f)]
    exact s.nw b u hb t e
/-! ### readings in a form of our own -/
section
variable {X : Cx} {e : Expr} {t t' : TE}
theorem PE.mono (h : PE X e t) (m : ∀ σ H Q, t' σ H Q → t σ H Q) : PE X e t' := ⟨fun pins s σ H Q I q => h.run pins s σ H Q I (m σ H Q q)⟩
theorem PT.mono {t t' : TT} (h : PT X e t) (m : ∀ σ H Q, t' σ H Q → t σ H Q) : PT X e t' := ⟨fun pins s σ H Q I q => h.run pins s σ H Q I (m σ H Q q)⟩
theorem callR_mono {f : Value} {r r' : List V → Hp → VK → Prop} (h : CallR X f r) (m : ∀ xs H Q, r' xs H Q → r xs H Q) : CallR X f r' := fun pins s σ H xs us Q I rv q => h pins s σ H xs us Q I rv (m _ _ _ q)
theorem opR_mono {f : Value → Value → Sem Value} {r r' : R2} (h : OpR X f r) (m : ∀ x y H Q, r' x y H Q → r x y H Q) : OpR X f r' := fun pins s σ H x y v u Q I rx ry q => h pins s σ H x y v u Q I rx ry (m _ _ _ _ q)
theorem mtR_mono {id : String} {r r' : V → List V → Hp → VK → Prop} (h : MtR X id r) (m : ∀ x xs H Q, r' x xs H Q → r x xs H Q) : MtR X id r' := fun pins s σ H x xs v us Q I rx rxs q => h pins s σ H x xs v us Q I rx rxs (m _ _ _ _ q)
theorem slR_mono {r r' : V → Option Int → Option Int → Hp → VK → Prop} (h : SlR X r) (m : ∀ x a b H Q, r' x a b H Q → r x a b H Q) : SlR X r' := fun pins s σ H x v vl vu lo hi sl Q I rx hs pl pu q => h pins s σ H x v vl vu lo hi sl Q I rx hs pl pu (m _ _ _ _ _ q)
end
section
variable {X : Cx}
def rLstN (t : TA) : TE := fun σ H Q => t σ H fun xs H1 => xs.length ≤ sizeLine ∧ ∀ p H2, New H1 p (.lst xs) H2 → Q (.ref p) H2
def rTupN (t : TA) : TE := fun σ H Q => t σ H fun xs H1 => xs.length ≤ sizeLine ∧ ∀ p H2, New H1 p (.tup xs) H2 → Q (.ref p) H2
theorem newAll {H : Hp} {o : HO} {K : Addr → Hp → Prop} : (∀ p H2, New H p o H2 → K p H2) ↔ ∀ p, H p = none → K p (upd H p o) :=
  ⟨fun h p e => h p _ ⟨e, rfl⟩, fun h p H2 n => by rw [n.eq]; exact h p n.fr⟩
theorem rLstN_eq (t : TA) : rLstN t = tLst t := funext fun σ => funext fun H => funext fun Q =>
  congrArg (t σ H) (funext fun xs => funext fun H1 => propext (and_congr_right fun _ => newAll (K := fun p H2 => Q (.ref p) H2)))
theorem rTupN_eq (t : TA) : rTupN t = tTup t := funext fun σ => funext fun H => funext fun Q =>
  congrArg (t σ H) (funext fun xs => funext fun H1 => propext (and_congr_right fun _ => newAll (K := fun p H2 => Q (.ref p) H2)))
theorem pe_lstN {es : List Expr} {t : TA} {pos : Pos} (h : PA X es t) : PE X (.List es pos) (rLstN t) := by
  rw [rLstN_eq]
  exact pe_lst h
theorem pe_tupN {es : List Expr} {t : TA} {x1 : Nat} {pos : Pos} (h : PA X es t) : PE X (.Tuple es x1 pos) (rTupN t) := by
  rw [rTupN_eq]
  exact pe_tup h
/-- list(xs), of a list or tuple -/
def rListN (K : PySem.W.Frag) : List V → Hp → VK → Prop := fun xs H Q => ∃ p ys, xs = [.ref p] ∧ (SqL K H p ys ∨ SqT K H p ys) ∧ ∀ l H2, New H l (.lst ys) H2 → Q (.ref l) H2
theorem call_listN : CallR X (.type "list") (rListN X.K) := callR_mono call_list_of fun xs H Q h => by
  obtain ⟨p, ys, e, h, q⟩ := h
  exact ⟨p, ys, e, h, fun l hl => q l _ ⟨hl, rfl⟩⟩
/-- tuple(xs), of a list -/
def rTupleN (K : PySem.W.Frag) : List V → Hp → VK → Prop := fun xs H Q => ∃ p ys, xs = [.ref p] ∧ SqL K H p ys ∧ ∀ l H2, New H l (.tup ys) H2 → Q (.ref l) H2
theorem call_tupleN : CallR X (.type "tuple") (rTupleN X.K) := callR_mono call_tuple_of fun xs H Q h => by
  obtain ⟨p, ys, e, h, q⟩ := h
  exact ⟨p, ys, e, .inl ⟨h, fun l hl => q l _ ⟨hl, rfl⟩⟩⟩
/-- list(range(..)) -/
def tLstRgN (te : L2.St → Hp → (Int → Int → Hp → Prop) → Prop) : TE := fun σ H Q => te σ H fun a b H1 => RgOk a b ∧ ∀ q H2, New H1 q (.lst (rgV a b)) H2 → Q (.ref q) H2
def tTupRgN (te : L2.St → Hp → (Int → Int → Hp → Prop) → Prop) : TE := fun σ H Q => te σ H fun a b H1 => RgOk a b ∧ ∀ q H2, New H1 q (.tup (rgV a b)) H2 → Q (.ref q) H2
/-- xs[a:b] of a list -/
def rSlLN (K : PySem.W.Frag) : V → Option Int → Option Int → Hp → VK → Prop := fun x lo hi H Q => ∃ a xs, x = .ref a ∧ SqL K H a xs ∧ ∀ p H2, New H p (.lst (cutV xs lo hi)) H2 → Q (.ref p) H2
theorem sl_listN : SlR X (rSlLN X.K) := slR_mono sl_list fun x lo hi H Q h => by
  obtain ⟨a, xs, e, h, q⟩ := h
  exact ⟨a, xs, e, h, fun p hp => q p _ ⟨hp, rfl⟩⟩
/-- methods that change a list -/
def rAppendN : V → List V → Hp → VK → Prop := fun x vs H Q => ∃ l xs y, x = .ref l ∧ vs = [y] ∧ H l = some (.lst xs) ∧ xs.length < sizeLine ∧ ∀ H2, H2 = upd H l (.lst (xs ++ [y])) → Q .non H2
theorem mt_appendN : MtR X "list.append" rAppendN := mtR_mono mt_append fun x xs H Q h => by
  obtain ⟨l, zs, y, e1, e2, h, z, q⟩ := h
  exact ⟨l, zs, y, e1, e2, h, z, q _ rfl⟩
def rPopN : V → List V → Hp → VK → Prop := fun x vs H Q => ∃ l xs y, x = .ref l ∧ vs = [] ∧ H l = some (.lst xs) ∧ xs[xs.length - 1]? = some y ∧ ∀ H2, H2 = upd H l (.lst xs.dropLast) → Q y H2
theorem mt_popN : MtR X "list.pop" rPopN := mtR_mono mt_pop fun x xs H Q h => by
  obtain ⟨l, zs, y, e1, e2, h, z, q⟩ := h
  exact ⟨l, zs, y, e1, e2, h, z, q _ rfl⟩
/-- xs.pop(i), 0 ≤ i < len(xs) -/
def rPopAtN : V → List V → Hp → VK → Prop := fun x vs H Q => ∃ l xs i k y, x = .ref l ∧ vs = [.int i] ∧ H l = some (.lst xs) ∧ i = ((k : Nat) : Int) ∧ k < 2 ^ 63 ∧ xs[k]? = some y ∧ ∀ H2, H2 = upd H l (.lst (xs.eraseIdx k)) → Q y H2
theorem seqIndex_nat {n k : Nat} (h : k < n) : seqIndex? (k : Int) n = some k := by
  have := ixN_seq (n := n) (i := (k : Int)) (j := k) (by
    unfold ixN
    rw [if_pos (by omega), if_pos (by omega)]
    rfl)
  exact this.1
theorem mt_popAtN : MtR X "list.pop" rPopAtN := mtR_mono mt_popAt fun x xs H Q h => by
  obtain ⟨l, zs, i, k, y, e1, e2, h, rfl, b, z, q⟩ := h
  exact ⟨l, zs, _, k, y, e1, e2, h, by omega, by omega, seqIndex_nat (List.getElem?_eq_some_iff.mp z).1, z, q _ rfl⟩
def rInsertN : V → List V → Hp → VK → Prop := fun x vs H Q => ∃ (l : Addr) (xs : List V) (i : Int) (y : V), x = .ref l ∧ vs = [.int i, y] ∧ H l = some (.lst xs) ∧ xs.length < sizeLine ∧ 0 ≤ i ∧ i < 2 ^ 63 ∧
    ∀ H2, H2 = upd H l (.lst (xs.take i.toNat ++ [y] ++ xs.drop i.toNat)) → Q .non H2
theorem mt_insertN : MtR X "list.insert" rInsertN := mtR_mono mt_insert fun x xs H Q h => by
  obtain ⟨l, zs, i, y, e1, e2, h, z, a, b, q⟩ := h
  exact ⟨l, zs, i, y, e1, e2, h, z, a, b, q _ rfl⟩
def rSetN : V → V → V → Hp → (Hp → Prop) → Prop := fun o i v H Q => ∃ p xs k, o = .ref p ∧ i = .int ((k : Nat) : Int) ∧ H p = some (.lst xs) ∧ k < xs.length ∧ ∀ H2, H2 = upd H p (.lst (xs.set k v)) → Q H2
theorem ixN_of {n k : Nat} (h : k < n) : ixN n (k : Int) = some k := by
  unfold ixN
  rw [if_pos (by omega), if_pos (by omega)]
  rfl
theorem set_listN : PSet X rSetN := fun pins s σ H o i v uo ui uv Q I ro ri rv h => by
  obtain ⟨p, xs, k, e1, e2, h, z, q⟩ := h
  exact set_list pins s σ H o i v uo ui uv Q I ro ri rv ⟨p, xs, _, k, e1, e2, h, ixN_of z, q _ rfl⟩
/-- xs + ys of two lists -/
def rCatN : R2 := fun x y H Q => ∃ l b xs zs, x = .ref l ∧ y = .ref b ∧ H l = some (.lst xs) ∧ H b = some (.lst zs) ∧ xs.length + zs.length ≤ sizeLine ∧ ∀ p H2, New H p (.lst (xs ++ zs)) H2 → Q (.ref p) H2
theorem op_catN : OpR X (binaryOp .Add) rCatN := opR_mono op_cat fun x y H Q h => by
  obtain ⟨l, b, xs, zs, e1, e2, h1, h2, z, q⟩ := h
  exact ⟨l, b, xs, zs, e1, e2, h1, h2, z, fun p hp => q p _ ⟨hp, rfl⟩⟩
/-- isinstance(x, T) of nested data -/
def okT (T : String) : Prop := T = "int" ∨ T = "bool" ∨ T = "tuple" ∨ T = "list" ∨ T = "str"
theorem ok_int : okT "int" := .inl rfl
theorem ok_bool : okT "bool" := .inr (.inl rfl)
theorem ok_tuple : okT "tuple" := .inr (.inr (.inl rfl))
theorem ok_list : okT "list" := .inr (.inr (.inr (.inl rfl)))
theorem ok_str : okT "str" := .inr (.inr (.inr (.inr rfl)))
def rIsD : List V → Hp → VK → Prop := fun xs H Q => ∃ v d T, xs = [v, .ty T] ∧ Da H v d ∧ okT T ∧ Q (.bl (instB d T)) H
theorem call_isD : CallR X (.builtin "isinstance") rIsD := callR_mono call_isi fun xs H Q h => by
  obtain ⟨v, d, T, rfl, hd, hT, q⟩ := h
  exact rIsi_da (Same.refl H) hd hT q
theorem kitAny_two {K : PySem.W.Frag} {t a b : Value} {x y : Bool} (h1 : PySem.W.kitOne K t a = some x) (h2 : PySem.W.kitOne K t b = some y) : PySem.W.kitAny K t [a, b] = some (x || y) := by
  unfold PySem.W.kitAny
  rw [h1]
  cases x with
  | true => rfl
  | false =>
    show PySem.W.kitAny K t [b] = some y
    unfold PySem.W.kitAny
    rw [h2]
    cases y <;> rfl
/-- isinstance(x, (list, tuple)) -/
def rIsD2 : List V → Hp → VK → Prop := fun xs H Q => ∃ v d tp, xs = [v, .ref tp] ∧ H tp = some (.tup [.ty "list", .ty "tuple"]) ∧ Da H v d ∧ Q (.bl (instB d "list" || instB d "tuple")) H
theorem call_isD2 : CallR X (.builtin "isinstance") rIsD2 := callR_mono call_isiT fun xs H Q h => by
  obtain ⟨v, d, tp, rfl, ht, hd, q⟩ := h
  refine ⟨v, tp, _, _, [.type "list", .type "tuple"], _, rfl, ht, .cons (.ty _) (.cons (.ty _) .nil), hd.ty (Same.refl H), kitAny_two (kit_da hd (.inr (.inr (.inr (.inl rfl))))) (kit_da hd (.inr (.inr (.inl rfl)))), q⟩
section
variable {e : Expr} {te : L2.St → Hp → (Int → Int → Hp → Prop) → Prop}
theorem lstRg_eq (te : L2.St → Hp → (Int → Int → Hp → Prop) → Prop) : tLstRgN te = tLstRg te := funext fun σ => funext fun H => funext fun Q =>
  congrArg (te σ H) (funext fun a => funext fun b => funext fun H1 => propext (and_congr_right fun _ => newAll (K := fun p H2 => Q (.ref p) H2)))
theorem tupRg_eq (te : L2.St → Hp → (Int → Int → Hp → Prop) → Prop) : tTupRgN te = tTupRg te := funext fun σ => funext fun H => funext fun Q =>
  congrArg (te σ H) (funext fun a => funext fun b => funext fun H1 => propext (and_congr_right fun _ => newAll (K := fun p H2 => Q (.ref p) H2)))
theorem pe_listRgN {p pos : Pos} (hc : X.calm = true) (hg : Gl X "list") (hm : X.mg "list" = none) (he : PRg X e te) (na : starEach [e] X.env = (false, eval e X.env) :: starEach [] X.env := by rfl) :
    PE X (.Call (.Name "list" p) [e] [] pos) (tLstRgN te) := by
  rw [lstRg_eq]
  exact pe_listRg hc hg hm he na
theorem pe_tupRgN {p pos : Pos} (hc : X.calm = true) (hg : Gl X "tuple") (hm : X.mg "tuple" = none) (he : PRg X e te) (na : starEach [e] X.env = (false, eval e X.env) :: starEach [] X.env := by rfl) :
    PE X (.Call (.Name "tuple" p) [e] [] pos) (tTupRgN te) := by
  rw [tupRg_eq]
  exact pe_tupRg hc hg hm he na
end
/-- is, is not: nested data against True, False -/
def rIsBD : R2 := fun x y H Q => ∃ d b, Da H x d ∧ y = .bl b ∧ Q (.bl (decide (x = .bl b))) H
def rNotBD : R2 := fun x y H Q => ∃ d b, Da H x d ∧ y = .bl b ∧ Q (.bl (!decide (x = .bl b))) H
theorem plain_bl {H : Hp} {x : V} {d : PyData} {v : Value} {b : Bool} (h : Da H x d) (r : RelV x v) : plainIs v (.bool b) = true := by
  cases h with
  | non => cases r; rfl
  | bl c => cases r; rfl
  | int i => obtain ⟨t, rfl⟩ := r; rfl
  | str i => obtain ⟨t, rfl⟩ := r; rfl
  | lst a c => cases r; rfl
  | tup a c => cases r; rfl
theorem rel_bl {H : Hp} {x : V} {d : PyData} {v : Value} {b : Bool} (h : Da H x d) (r : RelV x v) : v = .bool b ↔ x = .bl b := by
  cases h with
  | non => cases r; exact ⟨(fun z => nomatch z), (fun z => nomatch z)⟩
  | bl c => cases r; exact ⟨fun z => by cases z; rfl, fun z => by cases z; rfl⟩
  | int i => obtain ⟨t, rfl⟩ := r; exact ⟨(fun z => nomatch z), (fun z => nomatch z)⟩
  | str i => obtain ⟨t, rfl⟩ := r; exact ⟨(fun z => nomatch z), (fun z => nomatch z)⟩
  | lst a c => cases r; exact ⟨(fun z => nomatch z), (fun z => nomatch z)⟩
  | tup a c => cases r; exact ⟨(fun z => nomatch z), (fun z => nomatch z)⟩
theorem op_isBD : OpR X (compareOp .Is) rIsBD := by
  intro pins s σ H x y v u Q I rx ry h
  obtain ⟨d, b, hd, rfl, q⟩ := h
  cases (show u = Value.bool b from ry)
  have q' : Q (.bl (decide (x = .bl b))) H := q
  by_cases e : x = .bl b
  · have ev := (rel_bl hd rx).mpr e
    subst ev
    rw [decide_eq_true e] at q'
    exact wpAny_is_self (by rfl) ⟨.bl true, H, I, rfl, q'⟩
  · rw [decide_eq_false e] at q'
    exact wpAny_is_other (plain_bl hd rx) (fun z => e ((rel_bl hd rx).mp z)) ⟨.bl false, H, I, rfl, q'⟩
theorem op_notBD : OpR X (compareOp .IsNot) rNotBD := by
  intro pins s σ H x y v u Q I rx ry h
  obtain ⟨d, b, hd, rfl, q⟩ := h
  cases (show u = Value.bool b from ry)
  have q' : Q (.bl (!decide (x = .bl b))) H := q
  by_cases e : x = .bl b
  · have ev := (rel_bl hd rx).mpr e
    subst ev
    rw [decide_eq_true e] at q'
    exact wpAny_isNot_self (by rfl) ⟨.bl false, H, I, rfl, q'⟩
  · rw [decide_eq_false e] at q'
    exact wpAny_isNot_other (plain_bl hd rx) (fun z => e ((rel_bl hd rx).mp z)) ⟨.bl true, H, I, rfl, q'⟩
/-! ### sorted of a tuple of ints -/
section
variable {prog : Program} {w : World} {A : Around} {E : Value → Shared → Prop} {s : Shared}
/-- what is collected of a tuple: a new list, its items -/
theorem collect_tup {t : Addr} {us : List Value} {R : List Value → Shared → Prop} (ht : IsTup s.heap t us.toArray) (small : us.length ≤ sizeLine)
    (done : R us { s with heap := (s.heap.push (seqObj "list" #[] 0)).update s.heap.objs.size (Obj.mapSeq (· ++ us.toArray)) }) : wpAny (model prog w) A (collect (.ref t)) R E s := by
  obtain ⟨ob, at0, cls0, ep, dat⟩ := id ht
  have at1 : (s.heap.push (seqObj "list" #[] 0)).get? t = some ob := Heap.get?_push_of_some _ at0
  have mine : (s.heap.push (seqObj "list" #[] 0)).get? s.heap.objs.size = some (seqObj "list" #[] 0) := Heap.get?_push_size _ rfl
  unfold collect
  refine wpAny_bind (wpAny_runValue (codeAny_builtin entry_proto_collect' ?a))
  show wpAny _ _ (do again (.builtin "list.__iadd__" ⟨[← newList [], .ref t], []⟩)) _ _ s
  refine wpAny_bind (wpAny_newList (wpAny_pure ⟨Code.quiet_builtin _ (by decide +kernel), codeAny_builtin entry_list_iadd' ?b⟩))
  show wpAny _ _ (Builtin.List.listExtendWith (.ref s.heap.objs.size) (.ref t) (.ref s.heap.objs.size)) _ _ { s with heap := _ }
  unfold Builtin.List.listExtendWith
  refine wpAny_bind (wpAny_typeOf (T := "tuple") ⟨ob, at1, cls0⟩ ?c)
  rw [if_pos (by rw [(rfl : (Value.type "tuple" == Value.type "tuple") = true)]; simp)]
  refine wpAny_bind (listItems_at at1 dat (wpAny_bind (listItems_at (xs := #[]) (n := 0) mine rfl ?d)))
  rw [if_neg (by simp)]
  have room : ((#[] : Array Value) ++ us.toArray).size ≤ sizeLine + 1 := by
    rw [Array.size_append, List.size_toArray]
    exact Nat.le_succ_of_le (by simpa using small)
  refine wpAny_bind (listUpdate_at (xs := #[]) (n := 0) mine rfl (wpAny_pure ?e) (Nat.zero_le _) room)
  show wpAny (model prog w) A (do match (← load s.heap.objs.size).data with | .seq xs _ => pure xs.toList | _ => unsupported "internal:collect") R E { s with heap := _ }
  refine wpAny_bind (wpAny_load (get?_update_seq mine _) ?f)
  have same : ((#[] : Array Value) ++ us.toArray).toList = us := by simp
  show wpAny _ _ (pure ((#[] : Array Value) ++ us.toArray).toList) R E _
  rw [same]
  exact wpAny_pure done
open SrtO in
/-- sorted of a tuple: its items in a new list, in order -/
theorem sorted_tup {t : Addr} {us : List Value} {lt : Value → Value → Bool} {R : Value → Shared → Prop} (O : Swo lt) (ht : IsTup s.heap t us.toArray) (small : us.length ≤ sizeLine)
    (cmp : 2 ≤ us.length → ∀ (g : Heap) (b : Addr), g.get? b = some (seqObj "list" us.toArray 0) → (∀ c o, s.heap.get? c = some o → c ≠ b ∧ g.get? c = some o) → SortableO prog w A.in1.in1 { s with heap := g } b us lt)
    (done : ∀ os : List Value, Srtd lt os → Stb lt os us → R (.ref (s.heap.objs.size + 1)) { s with heap := sortedAll s.heap us os.toArray }) : wpAny (model prog w) A (call (.builtin "sorted") [.ref t]) R E s := by
  refine Calls.call_function_entry kind_sorted plain_sorted entry_sorted (args_sorted1 _) ?_
  unfold Builtin.«sorted»
  refine wpAny_bind (m := checkCount "sorted" 1 1 _) (wpAny_pure (wpAny_bind (collect_tup ht small (wpAny_bind (wpAny_newList ?_ small)))))
  have len1 : ((s.heap.push (seqObj "list" #[] 0)).update s.heap.objs.size (Obj.mapSeq (· ++ us.toArray))).objs.size = s.heap.objs.size + 1 := by rw [Heap.size_update, size_push']
  have here : (((s.heap.push (seqObj "list" #[] 0)).update s.heap.objs.size (Obj.mapSeq (· ++ us.toArray))).push (seqObj "list" us.toArray 0)).get? (s.heap.objs.size + 1) = some (seqObj "list" us.toArray 0) := len1 ▸ Heap.get?_push_size _ rfl
  have old : ∀ c o, s.heap.get? c = some o → c ≠ s.heap.objs.size + 1 ∧ (((s.heap.push (seqObj "list" #[] 0)).update s.heap.objs.size (Obj.mapSeq (· ++ us.toArray))).push (seqObj "list" us.toArray 0)).get? c = some o := by
    intro c o hc
    have below := Heap.lt_size hc
    have k : ((s.heap.push (seqObj "list" #[] 0)).update s.heap.objs.size (Obj.mapSeq (· ++ us.toArray))).get? c = some o :=
      (Heap.get?_update_ne _ _ _ _ (Nat.ne_of_lt below)).trans (Heap.get?_push_of_some _ hc)
    exact ⟨Nat.ne_of_lt (Nat.lt_succ_of_lt below), Heap.get?_push_of_some _ k⟩
  show wpAny _ _ _ _ _ { s with heap := ((s.heap.push (seqObj "list" #[] 0)).update s.heap.objs.size (Obj.mapSeq (· ++ us.toArray))).push (seqObj "list" us.toArray 0) }
  rw [len1]
  refine wpAny_bind (wpAny_holding (wpAny_call_entry slot_list_sort ⟨_, here, rfl⟩ entry_list_sort ?_ (args_list_sort _)))
  exact list_sort_ord O here small (fun two => cmp two _ _ here old) fun os h1 h2 => ⟨_, rfl, wpAny_pure ⟨_, rfl, done os h1 h2⟩⟩
end
/-- sorted(t), t a tuple of ints -/
def rSortT (K : PySem.W.Frag) : List V → Hp → VK → Prop := fun vs H Q => ∃ (a : Addr) (ns : List Int), vs = [V.ref a] ∧ SqT K H a (ns.map V.int) ∧
  ∀ (ns' : List Int) (p : Addr) (H2 : Hp), ns'.Perm ns → ns'.Pairwise (· ≤ ·) → New H p (.lst (ns'.map V.int)) H2 → Q (.ref p) H2
theorem call_sortT : CallR X (.builtin "sorted") (rSortT X.K) := by
  intro pins s σ H vs us Q I r h
  obtain ⟨a, ns, rfl, hs, q⟩ := h
  obtain ⟨its, rv, hl, hz⟩ := I.tuple hs
  rw [Vals.ref1 r]
  have hi := rv.ints
  refine sorted_tup SrtO.swo_int hl (by rw [← rv.length]; exact hz) (fun h2 h₁ a' _ _ => SrtO.ints_sortable hi h2) fun out h1 h2 => ?_
  obtain ⟨k1, k2, k3⟩ := SrtO.ints_out hi h1 h2
  obtain ⟨ep, he'⟩ := PyProof.Rows.sortedAll_at s.heap its out.toArray
  have hlen : ((out.map SrtO.iv).map V.int).length ≤ sizeLine := by
    rw [List.length_map, k2.length_eq]
    rw [List.length_map] at hz
    exact hz
  exact ⟨.ref _, upd H (s.heap.objs.size + 1) (.lst ((out.map SrtO.iv).map V.int)), I.laid (t' := s.toks) (fun _ _ => PyProof.Rows.sortedAll_old) (Nat.le_succ _) ⟨hlen, out, ep, vals_of_ints k1, he'⟩, rfl, q _ _ _ k2 k3 ⟨I.hok.fresh (Nat.le_succ _), rfl⟩⟩
end
end Hd

namespace Hd
open PySem PySem.Spec PyProof.Rows L2
/-! ### the store of draws -/
structure Sr where
  a : Addr
  c : Addr
  ns : List Int
def StOk (S : Sr) (H : Hp) : Prop := ∃ i1 i2 i3 i4 i5 i6 : Int, H S.a = some (.lst [.ref S.c, .int i1, .int i2, .int i3, .int i4, .int i5, .int i6]) ∧ H S.c = some (.lst (S.ns.map V.int)) ∧ 0 ≤ i1
theorem StOk.ca {S : Sr} {H : Hp} (h : StOk S H) : S.c ≠ S.a := by
  obtain ⟨i1, i2, i3, i4, i5, i6, h1, h2, _⟩ := h
  intro e
  rw [e, h1] at h2
  have := HO.lst.inj (Option.some.inj h2)
  cases hn : S.ns with
  | nil => rw [hn] at this; cases this
  | cons x r => rw [hn] at this; cases this
structure Wd (S : Sr) (G H : Hp) : Prop where
  gh : Same G H
  gs : G S.a = none
  st : StOk S H
structure Go (S : Sr) (G H G' H' : Hp) : Prop where
  s : Stp S.a G H G' H'
  w0 : Wd S G H
  st : StOk S H'
section
variable {S : Sr} {G H G1 H1 G2 H2 : Hp}
theorem StOk.na (h : StOk S H) : H S.a ≠ none := by
  obtain ⟨i1, i2, i3, i4, i5, i6, h1, h2, _⟩ := h
  exact ne_none h1
theorem StOk.nc (h : StOk S H) : H S.c ≠ none := by
  obtain ⟨i1, i2, i3, i4, i5, i6, h1, h2, _⟩ := h
  exact ne_none h2
theorem StOk.up (h : StOk S H) (g : Same H H1) : StOk S H1 := by
  obtain ⟨i1, i2, i3, i4, i5, i6, h1, h2, z⟩ := h
  exact ⟨i1, i2, i3, i4, i5, i6, g _ _ h1, g _ _ h2, z⟩
theorem Go.wd (s : Go S G H G1 H1) : Wd S G1 H1 := ⟨s.s.gh, by
  obtain ⟨i1, i2, i3, i4, i5, i6, h1, h2, _⟩ := s.w0.st
  exact s.s.nw _ _ h1 rfl s.w0.gs, s.st⟩
theorem Go.refl (w : Wd S G H) : Go S G H G H := ⟨.refl w.gh, w, w.st⟩
theorem Go.trans (a : Go S G H G1 H1) (b : Go S G1 H1 G2 H2) : Go S G H G2 H2 := ⟨a.s.trans b.s, a.w0, b.st⟩
theorem Go.q (a : Go S G H G1 H1) (b : Stq G1 H1 G2 H2) : Go S G H G2 H2 := ⟨a.s.q b, a.w0, a.st.up b.hh⟩
theorem Go.gg (a : Go S G H G1 H1) : Same G G1 := a.s.gg
theorem Go.gh (a : Go S G H G1 H1) : Same G1 H1 := a.s.gh
theorem Go.hh (a : Go S G H G1 H1) {b : Addr} {o : HO} (h : H b = some o) (n : b ≠ S.a) : H1 b = some o := a.s.hh b o n h
theorem Go.nw (a : Go S G H G1 H1) {b : Addr} {o : HO} (h : H b = some o) (g : G b = none) (t : isT o = false := by rfl) : G1 b = none := a.s.nw b o h t g
theorem Go.know {p : Addr} {o : HO} (a : Go S G H G1 H1) (n : New H1 p o H2) : ∃ G2, Go S G H G2 H2 ∧ Same G1 G2 ∧ G2 p = some o ∧ ∀ b, b ≠ p → G2 b = G1 b := by
  obtain ⟨G2, s, e, k⟩ := Stq.know a.gh n
  exact ⟨G2, a.q s, s.gg, e, k⟩
theorem Go.fresh {p : Addr} (a : Go S G H G1 H1) (n : H1 p = none) : H p = none := by
  cases e : H p with
  | none => rfl
  | some o =>
    obtain ⟨o', h, _⟩ := a.s.al p o e
    rw [n] at h
    cases h
theorem Go.loc {p : Addr} {o : HO} (a : Go S G H G1 H1) (n : New H1 p o H2) : Go S G H G1 H2 ∧ G1 p = none ∧ H2 p = some o ∧ H p = none := by
  obtain ⟨s, g, e⟩ := Stq.loc a.gh n
  exact ⟨a.q s, g, e, a.fresh n.fr⟩
theorem Go.mut {l : Addr} {o : HO} (a : Go S G H G1 H1) (g : G1 l = none) (f : H l = none) (e : H2 = upd H1 l o) : Go S G H G1 H2 := by
  refine ⟨a.s.mut g f e, a.w0, ?_⟩
  have n1 : S.a ≠ l := fun q => a.w0.st.na (by rw [q]; exact f)
  have n2 : S.c ≠ l := fun q => a.w0.st.nc (by rw [q]; exact f)
  subst e
  obtain ⟨i1, i2, i3, i4, i5, i6, h1, h2, z⟩ := a.st
  exact ⟨i1, i2, i3, i4, i5, i6, by rw [upd_ne n1]; exact h1, by rw [upd_ne n2]; exact h2, z⟩
theorem Go.put {i1 i2 i3 i4 i5 i6 : Int} (a : Go S G H G1 H1) (e : H2 = upd H1 S.a (.lst [.ref S.c, .int i1, .int i2, .int i3, .int i4, .int i5, .int i6])) (z : 0 ≤ i1) : Go S G H G1 H2 := by
  have gs := a.wd.gs
  subst e
  refine ⟨⟨a.s.gg, fun b u h => ?_, a.s.nw, fun b u n h => ?_, fun b u h => ?_⟩, a.w0, ?_⟩
  · rw [upd_ne (ne_of_none h gs)]
    exact a.s.gh _ _ h
  · rw [upd_ne n]
    exact a.s.hh b u n h
  · by_cases q : b = S.a
    · rw [q, upd_same]
      exact ⟨_, rfl, fun _ => rfl⟩
    · rw [upd_ne q]
      exact a.s.al b u h
  · obtain ⟨j1, j2, j3, j4, j5, j6, h1, h2, _⟩ := a.st
    exact ⟨i1, i2, i3, i4, i5, i6, upd_same, by rw [upd_ne a.st.ca]; exact h2, z⟩
theorem Go.frz {l : Addr} {o : HO} (a : Go S G H G1 H1) (g : G1 l = none) (f : H l = none) (h : H1 l = some o) : ∃ G2, Go S G H G2 H1 ∧ Same G1 G2 ∧ G2 l = some o ∧ ∀ b, b ≠ l → G2 b = G1 b := by
  obtain ⟨G2, s, e, k, u⟩ := a.s.frz (l := l) g f h
  exact ⟨G2, ⟨s, a.w0, a.st⟩, e, k, u⟩
theorem Go.ns (a : Go S G H G1 H1) {l : Addr} (f : H l = none) : l ≠ S.a := fun q => a.w0.st.na (by rw [← q]; exact f)
theorem Wd.ne (w : Wd S G H) {b : Addr} {o : HO} (h : G b = some o) : b ≠ S.a := fun q => by
  rw [q, w.gs] at h
  cases h
end
theorem upd_at {H H2 : Hp} {l : Addr} {o : HO} (e : H2 = upd H l o) : H2 l = some o := by rw [e]; exact upd_same
theorem upd_else {H H2 : Hp} {l b : Addr} {o u : HO} (e : H2 = upd H l o) (h : H b = some u) (n : b ≠ l) : H2 b = some u := by rw [e, upd_ne n]; exact h
theorem New.else {H H2 : Hp} {p b : Addr} {o u : HO} (n : New H p o H2) (h : H b = some u) : H2 b = some u := n.same _ _ h
theorem dec_of {p : Prop} [Decidable p] (h : decide p = true) : p := of_decide_eq_true h
theorem dec_not {p : Prop} [Decidable p] (h : ¬ decide p = true) : ¬ p := fun q => h (decide_eq_true q)
/-! ### promises of the draws -/
def Dr (d n : Int) : Prop := 0 ≤ d ∧ (d < n ∨ (n < 1 ∧ d = 0))
def spMixed : Sp := fun vs H Q _ => ∃ a b : Int, vs = [.int a, .int b] ∧ ∀ r : Int, Q (.int r) H
def spTake : Sp := fun vs H Q _ => ∃ (S : Sr) (G : Hp) (n : Int), vs = [.ref S.a, .int n] ∧ Wd S G H ∧ n < 1073741824 ∧ ∀ (d : Int) (H' : Hp), 0 ≤ d → (d < n ∨ (n < 1 ∧ d = 0)) → Go S G H G H' → Q (.int d) H'
/-- a sequence of known items -/
def SeqV (H : Hp) (S : Sr) (v : V) (xs : List V) : Prop :=
  (∃ a, v = .ref a ∧ a ≠ S.a ∧ H a = some (.lst xs)) ∨ (∃ a, v = .ref a ∧ a ≠ S.a ∧ H a = some (.tup xs)) ∨ ∃ z : Str, v = .str z ∧ z.length ≤ 1000000 ∧ xs = z.cps.toList.map fun c => V.str ⟨#[c]⟩
def spPick : Sp := fun vs H Q _ => ∃ (S : Sr) (G : Hp) (v : V) (xs : List V), vs = [.ref S.a, v] ∧ Wd S G H ∧ SeqV H S v xs ∧ 0 < xs.length ∧ xs.length < 1000000 ∧ ∀ (x : V) (H' : Hp), x ∈ xs → Go S G H G H' → Q x H'
def spPlace : Sp := fun vs H Q _ => ∃ (S : Sr) (G : Hp) (n : Int), vs = [.ref S.a, .int n] ∧ Wd S G H ∧ 1 ≤ n ∧ n < 1073741824 ∧ ∀ (d : Int) (H' : Hp), 0 ≤ d → d < n → Go S G H G H' → Q (.int d) H'
end Hd

namespace Hd
open PySem PySem.Spec PyProof.Rows L2
theorem at_int {xs : List V} {d : Int} (h0 : 0 ≤ d) (h1 : d < (xs.length : Nat)) : ∃ x, xs[d.toNat]? = some x ∧ atI xs d = some x ∧ x ∈ xs := by
  have k : d.toNat < xs.length := by omega
  have e : xs[d.toNat]? = some xs[d.toNat] := List.getElem?_eq_getElem k
  refine ⟨xs[d.toNat], e, ?_, List.getElem_mem k⟩
  have q := atI_nat e
  rwa [show ((d.toNat : Nat) : Int) = d by omega] at q
theorem at_str {z : Str} {d : Int} (h0 : 0 ≤ d) (h1 : d < (z.length : Nat)) : ∃ c, atI z.cps.toList d = some c ∧ z.cps.toList[d.toNat]? = some c := by
  have hl : z.cps.toList.length = z.length := Array.length_toList
  have k : d.toNat < z.cps.toList.length := by omega
  have e : z.cps.toList[d.toNat]? = some z.cps.toList[d.toNat] := List.getElem?_eq_getElem k
  refine ⟨_, ?_, e⟩
  have q := atI_nat e
  rwa [show ((d.toNat : Nat) : Int) = d by omega] at q
theorem ln {n : Nat} (h : n ≤ 1000000) : n ≤ sizeLine := Nat.le_trans h (by decide)
theorem lt {n : Nat} (h : n < 1000000) : n < sizeLine := Nat.lt_of_lt_of_le h (by decide)
theorem perm_erase {α : Type} : ∀ {xs : List α} {i : Nat} {x : α}, xs[i]? = some x → xs.Perm (x :: xs.eraseIdx i)
  | [], i, x, h => by simp at h
  | a :: xs, 0, x, h => by
    have e := Option.some.inj h
    subst e
    exact .refl _
  | a :: xs, i + 1, x, h => ((perm_erase (xs := xs) (i := i) h).cons a).trans (.swap _ _ _)
/-! ### sizes of nested data -/
mutual
def szD : PyData → Nat
  | .list ds => 1 + szL ds
  | .tuple ds => 1 + szL ds
  | .str x => 1 + x.length
  | _ => 1
def szL : List PyData → Nat
  | [] => 0
  | d :: ds => szD d + szL ds
end
theorem szD_pos : ∀ d, 1 ≤ szD d
  | .none => Nat.le_refl _
  | .bool _ => Nat.le_refl _
  | .int _ => Nat.le_refl _
  | .str _ => by unfold szD; omega
  | .list ds => by unfold szD; omega
  | .tuple ds => by unfold szD; omega
  | .dict _ => Nat.le_refl _
theorem szL_append : ∀ (a b : List PyData), szL (a ++ b) = szL a + szL b
  | [], b => by unfold szL; simp
  | d :: a, b => by
    show szD d + szL (a ++ b) = szD d + szL a + szL b
    rw [szL_append a b]
    omega
theorem szL_len : ∀ (a : List PyData), a.length ≤ szL a
  | [] => Nat.zero_le _
  | d :: a => by
    have := szL_len a
    have := szD_pos d
    show a.length + 1 ≤ szD d + szL a
    omega
theorem szL_get : ∀ {a : List PyData} {i : Nat} {d : PyData}, a[i]? = some d → szD d ≤ szL a
  | [], i, d, h => by simp at h
  | x :: a, 0, d, h => by
    have e := Option.some.inj h
    subst e
    show szD _ ≤ szD _ + szL a
    omega
  | x :: a, i + 1, d, h => by
    have := szL_get (a := a) (i := i) h
    show szD d ≤ szD x + szL a
    omega
theorem szL_take (a : List PyData) (n : Nat) : szL (a.take n) + szL (a.drop n) = szL a := by
  rw [← szL_append, List.take_append_drop]
/-! ### lists of nested data -/
section
variable {G : Hp}
theorem DaAll.append : ∀ {vs ws : List V} {ds es : List PyData}, DaAll G vs ds → DaAll G ws es → DaAll G (vs ++ ws) (ds ++ es)
  | [], ws, _, es, h, k => by cases h; exact k
  | v :: vs, ws, _, es, h, k => by
    cases h with
    | cons a b => exact .cons a (DaAll.append b k)
theorem DaAll.take : ∀ (n : Nat) {vs : List V} {ds : List PyData}, DaAll G vs ds → DaAll G (vs.take n) (ds.take n)
  | 0, _, _, h => by
    rw [List.take_zero, List.take_zero]
    exact .nil
  | n + 1, [], _, h => by cases h; exact .nil
  | n + 1, v :: vs, _, h => by
    cases h with
    | cons a b => exact .cons a (DaAll.take n b)
theorem DaAll.drop : ∀ (n : Nat) {vs : List V} {ds : List PyData}, DaAll G vs ds → DaAll G (vs.drop n) (ds.drop n)
  | 0, _, _, h => h
  | n + 1, [], _, h => by cases h; exact .nil
  | n + 1, v :: vs, _, h => by
    cases h with
    | cons a b => exact DaAll.drop n b
theorem DaAll.set {v : V} {d : PyData} (k : Da G v d) : ∀ (n : Nat) {vs : List V} {ds : List PyData}, DaAll G vs ds → DaAll G (vs.set n v) (ds.set n d)
  | _, [], _, h => by cases h; exact .nil
  | 0, _ :: _, _, h => by
    cases h with
    | cons a b => exact .cons k b
  | n + 1, _ :: _, _, h => by
    cases h with
    | cons a b => exact .cons a (DaAll.set k n b)
theorem DaAll.one {v : V} {d : PyData} (k : Da G v d) : DaAll G [v] [d] := .cons k .nil
theorem DaAll.ints : ∀ (ns : List Int), DaAll G (ns.map V.int) (ns.map PyData.int)
  | [] => .nil
  | n :: ns => .cons (.int n) (DaAll.ints ns)
theorem DaAll.reverse {vs : List V} {ds : List PyData} (h : DaAll G vs ds) : DaAll G vs.reverse ds.reverse := by
  induction vs generalizing ds with
  | nil => cases h; exact .nil
  | cons v vs ih =>
    cases h with
    | cons a b =>
      rw [List.reverse_cons, List.reverse_cons]
      exact (ih b).append (.one a)
end
theorem szL_ints : ∀ (ns : List Int), szL (ns.map PyData.int) = ns.length
  | [] => rfl
  | n :: ns => by
    show 1 + szL (ns.map PyData.int) = ns.length + 1
    rw [szL_ints ns]
    omega
theorem szL_set : ∀ (n : Nat) (ds : List PyData) (d : PyData), szL (ds.set n d) ≤ szL ds + szD d
  | _, [], d => Nat.zero_le _
  | 0, x :: r, d => by
    show szD d + szL r ≤ szD x + szL r + szD d
    omega
  | n + 1, x :: r, d => by
    have := szL_set n r d
    show szD x + szL (r.set n d) ≤ szD x + szL r + szD d
    omega
/-! ### leaves -/
inductive Leaf : V → PyData → Prop
  | non : Leaf .non .none
  | bl (b : Bool) : Leaf (.bl b) (.bool b)
  | int (i : Int) : Leaf (.int i) (.int i)
  | str (x : Str) : x.length ≤ 100 → Leaf (.str x) (.str x)
theorem Leaf.da {G : Hp} {v : V} {d : PyData} (h : Leaf v d) : Da G v d := by
  cases h with
  | non => exact .non
  | bl b => exact .bl b
  | int i => exact .int i
  | str x _ => exact .str x
theorem Leaf.sz {v : V} {d : PyData} (h : Leaf v d) : szD d ≤ 101 := by
  cases h with
  | str x hx => unfold szD; omega
  | _ => show 1 ≤ 101; decide
/-! ### texts -/
theorem len_app (a b : Str) : (a ++ b).length = a.length + b.length := Array.size_append
theorem join_len : ∀ ys : List Str, (Txt.join Str.empty ys).length = (ys.map (·.length)).sum := fun ys => by
  rw [TL.join_eq]
  induction ys with
  | nil => rfl
  | cons x r ih =>
    cases r with
    | nil =>
      show x.length = x.length + 0
      omega
    | cons y r =>
      rw [List.map_cons, List.sum_cons, ← ih]
      show (x ++ Str.empty ++ Str.join Str.empty (y :: r)).length = x.length + _
      rw [len_app, len_app]
      rfl
theorem sum_ones : ∀ ys : List Str, (∀ y ∈ ys, y.length = 1) → (ys.map (·.length)).sum = ys.length
  | [], _ => rfl
  | y :: r, h => by
    rw [List.map_cons, List.sum_cons, h y List.mem_cons_self, sum_ones r fun z hz => h z (List.mem_cons_of_mem _ hz), List.length_cons]
    omega
theorem log_small {i : Int} (h0 : 0 ≤ i) (h1 : i < 10 ^ 100) : i.natAbs.log2 < 1920 := by
  by_cases e : i.natAbs = 0
  · rw [e]; decide
  · rw [Nat.log2_lt e]
    have h2 : i.natAbs < 10 ^ 100 := by omega
    exact Nat.lt_trans h2 (by decide +kernel)
def isIntV : V → Bool
  | .int _ => true
  | _ => false
theorem all_int {xs : List V} (h : xs.all isIntV = true) {x : V} (m : x ∈ xs) : ∃ d, x = .int d := by
  have q := List.all_eq_true.mp h x m
  cases x with
  | int d => exact ⟨d, rfl⟩
  | _ => cases q
theorem yesT {σ : L2.St} {H : Hp} {A B : Hp → Prop} (h : A H) : tYes σ H (fun b H3 => if b = true then A H3 else B H3) := iteT (B := B H) h
theorem Da.of_if {G : Hp} {p : Addr} {b : Bool} {xs : List V} {ds : List PyData} (h : G p = some (if b then HO.tup xs else HO.lst xs)) (k : DaAll G xs ds) : Da G (.ref p) (if b then .tuple ds else .list ds) := by
  cases b with
  | true => exact .tup h k
  | false => exact .lst h k
theorem sz_if (b : Bool) (ds : List PyData) : szD (if b then PyData.tuple ds else .list ds) = 1 + szL ds := by cases b <;> rfl
theorem szL_one (d : PyData) : szL [d] = szD d := Nat.add_zero _
/-! ### promises -/
abbrev HasL (H : Hp) (a : Addr) (xs : List V) : Prop := H a = some (.lst xs) ∨ H a = some (.tup xs)
theorem HasL.len {K : PySem.W.Frag} {H : Hp} {a : Addr} {xs : List V} (h : HasL H a xs) : SqL K H a xs ∨ SqT K H a xs := h.elim (fun h => .inl (.of h)) (fun h => .inr (.of h))
def spDrawn : Sp := fun vs H Q _ => ∃ (S : Sr) (G : Hp) (a : Addr) (xs : List V) (n : Int), vs = [.ref S.a, .ref a, .int n] ∧ Wd S G H ∧ HasL H a xs ∧ xs.length ≤ 100000 ∧ 0 ≤ n ∧ n ≤ 100000 ∧
  ∀ (l : Addr) (ys rest : List V) (H' : Hp), Go S G H G H' → G l = none → H l = none → H' l = some (.lst ys) → (ys ++ rest).Perm xs → ys.length = min n.toNat xs.length → Q (.ref l) H'
def spEither : Sp := fun vs H Q _ => ∃ (S : Sr) (G : Hp) (a : Addr) (xs : List V), vs = [.ref S.a, .ref a] ∧ Wd S G H ∧ a ≠ S.a ∧ H a = some (.lst xs) ∧
  ∀ (p : Addr) (b : Bool) (H' : Hp), Go S G H G H' → G p = none → H p = none → H' p = some (if b then .tup xs else .lst xs) → Q (.ref p) H'
def spWhole : Sp := fun vs H Q _ => ∃ (S : Sr) (G : Hp), vs = [.ref S.a] ∧ Wd S G H ∧ ∀ (d : Int) (H' : Hp), Go S G H G H' → Q (.int d) H'
def spSign : Sp := fun vs H Q _ => ∃ (S : Sr) (G : Hp), vs = [.ref S.a] ∧ Wd S G H ∧ ∀ (c : Nat) (H' : Hp), Go S G H G H' → Q (.str ⟨#[c]⟩) H'
def spText : Sp := fun vs H Q _ => ∃ (S : Sr) (G : Hp) (n : Int), vs = [.ref S.a, .int n] ∧ Wd S G H ∧ 0 ≤ n ∧ n ≤ 10000 ∧ ∀ (z : Str) (H' : Hp), z.length ≤ n.toNat → Go S G H G H' → Q (.str z) H'
def spLeaf : Sp := fun vs H Q _ => ∃ (S : Sr) (G : Hp), vs = [.ref S.a] ∧ Wd S G H ∧ ∀ (v : V) (d : PyData) (H' : Hp), Leaf v d → Go S G H G H' → Q v H'
def spValue : Sp := fun vs H Q _ => ∃ (S : Sr) (G : Hp) (n : Int), vs = [.ref S.a, .int n] ∧ Wd S G H ∧ n ≤ 1000 ∧ ∀ (v : V) (d : PyData) (G' H' : Hp), Da G' v d → szD d ≤ 5000 → Go S G H G' H' → Q v H'
/-- a tuple of whole numbers, a move on n points -/
def IsMv (ns : List Int) (n : Int) : Prop := ns.Perm ((List.range n.toNat).map fun (i : Nat) => (i : Int))
def spMove : Sp := fun vs H Q _ => ∃ (S : Sr) (G : Hp) (n : Int), vs = [.ref S.a, .int n] ∧ Wd S G H ∧ 0 ≤ n ∧ n ≤ 10000 ∧
  ∀ (p : Addr) (ns : List Int) (G' H' : Hp), Go S G H G' H' → G' p = some (.tup (ns.map V.int)) → IsMv ns n → Q (.ref p) H'
end Hd

namespace Hd
open PySem PySem.Spec PyProof.Rows L2
/-! ### equal data -/
mutual
def sameD : PyData → PyData → Bool
  | .none, .none => true
  | .bool a, .bool b => decide (a = b)
  | .int a, .int b => decide (a = b)
  | .str a, .str b => decide (a = b)
  | .list a, .list b => sameL a b
  | .tuple a, .tuple b => sameL a b
  | _, _ => false
def sameL : List PyData → List PyData → Bool
  | [], [] => true
  | x :: a, y :: b => sameD x y && sameL a b
  | _, _ => false
end
def noDict : PyData → Bool
  | .dict _ => false
  | _ => true
mutual
theorem sameD_self {G : Hp} : ∀ (d : PyData) (v : V), Da G v d → sameD d d = true
  | .none, _, _ => rfl
  | .bool a, _, _ => decide_eq_true rfl
  | .int a, _, _ => decide_eq_true rfl
  | .str a, _, _ => decide_eq_true rfl
  | .list a, _, h => by
    cases h with
    | lst h1 h2 => exact sameL_self a _ h2
  | .tuple a, _, h => by
    cases h with
    | tup h1 h2 => exact sameL_self a _ h2
  | .dict _, _, h => by cases h
theorem sameL_self {G : Hp} : ∀ (ds : List PyData) (vs : List V), DaAll G vs ds → sameL ds ds = true
  | [], _, _ => rfl
  | d :: ds, _, h => by
    cases h with
    | cons a b =>
      show (sameD d d && sameL ds ds) = true
      rw [sameD_self d _ a, sameL_self ds _ b]
      rfl
end
theorem sameL_len : ∀ {a b : List PyData}, a.length ≠ b.length → sameL a b = false
  | [], [], h => absurd rfl h
  | [], _ :: _, _ => rfl
  | _ :: _, [], _ => rfl
  | x :: a, y :: b, h => by
    show (sameD x y && sameL a b) = false
    rw [sameL_len (a := a) (b := b) (fun e => h (by rw [List.length_cons, List.length_cons, e])), Bool.and_false]
theorem sameL_all : ∀ {a b : List PyData}, a.length = b.length → sameL a b = (a.zip b).all fun p => sameD p.1 p.2
  | [], [], _ => rfl
  | [], _ :: _, h => by cases h
  | _ :: _, [], h => by cases h
  | x :: a, y :: b, h => by
    show (sameD x y && sameL a b) = _
    rw [sameL_all (a := a) (b := b) (Nat.succ.inj h)]
    rfl
section
variable {G : Hp} {v w : V} {d e : PyData}
theorem Da.non_iff (h : Da G v d) : v = .non ↔ d = .none := by cases h <;> simp
theorem Da.bl_iff (h : Da G v d) {b : Bool} : v = .bl b ↔ d = .bool b := by cases h <;> simp
end
theorem ib_none_int  : instB PyData.none "int" = false := by simp [instB, tyD]
theorem ib_none_bool  : instB PyData.none "bool" = false := by simp [instB, tyD]
theorem ib_none_tuple  : instB PyData.none "tuple" = false := by simp [instB, tyD]
theorem ib_none_list  : instB PyData.none "list" = false := by simp [instB, tyD]
theorem ib_none_str  : instB PyData.none "str" = false := by simp [instB, tyD]
theorem ib_bool_int (x : Bool) : instB (.bool x) "int" = true := by simp [instB, tyD]
theorem ib_bool_bool (x : Bool) : instB (.bool x) "bool" = true := by simp [instB, tyD]
theorem ib_bool_tuple (x : Bool) : instB (.bool x) "tuple" = false := by simp [instB, tyD]
theorem ib_bool_list (x : Bool) : instB (.bool x) "list" = false := by simp [instB, tyD]
theorem ib_bool_str (x : Bool) : instB (.bool x) "str" = false := by simp [instB, tyD]
theorem ib_int_int (x : Int) : instB (.int x) "int" = true := by simp [instB, tyD]
theorem ib_int_bool (x : Int) : instB (.int x) "bool" = false := by simp [instB, tyD]
theorem ib_int_tuple (x : Int) : instB (.int x) "tuple" = false := by simp [instB, tyD]
theorem ib_int_list (x : Int) : instB (.int x) "list" = false := by simp [instB, tyD]
theorem ib_int_str (x : Int) : instB (.int x) "str" = false := by simp [instB, tyD]
theorem ib_str_int (x : Str) : instB (.str x) "int" = false := by simp [instB, tyD]
theorem ib_str_bool (x : Str) : instB (.str x) "bool" = false := by simp [instB, tyD]
theorem ib_str_tuple (x : Str) : instB (.str x) "tuple" = false := by simp [instB, tyD]
theorem ib_str_list (x : Str) : instB (.str x) "list" = false := by simp [instB, tyD]
theorem ib_str_str (x : Str) : instB (.str x) "str" = true := by simp [instB, tyD]
theorem ib_list_int (x : List PyData) : instB (.list x) "int" = false := by simp [instB, tyD]
theorem ib_list_bool (x : List PyData) : instB (.list x) "bool" = false := by simp [instB, tyD]
theorem ib_list_tuple (x : List PyData) : instB (.list x) "tuple" = false := by simp [instB, tyD]
theorem ib_list_list (x : List PyData) : instB (.list x) "list" = true := by simp [instB, tyD]
theorem ib_list_str (x : List PyData) : instB (.list x) "str" = false := by simp [instB, tyD]
theorem ib_tuple_int (x : List PyData) : instB (.tuple x) "int" = false := by simp [instB, tyD]
theorem ib_tuple_bool (x : List PyData) : instB (.tuple x) "bool" = false := by simp [instB, tyD]
theorem ib_tuple_tuple (x : List PyData) : instB (.tuple x) "tuple" = true := by simp [instB, tyD]
theorem ib_tuple_list (x : List PyData) : instB (.tuple x) "list" = false := by simp [instB, tyD]
theorem ib_tuple_str (x : List PyData) : instB (.tuple x) "str" = false := by simp [instB, tyD]
theorem iteDT {c A B : Prop} [Decidable c] (h : c) (k : A) : if decide c = true then A else B := by rw [decide_eq_true h]; exact iteT k
theorem iteDF {c A B : Prop} [Decidable c] (h : ¬ c) (k : B) : if decide c = true then A else B := by rw [decide_eq_false h]; exact iteF k
theorem iteBT {b : Bool} {A B : Prop} (h : b = true) (k : A) : if b = true then A else B := by rw [h]; exact iteT k
theorem iteBF {b : Bool} {A B : Prop} (h : b = false) (k : B) : if b = true then A else B := by rw [h]; exact iteF k
theorem nd_of {p : Prop} [Decidable p] (h : (!decide p) = true) : ¬ p := fun q => by rw [decide_eq_true q] at h; cases h
theorem nd_not {p : Prop} [Decidable p] (h : ¬ (!decide p) = true) : p := by
  by_cases q : p
  · exact q
  · rw [decide_eq_false q] at h
    exact absurd rfl h
theorem rIx_of {K : PySem.W.Frag} {H : Hp} {Q : VK} {a : Addr} {xs : List V} {i : Int} {x : V} (h : HasL H a xs) (e : atI xs i = some x) (q : Q x H) : rIx K (.ref a) (.int i) H Q :=
  h.elim (fun h => .inl ⟨a, xs, i, x, rfl, rfl, .of h, e, q⟩) (fun h => .inr (.inl ⟨a, xs, i, x, rfl, rfl, .of h, e, q⟩))
theorem HasL.lenV {K : PySem.W.Frag} {H : Hp} {a : Addr} {xs : List V} (h : HasL H a xs) : LenV K (.ref a) H xs.length := h.elim (fun h => .inl ⟨xs, .of h, rfl⟩) (fun h => .inr ⟨xs, .of h, rfl⟩)
theorem HasL.up {H H' : Hp} {a : Addr} {xs : List V} (h : HasL H a xs) (g : Same H H') : HasL H' a xs := h.elim (fun h => .inl (g _ _ h)) (fun h => .inr (g _ _ h))
theorem at_nat {xs : List V} {i : Nat} (h : i < xs.length) : ∃ x, xs[i]? = some x ∧ atI xs (0 + (i : Int)) = some x := by
  have e : xs[i]? = some xs[i] := List.getElem?_eq_getElem h
  refine ⟨xs[i], e, ?_⟩
  rw [Int.zero_add]
  exact atI_nat e
theorem zip_take : ∀ {a b : List PyData} {i : Nat} {x y : PyData}, a[i]? = some x → b[i]? = some y → (a.take (i + 1)).zip (b.take (i + 1)) = (a.take i).zip (b.take i) ++ [(x, y)]
  | [], _, i, _, _, h, _ => by simp at h
  | _ :: _, [], i, _, _, _, h => by simp at h
  | a :: as, b :: bs, 0, x, y, h, k => by
    have e := Option.some.inj h
    have f := Option.some.inj k
    subst e f
    rfl
  | a :: as, b :: bs, i + 1, x, y, h, k => by
    have ih := zip_take (a := as) (b := bs) (i := i) h k
    show (a, b) :: (as.take (i + 1)).zip (bs.take (i + 1)) = (a, b) :: ((as.take i).zip (bs.take i)) ++ [(x, y)]
    rw [ih]
    rfl

def sqD (t : Bool) (ds : List PyData) : PyData := if t then .tuple ds else .list ds
theorem sqD_sz (t : Bool) (ds : List PyData) : szD (sqD t ds) = 1 + szL ds := by cases t <;> rfl
theorem Da.kind {G : Hp} {v : V} {d : PyData} (h : Da G v d) : (v = .non ∧ d = .none) ∨ (∃ b, v = .bl b ∧ d = .bool b) ∨ (∃ i, v = .int i ∧ d = .int i) ∨ (∃ x, v = .str x ∧ d = .str x) ∨
    ∃ a xs ds t, v = .ref a ∧ HasL G a xs ∧ (t = true → G a = some (.tup xs)) ∧ (t = false → G a = some (.lst xs)) ∧ DaAll G xs ds ∧ d = sqD t ds := by
  cases h with
  | non => exact .inl ⟨rfl, rfl⟩
  | bl b => exact .inr (.inl ⟨b, rfl, rfl⟩)
  | int i => exact .inr (.inr (.inl ⟨i, rfl, rfl⟩))
  | str x => exact .inr (.inr (.inr (.inl ⟨x, rfl, rfl⟩)))
  | lst a b => exact .inr (.inr (.inr (.inr ⟨_, _, _, false, rfl, .inl a, (fun z => nomatch z), fun _ => a, b, rfl⟩)))
  | tup a b => exact .inr (.inr (.inr (.inr ⟨_, _, _, true, rfl, .inr a, fun _ => a, (fun z => nomatch z), b, rfl⟩)))
/-- pairs that are still to be compared -/
structure Pr where
  a : Addr
  v : V
  w : V
  d : PyData
  e : PyData
def PairAt (G H : Hp) (x : Pr) : Prop := H x.a = some (.tup [x.v, x.w]) ∧ Da G x.v x.d ∧ Da G x.w x.e
def szP (ps : List Pr) : Nat := (ps.map fun x => szD x.d + szD x.e).sum
theorem szP_app (a b : List Pr) : szP (a ++ b) = szP a + szP b := by unfold szP; rw [List.map_append, List.sum_append]
theorem szP_one (x : Pr) : szP [x] = szD x.d + szD x.e := Nat.add_zero _
theorem szP_len : ∀ ps : List Pr, ps.length ≤ szP ps
  | [] => Nat.zero_le _
  | x :: r => by
    have := szP_len r
    have := szD_pos x.d
    show r.length + 1 ≤ (szD x.d + szD x.e) + szP r
    omega
def allP (ps : List Pr) : Bool := ps.all fun x => sameD x.d x.e
theorem allP_app (a b : List Pr) : allP (a ++ b) = (allP a && allP b) := List.all_append
theorem allP_one (x : Pr) : allP [x] = sameD x.d x.e := Bool.and_true _
theorem PairAt.new {G H H' : Hp} {x : Pr} {p : Addr} {o : HO} (h : PairAt G H x) (n : New H p o H') : PairAt G H' x := ⟨n.else h.1, h.2⟩
theorem PairAt.put {G H H' : Hp} {x : Pr} {l : Addr} {xs ys : List V} (h : PairAt G H x) (hl : H l = some (.lst xs)) (e : H' = upd H l (.lst ys)) : PairAt G H' x := ⟨upd_else e h.1 (ne_of h.1 hl (by intro z; cases z)), h.2⟩
theorem szL_takes (a : List PyData) (i : Nat) {d : PyData} (h : a[i]? = some d) : szL (a.take (i + 1)) = szL (a.take i) + szD d := by
  rw [List.take_add_one, h, szL_append]
  show _ + (szD d + 0) = _
  omega
/-- what `_law_same` promises -/
def spSame : Sp := fun vs H Q _ => ∃ (G : Hp) (v w : V) (d e : PyData), vs = [v, w] ∧ Same G H ∧ Da G v d ∧ Da G w e ∧ szD d ≤ 1900000 ∧ szD e ≤ 1900000 ∧ ∀ H', Same H H' → Q (.bl (sameD d e)) H'
def spIsWhole : Sp := fun vs H Q _ => ∃ (v : V) (d : PyData), vs = [v] ∧ Da H v d ∧ Q (.bl (isI d)) H
theorem isI_inst (d : PyData) (h : noDict d = true) : (instB d "int" && !instB d "bool") = isI d := by
  cases d <;> first | rfl | cases h | decide +kernel
theorem Da.nd {G : Hp} {v : V} {d : PyData} (h : Da G v d) : noDict d = true := by cases h <;> rfl
end Hd

namespace Hd
open PySem PySem.Spec PyProof.Rows L2
/-! ### == of lists of ints -/
theorem DpAll.ints {K : PySem.W.Frag} {H : Hp} : ∀ (ns : List Int), DpAll K H (ns.map V.int) (ns.map PyData.int)
  | [] => .nil
  | n :: ns => .cons (.int n) (DpAll.ints ns)
theorem eqv_ints : ∀ (ns ms : List Int), PyData.eqvAll (ns.map PyData.int) (ms.map PyData.int) = decide (ns = ms)
  | [], [] => rfl
  | [], _ :: _ => rfl
  | _ :: _, [] => rfl
  | a :: ns, b :: ms => by
    show (PyData.eqv (.int a) (.int b) && PyData.eqvAll (ns.map PyData.int) (ms.map PyData.int)) = _
    rw [eqv_ints ns ms]
    show ((a == b) && decide (ns = ms)) = decide (a :: ns = b :: ms)
    by_cases h : a = b
    · subst h
      by_cases k : ns = ms
      · subst k; simp
      · simp [k]
    · simp [h]
def rEqLI (K : PySem.W.Frag) : R2 := fun x y H Q => ∃ (a b : Addr) (ns ms : List Int), x = .ref a ∧ y = .ref b ∧ SqL K H a (ns.map V.int) ∧ SqL K H b (ms.map V.int) ∧ Q (.bl (decide (ns = ms))) H
theorem op_eqLI {X : Cx} (hu : X.A.units + 64 < cLine) : OpR X (compareOp .Eq) (rEqLI X.K) := opR_mono (op_eqD hu) fun x y H Q h => by
  obtain ⟨a, b, ns, ms, rfl, rfl, ha, hb, q⟩ := h
  refine ⟨.list (ns.map .int), .list (ms.map .int), .lst ha (DpAll.ints ns), .lst hb (DpAll.ints ms), PySem.W.ke_shaped_ints ns, PySem.W.ke_shaped_ints ms, ?_⟩
  rw [PyData.eqv, eqv_ints]
  exact q
/-! ### steps without a store -/
section
variable {G H G1 H1 H2 : Hp} {p l : Addr} {o : HO}
theorem Stq.loc2 (s : Stq G H G1 H1) (n : New H1 p o H2) : Stq G H G1 H2 ∧ G1 p = none ∧ H2 p = some o ∧ H p = none :=
  ⟨s.trans (Stq.loc s.gh n).1, (Stq.loc s.gh n).2.1, n.at, s.hh.free n.fr⟩
theorem Stq.know2 (s : Stq G H G1 H1) (n : New H1 p o H2) : ∃ G2, Stq G H G2 H2 ∧ Same G1 G2 ∧ G2 p = some o ∧ ∀ b, b ≠ p → G2 b = G1 b := by
  obtain ⟨G2, t, e, k⟩ := Stq.know s.gh n
  exact ⟨G2, s.trans t, t.gg, e, k⟩
theorem Stq.nw2 (s : Stq G H G1 H1) {b : Addr} {u : HO} (h : H b = some u) (g : G b = none) (t : isT u = false := by rfl) : G1 b = none := s.nw b u h t g
end
/-! ### what frozen says -/
def frz : Nat → PyData → PyData
  | k + 1, .list ds => .tuple [.str "list", .tuple (ds.map (frz k))]
  | k + 1, .tuple ds => .tuple [.str "tuple", .tuple (ds.map (frz k))]
  | _, d => d
theorem szL_map (f : PyData → PyData) (h : ∀ d, szD (f d) ≤ 8 * szD d) : ∀ ds, szL (ds.map f) ≤ 8 * szL ds
  | [] => Nat.le_refl _
  | d :: ds => by
    have h1 := h d
    have h2 := szL_map f h ds
    show szD (f d) + szL (ds.map f) ≤ 8 * (szD d + szL ds)
    omega
theorem frz_sz : ∀ (k : Nat) (d : PyData), szD (frz k d) ≤ 8 * szD d
  | 0, d => by
    have : frz 0 d = d := by cases d <;> rfl
    rw [this]
    omega
  | k + 1, d => by
    have ih := szL_map (frz k) (frz_sz k)
    cases d with
    | list ds =>
      have h1 := ih ds
      have e : szD (.str "list") ≤ 6 := by decide +kernel
      show 1 + (szD (.str "list") + (1 + szL (ds.map (frz k)) + 0)) ≤ 8 * (1 + szL ds)
      omega
    | tuple ds =>
      have h1 := ih ds
      have e : szD (.str "tuple") ≤ 6 := by decide +kernel
      show 1 + (szD (.str "tuple") + (1 + szL (ds.map (frz k)) + 0)) ≤ 8 * (1 + szL ds)
      omega
    | str x => show szD (.str x) ≤ 8 * szD (.str x); omega
    | _ => show 1 ≤ 8 * 1; omega
def spFrozen (k : Nat) : Sp := fun vs H Q _ => ∃ (G : Hp) (v : V) (d : PyData) (n : Int), vs = [v, .int n] ∧ Same G H ∧ Da G v d ∧ szD d ≤ 300000 ∧ 0 ≤ n ∧ n < k ∧ ∀ (v' : V) (G' H' : Hp), Stq G H G' H' → Da G' v' (frz n.toNat d) → Q v' H'
/-! ### what counted says -/
def isIt (k : Int) : PyData → Bool
  | .int i => decide (i = k)
  | _ => false
def cntD : PyData → Bool
  | .tuple ds => decide (ds.length ≤ 12) && (List.range ds.length).all fun (k : Nat) => decide ((ds.filter (isIt (k : Int))).length = 1)
  | _ => false
def spCounted : Sp := fun vs H Q _ => ∃ (G : Hp) (v : V) (d : PyData), vs = [v] ∧ Same G H ∧ Da G v d ∧ szD d ≤ 300000 ∧ ∀ H', Same H H' → Q (.bl (cntD d)) H'
/-! ### what is_move says -/
def isNum (d : PyData) (lo hi : Int) : Bool := match d with
  | .int i => decide (lo ≤ i) && decide (i ≤ hi)
  | _ => false
def intsOf : List PyData → List Int
  | [] => []
  | .int i :: r => i :: intsOf r
  | _ :: r => intsOf r
def mvOn (n : Int) : PyData → Bool
  | .tuple ds => decide (((ds.length : Nat) : Int) = n) && (ds.all (fun d => isNum d 0 (n - 1)) && decide ((intsOf ds).Perm ((List.range n.toNat).map fun (i : Nat) => (i : Int))))
  | _ => false
def mvD : PyData → Bool
  | .tuple ds => decide (ds.length ≤ 12) && mvOn ds.length (.tuple ds)
  | _ => false
def spIsNum : Sp := fun vs H Q _ => ∃ v d lo hi, vs = [v, .int lo, .int hi] ∧ Da H v d ∧ Q (.bl (isNum d lo hi)) H
def spIsPoint : Sp := fun vs H Q _ => ∃ v d n, vs = [.int n, v] ∧ Da H v d ∧ Q (.bl (isNum d 0 (n - 1))) H
def spIsMoveOn : Sp := fun vs H Q _ => ∃ (G : Hp) (v : V) (d : PyData) (n : Int), vs = [.int n, v] ∧ Same G H ∧ Da G v d ∧ szD d ≤ 1000000 ∧ ∀ H', Same H H' → Q (.bl (mvOn n d)) H'
def spIsMove : Sp := fun vs H Q _ => ∃ (G : Hp) (v : V) (d : PyData), vs = [v] ∧ Same G H ∧ Da G v d ∧ szD d ≤ 1000000 ∧ ∀ H', Same H H' → Q (.bl (mvD d)) H'
end Hd

namespace Hd
open PySem PySem.Spec PyProof.Rows L2
def rngI (n : Int) : List Int := (List.range n.toNat).map fun (i : Nat) => (i : Int)
theorem rngI_len (n : Int) : (rngI n).length = n.toNat := by unfold rngI; rw [List.length_map, List.length_range]
theorem rngI_mem {n k : Int} : k ∈ rngI n ↔ 0 ≤ k ∧ k < n := by
  unfold rngI
  rw [List.mem_map]
  constructor
  · rintro ⟨i, hi, rfl⟩
    have := List.mem_range.mp hi
    omega
  · intro h
    exact ⟨k.toNat, List.mem_range.mpr (by omega), by omega⟩
theorem rngI_nodup (n : Int) : (rngI n).Nodup := by
  unfold rngI
  exact List.Pairwise.map (R := (· ≠ ·)) _ (fun a b h e => h (by omega)) List.nodup_range
theorem rngI_sorted (n : Int) : (rngI n).Pairwise (· ≤ ·) := by
  unfold rngI
  exact List.Pairwise.map (R := (· < ·)) _ (fun a b h => by omega) List.pairwise_lt_range
theorem rgV_rngI (n : Int) : rgV 0 n = (rngI n).map V.int := by
  unfold rgV rngI
  rw [List.map_map, Int.sub_zero]
  refine List.map_congr_left fun i _ => ?_
  show V.int (0 + (i : Int)) = V.int (i : Int)
  rw [Int.zero_add]
theorem perm_of_subset : ∀ {S L : List Int}, S.Nodup → (∀ x ∈ S, x ∈ L) → L.length ≤ S.length → L.Perm S
  | [], L, _, _, h => by
    rw [List.eq_nil_of_length_eq_zero (Nat.le_zero.mp h)]
  | a :: S, L, nd, hs, hl => by
    have ha := hs a List.mem_cons_self
    have nd2 := List.nodup_cons.mp nd
    have p := List.perm_cons_erase ha
    have hl2 := p.length_eq
    rw [List.length_cons] at hl2 hl
    refine p.trans (List.Perm.cons a (perm_of_subset nd2.2 (fun x hx => ?_) (by omega)))
    refine (List.mem_erase_of_ne (show x ≠ a from fun e => nd2.1 (e ▸ hx))).mpr (hs x (List.mem_cons_of_mem _ hx))
theorem ints_len : ∀ ds : List PyData, (intsOf ds).length ≤ ds.length
  | [] => Nat.le_refl _
  | .int i :: r => Nat.succ_le_succ (ints_len r)
  | .none :: r => Nat.le_succ_of_le (ints_len r)
  | .bool _ :: r => Nat.le_succ_of_le (ints_len r)
  | .str _ :: r => Nat.le_succ_of_le (ints_len r)
  | .list _ :: r => Nat.le_succ_of_le (ints_len r)
  | .tuple _ :: r => Nat.le_succ_of_le (ints_len r)
  | .dict _ :: r => Nat.le_succ_of_le (ints_len r)
theorem ints_all : ∀ ds : List PyData, (intsOf ds).length = ds.length → ds = (intsOf ds).map PyData.int
  | [], _ => rfl
  | .int i :: r, h => by
    have := ints_all r (Nat.succ.inj h)
    show PyData.int i :: r = PyData.int i :: (intsOf r).map PyData.int
    rw [← this]
  | .none :: r, h => absurd h (Nat.ne_of_lt (Nat.lt_succ_of_le (ints_len r)))
  | .bool _ :: r, h => absurd h (Nat.ne_of_lt (Nat.lt_succ_of_le (ints_len r)))
  | .str _ :: r, h => absurd h (Nat.ne_of_lt (Nat.lt_succ_of_le (ints_len r)))
  | .list _ :: r, h => absurd h (Nat.ne_of_lt (Nat.lt_succ_of_le (ints_len r)))
  | .tuple _ :: r, h => absurd h (Nat.ne_of_lt (Nat.lt_succ_of_le (ints_len r)))
  | .dict _ :: r, h => absurd h (Nat.ne_of_lt (Nat.lt_succ_of_le (ints_len r)))
theorem ints_count (k : Int) : ∀ ds : List PyData, (ds.filter (isIt k)).length = (intsOf ds).count k
  | [] => rfl
  | .int i :: r => by
    have ih := ints_count k r
    show ((PyData.int i :: r).filter (isIt k)).length = (i :: intsOf r).count k
    rw [List.filter_cons, List.count_cons]
    by_cases h : i = k
    · rw [if_pos (show isIt k (.int i) = true from decide_eq_true h), List.length_cons, ih, if_pos (by simpa using h)]
    · rw [if_neg (by show ¬ decide (i = k) = true; rw [decide_eq_false h]; decide), ih, if_neg (by simpa using h)]
      rfl
  | .none :: r => ints_count k r
  | .bool _ :: r => ints_count k r
  | .str _ :: r => ints_count k r
  | .list _ :: r => ints_count k r
  | .tuple _ :: r => ints_count k r
  | .dict _ :: r => ints_count k r
theorem ints_isNum {ds : List PyData} {lo hi : Int} (h : ds.all (fun d => isNum d lo hi) = true) : ds = (intsOf ds).map PyData.int := by
  induction ds with
  | nil => rfl
  | cons d r ih =>
    rw [List.all_cons, Bool.and_eq_true] at h
    cases d with
    | int i =>
      show PyData.int i :: r = PyData.int i :: (intsOf r).map PyData.int
      rw [← ih h.2]
    | _ => cases h.1
theorem mv_cnt (d : PyData) : mvD d = cntD d := by
  cases d with
  | tuple ds =>
    show (decide (ds.length ≤ 12) && (decide (((ds.length : Nat) : Int) = ((ds.length : Nat) : Int)) && (ds.all (fun d => isNum d 0 (((ds.length : Nat) : Int) - 1)) && decide ((intsOf ds).Perm (rngI ((ds.length : Nat) : Int)))))) = (decide (ds.length ≤ 12) && (List.range ds.length).all fun (k : Nat) => decide ((ds.filter (isIt (k : Int))).length = 1))
    rw [decide_eq_true (rfl : ((ds.length : Nat) : Int) = ((ds.length : Nat) : Int)), Bool.true_and]
    refine congrArg _ (Bool.eq_iff_iff.mpr ?_)
    rw [Bool.and_eq_true, decide_eq_true_eq, List.all_eq_true, List.all_eq_true]
    constructor
    · rintro ⟨h1, h2⟩ k hk
      have hk := List.mem_range.mp hk
      refine decide_eq_true ?_
      rw [ints_count, h2.count_eq]
      exact (rngI_nodup _).count (a := (k : Int)) ▸ (if_pos (rngI_mem.mpr ⟨by omega, by omega⟩))
    · intro h
      have mem : ∀ x ∈ rngI ((ds.length : Nat) : Int), x ∈ intsOf ds := fun x hx => by
        have hx := rngI_mem.mp hx
        have := of_decide_eq_true (h x.toNat (List.mem_range.mpr (by omega)))
        rw [ints_count, show ((x.toNat : Nat) : Int) = x by omega] at this
        exact List.count_pos_iff.mp (by omega)
      have pm := perm_of_subset (rngI_nodup _) mem (by rw [rngI_len]; have := ints_len ds; omega)
      refine ⟨fun d hd => ?_, pm⟩
      have e := ints_all ds (by rw [pm.length_eq, rngI_len]; omega)
      rw [e] at hd
      obtain ⟨i, hi, rfl⟩ := List.mem_map.mp hd
      have := rngI_mem.mp (pm.mem_iff.mp hi)
      show (decide (0 ≤ i) && decide (i ≤ ((ds.length : Nat) : Int) - 1)) = true
      rw [decide_eq_true (by omega), decide_eq_true (by omega)]
      rfl
  | _ => rfl
theorem vals_int {G : Hp} : ∀ {xs : List V} {ns : List Int}, DaAll G xs (ns.map PyData.int) → xs = ns.map V.int
  | [], [], _ => rfl
  | [], _ :: _, h => by cases h
  | _ :: _, [], h => by cases h
  | x :: xs, n :: ns, h => by
    cases h with
    | cons a b =>
      cases a
      rw [vals_int (ns := ns) b]
      rfl
end Hd

namespace L2
open PySem PySem.Spec PyProof.Rows
/-- a tuple times an int that gives the tuple itself: it is empty, or the int is 1 -/
theorem mulSelf (t : Addr) (us : Array Value) (ep : Nat) (od : Option Addr) (sl : Array (Option Value)) (k : Int) (tk : Tok) (fits : (decide (k < -(2 ^ 63)) || decide (k ≥ 2 ^ 63)) = false) (self : (us.isEmpty || k == 1) = true) :
    Meets (Builtin.«tuple.__mul__» ⟨[.ref t, .int k tk], []⟩) (fun _ R s => s.heap.get? t = some { cls := .type "tuple", dict := od, data := .seq us ep, slots := sl } ∧ R (.ok (.ret (Value.ref t))) s) := by
  refine .of_wp fun prog w A R s hs => ?_
  obtain ⟨hp, gn, dn, tn, os⟩ := s
  obtain ⟨at0, fin⟩ := hs
  have ix := AutoSeq1.idx_int
  wp_walk using wpAny_loadPart' at0
  refine wpAny_ite_false (decide_eq_false fun z => Bool.false_ne_true (fits.symm.trans z)) ?_
  wp_walk using wpAny_loadPart' at0
  exact ⟨_, rfl, fin⟩
end L2
namespace Hd
open PySem PySem.Spec PyProof.Rows L2
/-- t * k of a tuple, k at least 1 -/
def rRepA (K : PySem.W.Frag) : R2 := fun x y H Q => ∃ l k xs, x = .ref l ∧ y = .int k ∧ SqT K H l xs ∧ 1 ≤ k ∧ k ≤ 1000000 ∧ xs.length * k.toNat ≤ 1000000 ∧
  ((xs = [] ∨ k = 1) → Q (.ref l) H) ∧ (¬ (xs = [] ∨ k = 1) → ∀ p H2, New H p (.tup (List.replicate k.toNat xs).flatten) H2 → Q (.ref p) H2)
theorem op_repA {X : Cx} : OpR X (binaryOp .Mult) (rRepA X.K) := by
  intro pins s σ H x y v u Q I rx ry h
  obtain ⟨t, k, xs, rfl, rfl, hT, one, top, all, qs, qn⟩ := h
  cases rx
  obtain ⟨tk, rfl⟩ := ry
  obtain ⟨us, r, ⟨⟨cls, od, data, sl⟩, at0, cl0, ep, dat⟩, _⟩ := I.tuple hT
  simp only at cl0 dat
  subst cl0 dat
  have lu : us.length = xs.length := r.length.symm
  have su : us.toArray.size = xs.length := (List.size_toArray ..).trans lu
  have fits : (decide (k < -(2 ^ 63)) || decide (k ≥ 2 ^ 63)) = false := by simp only [Bool.or_eq_false_iff, decide_eq_false_iff_not]; omega
  by_cases self : xs = [] ∨ k = 1
  · have e : (us.toArray.isEmpty || k == 1) = true := by
      cases self with
      | inl z => cases z; cases us with
        | nil => rfl
        | cons _ _ => cases lu
      | inr z => rw [z, beq_self_eq_true, Bool.or_true]
    refine wpAny_binaryOp_repeat_ref (T := "tuple") (U := "int") (by decide) ⟨_, at0, rfl⟩ (fun s' => typeIs_int s' k tk) noFill_tuple_mul F.fills_int_mul F.slot_int_rmul repeat_tuple F.slot_int_index.lookup ?_
    refine call_meets F.slot_int_rmul (typeIs_int s k tk) F.entry_int_rmul (F.args_int_rmul_2 _ _) (int_rmul_tuple k tk t us.toArray ep od sl) ⟨at0, rfl, ⟨_, at0, rfl⟩, ?_⟩
    exact call_meets F.slot_tuple_mul ⟨_, at0, rfl⟩ F.entry_tuple_mul (F.args_tuple_mul_2 _ _) (mulSelf t us.toArray ep od sl k tk fits e) ⟨at0, .ref t, H, I, rfl, qs self⟩
  · have full : us.toArray.isEmpty = false := by
      cases us with
      | nil => exact absurd (.inl (List.eq_nil_of_length_eq_zero lu.symm)) self
      | cons _ _ => rfl
    have k1 : (k == 1) = false := beq_eq_false_iff_ne.mpr fun z => self (.inr z)
    have n1 : (us.toArray.isEmpty || k == 1) = false := by rw [full, k1]; rfl
    have n2 : (decide (k ≤ 0) || us.toArray.isEmpty) = false := by rw [full, decide_eq_false (by omega)]; rfl
    have prod : ((us.toArray.size : Nat) : Int) * k ≤ 1000000 := by
      rw [su, ← Int.toNat_of_nonneg (show 0 ≤ k by omega), ← Int.natCast_mul]
      exact Int.ofNat_le.mpr all
    have room : (List.replicate k.toNat us).flatten.length ≤ sizeLine := by
      rw [PyProof.Rows.lm_len_rep_flat, lu, Nat.mul_comm]
      exact Hd.ln all
    have roomX : (List.replicate k.toNat xs).flatten.length ≤ sizeLine := by
      rw [PyProof.Rows.lm_len_rep_flat, Nat.mul_comm]
      exact Hd.ln all
    have n4 : Builtin.Tuple.tupleTooMany (((us.toArray.size : Nat) : Int) * k) = false := by
      unfold Builtin.Tuple.tupleTooMany
      exact decide_eq_false (by rw [sizeLine_eq]; omega)
    refine wpAny_binaryOp_repeat_ref (T := "tuple") (U := "int") (by decide) ⟨_, at0, rfl⟩ (fun s' => typeIs_int s' k tk) noFill_tuple_mul F.fills_int_mul F.slot_int_rmul repeat_tuple F.slot_int_index.lookup ?_
    refine call_meets F.slot_int_rmul (typeIs_int s k tk) F.entry_int_rmul (F.args_int_rmul_2 _ _) (int_rmul_tuple k tk t us.toArray ep od sl) ⟨at0, rfl, ⟨_, at0, rfl⟩, ?_⟩
    refine call_meets F.slot_tuple_mul ⟨_, at0, rfl⟩ F.entry_tuple_mul (F.args_tuple_mul_2 _ _) (tuple_mulW t us.toArray ep od sl k tk fits n1 n2 (by omega) n4 (by rw [size_rep, List.size_toArray]; exact room)) ⟨at0, ?_⟩
    rw [size_rep]
    have fresh : H s.heap.objs.size = none := I.hok.fresh (Nat.le_refl _)
    have I2 := I.laid (t' := s.toks) (a := s.heap.objs.size) (o := .tup (List.replicate k.toNat xs).flatten) (h' := s.heap.push { cls := .type "tuple", data := .seq (List.replicate k.toNat us).flatten.toArray }) (fun _ _ z => Heap.get?_push_of_some _ z) (Nat.le_refl _) ⟨roomX, _, r.rep k.toNat, IsTup.new _ _⟩
    exact ⟨.ref s.heap.objs.size, _, I2, rfl, qn self _ _ ⟨fresh, rfl⟩⟩
/-! ### xs[::-1] -/
section
variable {X : Cx}
def tRevN (K : PySem.W.Frag) (te : TE) : TE := fun σ H Q => te σ H fun x H1 => ∃ a xs, x = .ref a ∧ SqL K H1 a xs ∧ ∀ p H2, New H1 p (.lst xs.reverse) H2 → Q (.ref p) H2
theorem rev_eq (K : PySem.W.Frag) (te : TE) : tRevN K te = tRevL K te := funext fun σ => funext fun H => funext fun Q => congrArg (te σ H) (funext fun x => funext fun H1 => propext
  ⟨fun ⟨a, xs, e, h, q⟩ => ⟨a, xs, e, h, newAll (K := fun p H2 => Q (.ref p) H2) |>.mp q⟩, fun ⟨a, xs, e, h, q⟩ => ⟨a, xs, e, h, newAll (K := fun p H2 => Q (.ref p) H2) |>.mpr q⟩⟩)
theorem pe_revN {e : Expr} {te : TE} {k : Nat} {p1 p2 p3 pos : Pos} (he : PE X e te) : PE X (.Subscript e (.Slice none none (some (.UnaryOp .USub (.Constant (.int 1) k p1) p2)) p3) pos) (tRevN X.K te) := by
  rw [rev_eq]
  exact pe_revL he
end
end Hd

namespace Hd
open PySem PySem.Spec PyProof.Rows L2
/-! ### moves -/
theorem isMv_of {ns : List Int} {n : Int} (h0 : 0 ≤ n) (hl : ns.length = n.toNat) (h : ∀ x, 0 ≤ x → x < n → x ∈ ns) : IsMv ns n :=
  perm_of_subset (rngI_nodup n) (fun x hx => h x (rngI_mem.mp hx).1 (rngI_mem.mp hx).2) (by rw [hl]; exact Nat.le_of_eq (rngI_len n).symm)
theorem IsMv.len {ns : List Int} {n : Int} (h : IsMv ns n) : ns.length = n.toNat := by
  have := List.Perm.length_eq h
  rwa [show ((List.range n.toNat).map fun (i : Nat) => (i : Int)) = rngI n from rfl, rngI_len] at this
theorem IsMv.mem {ns : List Int} {n : Int} (h : IsMv ns n) {x : Int} : x ∈ ns ↔ 0 ≤ x ∧ x < n := (List.Perm.mem_iff h).trans rngI_mem
theorem IsMv.nodup {ns : List Int} {n : Int} (h : IsMv ns n) : ns.Nodup := (List.Perm.nodup_iff h).mpr (rngI_nodup n)
def intV : V → Int
  | .int i => i
  | _ => 0
theorem map_intV (ns : List Int) : (ns.map V.int).map intV = ns := by
  rw [List.map_map]
  exact List.map_id'' (fun _ => rfl) _
/-- a part of a list of ints is a list of ints -/
theorem perm_ints {ys rest : List V} {ns : List Int} (h : (ys ++ rest).Perm (ns.map V.int)) : ∃ (rs ms : List Int), ys = rs.map V.int ∧ rest = ms.map V.int ∧ (rs ++ ms).Perm ns := by
  have all : ∀ v ∈ ys ++ rest, ∃ i, v = V.int i := fun v hv => by
    obtain ⟨i, _, e⟩ := List.mem_map.mp (h.mem_iff.mp hv)
    exact ⟨i, e.symm⟩
  have one : ∀ zs : List V, (∀ v ∈ zs, ∃ i, v = V.int i) → zs = (zs.map intV).map V.int := fun zs hz => by
    induction zs with
    | nil => rfl
    | cons v r ih =>
      obtain ⟨i, rfl⟩ := hz v List.mem_cons_self
      rw [List.map_cons, List.map_cons, ← ih fun w hw => hz w (List.mem_cons_of_mem _ hw)]
      rfl
  refine ⟨ys.map intV, rest.map intV, one _ fun v hv => all v (List.mem_append_left _ hv), one _ fun v hv => all v (List.mem_append_right _ hv), ?_⟩
  have := h.map intV
  rwa [map_intV, List.map_append] at this
theorem atI_ints {ns : List Int} {d : Int} (h0 : 0 ≤ d) (h1 : d < (ns.length : Nat)) : ∃ n, ns[d.toNat]? = some n ∧ atI (ns.map V.int) d = some (.int n) ∧ n ∈ ns := by
  obtain ⟨x, e, f, _⟩ := at_int (xs := ns.map V.int) h0 (by rw [List.length_map]; exact h1)
  rw [List.getElem?_map] at e
  cases g : ns[d.toNat]? with
  | none => rw [g] at e; cases e
  | some n =>
    rw [g] at e
    cases e
    exact ⟨n, rfl, f, List.mem_of_getElem? g⟩
/-- the ring of the points rs on n points, the first i of them set -/
def Ring (n : Nat) (rs : List Int) (i : Nat) (L : List Int) : Prop :=
  L.length = n ∧ (∀ j r, j < i → rs[j]? = some r → ∃ t, rs[(j + 1) % rs.length]? = some t ∧ L[r.toNat]? = some t) ∧
    ∀ x : Nat, x < n → (∀ j, j < i → rs[j]? ≠ some (x : Int)) → L[x]? = some (x : Int)
theorem Ring.start (n : Int) (rs : List Int) : Ring n.toNat rs 0 (rngI n) := by
  refine ⟨rngI_len n, fun j r h => absurd h (Nat.not_lt_zero _), fun x hx _ => ?_⟩
  unfold rngI
  rw [List.getElem?_map, List.getElem?_range hx]
  rfl
theorem Ring.step {n : Nat} {rs : List Int} {i : Nat} {L : List Int} {r t : Int} (h : Ring n rs i L) (nd : rs.Nodup) (hb : ∀ x ∈ rs, 0 ≤ x ∧ x < (n : Int)) (hr : rs[i]? = some r) (ht : rs[(i + 1) % rs.length]? = some t) : Ring n rs (i + 1) (L.set r.toNat t) := by
  obtain ⟨h1, h2, h3⟩ := h
  have br := hb r (List.mem_of_getElem? hr)
  refine ⟨by rw [List.length_set]; exact h1, fun j q hj hq => ?_, fun x hx hno => ?_⟩
  · by_cases e : j = i
    · subst e
      rw [hr] at hq
      cases hq
      exact ⟨t, ht, List.getElem?_set_self (by omega)⟩
    · obtain ⟨u, f1, f2⟩ := h2 j q (by omega) hq
      refine ⟨u, f1, ?_⟩
      have bq := hb q (List.mem_of_getElem? hq)
      have ne : r ≠ q := fun z => by
        subst z
        obtain ⟨a1, a2⟩ := List.getElem?_eq_some_iff.mp hr
        obtain ⟨b1, b2⟩ := List.getElem?_eq_some_iff.mp hq
        exact e ((List.getElem_inj nd).mp (b2.trans a2.symm))
      rw [List.getElem?_set_ne (by omega)]
      exact f2
  · have ne : (x : Int) ≠ r := fun z => hno i (by omega) (by rw [z]; exact hr)
    rw [List.getElem?_set_ne (by omega)]
    exact h3 x hx fun j hj => hno j (by omega)
theorem Ring.mv {n : Int} {rs L : List Int} (h0 : 0 ≤ n) (h : Ring n.toNat rs rs.length L) (hb : ∀ x ∈ rs, 0 ≤ x ∧ x < n) : IsMv L n := by
  obtain ⟨h1, h2, h3⟩ := h
  refine isMv_of h0 h1 fun x x0 x1 => ?_
  by_cases hx : x ∈ rs
  · obtain ⟨k, hk⟩ := List.getElem?_of_mem hx
    have kl := (List.getElem?_eq_some_iff.mp hk).1
    -- the one in front of it
    have : ∃ j, j < rs.length ∧ (j + 1) % rs.length = k := by
      by_cases k0 : k = 0
      · exact ⟨rs.length - 1, by omega, by rw [k0, Nat.sub_add_cancel (by omega), Nat.mod_self]⟩
      · exact ⟨k - 1, by omega, by rw [Nat.sub_add_cancel (by omega)]; exact Nat.mod_eq_of_lt kl⟩
    obtain ⟨j, jl, je⟩ := this
    obtain ⟨t, f1, f2⟩ := h2 j rs[j] jl (List.getElem?_eq_getElem jl)
    rw [je, hk] at f1
    cases f1
    exact List.mem_of_getElem? f2
  · have := h3 x.toNat (by omega) fun j hj e => by
      rw [show ((x.toNat : Nat) : Int) = x by omega] at e
      exact hx (List.mem_of_getElem? e)
    rw [show ((x.toNat : Nat) : Int) = x by omega] at this
    exact List.mem_of_getElem? this
theorem shift_mv {n s : Int} (h0 : 0 < n) : IsMv ((List.range n.toNat).map fun (k : Nat) => ((k : Int) + s) % n) n := by
  refine isMv_of (by omega) (by rw [List.length_map, List.length_range]) fun x x0 x1 => ?_
  refine List.mem_map.mpr ⟨((x - s) % n).toNat, List.mem_range.mpr ?_, ?_⟩
  · have a := Int.emod_nonneg (x - s) (show n ≠ 0 by omega)
    have b := Int.emod_lt_of_pos (x - s) h0
    omega
  · have a := Int.emod_nonneg (x - s) (show n ≠ 0 by omega)
    rw [Int.toNat_of_nonneg a, Int.emod_add_emod, Int.sub_add_cancel]
    exact Int.emod_eq_of_lt x0 x1
theorem turn_mv {n : Int} (h0 : 0 ≤ n) : IsMv ((List.range n.toNat).map fun (k : Nat) => n - 1 - (k : Int)) n := by
  refine isMv_of h0 (by rw [List.length_map, List.length_range]) fun x x0 x1 => ?_
  exact List.mem_map.mpr ⟨(n - 1 - x).toNat, List.mem_range.mpr (by omega), by omega⟩
theorem rIndex_ints {K : PySem.W.Frag} {H : Hp} {Q : VK} {a : Addr} {ns : List Int} {k : Int} (h : H a = some (.lst (ns.map V.int))) (nd : ns.Nodup) (m : k ∈ ns) (q : ∀ j : Nat, j < ns.length → ns[j]? = some k → Q (.int (j : Int)) H) : rIndex K (.ref a) [.int k] H Q := by
  obtain ⟨j, hj⟩ := List.getElem?_of_mem m
  have jl := (List.getElem?_eq_some_iff.mp hj).1
  refine ⟨a, _, .int k, j, .int k, rfl, rfl, .of h, rfl, List.all_eq_true.mpr fun v hv => ?_, by rw [List.getElem?_map, hj]; rfl, by simp [eqV], fun i z hi hz => ?_, q j jl hj⟩
  · obtain ⟨i, _, rfl⟩ := List.mem_map.mp hv
    rfl
  · rw [List.getElem?_map] at hz
    cases e : ns[i]? with
    | none => rw [e] at hz; cases hz
    | some t =>
      rw [e] at hz
      cases hz
      have ne : t ≠ k := fun z => by
        subst z
        obtain ⟨a1, a2⟩ := List.getElem?_eq_some_iff.mp e
        obtain ⟨b1, b2⟩ := List.getElem?_eq_some_iff.mp hj
        have := (List.getElem_inj nd).mp (a2.trans b2.symm)
        omega
      show (t == k) = false
      exact beq_eq_false_iff_ne.mpr ne
theorem flat_ints (ns : List Int) : (ns.map V.int).all flatV = true := List.all_eq_true.mpr fun v hv => by
  obtain ⟨i, _, rfl⟩ := List.mem_map.mp hv
  rfl
theorem index_ints {ns : List Int} {k : Int} (nd : ns.Nodup) (m : k ∈ ns) : ∃ (j : Nat) (z : V), (ns.map V.int)[j]? = some z ∧ eqV z (.int k) = true ∧ (∀ (i : Nat) (z' : V), i < j → (ns.map V.int)[i]? = some z' → eqV z' (.int k) = false) ∧ j < ns.length := by
  obtain ⟨j, hj⟩ := List.getElem?_of_mem m
  have jl := (List.getElem?_eq_some_iff.mp hj).1
  refine ⟨j, .int k, by rw [List.getElem?_map, hj]; rfl, by simp [eqV], fun i z hi hz => ?_, jl⟩
  rw [List.getElem?_map] at hz
  cases e : ns[i]? with
  | none => rw [e] at hz; cases hz
  | some t =>
    rw [e] at hz
    cases hz
    have ne : t ≠ k := fun z => by
      subst z
      obtain ⟨a1, a2⟩ := List.getElem?_eq_some_iff.mp e
      obtain ⟨b1, b2⟩ := List.getElem?_eq_some_iff.mp hj
      have := (List.getElem_inj nd).mp (a2.trans b2.symm)
      omega
    show (t == k) = false
    exact beq_eq_false_iff_ne.mpr ne
def spBadMove : Sp := fun vs H Q _ => ∃ (S : Sr) (G : Hp) (a : Addr) (ns : List Int) (n : Int), vs = [.ref S.a, .ref a] ∧ Wd S G H ∧ G a = some (.tup (ns.map V.int)) ∧ IsMv ns n ∧ 0 ≤ n ∧ n ≤ 1000 ∧
  ∀ (v : V) (d : PyData) (G' H' : Hp), Go S G H G' H' → Da G' v d → szD d ≤ 1300 → Q v H'
theorem DaAll.erase {G : Hp} {vs : List V} {ds : List PyData} (n : Nat) (h : DaAll G vs ds) : DaAll G (vs.eraseIdx n) (ds.eraseIdx n) := by
  rw [List.eraseIdx_eq_take_drop_succ, List.eraseIdx_eq_take_drop_succ]
  exact (h.take n).append (h.drop (n + 1))
theorem szL_erase (n : Nat) (ds : List PyData) : szL (ds.eraseIdx n) ≤ szL ds := by
  rw [List.eraseIdx_eq_take_drop_succ, szL_append]
  have h1 := szL_take ds n
  have h2 := szL_take (ds.drop n) 1
  rw [List.drop_drop] at h2
  omega
theorem rngI_mv {n : Int} : IsMv (rngI n) n := List.Perm.refl _
end Hd

namespace Hd
open PySem PySem.Spec PyProof.Rows L2
theorem str_nil {z : Str} (h : z.length = 0) : z = Str.ofString "" := by
  obtain ⟨c⟩ := z
  have e : c = #[] := Array.eq_empty_of_size_eq_zero h
  subst e
  rfl
/-- a value without parts -/
def Flat (v : V) (d : PyData) : Prop := (v = .non ∧ d = .none) ∨ (∃ b, v = .bl b ∧ d = .bool b) ∨ (∃ i, v = .int i ∧ d = .int i) ∨ ∃ x, v = .str x ∧ d = .str x
theorem Flat.da {G : Hp} {v : V} {d : PyData} (h : Flat v d) : Da G v d := by
  rcases h with ⟨rfl, rfl⟩ | ⟨b, rfl, rfl⟩ | ⟨i, rfl, rfl⟩ | ⟨x, rfl, rfl⟩
  · exact .non
  · exact .bl b
  · exact .int i
  · exact .str x
def spBentText : Sp := fun vs H Q _ => ∃ (S : Sr) (G : Hp) (z : Str), vs = [.ref S.a, .str z] ∧ Wd S G H ∧ z.length ≤ 100000 ∧ ∀ (z' : Str) (H' : Hp), z'.length ≤ 4 * z.length + 4 → Go S G H G H' → Q (.str z') H'
def spBentLeaf : Sp := fun vs H Q _ => ∃ (S : Sr) (G : Hp) (v : V) (d : PyData), vs = [.ref S.a, v] ∧ Wd S G H ∧ Flat v d ∧ szD d ≤ 100000 ∧ ∀ (v' : V) (d' : PyData) (G' H' : Hp), Da G' v' d' → szD d' ≤ 4 * szD d + 200 → Go S G H G' H' → Q v' H'
def spBentPart : Sp := fun vs H Q _ => ∃ (S : Sr) (G : Hp) (a : Addr) (xs : List V) (ds : List PyData) (t : Bool), vs = [.ref S.a, .ref a] ∧ Wd S G H ∧ G a = some (if t then .tup xs else .lst xs) ∧ DaAll G xs ds ∧ szL ds ≤ 100000 ∧
  ∀ (v' : V) (d' : PyData) (G' H' : Hp), Da G' v' d' → szD d' ≤ 4 * szL ds + 300 → Go S G H G' H' → Q v' H'
def cutD (ds : List PyData) (lo hi : Option Int) : List PyData := (ds.drop (HT.sIx ds.length 0 lo)).take (HT.sIx ds.length ds.length hi - HT.sIx ds.length 0 lo)
theorem DaAll.cut {G : Hp} {xs : List V} {ds : List PyData} (h : DaAll G xs ds) (lo hi : Option Int) : DaAll G (cutV xs lo hi) (cutD ds lo hi) := by
  unfold cutV cutD
  rw [h.length]
  exact (h.drop _).take _
theorem szL_cut (ds : List PyData) (lo hi : Option Int) : szL (cutD ds lo hi) ≤ szL ds := by
  unfold cutD
  have h1 := szL_take ds (HT.sIx ds.length 0 lo)
  have h2 := szL_take (ds.drop (HT.sIx ds.length 0 lo)) (HT.sIx ds.length ds.length hi - HT.sIx ds.length 0 lo)
  omega
/-- a container on the way down: its object, its items, their data, its kind, the place that is gone to; and the tuple that keeps it -/
structure Pth where
  tp : Addr
  a : Addr
  xs : List V
  ds : List PyData
  t : Bool
  i : Nat
def PthAt (G : Hp) (p : Pth) : Prop := G p.tp = some (.tup [.ref p.a, .int (p.i : Int)]) ∧ G p.a = some (if p.t then .tup p.xs else .lst p.xs) ∧ DaAll G p.xs p.ds ∧ p.i < p.xs.length
theorem PthAt.up {G G' : Hp} {p : Pth} (h : PthAt G p) (g : Same G G') : PthAt G' p := ⟨g _ _ h.1, g _ _ h.2.1, h.2.2.1.up g, h.2.2.2⟩
theorem Da.kind2 {G : Hp} {v : V} {d : PyData} (h : Da G v d) : (Flat v d ∧ instB d "list" = false ∧ instB d "tuple" = false) ∨ ∃ a xs ds t, v = .ref a ∧ G a = some (if t then HO.tup xs else HO.lst xs) ∧ DaAll G xs ds ∧ d = sqD t ds := by
  cases h with
  | non => exact .inl ⟨.inl ⟨rfl, rfl⟩, ib_none_list, ib_none_tuple⟩
  | bl b => exact .inl ⟨.inr (.inl ⟨b, rfl, rfl⟩), ib_bool_list b, ib_bool_tuple b⟩
  | int i => exact .inl ⟨.inr (.inr (.inl ⟨i, rfl, rfl⟩)), ib_int_list i, ib_int_tuple i⟩
  | str x => exact .inl ⟨.inr (.inr (.inr ⟨x, rfl, rfl⟩)), ib_str_list x, ib_str_tuple x⟩
  | lst a b => exact .inr ⟨_, _, _, false, rfl, a, b, rfl⟩
  | tup a b => exact .inr ⟨_, _, _, true, rfl, a, b, rfl⟩
theorem hasL_if {G : Hp} {a : Addr} {t : Bool} {xs : List V} (h : G a = some (if t then HO.tup xs else HO.lst xs)) : HasL G a xs := by
  cases t with
  | true => exact .inr h
  | false => exact .inl h
theorem sqD_lt (t : Bool) (ds : List PyData) : (instB (sqD t ds) "list" || instB (sqD t ds) "tuple") = true := by
  cases t with
  | true => rw [show instB (sqD true ds) "tuple" = true from ib_tuple_tuple ds, Bool.or_true]
  | false => rw [show instB (sqD false ds) "list" = true from ib_list_list ds]; rfl
def spBent : Sp := fun vs H Q _ => ∃ (S : Sr) (G : Hp) (v : V) (d : PyData), vs = [.ref S.a, v] ∧ Wd S G H ∧ Da G v d ∧ szD d ≤ 10000 ∧ ∀ (v' : V) (d' : PyData) (G' H' : Hp), Da G' v' d' → szD d' ≤ 9 * szD d + 310 → Go S G H G' H' → Q v' H'
def spJudged : Sp := fun vs H Q _ => ∃ (S : Sr) (G : Hp) (v : V) (d : PyData), vs = [.ref S.a, v] ∧ Wd S G H ∧ Da G v d ∧ szD d ≤ 1000 ∧ ∀ (v' : V) (d' : PyData) (G' H' : Hp), Da G' v' d' → szD d' ≤ 90000 → Go S G H G' H' → Q v' H'
def spNear : Sp := fun vs H Q _ => ∃ (S : Sr) (G : Hp), vs = [.ref S.a] ∧ Wd S G H ∧ ∀ (v' : V) (d' : PyData) (G' H' : Hp), Da G' v' d' → szD d' ≤ 210000 → Go S G H G' H' → Q v' H'
theorem flat_rep (k : Nat) (ns : List Int) : (List.replicate k (ns.map V.int)).flatten = ((List.replicate k ns).flatten).map V.int := by
  rw [List.map_flatten, List.map_replicate]
theorem len_rep (k : Nat) (ns : List Int) : ((List.replicate k ns).flatten).length = k * ns.length := by
  rw [List.length_flatten, List.map_replicate, List.sum_replicate_nat]
theorem Da.ints {G : Hp} {p : Addr} {ns : List Int} (h : G p = some (.tup (ns.map V.int))) : Da G (.ref p) (.tuple (ns.map PyData.int)) := .tup h (DaAll.ints ns)
theorem sz_ints (ns : List Int) : szD (.tuple (ns.map PyData.int)) = 1 + ns.length := by
  show 1 + szL _ = _
  rw [szL_ints]
theorem Go.pure {S : Sr} {G H G1 H1 H2 : Hp} (a : Go S G H G1 H1) (g : Same H1 H2) : Go S G H G1 H2 := a.q ⟨Same.refl _, a.gh.trans g, fun _ _ _ _ h => h, g⟩
theorem intsOf_map : ∀ ns : List Int, intsOf (ns.map PyData.int) = ns
  | [] => rfl
  | n :: r => by
    show n :: intsOf (r.map PyData.int) = n :: r
    rw [intsOf_map r]
theorem mvD_mv {ns : List Int} {n : Int} (h0 : 0 ≤ n) (h : IsMv ns n) (hn : n ≤ 12) : mvD (.tuple (ns.map PyData.int)) = true := by
  have ln := h.len
  have e : ((ns.length : Nat) : Int) = n := by omega
  show (decide ((ns.map PyData.int).length ≤ 12) && (decide ((((ns.map PyData.int).length : Nat) : Int) = (((ns.map PyData.int).length : Nat) : Int)) && ((ns.map PyData.int).all (fun d => isNum d 0 ((((ns.map PyData.int).length : Nat) : Int) - 1)) && decide ((intsOf (ns.map PyData.int)).Perm (rngI (((ns.map PyData.int).length : Nat) : Int)))))) = true
  rw [List.length_map, intsOf_map, e, decide_eq_true (by omega), decide_eq_true rfl, decide_eq_true (show ns.Perm (rngI n) from h), List.all_eq_true.mpr]
  · rfl
  · intro d hd
    obtain ⟨i, hi, rfl⟩ := List.mem_map.mp hd
    have := h.mem.mp hi
    show (decide (0 ≤ i) && decide (i ≤ n - 1)) = true
    rw [decide_eq_true (by omega), decide_eq_true (by omega)]
    rfl
theorem mvD_long {ds : List PyData} (h : 12 < ds.length) : mvD (.tuple ds) = false := by
  show (decide (ds.length ≤ 12) && _) = false
  rw [decide_eq_false (by omega), Bool.false_and]
def spAnswers : Sp := fun vs H Q _ => ∃ (G : Hp) (v : V) (d : PyData), vs = [v] ∧ Same G H ∧ Da G v d ∧ szD d ≤ 210000 ∧ ∀ H', Same H H' → Q (.bl true) H'
def spStore (K : PySem.W.Frag) : Sp := fun vs H Q _ => ∃ (a : Addr) (ns : List Int), vs = [.ref a] ∧ SqL K H a (ns.map V.int) ∧ ns.length ≤ 63 ∧ ∀ (S : Sr) (H' : Hp), Wd S H H' → Q (.ref S.a) H'
def spLaw (K : PySem.W.Frag) : Sp := fun vs H Q _ => ∃ (a : Addr) (ns : List Int), vs = [.ref a] ∧ SqL K H a (ns.map V.int) ∧ ns.length ≤ 63 ∧ ∀ H', Q (.bl true) H'
theorem spLaw_of {K : PySem.W.Frag} {H : Hp} {a : Addr} {ns : List Int} (hl : ns.length ≤ 63) (hS : SqL K H a (ns.map V.int)) : spLaw K [.ref a] H (fun v _ => v = .bl true) fun _ _ _ => False := ⟨a, ns, rfl, hS, hl, fun _ => rfl⟩
theorem cut_all {xs : List V} {n : Nat} (h : xs.length ≤ n) : cutV xs none (some (n : Int)) = xs := by
  unfold cutV
  rw [show HT.sIx xs.length xs.length (some (n : Int)) = min n xs.length from HT.sIx_nat xs.length xs.length n, HT.sIx_none, List.drop_zero, Nat.sub_zero, Nat.min_eq_right h]
  exact List.take_length
end Hd

namespace Hd
open PySem PySem.Spec PyProof.Rows L2

/-! ### the end of a walk while an exception is handled -/
section
variable {prog : Program} {w : World} {A : Around} {s : Shared}
theorem stop_raised {α : Type} {x1 : Addr} {Q : α → Shared → Prop} {E : Value → Shared → Prop} (hot : HotX.HotAt A x1 s.heap)
    (out : ∀ (a : Addr) (o : Obj) (g : Heap), g.get? a = some o → o.cls = .type "StopIteration" → (∀ b u, s.heap.get? b = some u → g.get? b = some u) → E (.ref a) { s with heap := g }) :
    wpAny (model prog w) A (newExc (.type "StopIteration") [] >>= fun e => (raiseNew e : Sem α)) Q E s := by
  obtain ⟨hd, o1, v1, g1, k1, c1⟩ := hot
  have up : ∀ {b : Addr} {u : Obj} {t r : Obj}, s.heap.get? b = some u → ((s.heap.push t).push r).get? b = some u := fun z => Heap.get?_push_of_some _ (Heap.get?_push_of_some _ z)
  apply wpAny_bind
  simp only [newExc, newTuple]
  apply wpAny_bind
  apply wpAny_newObj_type
  · apply wpAny_bind (m := firstArgMember _ _)
    refine wpAny_of_eq (a := Value.none) (by first | rfl | (simp only [firstArgMember]; rfl)) ?_
    apply wpAny_newObj_type
    · refine HotX.raiseNew_hot ⟨hd, o1, v1, up g1, k1, c1⟩ (Nat.ne_of_lt (Heap.lt_size (Heap.get?_push_of_some _ g1))) (Heap.get?_push_size _ rfl) rfl (by first | (simp; done) | (simp; omega)) ?_
      refine out _ _ _ (Heap.get?_update_self _ (Heap.get?_push_size _ rfl) rfl) rfl fun b u z => ?_
      rw [Heap.get?_update_other _ _ (Nat.ne_of_gt (Heap.lt_size (Heap.get?_push_of_some _ z)))]
      exact up z
    · size_fits
  · size_fits
theorem upd_hot {x1 it : Addr} {g : Obj → Obj} (n : x1 ≠ it) (c : HotX.HotAt A x1 s.heap) : HotX.HotAt A x1 (s.heap.update it g) := by
  obtain ⟨hd, o1, v1, g1, r⟩ := c
  exact ⟨hd, o1, v1, (Heap.get?_update_other _ _ (Ne.symm n)).trans g1, r⟩
theorem listEnd_hot {it l x1 : Addr} {i : Nat} {items : Array Value} {Q : Option Value → Shared → Prop} {E : Value → Shared → Prop} (hot : HotX.HotAt A x1 s.heap) (n : x1 ≠ it) (hit : s.heap.IsListIter it l i)
    (hl : s.heap.IsList l items) (hx : items[i]? = none) (hQ : ∀ g, Heap.ExtBut it s.heap g → Q none { s with heap := g }) : wpAny (model prog w) A (pyNext (.ref it)) Q E s := by
  have T := Heap.IsListIter.typeIs hit
  obtain ⟨oi, gi, ci, di⟩ := hit
  obtain ⟨ol, gl, cl, nl, dl⟩ := hl
  unfold pyNext
  apply wpAny_bind
  apply wpAny_attempt
  refine wpAny_callSpecial?_slot (name := Str.ofString "__next__") T slot_listiter_next ?_
  refine wpAny_call_entry slot_listiter_next T entry_listiter_next ?_ (args_listiter_next _)
  change wpAny _ _ (field (Value.ref it) 0 >>= _) _ _ _
  refine wpAny_bind (wpAny_field gi di (x := Value.ref l) rfl ?_)
  change wpAny _ _ (ite ((Value.ref l == Value.none) = true) _ _) _ _ _
  rw [if_neg (show ¬((Value.ref l == Value.none) = true) from fun z => Bool.noConfusion z)]
  change wpAny _ _ (field (Value.ref it) 1 >>= _) _ _ _
  refine wpAny_bind (wpAny_field gi di (x := Value.int i 0) rfl ?_)
  change wpAny _ _ (seqItems? (Value.ref l) >>= _) _ _ _
  refine wpAny_bind (wpAny_seqItems gl dl ?_)
  simp only [hx, Int.toNat_natCast]
  refine wpAny_bind (wpAny_rule (wpAny_bind (wpAny_setField gi di (by simp) ?_)))
  refine stop_raised (upd_hot (g := _) n hot : HotX.HotAt A x1 _) fun a o g go co k => ?_
  refine wpAny_bind (wpAny_isInstance (b := true) (T := "StopIteration") ⟨o, go, co⟩ isSubtype_stop (wpAny_pure (hQ g fun b u hb z => ?_)))
  exact k b u ((Heap.get?_update_other _ _ (Ne.symm hb)).trans z)
theorem tupEnd_hot {it l x1 : Addr} {i : Nat} {items : Array Value} {Q : Option Value → Shared → Prop} {E : Value → Shared → Prop} (hot : HotX.HotAt A x1 s.heap) (n : x1 ≠ it) (hit : s.heap.IsTupleIter it l i)
    (hl : s.heap.IsTuple l items) (hx : items[i]? = none) (hQ : ∀ g, Heap.ExtBut it s.heap g → Q none { s with heap := g }) : wpAny (model prog w) A (pyNext (.ref it)) Q E s := by
  have T := Heap.IsTupleIter.typeIs hit
  obtain ⟨oi, gi, ci, di⟩ := hit
  obtain ⟨ol, gl, cl, nl, dl⟩ := hl
  unfold pyNext
  apply wpAny_bind
  apply wpAny_attempt
  refine wpAny_callSpecial?_slot (name := Str.ofString "__next__") T F.slot_tuple_iterator_next ?_
  refine wpAny_call_entry F.slot_tuple_iterator_next T F.entry_tuple_iterator_next ?_ (F.args_tuple_iterator_next_1 _)
  change wpAny _ _ (field (Value.ref it) 0 >>= _) _ _ _
  refine wpAny_bind (wpAny_field gi di (x := Value.ref l) rfl ?_)
  change wpAny _ _ (ite ((Value.ref l == Value.none) = true) _ _) _ _ _
  rw [if_neg (show ¬((Value.ref l == Value.none) = true) from fun z => Bool.noConfusion z)]
  change wpAny _ _ (field (Value.ref it) 1 >>= _) _ _ _
  refine wpAny_bind (wpAny_field gi di (x := Value.int i 0) rfl ?_)
  change wpAny _ _ (seqItems? (Value.ref l) >>= _) _ _ _
  refine wpAny_bind (wpAny_seqItems gl dl ?_)
  simp only [hx, Int.toNat_natCast]
  refine wpAny_bind (wpAny_rule (wpAny_bind (wpAny_setField gi di (by simp) ?_)))
  refine stop_raised (upd_hot (g := _) n hot : HotX.HotAt A x1 _) fun a o g go co k => ?_
  refine wpAny_bind (wpAny_isInstance (b := true) (T := "StopIteration") ⟨o, go, co⟩ isSubtype_stop (wpAny_pure (hQ g fun b u hb z => ?_)))
  exact k b u ((Heap.get?_update_other _ _ (Ne.symm hb)).trans z)
end
/-! ### walks over lists and tuples there -/
section
variable {P : Program} {w : World} {K : PySem.W.Frag} {tg : Expr}
theorem HotC.out {X : Cx} {pins : List (Addr × Obj)} {σ : L2.St} {H : Hp} {s : Shared} {b : Addr} (c : L2H.HotC X) (I : Inv X pins σ H s) (f : FpOk X pins H b) : ∃ x1, HotX.HotAt X.A x1 s.heap ∧ x1 ≠ b := by
  obtain ⟨p, ⟨hd, v1, k1, c1⟩, m⟩ := c
  obtain ⟨-, -, -, -, -, f5⟩ := f
  exact ⟨p.1, ⟨hd, p.2, v1, (I.pin p (List.mem_append_left _ m)).1, k1, c1⟩, f5 p (List.mem_append_left _ m)⟩
theorem walk_list (a it : Addr) : L2H.TurnH P w K tg (Itl K a) [it] it (fun i h => h.IsListIter it a i) := by
  constructor
  case mem => exact List.mem_singleton.mpr rfl
  case obj =>
    intro i h st b hb
    obtain rfl := List.mem_singleton.mp hb
    obtain ⟨o, e, -, d⟩ := st
    exact ⟨o, e, fun v z => Data.noConfusion (d.symm.trans z)⟩
  case keep => exact fun i h h' st k => st.at fun o e => k it (List.mem_singleton.mpr rfl) o e
  case self => exact fun A i s Q E st q => wpAny_pyIter_listiter st q
  case item =>
    rintro X rfl rfl rfl hc i pins s σ H E I fp st ⟨xs, x, sq, at_⟩
    obtain ⟨vs, rv, pl, -⟩ := I.list sq
    obtain ⟨u, hu, ru⟩ := rv.get at_
    obtain ⟨f0, f1, f2, f3, f4, f5⟩ := fp it (List.mem_singleton.mpr rfl)
    refine wpAny_pyNext_list_item st pl.isList (x := u) (by simpa using hu) fun g sg keep => ⟨u, rfl, ?_⟩
    have J : Inv X pins σ H { s with heap := g } := I.turned (t' := s.toks) (fun b o n z => (keep.2 b n).trans z) f0 f1 f3 f4 f5
    obtain ⟨o, e, c, d⟩ := id sg
    refine go_of (s := { s with heap := g }) e c d (by decide) ⟨x, H, J, ru, ⟨rfl, fun ys hy => ?_⟩, sg, fun b hb => (fp b hb).1⟩
    rw [I.list_inj hy sq]
    exact at_
  case done =>
    rintro X rfl rfl rfl hc i pins s σ H E I fp st ⟨xs, sq, le⟩
    obtain ⟨vs, rv, pl, -⟩ := I.list sq
    obtain ⟨x1, hot, ne⟩ := HotC.out hc I (fp it (List.mem_singleton.mpr rfl))
    obtain ⟨f0, f1, f2, f3, f4, f5⟩ := fp it (List.mem_singleton.mpr rfl)
    have hl := rv.length
    exact listEnd_hot hot ne st pl.isList (by simp; omega) fun g eb => ⟨rfl, I.turned (t' := s.toks) (fun b o n z => eb b o n z) f0 f1 f3 f4 f5⟩
theorem walk_tuple (a it : Addr) : L2H.TurnH P w K tg (Itt K a) [it] it (fun i h => h.IsTupleIter it a i) := by
  constructor
  case mem => exact List.mem_singleton.mpr rfl
  case obj =>
    intro i h st b hb
    obtain rfl := List.mem_singleton.mp hb
    obtain ⟨o, e, -, d⟩ := st
    exact ⟨o, e, fun v z => Data.noConfusion (d.symm.trans z)⟩
  case keep => exact fun i h h' st k => st.at fun o e => k it (List.mem_singleton.mpr rfl) o e
  case self => exact fun A i s Q E st q => wpAny_pyIter_tupleiter st q
  case item =>
    rintro X rfl rfl rfl hc i pins s σ H E I fp st ⟨xs, x, sq, at_⟩
    obtain ⟨vs, rv, pl, -⟩ := I.tuple sq
    obtain ⟨u, hu, ru⟩ := rv.get at_
    obtain ⟨f0, f1, f2, f3, f4, f5⟩ := fp it (List.mem_singleton.mpr rfl)
    refine wpAny_pyNext_tuple_item st (show s.heap.IsTuple a vs.toArray from pl) (x := u) (by simpa using hu) fun g sg keep => ⟨u, rfl, ?_⟩
    have J : Inv X pins σ H { s with heap := g } := I.turned (t' := s.toks) (fun b o n z => (keep.2 b n).trans z) f0 f1 f3 f4 f5
    obtain ⟨o, e, c, d⟩ := id sg
    refine go_of (s := { s with heap := g }) e c d (by decide) ⟨x, H, J, ru, ⟨rfl, fun ys hy => ?_⟩, sg, fun b hb => (fp b hb).1⟩
    rw [I.tuple_inj hy sq]
    exact at_
  case done =>
    rintro X rfl rfl rfl hc i pins s σ H E I fp st ⟨xs, sq, le⟩
    obtain ⟨vs, rv, pl, -⟩ := I.tuple sq
    obtain ⟨x1, hot, ne⟩ := HotC.out hc I (fp it (List.mem_singleton.mpr rfl))
    obtain ⟨f0, f1, f2, f3, f4, f5⟩ := fp it (List.mem_singleton.mpr rfl)
    have hl := rv.length
    exact tupEnd_hot hot ne st (show s.heap.IsTuple a vs.toArray from pl) (by simp; omega) fun g eb => ⟨rfl, I.turned (t' := s.toks) (fun b o n z => eb b o n z) f0 f1 f3 f4 f5⟩
end
section
variable {X : Cx} {tg l : Expr} {tl : TE}
theorem new_fp {pins : List (Addr × Obj)} {σ : L2.St} {H : Hp} {s : Shared} (I : Inv X pins σ H s) : ∀ b ∈ [s.heap.objs.size], FpOk X pins H b := fun b hb => by
  obtain rfl := List.mem_singleton.mp hb
  exact I.fpOk (Nat.le_refl _) (I.hok.fresh (Nat.le_refl _))
theorem ih_list (hl : PE X l tl) : L2H.PIH X tg l (iList X.K tl) := by
  constructor
  intro pins s σ H R I h
  apply thn (hl.run pins s σ H _ I h)
  rintro v s1 ⟨x, H1, I1, r1, a, rfl, ⟨xs, sq⟩, q⟩
  cases r1
  obtain ⟨vs, rv, pl, -⟩ := I1.list sq
  exact wpAny_pyIter_list pl.isList ⟨_, _, _, _, H1, rfl, I1.kept (t' := s1.toks) fun b o z => Heap.get?_push_of_some _ z, walk_list a _, ⟨_, Heap.get?_push_size _ rfl, rfl, rfl⟩, new_fp I1, q⟩
theorem ih_tup (hl : PE X l tl) : L2H.PIH X tg l (iTup X.K tl) := by
  constructor
  intro pins s σ H R I h
  apply thn (hl.run pins s σ H _ I h)
  rintro v s1 ⟨x, H1, I1, r1, a, rfl, ⟨xs, sq⟩, q⟩
  cases r1
  obtain ⟨vs, rv, pl, -⟩ := I1.tuple sq
  exact wpAny_pyIter_tuple (show s1.heap.IsTuple a vs.toArray from pl) ⟨_, _, _, _, H1, rfl, I1.kept (t' := s1.toks) fun b o z => Heap.get?_push_of_some _ z, walk_tuple a _, ⟨_, Heap.get?_push_size _ rfl, rfl, rfl⟩, new_fp I1, q⟩
end
/-! ### comprehensions there -/
/-- a block's context that keeps what is pinned -/
abbrev blkH (X : Cx) (s : Shared) (H : Hp) (scope : Scope) (cenv : Env) (fp : List Addr) : Cx := (X.blk s H scope cenv fp).tr X.pn fun _ _ => False
section
variable {X : Cx} {pins : List (Addr × Obj)} {σ : L2.St} {H : Hp} {s : Shared}
theorem start_blkH {scope : Scope} {own : List (Str × Nat)} {fp : List Addr} {h' : Heap} (I : Inv X pins σ H s) (ce : Env) (cL : ce.locals = s.heap.objs.size) (k : ∀ b o, s.heap.get? b = some o → h'.get? b = some o)
    (J : Inv (X.blk s H scope ce fp) [] (wipe σ (own.map (·.2))) H { s with heap := h' }) : Inv (blkH X s H scope ce fp) [] (wipe σ (own.map (·.2))) H { s with heap := h' } := by
  refine Inv.toTry (X := X.blk s H scope ce fp) (pins := X.pn) (J.pins_of fun p hp => ?_) _
  obtain ⟨e, n, ne, nf, d⟩ := I.pin p (List.mem_append_left _ hp)
  refine ⟨k _ _ e, n, fun z => ?_, fun m => ?_, d⟩
  · have z' : p.1 = s.heap.objs.size := z.trans cL
    exact absurd (Heap.lt_size e) (by rw [z']; exact Nat.lt_irrefl _)
  · exact (List.mem_cons.mp (I.stkSub p.1 m)).elim ne nf
theorem pe_lcH {elt tg iter : Expr} {ifs : List Expr} {scope : Scope} {own : List (Str × Nat)} {pos : Pos} {wi : TI} {g : TG} {tt : TT} {te : TE} (hc : L2H.HotC X) (hN : X.N.Nodup) (hi : L2H.PIH X tg iter wi) (ok : BlkOk X.N X.env.scope scope own)
    (hg : ∀ (s : Shared) (H : Hp) (C : Addr) (cl : List (Str × Addr)) (fp : List Addr), PG (blkH X s H scope (compEnvC scope cl C X.env) fp) tg g)
    (ht : ∀ (s : Shared) (H : Hp) (C : Addr) (cl : List (Str × Addr)) (fp : List Addr), PTs (blkH X s H scope (compEnvC scope cl C X.env) fp) ifs tt)
    (he : ∀ (s : Shared) (H : Hp) (C : Addr) (cl : List (Str × Addr)) (fp : List Addr), PE (blkH X s H scope (compEnvC scope cl C X.env) fp) elt te) (hs : ∀ x, foldedSetIterable iter X.env x = pure x := by intro _; rfl) :
    PE X (.ListComp elt [⟨tg, iter, ifs, 0⟩] scope pos) (tLc wi g tt te (own.map (·.2))) := by
  constructor
  intro pins s σ H Q I h
  rw [eval_ListComp]
  have cells : ∀ y ∈ scope.names, y.2 = .free → ∃ c, X.env.cells.lookup y.1 = some c := fun y hy e => I.ok.has _ (ok.free y hy e)
  refine wpAny_comprehension_free (use := none) rfl hs (closure_ok cells) ok.kind (fun y hy e => (ok.uniq y hy).trans (congrArg some e)) (thn (hi.run pins s σ H _ I h) fun xv s1 hx => thn hx fun itv s2 h2 => ?_)
  obtain ⟨it, fp, tn, J, H2, rfl, I2, T, st2, f2, q⟩ := h2
  refine wpAny_newObj_type (newEnv_comp ?_) (by show 0 ≤ sizeLine; decide)
  obtain ⟨W, ⟨m0, w0⟩, turn⟩ := q s2.heap.objs.size (I2.hok.fresh (Nat.le_refl _))
  have up3 : ∀ b o, s2.heap.get? b = some o → (s2.heap.push { cls := .type "list", data := .seq ([] : List Value).toArray }).get? b = some o := fun b o e => Heap.get?_push_of_some _ e
  have I3 : Inv X pins σ (upd H2 s2.heap.objs.size (.lst [])) { s2 with heap := s2.heap.push { cls := .type "list", data := .seq ([] : List Value).toArray } } :=
    I2.laid (t' := s2.toks) up3 (Nat.le_refl _) ⟨Nat.zero_le _, [], 0, .nil, Heap.get?_push_size _ rfl⟩
  have f3 : ∀ b ∈ fp, FpOk X pins (upd H2 s2.heap.objs.size (.lst [])) b ∧ b < (s2.heap.push { cls := .type "list", data := .seq ([] : List Value).toArray }).objs.size := fun b hb => by
    obtain ⟨o, e, -⟩ := T.obj _ _ st2 b hb
    have lt := Heap.lt_size e
    refine ⟨⟨(upd_ne (Nat.ne_of_lt lt)).trans (f2 b hb).1, (f2 b hb).2⟩, ?_⟩
    rw [Heap.size_push]
    exact Nat.lt_succ_of_lt lt
  have nf3 : ∀ b ∈ fp, (upd H2 s2.heap.objs.size (.lst [])) b = none := fun b hb => (f3 b hb).1.1
  have st3 := T.keep _ _ _ st2 fun b _ o e => up3 b o e
  generalize hD : s2.heap.objs.size = D at *
  generalize hs3 : ({ s2 with heap := s2.heap.push { cls := .type "list", data := .seq ([] : List Value).toArray } } : Shared) = s3 at *
  have hh3 : s2.heap.push { cls := .type "list", data := .seq ([] : List Value).toArray } = s3.heap := by rw [← hs3]
  rw [hh3] at f3 st3
  have k4 : ∀ b o, s3.heap.get? b = some o → (pushCells (s3.heap.push { cls := .type "dict", data := .dict #[] }) scope.names).get? b = some o := fun b o e => pushCells_keeps _ _ _ _ (Heap.get?_push_of_some _ e)
  have J4 := block_start I3 ok hN f3
  generalize hcl : cellsFrom (s3.heap.objs.size + 1) scope.names (cloFrom X.env.cells scope.names []) = cl at J4
  have G := hg s3 (upd H2 D (.lst [])) s3.heap.objs.size cl fp
  have TT := ht s3 (upd H2 D (.lst [])) s3.heap.objs.size cl fp
  have EE := he s3 (upd H2 D (.lst [])) s3.heap.objs.size cl fp
  have I4 := start_blkH I3 (compEnvC scope cl s3.heap.objs.size X.env) rfl k4 J4
  have st4 := T.keep _ _ _ st3 fun b _ o e => k4 b o e
  have hotB : L2H.HotC (blkH X s3 (upd H2 D (.lst [])) scope (compEnvC scope cl s3.heap.objs.size X.env) fp) := hc
  change codeAny _ X.A (Code.compStart (.ListComp elt [⟨tg, iter, ifs, 0⟩] scope pos) 0 (Value.ref it) (Value.ref D) (compEnvC scope cl s3.heap.objs.size X.env))
    (compPost (model X.prog X.w) X.A X.xe none (EP X pins σ Q) (Value.ref D) s3.heap.objs.size) _
  generalize hce : compEnvC scope cl s3.heap.objs.size X.env = ce at *
  have eL : ce.locals = s3.heap.objs.size := by rw [← hce]; rfl
  generalize hs4 : ({ s3 with heap := pushCells (s3.heap.push { cls := .type "dict", data := .dict #[] }) scope.names } : Shared) = s4 at *
  have e4 : pushCells (s3.heap.push { cls := .type "dict", data := .dict #[] }) scope.names = s4.heap := by rw [← hs4]
  rw [e4] at st4
  generalize hH3 : upd H2 D (.lst []) = H3 at *
  have vs := own.map (·.2)
  have still : ∀ {τ : L2.St} {g : Hp} {z : Shared}, Inv (blkH X s3 H3 scope ce fp) [] τ g z → (∀ b ∈ fp, g b = none) → ∀ b ∈ fp, FpOk (blkH X s3 H3 scope ce fp) [] g b := fun {τ g z} J hn b hb =>
    ⟨hn b hb, (J.ok.exf b hb).1, J.ok.exfs b hb, .inl hb, fun x c e => (J.ok.exf b hb).2 x c e, fun p hp => (f3 b hb).1.2.2.2.2.2 p (List.mem_append_left _ (by rw [List.append_nil] at hp; exact hp))⟩
  have body : codeAny (model X.prog X.w) X.A (Code.compLoop (.ListComp elt [⟨tg, iter, ifs, 0⟩] scope pos) 0 (Value.ref it) (Value.ref D) ce) (compPost (model X.prog X.w) X.A X.xe none (EP X pins σ Q) (Value.ref D) s3.heap.objs.size) s4 := by
    refine compLoop_any (fun n z => ∃ i g, Inv (blkH X s3 H3 scope ce fp) [] (wipe σ (own.map (·.2))) g z ∧ tn i z.heap ∧ (∀ b ∈ fp, g b = none) ∧ W i n g) ?_ m0 ⟨0, H3, I4, st4, nf3, w0⟩
    rintro n s5 ⟨i, H5, I5, st5, n5, w5⟩
    obtain ⟨stop, qq⟩ | ⟨go, Nx, hNx, step⟩ := turn i n H5 w5
    · refine thnF (T.done (blkH X s3 H3 scope ce fp) rfl rfl rfl hotB i [] s5 _ H5 (fun _ _ => False) I5 (still I5 n5) st5 stop) ?_
      rintro _ s6 ⟨rfl, I6⟩
      have I7 : Inv X pins σ H5 s6 := I3.call' (ch := fp) I6.os I6.base I6.hok I6.bare fun b hb => ⟨(f3 b hb).1.2.2.2.1, (f3 b hb).1.2.1, (f3 b hb).1.2.2.2.2⟩
      have n6 : H5 s3.heap.objs.size = none := by
        rw [← eL]
        exact I6.free
      obtain ⟨m, hn, -⟩ := I6.loc
      obtain ⟨f0, f1, f2', f4, f5, f6⟩ := I3.fpOk (Nat.le_refl _) n6
      refine ⟨m, by rw [← eL]; exact hn, fun g sb => ⟨.ref D, H5, ?_, rfl, qq⟩⟩
      exact I7.turned (t' := s6.toks) (fun b o nb e => (sb.2 b nb).trans e) f0 f1 f4 f5 f6
    · refine thnF (T.item (blkH X s3 H3 scope ce fp) rfl rfl rfl hotB i [] s5 _ H5 (fun _ _ => False) I5 (still I5 n5) st5 go) ?_
      rintro _ s6 ⟨u, rfl, h6⟩
      refine thnF h6 ?_
      rintro - s7 ⟨x, H7, I7, r7, y7, st7, n7⟩
      have K7 := I7.pinned (still I7 n7) (T.obj _ _ st7)
      refine thnF (G.run _ s7 _ H7 x u _ K7 r7 (step x H7 y7)) ?_
      rintro - s8 ⟨σ8, H8, I8, w8, q8⟩
      have pinned : ∀ {z : Shared} {g : Hp}, Inv (blkH X s3 H3 scope ce fp) ([] ++ pinsAt fp s7.heap) σ8 g z → ∀ b ∈ fp, ∀ o, s7.heap.get? b = some o → z.heap.get? b = some o ∧ g b = none := fun {z g} J b hb o e => by
        have at_ := J.pin (b, o) (List.mem_append_right _ (List.mem_append_right _ (mem_pinsAt hb e)))
        exact ⟨at_.1, at_.2.1⟩
      have again : ∀ {z : Shared} {g : Hp}, Inv (blkH X s3 H3 scope ce fp) ([] ++ pinsAt fp s7.heap) σ8 g z → Nx g → ∃ m, m < n ∧ ∃ i g, Inv (blkH X s3 H3 scope ce fp) [] (wipe σ (own.map (·.2))) g z ∧ tn i z.heap ∧ (∀ b ∈ fp, g b = none) ∧ W i m g := by
        intro z g J nx
        obtain ⟨m', lt, w'⟩ := hNx g nx
        have len : (wipe σ (own.map (·.2))).length = σ8.length := by rw [← w8, wipe_length]
        refine ⟨m', lt, i + 1, g, J.unpinned.weak len (fun j v e => ?_), T.keep _ _ _ st7 fun b hb o e => (pinned J b hb o e).1, fun b hb => ?_, w'⟩
        · exact (wipe_some (w8 ▸ e)).1
        · obtain ⟨o, e, -⟩ := T.obj _ _ st7 b hb
          exact (pinned J b hb o e).2
      refine thnF (TT.run _ s8 σ8 H8 _ I8 q8) ?_
      rintro b s9 ⟨H9, I9, q9⟩
      cases b
      · exact again I9 q9
      · refine thnF (EE.run _ s9 σ8 H9 _ I9 q9) ?_
        rintro z s10 ⟨y, H10, I10, r10, acc, at_, lt, nx⟩
        exact app_ok (X := blkH X s3 H3 scope ce fp) I10 at_ lt r10 fun s11 I11 => again I11 nx
  exact codeAny_compStart_list body (T.self X.A 0 _ _ _ st4 body)
end
end Hd

namespace Hd
open PySem PySem.Spec PyProof.Rows L2

/-! ### own exception classes -/
/-- what the written part tells of such a class: x its name, D its place -/
structure Ec (K : PySem.W.Frag) (mg : Str → Option Value) (x : Str) (D : Addr) : Prop where
  gC : mg x = some (.ref D)
  ox : OexC K D
  xf : XfC K D
  ca : PySem.W.findIn K (.ref D) "__class__" = some (some (.builtin "object.__class__"))
  sg : PySem.W.specialIn K (.builtin "object.__class__") "__get__" = some (some (.builtin "getset_descriptor.__get__"))
  tk : PySem.W.takesIn K (.builtin "object.__class__") = some true
  mo : PySem.W.mroIn K D (.type "object") = some true
  ic : PySem.W.isClsIn K D = true
/-- the class named x answers b to isinstance of an instance of the class at D -/
def Isx (K : PySem.W.Frag) (mg : Str → Option Value) (D : Addr) (x : Str) (b : Bool) : Prop := ∃ C : Addr, mg x = some (.ref C) ∧ PySem.W.kitOne K (.ref D) (.ref C) = some b
theorem isx_mk {K : PySem.W.Frag} {h : Heap} {mg : Str → Option Value} {D C : Addr} {x : Str} {b : Bool} (X : K.In h) (G : h.Ns mainGlobals mg) (a : PySem.W.nsIn K mainGlobals x = some (some (.ref C)))
    (i : PySem.W.isClsIn K C = true) (t : PySem.W.typeIn K (.ref C) = some (.type "type")) (s : PySem.W.subIn K (.ref D) (.ref C) = some b) (ne : b = true ∨ (D == C) = false) : Isx K mg D x b := by
  refine ⟨C, PySem.W.mg_of X G a, ?_⟩
  have i' : (PySem.W.clsIn K C).isSome = true := i
  have both : ((PySem.W.clsIn K C).isSome && PySem.W.typeIn K (.ref C) == some (.type "type")) = true := by rw [i', t] <;> rfl
  have k : PySem.W.kitCls K (.ref D) (.ref C) = some b := by
    show (if ((PySem.W.clsIn K C).isSome && PySem.W.typeIn K (.ref C) == some (.type "type")) = true then PySem.W.subIn K (.ref D) (.ref C) else none) = some b
    rw [if_pos both]
    exact s
  unfold PySem.W.kitOne
  split
  · rename_i e
    rcases ne with rfl | ne
    · rfl
    · have e' : (D == C) = true := by simpa using e
      rw [ne] at e'
      exact Bool.noConfusion e'
  · exact k
/-- an exception at p of the class at D, its attributes fs standing at d -/
structure ErrAt (D d : Addr) (fs : List (Str × V)) (H : Hp) (p : Addr × Obj) : Prop where
  cls : p.2.cls = .ref D
  dict : p.2.dict = some d
  data : ∃ vs, p.2.data = .fields vs
  at_ : H d = some (.xd fs)
theorem ErrAt.up {D d : Addr} {fs : List (Str × V)} {H H' : Hp} {p : Addr × Obj} (e : ErrAt D d fs H p) (h : H' d = H d) : ErrAt D d fs H' p := ⟨e.cls, e.dict, e.data, h.trans e.at_⟩
section
variable {X : Cx} {p : Addr × Obj} {D d : Addr} {fs : List (Str × V)}
theorem ErrAt.inst {pins : List (Addr × Obj)} {σ : L2.St} {H : Hp} {s : Shared} (e : ErrAt D d fs H p) (hp : p ∈ X.pn) (I : Inv X pins σ H s) : ∃ od mA, PySem.W.InstAt s.heap p.1 p.2 D (some od) ∧ s.heap.Ns1 d mA ∧ (∀ f, RelO (fs.lookup f) (mA f)) ∧ ∀ n, PySem.W.lookIn n od = some (mA n) := by
  have at_ : ObjOk X.prog X.w H s.heap d (.xd fs) := I.hok d _ e.at_
  obtain ⟨mA, hns, hr⟩ := at_
  obtain ⟨od, ho, hl⟩ := lookIn_ns hns
  obtain ⟨vs, dv⟩ := e.data
  refine ⟨od, mA, ⟨(I.pin p (List.mem_append_left _ hp)).1, e.cls, ?_, ?_⟩, hns, hr, hl⟩
  · unfold PySem.W.notCls
    rw [dv] <;> rfl
  · rw [e.dict]
    exact ho
/-- isinstance of it -/
def rIsErr (K : PySem.W.Frag) (p : Addr × Obj) (D d : Addr) : List V → Hp → VK → Prop := fun xs H Q => ∃ (c : V) (cv : Value) (b : Bool) (fs : List (Str × V)), xs = [.ref p.1, c] ∧ (∀ u, RelV c u → u = cv) ∧ PySem.W.kitOne K (.ref D) cv = some b ∧ ErrAt D d fs H p ∧ Q (.bl b) H
theorem call_isErr {x : Str} (T : Ec X.K X.mg x D) (hp : p ∈ X.pn) : CallR X (.builtin "isinstance") (rIsErr X.K p D d) := by
  rintro pins s σ H xs us Q I r ⟨c, cv, b, fs, rfl, hcv, e, at_, q⟩
  cases r with
  | cons r1 rr =>
    cases rr with
    | cons r2 rr =>
      cases rr
      cases r1
      obtain rfl := hcv _ r2
      obtain ⟨od, mA, J, -⟩ := at_.inst hp I
      have kit := PySem.W.kitx_exc (x := p.1) (ox := p.2) (od := some od) T.ic T.xf.ga T.xf.gg T.xf.exC T.ca T.sg T.tk T.mo
      exact PySem.W.kia_one kit I.kIn J e (fun z => nomatch z) fun tk => ⟨.bl b, H, I.kept (t' := tk) fun _ _ z => z, rfl, q⟩
/-- err.n -/
def tErrF (p : Addr × Obj) (D d : Addr) (n : Str) (te : TE) : TE := fun σ H Q => te σ H fun x H1 => x = .ref p.1 ∧ ∃ (fs : List (Str × V)) (v : V), ErrAt D d fs H1 p ∧ fs.lookup n = some v ∧ Q v H1
theorem pe_errF {x : Str} {e : Expr} {te : TE} {pos : Pos} {n : Str} (T : Ec X.K X.mg x D) (hno : PySem.W.findIn X.K (.ref D) n = some none) (hp : p ∈ X.pn) (he : PE X e te) (hb : attributeBase e n X.env (eval e X.env) = eval e X.env := by rfl) :
    PE X (.Attribute e n pos) (tErrF p D d n te) := by
  constructor
  intro pins s σ H Q I h
  refine attr_of hb (thn (he.run pins s σ H _ I h) ?_)
  rintro u s1 ⟨y, H1, I1, ry, rfl, fs, v, at_, l, q⟩
  obtain rfl : u = Value.ref p.1 := ry
  obtain ⟨od, mA, J, hns, hr, hl⟩ := at_.inst hp I1
  obtain ⟨u, hu, ru⟩ := RelO.some_of (v := v) (o := mA n) (by rw [← l]; exact hr n)
  exact HandSPX.exc_get I1.kIn J T.xf.ga T.xf.gg T.xf.exC (PySem.W.findObj_own T.xf.hdC hno rfl (by rw [hl, hu])) (handed_of ru) ⟨v, H1, I1.tok _, ru, q⟩
end
/-! ### defs called while an exception is handled; their promise may speak of that exception -/
abbrev SpH := Addr × Obj → Sp
structure FnE (P : Program) (w : World) (K : PySem.W.Frag) (mg : Str → Option Value) (base : Heap) (k : Nat) (f : Addr) (fd : FuncData) (ps : List Str) (sp : SpH) : Prop where
  len : ∀ p vs H Q E, sp p vs H Q E → vs.length = ps.length
  go : ∀ (A : Around) (outer : List Env) (s : Shared) (H : Hp) (args : Args) (us : List Value) (vs : List V) (Q : VK) (E : XK) (p : Addr × Obj), L2H.RoomH k A → L2H.Hot1 A p → L2H.PinOk outer H s p → Env0 P w K mg base A outer s H → BindsTo s fd args (ps.zip us) →
    Vals vs us → sp p vs H Q E → codeAny (model P w) A (.call (.ref f) args) (CR CX0 outer P w H s Q E) s
def CalE (P : Program) (w : World) (K : PySem.W.Frag) (mg : Str → Option Value) (base : Heap) (x : Str) (k : Nat) (ps : List Str) (sp : SpH) : Prop :=
  ∃ f fd, FnE P w K mg base k f fd ps sp ∧ mg x = some (.ref f) ∧ PySem.W.keepIn K (.ref f) = true ∧ Binds K fd ps []
section
variable {P : Program} {w : World} {K : PySem.W.Frag} {mg : Str → Option Value} {base : Heap} {x : Str} {st : Stmt} {ps N : List Str} {k : Nat} {sp : SpH}
theorem Def.calE (D : Def K mg x st ps) (S : FnScope N ps (defScope st)) (len : ∀ p vs H Q E, sp p vs H Q E → vs.length = ps.length)
    (hbody : ∀ (f : Addr) (cdv : Value) (A : Around) (outer : List Env) (s : Shared) (H : Hp) (vs : List V) (Q : VK) (E : XK) (p : Addr × Obj), L2H.Hot1 A p → L2H.RoomH k (A.deeper (envOfC x (defScope st) s.heap.objs.size f cdv)) → sp p vs H Q E →
      ∃ t, PSs (L2H.cxH CX0 P w K mg base N x (defScope st) f cdv A outer s H E p).nox (defBody st) t ∧ t { nx := fun _ H' => Q .non H', rt := Q } (start N vs) H) : CalE P w K mg base x (k + 1) ps sp := by
  obtain ⟨f, fd, F, g, b⟩ := D
  refine ⟨f, fd, ⟨len, ?_⟩, g, F.kp, b⟩
  obtain ⟨oc, od, kV, doc, pm, an, cdv, ct, osl, rfl, lk, hcd⟩ := F.ex
  intro A outer s H args us vs Q E p hr hot pin e0 hb r hsp
  have KX : K.In s.heap := e0.mod.kin.keeps fun b o e => (e0.bs b o e).1
  have free : s.heap.NoLimit := e0.mod.nolimit.keeps fun b o e => (e0.bs b o e).1
  have kinds : ∀ y ∈ ps.zip us, (defScope st).names.lookup y.1 = some .local ∨ ((defScope st).names.lookup y.1 = some .cell ∧ ((cellsFrom (s.heap.objs.size + 1) (defScope st).names []).lookup y.1).isSome = true) := fun ⟨n, v⟩ hy =>
    (S.par n (List.of_mem_zip hy).1).imp id fun q => ⟨q, PySem.W.cellsFrom_some _ _ _ (.inl q)⟩
  apply codeAny_call_function hr.depth (KX _ _ lk) rfl S.co S.gen rfl (PySem.W.codeRec_of KX hcd) (hb _ _ _ _ _)
  refine wpAny_newFunctionEnv_cells S.kind kinds ?_
  rintro env rfl s1 x
  refine ⟨free.keeps x.toInCall.keep, codeAny_func ?_⟩
  obtain ⟨t, ht, hq⟩ := hbody f cdv A outer s H vs Q E p hot (hr.deeper _) hsp
  have I := L2H.inv_startH (CX := CX0) (E := E) S pin e0 (len _ _ _ _ _ hsp) r x
  refine wpAny_mono (ht.nox.run [] s1 (start N vs) H _ I hq) ?_ fun e s' hs => hs
  intro fl s' hs
  cases fl
  · obtain ⟨σ', H', J, q⟩ := hs
    exact ⟨V.non, H', J.os, J.bare, J.base, J.hok, rfl, q⟩
  · obtain ⟨_, _, _, q⟩ := hs
    exact q.elim
  · obtain ⟨_, _, _, q⟩ := hs
    exact q.elim
  · obtain ⟨v, σ', H', J, rv, q⟩ := hs
    exact ⟨v, H', J.os, J.bare, J.base, J.hok, rv, q⟩
end
section
variable {X : Cx} {x : Str} {q pos : Pos} {e : Expr} {es : List Expr} {k : Nat} {ps : List Str} {sp : SpH} {t : TA} {p : Addr × Obj}
theorem pe_calE (C : CalE X.prog X.w X.K X.mg X.base x k ps sp) (hr : L2H.RoomH k X.A) (hot : L2H.Hot1 X.A p) (hp : p ∈ X.pn) (hg : Gl X x) (ha : PA X (e :: es) t) (hdb : (x == ("__debug__" : Str)) = false := by decide)
    (he : starEach (e :: es) X.env = (false, eval e X.env) :: starEach es X.env := by rfl) (hpl : (backTo pos (starEach es X.env)).any (·.1) = false := by rfl) :
    PE X (.Call (.Name x q) (e :: es) [] pos) (tCall (sp p) [] E0 t) := by
  obtain ⟨f, fd, F, g, kp, b⟩ := C
  constructor
  intro pins s σ H Q I h
  apply wpAny_Call_Name_kw (ld_glob I hg g _ hdb)
  refine PySem.W.callWith_K (h₀ := X.base) I.ok.mod.kin kp (thn (ha.run pos pins s σ H _ I h) ?_) he hpl
  rintro us s1 ⟨vs, H1, I1, r, sq⟩
  rw [List.append_nil] at sq
  refine ⟨I1.kIn, wpAny_call ?_⟩
  have ln : us.length = ps.length := r.length.symm.trans (F.len _ _ _ _ _ sq)
  have bd := b s1 us I1.kIn ((congrArg List.length (List.append_nil us)).trans ln)
  rw [List.append_nil] at bd
  obtain ⟨p1, p2, p3, p4, p5⟩ := I1.pin p (List.mem_append_left _ hp)
  have pin : L2H.PinOk X.stack H1 s1 p := ⟨p1, p2, fun m => (List.mem_cons.mp (I1.stkSub p.1 m)).elim p3 p4, p5⟩
  refine codeAny_mono (F.go X.A X.stack s1 H1 ⟨us, []⟩ us vs Q E0 p hr hot pin I1.env0 bd r sq) ?_
  intro res s' hq
  cases res with
  | error _ => exact hq.elim
  | ok fl =>
    cases fl
    · exact hq.elim
    · exact hq.elim
    · exact hq.elim
    · exact I1.after hq
end
end Hd

namespace Hd
open PySem PySem.Spec PyProof.Rows L2

/-! ### defs that may raise -/
theorem nothing_out {X : Cx} : Passes (L2N.CX X.prog X.w) X E0 := by
  rintro pins σ H s e s' I ⟨_, _, _, _, _, _, _, _, _, _, _, _, z⟩
  exact z.elim
theorem nothing_taken {X : Cx} : L2N.Takes X (fun _ _ _ _ => False) := by
  rintro u s' ⟨_, _, _, _, _, _, _, _, _, _, _, _, _, _, _, _, z⟩
  exact z.elim
def CalX (P : Program) (w : World) (K : PySem.W.Frag) (mg : Str → Option Value) (base : Heap) (x : Str) (k : Nat) (ps : List Str) (sp : Sp) : Prop :=
  ∃ f fd, FnOk P w K mg base (L2N.CX P w) k f fd ps sp ∧ mg x = some (.ref f) ∧ PySem.W.keepIn K (.ref f) = true ∧ Binds K fd ps []
section
variable {P : Program} {w : World} {K : PySem.W.Frag} {mg : Str → Option Value} {base : Heap} {x : Str} {st : Stmt} {ps N : List Str} {k : Nat} {sp : Sp}
theorem Def.calX (D : Def K mg x st ps) (S : FnScope N ps (defScope st)) (len : ∀ vs H Q E, sp vs H Q E → vs.length = ps.length)
    (hbody : ∀ (f : Addr) (cdv : Value) (A : Around) (outer : List Env) (s : Shared) (H : Hp) (vs : List V) (Q : VK) (E : XK), Room k (A.deeper (envOfC x (defScope st) s.heap.objs.size f cdv)) → sp vs H Q E →
      ∃ t, PSs (cxOf (L2N.CX P w) P w K mg base N x (defScope st) f cdv A outer s H E) (defBody st) t ∧ t { nx := fun _ H' => Q .non H', rt := Q } (start N vs) H) : CalX P w K mg base x (k + 1) ps sp := by
  obtain ⟨f, fd, F, g, b⟩ := D
  have kp := F.kp
  obtain ⟨oc, od, kV, doc, pm, an, cdv, ct, osl, rfl, lk, hcd⟩ := F.ex
  exact ⟨f, _, fn_of lk hcd S len fun A outer s H vs Q E hr h => hbody f cdv A outer s H vs Q E hr h, g, kp, b⟩
end
section
variable {X : Cx} {x : Str} {p pos : Pos} {e : Expr} {es : List Expr} {k : Nat} {ps : List Str} {sp : Sp} {t : TA}
/-- within a try, or in a def that lets it out -/
theorem pe_calX {W : WX} (C : CalX X.prog X.w X.K X.mg X.base x k ps sp) (tk : L2N.Takes X W) (hr : Room k X.A) (hg : Gl X x) (ha : PA X (e :: es) t) (hdb : (x == ("__debug__" : Str)) = false := by decide)
    (he : starEach (e :: es) X.env = (false, eval e X.env) :: starEach es X.env := by rfl) (hpl : (backTo pos (starEach es X.env)).any (·.1) = false := by rfl) :
    PE X (.Call (.Name x p) (e :: es) [] pos) (tCallS sp (WE W) t) := by
  obtain ⟨f, fd, F, g, kp, b⟩ := C
  exact pe_callS F hr hg g kp b (fun σ => L2N.passAt tk σ) ha hdb he hpl
/-- where it is known that nothing is raised -/
theorem pe_calQ (C : CalX X.prog X.w X.K X.mg X.base x k ps sp) (hr : Room k X.A) (hg : Gl X x) (ha : PA X (e :: es) t) (hdb : (x == ("__debug__" : Str)) = false := by decide)
    (he : starEach (e :: es) X.env = (false, eval e X.env) :: starEach es X.env := by rfl) (hpl : (backTo pos (starEach es X.env)).any (·.1) = false := by rfl) :
    PE X (.Call (.Name x p) (e :: es) [] pos) (tCall sp [] E0 t) := by
  obtain ⟨f, fd, F, g, kp, b⟩ := C
  exact pe_call F hr hg g kp b .nil nothing_out ha hdb he hpl
end
/-! ### own exceptions made where nothing is handled -/
section
variable {X : Cx} {C fI : Addr} {k : Nat} {fd : FuncData} {ps : List Str} {sp : Sp} {e : Expr} {es : List Expr} {ta : TA} {p pos : Pos} {x : Str}
theorem mk_calm (T : OexC X.K C) (iC : PySem.W.findIn X.K (.ref C) "__init__" = some (some (.ref fI))) (tI : PySem.W.typeIn X.K (.ref fI) = some (.type "function")) (F1 : FnOk X.prog X.w X.K X.mg X.base CX0 k fI fd ps sp) (hr : Room (k + 1) X.A)
    (hb : Binds X.K fd ps []) (hg : Gl X x) (hm : X.mg x = some (.ref C)) (ha : PA X (e :: es) ta) (hdb : (x == ("__debug__" : Str)) = false := by decide)
    (he : starEach (e :: es) X.env = (false, eval e X.env) :: starEach es X.env := by rfl) (hpl : (backTo pos (starEach es X.env)).any (·.1) = false := by rfl) : L2N.PMk X (.Call (.Name x p) (e :: es) [] pos) (tMkO C sp [] ta) := by
  rintro pins s σ H Q I h
  obtain ⟨nm, q, N, bs, bm, sn, sub, ab, col, dd, k0, k1, k2, k3, k5, hC, hbm⟩ := T.cls
  apply wpAny_Call_Name_kw (ld_glob I hg hm _ hdb)
  refine PySem.W.callWith_K (h₀ := X.base) I.ok.mod.kin T.kC (thn (ha.run pos pins s σ H _ I h) ?_) he hpl
  rintro us ⟨hp, g, dr, tk, os⟩ ⟨vs, H1, I1, r1, hz, q1⟩
  refine ⟨I1.kIn, ?_⟩
  change wpAny _ _ (call (.ref C) us) _ _ _
  generalize hn : hp.objs.size + 1 = a
  have big : hp.objs.size ≤ a := by omega
  have new : H1 a = none := I1.hok.fresh big
  have sq := q1 a new
  rw [List.append_nil] at sq
  have up : ∀ b o, hp.get? b = some o → ((hp.push (PySem.W.kdv_tup us)).push (PySem.HandSPX.excO C hp.objs.size)).get? b = some o := fun b o z => Heap.get?_push_of_some _ (Heap.get?_push_of_some _ z)
  have at_ : ((hp.push (PySem.W.kdv_tup us)).push (PySem.HandSPX.excO C hp.objs.size)).get? a = some (PySem.HandSPX.excO C hp.objs.size) := by subst hn; heap_get
  have I2 : Inv X pins σ (upd H1 a (exo a C none)) ⟨(hp.push (PySem.W.kdv_tup us)).push (PySem.HandSPX.excO C hp.objs.size), g, dr, tk, os⟩ := I1.laid (t' := tk) up big (exo_ok at_)
  have r2 : Vals (V.ref a :: vs) (Value.ref a :: us) := .cons rfl r1
  have ln : (Value.ref a :: us).length = ps.length := r2.length.symm.trans (F1.len _ _ _ _ sq)
  have bd := hb ⟨(hp.push (PySem.W.kdv_tup us)).push (PySem.HandSPX.excO C hp.objs.size), g, dr, tk, os⟩ (Value.ref a :: us) I2.kIn ((congrArg List.length (List.append_nil _)).trans ln)
  rw [List.append_nil] at bd
  have few : us.length ≤ sizeLine := by
    have := r1.length
    rw [sizeLine_eq]
    omega
  subst hn
  refine wpAny_call (PySem.HandSPX.call_own F.excBase_ValueError (fun Y => PySem.HandSPX.refsVE_contains Y bm hbm) (I1.kIn _ _ hC) (PySem.W.looks_findIn I1.kIn iC) (fun self => PySem.W.bind_fn I1.kIn self tI) few ?_)
  refine codeAny_mono (F1.run _ X.stack _ _ ⟨_, []⟩ _ _ _ (fun _ _ _ => False) (hr.make C us []) (I2.env0.make C us []) bd r2 sq) ?_
  intro res s' hq
  cases res with
  | error _ => exact hq.elim
  | ok fl =>
    cases fl
    · exact hq.elim
    · exact hq.elim
    · exact hq.elim
    · obtain ⟨v, H2, os2, bare2, un2, hok2, rv, rfl, d, fs, ea, ed, hd1, q2⟩ := hq
      obtain ⟨h2, g2, d2, t2, os'⟩ := s'
      obtain ⟨t0, G, J, kG, ge, hoe, na⟩ := mk_end0 (d2 := d2) (t2 := t2) I1 big up un2 hok2 os2 bare2 ea ed hd1
      refine ⟨rv, _, _, _, ⟨G, g2, d2, t2, os'⟩, _, .ref C, some d, rfl, J, kG, ge, hoe, ⟨rfl, rfl, ?_⟩, rfl, rfl, na, rfl, bare2, raises_own T.exC T.tyC, q2⟩
      intro vs hv
      cases hv
      rfl
end
/-! ### __init__ that keeps its arguments, one after the other -/
def clsB (s : Stmt) : List Stmt := match s with
  | .ClassDef _ _ _ b _ _ _ _ _ _ _ => b
  | _ => []
/-- the class named x at D, and its __init__ -/
structure Xc (K : PySem.W.Frag) (mg : Str → Option Value) (x q : Str) (st : Stmt) (ps : List Str) (D : Addr) : Prop where
  ec : Ec K mg x D
  ini : ∃ fI fd, PySem.W.findIn K (.ref D) "__init__" = some (some (.ref fI)) ∧ PySem.W.typeIn K (.ref fI) = some (.type "function") ∧ Fun K "__init__" q st fI fd ∧ Binds K fd ps []
  no : ∀ f ∈ ps.tail, PySem.W.findIn K (.ref D) f = some none
section
variable {X : Cx} {K : PySem.W.Frag} {mg : Str → Option Value} {x q f g : Str} {st : Stmt} {D : Addr} {P : Program} {w : World} {base : Heap} {e : Expr} {es : List Expr} {ta : TA} {p pos : Pos}
def spIni (D : Addr) (gs : List Str) : Sp := fun vs H Q _ => ∃ (a : Addr) (us : List V), vs = .ref a :: us ∧ us.length = gs.length ∧ H a = some (exo a D none) ∧ ∀ dx, H dx = none → dx ≠ a → Q .non (upd (upd H dx (exd dx ((gs.zip us).reverse))) a (exo a D (some dx)))
theorem ini_end {gs : List Str} {us : List V} {H1 : Hp} {Q : XK} {E : XK} (h1 : us.length = gs.length) (hl : us.length ≤ 1000) (q : ∀ d, H1 d = none → Q (.ref D) (some d) (upd H1 d (.xd ((gs.zip us).reverse)))) :
    us.length ≤ 1000 ∧ ∀ a, H1 a = none → spIni D gs (.ref a :: (us ++ [])) (upd H1 a (exo a D none)) (fun v H2 => v = .non ∧ ∃ (d : Addr) (fs : List (Str × V)), H2 a = some (exo a D (some d)) ∧ H2 d = some (exd d fs) ∧ H1 d = none ∧ Q (.ref D) (some d) (upd (del H2 a) d (.xd fs))) E := by
  refine ⟨hl, fun a ha => ⟨a, us, by rw [List.append_nil], h1, upd_same, fun dx hdx ne => ⟨rfl, dx, _, upd_same, (upd_ne ne).trans upd_same, ?_, ?_⟩⟩⟩
  · rw [upd_ne ne] at hdx
    exact hdx
  · rw [upd_ne ne] at hdx
    have e : upd (del (upd (upd (upd H1 a (exo a D none)) dx (exd dx ((gs.zip us).reverse))) a (exo a D (some dx))) a) dx (.xd ((gs.zip us).reverse)) = upd H1 dx (.xd ((gs.zip us).reverse)) := by
      funext b
      by_cases h : b = dx
      · rw [h, upd_same, upd_same]
      · rw [upd_ne h, upd_ne h]
        by_cases k : b = a
        · rw [k, del_same, ha]
        · rw [del_ne k, upd_ne k, upd_ne h, upd_ne k]
    rw [e]
    exact q dx hdx
theorem ini1 {f : Str} (S : FnScope ["self", f] ["self", f] (defScope st)) (hb : ∃ p00 p01 p02 p03, defBody st = [.Assign [.Attribute (.Name "self" p00) f p01] (.Name f p02) p03])
    (T : OexC K D) (vs0 : (defScope st).names.lookup ("self" : Str) = some NameKind.local) (vf : (defScope st).names.lookup f = some NameKind.local) (df : (f == ("__debug__" : Str)) = false) (cf : (f == ("__classdict__" : Str)) = false) (nof : PySem.W.findIn K (.ref D) f = some none)
    {fI : Addr} {fd : FuncData} (F : Fun K "__init__" q st fI fd) : FnOk P w K mg base CX0 1 fI fd ["self", f] (spIni D [f]) := by
  obtain ⟨p00, p01, p02, p03, hb⟩ := hb
  refine F.ok S ?_ ?_
  · rintro vs H Q E ⟨a, us, rfl, l, -⟩
    rw [List.length_cons, l] <;> rfl
  · rintro cdv A outer s H vs Q E hr ⟨a, us, rfl, l, ea, q⟩
    obtain ⟨u, rfl⟩ : ∃ u, us = [u] := by
      match us, l with
      | [u], _ => exact ⟨u, rfl⟩
    rw [hb]
    refine ⟨_, (pss_one (ps_ost (pv 0 rfl (.inl vs0)) (pv 1 rfl (.inl vf) df cf))), ?_⟩
    exact ⟨_, rfl, _, rfl, a, D, rfl, T, nof, .inl ⟨ea, fun dx n ne => q dx n ne⟩⟩
theorem ini2 {f g : Str} (S : FnScope ["self", f, g] ["self", f, g] (defScope st)) (hb : ∃ p00 p01 p02 p03 p10 p11 p12 p13, defBody st = [.Assign [.Attribute (.Name "self" p00) f p01] (.Name f p02) p03, .Assign [.Attribute (.Name "self" p10) g p11] (.Name g p12) p13])
    (T : OexC K D) (vs0 : (defScope st).names.lookup ("self" : Str) = some NameKind.local) (vf : (defScope st).names.lookup f = some NameKind.local) (df : (f == ("__debug__" : Str)) = false) (cf : (f == ("__classdict__" : Str)) = false) (nof : PySem.W.findIn K (.ref D) f = some none) (vg : (defScope st).names.lookup g = some NameKind.local) (dg : (g == ("__debug__" : Str)) = false) (cg : (g == ("__classdict__" : Str)) = false) (nog : PySem.W.findIn K (.ref D) g = some none)
    {fI : Addr} {fd : FuncData} (F : Fun K "__init__" q st fI fd) : FnOk P w K mg base CX0 1 fI fd ["self", f, g] (spIni D [f, g]) := by
  obtain ⟨p00, p01, p02, p03, p10, p11, p12, p13, hb⟩ := hb
  refine F.ok S ?_ ?_
  · rintro vs H Q E ⟨a, us, rfl, l, -⟩
    rw [List.length_cons, l] <;> rfl
  · rintro cdv A outer s H vs Q E hr ⟨a, us, rfl, l, ea, q⟩
    obtain ⟨u, v, rfl⟩ : ∃ u v, us = [u, v] := by
      match us, l with
      | [u, v], _ => exact ⟨u, v, rfl⟩
    rw [hb]
    refine ⟨_, (pss_cons (ps_ost (pv 0 rfl (.inl vs0)) (pv 1 rfl (.inl vf) df cf)) (pss_one (ps_ost (pv 0 rfl (.inl vs0)) (pv 2 rfl (.inl vg) dg cg)))), ?_⟩
    refine ⟨_, rfl, _, rfl, a, D, rfl, T, nof, .inl ⟨ea, fun dx n ne => ?_⟩⟩
    refine ⟨_, rfl, _, rfl, a, D, rfl, T, nog, .inr ⟨dx, _, upd_same, (upd_ne ne).trans upd_same, (by simp), ?_⟩⟩
    have r := q dx n ne
    have e : upd (upd (upd H dx (exd dx [(f, u)])) a (exo a D (some dx))) dx (exd dx [(g, v), (f, u)]) = upd (upd H dx (exd dx [(g, v), (f, u)])) a (exo a D (some dx)) := by
      funext b
      by_cases h : b = dx
      · rw [h, upd_same, upd_ne ne, upd_same]
      · by_cases k : b = a
        · simp only [k, upd_same, upd_ne (Ne.symm ne)]
        · simp only [upd_ne h, upd_ne k]
    show Q .non (upd (upd (upd H dx (exd dx [(f, u)])) a (exo a D (some dx))) dx (exd dx [(g, v), (f, u)]))
    rw [e]
    exact r
theorem ini3 {f g k : Str} (S : FnScope ["self", f, g, k] ["self", f, g, k] (defScope st)) (hb : ∃ p00 p01 p02 p03 p10 p11 p12 p13 p20 p21 p22 p23, defBody st = [.Assign [.Attribute (.Name "self" p00) f p01] (.Name f p02) p03, .Assign [.Attribute (.Name "self" p10) g p11] (.Name g p12) p13, .Assign [.Attribute (.Name "self" p20) k p21] (.Name k p22) p23])
    (T : OexC K D) (vs0 : (defScope st).names.lookup ("self" : Str) = some NameKind.local) (vf : (defScope st).names.lookup f = some NameKind.local) (df : (f == ("__debug__" : Str)) = false) (cf : (f == ("__classdict__" : Str)) = false) (nof : PySem.W.findIn K (.ref D) f = some none) (vg : (defScope st).names.lookup g = some NameKind.local) (dg : (g == ("__debug__" : Str)) = false) (cg : (g == ("__classdict__" : Str)) = false) (nog : PySem.W.findIn K (.ref D) g = some none) (vk : (defScope st).names.lookup k = some NameKind.local) (dk : (k == ("__debug__" : Str)) = false) (ck : (k == ("__classdict__" : Str)) = false) (nok : PySem.W.findIn K (.ref D) k = some none)
    {fI : Addr} {fd : FuncData} (F : Fun K "__init__" q st fI fd) : FnOk P w K mg base CX0 1 fI fd ["self", f, g, k] (spIni D [f, g, k]) := by
  obtain ⟨p00, p01, p02, p03, p10, p11, p12, p13, p20, p21, p22, p23, hb⟩ := hb
  refine F.ok S ?_ ?_
  · rintro vs H Q E ⟨a, us, rfl, l, -⟩
    rw [List.length_cons, l] <;> rfl
  · rintro cdv A outer s H vs Q E hr ⟨a, us, rfl, l, ea, q⟩
    obtain ⟨u, v, z, rfl⟩ : ∃ u v z, us = [u, v, z] := by
      match us, l with
      | [u, v, z], _ => exact ⟨u, v, z, rfl⟩
    rw [hb]
    refine ⟨_, (pss_cons (ps_ost (pv 0 rfl (.inl vs0)) (pv 1 rfl (.inl vf) df cf)) (pss_cons (ps_ost (pv 0 rfl (.inl vs0)) (pv 2 rfl (.inl vg) dg cg)) (pss_one (ps_ost (pv 0 rfl (.inl vs0)) (pv 3 rfl (.inl vk) dk ck))))), ?_⟩
    refine ⟨_, rfl, _, rfl, a, D, rfl, T, nof, .inl ⟨ea, fun dx n ne => ?_⟩⟩
    refine ⟨_, rfl, _, rfl, a, D, rfl, T, nog, .inr ⟨dx, _, upd_same, (upd_ne ne).trans upd_same, (by simp), ?_⟩⟩
    refine ⟨_, rfl, _, rfl, a, D, rfl, T, nok, .inr ⟨dx, _, (upd_ne (Ne.symm ne)).trans upd_same, upd_same, (by simp), ?_⟩⟩
    have r := q dx n ne
    have e : upd (upd (upd (upd H dx (exd dx [(f, u)])) a (exo a D (some dx))) dx (exd dx [(g, v), (f, u)])) dx (exd dx [(k, z), (g, v), (f, u)]) = upd (upd H dx (exd dx [(k, z), (g, v), (f, u)])) a (exo a D (some dx)) := by
      funext b
      by_cases h : b = dx
      · rw [h, upd_same, upd_ne ne, upd_same]
      · by_cases k : b = a
        · simp only [k, upd_same, upd_ne (Ne.symm ne)]
        · simp only [upd_ne h, upd_ne k]
    show Q .non (upd (upd (upd (upd H dx (exd dx [(f, u)])) a (exo a D (some dx))) dx (exd dx [(g, v), (f, u)])) dx (exd dx [(k, z), (g, v), (f, u)]))
    rw [e]
    exact r
end
end Hd

namespace Hd
open PySem PySem.Spec PyProof.Rows L2

/-- the class named x at D, made from the arguments gs -/
def Xm (P : Program) (w : World) (K : PySem.W.Frag) (mg : Str → Option Value) (base : Heap) (x : Str) (D : Addr) (gs : List Str) : Prop :=
  Ec K mg x D ∧ (∀ f ∈ gs, PySem.W.findIn K (.ref D) f = some none) ∧ ∃ fI fd, PySem.W.findIn K (.ref D) "__init__" = some (some (.ref fI)) ∧ PySem.W.typeIn K (.ref fI) = some (.type "function") ∧ FnOk P w K mg base CX0 1 fI fd ("self" :: gs) (spIni D gs) ∧ Binds K fd ("self" :: gs) []
section
variable {X : Cx} {x : Str} {D : Addr} {gs : List Str} {e : Expr} {es : List Expr} {ta : TA} {p pos : Pos}
theorem pmk_x (M : Xm X.prog X.w X.K X.mg X.base x D gs) (hr : Room 2 X.A) (hg : Gl X x) (ha : PA X (e :: es) ta) (hdb : (x == ("__debug__" : Str)) = false := by decide)
    (he : starEach (e :: es) X.env = (false, eval e X.env) :: starEach es X.env := by rfl) (hpl : (backTo pos (starEach es X.env)).any (·.1) = false := by rfl) : L2N.PMk X (.Call (.Name x p) (e :: es) [] pos) (tMkO D (spIni D gs) [] ta) := by
  obtain ⟨T, no, fI, fd, iC, tI, F1, bd⟩ := M
  exact mk_calm T.ox iC tI F1 hr bd hg T.gC ha hdb he hpl
end
/-- an except clause's name: the base class, and that it takes the class at D -/
def Hnd (K : PySem.W.Frag) (mg : Str → Option Value) (x : Str) (D : Addr) (b : Bool) : Prop := ∃ C : Addr, mg x = some (.ref C) ∧ PySem.W.exmOne K (.ref D) (.ref C) = some b
theorem hnd_mk {K : PySem.W.Frag} {h : Heap} {mg : Str → Option Value} {D C : Addr} {x : Str} {b : Bool} (X : K.In h) (G : h.Ns mainGlobals mg) (a : PySem.W.nsIn K mainGlobals x = some (some (.ref C)))
    (eb : PySem.W.subIn K (.ref C) (.type "BaseException") = some true) (i : PySem.W.isClsIn K C = true) (t : PySem.W.typeIn K (.ref C) = some (.type "type")) (s : PySem.W.subIn K (.ref D) (.ref C) = some b) : Hnd K mg x D b := by
  refine ⟨C, PySem.W.mg_of X G a, ?_⟩
  have i' : (PySem.W.clsIn K C).isSome = true := i
  have both : ((PySem.W.clsIn K C).isSome && PySem.W.typeIn K (.ref C) == some (.type "type")) = true := by rw [i', t] <;> rfl
  have isE : (PySem.W.subIn K (.ref C) (.type "BaseException") == some true) = true := by rw [eb] <;> rfl
  show (if (PySem.W.subIn K (.ref C) (.type "BaseException") == some true) = true then PySem.W.kitCls K (.ref D) (.ref C) else none) = some b
  rw [if_pos isE]
  show (if ((PySem.W.clsIn K C).isSome && PySem.W.typeIn K (.ref C) == some (.type "type")) = true then PySem.W.subIn K (.ref D) (.ref C) else none) = some b
  rw [if_pos both]
  exact s
/-- an except suite, whatever the exception's object is -/
def tSuite (t : Addr → Obj → Value → Option Addr → TS) (a : Addr) (cls : Value) (d : Option Addr) : TS := fun D σ H => ∀ oe, L2N.Zn cls d oe → (∃ vs, oe.data = .fields vs) → t a oe cls d D σ H
theorem suite_of {X : Cx} {a : Addr} {oe : Obj} {cls : Value} {d : Option Addr} {pn : List (Addr × Obj)} {b : List Stmt} {t : Addr → Obj → Value → Option Addr → TS} (hz : L2N.Zn cls d oe) (hf : ∃ vs, oe.data = .fields vs)
    (h : PSs (X.suite a ((a, oe) :: pn)) b (t a oe cls d)) : PSs (X.suite a ((a, oe) :: pn)) b (tSuite t a cls d) := ⟨fun pins s σ H D I q => h.run pins s σ H D I (q oe hz hf)⟩
theorem ps_try_E {X : Cx} {x n : Str} {c : Value} {i : Nat} {body suite : List Stmt} {b₀ : Stmt} {np pos pos' : Pos} {tb : WX → TS} {t : Addr → Obj → Value → Option Addr → TS} {Wout : WX} (hs : X.stack = X.env :: X.outer) (hf : X.env.frame = some X.env.locals) (hN : X.N.Nodup)
    (hi : X.N[i]? = some n) (hln : X.env.kindOf n = some .local) (hc : Names X x c) (tk : L2N.Takes X Wout)
    (hb : ∀ (W : WX) (pn : List (Addr × Obj)) (xe : Value → Shared → Prop), L2N.Takes (X.tr pn xe) W → PassesOwn (model X.prog X.w) X.A X.env xe → PSs (X.tr pn xe) body (tb W))
    (hsu : ∀ (a : Addr) (oe : Obj) (cls : Value) (d : Option Addr) (pn : List (Addr × Obj)), L2N.Zn cls d oe → (∃ vs, oe.data = .fields vs) → PSs (X.suite a ((a, oe) :: pn)) (b₀ :: suite) (t a oe cls d)) :
    PS X (.Try body [.ExceptHandler (some (.Name x np)) (some n) (b₀ :: suite) pos'] [] [] pos) (fun D σ H => tb (wAs X.K c i (tSuite t) Wout D) D σ H) :=
  L2N.ps_try_as hs hf hN hi hln hc tk hb fun a oe cls d pn hz h => suite_of hz h (hsu a oe cls d pn hz h)
theorem suite_hot {X : Cx} {a : Addr} {oe : Obj} {cls : Value} {d : Option Addr} {pn : List (Addr × Obj)} (hz : L2N.Zn cls d oe) (hf : ∃ vs, oe.data = .fields vs) : L2H.Hot1 (X.suite a ((a, oe) :: pn)).A (a, oe) := by
  obtain ⟨vs, hd⟩ := hf
  exact ⟨rfl, vs, hd, hz.2.2 vs hd⟩
theorem suite_err {a D d : Addr} {oe : Obj} {fs : List (Str × V)} {H : Hp} (hz : L2N.Zn (.ref D) (some d) oe) (hf : ∃ vs, oe.data = .fields vs) (h : H d = some (.xd fs)) : ErrAt D d fs H (a, oe) := ⟨hz.1, hz.2.1, hf, h⟩
theorem room_suite {k : Nat} {A : Around} (r : Room k A) (h : Option Value) : L2H.RoomH k (A.mark h) := L2H.roomH_mark r h
theorem hot_in {X : Cx} {p : Addr × Obj} (h : L2H.Hot1 X.A p) (m : p ∈ X.pn) : L2H.HotC X := ⟨p, h, m⟩
theorem pe_cls {X : Cx} {x : Str} {C : Addr} {pos : Pos} (hg : Gl X x) (h : X.mg x = some (.ref C)) (hd : (x == ("__debug__" : Str)) = false := by decide) : PE X (.Name x pos) (tC (.ref C)) := pe_glob hg h rfl hd
end Hd

namespace Hd
open PySem PySem.Spec PyProof.Rows L2

/-! ### enumerate(tuple) -/
def Ete (K : PySem.W.Frag) (a : Addr) : It where
  go := fun i H => ∃ (xs : List V) (x : V), SqT K H a xs ∧ xs[i]? = some x
  yld := fun i H v H' => ∃ T x, v = .ref T ∧ New H T (.tup [.int (i : Nat), x]) H' ∧ ∀ xs, SqT K H a xs → xs[i]? = some x
  stop := fun i H => ∃ xs : List V, SqT K H a xs ∧ xs.length ≤ i
def iEnumT (K : PySem.W.Frag) (ta : TA) : TI := fun σ H R => ta σ H fun vs H1 => ∃ a xs, vs = [.ref a] ∧ SqT K H1 a xs ∧ R (Ete K a) H1
set_option maxHeartbeats 8000000 in
theorem enum_new {v : Value} {o : Obj} {C : Heap → Prop} (B : Begins v o C) :
    Meets (Builtin.«enumerate.__new__» ⟨[.type "enumerate", v], []⟩) (fun _ R s => C s.heap ∧ R (.ok (.ret (.ref (s.heap.push o).objs.size)))
      { s with heap := (s.heap.push o).push { cls := .type "enumerate", data := .fields #[.none, .bool false, .ref s.heap.objs.size, rawInt 0, .none, .none] } }) :=
  .of_wp fun prog w A R s q => by
    obtain ⟨heap, gens, dr, toks, os⟩ := s
    obtain ⟨st, q⟩ := q
    have isE := sub_enumerate
    have begin_ : ∀ {A' : Around} {E' : Value → Shared → Prop} {Q' : Value → Shared → Prop}, Q' (.ref heap.objs.size) ⟨heap.push o, gens, dr, toks, os⟩ → wpAny (model prog w) A' (pyIter v) Q' E' ⟨heap, gens, dr, toks, os⟩ := fun z =>
      B.iter prog w _ _ ⟨heap, gens, dr, toks, os⟩ _ st z
    wp_walk using begin_
    refine wpAny_stack_any fun frames => wpAny_pure ?_
    split
    next c _ _ _ _ _ =>
      by_cases hc : (c == Value.type "enumerate") = true
      · simp only [hc]
        wp_walk using begin_
        exact ⟨_, rfl, q⟩
      · simp only [hc]
        wp_walk using begin_
        exact ⟨_, rfl, q⟩
    next =>
      wp_walk using begin_
      exact ⟨_, rfl, q⟩
theorem enum_call {prog : Program} {w : World} {A : Around} {E : Value → Shared → Prop} {s : Shared} {v : Value} {o : Obj} {C : Heap → Prop} {Q : Value → Shared → Prop} (B : Begins v o C) (st : C s.heap)
    (q : ∀ g, IsEnum g (s.heap.objs.size + 1) s.heap.objs.size 0 .none → g.get? s.heap.objs.size = some o → (∀ b u, s.heap.get? b = some u → g.get? b = some u) → Q (.ref (s.heap.objs.size + 1)) { s with heap := g }) :
    wpAny (model prog w) A (call (.type "enumerate") [v]) Q E s := by
  have sz : (s.heap.push o).objs.size = s.heap.objs.size + 1 := Heap.size_push ..
  have at1 : IsEnum ((s.heap.push o).push { cls := .type "enumerate", data := .fields #[.none, .bool false, .ref s.heap.objs.size, rawInt 0, .none, .none] }) (s.heap.objs.size + 1) s.heap.objs.size 0 .none := sz ▸ Heap.get?_push_size (s.heap.push o) rfl
  apply callType_new F.called_enumerate (by decide) (F.typeCall_enumerate_1 _) (F.newCall_enumerate_1 _) (fun obj => F.args_object_init_2 obj _) F.entry_enumerate_new (enum_new B)
  refine ⟨st, ?_⟩
  rw [sz]
  exact ⟨⟨_, at1, rfl⟩, q _ at1 (Heap.get?_push_of_some _ (Heap.get?_push_size _ B.free)) fun b u z => Heap.get?_push_of_some _ (Heap.get?_push_of_some _ z)⟩
section
variable {P : Program} {w : World} {K : PySem.W.Frag} {elts : List Expr} {kk : Nat} {tpos : Pos}
theorem two_of {b e it : Addr} (h : b ∈ [e, it]) : b = e ∨ b = it := by simpa using h
theorem walk_enumT (a e it : Addr) : Turn P w K (.Tuple elts kk tpos) (Ete K a) [e, it] e (fun i h => (∃ old, IsEnum h e it ((i : Nat) : Int) old) ∧ h.IsTupleIter it a i ∧ e ≠ it) := by
  constructor
  case mem => exact List.mem_cons_self
  case obj =>
    rintro i h ⟨⟨old, he⟩, ⟨o, ho, hc, hd⟩, -⟩ b hb
    obtain rfl | rfl := two_of hb
    · exact ⟨_, he, fun v q => nomatch q⟩
    · exact ⟨o, ho, fun v q => Data.noConfusion (hd.symm.trans q)⟩
  case keep =>
    rintro i h h' ⟨⟨old, he⟩, hi, ne⟩ k
    exact ⟨⟨old, k e List.mem_cons_self _ he⟩, hi.at fun o q => k it (List.mem_cons_of_mem _ List.mem_cons_self) o q, ne⟩
  case self => exact fun A i s Q E st q => st.1.elim fun _ he => wpAny_pyIter_enum he q
  case item =>
    rintro X rfl rfl rfl hc i pins s σ H E I fp ⟨⟨old, he⟩, hit, ne⟩ ⟨xs, x, sq, at_⟩
    obtain ⟨vs, rv, pl, -⟩ := I.tuple sq
    have isT : s.heap.IsTuple a vs.toArray := pl
    obtain ⟨u, hu, ru⟩ := rv.get at_
    have lt1 : e < s.heap.objs.size := Heap.lt_size he
    have lt2 : it < s.heap.objs.size := by
      obtain ⟨_, q, -⟩ := hit
      exact Heap.lt_size q
    have nai : a ≠ it := fun z => by
      subst z
      obtain ⟨o1, q1, c1, -⟩ := hit
      obtain ⟨o2, q2, c2, -⟩ := isT
      rw [q1] at q2
      cases q2
      rw [c1] at c2
      exact absurd (Value.type.inj c2) (by decide)
    have nae : e ≠ a := fun z => by
      subst z
      obtain ⟨o2, q2, c2, -⟩ := isT
      have q1 : s.heap.get? e = some _ := he
      rw [q1] at q2
      cases q2
      exact absurd (Value.type.inj c2) (by decide)
    have hi : i < vs.toArray.size := by
      have := (List.getElem?_eq_some_iff.mp hu).1
      simpa using this
    refine wpAny_pyNext_enum_itemD (Draws.tuple (A := X.A.in1) (I.ok.hd hc) it a nai vs.toArray) he ⟨hit, isT⟩ hi ne (fun z => ?_) ?_
    · rcases two_of z with z | z
      · exact ne z
      · exact nae z
    rintro y g tk py out ⟨hit', -⟩ gT hz keep
    have ey : y = u := by
      have := py.symm.trans ((by simpa using hu) : vs.toArray[i]? = some u)
      exact Option.some.inj this
    subst ey
    refine ⟨_, rfl, wpAny_letOwnedTupleGo_enum (s := { s with heap := g, toks := tk + 1 }) out fun g2 he2 sb => ?_⟩
    have gT2 : g2.get? s.heap.objs.size = some { cls := .type "tuple", data := .seq #[.int i tk, y] } := (sb.2 _ (Nat.ne_of_gt lt1)).trans gT
    have okT : ObjOk X.prog X.w (upd H s.heap.objs.size (.tup [.int (i : Nat), x])) g2 s.heap.objs.size (.tup [.int (i : Nat), x]) := ⟨by show 2 ≤ sizeLine; decide, [.int i tk, y], .cons ⟨_, rfl⟩ (.cons ru .nil), ⟨_, gT2, rfl, _, rfl⟩⟩
    have J : Inv X pins σ (upd H s.heap.objs.size (.tup [.int (i : Nat), x])) { s with heap := g2, toks := tk + 1 } :=
      I.turnedNew (ch := [e, it]) (fun b o hb q => (sb.2 b fun z => hb (by simp [z])).trans (keep b o (fun z => hb (by simp [z])) (fun z => hb (by simp [z])) q)) fp (Nat.le_refl _) okT
    refine ⟨.ref s.heap.objs.size, _, J, rfl, ⟨_, x, rfl, ⟨I.hok.fresh (Nat.le_refl _), rfl⟩, fun ys hy => ?_⟩, ⟨⟨y, ?_⟩, hit'.at fun o q => (sb.2 it (Ne.symm ne)).trans q, ne⟩, fun b hb => ?_⟩
    · rw [I.tuple_inj hy sq]
      exact at_
    · have e1 : ((i + 1 : Nat) : Int) = (i : Int) + 1 := rfl
      rw [e1]
      exact he2
    · have lt : b < s.heap.objs.size := by
        obtain rfl | rfl := two_of hb
        · exact lt1
        · exact lt2
      exact (upd_ne (Nat.ne_of_lt lt)).trans (fp b hb).1
  case done =>
    rintro X rfl rfl rfl hc i pins s σ H E I fp ⟨⟨old, he⟩, hit, ne⟩ ⟨xs, sq, hle⟩
    obtain ⟨vs, rv, pl, -⟩ := I.tuple sq
    have isT : s.heap.IsTuple a vs.toArray := pl
    have hl := rv.length
    have past : vs.toArray[i]? = none := by simp; omega
    obtain ⟨f0, f1, f2, f3, f4, f5⟩ := fp it (List.mem_cons_of_mem _ List.mem_cons_self)
    have D0 : Draws X.prog X.w X.A.in1 it [it, a] 0 (fun _ _ => True) (fun j h => h.IsTupleIter it a (i + j) ∧ h.IsTuple a vs.toArray) := {
      live := fun _ _ st => st.1.elim fun o q => ⟨o, q.1⟩
      frame := fun _ _ _ st hk => ⟨st.1.at fun o e => hk it (by simp) o e, st.2.at fun o e => hk a (by simp) o e⟩
      item := fun j _ _ _ z => absurd z (Nat.not_lt_zero j)
      done := fun s Q E st hE => wpAny_nextOf_tuple_end (show X.A.in1.handled = none from I.ok.hd hc) st.1 st.2 past hE }
    exact wpAny_pyNext_enum_endD D0 he ⟨hit, isT⟩ fun g eb => ⟨rfl, I.turned (t' := s.toks) (fun b o hb q => eb b o hb q) f0 f1 f3 f4 f5⟩
end
theorem pi_enumT {X : Cx} {e : Expr} {ta : TA} {p pos tpos : Pos} {elts : List Expr} {kk : Nat} (hg : Gl X "enumerate") (hm : X.mg "enumerate" = none) (ha : PA X [e] ta) (hs : starEach [e] X.env = [(false, eval e X.env)] := by rfl) :
    PI X (.Tuple elts kk tpos) (.Call (.Name "enumerate" p) [e] [] pos) (iEnumT X.K ta) := by
  constructor
  intro pins s σ H R I h
  apply Call_ (ld_blt I hg hm boot_enumerate _)
  refine PyProof.Rows.callWith_type1 (thn (ha.run pos pins s σ H _ I h) ?_) hs rfl
  rintro us s1 ⟨vs, H1, I1, r1, a, xs, rfl, sq, q⟩
  cases r1 with
  | cons r rr =>
    cases rr
    cases r
    obtain ⟨its, rv, pl, -⟩ := I1.tuple sq
    refine enum_call (begins_tuple a its.toArray) (show s1.heap.IsTuple a its.toArray from pl) fun g he hit hk => wpAny_pyIter_enum he ?_
    have I2 : Inv X pins σ H1 { s1 with heap := g } := I1.kept (t' := s1.toks) hk
    refine ⟨_, _, _, _, H1, rfl, I2, walk_enumT a (s1.heap.objs.size + 1) s1.heap.objs.size, ⟨⟨.none, he⟩, ⟨_, hit, rfl, rfl⟩, Nat.succ_ne_self _⟩, fun b hb => ?_, q⟩
    have big : s1.heap.objs.size ≤ b := by
      obtain rfl | rfl := two_of hb
      · exact Nat.le_add_right _ _
      · exact Nat.le_refl _
    exact I1.fpOk big (I1.hok.fresh big)
/-! ### min(tuple of ints) -/
def rMinT (K : PySem.W.Frag) : List V → Hp → VK → Prop := fun vs H Q => ∃ (a : Addr) (ns : List Int), vs = [V.ref a] ∧ SqT K H a (ns.map V.int) ∧ 0 < ns.length ∧ ∀ m, m ∈ ns → (∀ y, y ∈ ns → m ≤ y) → Q (.int m) H
theorem cr_minT {X : Cx} (hc : X.calm = true) : CallR X (.builtin "min") (rMinT X.K) := by
  rintro pins s σ H vs us Q I r ⟨a, ns, rfl, sq, ne, q⟩
  obtain ⟨its, rv, pl, -⟩ := I.tuple sq
  have hi := rv.ints
  obtain ⟨xs, e⟩ := hi.allInts.items
  have hn : numsOf (intItems xs).toList = ns := by rw [← e]; exact hi.numsOf
  rw [nums_intItems] at hn
  subst hn
  have isT : s.heap.IsTuple a (intItems xs) := e ▸ pl
  have some_ : 0 < xs.size := by simpa using ne
  have lt : a < s.heap.objs.size := by
    obtain ⟨_, q, -⟩ := isT
    exact Heap.lt_size q
  rw [Vals.ref1 r]
  refine call_min_walk (wpAny_pyIter_tuple isT ⟨_, _, _, _, _, _, _, rfl, Walks.tuple (A := X.A.in1) (I.ok.hd hc) _ a (Nat.ne_of_lt lt) (intItems xs), ⟨⟨_, Heap.get?_push_size _ rfl, rfl, rfl⟩, isT.push _⟩, fun b hb => ?_, by simpa [intItems] using some_, CmpOf.ints_lt (numAt xs) (fun _ _ => intItems_at), ?_⟩)
  · show b < (s.heap.push _).objs.size
    rw [Heap.size_push]
    obtain rfl | rfl := two_of hb
    · exact Nat.lt_succ_self _
    · exact Nat.lt_succ_of_lt lt
  intro v g tk py keep
  obtain ⟨t, rfl⟩ := intItems_at py
  have sz : (intItems xs).size - 1 = xs.size - 1 := by simp [intItems]
  rw [sz]
  obtain ⟨h1, h2⟩ := argBest_lt (numAt xs) (xs.size - 1)
  have J : Inv X pins σ H { s with heap := g, toks := tk } := I.kept fun b o z => keep b o (fun m => absurd (List.mem_singleton.mp m ▸ Heap.lt_size z) (Nat.lt_irrefl _)) (Heap.get?_push_of_some _ z)
  refine ⟨.int _, H, J, ⟨t, rfl⟩, q _ ?_ fun y hy => ?_⟩
  · rw [numAt_eq]
    exact PySem.getD_mem (by rw [List.length_map, Array.length_toList]; omega)
  · obtain ⟨j, hj, rfl⟩ := mem_getD hy
    rw [List.length_map, Array.length_toList] at hj
    rw [← numAt_eq]
    exact h2 j (by omega)
/-- a comprehension over enumerate(tuple); the block leaves the tuple as it is -/
theorem lc_enumT {K : PySem.W.Frag} {a : Addr} {xs : List V} {g : TG} {tt : TT} {te : TE} {vs : List Nat} {σ : L2.St} {H1 : Hp} {D : Addr} {Qd : Hp → Prop} (Pv : Nat → Hp → Prop) (h0 : Pv 0 (upd H1 D (.lst []))) (hl : ∀ i H, Pv i H → SqT K H a xs)
    (hs : ∀ i x T H H', xs[i]? = some x → Pv i H → New H T (.tup [.int (i : Nat), x]) H' → g (.ref T) (wipe σ vs) H' fun σ2 H2 => wipe σ2 vs = wipe σ vs ∧ tt σ2 H2 fun b H3 =>
      if b = true then te σ2 H3 fun y H4 => ∃ acc, H4 D = some (.lst acc) ∧ acc.length < sizeLine ∧ Pv (i + 1) (upd H4 D (.lst (acc ++ [y]))) else Pv (i + 1) H3) (hd : ∀ H, Pv xs.length H → Qd H) :
    ∃ W : Nat → Nat → Hp → Prop, (∃ m, W 0 m (upd H1 D (.lst []))) ∧ ∀ i m H, W i m H → ((Ete K a).stop i H ∧ Qd H) ∨ ((Ete K a).go i H ∧ ∃ Nx : Hp → Prop, (∀ H', Nx H' → ∃ m', m' < m ∧ W (i + 1) m' H') ∧
      ∀ x H', (Ete K a).yld i H x H' → g x (wipe σ vs) H' fun σ2 H2 => wipe σ2 vs = wipe σ vs ∧ tt σ2 H2 fun b H3 => if b = true then te σ2 H3 fun y H4 => ∃ acc, H4 D = some (.lst acc) ∧ acc.length < sizeLine ∧ Nx (upd H4 D (.lst (acc ++ [y]))) else Nx H3) := by
  refine ⟨fun i m H => i + m = xs.length ∧ Pv i H, ⟨xs.length, Nat.zero_add _, h0⟩, ?_⟩
  rintro i m H ⟨e, p⟩
  have sq := hl i H p
  rcases Nat.eq_zero_or_pos m with rfl | pos
  · refine .inl ⟨⟨xs, sq, by omega⟩, hd H ?_⟩
    rw [← e]
    exact p
  · have lt : i < xs.length := by omega
    refine .inr ⟨⟨xs, xs[i], sq, List.getElem?_eq_getElem lt⟩, Pv (i + 1), fun H' p' => ⟨m - 1, by omega, by omega, p'⟩, ?_⟩
    rintro v H' ⟨T, x, rfl, n, at_⟩
    exact hs i x T H H' (at_ xs sq) p n
theorem cr_minTK {X : Cx} {K : PySem.W.Frag} (hc : X.calm = true) (hk : X.K = K) : CallR X (.builtin "min") (rMinT K) := hk ▸ cr_minT hc
/-! ### rules whose reading names the written part, for the block of a comprehension -/
section
variable {X : Cx} {K : PySem.W.Frag} (hk : X.K = K)
include hk
theorem ix_tupK : IxR X (rIxT K) := hk ▸ ix_tup
theorem ix_listK : IxR X (rIxL K) := hk ▸ ix_list
theorem ix_seqK : IxR X (rIx K) := hk ▸ ix_seq
theorem op_in_seqK : OpR X (compareOp .In) (rIn K false) := hk ▸ op_in_seq
theorem op_notIn_seqK : OpR X (compareOp .NotIn) (rIn K true) := hk ▸ op_notIn_seq
theorem call_listNK : CallR X (.type "list") (rListN K) := hk ▸ call_listN
theorem call_tupleNK : CallR X (.type "tuple") (rTupleN K) := hk ▸ call_tupleN
theorem call_len_seqK : CallR X (.builtin "len") (fun xs H Q => ∃ p ys, xs = [.ref p] ∧ (SqL K H p ys ∨ SqT K H p ys) ∧ Q (.int ys.length) H) := by
  subst hk
  exact call_len_seq
theorem call_lenK : CallR X (.builtin "len") (fun xs H Q => ∃ x n, xs = [x] ∧ LenV K x H n ∧ Q (.int n) H) := by
  subst hk
  exact call_len
end
end Hd

namespace Hd
open PySem PySem.Spec PyProof.Rows L2

/-! ### the cycles of a move -/
def stp (ns : List Int) (p : Int) : Int := (ns[p.toNat]?).getD 0
def itn (ns : List Int) : Nat → Int → Int
  | 0, s => s
  | k + 1, s => stp ns (itn ns k s)
def inR (n p : Int) : Prop := 0 ≤ p ∧ p < n
theorem itn_add (ns : List Int) (a b : Nat) (s : Int) : itn ns (a + b) s = itn ns a (itn ns b s) := by
  induction a with
  | zero => rw [Nat.zero_add]; rfl
  | succ a ih => rw [Nat.add_right_comm]; show stp ns _ = stp ns _; rw [ih]
theorem itn_stp (ns : List Int) (k : Nat) (s : Int) : itn ns k (stp ns s) = stp ns (itn ns k s) := by
  have := itn_add ns k 1 s
  exact this.symm
section
variable {ns : List Int} {n : Int} (h : IsMv ns n)
include h
theorem stp_at {p : Int} (hp : inR n p) : ns[p.toNat]? = some (stp ns p) ∧ inR n (stp ns p) := by
  have l := h.len
  have lt : p.toNat < ns.length := by have := hp.1; have := hp.2; omega
  have e : ns[p.toNat]? = some ns[p.toNat] := List.getElem?_eq_getElem lt
  have es : stp ns p = ns[p.toNat] := by unfold stp; rw [e]; rfl
  refine ⟨by rw [es]; exact e, ?_⟩
  rw [es]
  exact h.mem.mp (List.getElem_mem lt)
theorem stp_inj {p q : Int} (hp : inR n p) (hq : inR n q) (e : stp ns p = stp ns q) : p = q := by
  have l := h.len
  have lp : p.toNat < ns.length := by have := hp.1; have := hp.2; omega
  have lq : q.toNat < ns.length := by have := hq.1; have := hq.2; omega
  have ep : ns[p.toNat] = ns[q.toNat] := by
    have a := (stp_at h hp).1
    have b := (stp_at h hq).1
    rw [List.getElem?_eq_getElem lp] at a
    rw [List.getElem?_eq_getElem lq] at b
    exact (Option.some.inj a).trans (e.trans (Option.some.inj b).symm)
  have nd := List.pairwise_iff_getElem.mp h.nodup
  have := hp.1; have := hq.1
  rcases Nat.lt_trichotomy p.toNat q.toNat with z | z | z
  · exact absurd ep (nd _ _ lp lq z)
  · omega
  · exact absurd ep.symm (nd _ _ lq lp z)
theorem itn_in {s : Int} (hs : inR n s) : ∀ k, inR n (itn ns k s)
  | 0 => hs
  | k + 1 => (stp_at h (itn_in hs k)).2
theorem itn_inj {p q : Int} (hp : inR n p) (hq : inR n q) : ∀ k, itn ns k p = itn ns k q → p = q
  | 0, e => e
  | k + 1, e => itn_inj hp hq k (stp_inj h (itn_in h hp k) (itn_in h hq k) e)
theorem itn_back {s : Int} (hs : inR n s) {a b : Nat} (hab : a < b) (e : itn ns a s = itn ns b s) : itn ns (b - a) s = s := by
  have : itn ns b s = itn ns a (itn ns (b - a) s) := by rw [← itn_add]; congr 1; omega
  rw [this] at e
  exact (itn_inj h hs (itn_in h hs _) a e).symm
theorem per_some {s : Int} (hs : inR n s) : ∃ m, 1 ≤ m ∧ m ≤ n.toNat ∧ itn ns m s = s := by
  refine Classical.byContradiction fun no => ?_
  have nd : ((List.range (n.toNat + 1)).map fun k => itn ns k s).Nodup := by
    rw [List.Nodup, List.pairwise_map]
    refine List.Pairwise.imp_of_mem (R := (· < ·)) (fun {a b} ha hb hab e => ?_) List.pairwise_lt_range
    have hb := List.mem_range.mp hb
    exact no ⟨b - a, by omega, by omega, itn_back h hs hab e⟩
  have sub : ∀ x ∈ (List.range (n.toNat + 1)).map (fun k => itn ns k s), x ∈ rngI n := fun x hx => by
    obtain ⟨k, _, rfl⟩ := List.mem_map.mp hx
    exact rngI_mem.mpr (itn_in h hs k)
  have p := perm_of_subset nd sub (by rw [rngI_len, List.length_map, List.length_range]; omega)
  have := p.length_eq
  rw [rngI_len, List.length_map, List.length_range] at this
  omega
end
def IsPer (ns : List Int) (s : Int) (m : Nat) : Prop := 1 ≤ m ∧ itn ns m s = s ∧ ∀ k, 1 ≤ k → k < m → itn ns k s ≠ s
theorem isPer_of {ns : List Int} {s : Int} : ∀ {m : Nat}, 1 ≤ m → itn ns m s = s → ∃ m', m' ≤ m ∧ IsPer ns s m' := by
  intro m
  induction m using Nat.strongRecOn with
  | _ m ih =>
    intro h1 e
    by_cases c : ∃ k, 1 ≤ k ∧ k < m ∧ itn ns k s = s
    · obtain ⟨k, k1, km, ke⟩ := c
      obtain ⟨m', le, p⟩ := ih k km k1 ke
      exact ⟨m', by omega, p⟩
    · exact ⟨m, Nat.le_refl _, h1, e, fun k k1 km ke => c ⟨k, k1, km, ke⟩⟩
theorem IsPer.uniq {ns : List Int} {s : Int} {a b : Nat} (x : IsPer ns s a) (y : IsPer ns s b) : a = b := by
  rcases Nat.lt_trichotomy a b with l | l | l
  · exact absurd x.2.1 (y.2.2 a x.1 l)
  · exact l
  · exact absurd y.2.1 (x.2.2 b y.1 l)
open Classical in
noncomputable def per (ns : List Int) (s : Int) : Nat := if h : ∃ m, IsPer ns s m then h.choose else 1
noncomputable def cyc (ns : List Int) (s : Int) : List Int := (List.range (per ns s)).map fun k => itn ns k s
section
variable {ns : List Int} {n : Int} (h : IsMv ns n)
include h
theorem per_is {s : Int} (hs : inR n s) : IsPer ns s (per ns s) := by
  obtain ⟨m, m1, -, e⟩ := per_some h hs
  obtain ⟨m', -, p⟩ := isPer_of m1 e
  have ex : ∃ m, IsPer ns s m := ⟨m', p⟩
  unfold per
  rw [dif_pos ex]
  exact ex.choose_spec
theorem per_le {s : Int} (hs : inR n s) : per ns s ≤ n.toNat := by
  obtain ⟨m, m1, mn, e⟩ := per_some h hs
  obtain ⟨m', le, p⟩ := isPer_of m1 e
  rw [(per_is h hs).uniq p]
  omega
theorem cyc_len (s : Int) : (cyc ns s).length = per ns s := by unfold cyc; rw [List.length_map, List.length_range]
theorem cyc_get {s : Int} {k : Nat} (hk : k < per ns s) : (cyc ns s)[k]? = some (itn ns k s) := by
  unfold cyc
  rw [List.getElem?_map, List.getElem?_range hk]
  rfl
theorem cyc_all {s : Int} (hs : inR n s) : ∀ j, itn ns j s ∈ cyc ns s
  | 0 => List.mem_map.mpr ⟨0, List.mem_range.mpr (per_is h hs).1, rfl⟩
  | j + 1 => by
    obtain ⟨k, hk, e⟩ := List.mem_map.mp (cyc_all hs j)
    have hk := List.mem_range.mp hk
    have e2 : itn ns (j + 1) s = itn ns (k + 1) s := by show stp ns _ = stp ns _; rw [e]
    rw [e2]
    by_cases l : k + 1 < per ns s
    · exact List.mem_map.mpr ⟨k + 1, List.mem_range.mpr l, rfl⟩
    · have : k + 1 = per ns s := by omega
      rw [this, (per_is h hs).2.1]
      exact List.mem_map.mpr ⟨0, List.mem_range.mpr (per_is h hs).1, rfl⟩
theorem cyc_mem {s x : Int} (hs : inR n s) : x ∈ cyc ns s ↔ ∃ j, x = itn ns j s := by
  constructor
  · intro hx
    obtain ⟨k, -, e⟩ := List.mem_map.mp hx
    exact ⟨k, e.symm⟩
  · rintro ⟨j, rfl⟩
    exact cyc_all h hs j
theorem cyc_in {s x : Int} (hs : inR n s) (hx : x ∈ cyc ns s) : inR n x := by
  obtain ⟨j, rfl⟩ := (cyc_mem h hs).mp hx
  exact itn_in h hs j
theorem cyc_back {s x : Int} (hs : inR n s) (hx : x ∈ cyc ns s) : s ∈ cyc ns x := by
  obtain ⟨k, hk, e⟩ := List.mem_map.mp hx
  have hk := List.mem_range.mp hk
  refine (cyc_mem h (cyc_in h hs hx)).mpr ⟨per ns s - k, ?_⟩
  rw [← e, ← itn_add]
  rw [show per ns s - k + k = per ns s by omega]
  exact (per_is h hs).2.1.symm
theorem cyc_trans {s x y : Int} (hs : inR n s) (hx : x ∈ cyc ns s) (hy : y ∈ cyc ns x) : y ∈ cyc ns s := by
  obtain ⟨j, rfl⟩ := (cyc_mem h hs).mp hx
  obtain ⟨i, rfl⟩ := (cyc_mem h (itn_in h hs j)).mp hy
  rw [← itn_add]
  exact cyc_all h hs _
theorem cyc_nodup {s : Int} (hs : inR n s) : (cyc ns s).Nodup := by
  unfold cyc
  rw [List.Nodup, List.pairwise_map]
  refine List.Pairwise.imp_of_mem (R := (· < ·)) (fun {a b} ha hb hab e => ?_) List.pairwise_lt_range
  have hb := List.mem_range.mp hb
  exact (per_is h hs).2.2 (b - a) (by omega) (by omega) (itn_back h hs hab e)
theorem cyc_next {s : Int} (hs : inR n s) {k : Nat} (hk : k < per ns s) : (cyc ns s)[(k + 1) % per ns s]? = some (stp ns (itn ns k s)) := by
  by_cases l : k + 1 < per ns s
  · rw [Nat.mod_eq_of_lt l, cyc_get h l]
    rfl
  · have e : k + 1 = per ns s := by omega
    rw [e, Nat.mod_self, cyc_get h (per_is h hs).1]
    have : itn ns (k + 1) s = s := by rw [e]; exact (per_is h hs).2.1
    rw [show stp ns (itn ns k s) = itn ns (k + 1) s from rfl, this]
    rfl
theorem cyc_moved {s x : Int} (hs : inR n s) (m : stp ns s ≠ s) (hx : x ∈ cyc ns s) : stp ns x ≠ x := fun e => by
  obtain ⟨j, rfl⟩ := (cyc_mem h hs).mp hx
  rw [← itn_stp] at e
  exact m (itn_inj h (stp_at h hs).2 hs j e)
theorem per_two {s : Int} (hs : inR n s) (m : stp ns s ≠ s) : 2 ≤ per ns s := by
  have p := per_is h hs
  rcases Nat.lt_or_ge (per ns s) 2 with l | l
  · have : per ns s = 1 := by have := p.1; omega
    have e := p.2.1
    rw [this] at e
    exact absurd e m
  · exact l
end
end Hd

namespace Hd
open PySem PySem.Spec PyProof.Rows L2

def heldAt (ns : List Int) (j : Nat) : Bool := decide (ns[j]? = some (j : Int))
def pts (f : Nat → Bool) (n : Nat) : List Int := ((List.range n).filter f).map fun (j : Nat) => (j : Int)
def heldL (ns : List Int) : List Int := pts (heldAt ns) ns.length
def movedL (ns : List Int) : List Int := pts (fun j => !heldAt ns j) ns.length
theorem pts_step (f : Nat → Bool) (i : Nat) : pts f (i + 1) = pts f i ++ if f i then [(i : Int)] else [] := by
  unfold pts
  rw [List.range_succ, List.filter_append, List.map_append]
  congr 1
  cases e : f i <;> simp [e]
theorem pts_len (f : Nat → Bool) (n : Nat) : (pts f n).length ≤ n := by
  unfold pts
  rw [List.length_map]
  exact Nat.le_trans (List.length_filter_le ..) (by rw [List.length_range]; exact Nat.le_refl _)
theorem pts_mem {f : Nat → Bool} {n : Nat} {x : Int} : x ∈ pts f n ↔ 0 ≤ x ∧ x.toNat < n ∧ f x.toNat = true := by
  unfold pts
  rw [List.mem_map]
  constructor
  · rintro ⟨j, hj, rfl⟩
    obtain ⟨h1, h2⟩ := List.mem_filter.mp hj
    exact ⟨by omega, List.mem_range.mp h1, h2⟩
  · rintro ⟨h0, h1, h2⟩
    exact ⟨x.toNat, List.mem_filter.mpr ⟨List.mem_range.mpr h1, h2⟩, by omega⟩
theorem pts_sorted (f : Nat → Bool) (n : Nat) : (pts f n).Pairwise (· < ·) := by
  unfold pts
  rw [List.pairwise_map]
  refine List.Pairwise.imp (R := (· < ·)) (fun {a b} hab => ?_) (List.Pairwise.filter _ List.pairwise_lt_range)
  omega
noncomputable def keptL (ns : List Int) : List Int := (movedL ns).filter fun s => (cyc ns s).all fun x => decide (s ≤ x)
noncomputable def rowsOf (ns : List Int) : List (List Int) := (keptL ns).map (cyc ns)
section
variable {ns : List Int} {n : Int} (h : IsMv ns n)
include h
theorem held_iff {x : Int} (hx : inR n x) : heldAt ns x.toNat = decide (stp ns x = x) := by
  unfold heldAt
  rw [(stp_at h hx).1]
  have : (x.toNat : Int) = x := by have := hx.1; omega
  rw [this]
  by_cases c : stp ns x = x
  · rw [c]; simp
  · simp [c]
theorem moved_mem {x : Int} : x ∈ movedL ns ↔ inR n x ∧ stp ns x ≠ x := by
  have l := h.len
  unfold movedL
  rw [pts_mem]
  constructor
  · rintro ⟨h0, h1, h2⟩
    have hx : inR n x := ⟨h0, by omega⟩
    rw [held_iff h hx] at h2
    exact ⟨hx, by simpa using h2⟩
  · rintro ⟨hx, hm⟩
    refine ⟨hx.1, by have := hx.1; have := hx.2; omega, ?_⟩
    rw [held_iff h hx]
    simpa using hm
theorem kept_in {s : Int} (hs : s ∈ keptL ns) : inR n s ∧ stp ns s ≠ s ∧ ∀ x ∈ cyc ns s, s ≤ x := by
  obtain ⟨h1, h2⟩ := List.mem_filter.mp hs
  obtain ⟨h3, h4⟩ := (moved_mem h).mp h1
  exact ⟨h3, h4, fun x hx => of_decide_eq_true (List.all_eq_true.mp h2 x hx)⟩
theorem kept_same {s t x : Int} (hs : s ∈ keptL ns) (ht : t ∈ keptL ns) (xs : x ∈ cyc ns s) (xt : x ∈ cyc ns t) : s = t := by
  obtain ⟨is, -, ms⟩ := kept_in h hs
  obtain ⟨it, -, mt⟩ := kept_in h ht
  have a : t ∈ cyc ns s := cyc_trans h is xs (cyc_back h it xt)
  have b : s ∈ cyc ns t := cyc_trans h it xt (cyc_back h is xs)
  have := ms t a
  have := mt s b
  omega
theorem least_of : ∀ (l : List Int), l ≠ [] → ∃ m ∈ l, ∀ x ∈ l, m ≤ x
  | [], e => absurd rfl e
  | [a], _ => ⟨a, List.mem_singleton.mpr rfl, fun x hx => by rw [List.mem_singleton.mp hx]; exact Int.le_refl _⟩
  | a :: b :: l, _ => by
    obtain ⟨m, hm, le⟩ := least_of (b :: l) (by simp)
    by_cases c : a ≤ m
    · exact ⟨a, List.mem_cons_self, fun x hx => (List.mem_cons.mp hx).elim (fun e => by rw [e]; exact Int.le_refl _) fun z => Int.le_trans c (le x z)⟩
    · exact ⟨m, List.mem_cons_of_mem _ hm, fun x hx => (List.mem_cons.mp hx).elim (fun e => by rw [e]; omega) fun z => le x z⟩
theorem kept_all {p : Int} (hp : p ∈ movedL ns) : ∃ s ∈ keptL ns, p ∈ cyc ns s := by
  obtain ⟨ip, mp⟩ := (moved_mem h).mp hp
  have self : p ∈ cyc ns p := cyc_all h ip 0
  obtain ⟨m, hm, le⟩ := least_of h (cyc ns p) (fun z => by rw [z] at self; cases self)
  have im := cyc_in h ip hm
  refine ⟨m, List.mem_filter.mpr ⟨(moved_mem h).mpr ⟨im, cyc_moved h ip mp hm⟩, List.all_eq_true.mpr fun x hx => decide_eq_true (le x (cyc_trans h ip hm hx))⟩, cyc_back h ip hm⟩
theorem kept_sorted : (keptL ns).Pairwise (· < ·) := List.Pairwise.filter _ (pts_sorted _ _)
theorem kept_len : (keptL ns).length ≤ ns.length := Nat.le_trans (List.length_filter_le ..) (pts_len _ _)
end
/-- what is left of the moved points when those of done are taken out -/
def leftL (ns done : List Int) : List Int := (movedL ns).filter fun x => decide (x ∉ done)
theorem left_erase (ns done : List Int) (p : Int) : (leftL ns done).erase p = leftL ns (done ++ [p]) := by
  have nd : (leftL ns done).Nodup := by
    refine List.Pairwise.filter _ ?_
    exact List.Pairwise.imp (R := (· < ·)) (fun {a b} hab => by omega) (pts_sorted _ _)
  rw [List.Nodup.erase_eq_filter nd]
  unfold leftL
  rw [List.filter_filter]
  refine List.filter_congr fun x _ => ?_
  simp only [List.mem_append, List.mem_singleton, not_or, Bool.decide_and]
  rw [Bool.and_comm]
  congr 1
  by_cases c : x = p <;> simp [c]
theorem mvD_ints {d : PyData} (e : mvD d = true) : ∃ ns, d = .tuple (ns.map PyData.int) ∧ IsMv ns (ns.length : Nat) ∧ ns.length ≤ 12 := by
  cases d with
  | tuple ds =>
    have e' : (decide (ds.length ≤ 12) && (decide (((ds.length : Nat) : Int) = ((ds.length : Nat) : Int)) && (ds.all (fun d => isNum d 0 (((ds.length : Nat) : Int) - 1)) && decide ((intsOf ds).Perm (rngI ((ds.length : Nat) : Int)))))) = true := e
    rw [Bool.and_eq_true, Bool.and_eq_true, Bool.and_eq_true] at e'
    obtain ⟨h1, -, h3, h4⟩ := e'
    have eq := ints_isNum h3
    have pm : (intsOf ds).Perm (rngI ((ds.length : Nat) : Int)) := of_decide_eq_true h4
    have ln : (intsOf ds).length = ds.length := by rw [pm.length_eq, rngI_len]; omega
    refine ⟨intsOf ds, by rw [← eq], ?_, by rw [ln]; exact of_decide_eq_true h1⟩
    rw [ln]
    exact pm
  | _ => cases e
theorem ErrAt.new {D d p' : Addr} {fs : List (Str × V)} {H H' : Hp} {p : Addr × Obj} {o : HO} (e : ErrAt D d fs H p) (n : New H p' o H') : ErrAt D d fs H' p := ⟨e.cls, e.dict, e.data, n.else e.at_⟩
theorem ErrAt.same {D d : Addr} {fs : List (Str × V)} {H H' : Hp} {p : Addr × Obj} (e : ErrAt D d fs H p) (s : Same H H') : ErrAt D d fs H' p := ⟨e.cls, e.dict, e.data, s _ _ e.at_⟩
theorem same_put {H H' : Hp} {l : Addr} {o : HO} (s : Same H H') (h : H l = none) : Same H (upd H' l o) := fun b u e => by
  rw [upd_ne fun z => by rw [z, h] at e; cases e]
  exact s _ _ e
theorem lt_of_len {a i n : Nat} (h : a ≤ i) (l : i < n) (z : n ≤ 12) : a < sizeLine := Nat.lt_of_lt_of_le (by omega : a < 13) (by decide)
theorem map_at {ns : List Int} {i : Nat} {x : V} (h : (ns.map V.int)[i]? = some x) : ∃ m, ns[i]? = some m ∧ x = .int m := by
  rw [List.getElem?_map] at h
  obtain ⟨m, hm, e⟩ := Option.map_eq_some_iff.mp h
  exact ⟨m, hm, e.symm⟩
/-- an error of the class at D with these attributes leaves -/
def Errs (E : XK) (D : Addr) (fs : List (Str × V)) (H : Hp) : Prop := ∀ (d : Addr) (H' : Hp), Same H H' → H' d = some (.xd fs) → E (.ref D) (some d) H'
theorem Errs.up {E : XK} {D : Addr} {fs : List (Str × V)} {H H' : Hp} (e : Errs E D fs H) (s : Same H H') : Errs E D fs H' := fun d H2 s2 h => e d H2 (s.trans s2) h
end Hd
namespace Hd
open PySem PySem.Spec PyProof.Rows L2
theorem erase_first {k : Int} : ∀ {ns : List Int} {j : Nat}, ns[j]? = some k → (∀ m : Nat, m < j → ns[m]? ≠ some k) → ns.eraseIdx j = ns.erase k
  | [], j, e, _ => by simp at e
  | a :: r, 0, e, _ => by
    have e : a = k := Option.some.inj e
    rw [e]
    simp
  | a :: r, j + 1, e, no => by
    have ne : a ≠ k := fun z => no 0 (Nat.succ_pos j) (by rw [z]; rfl)
    have ih := erase_first (ns := r) (j := j) e fun m hm => no (m + 1) (Nat.succ_lt_succ hm)
    rw [List.eraseIdx_cons_succ, ih, List.erase_cons_tail (by simpa using ne)]
theorem first_at {k : Int} : ∀ {ns : List Int}, k ∈ ns → ∃ j, ns[j]? = some k ∧ ∀ m : Nat, m < j → ns[m]? ≠ some k
  | [], h => by cases h
  | a :: r, h => by
    by_cases e : a = k
    · exact ⟨0, by rw [e]; rfl, fun m hm => absurd hm (Nat.not_lt_zero m)⟩
    · obtain ⟨j, e1, no⟩ := first_at (ns := r) ((List.mem_cons.mp h).resolve_left (Ne.symm e))
      refine ⟨j + 1, e1, fun m hm => ?_⟩
      cases m with
      | zero => exact fun z => e (Option.some.inj z)
      | succ m => exact no m (Nat.lt_of_succ_lt_succ hm)
theorem inV_ints (p : Int) (ns : List Int) : inV (.int p) (ns.map V.int) = decide (p ∈ ns) := by
  induction ns with
  | nil => rfl
  | cons a r ih =>
    have e : eqV (.int a) (.int p) = decide (a = p) := by
      show (a == p) = _
      by_cases c : a = p <;> simp [c]
    show (eqV (.int a) (.int p) || inV (.int p) (r.map V.int)) = _
    rw [ih, e]
    by_cases c : a = p
    · simp [c]
    · have c2 : p ≠ a := fun z => c z.symm
      simp [c, c2]
noncomputable def dn (ns : List Int) (i : Nat) : List Int := (((keptL ns).take i).map (cyc ns)).flatten
section
variable {ns : List Int} {n : Int} (h : IsMv ns n)
include h
theorem not_done {i : Nat} {s p : Int} (hs : (keptL ns)[i]? = some s) (hp : p ∈ cyc ns s) : p ∉ dn ns i := fun m => by
  obtain ⟨l, hl, pl⟩ := List.mem_flatten.mp m
  obtain ⟨t, ht, rfl⟩ := List.mem_map.mp hl
  obtain ⟨j, hj, ej⟩ := List.mem_iff_getElem.mp ht
  rw [List.getElem_take] at ej
  rw [List.length_take] at hj
  have li := (List.getElem?_eq_some_iff.mp hs)
  have lt := List.pairwise_iff_getElem.mp (kept_sorted h) j i (by omega) li.1 (by omega)
  have e := kept_same h (List.mem_of_getElem? hs) (List.mem_of_mem_take ht) hp pl
  rw [ej, li.2] at lt
  omega
theorem dn_step {i : Nat} {s : Int} (hs : (keptL ns)[i]? = some s) : dn ns (i + 1) = dn ns i ++ cyc ns s := by
  unfold dn
  rw [List.take_add_one, hs, List.map_append, List.flatten_append]
  simp
theorem done_all : leftL ns (dn ns (keptL ns).length) = [] := by
  unfold leftL dn
  rw [List.take_length, List.filter_eq_nil_iff]
  intro x hx
  obtain ⟨s, hs, xs⟩ := kept_all h hx
  have : x ∈ ((keptL ns).map (cyc ns)).flatten := List.mem_flatten.mpr ⟨_, List.mem_map.mpr ⟨s, hs, rfl⟩, xs⟩
  simp [this]
theorem kept_next {i : Nat} {s t : Int} (hs : (keptL ns)[i]? = some s) (ht : (keptL ns)[i + 1]? = some t) : s < t := by
  have a := List.getElem?_eq_some_iff.mp hs
  have b := List.getElem?_eq_some_iff.mp ht
  have lt := List.pairwise_iff_getElem.mp (kept_sorted h) i (i + 1) a.1 b.1 (Nat.lt_succ_self i)
  rwa [a.2, b.2] at lt
theorem in_left {i j : Nat} {s p : Int} (hs : (keptL ns)[i]? = some s) (hp : (cyc ns s)[j]? = some p) : p ∈ leftL ns (dn ns i ++ (cyc ns s).take j) := by
  obtain ⟨is, ms, -⟩ := kept_in h (List.mem_of_getElem? hs)
  have pc := List.mem_of_getElem? hp
  refine List.mem_filter.mpr ⟨(moved_mem h).mpr ⟨cyc_in h is pc, cyc_moved h is ms pc⟩, decide_eq_true fun m => ?_⟩
  rcases List.mem_append.mp m with m | m
  · exact not_done h hs pc m
  · obtain ⟨k, hk, ek⟩ := List.mem_iff_getElem.mp m
    rw [List.getElem_take] at ek
    rw [List.length_take] at hk
    have lp := List.getElem?_eq_some_iff.mp hp
    exact List.pairwise_iff_getElem.mp (cyc_nodup h is) k j (by omega) lp.1 (by omega) (ek.trans lp.2.symm)
theorem left_step {i j : Nat} {s p : Int} (hp : (cyc ns s)[j]? = some p) : (leftL ns (dn ns i ++ (cyc ns s).take j)).erase p = leftL ns (dn ns i ++ (cyc ns s).take (j + 1)) := by
  rw [left_erase, List.take_add_one, hp, List.append_assoc]
  rfl
end
theorem Stq.pure {G H G1 H1 H2 : Hp} (s : Stq G H G1 H1) (g : Same H1 H2) : Stq G H G1 H2 := ⟨s.gg, s.gh.trans g, s.nw, s.hh.trans g⟩
def rRepL : R2 := fun x y H Q => ∃ l k xs, x = .ref l ∧ y = .int k ∧ H l = some (.lst xs) ∧ -(2 ^ 63) ≤ k ∧ k < 2 ^ 63 ∧ xs.length * k.toNat ≤ sizeLine ∧ ∀ p H2, New H p (.lst (List.replicate k.toNat xs).flatten) H2 → Q (.ref p) H2
theorem op_repL {X : Cx} : OpR X (binaryOp .Mult) rRepL := opR_mono op_rep fun x y H Q h => by
  obtain ⟨l, k, xs, e1, e2, h1, z1, z2, z3, q⟩ := h
  exact ⟨l, k, xs, e1, e2, h1, z1, z2, z3, fun p hp => q p _ ⟨hp, rfl⟩⟩
theorem stp_nat {ns : List Int} {n : Int} (h : IsMv ns n) {k : Nat} (hk : (k : Int) < n) : ns[k]? = some (stp ns k) ∧ inR n (stp ns k) := stp_at h (p := (k : Int)) ⟨by omega, hk⟩
theorem renamed_mv {ns bs L : List Int} {n : Int} (n0 : 0 ≤ n) (hn : IsMv ns n) (hb : IsMv bs n) (hl : L.length = n.toNat) (h : ∀ k : Nat, (k : Int) < n → L[(stp bs k).toNat]? = some (stp bs (stp ns k))) : IsMv L n := by
  refine isMv_of n0 hl fun x x0 x1 => ?_
  obtain ⟨y, hy⟩ := List.getElem?_of_mem (hb.mem.mpr ⟨x0, x1⟩)
  have ly := hb.len
  have yl := (List.getElem?_eq_some_iff.mp hy).1
  obtain ⟨k, hk⟩ := List.getElem?_of_mem ((hn.mem (x := (y : Int))).mpr ⟨by omega, by omega⟩)
  have lk := hn.len
  have kl := (List.getElem?_eq_some_iff.mp hk).1
  have ek : stp ns k = y := Option.some.inj ((stp_nat hn (by omega)).1.symm.trans hk)
  have ey : stp bs (y : Int) = x := Option.some.inj ((stp_nat hb (by omega)).1.symm.trans hy)
  have := h k (by omega)
  rw [ek, ey] at this
  exact List.mem_of_getElem? this
theorem sgn_mv {n s g : Int} (h0 : 0 < n) (hg : g = 1 ∨ g = -1) : IsMv ((List.range n.toNat).map fun (k : Nat) => (g * (k : Int) + s) % n) n := by
  refine isMv_of (by omega) (by rw [List.length_map, List.length_range]) fun x x0 x1 => ?_
  have back : ∀ y : Int, ∃ k : Nat, (k : Int) < n ∧ ∃ q : Int, (k : Int) = y + n * q := fun y => by
    have a := Int.emod_nonneg y (show n ≠ 0 by omega)
    have b := Int.emod_lt_of_pos y h0
    refine ⟨(y % n).toNat, by omega, -(y / n), ?_⟩
    have := Int.emod_add_mul_ediv y n
    rw [Int.toNat_of_nonneg a, Int.mul_neg]
    omega
  rcases hg with rfl | rfl
  · obtain ⟨k, kn, q, e⟩ := back (x - s)
    refine List.mem_map.mpr ⟨k, List.mem_range.mpr (by omega), ?_⟩
    rw [Int.one_mul, e, show x - s + n * q + s = x + n * q by omega, Int.add_mul_emod_self_left]
    exact Int.emod_eq_of_lt x0 x1
  · obtain ⟨k, kn, q, e⟩ := back (s - x)
    refine List.mem_map.mpr ⟨k, List.mem_range.mpr (by omega), ?_⟩
    have : (-1) * (k : Int) + s = x + n * (-q) := by rw [e, Int.mul_neg]; omega
    rw [this, Int.add_mul_emod_self_left]
    exact Int.emod_eq_of_lt x0 x1
theorem app_mv {L B : List Int} {t m : Int} (t0 : 0 ≤ t) (m0 : 0 ≤ m) (hl : IsMv L t) (hb : IsMv B m) : IsMv (L ++ B.map (t + ·)) (t + m) := by
  refine isMv_of (by omega) (by rw [List.length_append, List.length_map, hl.len, hb.len]; omega) fun x x0 x1 => ?_
  by_cases c : x < t
  · exact List.mem_append_left _ (hl.mem.mpr ⟨x0, c⟩)
  · exact List.mem_append_right _ (List.mem_map.mpr ⟨x - t, hb.mem.mpr ⟨by omega, by omega⟩, by omega⟩)
end Hd

namespace Hd
open PySem PySem.Spec PyProof.Rows L2
/-! ### the facts of the head, put together -/
theorem bases_ok (c : Addr) : PySem.HandSPX.refsVE [.ref c, .type "ValueError", .type "Exception", .type "BaseException", .type "object"] = true := by
  show PySem.HandSPX.refsVE [.type "ValueError", .type "Exception", .type "BaseException", .type "object"] = true
  decide +kernel
section
variable {K : PySem.W.Frag} {h : Heap} {mg : Str → Option Value} {x : Str} {D C CH : Addr}
theorem ec_mk {nm q : Str} {N : Addr} {bs : List Value} {sn : List Str} {sub : List Value} {ab : Bool} {col : Option Bool} {dd : Option Addr} {m0 m1 m2 m3 m5 : Option Value} (X : K.In h) (G : h.Ns mainGlobals mg) (a : PySem.W.nsIn K mainGlobals x = some (some (.ref D)))
    (l : K.lookup D = some (excClassObj nm q D N bs [.ref CH, .type "ValueError", .type "Exception", .type "BaseException", .type "object"] true sn sub ab col dd m0 m1 m2 m3 m5 "ValueError.__new__"))
    (sa : PySem.W.findIn K (.ref D) "__setattr__" = some (some (.builtin "object.__setattr__"))) (ga : PySem.W.findIn K (.ref D) "__getattribute__" = some (some (.builtin "BaseException.__getattribute__"))) (gg : PySem.W.findIn K (.ref D) "__getattr__" = some none)
    (ex : PySem.W.subIn K (.ref D) (.type "BaseException") = some true) (ty : PySem.W.typeIn K (.ref D) = some (.type "type")) (kp : PySem.W.keepIn K (.ref D) = true) (hd : PySem.W.hasDictIn K D = true)
    (ca : PySem.W.findIn K (.ref D) "__class__" = some (some (.builtin "object.__class__"))) (sg : PySem.W.specialIn K (.builtin "object.__class__") "__get__" = some (some (.builtin "getset_descriptor.__get__"))) (tk : PySem.W.takesIn K (.builtin "object.__class__") = some true)
    (mo : PySem.W.mroIn K D (.type "object") = some true) (ic : PySem.W.isClsIn K D = true) : Ec K mg x D :=
  { gC := PySem.W.mg_of X G a, ox := ⟨⟨nm, q, N, bs, _, sn, sub, ab, col, dd, m0, m1, m2, m3, m5, l, bases_ok CH⟩, sa, ex, ty, kp⟩, xf := ⟨ga, gg, ex, hd⟩, ca := ca, sg := sg, tk := tk, mo := mo, ic := ic }
theorem isx_yes (X : K.In h) (G : h.Ns mainGlobals mg) (a : PySem.W.nsIn K mainGlobals x = some (some (.ref C))) (i : PySem.W.isClsIn K C = true) (t : PySem.W.typeIn K (.ref C) = some (.type "type")) (s : PySem.W.subIn K (.ref D) (.ref C) = some true) : Isx K mg D x true :=
  isx_mk X G a i t s (.inl rfl)
theorem isx_no (X : K.In h) (G : h.Ns mainGlobals mg) (self : PySem.W.subIn K (.ref D) (.ref D) = some true) (a : PySem.W.nsIn K mainGlobals x = some (some (.ref C))) (i : PySem.W.isClsIn K C = true) (t : PySem.W.typeIn K (.ref C) = some (.type "type")) (s : PySem.W.subIn K (.ref D) (.ref C) = some false) : Isx K mg D x false := by
  refine isx_mk X G a i t s (.inr ?_)
  cases e : (D == C) with
  | false => rfl
  | true =>
    have e' : D = C := by simpa using e
    rw [← e', self] at s
    cases s
theorem kit_ve (s : PySem.W.subIn K (.ref D) (.type "ValueError") = some true) : PySem.W.kitOne K (.ref D) (.type "ValueError") = some true := by
  have m : PySem.W.kitMeta "ValueError" = true := by decide +kernel
  have k : PySem.W.kitCls K (.ref D) (.type "ValueError") = some true := by
    show (if PySem.W.kitMeta "ValueError" = true then PySem.W.subIn K (.ref D) (.type "ValueError") else none) = some true
    rw [if_pos m]
    exact s
  unfold PySem.W.kitOne
  split
  · rfl
  · exact k
end
end Hd

namespace Hd
open PySem PySem.Spec PyProof.Rows L2
/-! ### exceptions held as values -/
/-- at a: a new exception of the class at D, its attributes fs at d -/
structure MkX (H H' : Hp) (a d D : Addr) (fs : List (Str × V)) : Prop where
  na : H a = none
  nd : H d = none
  ne : d ≠ a
  at_ : H' a = some (exo a D (some d))
  dc : H' d = some (exd d fs)
  old : ∀ b, b ≠ a → b ≠ d → H' b = H b
theorem MkX.same {H H' : Hp} {a d D : Addr} {fs : List (Str × V)} (m : MkX H H' a d D fs) : Same H H' := fun b u e => by
  rw [m.old b (fun z => by rw [z, m.na] at e; cases e) fun z => by rw [z, m.nd] at e; cases e]
  exact e
def tMkV (D : Addr) (gs : List Str) (ta : TA) : TE := fun σ H Q => ta σ H fun us H1 => us.length = gs.length ∧ us.length ≤ 1000 ∧ ∀ a d H2, MkX H1 H2 a d D ((gs.zip us).reverse) → Q (.ref a) H2
section
variable {X : Cx} {x : Str} {D : Addr} {gs : List Str} {e : Expr} {es : List Expr} {ta : TA} {p pos : Pos}
theorem pe_mkV (M : Xm X.prog X.w X.K X.mg X.base x D gs) (hr : Room 2 X.A) (hg : Gl X x) (ha : PA X (e :: es) ta) (hdb : (x == ("__debug__" : Str)) = false := by decide)
    (he : starEach (e :: es) X.env = (false, eval e X.env) :: starEach es X.env := by rfl) (hpl : (backTo pos (starEach es X.env)).any (·.1) = false := by rfl) : PE X (.Call (.Name x p) (e :: es) [] pos) (tMkV D gs ta) := by
  obtain ⟨E, -, fI, fd, iC, tI, F1, hb⟩ := M
  have T := E.ox
  constructor
  intro pins s σ H Q I h
  obtain ⟨nm, q, N, bs, bm, sn, sub, ab, col, dd, k0, k1, k2, k3, k5, hC, hbm⟩ := T.cls
  apply wpAny_Call_Name_kw (ld_glob I hg E.gC _ hdb)
  refine PySem.W.callWith_K (h₀ := X.base) I.ok.mod.kin T.kC (thn (ha.run pos pins s σ H _ I h) ?_) he hpl
  rintro us ⟨hp, g, dr, tk, os⟩ ⟨vs, H1, I1, r1, h1, hz, q1⟩
  refine ⟨I1.kIn, ?_⟩
  change wpAny _ _ (call (.ref D) us) _ _ _
  generalize hn : hp.objs.size + 1 = a
  have big : hp.objs.size ≤ a := by omega
  have new : H1 a = none := I1.hok.fresh big
  have sq : spIni D gs (.ref a :: vs) (upd H1 a (exo a D none)) (fun v H2 => v = .non ∧ ∃ d, MkX H1 H2 a d D ((gs.zip vs).reverse)) (fun _ _ _ => False) := by
    refine ⟨a, vs, rfl, h1, upd_same, fun dx hdx ne => ⟨rfl, dx, new, ?_, ne, upd_same, (upd_ne ne).trans upd_same, fun b ba bd => ?_⟩⟩
    · rw [upd_ne ne] at hdx
      exact hdx
    · rw [upd_ne ba, upd_ne bd, upd_ne ba]
  have up : ∀ b o, hp.get? b = some o → ((hp.push (PySem.W.kdv_tup us)).push (PySem.HandSPX.excO D hp.objs.size)).get? b = some o := fun b o z => Heap.get?_push_of_some _ (Heap.get?_push_of_some _ z)
  have at_ : ((hp.push (PySem.W.kdv_tup us)).push (PySem.HandSPX.excO D hp.objs.size)).get? a = some (PySem.HandSPX.excO D hp.objs.size) := by subst hn; heap_get
  have I2 : Inv X pins σ (upd H1 a (exo a D none)) ⟨(hp.push (PySem.W.kdv_tup us)).push (PySem.HandSPX.excO D hp.objs.size), g, dr, tk, os⟩ := I1.laid (t' := tk) up big (exo_ok at_)
  have r2 : Vals (V.ref a :: vs) (Value.ref a :: us) := .cons rfl r1
  have ln : (Value.ref a :: us).length = (("self" : Str) :: gs).length := r2.length.symm.trans (F1.len _ _ _ _ sq)
  have bd := hb ⟨(hp.push (PySem.W.kdv_tup us)).push (PySem.HandSPX.excO D hp.objs.size), g, dr, tk, os⟩ (Value.ref a :: us) I2.kIn ((congrArg List.length (List.append_nil _)).trans ln)
  rw [List.append_nil] at bd
  have few : us.length ≤ sizeLine := by
    have := r1.length
    rw [sizeLine_eq]
    omega
  subst hn
  refine wpAny_call (PySem.HandSPX.call_own F.excBase_ValueError (fun Y => PySem.HandSPX.refsVE_contains Y bm hbm) (I1.kIn _ _ hC) (PySem.W.looks_findIn I1.kIn iC) (fun self => PySem.W.bind_fn I1.kIn self tI) few ?_)
  refine codeAny_mono (F1.run _ X.stack _ _ ⟨_, []⟩ _ _ _ (fun _ _ _ => False) (hr.make D us []) (I2.env0.make D us []) bd r2 sq) ?_
  intro res s' hq
  cases res with
  | error _ => exact hq.elim
  | ok fl =>
    cases fl
    · exact hq.elim
    · exact hq.elim
    · exact hq.elim
    · obtain ⟨v, H2, os2, bare2, un2, hok2, rv, rfl, d, mk⟩ := hq
      have J : Inv X pins σ H2 s' := I2.call' (ch := []) os2 un2 hok2 bare2 (fun b z => absurd z (by simp))
      exact ⟨rv, .ref (hp.objs.size + 1), H2, J, rfl, q1 _ d H2 mk⟩
end
/-- what isinstance wants of a class of exceptions -/
structure EcI (K : PySem.W.Frag) (D : Addr) : Prop where
  ga : PySem.W.findIn K (.ref D) "__getattribute__" = some (some (.builtin "BaseException.__getattribute__"))
  gg : PySem.W.findIn K (.ref D) "__getattr__" = some none
  ex : PySem.W.subIn K (.ref D) (.type "BaseException") = some true
  ca : PySem.W.findIn K (.ref D) "__class__" = some (some (.builtin "object.__class__"))
  sg : PySem.W.specialIn K (.builtin "object.__class__") "__get__" = some (some (.builtin "getset_descriptor.__get__"))
  tk : PySem.W.takesIn K (.builtin "object.__class__") = some true
  mo : PySem.W.mroIn K D (.type "object") = some true
  ic : PySem.W.isClsIn K D = true
theorem Ec.i {K : PySem.W.Frag} {mg : Str → Option Value} {x : Str} {D : Addr} (e : Ec K mg x D) : EcI K D := ⟨e.xf.ga, e.xf.gg, e.xf.exC, e.ca, e.sg, e.tk, e.mo, e.ic⟩
/-- an exception of the class at D stands at a -/
def ErV (H : Hp) (a D : Addr) : Prop := (∃ d fs, H a = some (exo a D (some d)) ∧ H d = some (exd d fs)) ∨ H a = some (ExO (.ref D) a)
theorem ErV.up {H H' : Hp} {a D : Addr} (e : ErV H a D) (s : Same H H') : ErV H' a D := e.imp (fun ⟨d, fs, h1, h2⟩ => ⟨d, fs, s _ _ h1, s _ _ h2⟩) (fun h => s _ _ h)
section
variable {X : Cx} {D a d : Addr}
theorem ErV.inst {pins : List (Addr × Obj)} {σ : L2.St} {H : Hp} {s : Shared} (e : ErV H a D) (I : Inv X pins σ H s) : ∃ oe od, PySem.W.InstAt s.heap a oe D od := by
  rcases e with ⟨d, fs, h1, h2⟩ | h1
  · obtain ⟨t1, ho⟩ := exo_at I.hok h1
    obtain ⟨mA, ⟨o, es, ep, hd, hr⟩, -⟩ := exd_at I.hok h2
    exact ⟨_, some o, ho, rfl, rfl, hd⟩
  · have z : ObjOk X.prog X.w H s.heap a (.ext fun h => ∃ (oe : Obj) (vs : Array Value), h.get? a = some oe ∧ Zc (.ref D) none oe ∧ oe.data = .fields vs ∧ vs[1]? = some .none ∧ vs[2]? = some .none ∧ 4 < vs.size) := I.hok a _ h1
    obtain ⟨⟨oe, vs, ho, hz, hd, -⟩, -, -⟩ := z
    refine ⟨oe, none, ho, hz.1, ?_, ?_⟩
    · unfold PySem.W.notCls
      rw [hd] <;> rfl
    · rw [hz.2]
      trivial
def rIsErV (K : PySem.W.Frag) : List V → Hp → VK → Prop := fun xs H Q => ∃ (a D : Addr) (c : V) (cv : Value) (b : Bool), xs = [.ref a, c] ∧ EcI K D ∧ ErV H a D ∧ (∀ u, RelV c u → u = cv) ∧ PySem.W.kitOne K (.ref D) cv = some b ∧ Q (.bl b) H
theorem call_isErV : CallR X (.builtin "isinstance") (rIsErV X.K) := by
  rintro pins s σ H xs us Q I r ⟨a, D, c, cv, b, rfl, T, ev, hcv, e, q⟩
  cases r with
  | cons r1 rr =>
    cases rr with
    | cons r2 rr =>
      cases rr
      cases r1
      obtain rfl := hcv _ r2
      obtain ⟨oe, od, J⟩ := ev.inst I
      have kit := PySem.W.kitx_exc (x := a) (ox := oe) (od := od) T.ic T.ga T.gg T.ex T.ca T.sg T.tk T.mo
      exact PySem.W.kia_one kit I.kIn J e (fun z => nomatch z) fun tk => ⟨.bl b, H, I.kept (t' := tk) fun _ _ z => z, rfl, q⟩
/-- e.n where e is such an exception -/
def tFldE (K : PySem.W.Frag) (n : Str) (te : TE) : TE := fun σ H Q => te σ H fun x H1 => ∃ (a d D : Addr) (fs : List (Str × V)) (v : V), x = .ref a ∧ XfC K D ∧ PySem.W.findIn K (.ref D) n = some none ∧ H1 a = some (exo a D (some d)) ∧ H1 d = some (exd d fs) ∧ fs.lookup n = some v ∧ Q v H1
theorem pe_fldE {e : Expr} {te : TE} {pos : Pos} {n : Str} (he : PE X e te) (hb : attributeBase e n X.env (eval e X.env) = eval e X.env := by rfl) : PE X (.Attribute e n pos) (tFldE X.K n te) := by
  constructor
  intro pins s σ H Q I h
  refine attr_of hb (thn (he.run pins s σ H _ I h) ?_)
  rintro u s1 ⟨y, H1, I1, ry, a, d, D, fs, v, rfl, T, hno, h1, h2, l, q⟩
  obtain rfl : u = Value.ref a := ry
  obtain ⟨t1, ho⟩ := exo_at I1.hok h1
  obtain ⟨mA, hns, hr⟩ := exd_at I1.hok h2
  obtain ⟨od, hod, hl⟩ := lookIn_ns hns
  obtain ⟨u, hu, ru⟩ := RelO.some_of (v := v) (o := mA n) (by rw [← l]; exact hr n)
  exact HandSPX.exc_get I1.kIn (PySem.W.InstAt.mk ho rfl rfl hod) T.ga T.gg T.exC (PySem.W.findObj_own T.hdC hno rfl (by rw [hl, hu])) (handed_of ru) ⟨v, H1, I1.tok _, ru, q⟩
/-- C(), a class that adds nothing to its base -/
theorem pe_exc0 {C : Addr} {bmB : List Value} {B newId initId : String} {x : Str} {p pos : Pos} (F : ExcBaseFacts B newId initId bmB) (q : PySem.W.excIn X.K C bmB newId = true) (gC : X.mg x = some (.ref C)) (kC : PySem.W.keepIn X.K (.ref C) = true) (hg : Gl X x)
    (hdb : (x == ("__debug__" : Str)) = false := by decide) : PE X (.Call (.Name x p) [] [] pos) (fun σ H Q => ∀ a H2, New H a (ExO (.ref C) a) H2 → Q (.ref a) H2) := by
  constructor
  intro pins s σ H Q I h
  apply wpAny_Call_Name_kw (ld_glob I hg gC _ hdb)
  refine PySem.W.callWith_K0 I.kIn kC ?_
  obtain ⟨bm, N, nm, qn, bs, hdct, sn, sub, ab, col, dd, k0, k1, k2, k3, k5, mN, hC, hN, hni, T⟩ := exc_obj I.kIn q
  refine wpAny_call_exc_subT F T hC hN hni (fun h' a hm => ?_) (by show 0 ≤ sizeLine; decide)
  have new : H a = none := I.hok.gone hm.new
  obtain ⟨t, ht, -, -⟩ := hm.there
  exact ⟨.ref a, _, I.laidN hm.keeps hm.new new (exO_ok ht ⟨rfl, rfl⟩ rfl rfl rfl (show 4 < 6 by decide)), rfl, h a _ ⟨new, rfl⟩⟩
end
end Hd

namespace Hd
open PySem PySem.Spec PyProof.Rows L2
/-! ### moves done one after the other -/
def aft (ns ms : List Int) : List Int := ns.map (stp ms)
theorem aft_len (ns ms : List Int) : (aft ns ms).length = ns.length := List.length_map ..
section
variable {ns ms : List Int} {n : Int} (hn : IsMv ns n) (hm : IsMv ms n)
include hn
theorem stp_aft {p : Int} (hp : inR n p) : stp (aft ns ms) p = stp ms (stp ns p) := by
  have e := (stp_at hn hp).1
  show ((ns.map (stp ms))[p.toNat]?).getD 0 = _
  rw [List.getElem?_map, e]
  rfl
theorem mv_n0 : ns = [] ∨ 0 < n := by
  rcases Int.lt_or_le 0 n with h | h
  · exact .inr h
  · left
    have := hn.len
    exact List.eq_nil_of_length_eq_zero (by omega)
theorem mv_ext {L : List Int} (hl : L.length = n.toNat) (h : ∀ k : Nat, (k : Int) < n → L[k]? = some (stp ns k)) : L = ns := by
  refine List.ext_getElem? fun k => ?_
  have ln := hn.len
  by_cases c : (k : Int) < n
  · rw [h k c, (stp_nat hn c).1]
  · rw [List.getElem?_eq_none (by omega), List.getElem?_eq_none (by omega)]
include hm
theorem aft_mv (n0 : 0 ≤ n) : IsMv (aft ns ms) n := by
  refine isMv_of n0 (by rw [aft_len]; exact hn.len) fun x x0 x1 => ?_
  obtain ⟨y, hy⟩ := List.getElem?_of_mem (hm.mem.mpr ⟨x0, x1⟩)
  have ly := hm.len
  have yl := (List.getElem?_eq_some_iff.mp hy).1
  have iy : inR n (y : Int) := ⟨by omega, by omega⟩
  refine List.mem_map.mpr ⟨(y : Int), hn.mem.mpr iy, ?_⟩
  exact Option.some.inj ((stp_nat hm iy.2).1.symm.trans hy)
end
theorem aft_assoc {a b c : List Int} {n : Int} (ha : IsMv a n) (hb : IsMv b n) : aft (aft a b) c = aft a (aft b c) := by
  unfold aft
  rw [List.map_map]
  refine List.map_congr_left fun x hx => ?_
  exact (stp_aft (ms := c) hb (ha.mem.mp hx)).symm
/-- ms undoes ns -/
def Undo (n : Int) (ns ms : List Int) : Prop := ∀ p, inR n p → stp ns (stp ms p) = p
theorem stp_rng {n p : Int} (h : inR n p) : stp (rngI n) p = p := by
  show ((rngI n)[p.toNat]?).getD 0 = p
  unfold rngI
  rw [List.getElem?_map, List.getElem?_range (by have := h.1; have := h.2; omega)]
  show ((p.toNat : Nat) : Int) = p
  have := h.1
  omega
theorem rng_mv {n : Int} : IsMv (rngI n) n := .refl _
section
variable {ns ms : List Int} {n : Int} (hn : IsMv ns n) (hm : IsMv ms n) (u : Undo n ns ms)
include hn hm u
theorem undo_swap : Undo n ms ns := fun p hp => stp_inj hn (stp_at hm (stp_at hn hp).2).2 hp (u (stp ns p) (stp_at hn hp).2)
theorem aft_undo : aft ms ns = rngI n := by
  refine mv_ext rng_mv (by rw [aft_len]; exact hm.len) fun k kn => ?_
  have ik : inR n (k : Int) := ⟨by omega, kn⟩
  rw [stp_rng ik]
  show (ms.map (stp ns))[k]? = _
  rw [List.getElem?_map, (stp_nat hm kn).1]
  exact congrArg some (u _ ik)
end
theorem undo_eq {ns a b : List Int} {n : Int} (hn : IsMv ns n) (ha : IsMv a n) (hb : IsMv b n) (ua : Undo n ns a) (ub : Undo n ns b) : a = b := by
  refine mv_ext hb ha.len fun k kn => ?_
  have ik : inR n (k : Int) := ⟨by omega, kn⟩
  rw [(stp_nat ha kn).1]
  exact congrArg some (stp_inj hn (stp_nat ha kn).2 (stp_nat hb kn).2 ((ua _ ik).trans (ub _ ik).symm))
theorem undo_aft {a b a' b' : List Int} {n : Int} (ha : IsMv a n) (hb : IsMv b n) (ha' : IsMv a' n) (hb' : IsMv b' n) (ua : Undo n a a') (ub : Undo n b b') : Undo n (aft a b) (aft b' a') := fun p hp => by
  have i1 := (stp_at hb' hp).2
  have i2 := (stp_at ha' i1).2
  rw [stp_aft hb' hp, stp_aft ha i2, ua _ i1]
  exact ub p hp
/-! ### tuple.index of ints -/
theorem index_look (ns : List Int) (n : Int) (hn : IsMv ns n) {p : Int} (hp : inR n p) : ∃ j : Nat, (j : Int) < n ∧ ns[j]? = some p ∧ ∀ m : Nat, m < j → ns[m]? ≠ some p := by
  obtain ⟨j, e, no⟩ := first_at (hn.mem.mpr hp)
  have := (List.getElem?_eq_some_iff.mp e).1
  have := hn.len
  exact ⟨j, by omega, e, no⟩
def rIndexT (K : PySem.W.Frag) : V → List V → Hp → VK → Prop := fun x xs H Q => ∃ (p : Addr) (ns : List Int) (k : Int) (j : Nat), x = .ref p ∧ xs = [.int k] ∧ SqT K H p (ns.map V.int) ∧ ns[j]? = some k ∧ (∀ m : Nat, m < j → ns[m]? ≠ some k) ∧ Q (.int (j : Nat)) H
theorem mt_indexTI {X : Cx} : MtR X "tuple.index" (rIndexT X.K) := by
  rintro pins s σ H x xs v us Q I rx rs ⟨p, ns, k, j, rfl, rfl, sq, at_, no, q⟩
  cases rx
  obtain ⟨u, rfl, t, rfl⟩ := vals1 rs
  obtain ⟨its, r, ⟨⟨cls, dd, dt, sl⟩, ho, hc, n, hd⟩, -⟩ := I.tuple sq
  change cls = _ at hc
  change dt = _ at hd
  subst hc hd
  have len : its.length = ns.length := by rw [← r.length, List.length_map]
  have size : its.toArray.size = ns.length := by rw [List.size_toArray, len]
  have jl : j < ns.length := (List.getElem?_eq_some_iff.mp at_).1
  have item : ∀ (m : Nat) (h : m < its.toArray.size), ∃ (y : Int) (t' : Tok), ns[m]? = some y ∧ its.toArray[m] = Value.int y t' := fun m h => by
    have h' : m < ns.length := size ▸ h
    obtain ⟨w, hw, t', rfl⟩ := r.get (i := m) (x := .int ns[m]) (by simp [h'])
    exact ⟨ns[m], t', List.getElem?_eq_getElem h', by simpa using (List.getElem?_eq_some_iff.mp hw).2⟩
  have flat : (ns.map V.int).all flatV = true := flat_ints ns
  refine call_meets PySem.F.slot_tuple_index ⟨_, ho, rfl⟩ PySem.F.entry_tuple_index (PySem.F.args_tuple_index_2 _ _) (TI.tuple_indexAt p its.toArray n dd sl (.int k t) (eqU (.int k)) j (size ▸ jl) ?_ ?_)
    ⟨ho, fun w hw => mem_eqAt (x := .int k) ⟨t, rfl⟩ rfl r flat w (by simpa using hw), ⟨.int (j : Nat), H, I.tok _, ⟨_, rfl⟩, q⟩⟩
  · obtain ⟨y, t', h1, h2⟩ := item j (size ▸ jl)
    cases at_.symm.trans h1
    rw [h2]
    show (k == k) = true
    simp
  · intro m hm mj
    obtain ⟨y, t', h1, h2⟩ := item m hm
    rw [h2]
    show (y == k) = false
    have : y ≠ k := fun e => no m mj (e ▸ h1)
    simpa using this
theorem mt_indexTIK {X : Cx} {K : PySem.W.Frag} (hk : X.K = K) : MtR X "tuple.index" (rIndexT K) := hk ▸ mt_indexTI
/-- a method of a built-in type, called in a comprehension's block -/
theorem pe_bmN {X : Cx} {K : PySem.W.Frag} {o a : Expr} {as : List Expr} {tx : TE} {u : TA} {m : Str} {ap cp : Pos} {T id : String} {r : V → List V → Hp → VK → Prop} (hk : X.K = K) (p1 : PlainAttrs T) (p2 : Slot T m id) (p3 : typeOf (.builtin id) = pure (.type "method_descriptor")) (p4 : MtR X id r)
    (p5 : PE X o tx) (p6 : PA X (a :: as) u) (p7 : attributeBase o m X.env (eval o X.env) = eval o X.env := by rfl)
    (p8 : ((backTo cp (starEach (a :: as) X.env)).all (fun x => !x.1) && (backToKw cp (keywordEach [] X.env)).all (fun x => x.1.isSome) && decide ((a :: as).length + ([] : List Keyword).length + (if ([] : List Keyword).isEmpty then 0 else 1) < 30)) = true := by rfl)
    (p9 : (ap.endLine == cp.line) = true := by rfl) (q1 : starEach (a :: as) X.env = (false, eval a X.env) :: starEach as X.env := by rfl) (q2 : (backTo cp (starEach as X.env)).any (·.1) = false := by rfl) : PE X (.Call (.Attribute o m ap) (a :: as) [] cp) (tBM K T r tx u) := by
  subst hk
  exact pe_bm p1 p2 p3 p4 p5 p6 p7 p8 p9 q1 q2
end Hd

namespace Hd
open PySem PySem.Spec PyProof.Rows L2
/-! ### sorted of tuples of ints, any number of them -/
def rowD (r : List Int) : PyData := .tuple (r.map PyData.int)
section
variable {prog : Program} {w : World} {A : Around} {E : Value → Shared → Prop} {s : Shared}
theorem lex_go {b fin : Bool} {Q : Bool → Shared → Prop} {xs ys : List Value} {ns ms : List Int} (i : Nat) (hx : IntsAre xs ns) (hy : IntsAre ys ms) (hf : fin = decide (ns.length < ms.length)) (h : Q (HT.lexLt ns ms) s) : PySem.W.KatLex prog w A b fin Q (xs.zip ys) i s := by
  induction hx generalizing ys ms i with
  | nil =>
    cases hy with
    | nil =>
      rw [HT.lexLt_nil_nil] at h
      have : fin = false := by rw [hf]; rfl
      rw [List.zip_nil_left, this]
      exact PySem.W.kat_nil h
    | cons q u hy =>
      rw [HT.lexLt_nil_cons] at h
      have : fin = true := by rw [hf]; exact decide_eq_true (by simp)
      rw [List.zip_nil_left, this]
      exact PySem.W.kat_nil h
  | @cons p t xs ns hx ih =>
    cases hy with
    | nil =>
      rw [HT.lexLt_cons_nil] at h
      have : fin = false := by rw [hf]; exact decide_eq_false (by simp)
      rw [List.zip_nil_right, this]
      exact PySem.W.kat_nil h
    | @cons q u ys ms hy =>
      show PySem.W.KatLex prog w A b fin Q ((Value.int p t, Value.int q u) :: xs.zip ys) i s
      rw [HT.lexLt_cons] at h
      refine PySem.W.kat_cons (wpAny_eqBool_int ?_)
      by_cases e : p = q
      · subst e
        rw [beq_self_eq_true]
        rw [if_pos rfl] at h
        have hf' : fin = decide (ns.length < ms.length) := by
          rw [hf]
          refine decide_eq_decide.mpr ?_
          simp
        exact PySem.W.kat_yes (ih (i + 1) hy hf' h)
      · rw [show (p == q) = false from beq_eq_false_iff_ne.mpr e]
        rw [if_neg e] at h
        exact PySem.W.kat_no (TS.oneLt_ints _ h)
theorem firsts_tups {h : Heap} {k : Value → List Int} : ∀ vs : List Value, (∀ v ∈ vs, TS.TupInts h v (k v)) → (∀ v ∈ vs, k v ≠ []) → ∃ fs, PySem.W.KatTups h vs fs ∧ fs.length = vs.length ∧ ∀ f, f ∈ fs → ∃ n t, f = Value.int n t
  | [], _, _ => ⟨[], PySem.W.KatTups.nil, rfl, fun f hf => by simp at hf⟩
  | v :: vs, x, d => by
    obtain ⟨fs, c, hl, hi⟩ := firsts_tups vs (fun u hu => x u (List.mem_cons_of_mem _ hu)) fun u hu => d u (List.mem_cons_of_mem _ hu)
    have hn := d v List.mem_cons_self
    obtain ⟨a, xs, rfl, ⟨o, ho, hc, n, hdt⟩, i⟩ := x v List.mem_cons_self
    obtain ⟨y, ys, e⟩ : ∃ y ys, xs.toList = y :: ys := by
      cases q : xs.toList with
      | nil =>
        rw [q] at i
        have l := i.length
        rw [List.length_nil] at l
        exact absurd (List.eq_nil_of_length_eq_zero l.symm) hn
      | cons y ys => exact ⟨y, ys, rfl⟩
    obtain ⟨m, t, hy⟩ := i.all y (by rw [e]; exact List.mem_cons_self ..)
    refine ⟨y :: fs, PySem.W.KatTups.cons ho hc hdt ?_ c, by simp [hl], ?_⟩
    · have z := congrArg (fun l : List Value => l[0]?) e
      simpa using z
    · intro f hf
      rcases List.mem_cons.mp hf with rfl | hf
      · exact ⟨m, t, hy⟩
      · exact hi f hf
theorem tups_sortable {a : Addr} {vs : List Value} {k : Value → List Int} (h2 : 2 ≤ vs.length) (hd : ∀ v ∈ vs, k v ≠ []) (hp : ∀ v ∈ vs, TS.TupInts s.heap v (k v)) (ha : ∀ o, s.heap.get? a = some o → o.cls ≠ .type "tuple") :
    SrtO.SortableO prog w A s a vs fun v u => HT.lexLt (k v) (k u) := by
  intro h' keep
  have hp' : ∀ v ∈ vs, TS.TupInts h' v (k v) := fun v hm => (hp v hm).keeps fun b o e c => keep b o (fun z => by subst z; exact ha o e c) e
  obtain ⟨fs, h1, h3, h4⟩ := firsts_tups vs hp' hd
  refine ⟨tuples' true, fun Q E hq => ?_, ?_⟩
  · refine PySem.W.kat_kind (T := .type "int") h1 (by omega) (fun f hm => ?_) (by rfl) ?_
    · obtain ⟨x, t, rfl⟩ := h4 f hm
      exact PySem.W.Looks.now
    · have e : (Value.type "int" != Value.type "tuple") = true := by first | decide +kernel | rfl | decide
      rw [e]
      exact hq
  · intro p q hm hm'
    show wpAny (model prog w) A (keyLt' (tuples' true) p.1 q.1) (fun r s' => s' = { s with heap := h' } ∧ r = HT.lexLt (k p.1) (k q.1)) (fun _ _ => False) { s with heap := h' }
    obtain ⟨a1, xs, e1, ⟨o, ho, hc, n, hdt⟩, i1⟩ := hp' _ hm
    obtain ⟨a2, ys, e2, ⟨o', ho', hc', n', hdt'⟩, i2⟩ := hp' _ hm'
    generalize k p.1 = ns at i1 ⊢
    generalize k q.1 = ms at i2 ⊢
    rw [e1, e2]
    refine PySem.W.kat_lt ho hdt ho' hdt' (lex_go 0 i1 i2 ?_ ⟨rfl, rfl⟩)
    have l1 := i1.length
    have l2 := i2.length
    rw [Array.length_toList] at l1 l2
    rw [l1, l2]
end
/-- the ints of the tuple that the heap tells of -/
def kH (H : Hp) : V → List Int
  | .ref a => match H a with
    | some (.tup xs) => xs.map intV
    | _ => []
  | _ => []
theorem kH_row {H : Hp} {v : V} {r : List Int} (h : Da H v (rowD r)) : kH H v = r := by
  unfold rowD at h
  cases h with
  | tup ha dx =>
    obtain rfl := vals_int dx
    simp only [kH, ha]
    exact map_intV r
theorem kH_da {H : Hp} {v : V} {r : List Int} (h : Da H v (rowD r)) : Da H v (rowD (kH H v)) := by rw [kH_row h]; exact h
theorem rows_kH {H : Hp} : ∀ {xs : List V} {Ls : List (List Int)}, DaAll H xs (Ls.map rowD) → Ls = xs.map (kH H)
  | _, [], .nil => rfl
  | _, r :: Ls, .cons h t => by
    rw [List.map_cons, kH_row h, ← rows_kH t]
theorem rows_mem {H : Hp} : ∀ {xs : List V} {Ls : List (List Int)}, DaAll H xs (Ls.map rowD) → ∀ x ∈ xs, Da H x (rowD (kH H x))
  | _, [], .nil, x, hx => by cases hx
  | _, r :: Ls, .cons h t, x, hx => by
    rcases List.mem_cons.mp hx with rfl | hx
    · exact kH_da h
    · exact rows_mem t x hx
theorem rows_of {H : Hp} : ∀ {xs : List V}, (∀ x ∈ xs, Da H x (rowD (kH H x))) → DaAll H xs ((xs.map (kH H)).map rowD)
  | [], _ => .nil
  | x :: xs, h => .cons (h x List.mem_cons_self) (rows_of fun y hy => h y (List.mem_cons_of_mem _ hy))
theorem rows_ref {H : Hp} {x : V} {r : List Int} (h : Da H x (rowD r)) : ∃ t, x = .ref t ∧ H t = some (.tup (r.map V.int)) := by
  unfold rowD at h
  cases h with
  | tup ha dx =>
    obtain rfl := vals_int dx
    exact ⟨_, rfl, ha⟩
/-- sorted of rows: what comes of it -/
def SortedTo (H : Hp) (xs : List V) (Ls : List (List Int)) (Q : VK) : Prop := ∀ (ys : List V) (Ms : List (List Int)) (p : Addr) (H2 : Hp), DaAll H ys (Ms.map rowD) → Ms.Perm Ls → Ms.Pairwise (fun x y => HT.lexLt y x = false) → New H p (.lst ys) H2 → Q (.ref p) H2
def rSortR (K : PySem.W.Frag) : List V → Hp → VK → Prop := fun vs H Q => ∃ (a : Addr) (xs : List V) (Ls : List (List Int)), vs = [V.ref a] ∧ (SqL K H a xs) ∧ DaAll H xs (Ls.map rowD) ∧ (2 ≤ Ls.length → ∀ l ∈ Ls, l ≠ []) ∧ SortedTo H xs Ls Q
section
variable {X : Cx}
theorem tup_raw {pins : List (Addr × Obj)} {σ : L2.St} {H : Hp} {s : Shared} (I : Inv X pins σ H s) {t : Addr} {ns : List Int} (h : H t = some (.tup (ns.map V.int))) : TS.TupInts s.heap (.ref t) ns := by
  obtain ⟨_, its, rv, o, ho, hc, n, hd⟩ := I.hok t _ h
  exact ⟨t, its.toArray, rfl, ⟨o, ho, hc, n, hd⟩, rv.ints⟩
theorem call_sortR : CallR X (.builtin "sorted") (rSortR X.K) := by
  intro pins s σ H vs us Q I r h
  obtain ⟨a, xs, Ls, rfl, hs, hx, ne, q⟩ := h
  obtain ⟨its, rv, hl, hz⟩ := I.list hs
  rw [Vals.ref1 r]
  have hm := rows_mem hx
  obtain ⟨e1, e2⟩ := refs_back rv fun x m => by
    obtain ⟨t, e, _⟩ := rows_ref (hm x m)
    exact ⟨t, e⟩
  have eL := rows_kH hx
  have lL : Ls.length = its.length := by rw [eL, List.length_map, e1, List.length_map]
  have keys : ∀ v ∈ its, Da H (backV v) (rowD (kH H (backV v))) := fun v hv => hm _ (by rw [e1]; exact List.mem_map.mpr ⟨_, hv, rfl⟩)
  refine SrtO.sorted_ord (NtL.swo_lexL fun u => kH H (backV u)) hl.isList (by rw [← rv.length]; exact hz) (fun h2 h₁ b ha kk => ?_) fun out h1 h2 => ?_
  · refine tups_sortable (s := { s with heap := h₁ }) h2 (fun v hv => ?_) (fun v hv => ?_) fun o e => ?_
    · refine ne (by omega) _ ?_
      rw [eL, e1, List.map_map]
      exact List.mem_map.mpr ⟨v, hv, rfl⟩
    · obtain ⟨t, e, ht⟩ := rows_ref (keys v hv)
      obtain ⟨c, rfl⟩ := e2 v hv
      cases e
      exact (tup_raw I ht).keeps fun b o e _ => (kk b o e).2
    · have e' : some o = some (seqObj "list" its.toArray 0) := e.symm.trans ha
      cases e'
      intro c
      exact absurd (Value.type.inj c) (by decide)
  · have h3 : ∀ u ∈ out, ∃ a, u = Value.ref a := fun u hu => e2 u (h2.perm.mem_iff.mp hu)
    obtain ⟨n, hn⟩ := PyProof.Rows.sortedAll_at s.heap its out.toArray
    have pm : (out.map backV).Perm xs := by rw [e1]; exact h2.perm.map _
    have hlen : (out.map backV).length ≤ sizeLine := by rw [pm.length_eq]; exact hz
    refine ⟨.ref _, upd H (s.heap.objs.size + 1) (.lst (out.map backV)), I.laid (t' := s.toks) (fun _ _ => PyProof.Rows.sortedAll_old) (Nat.le_succ _) ⟨hlen, out, n, vals_back h3, hn⟩, rfl, q (out.map backV) ((out.map backV).map (kH H)) _ _ (rows_of fun x hx' => hm x (pm.mem_iff.mp hx')) ?_ ?_ ⟨I.hok.fresh (Nat.le_succ _), rfl⟩⟩
    · rw [eL]
      exact pm.map _
    · rw [List.map_map]
      exact List.pairwise_map.mpr h1
/-- sorted of a dict with such keys -/
def keyL (r : List Int) : List L2.Key := r.map Sum.inl
theorem keyL_kV (r : List Int) : (keyL r).map kV = r.map V.int := by
  unfold keyL
  rw [List.map_map]
  rfl
theorem keyL_inj {a b : List Int} (e : keyL a = keyL b) : a = b := by
  have := congrArg (List.map kV) e
  rw [keyL_kV, keyL_kV] at this
  have z := congrArg (List.map intV) this
  rwa [map_intV, map_intV] at z
def rSortDT : List V → Hp → VK → Prop := fun vs H Q => ∃ (a : Addr) (kvs : List (List L2.Key × V)) (Ls : List (List Int)), vs = [V.ref a] ∧ H a = some (.dT kvs) ∧ kvs.map (·.1) = Ls.map keyL ∧ (2 ≤ Ls.length → ∀ l ∈ Ls, l ≠ []) ∧
  ∀ (ys : List V) (Ms : List (List Int)) (p : Addr) (H2 : Hp), DaAll H ys (Ms.map rowD) → Ms.Perm Ls → Ms.Pairwise (fun x y => HT.lexLt y x = false) → New H p (.lst ys) H2 → Q (.ref p) H2
theorem keys_rows {H : Hp} : ∀ {kvs : List (List L2.Key × V)} {xs : List (List L2.Key × Addr × Value)} {Ls : List (List Int)}, KT H kvs xs → kvs.map (·.1) = Ls.map keyL → DaAll H (xs.map fun x => V.ref x.2.1) (Ls.map rowD)
  | _, _, [], .nil, _ => .nil
  | _, _, _ :: _, .nil, e => by cases e
  | _, _, [], .cons _ _, e => by cases e
  | _, _, r :: Ls, .cons h t, e => by
    rw [List.map_cons, List.map_cons] at e
    injection e with e1 e2
    refine .cons ?_ (keys_rows t e2)
    refine .tup (xs := r.map V.int) ?_ (DaAll.ints r)
    rw [h.2.1, e1, keyL_kV]
theorem call_sortDT (hc : X.calm = true) : CallR X (.builtin "sorted") rSortDT := by
  intro pins s σ H vs us Q I r h
  obtain ⟨d, kvs, Ls, rfl, hd, ek, ne, q⟩ := h
  obtain ⟨u, rfl, rx⟩ := r.one
  cases rx
  obtain ⟨z, hs, ks, pr, o, es, ep, ho, hx, hdt, he, hn⟩ := (show ObjOk X.prog X.w H s.heap d (.dT kvs) from I.hok d _ hd)
  have l1 : es.size = ks.length := size_of_entries he
  have l2 : kvs.length = ks.length := Paired.length pr
  have hr := keys_rows pr ek
  have hm := rows_mem hr
  have eL := rows_kH hr
  refine Calls.call_function_entry kind_sorted plain_sorted entry_sorted (args_sorted1 _) ?_
  unfold Builtin.«sorted»
  refine wpAny_bind (m := checkCount "sorted" 1 1 _) (wpAny_pure ?_)
  refine wpAny_bind (PySem.W.kdu_collect (kdl_raw hs hx hdt) (I.ok.hd hc) ho (by omega) fun h' tk acc kp it => ?_)
  have ea : acc.toList = ks.map fun x => Value.ref x.2.1 := by
    have hl : acc.toList.length = ks.length := by rw [Array.length_toList, it.1]; exact l1
    apply List.ext_getElem?
    intro j
    rw [List.getElem?_map]
    cases hj : acc.toList[j]? with
    | none =>
      have h1 := List.getElem?_eq_none_iff.mp hj
      rw [List.getElem?_eq_none (by omega)]
      all_goals rfl
    | some v =>
      obtain ⟨en, hen, hv⟩ := it.2 j v (by rw [← Array.getElem?_toList]; exact hj)
      have qe := entry_at he j
      rw [hen] at qe
      cases hb : ks[j]? with
      | none =>
        rw [hb] at qe
        exact nomatch (show some en = none from qe)
      | some b =>
        rw [hb] at qe
        have e2 : en = entryOfKey (tupleKind (mixKind X.prog X.w)) b := Option.some.inj qe
        rw [hv, e2]
        all_goals rfl
  generalize eits : acc.toList = its at ea ⊢
  have ex : (ks.map fun x => V.ref x.2.1) = its.map backV := by
    rw [ea, List.map_map]
    rfl
  have e2 : ∀ u ∈ its, ∃ a, u = Value.ref a := fun u hu => by
    rw [ea] at hu
    obtain ⟨x, _, rfl⟩ := List.mem_map.mp hu
    exact ⟨_, rfl⟩
  have li : its.length = ks.length := by rw [ea, List.length_map]
  have lL : Ls.length = its.length := by rw [eL, List.length_map, List.length_map, li]
  have I1 : Inv X pins σ H { s with heap := h', toks := tk } := I.kept kp
  refine wpAny_bind (wpAny_newList ?_ (by omega))
  have here : (h'.push (seqObj "list" its.toArray 0)).get? h'.objs.size = some (seqObj "list" its.toArray 0) := Heap.get?_push_size _ rfl
  show wpAny _ _ _ _ _ { s with heap := h'.push (seqObj "list" its.toArray 0), toks := tk }
  have keys : ∀ v ∈ its, Da H (backV v) (rowD (kH H (backV v))) := fun v hv => hm _ (by rw [ex]; exact List.mem_map.mpr ⟨_, hv, rfl⟩)
  refine wpAny_bind (wpAny_holding (wpAny_call_entry slot_list_sort ⟨_, here, rfl⟩ entry_list_sort
    (SrtO.list_sort_ord (s := { s with heap := h'.push (seqObj "list" its.toArray 0), toks := tk }) (NtL.swo_lexL fun u => kH H (backV u)) here (by omega) (fun h2 => ?_) fun out h1 h2 => ⟨_, rfl, ?_⟩) (args_list_sort _)))
  · refine tups_sortable h2 (fun v hv => ?_) (fun v hv => ?_) fun o e => ?_
    · refine ne (by omega) _ ?_
      rw [eL, ex, List.map_map]
      exact List.mem_map.mpr ⟨v, hv, rfl⟩
    · obtain ⟨t, e, ht⟩ := rows_ref (keys v hv)
      obtain ⟨c, rfl⟩ := e2 v hv
      cases e
      exact (tup_raw I1 ht).keeps fun b o e _ => Heap.get?_push_of_some _ e
    · have e' : some o = some (seqObj "list" its.toArray 0) := e.symm.trans here
      cases e'
      intro c
      exact absurd (Value.type.inj c) (by decide)
  · have h3 : ∀ u ∈ out, ∃ a, u = Value.ref a := fun u hu => e2 u (h2.perm.mem_iff.mp hu)
    obtain ⟨n, hn⟩ := PyProof.Rows.sortedHeap_at (vs := its) (out := out.toArray) here
    have pm : (out.map backV).Perm (ks.map fun x => V.ref x.2.1) := by rw [ex]; exact h2.perm.map _
    have hlen : (out.map backV).length ≤ sizeLine := by rw [pm.length_eq, List.length_map]; omega
    refine wpAny_pure ⟨_, rfl, ⟨.ref _, upd H h'.objs.size (.lst (out.map backV)), I1.laid (t' := tk) (fun b o e => ?_) (Nat.le_refl _) ⟨hlen, out, n, vals_back h3, hn⟩, rfl, q (out.map backV) ((out.map backV).map (kH H)) _ _ (rows_of fun x hx' => hm x (pm.mem_iff.mp hx')) ?_ ?_ ⟨I1.hok.fresh (Nat.le_refl _), rfl⟩⟩⟩
    · have lt := Heap.lt_size e
      rw [PyProof.Rows.sortedHeap_old (Nat.ne_of_lt lt) (by rw [size_push']; exact Nat.lt_succ_of_lt lt)]
      exact Heap.get?_push_of_some _ e
    · rw [eL]
      exact pm.map _
    · rw [List.map_map]
      exact List.pairwise_map.mpr h1
end
end Hd

namespace Hd
open PySem PySem.Spec PyProof.Rows L2
/-! ### rows reached by doing moves in turn -/
inductive Rch (T : List (List Int)) (r : List Int) : List Int → Prop
  | base : Rch T r r
  | step {w m : List Int} : Rch T r w → m ∈ T → Rch T r (aft w m)
def AllMv (n : Int) (T : List (List Int)) : Prop := ∀ m ∈ T, IsMv m n
def RowIn (n : Int) (w : List Int) : Prop := ∀ p ∈ w, inR n p
theorem RowIn.aft {n : Int} {w m : List Int} (h : RowIn n w) (hm : IsMv m n) : RowIn n (aft w m) := fun p hp => by
  obtain ⟨q, hq, rfl⟩ := List.mem_map.mp hp
  exact (stp_at hm (h q hq)).2
theorem IsMv.row {n : Int} {m : List Int} (h : IsMv m n) : RowIn n m := fun p hp => h.mem.mp hp
section
variable {n : Int} {T : List (List Int)} {r : List Int}
theorem Rch.row (hT : AllMv n T) (h : RowIn n r) {w : List Int} (c : Rch T r w) : RowIn n w ∧ w.length = r.length := by
  induction c with
  | base => exact ⟨h, rfl⟩
  | step _ hm ih => exact ⟨ih.1.aft (hT _ hm), by rw [aft_len]; exact ih.2⟩
theorem Rch.mono {T' : List (List Int)} (h : ∀ m ∈ T, m ∈ T') {w : List Int} (c : Rch T r w) : Rch T' r w := by
  induction c with
  | base => exact .base
  | step _ hm ih => exact .step ih (h _ hm)
end
abbrev Mk' (n : Int) (T : List (List Int)) (w : List Int) : Prop := Rch T (rngI n) w
theorem aft_rng {w : List Int} {n : Int} (h : RowIn n w) : aft w (rngI n) = w := by
  unfold aft
  have : w.map (stp (rngI n)) = w.map id := List.map_congr_left fun x hx => stp_rng (h x hx)
  rw [this, List.map_id]
theorem rng_aft {m : List Int} {n : Int} (h : IsMv m n) : aft (rngI n) m = m := by
  refine mv_ext h (by rw [aft_len, rngI_len]) fun k kn => ?_
  unfold aft rngI
  rw [List.map_map, List.getElem?_map, List.getElem?_range (by omega)]
  rfl
section
variable {n : Int} {T : List (List Int)}
theorem made_mv (n0 : 0 ≤ n) (hT : AllMv n T) {w : List Int} (c : Mk' n T w) : IsMv w n := by
  induction c with
  | base => exact rng_mv
  | step _ hm ih => exact aft_mv ih (hT _ hm) n0
theorem made_told (hT : AllMv n T) {m : List Int} (h : m ∈ T) : Mk' n T m := by
  have := Rch.step (Rch.base (T := T) (r := rngI n)) h
  rwa [rng_aft (hT _ h)] at this
theorem made_comp (n0 : 0 ≤ n) (hT : AllMv n T) {a b : List Int} (ca : Mk' n T a) (cb : Mk' n T b) : Mk' n T (aft a b) := by
  induction cb with
  | base => rw [aft_rng (made_mv n0 hT ca).row]; exact ca
  | @step w m cw hm ih =>
    rw [← aft_assoc (made_mv n0 hT ca) (made_mv n0 hT cw)]
    exact .step ih hm
theorem made_sub {T' : List (List Int)} (n0 : 0 ≤ n) (hT : AllMv n T) (h : ∀ m ∈ T', Mk' n T m) {w : List Int} (c : Mk' n T' w) : Mk' n T w := by
  induction c with
  | base => exact .base
  | step _ hm ih => exact made_comp n0 hT ih (h _ hm)
end
/-! ### lists in order -/
theorem lex_irr (xs : List Int) : HT.lexLt xs xs = false := by
  cases e : HT.lexLt xs xs with
  | false => rfl
  | true => rw [NtL.lex_asym xs xs e] at e; cases e
theorem lex_tri : ∀ xs ys : List Int, HT.lexLt xs ys = false → HT.lexLt ys xs = false → xs = ys
  | [], [], _, _ => rfl
  | [], y :: ys, h, _ => by rw [HT.lexLt_nil_cons] at h; cases h
  | x :: xs, [], _, h => by rw [HT.lexLt_nil_cons] at h; cases h
  | x :: xs, y :: ys, h1, h2 => by
    rw [HT.lexLt_cons] at h1 h2
    by_cases e : x = y
    · subst e
      rw [if_pos rfl] at h1 h2
      rw [lex_tri xs ys h1 h2]
    · rw [if_neg e] at h1
      rw [if_neg (Ne.symm e)] at h2
      have a := of_decide_eq_false h1
      have b := of_decide_eq_false h2
      omega
theorem lex_trans {a b c : List Int} (h1 : HT.lexLt a b = true) (h2 : HT.lexLt b c = true) : HT.lexLt a c = true := by
  cases e : HT.lexLt a c with
  | true => rfl
  | false =>
    have := NtL.lex_tr b c a (NtL.lex_asym _ _ h2) e
    rw [h1] at this
    cases this
/-- ascending, no two alike -/
def Asc (L : List (List Int)) : Prop := L.Pairwise fun x y => HT.lexLt x y = true
theorem asc_of : ∀ {L : List (List Int)}, L.Pairwise (fun x y => HT.lexLt y x = false) → L.Nodup → Asc L
  | [], _, _ => .nil
  | x :: L, h, nd => by
    obtain ⟨h1, h2⟩ := List.pairwise_cons.mp h
    obtain ⟨n1, n2⟩ := List.nodup_cons.mp nd
    refine List.pairwise_cons.mpr ⟨fun y hy => ?_, asc_of h2 n2⟩
    cases e : HT.lexLt x y with
    | true => rfl
    | false => exact absurd (lex_tri _ _ e (h1 y hy) ▸ hy) n1
theorem Asc.nodup {L : List (List Int)} (h : Asc L) : L.Nodup := List.Pairwise.imp (fun {a b} (e : HT.lexLt a b = true) z => by rw [z, lex_irr] at e; cases e) h
theorem asc_eq : ∀ {L M : List (List Int)}, Asc L → Asc M → (∀ x, x ∈ L ↔ x ∈ M) → L = M
  | [], [], _, _, _ => rfl
  | [], y :: M, _, _, h => absurd ((h y).mpr List.mem_cons_self) (by simp)
  | x :: L, [], _, _, h => absurd ((h x).mp List.mem_cons_self) (by simp)
  | x :: L, y :: M, hl, hm, h => by
    obtain ⟨l1, l2⟩ := List.pairwise_cons.mp hl
    obtain ⟨m1, m2⟩ := List.pairwise_cons.mp hm
    have e : x = y := by
      rcases List.mem_cons.mp ((h x).mp List.mem_cons_self) with e | hx
      · exact e
      · rcases List.mem_cons.mp ((h y).mpr List.mem_cons_self) with e | hy
        · exact e.symm
        · have a := m1 x hx
          have b := l1 y hy
          rw [NtL.lex_asym _ _ a] at b
          cases b
    subst e
    have nx : x ∉ L := fun z => by have := l1 x z; rw [lex_irr] at this; cases this
    have ny : x ∉ M := fun z => by have := m1 x z; rw [lex_irr] at this; cases this
    rw [asc_eq l2 m2 fun z => ?_]
    constructor
    · intro hz
      rcases List.mem_cons.mp ((h z).mp (List.mem_cons_of_mem _ hz)) with e | k
      · rw [e] at hz; exact absurd hz nx
      · exact k
    · intro hz
      rcases List.mem_cons.mp ((h z).mpr (List.mem_cons_of_mem _ hz)) with e | k
      · rw [e] at hz; exact absurd hz ny
      · exact k
/-- L: all that is made, in order -/
structure Grp (n : Int) (T L : List (List Int)) : Prop where
  asc : Asc L
  mem : ∀ w, w ∈ L ↔ Mk' n T w
theorem Grp.uniq {n : Int} {T L M : List (List Int)} (a : Grp n T L) (b : Grp n T M) : L = M := asc_eq a.asc b.asc fun x => (a.mem x).trans (b.mem x).symm
theorem Grp.of_perm {n : Int} {T L Ks : List (List Int)} (nd : Ks.Nodup) (mem : ∀ w, w ∈ Ks ↔ Mk' n T w) (pm : L.Perm Ks) (so : L.Pairwise fun x y => HT.lexLt y x = false) : Grp n T L := ⟨asc_of so ((List.Perm.nodup_iff pm).mpr nd), fun w => (List.Perm.mem_iff pm).trans (mem w)⟩
theorem Grp.like {n : Int} {T T' L : List (List Int)} (n0 : 0 ≤ n) (hT : AllMv n T) (hT' : AllMv n T') (h : ∀ m ∈ T, Mk' n T' m) (h' : ∀ m ∈ T', Mk' n T m) (g : Grp n T L) : Grp n T' L := ⟨g.asc, fun w => (g.mem w).trans ⟨made_sub n0 hT' h, made_sub n0 hT h'⟩⟩
theorem Grp.still {n : Int} {T L : List (List Int)} (g : Grp n T L) : rngI n ∈ L := (g.mem _).mpr .base
theorem Grp.none {n : Int} : Grp n [] [rngI n] := ⟨List.pairwise_singleton _ _, fun w => ⟨fun h => by rw [List.mem_singleton.mp h]; exact .base, fun h => by
  cases h with
  | base => exact List.mem_singleton.mpr rfl
  | step _ hm => cases hm⟩⟩
theorem len_sub : ∀ {K L : List (List Int)}, K.Nodup → (∀ w ∈ K, w ∈ L) → K.length ≤ L.length
  | [], L, _, _ => Nat.zero_le _
  | x :: K, L, nd, h => by
    obtain ⟨n1, n2⟩ := List.nodup_cons.mp nd
    have hx := h x List.mem_cons_self
    have := len_sub (K := K) (L := L.erase x) n2 fun w hw => (List.mem_erase_of_ne fun e => n1 (by rw [← e]; exact hw)).mpr (h w (List.mem_cons_of_mem _ hw))
    rw [List.length_erase_of_mem hx] at this
    have := List.length_pos_of_mem hx
    rw [List.length_cons]
    omega
/-- closed under the moves: then it is all that is reached -/
theorem rch_all {T : List (List Int)} {r : List Int} {K : List (List Int)} (hb : r ∈ K) (hc : ∀ w ∈ K, ∀ m ∈ T, aft w m ∈ K) {w : List Int} (c : Rch T r w) : w ∈ K := by
  induction c with
  | base => exact hb
  | step _ hm ih => exact hc _ ih _ hm
end Hd

namespace Hd
open PySem PySem.Spec PyProof.Rows L2
theorem u65 {k : Nat} {A : Around} (r : Room k A) : A.units + 65 < cLine := by
  have := r.un
  omega
/-! ### a walk that is one of two -/
def iOr (a b : TI) : TI := fun σ H R => a σ H R ∨ b σ H R
theorem pi_or {X : Cx} {tg e : Expr} {a b : TI} (ha : PI X tg e a) (hb : PI X tg e b) : PI X tg e (iOr a b) := ⟨fun pins s σ H R I h => h.elim (fun h => ha.run pins s σ H R I h) fun h => hb.run pins s σ H R I h⟩
/-- a for over enumerate(tuple) -/
theorem for_enumT {K : PySem.W.Frag} {a : Addr} {xs : List V} {g : TG} {tb : TS} {D : Ends} {σ : L2.St} {H : Hp} (Pv : Nat → L2.St → Hp → Prop) (h0 : Pv 0 σ H) (hl : ∀ i σ H, i ≤ xs.length → Pv i σ H → SqT K H a xs)
    (hs : ∀ i x T σ H H', xs[i]? = some x → Pv i σ H → New H T (.tup [.int (i : Nat), x]) H' → g (.ref T) σ H' fun σ2 H2 => tb { D with nx := Pv (i + 1), ct := Pv (i + 1), bk := D.nx } σ2 H2) (hd : ∀ σ H, Pv xs.length σ H → D.nx σ H) :
    ∃ W : Nat → Nat → L2.St → Hp → Prop, (∃ m, W 0 m σ H) ∧ ∀ i m σ H, W i m σ H →
      ((Ete K a).stop i H ∧ D.nx σ H) ∨ ((Ete K a).go i H ∧ ∃ N : L2.St → Hp → Prop, (∀ σ' H', N σ' H' → ∃ m', m' < m ∧ W (i + 1) m' σ' H') ∧ ∀ x H', (Ete K a).yld i H x H' → g x σ H' fun σ2 H2 => tb { D with nx := N, ct := N, bk := D.nx } σ2 H2) := by
  refine ⟨fun i m σ H => m = xs.length - i ∧ i ≤ xs.length ∧ Pv i σ H, ⟨xs.length, by simp, Nat.zero_le _, h0⟩, ?_⟩
  rintro i m σ H ⟨rfl, hi, p⟩
  have q := hl i σ H hi p
  by_cases hlt : i < xs.length
  · refine .inr ⟨⟨xs, xs[i], q, List.getElem?_eq_getElem hlt⟩, Pv (i + 1), fun σ' H' p' => ⟨xs.length - (i + 1), by omega, rfl, hlt, p'⟩, ?_⟩
    rintro v H' ⟨T, x, rfl, nT, k⟩
    exact hs i x T σ H H' (k xs q) p nT
  · have e : i = xs.length := by omega
    subst e
    exact .inl ⟨⟨xs, q, Nat.le_refl _⟩, hd σ H p⟩
theorem for_enumL {K : PySem.W.Frag} {a : Addr} {xs : List V} {g : TG} {tb : TS} {D : Ends} {σ : L2.St} {H : Hp} (Pv : Nat → L2.St → Hp → Prop) (h0 : Pv 0 σ H) (hl : ∀ i σ H, i ≤ xs.length → Pv i σ H → SqL K H a xs)
    (hs : ∀ i x T σ H H', xs[i]? = some x → Pv i σ H → New H T (.tup [.int (i : Nat), x]) H' → g (.ref T) σ H' fun σ2 H2 => tb { D with nx := Pv (i + 1), ct := Pv (i + 1), bk := D.nx } σ2 H2) (hd : ∀ σ H, Pv xs.length σ H → D.nx σ H) :
    ∃ W : Nat → Nat → L2.St → Hp → Prop, (∃ m, W 0 m σ H) ∧ ∀ i m σ H, W i m σ H →
      ((Ite K a).stop i H ∧ D.nx σ H) ∨ ((Ite K a).go i H ∧ ∃ N : L2.St → Hp → Prop, (∀ σ' H', N σ' H' → ∃ m', m' < m ∧ W (i + 1) m' σ' H') ∧ ∀ x H', (Ite K a).yld i H x H' → g x σ H' fun σ2 H2 => tb { D with nx := N, ct := N, bk := D.nx } σ2 H2) := by
  refine ⟨fun i m σ H => m = xs.length - i ∧ i ≤ xs.length ∧ Pv i σ H, ⟨xs.length, by simp, Nat.zero_le _, h0⟩, ?_⟩
  rintro i m σ H ⟨rfl, hi, p⟩
  have q := hl i σ H hi p
  by_cases hlt : i < xs.length
  · refine .inr ⟨⟨xs, xs[i], q, List.getElem?_eq_getElem hlt⟩, Pv (i + 1), fun σ' H' p' => ⟨xs.length - (i + 1), by omega, rfl, hlt, p'⟩, ?_⟩
    rintro v H' ⟨T, x, rfl, nT, eT, k⟩
    exact hs i x T σ H H' (k xs q) p ⟨nT, eT⟩
  · have e : i = xs.length := by omega
    subst e
    exact .inl ⟨⟨xs, q, Nat.le_refl _⟩, hd σ H p⟩
/-! ### defs with defaults, all arguments given -/
def DefD (K : PySem.W.Frag) (mg : Str → Option Value) (x : Str) (st : Stmt) (ps : List Str) : Prop :=
  ∃ f fd dvs, FunD K x x (defArgs st) (defBody st) (defScope st) dvs [] f fd ∧ mg x = some (.ref f) ∧ Binds K fd ps []
section
variable {P : Program} {w : World} {K : PySem.W.Frag} {mg : Str → Option Value} {base : Heap} {x : Str} {st : Stmt} {ps N : List Str} {k : Nat} {sp : Sp}
theorem DefD.calX (D : DefD K mg x st ps) (S : FnScope N ps (defScope st)) (len : ∀ vs H Q E, sp vs H Q E → vs.length = ps.length)
    (hbody : ∀ (f : Addr) (cdv : Value) (A : Around) (outer : List Env) (s : Shared) (H : Hp) (vs : List V) (Q : VK) (E : XK), Room k (A.deeper (envOfC x (defScope st) s.heap.objs.size f cdv)) → sp vs H Q E →
      ∃ t, PSs (cxOf (L2N.CX P w) P w K mg base N x (defScope st) f cdv A outer s H E) (defBody st) t ∧ t { nx := fun _ H' => Q .non H', rt := Q } (start N vs) H) : CalX P w K mg base x (k + 1) ps sp := by
  obtain ⟨f, fd, dvs, F, g, b⟩ := D
  exact ⟨f, fd, F.ok S len fun cdv A outer s H vs Q E hr h => hbody f cdv A outer s H vs Q E hr h, g, F.kp, b⟩
end
theorem dfl_one {K : PySem.W.Frag} {T : Addr} {o : Obj} {u : Value} {v : V} {n : Nat} (l : K.lookup T = some o) (d : o.data = .seq #[u] n) (r : RelV v u) : DflV K (.ref T) [v] := .inr ⟨by simp, T, o, [u], n, rfl, l, d, .cons r .nil⟩
theorem funD_mk {K : PySem.W.Frag} {x qual : Str} {st : Stmt} {f T : Addr} {oc u : Value} {o : Obj} {n : Nat} {od an : Option Addr} {osl : Array (Option Value)} {kV doc pm cdv ct : Value} {v : V}
    (l : K.lookup f = some ⟨oc, od, .func (PySem.W.fnOf x qual (defArgs st) (defBody st) (defScope st) (.ref T) kV doc pm an cdv ct), osl⟩) (c : PySem.W.codeIn K cdv qual = true) (k : PySem.W.keepIn K (.ref f) = true)
    (lT : K.lookup T = some o) (d : o.data = .seq #[u] n) (r : RelV v u) : FunD K x qual (defArgs st) (defBody st) (defScope st) [v] [] f (PySem.W.fnOf x qual (defArgs st) (defBody st) (defScope st) (.ref T) kV doc pm an cdv ct) :=
  ⟨⟨oc, od, .ref T, kV, doc, pm, an, cdv, ct, osl, rfl, l, c, dfl_one lT d r, .inl rfl⟩, k⟩
theorem bindsD {K : PySem.W.Frag} {x qual : Str} {st : Stmt} {v : V} {f : Addr} {fd : FuncData} {ps : List Str} (F : FunD K x qual (defArgs st) (defBody st) (defScope st) [v] [] f fd)
    (h : ∀ (T : Addr) (kV doc pm : Value) (an : Option Addr) (cdv ct : Value) (us its : List Value), us.length = ps.length → its.length = 1 →
      ∃ k, bindArgs (PySem.W.fnOf x qual (defArgs st) (defBody st) (defScope st) (.ref T) kV doc pm an cdv ct) ⟨us, []⟩ = seqItems? (.ref T) >>= k ∧ k (some its.toArray) = pure (ps.zip (us ++ its.drop 1))) : Binds K fd ps [] := by
  obtain ⟨ds, hv, b⟩ := F.binds1 ps.length 1 (by simp) (by simp) (fun T kV doc pm an cdv ct us its l1 l2 => h T kV doc pm an cdv ct us its l1 l2)
  cases hv
  exact b
/-! ### methods that may raise -/
def CalM (P : Program) (w : World) (K : PySem.W.Frag) (mg : Str → Option Value) (base : Heap) (C : Addr) (m : Str) (k : Nat) (ps : List Str) (sp : Sp) : Prop :=
  ∃ f fd, FnOk P w K mg base (L2N.CX P w) k f fd ps sp ∧ PySem.W.findIn K (.ref C) m = some (some (.ref f)) ∧ PySem.W.isFn K (.ref f) = true ∧ PySem.W.keepIn K (.ref f) = true ∧ Binds K fd ps []
def CalP (P : Program) (w : World) (K : PySem.W.Frag) (mg : Str → Option Value) (base : Heap) (C : Addr) (m : Str) (k : Nat) (ps : List Str) (sp : Sp) : Prop :=
  ∃ p f fd, PropOf K C m p f ∧ FnOk P w K mg base (L2N.CX P w) k f fd ps sp ∧ Binds K fd ps []
/-- a method as it stands behind the top -/
def MDef (K : PySem.W.Frag) (C : Addr) (m qual : Str) (st : Stmt) (ps : List Str) : Prop :=
  ∃ f fd dvs, FunD K m qual (defArgs st) (defBody st) (defScope st) dvs [] f fd ∧ PySem.W.findIn K (.ref C) m = some (some (.ref f)) ∧ PySem.W.isFn K (.ref f) = true ∧ Binds K fd ps []
def PDef (K : PySem.W.Frag) (C : Addr) (m qual : Str) (st : Stmt) (ps : List Str) : Prop :=
  ∃ p f fd dvs, FunD K m qual (defArgs st) (defBody st) (defScope st) dvs [] f fd ∧ PropOf K C m p f ∧ Binds K fd ps []
theorem Fun.D {K : PySem.W.Frag} {x qual : Str} {st : Stmt} {f : Addr} {fd : FuncData} (F : Fun K x qual st f fd) : FunD K x qual (defArgs st) (defBody st) (defScope st) [] [] f fd := by
  obtain ⟨oc, od, kV, doc, pm, an, cdv, ct, osl, rfl, lk, hcd⟩ := F.ex
  exact ⟨⟨oc, od, .none, kV, doc, pm, an, cdv, ct, osl, rfl, lk, hcd, .inl ⟨rfl, rfl⟩, .inl rfl⟩, F.kp⟩
section
variable {P : Program} {w : World} {K : PySem.W.Frag} {mg : Str → Option Value} {base : Heap} {C : Addr} {m qual : Str} {st : Stmt} {ps N : List Str} {k : Nat} {sp : Sp}
theorem MDef.calM (D : MDef K C m qual st ps) (S : FnScope N ps (defScope st)) (len : ∀ vs H Q E, sp vs H Q E → vs.length = ps.length)
    (hbody : ∀ (f : Addr) (cdv : Value) (A : Around) (outer : List Env) (s : Shared) (H : Hp) (vs : List V) (Q : VK) (E : XK), Room k (A.deeper (envOfC qual (defScope st) s.heap.objs.size f cdv)) → sp vs H Q E →
      ∃ t, PSs (cxOf (L2N.CX P w) P w K mg base N qual (defScope st) f cdv A outer s H E) (defBody st) t ∧ t { nx := fun _ H' => Q .non H', rt := Q } (start N vs) H) : CalM P w K mg base C m (k + 1) ps sp := by
  obtain ⟨f, fd, dvs, F, g, isf, b⟩ := D
  exact ⟨f, fd, F.ok S len fun cdv A outer s H vs Q E hr h => hbody f cdv A outer s H vs Q E hr h, g, isf, F.kp, b⟩
theorem PDef.calP (D : PDef K C m qual st ps) (S : FnScope N ps (defScope st)) (len : ∀ vs H Q E, sp vs H Q E → vs.length = ps.length)
    (hbody : ∀ (f : Addr) (cdv : Value) (A : Around) (outer : List Env) (s : Shared) (H : Hp) (vs : List V) (Q : VK) (E : XK), Room k (A.deeper (envOfC qual (defScope st) s.heap.objs.size f cdv)) → sp vs H Q E →
      ∃ t, PSs (cxOf (L2N.CX P w) P w K mg base N qual (defScope st) f cdv A outer s H E) (defBody st) t ∧ t { nx := fun _ H' => Q .non H', rt := Q } (start N vs) H) : CalP P w K mg base C m (k + 1) ps sp := by
  obtain ⟨p, f, fd, dvs, F, hp, b⟩ := D
  exact ⟨p, f, fd, hp, F.ok S len fun cdv A outer s H vs Q E hr h => hbody f cdv A outer s H vs Q E hr h, b⟩
end
structure WCls (K : PySem.W.Frag) (mg : Str → Option Value) (x : Str) (C : Addr) : Prop where
  cl : Cls K C
  gC : mg x = some (.ref C)
  mks : PySem.W.makesIn K C = true
  kp : PySem.W.keepIn K (.ref C) = true
  ca : PySem.W.findIn K (.ref C) "__class__" = some (some (.builtin "object.__class__"))
  sg : PySem.W.specialIn K (.builtin "object.__class__") "__get__" = some (some (.builtin "getset_descriptor.__get__"))
  tk : PySem.W.takesIn K (.builtin "object.__class__") = some true
  mo : PySem.W.mroIn K C (.type "object") = some true
theorem kit_self {K : PySem.W.Frag} {C : Addr} : PySem.W.kitOne K (.ref C) (.ref C) = some true := by
  unfold PySem.W.kitOne
  split
  · rfl
  · rename_i e
    exact absurd (by simp) e
section
variable {X : Cx} {C : Addr} {m x : Str} {k : Nat} {ps : List Str} {sp : Sp} {e : Expr} {es : List Expr} {te : TE} {t : TA} {p pos : Pos}
theorem WCls.ty (c : WCls X.K X.mg x C) {H : Hp} {a dx : Addr} {fs : List (Str × V)} (h : H a = some (.ins C dx fs)) : TyX X.K H (.ref a) (.ref C) := .base (.ins h c.cl c.ca c.sg c.tk c.mo)
/-- C(e, ..) where it is known that nothing is raised -/
theorem pe_makeQ (W : WCls X.K X.mg x C) (M : CalM X.prog X.w X.K X.mg X.base C "__init__" k ps sp) (hr : Room (k + 1) X.A) (hg : Gl X x) (ha : PA X (e :: es) t) (hdb : (x == ("__debug__" : Str)) = false := by decide)
    (he : starEach (e :: es) X.env = (false, eval e X.env) :: starEach es X.env := by rfl) (hpl : (backTo pos (starEach es X.env)).any (·.1) = false := by rfl) : PE X (.Call (.Name x p) (e :: es) [] pos) (tMake C sp [] E0 t) := by
  obtain ⟨f, fd, F, hf, isf, kf, b⟩ := M
  exact pe_make ⟨W.mks, hf, isf, W.kp⟩ F hr hg W.gC b .nil nothing_out ha hdb he hpl
theorem pe_propQ (W : WCls X.K X.mg x C) (M : CalP X.prog X.w X.K X.mg X.base C m k ps sp) (hr : Room (k + 1) X.A) (he : PE X e te) (hab : attributeBase e m X.env (eval e X.env) = eval e X.env := by rfl) : PE X (.Attribute e m pos) (tProp C sp [] E0 te) := by
  obtain ⟨q, f, fd, hp, F, b⟩ := M
  exact pe_prop he W.cl hp F hr b .nil nothing_out hab
/-- running such a method at an instance -/
theorem run_meth {pins : List (Addr × Obj)} {σ : L2.St} {H : Hp} {s : Shared} {Q : VK} {A : Around} {us : List Value} {vs : List V} {E' : Value → Shared → Prop} (M : CalM X.prog X.w X.K X.mg X.base C m k ps sp) (hr : Room k A) (fr : A.frames = X.A.frames)
    (I : Inv X pins σ H s) (r : Vals vs us) (h : sp vs H Q E0) : ∃ f, PySem.W.findIn X.K (.ref C) m = some (some (.ref f)) ∧ PySem.W.isFn X.K (.ref f) = true ∧ wpAny (model X.prog X.w) A (call (.ref f) us) (EP X pins σ Q) E' s := by
  obtain ⟨f, fd, F, hf, isf, kf, b⟩ := M
  refine ⟨f, hf, isf, ?_⟩
  have e0 : Env0 X.prog X.w X.K X.mg X.base A X.stack s H := by
    have e := I.env0
    exact ⟨by rw [fr]; exact e.frames, e.mod, e.bs, e.bsz, e.funs, e.frf, e.hok, e.bare⟩
  have hl := F.len _ _ _ _ h
  refine wpAny_call (codeAny_mono (F.run A X.stack s H ⟨us, []⟩ us vs Q E0 hr e0 (by
    have := b s us I.kIn (by rw [List.append_nil, ← r.length]; exact hl)
    rwa [List.append_nil] at this) r h) fun res s' hq => ?_)
  cases res with
  | error er =>
    obtain ⟨_, _, _, _, _, _, _, _, _, _, _, _, z⟩ := hq
    exact z.elim
  | ok fl =>
    cases fl with
    | ret u => exact I.after hq
    | next => exact hq.elim
    | brk => exact hq.elim
    | cont => exact hq.elim
/-- len(o), its own __len__ -/
def rLenW (C : Addr) (sp : Sp) : List V → Hp → VK → Prop := fun xs H Q => ∃ a dx fs, xs = [.ref a] ∧ H a = some (.ins C dx fs) ∧ sp [.ref a] H (fun v H' => ∃ n : Int, v = .int n ∧ 0 ≤ n ∧ n < 2 ^ 63 ∧ Q (.int n) H') E0
theorem call_lenW (M : CalM X.prog X.w X.K X.mg X.base C "__len__" k ps sp) (hr : Room (k + 1) X.A) : CallR X (.builtin "len") (rLenW C sp) := by
  rintro pins s σ H xs us Q I r ⟨a, dx, fs, rfl, ha, q⟩
  obtain ⟨u, rfl, rx⟩ := vals1 r
  obtain rfl : u = .ref a := rx
  obtain ⟨mA, O, _⟩ := ins_get I.hok ha
  obtain ⟨od, J, _⟩ := O.look
  obtain ⟨f, hf, isf, go⟩ := run_meth (A := X.A.in1) (E' := X.xe) M hr.in1 rfl I r q
  obtain ⟨m0, hF⟩ := I.fr
  refine PySem.W.len_K hF I.ok.mod.kin J hf isf (wpAny_mono go (fun v s' z => ?_) fun _ _ z => z)
  obtain ⟨y, H', I', ry, n, rfl, n0, n1, q'⟩ := z
  obtain ⟨t, rfl⟩ := ry
  exact ⟨⟨n0, n1⟩, .int n, H', I'.tok _, ⟨_, rfl⟩, q'⟩
/-- a == b, the first one's own __eq__ -/
def rEqW (C : Addr) (sp : Sp) : R2 := fun x y H Q => ∃ a b dx dy fs gs, x = .ref a ∧ y = .ref b ∧ H a = some (.ins C dx fs) ∧ H b = some (.ins C dy gs) ∧ sp [.ref a, .ref b] H (fun v H' => (∃ t, v = .bl t) ∧ Q v H') E0
theorem op_eqW (M : CalM X.prog X.w X.K X.mg X.base C "__eq__" k ps sp) (hr : Room k X.A) : OpR X (compareOp .Eq) (rEqW C sp) := by
  rintro pins s σ H x y v u Q I rx ry ⟨a, b, dx, dy, fs, gs, rfl, rfl, ha, hb, q⟩
  cases rx
  cases ry
  show wpAny (model X.prog X.w) X.A (richCompare .Eq (.ref a) (.ref b)) (EP X pins σ Q) X.xe s
  obtain ⟨mA, J, _⟩ := ins_get I.hok ha
  obtain ⟨mB, J', _⟩ := ins_get I.hok hb
  obtain ⟨od, J, _⟩ := J.look
  obtain ⟨od', J', _⟩ := J'.look
  obtain ⟨m0, hF⟩ := I.fr
  obtain ⟨f, hf, isf, go⟩ := run_meth (A := X.A) (E' := X.xe) (vs := [.ref a, .ref b]) (us := [.ref a, .ref b]) M hr rfl I (.cons rfl (.cons rfl .nil)) q
  refine PySem.W.cmp_K (op := .Eq) (tb := .ref C) hr.units0 hF I.ok.mod.kin J J'.type (by simp [PySem.W.notFirst]) hf isf (wpAny_mono go (fun v s' z => ?_) fun _ _ z => z)
  obtain ⟨y, H', I', ry, ⟨t, rfl⟩, q'⟩ := z
  cases ry
  exact ⟨.bl t, H', I', rfl, q'⟩
/-- o in C's instance, its own __contains__ -/
def rInW (C : Addr) (sp : Sp) (neg : Bool) : R2 := fun x y H Q => ∃ a dx fs, y = .ref a ∧ H a = some (.ins C dx fs) ∧ sp [.ref a, x] H (fun v H' => ∃ t : Bool, v = .bl t ∧ Q (.bl (if neg then !t else t)) H') E0
theorem op_inW (M : CalM X.prog X.w X.K X.mg X.base C "__contains__" k ps sp) (hr : Room k X.A) : OpR X (compareOp .In) (rInW C sp false) := by
  rintro pins s σ H x y v u Q I rx ry ⟨a, dx, fs, rfl, ha, q⟩
  cases ry
  obtain ⟨mA, J, _⟩ := ins_get I.hok ha
  obtain ⟨od, J, _⟩ := J.look
  obtain ⟨m0, hF⟩ := I.fr
  obtain ⟨f, hf, isf, go⟩ := run_meth (A := X.A) (E' := X.xe) (vs := [.ref a, x]) (us := [.ref a, v]) M hr rfl I (.cons rfl (.cons rx .nil)) q
  refine PySem.W.in_K hF I.ok.mod.kin J hf isf (wpAny_mono go (fun v s' z => ?_) fun _ _ z => z)
  obtain ⟨y, H', I', ry, t, rfl, q'⟩ := z
  cases ry
  exact wpAny_truthy_bool ⟨.bl t, H', I', rfl, q'⟩
end
/-! ### {k: v}, k a tuple -/
def tDispT1 (tk tv : TE) : TE := fun σ H Q => ∀ p, H p = none → tk σ (upd H p (.dT [])) fun x H1 => tv σ H1 fun y H2 => H2 p = some (.dT []) ∧ ∃ (b : Addr) (k : List L2.Key), x = .ref b ∧ H2 b = some (.tup (k.map kV)) ∧ Q (.ref p) (upd H2 p (.dT [(k, y)]))
theorem pe_dispT1 {X : Cx} {ke ve : Expr} {tk tv : TE} {pos : Pos} (hu : X.A.units + 1 < cLine) (hk : PE X ke tk) (hv : PE X ve tv) : PE X (.Dict [some ke] [ve] pos) (tDispT1 tk tv) := by
  refine ⟨fun pins s σ H Q I q => ?_⟩
  have hn := I.hok.fresh (Nat.le_refl s.heap.objs.size)
  have I1 := I.laid (a := s.heap.objs.size) (o := .dT []) (h' := s.heap.push { cls := .type "dict", data := .dict #[] }) (t' := s.toks) (fun _ _ q => Heap.get?_push_of_some _ q) (Nat.le_refl _) (dt_empty s.heap I.big)
  refine wpAny_Dict_any rfl rfl (by simp) (by simp) (thn ((pps_cons hk hv pps_nil).run pins _ σ _ (fun ps H2 => match ps with
    | [(x, y)] => H2 s.heap.objs.size = some (.dT []) ∧ ∃ (b : Addr) (k : List L2.Key), x = .ref b ∧ H2 b = some (.tup (k.map kV)) ∧ Q (.ref s.heap.objs.size) (upd H2 s.heap.objs.size (.dT [(k, y)]))
    | _ => False) I1 (q _ hn)) fun vs s2 z => ?_)
  obtain ⟨ps, H2, I2, rel, z⟩ := z
  match ps, z, rel with
  | [(x, y)], ⟨e, b, k, ex, eb, q2⟩, .cons ⟨rx, ry⟩ .nil =>
    subst ex
    rename_i pr
    obtain ⟨u, r⟩ := pr
    cases (show u = Value.ref b from rx)
    obtain ⟨z, hd, xs, rel, dd⟩ := dt_of I2.hok e
    cases rel
    show wpAny _ _ (forIn [(Value.ref b, r)] PUnit.unit _) _ _ _
    rw [List.forIn_cons]
    refine wpAny_bind (wpAny_bind (wpAny_dictSet_heap (hsz := Nat.zero_le _) (knd := tupleKind (mixKind X.prog X.w)) (show X.A.units < cLine by omega) (key_of I2.hok eb) dd fun h' dd' hs => wpAny_pure ?_))
    dsimp only
    rw [List.forIn_nil]
    refine wpAny_pure ⟨.ref s.heap.objs.size, _, ?_, rfl, q2⟩
    obtain ⟨o, es, ep, hq, h2, h3, h4, _, h5⟩ := dd'
    have nb : b ≠ s.heap.objs.size := ne_of eb e (fun z => nomatch z)
    refine d_write I2 (by rw [e]; trivial) hs ⟨o, hq⟩ ⟨(by show 1 ≤ sizeLine; decide), hd, [(k, b, r)], .cons ⟨rfl, ?_, ry⟩ .nil, o, es, ep, hq, h2, h3, h4, h5⟩
    rw [upd_ne nb]
    exact eb
end Hd

namespace Hd
open PySem PySem.Spec PyProof.Rows L2
/-! ### rows reached, layer by layer, each with its word -/
abbrev WL := List (List Int × List Int)
def lookW (W : WL) (r : List Int) : List Int := ((W.find? fun p => decide (p.1 = r)).map (·.2)).getD []
def put1 (r wd m : List Int) (i : Int) (W : WL) : WL := if aft r m ∈ W.map (·.1) then W else W ++ [(aft r m, wd ++ [i])]
def nl1 (T : List (List Int)) (r : List Int) (W : WL) : Nat → WL
  | 0 => W
  | k + 1 => match T[k]? with
    | some m => put1 r (lookW W r) m (k : Int) (nl1 T r W k)
    | none => nl1 T r W k
def nl (T R : List (List Int)) (W : WL) : Nat → WL
  | 0 => W
  | i + 1 => match R[i]? with
    | some r => nl1 T r (nl T R W i) T.length
    | none => nl T R W i
theorem put1_ext (r wd m : List Int) (i : Int) (W : WL) : ∃ Y, put1 r wd m i W = W ++ Y := by
  unfold put1
  by_cases c : aft r m ∈ W.map (·.1)
  · rw [if_pos c]; exact ⟨[], by simp⟩
  · rw [if_neg c]; exact ⟨_, rfl⟩
theorem nl1_ext (T : List (List Int)) (r : List Int) (W : WL) : ∀ k, ∃ Y, nl1 T r W k = W ++ Y
  | 0 => ⟨[], by simp [nl1]⟩
  | k + 1 => by
    obtain ⟨Y, e⟩ := nl1_ext T r W k
    unfold nl1
    cases h : T[k]? with
    | none => exact ⟨Y, e⟩
    | some m =>
      obtain ⟨Y2, e2⟩ := put1_ext r (lookW W r) m k (nl1 T r W k)
      exact ⟨Y ++ Y2, by show put1 _ _ _ _ _ = _; rw [e2, e, List.append_assoc]⟩
theorem nl_ext (T R : List (List Int)) (W : WL) : ∀ k, ∃ Y, nl T R W k = W ++ Y
  | 0 => ⟨[], by simp [nl]⟩
  | k + 1 => by
    obtain ⟨Y, e⟩ := nl_ext T R W k
    unfold nl
    cases h : R[k]? with
    | none => exact ⟨Y, e⟩
    | some r =>
      obtain ⟨Y2, e2⟩ := nl1_ext T r (nl T R W k) T.length
      exact ⟨Y ++ Y2, by show nl1 _ _ _ _ = _; rw [e2, e, List.append_assoc]⟩
/-- the rows that are new since W -/
def fnd (W W' : WL) : List (List Int) := (W'.drop W.length).map (·.1)
theorem fnd_app (W Y : WL) : fnd W (W ++ Y) = Y.map (·.1) := by unfold fnd; rw [List.drop_left]
theorem fnd_self (W : WL) : fnd W W = [] := by unfold fnd; rw [List.drop_length]; rfl
theorem fnd_keys {W W' : WL} (h : ∃ Y, W' = W ++ Y) : W'.map (·.1) = W.map (·.1) ++ fnd W W' := by
  obtain ⟨Y, rfl⟩ := h
  rw [fnd_app, List.map_append]
theorem fnd_len {W W' : WL} (h : ∃ Y, W' = W ++ Y) : W'.length = W.length + (fnd W W').length := by
  obtain ⟨Y, rfl⟩ := h
  rw [fnd_app, List.length_append, List.length_map]
theorem put1_fnd {W W' : WL} (h : ∃ Y, W' = W ++ Y) {r wd m : List Int} {i : Int} (c : aft r m ∉ W'.map (·.1)) : fnd W (put1 r wd m i W') = fnd W W' ++ [aft r m] := by
  obtain ⟨Y, rfl⟩ := h
  unfold put1
  rw [if_neg c, List.append_assoc, fnd_app, fnd_app, List.map_append]
  rfl
/-- an invariant of single steps -/
theorem nl1_ind {T : List (List Int)} {r : List Int} {W : WL} (Pv : WL → Prop) (h0 : Pv W) (hs : ∀ (W' : WL) (m : List Int) (i : Nat), T[i]? = some m → Pv W' → Pv (put1 r (lookW W r) m i W')) : ∀ k, Pv (nl1 T r W k)
  | 0 => h0
  | k + 1 => by
    unfold nl1
    cases h : T[k]? with
    | none => exact nl1_ind Pv h0 hs k
    | some m => exact hs _ m k h (nl1_ind Pv h0 hs k)
theorem nl_ind {T R : List (List Int)} {W : WL} (Pv : WL → Prop) (h0 : Pv W) (hs : ∀ (W' : WL) (r : List Int), r ∈ R → (∃ Y, W' = W ++ Y) → Pv W' → ∀ k, Pv (nl1 T r W' k)) : ∀ k, Pv (nl T R W k)
  | 0 => h0
  | k + 1 => by
    unfold nl
    cases h : R[k]? with
    | none => exact nl_ind Pv h0 hs k
    | some r => exact hs _ r (List.mem_of_getElem? h) (nl_ext T R W k) (nl_ind Pv h0 hs k) _
theorem put1_mem {r wd m : List Int} {i : Int} {W : WL} : aft r m ∈ (put1 r wd m i W).map (·.1) := by
  unfold put1
  by_cases c : aft r m ∈ W.map (·.1)
  · rw [if_pos c]; exact c
  · rw [if_neg c, List.map_append]; exact List.mem_append_right _ (by simp)
theorem put1_nodup {r wd m : List Int} {i : Int} {W : WL} (h : (W.map (·.1)).Nodup) : ((put1 r wd m i W).map (·.1)).Nodup := by
  unfold put1
  by_cases c : aft r m ∈ W.map (·.1)
  · rw [if_pos c]; exact h
  · rw [if_neg c, List.map_append]
    refine List.nodup_append.mpr ⟨h, List.pairwise_singleton _ _, fun a ha b hb e => ?_⟩
    rw [List.mem_singleton.mp hb] at e
    rw [e] at ha
    exact c ha
theorem put1_sub {r wd m : List Int} {i : Int} {W : WL} {x : List Int} (h : x ∈ W.map (·.1)) : x ∈ (put1 r wd m i W).map (·.1) := by
  obtain ⟨Y, e⟩ := put1_ext r wd m i W
  rw [e, List.map_append]
  exact List.mem_append_left _ h
theorem nl1_sub {T : List (List Int)} {r : List Int} {W : WL} {x : List Int} (h : x ∈ W.map (·.1)) (k : Nat) : x ∈ (nl1 T r W k).map (·.1) := by
  obtain ⟨Y, e⟩ := nl1_ext T r W k
  rw [e, List.map_append]
  exact List.mem_append_left _ h
theorem nl_sub {T R : List (List Int)} {W : WL} {x : List Int} (h : x ∈ W.map (·.1)) (k : Nat) : x ∈ (nl T R W k).map (·.1) := by
  obtain ⟨Y, e⟩ := nl_ext T R W k
  rw [e, List.map_append]
  exact List.mem_append_left _ h
theorem nl1_nodup {T : List (List Int)} {r : List Int} {W : WL} (h : (W.map (·.1)).Nodup) (k : Nat) : ((nl1 T r W k).map (·.1)).Nodup := nl1_ind (fun W' => (W'.map (·.1)).Nodup) h (fun _ _ _ _ z => put1_nodup z) k
theorem nl_nodup {T R : List (List Int)} {W : WL} (h : (W.map (·.1)).Nodup) (k : Nat) : ((nl T R W k).map (·.1)).Nodup := nl_ind (fun W' => (W'.map (·.1)).Nodup) h (fun _ _ _ _ z => nl1_nodup z) k
theorem nl1_all {T : List (List Int)} {r : List Int} {W : WL} : ∀ (k i : Nat) (m : List Int), i < k → T[i]? = some m → aft r m ∈ (nl1 T r W k).map (·.1)
  | k + 1, i, m, hi, hm => by
    unfold nl1
    rcases Nat.lt_or_ge i k with z | z
    · have := nl1_all (r := r) (W := W) k i m z hm
      cases h : T[k]? with
      | none => exact this
      | some m' => exact put1_sub this
    · have : i = k := by omega
      subst this
      rw [hm]
      exact put1_mem
theorem nl_all {T R : List (List Int)} {W : WL} : ∀ (k : Nat) (r m : List Int), (∃ i, i < k ∧ R[i]? = some r) → m ∈ T → aft r m ∈ (nl T R W k).map (·.1)
  | k + 1, r, m, ⟨i, hi, hr⟩, hm => by
    unfold nl
    rcases Nat.lt_or_ge i k with z | z
    · have := nl_all (T := T) (R := R) (W := W) k r m ⟨i, z, hr⟩ hm
      cases h : R[k]? with
      | none => exact this
      | some r' => exact nl1_sub this _
    · have : i = k := by omega
      subst this
      rw [hr]
      obtain ⟨j, hj⟩ := List.getElem?_of_mem hm
      exact nl1_all _ j m (List.getElem?_eq_some_iff.mp hj).1 hj
theorem nl_from {T R : List (List Int)} {W : WL} (c : List Int → Prop) (h : ∀ x ∈ W.map (·.1), c x) (hs : ∀ r ∈ R, ∀ m ∈ T, c (aft r m)) (k : Nat) : ∀ x ∈ (nl T R W k).map (·.1), c x := by
  refine nl_ind (fun W' => ∀ x ∈ W'.map (·.1), c x) h (fun W' r hr _ z k => nl1_ind (fun W' => ∀ x ∈ W'.map (·.1), c x) z (fun W2 m i hm z2 x hx => ?_) k) k
  unfold put1 at hx
  by_cases q : aft r m ∈ W2.map (·.1)
  · rw [if_pos q] at hx
    exact z2 x hx
  · rw [if_neg q, List.map_append] at hx
    rcases List.mem_append.mp hx with y | y
    · exact z2 x y
    · rw [show x = aft r m by simpa using y]
      exact hs r hr m (List.mem_of_getElem? hm)
theorem look_mem {W : WL} {r : List Int} (h : r ∈ W.map (·.1)) : (r, lookW W r) ∈ W := by
  unfold lookW
  cases e : W.find? fun p => decide (p.1 = r) with
  | none =>
    obtain ⟨p, hp, rfl⟩ := List.mem_map.mp h
    have := List.find?_eq_none.mp e p hp
    simp at this
  | some p =>
    have h1 := List.mem_of_find?_eq_some e
    have h2 := List.find?_some e
    have h2 : p.1 = r := of_decide_eq_true h2
    rw [← h2]
    exact h1
theorem nl_words {T R : List (List Int)} {W : WL} {B : Nat} (h : ∀ p ∈ W, p.2.length ≤ B + 1) (h' : ∀ r ∈ R, r ∈ W.map (·.1)) (hb : ∀ p ∈ W, p.2.length ≤ B) (nd : (W.map (·.1)).Nodup) (k : Nat) : ∀ p ∈ nl T R W k, p.2.length ≤ B + 1 := by
  have look_ext : ∀ {Y : WL} {r : List Int}, r ∈ W.map (·.1) → lookW (W ++ Y) r = lookW W r := fun {Y r} hr => by
    unfold lookW
    rw [List.find?_append]
    cases e : W.find? fun p => decide (p.1 = r) with
    | some p => rfl
    | none =>
      obtain ⟨p, hp, rfl⟩ := List.mem_map.mp hr
      have := List.find?_eq_none.mp e p hp
      simp at this
  refine nl_ind (fun W' => ∀ p ∈ W', p.2.length ≤ B + 1) h (fun W' r hr ⟨Y, eW⟩ z k => nl1_ind (fun W' => ∀ p ∈ W', p.2.length ≤ B + 1) z (fun W2 m i hm z2 p hp => ?_) k) k
  unfold put1 at hp
  by_cases q : aft r m ∈ W2.map (·.1)
  · rw [if_pos q] at hp
    exact z2 p hp
  · rw [if_neg q] at hp
    rcases List.mem_append.mp hp with y | y
    · exact z2 p y
    · rw [List.mem_singleton.mp y, eW, look_ext (h' r hr)]
      have := hb _ (look_mem (h' r hr))
      simpa using this
theorem put1_len (r wd m : List Int) (i : Int) (W : WL) : (put1 r wd m i W).length ≤ W.length + 1 := by
  unfold put1
  by_cases c : aft r m ∈ W.map (·.1)
  · rw [if_pos c]; omega
  · rw [if_neg c, List.length_append]; exact Nat.le_refl _
theorem nl1_len (T : List (List Int)) (r : List Int) (W : WL) : ∀ k, (nl1 T r W k).length ≤ W.length + k
  | 0 => Nat.le_refl _
  | k + 1 => by
    have h := nl1_len T r W k
    unfold nl1
    cases e : T[k]? with
    | none => exact Nat.le_succ_of_le h
    | some m =>
      have := put1_len r (lookW W r) m k (nl1 T r W k)
      show (put1 _ _ _ _ _).length ≤ _
      omega
theorem nl_len (T R : List (List Int)) (W : WL) : ∀ k, (nl T R W k).length ≤ W.length + k * T.length
  | 0 => by simp [nl]
  | k + 1 => by
    have h := nl_len T R W k
    unfold nl
    rw [Nat.succ_mul]
    cases e : R[k]? with
    | none => exact Nat.le_trans h (by omega)
    | some r =>
      have := nl1_len T r (nl T R W k) T.length
      show (nl1 _ _ _ _).length ≤ _
      omega
theorem nl1_step {T : List (List Int)} {r : List Int} {W : WL} {j : Nat} {m : List Int} (h : T[j]? = some m) : nl1 T r W (j + 1) = put1 r (lookW W r) m j (nl1 T r W j) := by
  show (match T[j]? with | some m => _ | none => _) = _
  rw [h]
theorem nl_step {T R : List (List Int)} {W : WL} {i : Nat} {r : List Int} (h : R[i]? = some r) : nl T R W (i + 1) = nl1 T r (nl T R W i) T.length := by
  show (match R[i]? with | some m => _ | none => _) = _
  rw [h]
/-! ### all layers -/
def lay (T : List (List Int)) (r : List Int) : Nat → WL × List (List Int)
  | 0 => ([(r, [])], [r])
  | k + 1 => (nl T (lay T r k).2 (lay T r k).1 (lay T r k).2.length, fnd (lay T r k).1 (nl T (lay T r k).2 (lay T r k).1 (lay T r k).2.length))
structure LayOk (T : List (List Int)) (r : List Int) (W : WL) (L : List (List Int)) (k : Nat) : Prop where
  nd : (W.map (·.1)).Nodup
  rch : ∀ x ∈ W.map (·.1), Rch T r x
  base : r ∈ W.map (·.1)
  sub : ∀ x ∈ L, x ∈ W.map (·.1)
  clo : ∀ x ∈ W.map (·.1), x ∉ L → ∀ m ∈ T, aft x m ∈ W.map (·.1)
  wl : ∀ p ∈ W, p.2.length ≤ k
  kl : k ≤ W.length
  kL : L ≠ [] → k + 1 ≤ W.length
  lL : L.length ≤ W.length
theorem lay_ok (T : List (List Int)) (r : List Int) : ∀ k, (∀ j, j < k → (lay T r j).2 ≠ []) → LayOk T r (lay T r k).1 (lay T r k).2 k
  | 0, _ => ⟨by simp [lay], fun x hx => by rw [show x = r by simpa [lay] using hx]; exact .base, by simp [lay], fun x hx => hx, fun x hx hn => absurd (by simpa [lay] using hx) (by simpa [lay] using hn), fun p hp => by rw [show p = (r, []) by simpa [lay] using hp]; exact Nat.le_refl _, Nat.zero_le _, fun _ => by simp [lay], by simp [lay]⟩
  | k + 1, hj => by
    have I := lay_ok T r k fun j h => hj j (by omega)
    have ne := hj k (by omega)
    have hk := I.kL ne
    generalize hW : (lay T r k).1 = W at I hk
    generalize hL : (lay T r k).2 = L at I ne
    have ext := nl_ext T L W L.length
    have ln := fnd_len ext
    show LayOk T r (nl T (lay T r k).2 (lay T r k).1 (lay T r k).2.length) (fnd (lay T r k).1 (nl T (lay T r k).2 (lay T r k).1 (lay T r k).2.length)) (k + 1)
    rw [hW, hL]
    have keys := fnd_keys ext
    refine ⟨nl_nodup I.nd _, nl_from (Rch T r) I.rch (fun x hx m hm => .step (I.rch x (I.sub x hx)) hm) _, nl_sub I.base _, fun x hx => by rw [keys]; exact List.mem_append_right _ hx, fun x hx hn m hm => ?_, ?_, by omega, fun z => ?_, by omega⟩
    · rw [keys] at hx
      rcases List.mem_append.mp hx with y | y
      · by_cases c : x ∈ L
        · obtain ⟨i, hi⟩ := List.getElem?_of_mem c
          exact nl_all _ x m ⟨i, (List.getElem?_eq_some_iff.mp hi).1, hi⟩ hm
        · exact nl_sub (I.clo x y c m hm) _
      · exact absurd y hn
    · exact nl_words (fun p hp => Nat.le_succ_of_le (I.wl p hp)) I.sub I.wl I.nd _
    · have := List.length_pos_iff.mpr z
      omega
theorem lay_end {T : List (List Int)} {r : List Int} {W : WL} {k : Nat} (h : LayOk T r W [] k) (x : List Int) : x ∈ W.map (·.1) ↔ Rch T r x := ⟨h.rch x, fun c => rch_all h.base (fun w hw m hm => h.clo w hw (by simp) m hm) c⟩
/-! ### the dict that holds them -/
abbrev Wds (G : Hp) : List (List L2.Key × V) → WL → Prop := Paired fun p q => p.1 = keyL q.1 ∧ Da G p.2 (rowD q.2)
theorem Wds.up {G G' : Hp} (g : Same G G') {kvs : List (List L2.Key × V)} {W : WL} (h : Wds G kvs W) : Wds G' kvs W := by
  induction h with
  | nil => exact .nil
  | cons a t ih => exact .cons ⟨a.1, a.2.up g⟩ ih
theorem Wds.keys {G : Hp} {kvs : List (List L2.Key × V)} {W : WL} (h : Wds G kvs W) : kvs.map (·.1) = (W.map (·.1)).map keyL := by
  induction h with
  | nil => rfl
  | cons a t ih => rw [List.map_cons, List.map_cons, List.map_cons, a.1, ih]
theorem Wds.none {G : Hp} {kvs : List (List L2.Key × V)} {W : WL} (h : Wds G kvs W) {r : List Int} (n : r ∉ W.map (·.1)) : valV kvs (keyL r) = Option.none := by
  induction h with
  | nil => rfl
  | @cons p q ps qs a t ih =>
    rw [List.map_cons, List.mem_cons, not_or] at n
    rw [valV_neg (fun e => n.1 (keyL_inj (e.symm.trans a.1))), ih n.2]
theorem Wds.some {G : Hp} {kvs : List (List L2.Key × V)} {W : WL} (h : Wds G kvs W) {r : List Int} (n : r ∈ W.map (·.1)) : ∃ v, valV kvs (keyL r) = Option.some v ∧ Da G v (rowD (lookW W r)) := by
  induction h with
  | nil => cases n
  | @cons p q ps qs a t ih =>
    by_cases e : q.1 = r
    · refine ⟨p.2, valV_pos (by rw [a.1, e]), ?_⟩
      have : lookW (q :: qs) r = q.2 := by
        unfold lookW
        rw [List.find?_cons_of_pos (by exact decide_eq_true e)]
        rfl
      rw [this]
      exact a.2
    · rw [List.map_cons, List.mem_cons] at n
      obtain ⟨v, h1, h2⟩ := ih (n.resolve_left fun z => e z.symm)
      refine ⟨v, by rw [valV_neg (fun z => e (keyL_inj (a.1.symm.trans z))), h1], ?_⟩
      have : lookW (q :: qs) r = lookW qs r := by
        unfold lookW
        rw [List.find?_cons_of_neg (by exact fun z => e (of_decide_eq_true z))]
      rw [this]
      exact h2
theorem Wds.app {G : Hp} {kvs : List (List L2.Key × V)} {W : WL} (h : Wds G kvs W) {r wd : List Int} {v : V} (hv : Da G v (rowD wd)) : Wds G (kvs ++ [(keyL r, v)]) (W ++ [(r, wd)]) := by
  induction h with
  | nil => exact .cons ⟨rfl, hv⟩ .nil
  | cons a t ih => exact .cons a ih
theorem look_ext {W Y : WL} {r : List Int} (hr : r ∈ W.map (·.1)) : lookW (W ++ Y) r = lookW W r := by
  unfold lookW
  rw [List.find?_append]
  cases e : W.find? fun p => decide (p.1 = r) with
  | some p => rfl
  | none =>
    obtain ⟨p, hp, rfl⟩ := List.mem_map.mp hr
    have := List.find?_eq_none.mp e p hp
    simp at this
theorem Stp.putS {S : Addr} {G0 H0 G H H' : Hp} (s : Stp S G0 H0 G H) {o : HO} (g : G S = none) (t : isT o = false) (e : H' = upd H S o) : Stp S G0 H0 G H' := by
  subst e
  have gs : Same G (upd H S o) := fun b u z => by
    rw [upd_ne fun q => by rw [q, g] at z; cases z]
    exact s.gh b u z
  refine ⟨s.gg, gs, s.nw, fun b u n hb => ?_, fun b u hb => ?_⟩
  · rw [upd_ne n]
    exact s.hh b u n hb
  · by_cases c : b = S
    · rw [c, upd_same]
      exact ⟨o, rfl, fun _ => t⟩
    · rw [upd_ne c]
      exact s.al b u hb
theorem cat_row {K : PySem.W.Frag} {G H : Hp} {Q : VK} {a b : Addr} {ws : List Int} {i : Int} (g : Same G H) (ha : G a = some (.tup (ws.map V.int))) (hb : G b = some (.tup [.int i])) (hz : ws.length ≤ 100000)
    (q : ∀ (p : Addr) (G' H' : Hp), Stq G H G' H' → G' p = some (.tup ((ws ++ [i]).map V.int)) → Q (.ref p) H') : rCatA K (.ref a) (.ref b) H Q := by
  refine ⟨a, b, _, _, rfl, rfl, .of (g _ _ ha), .of (g _ _ hb), ?_, fun e => ?_, (fun _ e => by cases e), fun h1 _ p hp => ?_⟩
  · rw [List.length_map]
    show ws.length + 1 ≤ sizeLine
    exact Nat.le_trans (show _ ≤ 100001 by omega) (by decide)
  · have : ws = [] := by simpa using e
    subst this
    exact q b G H (Stq.refl g) hb
  · obtain ⟨G', s, e, _⟩ := Stq.know g (⟨hp, rfl⟩ : New H p _ _)
    refine q p G' _ s ?_
    rw [e, List.map_append]
    rfl
theorem Stp.gd {S : Addr} {G0 H0 G H : Hp} (s : Stp S G0 H0 G H) {o : HO} (g : G0 S = none) (h : H0 S = some o) (t : isT o = false := by rfl) : G S = none := s.nw S o h t g
theorem Stq.stp {S : Addr} {G H G1 H1 G2 H2 : Hp} (a : Stq G H G1 H1) (b : Stp S G1 H1 G2 H2) (f : H S = none) : Stq G H G2 H2 :=
  ⟨fun c u z => b.gg _ _ (a.gg _ _ z), b.gh, fun c o h t z => b.nw c o (a.hh c o h) t (a.nw c o h t z), fun c u z => b.hh c u (fun e => by rw [e, f] at z; cases z) (a.hh c u z)⟩
/-! ### all tuples that stand may be known -/
def fullG (G H : Hp) : Hp := fun b => match G b with
  | some o => some o
  | none => match H b with
    | some (.tup xs) => some (.tup xs)
    | _ => none
theorem full_same {G H : Hp} : Same G (fullG G H) := fun b u e => by unfold fullG; rw [e]
theorem full_up {G H : Hp} (g : Same G H) : Same (fullG G H) H := fun b u e => by
  unfold fullG at e
  cases h : G b with
  | some o =>
    rw [h] at e
    cases e
    exact g _ _ h
  | none =>
    rw [h] at e
    cases h2 : H b with
    | none => rw [h2] at e; cases e
    | some o =>
      rw [h2] at e
      cases o with
      | tup xs => exact e
      | _ => cases e
theorem full_tup {G H : Hp} (g : Same G H) {b : Addr} {xs : List V} (h : H b = some (.tup xs)) : fullG G H b = some (.tup xs) := by
  unfold fullG
  cases e : G b with
  | some o =>
    have := g _ _ e
    rw [h] at this
    exact this.symm
  | none =>
    show (match H b with | some (.tup xs) => some (HO.tup xs) | _ => none) = _
    rw [h]
theorem full_else {G H : Hp} {b : Addr} {o : HO} (h : H b = some o) (t : isT o = false) (g : G b = none) : fullG G H b = none := by
  unfold fullG
  rw [g]
  show (match H b with | some (.tup xs) => some (HO.tup xs) | _ => none) = _
  rw [h]
  cases o with
  | tup xs => cases t
  | _ => rfl
theorem full_none {G H : Hp} {b : Addr} (g : Same G H) (h : H b = none) : fullG G H b = none := by
  unfold fullG
  rw [g.free h]
  show (match H b with | some (.tup xs) => some (HO.tup xs) | _ => none) = _
  rw [h]
theorem Stq.full {G H G1 H1 : Hp} (s : Stq G H G1 H1) : Stq G H (fullG G1 H1) H1 :=
  ⟨s.gg.trans full_same, full_up s.gh, fun b o h t g => full_else (s.hh _ _ h) t (s.nw b o h t g), s.hh⟩
theorem Stp.full {S : Addr} {G H G1 H1 : Hp} (s : Stp S G H G1 H1) : Stp S G H (fullG G1 H1) H1 :=
  ⟨s.gg.trans full_same, full_up s.gh, fun b o h t g => by
    obtain ⟨o', h', k⟩ := s.al b o h
    exact full_else h' (k t) (s.nw b o h t g), s.hh, s.al⟩
theorem Go.full {S : Sr} {G H G1 H1 : Hp} (a : Go S G H G1 H1) : Go S G H (fullG G1 H1) H1 := ⟨a.s.full, a.w0, a.st⟩
theorem rows_full {G H : Hp} (g : Same G H) : ∀ {xs : List V} {Ls : List (List Int)}, DaAll H xs (Ls.map rowD) → DaAll (fullG G H) xs (Ls.map rowD)
  | _, [], .nil => .nil
  | _, r :: Ls, .cons h t => by
    refine .cons ?_ (rows_full g t)
    obtain ⟨a, rfl, ha⟩ := rows_ref h
    exact .tup (full_tup g ha) (DaAll.ints r)
/-! ### what is a move on n points -/
theorem mvOn_row {n : Int} {d : PyData} (h : mvOn n d = true) : ∃ m, d = rowD m ∧ IsMv m n := by
  cases d with
  | tuple ds =>
    have h : (decide (((ds.length : Nat) : Int) = n) && (ds.all (fun d => isNum d 0 (n - 1)) && decide ((intsOf ds).Perm (rngI n)))) = true := h
    rw [Bool.and_eq_true, Bool.and_eq_true] at h
    exact ⟨intsOf ds, by unfold rowD; rw [← ints_isNum h.2.1], (of_decide_eq_true h.2.2 : (intsOf ds).Perm (rngI n))⟩
  | _ => cases h
theorem mvOn_of {n : Int} {m : List Int} (h0 : 0 ≤ n) (h : IsMv m n) : mvOn n (rowD m) = true := by
  show (decide ((((m.map PyData.int).length : Nat) : Int) = n) && ((m.map PyData.int).all (fun d => isNum d 0 (n - 1)) && decide ((intsOf (m.map PyData.int)).Perm (rngI n)))) = true
  rw [Bool.and_eq_true, Bool.and_eq_true]
  refine ⟨decide_eq_true ?_, List.all_eq_true.mpr fun d hd => ?_, decide_eq_true ?_⟩
  · rw [List.length_map, h.len]
    omega
  · obtain ⟨x, hx, rfl⟩ := List.mem_map.mp hd
    have := h.mem.mp hx
    show (decide (0 ≤ x) && decide (x ≤ n - 1)) = true
    rw [decide_eq_true this.1, decide_eq_true (show x ≤ n - 1 by omega)]
    rfl
  · rw [intsOf_map]
    exact h
theorem all_rows {n : Int} : ∀ {ds : List PyData}, (∀ d ∈ ds, mvOn n d = true) → ∃ T, ds = T.map rowD ∧ AllMv n T
  | [], _ => ⟨[], rfl, fun m hm => by cases hm⟩
  | d :: ds, h => by
    obtain ⟨m, rfl, hm⟩ := mvOn_row (h d List.mem_cons_self)
    obtain ⟨T, rfl, hT⟩ := all_rows fun e he => h e (List.mem_cons_of_mem _ he)
    refine ⟨m :: T, rfl, fun x hx => ?_⟩
    rcases List.mem_cons.mp hx with rfl | hx
    · exact hm
    · exact hT x hx
theorem rowD_inj {a b : List Int} (e : rowD a = rowD b) : a = b := by
  have := congrArg intsOf (PyData.tuple.inj e)
  rwa [intsOf_map, intsOf_map] at this
theorem rows_inj {A B : List (List Int)} (e : A.map rowD = B.map rowD) : A = B := by
  induction A generalizing B with
  | nil => cases B with
    | nil => rfl
    | cons _ _ => cases e
  | cons a A ih => cases B with
    | nil => cases e
    | cons b B =>
      rw [List.map_cons, List.map_cons] at e
      injection e with e1 e2
      rw [rowD_inj e1, ih e2]
theorem num_int {d : PyData} {lo hi : Int} (h : isNum d lo hi = true) : ∃ i, d = .int i ∧ lo ≤ i ∧ i ≤ hi := by
  cases d with
  | int i =>
    have h : (decide (lo ≤ i) && decide (i ≤ hi)) = true := h
    rw [Bool.and_eq_true] at h
    exact ⟨i, rfl, of_decide_eq_true h.1, of_decide_eq_true h.2⟩
  | _ => cases h
theorem first_bad {n : Int} : ∀ {ds : List PyData}, (∀ d ∈ ds, mvOn n d = true) ∨ ∃ i : Nat, (∃ d, ds[i]? = some d ∧ mvOn n d = false) ∧ ∀ (j : Nat) d, j < i → ds[j]? = some d → mvOn n d = true
  | [] => .inl fun d hd => by cases hd
  | d :: ds => by
    cases e : mvOn n d with
    | false => exact .inr ⟨0, ⟨d, rfl, e⟩, fun j d hj => absurd hj (Nat.not_lt_zero j)⟩
    | true =>
      rcases first_bad (n := n) (ds := ds) with h | ⟨i, ⟨x, h1, h2⟩, h3⟩
      · exact .inl fun y hy => (List.mem_cons.mp hy).elim (fun z => by rw [z]; exact e) (h y)
      · refine .inr ⟨i + 1, ⟨x, h1, h2⟩, fun j y hj hy => ?_⟩
        cases j with
        | zero => cases hy; exact e
        | succ j => exact h3 j y (by omega) hy
/-! ### lists of rows compared -/
theorem ints_lay : ∀ ns : List Int, PyData.canLayAll0 (ns.map PyData.int) = true
  | [] => by simp [PyData.canLayAll0]
  | z :: zs => by simp [PyData.canLayAll0, PyData.canLay0, ints_lay zs]
theorem ints_depth : ∀ ns : List Int, PyData.depthAll (ns.map PyData.int) = 0
  | [] => by simp [PyData.depthAll]
  | z :: zs => by simp [PyData.depthAll, PyData.depth, ints_depth zs]
theorem row_lay (r : List Int) : (rowD r).canLay0 = true := by simp only [rowD, PyData.canLay0]; exact ints_lay r
theorem row_depth (r : List Int) : (rowD r).depth ≤ 1 := by simp only [rowD, PyData.depth, ints_depth]; omega
theorem rows_lay : ∀ rs : List (List Int), PyData.canLayAll0 (rs.map rowD) = true
  | [] => by simp [PyData.canLayAll0]
  | z :: zs => by simp [PyData.canLayAll0, row_lay z, rows_lay zs]
theorem rows_depth : ∀ rs : List (List Int), PyData.depthAll (rs.map rowD) ≤ 1
  | [] => by simp [PyData.depthAll]
  | z :: zs => by
    have h1 := rows_depth zs
    have h2 := row_depth z
    simp only [List.map_cons, PyData.depthAll]
    omega
theorem row_shaped (r : List Int) : SeqAt.shaped (rowD r) = true := by
  have h := row_depth r
  show ((rowD r).canLay0 && decide ((rowD r).depth ≤ 64)) = true
  rw [Bool.and_eq_true]
  exact ⟨row_lay r, decide_eq_true (by omega)⟩
theorem rows_shaped (rs : List (List Int)) : SeqAt.shaped (.list (rs.map rowD)) = true := by
  have h1 := rows_depth rs
  have h2 : PyData.depth (.list (rs.map rowD)) ≤ 64 := by
    simp only [PyData.depth]
    omega
  show (PyData.canLay0 (.list (rs.map rowD)) && decide (PyData.depth (.list (rs.map rowD)) ≤ 64)) = true
  rw [Bool.and_eq_true]
  exact ⟨by simp only [PyData.canLay0]; exact rows_lay rs, decide_eq_true h2⟩
theorem row_eqv (a b : List Int) : PyData.eqv (rowD a) (rowD b) = decide (a = b) := by
  show PyData.eqv (.tuple (a.map PyData.int)) (.tuple (b.map PyData.int)) = _
  rw [PyData.eqv, eqv_ints]
theorem rows_eqv : ∀ A B : List (List Int), PyData.eqvAll (A.map rowD) (B.map rowD) = decide (A = B)
  | [], [] => rfl
  | [], _ :: _ => rfl
  | _ :: _, [] => rfl
  | a :: A, b :: B => by
    show (PyData.eqv (rowD a) (rowD b) && PyData.eqvAll (A.map rowD) (B.map rowD)) = _
    rw [rows_eqv A B, row_eqv]
    by_cases h : a = b
    · subst h
      by_cases k : A = B
      · subst k; simp
      · simp [k]
    · simp [h]
theorem rows_any (r : List Int) : ∀ B : List (List Int), ((B.map rowD).any fun z => PyData.eqv z (rowD r)) = decide (r ∈ B)
  | [] => by simp
  | b :: B => by
    rw [List.map_cons, List.any_cons, rows_any r B, row_eqv]
    by_cases h : b = r
    · subst h; simp
    · have : ¬ r = b := fun e => h e.symm
      simp [h, this]
def rEqR (K : PySem.W.Frag) : R2 := fun x y H Q => ∃ (a b : Addr) (xs ys : List V) (A B : List (List Int)), x = .ref a ∧ y = .ref b ∧ SqL K H a xs ∧ SqL K H b ys ∧ DaAll H xs (A.map rowD) ∧ DaAll H ys (B.map rowD) ∧ Q (.bl (decide (A = B))) H
theorem op_eqR {X : Cx} (hu : X.A.units + 64 < cLine) : OpR X (compareOp .Eq) (rEqR X.K) := opR_mono (op_eqD hu) fun x y H Q h => by
  obtain ⟨a, b, xs, ys, A, B, rfl, rfl, ha, hb, da, db, q⟩ := h
  refine ⟨.list (A.map rowD), .list (B.map rowD), .lst ha da.dp, .lst hb db.dp, rows_shaped A, rows_shaped B, ?_⟩
  rw [PyData.eqv, rows_eqv]
  exact q
def rInR (K : PySem.W.Frag) (neg : Bool) : R2 := fun x y H Q => ∃ (b : Addr) (r : List Int) (ys : List V) (B : List (List Int)), y = .ref b ∧ Da H x (rowD r) ∧ SqL K H b ys ∧ DaAll H ys (B.map rowD) ∧ Q (.bl (if neg then !decide (r ∈ B) else decide (r ∈ B))) H
theorem op_inR {X : Cx} {K : PySem.W.Frag} (hk : X.K = K) (hu : X.A.units + 65 < cLine) : OpR X (compareOp .In) (rInR K false) := hk ▸ opR_mono (op_inD hu) fun x y H Q h => by
  obtain ⟨b, r, ys, B, rfl, hx, hb, db, q⟩ := h
  refine ⟨rowD r, B.map rowD, hx.dp, .lst hb db.dp, row_shaped r, rows_shaped B, ?_⟩
  rw [rows_any]
  exact q
theorem op_notInR {X : Cx} {K : PySem.W.Frag} (hk : X.K = K) (hu : X.A.units + 65 < cLine) : OpR X (compareOp .NotIn) (rInR K true) := hk ▸ opR_mono (op_notInD hu) fun x y H Q h => by
  obtain ⟨b, r, ys, B, rfl, hx, hb, db, q⟩ := h
  refine ⟨rowD r, B.map rowD, hx.dp, .lst hb db.dp, row_shaped r, rows_shaped B, ?_⟩
  rw [rows_any]
  exact q
theorem cut_to {xs : List V} {n : Nat} (h : n ≤ xs.length) : cutV xs none (some (n : Int)) = xs.take n := by
  unfold cutV
  rw [show HT.sIx xs.length xs.length (some (n : Int)) = min n xs.length from HT.sIx_nat xs.length xs.length n, HT.sIx_none, List.drop_zero, Nat.sub_zero, Nat.min_eq_left h]
theorem DaAll.rows_take {G : Hp} (i : Nat) {xs : List V} {Ls : List (List Int)} (h : DaAll G xs (Ls.map rowD)) : DaAll G (xs.take i) ((Ls.take i).map rowD) := by
  rw [List.map_take]
  exact h.take i
/-- a comprehension over enumerate(list); the block leaves the list as it is -/
theorem lc_enumL {K : PySem.W.Frag} {a : Addr} {xs : List V} {g : TG} {tt : TT} {te : TE} {vs : List Nat} {σ : L2.St} {H1 : Hp} {D : Addr} {Qd : Hp → Prop} (Pv : Nat → Hp → Prop) (h0 : Pv 0 (upd H1 D (.lst []))) (hl : ∀ i H, Pv i H → SqL K H a xs)
    (hs : ∀ i x T H H', xs[i]? = some x → Pv i H → New H T (.tup [.int (i : Nat), x]) H' → g (.ref T) (wipe σ vs) H' fun σ2 H2 => wipe σ2 vs = wipe σ vs ∧ tt σ2 H2 fun b H3 =>
      if b = true then te σ2 H3 fun y H4 => ∃ acc, H4 D = some (.lst acc) ∧ acc.length < sizeLine ∧ Pv (i + 1) (upd H4 D (.lst (acc ++ [y]))) else Pv (i + 1) H3) (hd : ∀ H, Pv xs.length H → Qd H) :
    ∃ W : Nat → Nat → Hp → Prop, (∃ m, W 0 m (upd H1 D (.lst []))) ∧ ∀ i m H, W i m H → ((Ite K a).stop i H ∧ Qd H) ∨ ((Ite K a).go i H ∧ ∃ Nx : Hp → Prop, (∀ H', Nx H' → ∃ m', m' < m ∧ W (i + 1) m' H') ∧
      ∀ x H', (Ite K a).yld i H x H' → g x (wipe σ vs) H' fun σ2 H2 => wipe σ2 vs = wipe σ vs ∧ tt σ2 H2 fun b H3 => if b = true then te σ2 H3 fun y H4 => ∃ acc, H4 D = some (.lst acc) ∧ acc.length < sizeLine ∧ Nx (upd H4 D (.lst (acc ++ [y]))) else Nx H3) := by
  refine ⟨fun i m H => i + m = xs.length ∧ Pv i H, ⟨xs.length, Nat.zero_add _, h0⟩, ?_⟩
  rintro i m H ⟨e, p⟩
  have sq := hl i H p
  rcases Nat.eq_zero_or_pos m with rfl | pos
  · refine .inl ⟨⟨xs, sq, by omega⟩, hd H ?_⟩
    rw [← e]
    exact p
  · have lt : i < xs.length := by omega
    refine .inr ⟨⟨xs, xs[i], sq, List.getElem?_eq_getElem lt⟩, Pv (i + 1), fun H' p' => ⟨m - 1, by omega, by omega, p'⟩, ?_⟩
    rintro v H' ⟨T, x, rfl, nT, eT, k⟩
    exact hs i x T H H' (k xs sq) p ⟨nT, eT⟩
/-! ### needless moves -/
def idleP (n : Int) (T : List (List Int)) (i : Nat) : Prop := ∃ m, T[i]? = some m ∧ Mk' n (T.take i) m
noncomputable def idleB (n : Int) (T : List (List Int)) (i : Nat) : Bool := @decide (idleP n T i) (Classical.propDecidable _)
noncomputable def idleL (n : Int) (T : List (List Int)) : List Int := pts (idleB n T) T.length
theorem idle_yes {n : Int} {T : List (List Int)} {i : Nat} (h : idleP n T i) : idleB n T i = true := by unfold idleB; exact @decide_eq_true _ (Classical.propDecidable _) h
theorem idle_no {n : Int} {T : List (List Int)} {i : Nat} (h : ¬ idleP n T i) : idleB n T i = false := by unfold idleB; exact @decide_eq_false _ (Classical.propDecidable _) h
theorem sl_listNK {X : Cx} {K : PySem.W.Frag} (hk : X.K = K) : SlR X (rSlLN K) := hk ▸ sl_listN
/-! ### rows reached, one queue -/
structure QOk (T : List (List Int)) (r : List Int) (Qs : List (List Int)) (at_ j : Nat) : Prop where
  nd : Qs.Nodup
  rch : ∀ x ∈ Qs, Rch T r x
  base : r ∈ Qs
  done : ∀ (i : Nat) (x m : List Int), i < at_ → Qs[i]? = some x → m ∈ T → aft x m ∈ Qs
  cur : ∀ (x : List Int) (k : Nat) (m : List Int), Qs[at_]? = some x → k < j → T[k]? = some m → aft x m ∈ Qs
theorem QOk.same {T : List (List Int)} {r : List Int} {Qs : List (List Int)} {at_ j : Nat} {x m : List Int} (h : QOk T r Qs at_ j) (hx : Qs[at_]? = some x) (hm : T[j]? = some m) (c : aft x m ∈ Qs) : QOk T r Qs at_ (j + 1) :=
  ⟨h.nd, h.rch, h.base, h.done, fun y k m' hy hk hm' => by
    rcases Nat.lt_or_ge k j with z | z
    · exact h.cur y k m' hy z hm'
    · have : k = j := by omega
      subst this
      rw [hx] at hy
      rw [hm] at hm'
      cases hy
      cases hm'
      exact c⟩
theorem QOk.app {T : List (List Int)} {r : List Int} {Qs : List (List Int)} {at_ j : Nat} {x m : List Int} (h : QOk T r Qs at_ j) (hx : Qs[at_]? = some x) (hm : T[j]? = some m) (c : aft x m ∉ Qs) : QOk T r (Qs ++ [aft x m]) at_ (j + 1) := by
  have lt := (List.getElem?_eq_some_iff.mp hx).1
  have old : ∀ {i : Nat} {y : List Int}, i ≤ at_ → (Qs ++ [aft x m])[i]? = some y → Qs[i]? = some y := fun {i y} hi e => by
    rwa [List.getElem?_append_left (by omega)] at e
  refine ⟨List.nodup_append.mpr ⟨h.nd, List.pairwise_singleton _ _, fun a ha b hb e => ?_⟩, fun y hy => ?_, List.mem_append_left _ h.base, fun i y m' hi hy hm' => List.mem_append_left _ (h.done i y m' hi (old (by omega) hy) hm'), fun y k m' hy hk hm' => ?_⟩
  · rw [List.mem_singleton.mp hb] at e
    rw [e] at ha
    exact c ha
  · rcases List.mem_append.mp hy with z | z
    · exact h.rch y z
    · rw [List.mem_singleton.mp z]
      exact .step (h.rch x (List.mem_of_getElem? hx)) (List.mem_of_getElem? hm)
  · have hy := old (Nat.le_refl _) hy
    rcases Nat.lt_or_ge k j with z | z
    · exact List.mem_append_left _ (h.cur y k m' hy z hm')
    · have : k = j := by omega
      subst this
      rw [hx] at hy
      rw [hm] at hm'
      cases hy
      cases hm'
      exact List.mem_append_right _ (List.mem_singleton.mpr rfl)
theorem QOk.next {T : List (List Int)} {r : List Int} {Qs : List (List Int)} {at_ : Nat} (h : QOk T r Qs at_ T.length) : QOk T r Qs (at_ + 1) 0 :=
  ⟨h.nd, h.rch, h.base, fun i x m hi hx hm => by
    rcases Nat.lt_or_ge i at_ with z | z
    · exact h.done i x m z hx hm
    · have : i = at_ := by omega
      subst this
      obtain ⟨k, hk⟩ := List.getElem?_of_mem hm
      exact h.cur x k m hx (List.getElem?_eq_some_iff.mp hk).1 hk, fun x k m _ hk => absurd hk (Nat.not_lt_zero k)⟩
theorem QOk.end_ {T : List (List Int)} {r : List Int} {Qs : List (List Int)} {at_ j : Nat} (h : QOk T r Qs at_ j) (le : Qs.length ≤ at_) (w : List Int) : w ∈ Qs ↔ Rch T r w :=
  ⟨h.rch w, fun c => rch_all h.base (fun x hx m hm => by
    obtain ⟨i, hi⟩ := List.getElem?_of_mem hx
    exact h.done i x m (Nat.lt_of_lt_of_le (List.getElem?_eq_some_iff.mp hi).1 le) hi hm) c⟩
theorem QOk.start (T : List (List Int)) (r : List Int) : QOk T r [r] 0 0 := ⟨List.pairwise_singleton _ _, fun x hx => by rw [List.mem_singleton.mp hx]; exact .base, List.mem_singleton.mpr rfl, fun i _ _ hi => absurd hi (Nat.not_lt_zero i), fun _ k _ _ hk => absurd hk (Nat.not_lt_zero k)⟩
theorem val_some {kvs : List (List L2.Key × V)} : ∀ {Ks : List (List Int)}, kvs.map (·.1) = Ks.map keyL → ∀ r, (valV kvs (keyL r)).isSome = decide (r ∈ Ks) := by
  induction kvs with
  | nil =>
    intro Ks e r
    cases Ks with
    | nil => simp [valV_nil]
    | cons _ _ => cases e
  | cons p kvs ih =>
    intro Ks e r
    cases Ks with
    | nil => cases e
    | cons k Ks =>
      rw [List.map_cons, List.map_cons] at e
      injection e with e1 e2
      by_cases h : k = r
      · rw [valV_pos (by rw [e1, h])]
        simp [h]
      · rw [valV_neg (fun z => h (keyL_inj (e1.symm.trans z))), ih e2 r]
        have : ¬ r = k := fun z => h z.symm
        simp [this]
theorem val_none {kvs : List (List L2.Key × V)} {Ks : List (List Int)} (e : kvs.map (·.1) = Ks.map keyL) {r : List Int} (h : r ∉ Ks) : valV kvs (keyL r) = none := by
  have := val_some e r
  rw [decide_eq_false h] at this
  cases z : valV kvs (keyL r) with
  | none => rfl
  | some _ => rw [z] at this; cases this
end Hd

namespace Hd
open PySem PySem.Spec PyProof.Rows L2
/-! ### what the top leaves, by facts -/
def obsW (fa : List He.Fa) (fn : List He5.DefA) (ex : List (PySem.W.Frag → Bool)) (K : PySem.W.Frag) : He.AlD := (((fa.all fun f => f.ok K) && fn.all fun d => d.ok K) && ex.all fun e => e K, fn.map fun d => He5.fnA K (d.at_ K))
def SaysW (fa : List He.Fa) (fn : List He5.DefA) (ex : List (PySem.W.Frag → Bool)) (K : PySem.W.Frag) : Prop := obsW fa fn ex K = He5.valA fn
def kidsW (g : Addr → Option Obj) (a : Addr) : List Addr := match g a with
  | some o => He.refsO o
  | none => []
/-- what is told of: the module's names; their code and defaults; what their classes hold -/
def asW (g : Addr → Option Obj) : List Addr := mainGlobals :: (kidsW g mainGlobals).flatMap fun a => match g a with
  | some ⟨_, _, .cls cd, _⟩ => a :: cd.ns :: (kidsW g cd.ns).flatMap fun b => b :: (kidsW g b).flatMap fun c => c :: (kidsW g c).flatMap fun d => d :: kidsW g d
  | some ⟨_, _, .func _, _⟩ => a :: (kidsW g a).flatMap fun c => c :: kidsW g c
  | _ => [a]
def obsWG (fa : List He.Fa) (fn : List He5.DefA) (ex : List (PySem.W.Frag → Bool)) (g : Addr → Option Obj) : He.AlD := obsW fa fn ex (He.frG g (asW g))
def hookW (fa : List He.Fa) (fn : List He5.DefA) (ex : List (PySem.W.Frag → Bool)) : PySem.W.Hook where
  α := He.AlD
  obs := fun s => obsWG fa fn ex s.heap.get?
  val := fun _ => He5.valA fn
  says := fun _ h => ∃ K : PySem.W.Frag, K.In h ∧ SaysW fa fn ex K
  of := fun _ _ e => ⟨_, He.frG_in, e⟩
  keeps := fun _ _ _ ⟨K, hK, c⟩ k => ⟨K, PySem.W.Frag.In.keeps hK k, c⟩
theorem obsWG_eq {fa : List He.Fa} {fn : List He5.DefA} {ex : List (PySem.W.Frag → Bool)} {g : Addr → Option Obj} {s : Shared} (h : ∀ a, g a = s.heap.get? a) : obsWG fa fn ex g = (hookW fa fn ex).obs s := by
  have e : g = s.heap.get? := funext h
  rw [e] <;> rfl
section
variable {fa : List He.Fa} {fn : List He5.DefA} {ex : List (PySem.W.Frag → Bool)} {K : PySem.W.Frag}
theorem SaysW.bools (c : SaysW fa fn ex K) : ((fa.all fun f => f.ok K) = true ∧ (fn.all fun d => d.ok K) = true) ∧ (ex.all fun e => e K) = true := by
  have := congrArg (fun z : He.AlD => z.1) c
  have h : (((fa.all fun f => f.ok K) && fn.all fun d => d.ok K) && ex.all fun e => e K) = true := this
  rw [Bool.and_eq_true, Bool.and_eq_true] at h
  exact h
theorem SaysW.fact (c : SaysW fa fn ex K) (i : Nat) {f : He.Fa} (h : fa[i]? = some f := by rfl) : f.ok K = true := List.all_eq_true.mp c.bools.1.1 f (List.mem_of_getElem? h)
theorem SaysW.more (c : SaysW fa fn ex K) (i : Nat) {f : PySem.W.Frag → Bool} (h : ex[i]? = some f := by rfl) : f K = true := List.all_eq_true.mp c.bools.2 f (List.mem_of_getElem? h)
theorem SaysW.def_ (c : SaysW fa fn ex K) (i : Nat) {d : He5.DefA} (h : fn[i]? = some d := by rfl) : ∃ fd, FunD K d.name d.qual d.params d.body d.scope (d.dvs K) (d.kws K) (d.at_ K) fd := by
  have e : fn.map (fun d => He5.fnA K (d.at_ K)) = fn.map He5.DefA.val := congrArg (fun z : He.AlD => z.2) c
  have e2 : (fn.map fun d => He5.fnA K (d.at_ K))[i]? = (fn.map He5.DefA.val)[i]? := by rw [e]
  rw [List.getElem?_map, List.getElem?_map, h] at e2
  exact He5.DefA.funD (Option.some.inj e2) (List.all_eq_true.mp c.bools.1.2 d (List.mem_of_getElem? h))
end
/-- defs -/
abbrev dFn (x : Str) (st : Stmt) : He5.DefA := ⟨fun K => He.ga K x, x, x, defArgs st, defBody st, defScope st, [], []⟩
abbrev dFnD (x : Str) (st : Stmt) : He5.DefA := ⟨fun K => He.ga K x, x, x, defArgs st, defBody st, defScope st, [.adr (He.dflAt (x, none) 0)], []⟩
abbrev dMe (x m q : Str) (st : Stmt) : He5.DefA := ⟨fun K => He.ma K (He.ga K x) m, m, q, defArgs st, defBody st, defScope st, [], []⟩
abbrev dMeD (x m q : Str) (st : Stmt) : He5.DefA := ⟨fun K => He.ma K (He.ga K x) m, m, q, defArgs st, defBody st, defScope st, [.adr (He.dflAt (x, some m) 0)], []⟩
def pgA (x m : Str) (K : PySem.W.Frag) : Addr := match PySem.W.recIn K (He.ma K (He.ga K x) m) "property" with
  | some (.ref g :: _) => g
  | _ => 0
abbrev dPr (x m q : Str) (st : Stmt) : He5.DefA := ⟨pgA x m, m, q, defArgs st, defBody st, defScope st, [], []⟩
section
variable {K : PySem.W.Frag} {h : Heap} {mg : Str → Option Value} {x m q : Str} {st : Stmt} {ps : List Str}
theorem def_w (X : K.In h) (G : h.Ns mainGlobals mg) (F : ∃ fd, FunD K x x (defArgs st) (defBody st) (defScope st) [] [] (He.ga K x) fd) (g : (He.Fa.glo x).ok K = true)
    (hb : ∀ (kV doc pm : Value) (an : Option Addr) (cdv ct : Value) (us : List Value), us.length = ps.length → bindArgs (PySem.W.fnOf x x (defArgs st) (defBody st) (defScope st) .none kV doc pm an cdv ct) ⟨us, []⟩ = pure (ps.zip us)) : Def K mg x st ps := by
  obtain ⟨fd, F⟩ := F
  exact ⟨_, fd, He5.fun_of F, He.glo_ok X G g, FunD.bindsN F hb⟩
theorem defD_w {v : V} (X : K.In h) (G : h.Ns mainGlobals mg) (F : ∃ fd, FunD K x x (defArgs st) (defBody st) (defScope st) [v] [] (He.ga K x) fd) (g : (He.Fa.glo x).ok K = true)
    (hb : ∀ (T : Addr) (kV doc pm : Value) (an : Option Addr) (cdv ct : Value) (us its : List Value), us.length = ps.length → its.length = 1 →
      ∃ k, bindArgs (PySem.W.fnOf x x (defArgs st) (defBody st) (defScope st) (.ref T) kV doc pm an cdv ct) ⟨us, []⟩ = seqItems? (.ref T) >>= k ∧ k (some its.toArray) = pure (ps.zip (us ++ its.drop 1))) : DefD K mg x st ps := by
  obtain ⟨fd, F⟩ := F
  exact ⟨_, fd, _, F, He.glo_ok X G g, bindsD F hb⟩
theorem bindsM (hb : ∀ (kV doc pm : Value) (an : Option Addr) (cdv ct : Value) (us : List Value), us.length = ps.length → bindArgs (PySem.W.fnOf m q (defArgs st) (defBody st) (defScope st) .none kV doc pm an cdv ct) ⟨us, []⟩ = pure (ps.zip us)) {f : Addr} {fd : FuncData}
    (F : FunD K m q (defArgs st) (defBody st) (defScope st) [] [] f fd) : Binds K fd ps [] := FunD.bindsN F hb
theorem mdef_w (F : ∃ fd, FunD K m q (defArgs st) (defBody st) (defScope st) [] [] (He.ma K (He.ga K x) m) fd) (g : (He.Fa.meth x m).ok K = true)
    (hb : ∀ (kV doc pm : Value) (an : Option Addr) (cdv ct : Value) (us : List Value), us.length = ps.length → bindArgs (PySem.W.fnOf m q (defArgs st) (defBody st) (defScope st) .none kV doc pm an cdv ct) ⟨us, []⟩ = pure (ps.zip us)) : MDef K (He.ga K x) m q st ps := by
  obtain ⟨fd, F⟩ := F
  have M := He.meth_ok g
  exact ⟨_, fd, _, F, M.at_, M.fn, bindsM hb F⟩
theorem mdefD_w {v : V} (F : ∃ fd, FunD K m q (defArgs st) (defBody st) (defScope st) [v] [] (He.ma K (He.ga K x) m) fd) (g : (He.Fa.meth x m).ok K = true)
    (hb : ∀ (T : Addr) (kV doc pm : Value) (an : Option Addr) (cdv ct : Value) (us its : List Value), us.length = ps.length → its.length = 1 →
      ∃ k, bindArgs (PySem.W.fnOf m q (defArgs st) (defBody st) (defScope st) (.ref T) kV doc pm an cdv ct) ⟨us, []⟩ = seqItems? (.ref T) >>= k ∧ k (some its.toArray) = pure (ps.zip (us ++ its.drop 1))) : MDef K (He.ga K x) m q st ps := by
  obtain ⟨fd, F⟩ := F
  have M := He.meth_ok g
  exact ⟨_, fd, _, F, M.at_, M.fn, bindsD F hb⟩
/-- a property -/
def prB (x m : Str) (K : PySem.W.Frag) : Bool := He.eqO (PySem.W.findIn K (.ref (He.ga K x)) m) (some (some (.ref (He.ma K (He.ga K x) m)))) && (He.eqO (PySem.W.specialIn K (.ref (He.ma K (He.ga K x) m)) "__get__") (some (some (.builtin "property.__get__"))) &&
  (decide (PySem.W.takesIn K (.ref (He.ma K (He.ga K x) m)) = some true) && decide ((PySem.W.recIn K (He.ma K (He.ga K x) m) "property").bind List.head? = some (.ref (pgA x m K)))))
theorem pdef_w (F : ∃ fd, FunD K m q (defArgs st) (defBody st) (defScope st) [] [] (pgA x m K) fd) (g : prB x m K = true)
    (hb : ∀ (kV doc pm : Value) (an : Option Addr) (cdv ct : Value) (us : List Value), us.length = ps.length → bindArgs (PySem.W.fnOf m q (defArgs st) (defBody st) (defScope st) .none kV doc pm an cdv ct) ⟨us, []⟩ = pure (ps.zip us)) : PDef K (He.ga K x) m q st ps := by
  obtain ⟨fd, F⟩ := F
  obtain ⟨g1, g⟩ := He.ba g
  obtain ⟨g2, g⟩ := He.ba g
  obtain ⟨g3, g4⟩ := He.ba g
  refine ⟨He.ma K (He.ga K x) m, pgA x m K, fd, [], F, ⟨He.eqO_ok g1, He.eqO_ok g2, of_decide_eq_true g3, ?_⟩, bindsM hb F⟩
  have g4 := of_decide_eq_true g4
  cases e : PySem.W.recIn K (He.ma K (He.ga K x) m) "property" with
  | none => rw [e] at g4; cases g4
  | some l =>
    rw [e] at g4
    cases l with
    | nil => cases g4
    | cons a r =>
      have : a = .ref (pgA x m K) := Option.some.inj g4
      exact ⟨r, by rw [this]⟩
/-- an own class -/
def wcB (x : Str) (K : PySem.W.Frag) : Bool := (He.Fa.cls x).ok K && (PySem.W.makesIn K (He.ga K x) && (PySem.W.keepIn K (.ref (He.ga K x)) && (He.eqO (PySem.W.findIn K (.ref (He.ga K x)) "__class__") (some (some (.builtin "object.__class__"))) &&
  (He.eqO (PySem.W.specialIn K (.builtin "object.__class__") "__get__") (some (some (.builtin "getset_descriptor.__get__"))) && (decide (PySem.W.takesIn K (.builtin "object.__class__") = some true) && decide (PySem.W.mroIn K (He.ga K x) (.type "object") = some true))))))
theorem wc_w (X : K.In h) (G : h.Ns mainGlobals mg) (g : (He.Fa.glo x).ok K = true) (b : wcB x K = true) : WCls K mg x (He.ga K x) := by
  obtain ⟨b1, b⟩ := He.ba b
  obtain ⟨b2, b⟩ := He.ba b
  obtain ⟨b3, b⟩ := He.ba b
  obtain ⟨b4, b⟩ := He.ba b
  obtain ⟨b5, b⟩ := He.ba b
  obtain ⟨b6, b7⟩ := He.ba b
  exact ⟨He.cls_ok b1, He.glo_ok X G g, b2, b3, He.eqO_ok b4, He.eqO_ok b5, of_decide_eq_true b6, of_decide_eq_true b7⟩
/-- an own exception class -/
def exShape (C : Addr) (K : PySem.W.Frag) : Bool := match K.lookup C with
  | some ⟨.type "type", _, .cls cd, sl⟩ => (match cd.mro, sl.toList with
    | .ref C' :: bm, [_, _, _, _, some (.builtin n), _] => C' == C && n == "ValueError.__new__" && !cd.hasDel && cd.hasDict && PySem.HandSPX.refsVE bm
    | _, _ => false)
  | _ => false
theorem exShape_ok {C : Addr} (g : exShape C K = true) : ∃ nm q N bs bm sn sub ab col dd k0 k1 k2 k3 k5, K.lookup C = some (excClassObj nm q C N bs bm true sn sub ab col dd k0 k1 k2 k3 k5 "ValueError.__new__") ∧ PySem.HandSPX.refsVE bm = true := by
  unfold exShape at g
  split at g
  · rename_i dd cd sl ho
    split at g
    · rename_i C' bm k0 k1 k2 k3 n k5 hm hs
      simp only [Bool.and_eq_true, beq_iff_eq, Bool.not_eq_true'] at g
      obtain ⟨⟨⟨⟨rfl, rfl⟩, hdel⟩, hdc⟩, ht⟩ := g
      obtain ⟨nm, bs, mro, ns, qn, hd, sn, sub, ab, col, del⟩ := cd
      dsimp only at hm hdel hdc
      subst hm hdel hdc
      have hsl : sl = #[k0, k1, k2, k3, some (.builtin "ValueError.__new__"), k5] := by
        obtain ⟨l⟩ := sl
        simp only at hs
        rw [hs]
      subst hsl
      exact ⟨nm, qn, ns, bs, bm, sn, sub, ab, col, dd, k0, k1, k2, k3, k5, ho, ht⟩
    · cases g
  · cases g
def ecB (x : Str) (K : PySem.W.Frag) : Bool := exShape (He.ga K x) K && (He.eqO (PySem.W.findIn K (.ref (He.ga K x)) "__setattr__") (some (some (.builtin "object.__setattr__"))) && (decide (PySem.W.subIn K (.ref (He.ga K x)) (.type "BaseException") = some true) &&
  (decide (PySem.W.typeIn K (.ref (He.ga K x)) = some (.type "type")) && (PySem.W.keepIn K (.ref (He.ga K x)) && (xfB K (He.ga K x) && (He.eqO (PySem.W.findIn K (.ref (He.ga K x)) "__class__") (some (some (.builtin "object.__class__"))) &&
  (He.eqO (PySem.W.specialIn K (.builtin "object.__class__") "__get__") (some (some (.builtin "getset_descriptor.__get__"))) && (decide (PySem.W.takesIn K (.builtin "object.__class__") = some true) && (decide (PySem.W.mroIn K (He.ga K x) (.type "object") = some true) && PySem.W.isClsIn K (He.ga K x))))))))))
theorem ec_w (X : K.In h) (G : h.Ns mainGlobals mg) (g : (He.Fa.glo x).ok K = true) (b : ecB x K = true) : Ec K mg x (He.ga K x) := by
  obtain ⟨b1, b⟩ := He.ba b
  obtain ⟨b2, b⟩ := He.ba b
  obtain ⟨b3, b⟩ := He.ba b
  obtain ⟨b4, b⟩ := He.ba b
  obtain ⟨b5, b⟩ := He.ba b
  obtain ⟨b6, b⟩ := He.ba b
  obtain ⟨b7, b⟩ := He.ba b
  obtain ⟨b8, b⟩ := He.ba b
  obtain ⟨b9, b⟩ := He.ba b
  obtain ⟨b10, b11⟩ := He.ba b
  exact { gC := He.glo_ok X G g, ox := ⟨exShape_ok b1, He.eqO_ok b2, of_decide_eq_true b3, of_decide_eq_true b4, b5⟩, xf := xfB_ok b6, ca := He.eqO_ok b7, sg := He.eqO_ok b8, tk := of_decide_eq_true b9, mo := of_decide_eq_true b10, ic := b11 }
/-- its __init__ is found, its arguments are no names of the class -/
def xiB (x : Str) (gs : List Str) (K : PySem.W.Frag) : Bool := He.eqO (PySem.W.findIn K (.ref (He.ga K x)) "__init__") (some (some (.ref (He.ma K (He.ga K x) "__init__")))) && (decide (PySem.W.typeIn K (.ref (He.ma K (He.ga K x) "__init__")) = some (.type "function")) &&
  gs.all fun f => He.eqO (PySem.W.findIn K (.ref (He.ga K x)) f) (some none))
theorem xm_w {P : Program} {w : World} {base : Heap} {gs : List Str} (ec : Ec K mg x (He.ga K x)) (b : xiB x gs K = true) {fd : FuncData} (F : FnOk P w K mg base CX0 1 (He.ma K (He.ga K x) "__init__") fd ("self" :: gs) (spIni (He.ga K x) gs))
    (bi : Binds K fd ("self" :: gs) []) : Xm P w K mg base x (He.ga K x) gs := by
  obtain ⟨b1, b⟩ := He.ba b
  obtain ⟨b2, b3⟩ := He.ba b
  exact ⟨ec, fun f hf => He.eqO_ok (List.all_eq_true.mp b3 f hf), _, fd, He.eqO_ok b1, of_decide_eq_true b2, F, bi⟩
theorem xi_no {gs : List Str} (b : xiB x gs K = true) {f : Str} (hf : f ∈ gs) : PySem.W.findIn K (.ref (He.ga K x)) f = some none := by
  obtain ⟨b1, b⟩ := He.ba b
  obtain ⟨b2, b3⟩ := He.ba b
  exact He.eqO_ok (List.all_eq_true.mp b3 f hf)
/-- isinstance of an instance of x: the class c -/
def isB (x c : Str) (b : Bool) (K : PySem.W.Frag) : Bool := decide (PySem.W.kitOne K (.ref (He.ga K x)) (.ref (He.ga K c)) = some b)
theorem is_w {c : Str} {b : Bool} (X : K.In h) (G : h.Ns mainGlobals mg) (g : (He.Fa.glo c).ok K = true) (e : isB x c b K = true) : Isx K mg (He.ga K x) c b := ⟨_, He.glo_ok X G g, of_decide_eq_true e⟩
/-- an except clause's class takes it -/
def hnB (x c : Str) (b : Bool) (K : PySem.W.Frag) : Bool := decide (PySem.W.exmOne K (.ref (He.ga K x)) (.ref (He.ga K c)) = some b)
theorem hn_w {c : Str} {b : Bool} (X : K.In h) (G : h.Ns mainGlobals mg) (g : (He.Fa.glo c).ok K = true) (e : hnB x c b K = true) : Hnd K mg c (He.ga K x) b := ⟨_, He.glo_ok X G g, of_decide_eq_true e⟩
def ivB (x : Str) (K : PySem.W.Frag) : Bool := decide (PySem.W.kitOne K (.ref (He.ga K x)) (.type "ValueError") = some true)
end
end Hd

namespace Hd
open PySem PySem.Spec PyProof.Rows L2
/-! ### a def whose promise may speak of the size of the heap at its call -/
section
variable {P : Program} {w : World} {K : PySem.W.Frag} {mg : Str → Option Value} {base : Heap}
structure FnS (P : Program) (w : World) (K : PySem.W.Frag) (mg : Str → Option Value) (base : Heap) (k : Nat) (f : Addr) (fd : FuncData) (ps : List Str) (sp : Nat → Sp) : Prop where
  leS : ∀ n vs H Q E, sp n vs H Q E → vs.length = ps.length
  go : ∀ (A : Around) (st : List Env) (s : Shared) (H : Hp) (args : Args) (us : List Value) (vs : List V) (Q : VK) (E : XK), Room k A → Env0 P w K mg base A st s H → BindsTo s fd args (ps.zip us) → Vals vs us → sp s.heap.objs.size vs H Q E → codeAny (model P w) A (.call (.ref f) args) (CR CX0 st P w H s Q E) s
theorem funD_okS {m qual : Str} {ar : Arguments} {body : List Stmt} {sc : Scope} {dvs : List V} {kws : List (Str × V)} {f : Addr} {fd : FuncData} {N ps : List Str} {k : Nat} {sp : Nat → Sp} (F : FunD K m qual ar body sc dvs kws f fd) (S : FnScope N ps sc)
    (leS : ∀ n vs H Q E, sp n vs H Q E → vs.length = ps.length) (hb : ∀ (cdv : Value) (A : Around) (st : List Env) (s : Shared) (H : Hp) (vs : List V) (Q : VK) (E : XK), Room k (A.deeper (envOfC qual sc s.heap.objs.size f cdv)) → sp s.heap.objs.size vs H Q E →
      ∃ t, PSs (cxOf CX0 P w K mg base N qual sc f cdv A st s H E) body t ∧ t { nx := fun _ H' => Q .non H', rt := Q } (L2.start N vs) H) : FnS P w K mg base (k + 1) f fd ps sp := by
  obtain ⟨oc, od, dV, kV, doc, pm, an, cdv, ct, osl, rfl, lk, hcd, _, _⟩ := F.ex
  refine ⟨leS, fun A st s H args us vs Q E room env bd rel p => ?_⟩
  have n1 := leS _ _ _ _ _ p
  have inK : K.In s.heap := env.mod.kin.keeps (fun b o e => (env.bs b o e).1)
  have limit : s.heap.NoLimit := env.mod.nolimit.keeps (fun b o e => (env.bs b o e).1)
  have kinds : ∀ y ∈ ps.zip us, sc.names.lookup y.1 = some .local ∨ (sc.names.lookup y.1 = some .cell ∧ ((cellsFrom (s.heap.objs.size + 1) sc.names []).lookup y.1).isSome = true) := by
    rintro ⟨a, v⟩ hy
    exact (S.par a (List.of_mem_zip hy).1).imp id fun q => ⟨q, PySem.W.cellsFrom_some _ _ _ (.inl q)⟩
  refine codeAny_call_function room.depth (inK _ _ lk) rfl S.co S.gen rfl (PySem.W.codeRec_of inK hcd)
    (bd _ _ _ _ (wpAny_newFunctionEnv_cells S.kind kinds fun env' he s1 x => ?_))
  subst he
  refine ⟨limit.keeps x.toInCall.keep, codeAny_func ?_⟩
  obtain ⟨t, ht, z⟩ := hb cdv A st s H vs Q E (room.deeper _) p
  refine wpAny_mono (ht.run [] s1 (L2.start N vs) H _ (inv_start S room.hd env n1 rel x) z) (fun fl s' hs => ?_) (fun e s' hs => hs)
  cases fl with
  | ret u =>
    obtain ⟨v, σ', H', J, rv, r⟩ := hs
    exact ⟨v, H', J.os, J.bare, J.base, J.hok, rv, r⟩
  | next =>
    obtain ⟨σ', H', J, r⟩ := hs
    exact ⟨V.non, H', J.os, J.bare, J.base, J.hok, rfl, r⟩
  | brk =>
    obtain ⟨_, _, _, r⟩ := hs
    exact False.elim r
  | cont =>
    obtain ⟨_, _, _, r⟩ := hs
    exact False.elim r
def CalS (P : Program) (w : World) (K : PySem.W.Frag) (mg : Str → Option Value) (base : Heap) (C : Addr) (m : Str) (k : Nat) (ps : List Str) (sp : Nat → Sp) : Prop :=
  ∃ f fd, FnS P w K mg base k f fd ps sp ∧ PySem.W.findIn K (.ref C) m = some (some (.ref f)) ∧ PySem.W.isFn K (.ref f) = true ∧ Binds K fd ps []
theorem MDef.calS {C : Addr} {m qual : Str} {st : Stmt} {ps N : List Str} {k : Nat} {sp : Nat → Sp} (D : MDef K C m qual st ps) (S : FnScope N ps (defScope st)) (len : ∀ n vs H Q E, sp n vs H Q E → vs.length = ps.length)
    (hb : ∀ (f : Addr) (cdv : Value) (A : Around) (outer : List Env) (s : Shared) (H : Hp) (vs : List V) (Q : VK) (E : XK), Room k (A.deeper (envOfC qual (defScope st) s.heap.objs.size f cdv)) → sp s.heap.objs.size vs H Q E →
      ∃ t, PSs (cxOf CX0 P w K mg base N qual (defScope st) f cdv A outer s H E) (defBody st) t ∧ t { nx := fun _ H' => Q .non H', rt := Q } (L2.start N vs) H) : CalS P w K mg base C m (k + 1) ps sp := by
  obtain ⟨f, fd, dvs, F, g, isf, b⟩ := D
  exact ⟨f, fd, funD_okS F S len fun cdv A outer s H vs Q E hr h => hb f cdv A outer s H vs Q E hr h, g, isf, b⟩
end
/-! ### for x in o, its own __iter__ gives a list's iterator -/
section
variable {X : Cx} {C : Addr} {k : Nat} {ps : List Str}
/-- what such an __iter__ says: the field's list, a young iterator over it -/
def spIt (C : Addr) (fld : Str) (n : Nat) : Sp := fun vs H Q _ => ∃ x dx fs l xs, vs = [.ref x] ∧ H x = some (.ins C dx fs) ∧ fs.lookup fld = some (.ref l) ∧ H l = some (.lst xs) ∧ ∀ it, H it = none → n ≤ it → Q (.ref it) (upd H it (ItO l it 0))
def iWorld (K : PySem.W.Frag) (C : Addr) (fld : Str) (te : TE) : TI := fun σ H R => te σ H fun x H1 => ∃ a dx fs l xs, x = .ref a ∧ H1 a = some (.ins C dx fs) ∧ fs.lookup fld = some (.ref l) ∧ H1 l = some (.lst xs) ∧ R (Itl K l) H1
theorem itl0 {K : PySem.W.Frag} {l : Addr} : ItX.ItlF K l 0 = Itl K l := by
  unfold ItX.ItlF
  simp only [Nat.zero_add]
theorem pi_world {tg e : Expr} {te : TE} {fld : Str} (M : CalS X.prog X.w X.K X.mg X.base C "__iter__" k ps (spIt C fld)) (hr : Room k X.A) (he : PE X e te) : PI X tg e (iWorld X.K C fld te) := by
  refine ⟨fun pins s σ H R I h => ?_⟩
  refine thn (he.run pins s σ H _ I h) fun u s1 ⟨x, H1, I1, r1, a, dx, fs, l, xs, ex, ha, hf, hl, q⟩ => ?_
  subst ex
  cases r1
  obtain ⟨f, fd, F, found, isf, bd⟩ := M
  obtain ⟨mA, J, _⟩ := ins_get I1.hok ha
  obtain ⟨od, J, _⟩ := J.look
  obtain ⟨m0, hF⟩ := I1.fr
  have sp : spIt C fld s1.heap.objs.size [.ref a] H1 (fun v H2 => ∃ it, v = .ref it ∧ H1 it = none ∧ s1.heap.objs.size ≤ it ∧ H2 = upd H1 it (ItO l it 0)) E0 := ⟨a, dx, fs, l, xs, rfl, ha, hf, hl, fun it n1 n2 => ⟨it, rfl, n1, n2, rfl⟩⟩
  have len := F.leS _ _ _ _ _ sp
  refine PySem.W.owit_iter hF I1.ok.mod.kin J found isf (wpAny_call (codeAny_mono (F.go X.A X.stack s1 H1 ⟨[.ref a], []⟩ [.ref a] [.ref a] _ E0 hr I1.env0 (by
    have := bd s1 [.ref a] I1.kIn (by rw [List.append_nil]; exact len)
    rwa [List.append_nil] at this) (.cons rfl .nil) sp) fun res s' hq => ?_))
  cases res with
  | error er =>
    obtain ⟨_, _, _, _, _, _, _, _, _, _, _, _, z⟩ := hq
  | ok fl =>
    cases fl with
    | next => exact hq.elim
    | brk => exact hq.elim
    | cont => exact hq.elim
    | ret u =>
      obtain ⟨y, H', I', ry, it, rfl, n1, n2, rfl⟩ := I1.after hq
      cases ry
      have hi : upd H1 it (ItO l it 0) it = some (ItO l it 0) := upd_same
      have eo := itO_get I' hi
      have hT : s'.TypeIs (.ref it) "list_iterator" := ⟨_, eo, rfl⟩
      have st : s'.heap.IsListIter it l (0 + 0) := ⟨_, eo, rfl, rfl⟩
      unfold PySem.W.OwitIt
      refine wpAny_specialOf (name := Str.ofString "__next__") hT slot_listiter_next.lookup ?_
      have hi' := hi
      unfold ItO at hi'
      refine ⟨it, [it], _, _, _, rfl, ItX.inv_drop I' hi', ItX.turn_listF l it 0, st, fun b hb => ?_, ?_⟩
      · have e : b = it := by simpa using hb
        rw [e]
        exact ItX.inv_fp I' hi (Nat.le_trans I1.sz n2)
      · rw [itl0, ItX.dropH_upd n1]
        exact q
end
end Hd

namespace Hd
open PySem PySem.Spec PyProof.Rows L2
/-! ### t >= u -/
def geB (ns ms : List Int) : Bool := Ob.lexAt (fun j => decide (ns.getD j 0 = ms.getD j 0)) (fun j => decide (ns.getD j 0 ≥ ms.getD j 0)) (decide (ns.length ≥ ms.length)) 0 (min ns.length ms.length)
def rGeT (K : PySem.W.Frag) : R2 := fun x y H Q => ∃ (a b : Addr) (ns ms : List Int), x = .ref a ∧ y = .ref b ∧ SqT K H a (ns.map V.int) ∧ SqT K H b (ms.map V.int) ∧ Q (.bl (geB ns ms)) H
theorem op_geT {X : Cx} (hu : X.A.units < cLine) : OpR X (compareOp .GtE) (rGeT X.K) := by
  rintro pins s σ H x y v u Q I rx ry ⟨a, b, ns, ms, rfl, rfl, ha, hb, q⟩
  cases rx
  cases ry
  obtain ⟨i1, r1, p1, -⟩ := I.tuple ha
  obtain ⟨i2, r2, p2, -⟩ := I.tuple hb
  have k1 : IntsAre i1 ns := r1.ints
  have k2 : IntsAre i2 ms := r2.ints
  have z1 : i1.toArray.size = ns.length := List.size_toArray.trans k1.length
  have z2 : i2.toArray.size = ms.length := List.size_toArray.trans k2.length
  have g1 : ∀ j (h : j < i1.toArray.size), ∃ t, i1.toArray[j] = .int (ns.getD j 0) t := fun j h => k1.int_at _ _ (by simp at h; simp [h])
  have g2 : ∀ j (h : j < i2.toArray.size), ∃ t, i2.toArray[j] = .int (ms.getD j 0) t := fun j h => k2.int_at _ _ (by simp at h; simp [h])
  have R := Ob.RcOp.tuples_ge (A := X.A) (s := s) (e := fun j => decide (ns.getD j 0 = ms.getD j 0)) (r := fun j => decide (ns.getD j 0 ≥ ms.getD j 0)) p1 p2 hu
    (fun j h1 h2 => by
      obtain ⟨t, et⟩ := g1 j h1
      obtain ⟨t', et'⟩ := g2 j h2
      rw [et, et', show decide (ns.getD j 0 = ms.getD j 0) = (ns.getD j 0 == ms.getD j 0) from rfl]
      exact SeqAt.EqAt.int_int _ _ _ _)
    (fun j h1 h2 _ => by
      obtain ⟨t, et⟩ := g1 j h1
      obtain ⟨t', et'⟩ := g2 j h2
      rw [et, et']
      exact Ob.RcOp.ge_int _ _ _ _)
  rw [z1, z2] at R
  exact R X.prog X.w X.xe (EP X pins σ Q) ⟨.bl _, H, I, rfl, q⟩
theorem ge_at : ∀ (n i : Nat) (ns ms : List Int), ns.length = ms.length → ns.length = i + n → HT.lexLt (ns.drop i) (ms.drop i) = true → Ob.lexAt (fun j => decide (ns.getD j 0 = ms.getD j 0)) (fun j => decide (ns.getD j 0 ≥ ms.getD j 0)) (decide (ns.length ≥ ms.length)) i n = false
  | 0, i, ns, ms, e, l, h => by
    rw [List.drop_eq_nil_of_le (by omega), List.drop_eq_nil_of_le (by omega)] at h
    cases h
  | n + 1, i, ns, ms, e, l, h => by
    have l1 : i < ns.length := by omega
    have l2 : i < ms.length := by omega
    rw [List.drop_eq_getElem_cons l1, List.drop_eq_getElem_cons l2, HT.lexLt_cons] at h
    have d1 : ns.getD i 0 = ns[i] := by rw [List.getD_eq_getElem?_getD, List.getElem?_eq_getElem l1]; rfl
    have d2 : ms.getD i 0 = ms[i] := by rw [List.getD_eq_getElem?_getD, List.getElem?_eq_getElem l2]; rfl
    rw [Ob.lexAt_succ]
    by_cases c : ns[i] = ms[i]
    · rw [if_pos c] at h
      rw [if_pos (decide_eq_true (by rw [d1, d2, c]))]
      exact ge_at n (i + 1) ns ms e (by omega) h
    · rw [if_neg c] at h
      have := of_decide_eq_true h
      rw [if_neg (by rw [d1, d2]; simpa using c)]
      rw [d1, d2]
      exact decide_eq_false (by omega)
theorem ge_no {ns ms : List Int} (e : ns.length = ms.length) (h : HT.lexLt ns ms = true) : geB ns ms = false := by
  unfold geB
  rw [show min ns.length ms.length = ns.length by omega]
  exact ge_at ns.length 0 ns ms e (by omega) h
theorem op_geTK {X : Cx} {K : PySem.W.Frag} (hk : X.K = K) (hu : X.A.units < cLine) : OpR X (compareOp .GtE) (rGeT K) := hk ▸ op_geT hu
end Hd

namespace Hd
open PySem PySem.Spec PyProof.Rows L2
/-! ### a list, a tuple, or a tuple that is a constant of the module -/
abbrev KTup (K : PySem.W.Frag) (a : Addr) (xs : List V) : Prop := ∃ (o : Obj) (its : Array Value) (n : Nat), K.lookup a = some o ∧ o.cls = .type "tuple" ∧ o.data = .seq its n ∧ its.size ≤ sizeLine ∧ Vals xs its.toList
abbrev HasS (K : PySem.W.Frag) (H : Hp) (a : Addr) (xs : List V) : Prop := HasL H a xs ∨ KTup K a xs
theorem HasS.len {K : PySem.W.Frag} {H : Hp} {a : Addr} {xs : List V} (h : HasS K H a xs) : SqL K H a xs ∨ SqT K H a xs := h.elim (fun h => h.len) fun h => .inr (.inr h)
theorem HasS.lenV {K : PySem.W.Frag} {H : Hp} {a : Addr} {xs : List V} (h : HasS K H a xs) : LenV K (.ref a) H xs.length := h.len.imp (fun z => ⟨_, z, rfl⟩) fun z => ⟨_, z, rfl⟩
theorem HasS.up {K : PySem.W.Frag} {H H' : Hp} (g : Same H H') {a : Addr} {xs : List V} (h : HasS K H a xs) : HasS K H' a xs := h.imp (fun h => h.imp (g _ _) (g _ _)) id
end Hd

namespace Hd
open PySem PySem.Spec PyProof.Rows L2
/-! ### defs whose last parameter has an empty tuple as its default, called with and without it, and by its name -/
structure Bd (K : PySem.W.Frag) (fd : FuncData) (ps : List Str) (E : Addr) (kn : Str) : Prop where
  all : Binds K fd ps []
  dfl : Binds K fd ps [.ref E]
  kw : KBn K fd ps (ps.length - 1) [kn] (fun us ws => us ++ ws) (fun vs zs => vs ++ zs)
  emp : KTup K E []
def DefB (K : PySem.W.Frag) (mg : Str → Option Value) (x : Str) (st : Stmt) (ps : List Str) (E : Addr) (kn : Str) : Prop :=
  ∃ f fd, FunD K x x (defArgs st) (defBody st) (defScope st) [.ref E] [] f fd ∧ mg x = some (.ref f) ∧ Bd K fd ps E kn
def MDefB (K : PySem.W.Frag) (C : Addr) (m qual : Str) (st : Stmt) (ps : List Str) (E : Addr) (kn : Str) : Prop :=
  ∃ f fd, FunD K m qual (defArgs st) (defBody st) (defScope st) [.ref E] [] f fd ∧ PySem.W.findIn K (.ref C) m = some (some (.ref f)) ∧ PySem.W.isFn K (.ref f) = true ∧ Binds K fd ps [] ∧ Binds K fd ps [.ref E] ∧ KTup K E []
def CalB (P : Program) (w : World) (K : PySem.W.Frag) (mg : Str → Option Value) (base : Heap) (x : Str) (k : Nat) (ps : List Str) (sp : Sp) (E : Addr) (kn : Str) : Prop :=
  ∃ f fd, FnOk P w K mg base (L2N.CX P w) k f fd ps sp ∧ mg x = some (.ref f) ∧ PySem.W.keepIn K (.ref f) = true ∧ Bd K fd ps E kn
def CalMB (P : Program) (w : World) (K : PySem.W.Frag) (mg : Str → Option Value) (base : Heap) (C : Addr) (m : Str) (k : Nat) (ps : List Str) (sp : Sp) (E : Addr) : Prop :=
  ∃ f fd, FnOk P w K mg base (L2N.CX P w) k f fd ps sp ∧ PySem.W.findIn K (.ref C) m = some (some (.ref f)) ∧ PySem.W.isFn K (.ref f) = true ∧ PySem.W.keepIn K (.ref f) = true ∧ Binds K fd ps [] ∧ Binds K fd ps [.ref E] ∧ KTup K E []
section
variable {P : Program} {w : World} {K : PySem.W.Frag} {mg : Str → Option Value} {base : Heap} {x m qual kn : Str} {st : Stmt} {ps N : List Str} {k : Nat} {sp : Sp} {C E : Addr}
theorem CalB.cx (c : CalB P w K mg base x k ps sp E kn) : CalX P w K mg base x k ps sp := by
  obtain ⟨f, fd, F, g, kp, b⟩ := c
  exact ⟨f, fd, F, g, kp, b.all⟩
theorem CalMB.cx (c : CalMB P w K mg base C m k ps sp E) : CalM P w K mg base C m k ps sp := by
  obtain ⟨f, fd, F, g, i, kp, b, -⟩ := c
  exact ⟨f, fd, F, g, i, kp, b⟩
theorem CalB.emp (c : CalB P w K mg base x k ps sp E kn) : KTup K E [] := by
  obtain ⟨f, fd, F, g, kp, b⟩ := c
  exact b.emp
theorem CalMB.emp (c : CalMB P w K mg base C m k ps sp E) : KTup K E [] := by
  obtain ⟨f, fd, F, g, i, kp, b, b2, e⟩ := c
  exact e
theorem DefB.calB (D : DefB K mg x st ps E kn) (S : FnScope N ps (defScope st)) (len : ∀ vs H Q E, sp vs H Q E → vs.length = ps.length)
    (hb : ∀ (f : Addr) (cdv : Value) (A : Around) (outer : List Env) (s : Shared) (H : Hp) (vs : List V) (Q : VK) (E : XK), Room k (A.deeper (envOfC x (defScope st) s.heap.objs.size f cdv)) → sp vs H Q E →
      ∃ t, PSs (cxOf (L2N.CX P w) P w K mg base N x (defScope st) f cdv A outer s H E) (defBody st) t ∧ t { nx := fun _ H' => Q .non H', rt := Q } (start N vs) H) : CalB P w K mg base x (k + 1) ps sp E kn := by
  obtain ⟨f, fd, F, g, b⟩ := D
  exact ⟨f, fd, F.ok S len fun cdv A outer s H vs Q E hr h => hb f cdv A outer s H vs Q E hr h, g, F.kp, b⟩
theorem MDefB.calB (D : MDefB K C m qual st ps E kn) (S : FnScope N ps (defScope st)) (len : ∀ vs H Q E, sp vs H Q E → vs.length = ps.length)
    (hb : ∀ (f : Addr) (cdv : Value) (A : Around) (outer : List Env) (s : Shared) (H : Hp) (vs : List V) (Q : VK) (E : XK), Room k (A.deeper (envOfC qual (defScope st) s.heap.objs.size f cdv)) → sp vs H Q E →
      ∃ t, PSs (cxOf (L2N.CX P w) P w K mg base N qual (defScope st) f cdv A outer s H E) (defBody st) t ∧ t { nx := fun _ H' => Q .non H', rt := Q } (start N vs) H) : CalMB P w K mg base C m (k + 1) ps sp E := by
  obtain ⟨f, fd, F, g, i, b, b2, e⟩ := D
  exact ⟨f, fd, F.ok S len fun cdv A outer s H vs Q E hr h => hb f cdv A outer s H vs Q E hr h, g, i, F.kp, b, b2, e⟩
end
section
variable {X : Cx} {x kn : Str} {k : Nat} {ps : List Str} {sp : Sp} {C E : Addr} {e : Expr} {es : List Expr} {kws : List Keyword} {t tk : TA} {p pos : Pos}
/-- x(e, ..), the default filled up, where nothing is raised -/
theorem pe_calD (c : CalB X.prog X.w X.K X.mg X.base x k ps sp E kn) (hr : Room k X.A) (hg : Gl X x) (ha : PA X (e :: es) t) (hdb : (x == ("__debug__" : Str)) = false := by decide)
    (he : starEach (e :: es) X.env = (false, eval e X.env) :: starEach es X.env := by rfl) (hpl : (backTo pos (starEach es X.env)).any (·.1) = false := by rfl) : PE X (.Call (.Name x p) (e :: es) [] pos) (tCall sp [.ref E] E0 t) := by
  obtain ⟨f, fd, F, g, kp, b⟩ := c
  exact pe_call F hr hg g kp b.dfl (.cons rfl .nil) nothing_out ha hdb he hpl
/-- x(e, .., kn = v) -/
theorem pe_calK (c : CalB X.prog X.w X.K X.mg X.base x k ps sp E kn) (hr : Room k X.A) (hg : Gl X x) (ha : PA X (e :: es) t) (hkw : PK X kws tk) (hall : (backToKw pos (keywordEach kws X.env)).all (·.1.isSome) = true := by rfl) (hks : (backToKw pos (keywordEach kws X.env)).filterMap (·.1) = [kn] := by rfl)
    (hdb : (x == ("__debug__" : Str)) = false := by decide) (he : starEach (e :: es) X.env = (false, eval e X.env) :: starEach es X.env := by rfl)
    (hpl : ((backTo pos (starEach (e :: es) X.env)).any (·.1) || (backToKw pos (keywordEach kws X.env)).any (·.1.isNone)) = false := by rfl) : PE X (.Call (.Name x p) (e :: es) kws pos) (tCallN (ps.length - 1) 1 sp (fun vs zs => vs ++ zs) E0 t tk) := by
  obtain ⟨f, fd, F, g, kp, b⟩ := c
  exact pe_callN F hr hg g kp b.kw nothing_out ha hkw hall hks hdb he hpl
/-- C(e, ..), the default filled up, where nothing is raised -/
theorem pe_makeD (W : WCls X.K X.mg x C) (c : CalMB X.prog X.w X.K X.mg X.base C "__init__" k ps sp E) (hr : Room (k + 1) X.A) (hg : Gl X x) (ha : PA X (e :: es) t) (hdb : (x == ("__debug__" : Str)) = false := by decide)
    (he : starEach (e :: es) X.env = (false, eval e X.env) :: starEach es X.env := by rfl) (hpl : (backTo pos (starEach es X.env)).any (·.1) = false := by rfl) : PE X (.Call (.Name x p) (e :: es) [] pos) (tMake C sp [.ref E] E0 t) := by
  obtain ⟨f, fd, F, hf, isf, kf, b, b2, -⟩ := c
  exact pe_make ⟨W.mks, hf, isf, W.kp⟩ F hr hg W.gC b2 (.cons rfl .nil) nothing_out ha hdb he hpl
end
/-! ### where they come from -/
section
variable {K : PySem.W.Frag} {h : Heap} {mg : Str → Option Value} {x m q kn : Str} {st : Stmt} {ps : List Str} {E f : Addr} {fd : FuncData}
theorem binds_dfl (F : FunD K m q (defArgs st) (defBody st) (defScope st) [.ref E] [] f fd) (n : Nat) (hn : n + 1 = ps.length)
    (hb : ∀ (T : Addr) (kV doc pm : Value) (an : Option Addr) (cdv ct : Value) (us its : List Value), us.length = n → its.length = 1 →
      ∃ k, bindArgs (PySem.W.fnOf m q (defArgs st) (defBody st) (defScope st) (.ref T) kV doc pm an cdv ct) ⟨us, []⟩ = seqItems? (.ref T) >>= k ∧ k (some its.toArray) = pure (ps.zip (us ++ its.drop 0))) : Binds K fd ps [.ref E] := by
  obtain ⟨ds, hv, b⟩ := F.binds1 n 0 (by simp) (by simpa using hn) (fun T kV doc pm an cdv ct us its l1 l2 => hb T kV doc pm an cdv ct us its l1 (by simpa using l2))
  have : ds = [.ref E] := by
    cases hv with
    | cons r t =>
      cases t
      cases r
      rfl
  rw [← this]
  exact b
theorem kw_dfl (F : FunD K m q (defArgs st) (defBody st) (defScope st) [.ref E] [] f fd)
    (hb : ∀ (T : Addr) (kV doc pm : Value) (an : Option Addr) (cdv ct : Value) (us its ws : List Value), us.length = ps.length - 1 → its.length = 1 → ws.length = 1 →
      ∃ k, bindArgs (PySem.W.fnOf m q (defArgs st) (defBody st) (defScope st) (.ref T) kV doc pm an cdv ct) ⟨us, [kn].zip ws⟩ = seqItems? (.ref T) >>= k ∧ k (some its.toArray) = pure (ps.zip (us ++ ws))) : KBn K fd ps (ps.length - 1) [kn] (fun us ws => us ++ ws) (fun vs zs => vs ++ zs) := by
  obtain ⟨oc, od, dV, kV, doc, pm, an, cdv, ct, osl, rfl, lk, hcd, hD, hK⟩ := F.ex
  rcases hD with ⟨e, _⟩ | ⟨_, T, o, its, n, rfl, lT, oT, rT⟩
  · cases e
  · refine ⟨fun s us ws X l1 l2 => ?_, fun r1 r2 => r1.append r2⟩
    obtain ⟨k, e1, e2⟩ := hb T kV doc pm an cdv ct us its ws l1 rT.length.symm l2
    refine BindsTo.of_looks fun M => ?_
    rw [e1]
    exact looks_items X lT oT (PySem.W.Looks.of_pure e2)
end
section
variable {K : PySem.W.Frag} {h : Heap} {mg : Str → Option Value} {x m q kn : Str} {st : Stmt} {ps : List Str} {E : Addr}
theorem defB_w (X : K.In h) (G : h.Ns mainGlobals mg) (F : ∃ fd, FunD K x x (defArgs st) (defBody st) (defScope st) [.ref E] [] (He.ga K x) fd) (g : (He.Fa.glo x).ok K = true)
    (b1 : ∀ (T : Addr) (kV doc pm : Value) (an : Option Addr) (cdv ct : Value) (us its : List Value), us.length = ps.length → its.length = 1 →
      ∃ k, bindArgs (PySem.W.fnOf x x (defArgs st) (defBody st) (defScope st) (.ref T) kV doc pm an cdv ct) ⟨us, []⟩ = seqItems? (.ref T) >>= k ∧ k (some its.toArray) = pure (ps.zip (us ++ its.drop 1)))
    (n : Nat) (hn : n + 1 = ps.length)
    (b0 : ∀ (T : Addr) (kV doc pm : Value) (an : Option Addr) (cdv ct : Value) (us its : List Value), us.length = n → its.length = 1 →
      ∃ k, bindArgs (PySem.W.fnOf x x (defArgs st) (defBody st) (defScope st) (.ref T) kV doc pm an cdv ct) ⟨us, []⟩ = seqItems? (.ref T) >>= k ∧ k (some its.toArray) = pure (ps.zip (us ++ its.drop 0)))
    (bk : ∀ (T : Addr) (kV doc pm : Value) (an : Option Addr) (cdv ct : Value) (us its ws : List Value), us.length = ps.length - 1 → its.length = 1 → ws.length = 1 →
      ∃ k, bindArgs (PySem.W.fnOf x x (defArgs st) (defBody st) (defScope st) (.ref T) kV doc pm an cdv ct) ⟨us, [kn].zip ws⟩ = seqItems? (.ref T) >>= k ∧ k (some its.toArray) = pure (ps.zip (us ++ ws)))
    (et : KTup K E []) : DefB K mg x st ps E kn := by
  obtain ⟨fd, F⟩ := F
  exact ⟨_, fd, F, He.glo_ok X G g, ⟨bindsD F b1, binds_dfl F n hn b0, kw_dfl F bk, et⟩⟩
theorem mdefB_w (F : ∃ fd, FunD K m q (defArgs st) (defBody st) (defScope st) [.ref E] [] (He.ma K (He.ga K x) m) fd) (g : (He.Fa.meth x m).ok K = true)
    (b1 : ∀ (T : Addr) (kV doc pm : Value) (an : Option Addr) (cdv ct : Value) (us its : List Value), us.length = ps.length → its.length = 1 →
      ∃ k, bindArgs (PySem.W.fnOf m q (defArgs st) (defBody st) (defScope st) (.ref T) kV doc pm an cdv ct) ⟨us, []⟩ = seqItems? (.ref T) >>= k ∧ k (some its.toArray) = pure (ps.zip (us ++ its.drop 1)))
    (n : Nat) (hn : n + 1 = ps.length)
    (b0 : ∀ (T : Addr) (kV doc pm : Value) (an : Option Addr) (cdv ct : Value) (us its : List Value), us.length = n → its.length = 1 →
      ∃ k, bindArgs (PySem.W.fnOf m q (defArgs st) (defBody st) (defScope st) (.ref T) kV doc pm an cdv ct) ⟨us, []⟩ = seqItems? (.ref T) >>= k ∧ k (some its.toArray) = pure (ps.zip (us ++ its.drop 0)))
    (et : KTup K E []) : MDefB K (He.ga K x) m q st ps E kn := by
  obtain ⟨fd, F⟩ := F
  have M := He.meth_ok g
  exact ⟨_, fd, F, M.at_, M.fn, bindsD F b1, binds_dfl F n hn b0, et⟩
end
/-- the constant is an empty tuple -/
def etB (a : PySem.W.Frag → Addr) (K : PySem.W.Frag) : Bool := match K.lookup (a K) with
  | some ⟨.type t, _, .seq its _, _⟩ => t == "tuple" && its.size == 0
  | _ => false
theorem etB_ok {a : PySem.W.Frag → Addr} {K : PySem.W.Frag} (h : etB a K = true) : KTup K (a K) [] := by
  unfold etB at h
  cases e : K.lookup (a K) with
  | none => rw [e] at h; cases h
  | some o =>
    rw [e] at h
    obtain ⟨cls, d, data, sl⟩ := o
    cases cls <;> try cases h
    cases data <;> try cases h
    rename_i t its n
    have h : (t == "tuple" && its.size == 0) = true := h
    rw [Bool.and_eq_true] at h
    have e1 : t = "tuple" := beq_iff_eq.mp h.1
    have e2 : its.size = 0 := beq_iff_eq.mp h.2
    subst e1
    refine ⟨_, its, n, e, rfl, rfl, by rw [e2]; exact Nat.zero_le _, ?_⟩
    have : its.toList = [] := List.eq_nil_of_length_eq_zero (by rw [Array.length_toList]; exact e2)
    rw [this]
    exact .nil
end Hd

namespace Hd
open PySem PySem.Spec PyProof.Rows L2
/-! ### defs that may call repr: nothing is being shown around them -/
section
variable {P : Program} {w : World} {K : PySem.W.Frag} {mg : Str → Option Value} {base : Heap}
structure FnG (P : Program) (w : World) (K : PySem.W.Frag) (mg : Str → Option Value) (base : Heap) (k : Nat) (f : Addr) (fd : FuncData) (ps : List Str) (sp : Sp) : Prop where
  leG : ∀ vs H Q E, sp vs H Q E → vs.length = ps.length
  go : ∀ (A : Around) (st : List Env) (s : Shared) (H : Hp) (args : Args) (us : List Value) (vs : List V) (Q : VK) (E : XK), A.guards = some [] → Room k A → Env0 P w K mg base A st s H → BindsTo s fd args (ps.zip us) → Vals vs us → sp vs H Q E → codeAny (model P w) A (.call (.ref f) args) (CR CX0 st P w H s Q E) s
theorem fun_okG {x qual : Str} {st : Stmt} {f : Addr} {fd : FuncData} {N ps : List Str} {k : Nat} {sp : Sp} (F : Fun K x qual st f fd) (S : FnScope N ps (defScope st))
    (leG : ∀ vs H Q E, sp vs H Q E → vs.length = ps.length) (hb : ∀ (cdv : Value) (A : Around) (st' : List Env) (s : Shared) (H : Hp) (vs : List V) (Q : VK) (E : XK), A.guards = some [] → Room k (A.deeper (envOfC qual (defScope st) s.heap.objs.size f cdv)) → sp vs H Q E →
      ∃ t, PSs (cxOf CX0 P w K mg base N qual (defScope st) f cdv A st' s H E).nox (defBody st) t ∧ t { nx := fun _ H' => Q .non H', rt := Q } (L2.start N vs) H) : FnG P w K mg base (k + 1) f fd ps sp := by
  obtain ⟨oc, od, kV, doc, pm, an, cdv, ct, osl, rfl, lk, hcd⟩ := F.ex
  refine ⟨leG, fun A st' s H args us vs Q E g room env bd rel p => ?_⟩
  have n1 := leG _ _ _ _ p
  have inK : K.In s.heap := env.mod.kin.keeps (fun b o e => (env.bs b o e).1)
  have limit : s.heap.NoLimit := env.mod.nolimit.keeps (fun b o e => (env.bs b o e).1)
  have kinds : ∀ y ∈ ps.zip us, (defScope st).names.lookup y.1 = some .local ∨ ((defScope st).names.lookup y.1 = some .cell ∧ ((cellsFrom (s.heap.objs.size + 1) (defScope st).names []).lookup y.1).isSome = true) := by
    rintro ⟨a, v⟩ hy
    exact (S.par a (List.of_mem_zip hy).1).imp id fun q => ⟨q, PySem.W.cellsFrom_some _ _ _ (.inl q)⟩
  refine codeAny_call_function room.depth (inK _ _ lk) rfl S.co S.gen rfl (PySem.W.codeRec_of inK hcd)
    (bd _ _ _ _ (wpAny_newFunctionEnv_cells S.kind kinds fun env' he s1 x => ?_))
  subst he
  refine ⟨limit.keeps x.toInCall.keep, codeAny_func ?_⟩
  obtain ⟨t, ht, z⟩ := hb cdv A st' s H vs Q E g (room.deeper _) p
  refine wpAny_mono (ht.nox.run [] s1 (L2.start N vs) H _ (inv_start S room.hd env n1 rel x) z) (fun fl s' hs => ?_) (fun e s' hs => hs)
  cases fl with
  | ret u =>
    obtain ⟨v, σ', H', J, rv, r⟩ := hs
    exact ⟨v, H', J.os, J.bare, J.base, J.hok, rv, r⟩
  | next =>
    obtain ⟨σ', H', J, r⟩ := hs
    exact ⟨V.non, H', J.os, J.bare, J.base, J.hok, rfl, r⟩
  | brk =>
    obtain ⟨_, _, _, r⟩ := hs
    exact False.elim r
  | cont =>
    obtain ⟨_, _, _, r⟩ := hs
    exact False.elim r
def CalG (P : Program) (w : World) (K : PySem.W.Frag) (mg : Str → Option Value) (base : Heap) (x : Str) (k : Nat) (ps : List Str) (sp : Sp) : Prop :=
  ∃ f fd, FnG P w K mg base k f fd ps sp ∧ mg x = some (.ref f) ∧ PySem.W.keepIn K (.ref f) = true ∧ Binds K fd ps []
theorem Def.calG {x : Str} {st : Stmt} {ps N : List Str} {k : Nat} {sp : Sp} (D : Def K mg x st ps) (S : FnScope N ps (defScope st)) (len : ∀ vs H Q E, sp vs H Q E → vs.length = ps.length)
    (hb : ∀ (f : Addr) (cdv : Value) (A : Around) (outer : List Env) (s : Shared) (H : Hp) (vs : List V) (Q : VK) (E : XK), A.guards = some [] → Room k (A.deeper (envOfC x (defScope st) s.heap.objs.size f cdv)) → sp vs H Q E →
      ∃ t, PSs (cxOf CX0 P w K mg base N x (defScope st) f cdv A outer s H E).nox (defBody st) t ∧ t { nx := fun _ H' => Q .non H', rt := Q } (L2.start N vs) H) : CalG P w K mg base x (k + 1) ps sp := by
  obtain ⟨f, fd, F, g, b⟩ := D
  exact ⟨f, fd, fun_okG F S len fun cdv A outer s H vs Q E hg hr h => hb f cdv A outer s H vs Q E hg hr h, g, F.kp, b⟩
end
section
variable {X : Cx} {x : Str} {q pos : Pos} {e : Expr} {es : List Expr} {k : Nat} {ps : List Str} {sp : Sp} {t : TA}
theorem pe_calG (C : CalG X.prog X.w X.K X.mg X.base x k ps sp) (g : X.A.guards = some []) (hr : Room k X.A) (hg : Gl X x) (ha : PA X (e :: es) t) (hdb : (x == ("__debug__" : Str)) = false := by decide)
    (he : starEach (e :: es) X.env = (false, eval e X.env) :: starEach es X.env := by rfl) (hpl : (backTo pos (starEach es X.env)).any (·.1) = false := by rfl) :
    PE X (.Call (.Name x q) (e :: es) [] pos) (tCall sp [] E0 t) := by
  obtain ⟨f, fd, F, hm, kp, b⟩ := C
  constructor
  intro pins s σ H Q I h
  apply wpAny_Call_Name_kw (ld_glob I hg hm _ hdb)
  refine PySem.W.callWith_K (h₀ := X.base) I.ok.mod.kin kp (thn (ha.run pos pins s σ H _ I h) ?_) he hpl
  rintro us s1 ⟨vs, H1, I1, r, sq⟩
  rw [List.append_nil] at sq
  refine ⟨I1.kIn, wpAny_call ?_⟩
  have ln : us.length = ps.length := r.length.symm.trans (F.leG _ _ _ _ sq)
  have bd := b s1 us I1.kIn ((congrArg List.length (List.append_nil us)).trans ln)
  rw [List.append_nil] at bd
  refine codeAny_mono (F.go X.A X.stack s1 H1 ⟨us, []⟩ us vs _ _ g hr I1.env0 bd r sq) fun res s' hq => ?_
  cases res with
  | error er =>
    obtain ⟨_, _, _, _, _, _, _, _, _, _, _, _, z⟩ := hq
  | ok fl =>
    cases fl with
    | next => exact hq.elim
    | brk => exact hq.elim
    | cont => exact hq.elim
    | ret u => exact I1.after hq
/-- repr of nested data -/
theorem call_repr {X : Cx} (hu : X.A.units + 64 < cLine) (hg : X.A.guards = some []) : CallR X (.builtin "repr") (fun xs H Q => ∃ (a : Addr) (d : PyData), xs = [.ref a] ∧ Dp X.K H (.ref a) d ∧ d.showable = true ∧ d.hasDict = false ∧ d.depth < 60 ∧ d.shown.length ≤ sizeLine ∧ Q (.str d.shown) H) := by
  intro pins s σ H xs us Q I r h
  obtain ⟨a, d, rfl, dp, sh, nd, dd, sz, q⟩ := h
  obtain ⟨u, rfl, ru⟩ := vals1 r
  obtain ⟨as, rd⟩ := Dp.reads I d _ _ dp ru
  cases ru
  exact repr_of_reads' rd sh (PyData.noDict_hsm nd) hg (by omega) (fun b o e => e) (fun h' u tk k => ⟨.str d.shown, H, I.kept k, ⟨_, rfl⟩, q⟩) sz
end
end Hd
namespace Hd
open PySem PySem.Spec PyProof.Rows L2
/-! ### the law's own call: nothing is being shown -/
def EndOk (s0 : Shared) (r : Result) (s' : Shared) : Prop := r = .ok (.ret (.bool true)) ∧ OldK s0.heap s'.heap ∧ s'.os = s0.os ∧ AllBare s'.gens
/-- H tracks the script at most -/
structure Just (K : PySem.W.Frag) (P : Program) (w : World) (H : Hp) (a : Addr) (s0 : Shared) : Prop where
  only : Only H
  ok : HOk P w H s0.heap
  at_ : ∀ b, H b ≠ none → b = a ∧ K.lookup a = none
theorem endG {P : Program} {w : World} {K : PySem.W.Frag} {H : Hp} {a : Addr} {s0 s' : Shared} {r : Result} (J : Just K P w H a s0) (h : CR CX0 [] P w H s0 (fun v _ => v = .bl true) (fun _ _ _ => False) r s') : EndOk s0 r s' := by
  cases r with
  | error e =>
    obtain ⟨_, _, _, _, _, _, _, _, _, _, _, _, z⟩ := h
  | ok fl =>
    cases fl with
    | next => exact h.elim
    | brk => exact h.elim
    | cont => exact h.elim
    | ret u =>
      obtain ⟨v, H2, o, ag, U, ok2, rel, hv⟩ := h
      subst hv
      cases rel
      refine ⟨rfl, .of_keep fun b ob hob => ?_, o, ag⟩
      rcases J.only b with none_ | ⟨od, xs, some_⟩
      · exact U.keep b ob hob none_ (by intro z; cases z) (by intro z; cases z)
      · have before := (J.ok b _ some_).1
        have after := (ok2 b _ (U.frzs b od _ some_)).1
        rw [hob] at before
        cases before
        exact after
theorem law_callG {P : Program} {w : World} {K : PySem.W.Frag} {mg mb : Str → Option Value} {k : Nat} {fa a : Addr} {fd : FuncData} {x : Str} {sp : Sp} {s0 : Shared} {vs : List Value} {ns : List Int}
    (KX : K.In s0.heap) (nsG : s0.heap.Ns mainGlobals mg) (nsB : s0.heap.Ns builtinsNs mb) (bt : ∀ x : Str, x ≠ "__name__" → mb x = bootBuiltins x) (lim : s0.heap.NoLimit) (gens : s0.gens = #[])
    (scr : s0.heap.get? a = some { cls := .type "list", data := .seq vs.toArray }) (hi : IntsAre vs ns) (hl : ns.length ≤ sizeLine) (hr : Room k callerA)
    (F : ∀ base : Heap, K.In base → base.Ns mainGlobals mg → FnG P w K mg base k fa fd [x] sp) (hbind : ∀ (s : Shared) (u : Value), BindsTo s fd ⟨[u], []⟩ [(x, u)])
    (hsp : ∀ H : Hp, Only H → SqL K H a (ns.map V.int) → sp [.ref a] H (fun v _ => v = .bl true) fun _ _ _ => False) :
    codeAny (model P w) callerA (.call (.ref fa) ⟨[.ref a], []⟩) (EndOk s0) s0 := by
  have rel := vals_ints hi
  have main : ∀ H : Hp, Just K P w H a s0 → SqL K H a (ns.map V.int) → codeAny (model P w) callerA (.call (.ref fa) ⟨[.ref a], []⟩) (EndOk s0) s0 := fun H J sq => by
    have un : ∀ {b : Addr} {o : Obj}, s0.heap.get? b = some o → (b = a → K.lookup a = none → False) → H b = none := fun {b o} _ n => Classical.byContradiction fun z => n (J.at_ b z).1 (J.at_ b z).2
    have ns_ : ∀ {b : Addr} {m : Str → Option Value}, s0.heap.Ns b m → (hidT s0.heap H).Ns b m := fun {b m} z => by
      obtain ⟨o, es, ep, e, d, r⟩ := z
      refine ⟨o, es, ep, hidT_get e (un e fun q _ => ?_), d, r⟩
      subst q
      rw [scr] at e
      cases e
      cases d
    have KB : K.In (hidT s0.heap H) := fun b o e => hidT_get (KX b o e) (un (KX b o e) fun q n => by
      subst q
      rw [n] at e
      cases e)
    have md : Mod K mg (hidT s0.heap H) := by
      obtain ⟨mc, l1, l2⟩ := lim
      exact ⟨KB, ns_ nsG, ⟨mb, ns_ nsB, bt⟩, ⟨mc, ns_ l1, l2⟩⟩
    have env : Env0 P w K mg (hidT s0.heap H) callerA [] s0 H := by
      refine ⟨rfl, md, fun b o e => of_hidT e, Nat.le_of_eq (hidT_size _ _), trivial, fun b hb => ?_, J.ok, .of_eq gens⟩
      cases hb
    exact codeAny_mono ((F _ KB (ns_ nsG)).go callerA [] s0 H ⟨[.ref a], []⟩ [.ref a] [.ref a] _ _ rfl hr env (hbind s0 (.ref a)) (.cons rfl .nil) (hsp H J.only sq)) fun r s' h => endG J h
  cases hk : K.lookup a with
  | some o =>
    have e := KX a o hk
    rw [scr] at e
    cases e
    refine main (fun _ => none) ⟨fun _ => .inl rfl, (fun b u z => by cases z), fun b z => absurd rfl z⟩ (.inr ⟨_, vs.toArray, _, hk, rfl, rfl, rfl, ?_, ?_⟩)
    · rw [List.size_toArray, hi.length]
      exact hl
    · simpa using rel
  | none =>
    have one : ∀ (b : Addr) (u : HO), (if b = a then some (HO.frz { cls := .type "list", data := .seq vs.toArray } (.lst (ns.map V.int))) else none) = some u → b = a ∧ u = HO.frz { cls := .type "list", data := .seq vs.toArray } (.lst (ns.map V.int)) := fun b u z => by
      by_cases q : b = a
      · rw [if_pos q] at z
        exact ⟨q, (Option.some.inj z).symm⟩
      · rw [if_neg q] at z
        cases z
    refine main (fun b => if b = a then some (HO.frz { cls := .type "list", data := .seq vs.toArray } (.lst (ns.map V.int))) else none) ⟨fun b => ?_, fun b u z => ?_, fun b z => ?_⟩ (.inl (.inr ⟨_, if_pos rfl⟩))
    · by_cases q : b = a
      · exact .inr ⟨_, _, if_pos q⟩
      · exact .inl (if_neg q)
    · obtain ⟨rfl, rfl⟩ := one b u z
      refine ⟨scr, ?_, vs, _, rel, scr⟩
      rw [List.length_map]
      exact hl
    · by_cases q : b = a
      · exact ⟨q, hk⟩
      · exact absurd (if_neg q) z
theorem walk_ofG {l : PySem.W.OpenLaw} {n k : Nat} {q : Program} {loose : List Str} {XP : (Str → Option Value) → Heap → Prop} {YP : World → Heap → Prop} {d : DefRec} {x : Str}
    (hn : l.most = some n) (hn2 : n ≤ sizeLine) (hdf : d.params.defaults = []) (hr : Room k callerA)
    (F : ∀ (w : World) (mg : Str → Option Value) (fa : Addr) (h : Heap), YP w h → h.Ns mainGlobals mg → mg d.name = some (.ref fa) →
      ∃ (K : PySem.W.Frag) (fd : FuncData) (sp : Sp), K.In h ∧ (∀ (s : Shared) (u : Value), BindsTo s fd ⟨[u], []⟩ [(x, u)]) ∧
        (∀ (H : Hp) (a : Addr) (ns : List Int), ns.length ≤ n → Only H → SqL K H a (ns.map V.int) → sp [.ref a] H (fun v _ => v = .bl true) fun _ _ _ => False) ∧
        ∀ base : Heap, K.In base → base.Ns mainGlobals mg → FnG l.prog w K mg base k fa fd [x] sp) :
    PySem.W.WalkO q loose XP YP l.row.toRowW d [] (fun f vs => PySem.call f vs) := by
  refine Att.attach_call hn hdf fun w s0 s1 mg mb fa o pm cd doc a vs ns G Y ho hd hcd hmg hobj hints hlen hg => ?_
  obtain ⟨K, fd, sp, KX, hb, hsp, hF⟩ := F w mg fa _ Y G.T.g hmg
  exact law_callG KX G.T.g G.T.b G.T.builtins G.T.nolimit hg hobj hints (Nat.le_trans hlen hn2) hr hF hb fun H hO hS => hsp H a ns hlen hO hS
end Hd

namespace Hd
open PySem PySem.Spec PyProof.Rows L2
/-! ### d.keys(), list(d.keys()) -/
def keysO (p d : Addr) : HO := .ext fun h => PySem.W.KdlKeysView h p d
theorem keysO_ok {P : Program} {w : World} {H : Hp} {h : Heap} {p d : Addr} (e : h.get? p = some { cls := .type "dict_keys", data := .fields #[.ref d] }) : ObjOk P w H h p (keysO p d) := by
  refine ⟨⟨_, e, rfl, rfl⟩, ⟨_, e⟩, fun h1 h2 x k => ?_⟩
  obtain ⟨o, ho, r⟩ := x
  exact ⟨o, k o ho, r⟩
section
variable {X : Cx}
theorem mt_keys : MtR X "dict.keys" (fun x xs H Q => ∃ (a : Addr) (kvs : List (L2.Key × V)), x = .ref a ∧ xs = [] ∧ Rd H a (.dK kvs) ∧ ∀ p, H p = none → Q (.ref p) (upd H p (keysO p a))) := by
  intro pins s σ H x xs v us Q I rx rxs h
  obtain ⟨a, kvs, rfl, rfl, ha, q⟩ := h
  cases rx
  cases rxs
  obtain ⟨z, lo, vs, rel, dd⟩ := dk_rd I.hok ha
  have hf : H s.heap.objs.size = none := I.hok.fresh (Nat.le_refl _)
  refine call_meetsIn PySem.F.slot_dict_keys dd.typeIs PySem.F.entry_dict_keys (PySem.F.args_dict_keys_1 _) (PySem.W.kdl_meets_keys (mixKind X.prog X.w) a lo) ⟨⟨vs, dd⟩, ?_⟩
  exact ⟨.ref s.heap.objs.size, upd H s.heap.objs.size (keysO s.heap.objs.size a), I.laid (t' := s.toks) (fun b u e => Heap.get?_push_of_some _ e) (Nat.le_refl _) (keysO_ok (Heap.get?_push_size _ rfl)), rfl, q _ hf⟩
theorem call_listKv (hcalm : X.calm = true) : CallR X (.type "list") (fun xs H Q => ∃ (p a : Addr) (kvs : List (L2.Key × V)), xs = [.ref p] ∧ H p = some (keysO p a) ∧ Rd H a (.dK kvs) ∧ ∀ l, H l = none → Q (.ref l) (upd H l (.lst (kvs.map fun kv => kV kv.1)))) := by
  intro pins s σ H xs us Q I r q
  obtain ⟨p, a, kvs, rfl, hp, hd, q⟩ := q
  obtain ⟨u, rfl, rx⟩ := vals1 r
  cases rx
  obtain ⟨z, lo, vs, rel, dd⟩ := dk_rd I.hok hd
  obtain ⟨ep, hat⟩ := dd.dictAt
  have ek : (kvs.map fun kv => kV kv.1) = vs.map fun q => kV q.1 := by
    have e := congrArg (List.map kV) rel.keys
    rw [List.map_map, List.map_map] at e
    exact e
  have kv : PySem.W.KdlKeysView s.heap p a := (I.hok p _ hp).1
  refine PySem.W.kdl_call (PySem.W.kdl_keys (knd := mixKind X.prog X.w) (kvs := vs) (ep := ep)) (I.ok.hd hcalm) ⟨kv, hat⟩ (by rw [← rel.length]; exact z) fun h' tk acc c' hk hD hacc => ?_
  have hv : Vals (vs.map fun q => kV q.1) acc.toList := by
    refine keys_at ?_ fun j v e => ?_
    · rw [Array.length_toList]
      exact hacc.1
    · exact hacc.2 j v (by rw [← Array.getElem?_toList]; exact e)
  refine ⟨.ref s.heap.objs.size, upd H s.heap.objs.size (.lst (kvs.map fun kv => kV kv.1)), I.laid (t' := tk) hk (Nat.le_refl _) ?_, rfl, q _ (I.hok.fresh (Nat.le_refl _))⟩
  refine ⟨by rw [List.length_map]; exact z, acc.toList, c', by rw [ek]; exact hv, by rw [Array.toArray_toList]; exact hD⟩
end
/-! ### slices -/
theorem cut_toN {xs : List V} {n : Int} (h : 0 ≤ n) : cutV xs none (some n) = xs.take n.toNat := by
  obtain ⟨k, rfl⟩ : ∃ k : Nat, n = (k : Int) := ⟨n.toNat, by omega⟩
  unfold cutV
  rw [show HT.sIx xs.length xs.length (some (k : Int)) = min k xs.length from HT.sIx_nat xs.length xs.length k, HT.sIx_none, List.drop_zero, Nat.sub_zero, Int.toNat_natCast]
  exact List.take_eq_take_iff.mpr (by omega)
theorem cut_fromN {xs : List V} {n : Int} (h : 0 ≤ n) : cutV xs (some n) none = xs.drop n.toNat := by
  obtain ⟨k, rfl⟩ : ∃ k : Nat, n = (k : Int) := ⟨n.toNat, by omega⟩
  unfold cutV
  rw [show HT.sIx xs.length 0 (some (k : Int)) = min k xs.length from HT.sIx_nat xs.length 0 k, HT.sIx_none, Int.toNat_natCast]
  rw [List.take_of_length_le (by rw [List.length_drop]; omega)]
  rcases Nat.le_total k xs.length with z | z
  · rw [Nat.min_eq_left z]
  · rw [Nat.min_eq_right z, List.drop_length, List.drop_eq_nil_of_le z]
/-! ### rows of whole numbers, alike or not -/
section
variable {X : Cx}
/-- tuple(x) of a list or a tuple -/
def rTupW (K : PySem.W.Frag) : List V → Hp → VK → Prop := fun xs H Q => ∃ (p : Addr) (ys : List V), xs = [.ref p] ∧ (SqL K H p ys ∨ SqT K H p ys) ∧ ∀ (t : Addr) (H' : Hp), Same H H' → SqT K H' t ys → Q (.ref t) H'
theorem call_tupleW : CallR X (.type "tuple") (rTupW X.K) := callR_mono call_tuple_of fun xs H Q h => by
  obtain ⟨p, ys, rfl, hp, q⟩ := h
  refine ⟨p, ys, rfl, hp.imp (fun h => ⟨h, fun l hl => ?_⟩) fun h => ⟨h, q p H (Same.refl _) h⟩⟩
  exact q l _ (New.same (o := .tup ys) ⟨hl, rfl⟩) (.of upd_same)
theorem call_tupleWK {K : PySem.W.Frag} (hk : X.K = K) : CallR X (.type "tuple") (rTupW K) := hk ▸ call_tupleW
def rEqRow (K : PySem.W.Frag) : R2 := fun x y H Q => ∃ (a b : Addr) (ns ms : List Int), x = .ref a ∧ y = .ref b ∧ SqT K H a (ns.map V.int) ∧ SqT K H b (ms.map V.int) ∧ Q (.bl (decide (ns = ms))) H
def rNeRow (K : PySem.W.Frag) : R2 := fun x y H Q => ∃ (a b : Addr) (ns ms : List Int), x = .ref a ∧ y = .ref b ∧ SqT K H a (ns.map V.int) ∧ SqT K H b (ms.map V.int) ∧ Q (.bl (!decide (ns = ms))) H
theorem eqv_row (ns ms : List Int) : PyData.eqv (.tuple (ns.map .int)) (.tuple (ms.map .int)) = decide (ns = ms) := by
  rw [PyData.eqv, eqv_ints]
theorem op_eqRow (hu : X.A.units + 64 < cLine) : OpR X (compareOp .Eq) (rEqRow X.K) := opR_mono (op_eqD hu) fun x y H Q h => by
  obtain ⟨a, b, ns, ms, rfl, rfl, ha, hb, q⟩ := h
  refine ⟨.tuple (ns.map .int), .tuple (ms.map .int), .tup ha (DpAll.ints ns), .tup hb (DpAll.ints ms), row_shaped ns, row_shaped ms, ?_⟩
  rw [eqv_row]
  exact q
theorem op_neRow (hu : X.A.units + 64 < cLine) : OpR X (compareOp .NotEq) (rNeRow X.K) := opR_mono (op_neD hu) fun x y H Q h => by
  obtain ⟨a, b, ns, ms, rfl, rfl, ha, hb, q⟩ := h
  refine ⟨.tuple (ns.map .int), .tuple (ms.map .int), .tup ha (DpAll.ints ns), .tup hb (DpAll.ints ms), row_shaped ns, row_shaped ms, ?_⟩
  rw [eqv_row]
  exact q
theorem op_eqRowK {K : PySem.W.Frag} (hk : X.K = K) (hu : X.A.units + 64 < cLine) : OpR X (compareOp .Eq) (rEqRow K) := hk ▸ op_eqRow hu
theorem op_neRowK {K : PySem.W.Frag} (hk : X.K = K) (hu : X.A.units + 64 < cLine) : OpR X (compareOp .NotEq) (rNeRow K) := hk ▸ op_neRow hu
theorem op_eqDK {K : PySem.W.Frag} (hk : X.K = K) (hu : X.A.units + 64 < cLine) : OpR X (compareOp .Eq) (rEqD K) := hk ▸ op_eqD hu
theorem op_neDK {K : PySem.W.Frag} (hk : X.K = K) (hu : X.A.units + 64 < cLine) : OpR X (compareOp .NotEq) (rNeD K) := hk ▸ op_neD hu
end
end Hd

namespace Hd
open PySem PySem.Spec PyProof.Rows L2
/-! ### what may be shown -/
structure Shw (d : PyData) : Prop where
  sh : d.showable = true
  nd : d.hasDict = false
  dp : d.depth < 60
  fit : d.shown.length ≤ sizeLine
/-- an entry of what is shown -/
structure ShwE (d : PyData) : Prop where
  sh : d.showable = true
  nd : d.hasDict = false
  dp : d.depth ≤ 4
  ls : d.leavesShort 100 = true
  wt : d.weight ≤ 500
theorem showableAll_of : ∀ {ds : List PyData}, (∀ d ∈ ds, d.showable = true) → PyData.showableAll ds = true
  | [], _ => rfl
  | d :: ds, h => by
    show (d.showable && PyData.showableAll ds) = true
    rw [h d List.mem_cons_self, showableAll_of fun e he => h e (List.mem_cons_of_mem _ he)]
    rfl
theorem hasDictAll_of : ∀ {ds : List PyData}, (∀ d ∈ ds, d.hasDict = false) → PyData.hasDictAll ds = false
  | [], _ => rfl
  | d :: ds, h => by
    show (d.hasDict || PyData.hasDictAll ds) = false
    rw [h d List.mem_cons_self, hasDictAll_of fun e he => h e (List.mem_cons_of_mem _ he)]
    rfl
theorem leavesShortAll_of {B : Nat} : ∀ {ds : List PyData}, (∀ d ∈ ds, d.leavesShort B = true) → PyData.leavesShortAll B ds = true
  | [], _ => rfl
  | d :: ds, h => by
    show (d.leavesShort B && PyData.leavesShortAll B ds) = true
    rw [h d List.mem_cons_self, leavesShortAll_of fun e he => h e (List.mem_cons_of_mem _ he)]
    rfl
theorem depthAll_of {k : Nat} : ∀ {ds : List PyData}, (∀ d ∈ ds, d.depth ≤ k) → PyData.depthAll ds ≤ k
  | [], _ => Nat.zero_le _
  | d :: ds, h => by
    have h1 := h d List.mem_cons_self
    have h2 := depthAll_of fun e he => h e (List.mem_cons_of_mem _ he)
    show max d.depth (PyData.depthAll ds) ≤ k
    omega
theorem weightAll_of {k : Nat} : ∀ {ds : List PyData}, (∀ d ∈ ds, d.weight ≤ k) → PyData.weightAll ds ≤ (k + 1) * ds.length
  | [], _ => Nat.le_refl _
  | d :: ds, h => by
    have h1 := h d List.mem_cons_self
    have h2 := weightAll_of fun e he => h e (List.mem_cons_of_mem _ he)
    show d.weight + 1 + PyData.weightAll ds ≤ (k + 1) * (ds.length + 1)
    rw [Nat.mul_succ]
    omega
theorem shw_seq {t : Bool} {ds : List PyData} (h : ∀ d ∈ ds, ShwE d) (l : ds.length ≤ 300) : Shw (sqD t ds) := by
  have w := weightAll_of (k := 500) fun d hd => (h d hd).wt
  have s := showableAll_of fun d hd => (h d hd).sh
  have n := hasDictAll_of fun d hd => (h d hd).nd
  have p := depthAll_of (k := 4) fun d hd => (h d hd).dp
  have v := leavesShortAll_of (B := 100) fun d hd => (h d hd).ls
  have z : PyData.weightAll ds ≤ 150300 := Nat.le_trans w (by omega)
  have fit : ∀ d : PyData, d.leavesShort 100 = true → d.weight ≤ 150300 → d.shown.length ≤ sizeLine := fun d h1 h2 => by
    refine Nat.le_trans (PyData.shown_le 100 (by decide) d h1) ?_
    show 102 * d.weight + 100 ≤ 2 ^ 24
    omega
  cases t with
  | true => exact ⟨s, n, by show PyData.depthAll ds + 1 < 60; omega, fit (.tuple ds) v z⟩
  | false => exact ⟨s, n, by show PyData.depthAll ds + 1 < 60; omega, fit (.list ds) v z⟩
theorem ShwE.int {i : Int} (h : i.natAbs < 10 ^ 40) : ShwE (.int i) := by
  have lg : i.natAbs.log2 < 133 := by
    by_cases e : i.natAbs = 0
    · rw [e]; decide
    · rw [Nat.log2_lt e]
      exact Nat.lt_trans h (by decide +kernel)
  refine ⟨decide_eq_true (Nat.lt_trans lg (by decide)), rfl, Nat.zero_le _, decide_eq_true ?_, ?_⟩
  · have := int_text_length_le10 (k := 40) (by decide) h
    show (Str.ofString (toString i)).length ≤ 100
    rw [PySem.ofString_length]
    omega
  · show (if i == 0 then 0 else i.natAbs.log2 + 1) ≤ 500
    split <;> omega
theorem ShwE.small {i : Int} (h0 : -1000 ≤ i) (h1 : i ≤ 1000) : ShwE (.int i) := .int (Nat.lt_of_le_of_lt (show i.natAbs ≤ 1000 by omega) (by decide +kernel))
theorem shw_ints {t : Bool} {rs : List Int} (h : ∀ r ∈ rs, 0 ≤ r ∧ r < 1000) (l : rs.length ≤ 300) : Shw (sqD t (rs.map PyData.int)) := by
  refine shw_seq (fun d hd => ?_) (by rw [List.length_map]; exact l)
  obtain ⟨r, hr, rfl⟩ := List.mem_map.mp hd
  have := h r hr
  exact .small (by omega) (by omega)
section
variable {X : Cx}
theorem call_reprS (hu : X.A.units + 64 < cLine) (hg : X.A.guards = some []) : CallR X (.builtin "repr") (fun xs H Q => ∃ (a : Addr) (d : PyData), xs = [.ref a] ∧ Da H (.ref a) d ∧ Shw d ∧ Q (.str d.shown) H) := callR_mono (call_repr hu hg) fun xs H Q h => by
  obtain ⟨a, d, rfl, hd, s, q⟩ := h
  exact ⟨a, d, rfl, hd.dp, s.sh, s.nd, s.dp, s.fit, q⟩
end
end Hd

namespace Hd
open PySem PySem.Spec PyProof.Rows L2
/-! ### a comprehension within a comprehension's block -/
def relab (env : Env) : Str × NameKind → Str × NameKind := fun (n, k) => if (k == .free && env.scope.kind == .function && env.kindOf n == some .cell) then (n, .cell) else (n, k)
theorem relab_fst (env : Env) (p : Str × NameKind) : (relab env p).1 = p.1 ∧ (p.2 = .cell ∨ p.2 = .free → (relab env p).2 = .cell ∨ (relab env p).2 = .free) := by
  obtain ⟨n, k⟩ := p
  show (if (k == NameKind.free && env.scope.kind == .function && env.kindOf n == some .cell) = true then (n, NameKind.cell) else (n, k)).1 = n ∧ (k = .cell ∨ k = .free → (if (k == NameKind.free && env.scope.kind == .function && env.kindOf n == some .cell) = true then (n, NameKind.cell) else (n, k)).2 = .cell ∨ (if (k == NameKind.free && env.scope.kind == .function && env.kindOf n == some .cell) = true then (n, NameKind.cell) else (n, k)).2 = .free)
  split
  · exact ⟨rfl, fun _ => .inl rfl⟩
  · exact ⟨rfl, id⟩
theorem look_relab (env : Env) : ∀ {names : List (Str × NameKind)} {x : Str}, names.lookup x = some .cell ∨ names.lookup x = some .free → (names.map (relab env)).lookup x = some .cell ∨ (names.map (relab env)).lookup x = some .free
  | [], x, h => by simp at h
  | p :: r, x, h => by
    obtain ⟨e1, e2⟩ := relab_fst env p
    rw [List.map_cons]
    cases q : relab env p with
    | mk n k =>
      rw [q] at e1 e2
      simp only at e1 e2
      subst e1
      cases hx : x == p.1 with
      | true =>
        have a : ∀ {s : List (Str × NameKind)} {j : NameKind}, List.lookup x ((p.1, j) :: s) = some j := fun {s j} => by simp [List.lookup_cons, hx]
        rw [show p :: r = (p.1, p.2) :: r from rfl, a] at h
        rw [a]
        exact (e2 (h.imp Option.some.inj Option.some.inj)).imp (congrArg some) (congrArg some)
      | false =>
        have a : ∀ {s : List (Str × NameKind)} {j : NameKind}, List.lookup x ((p.1, j) :: s) = List.lookup x s := fun {s j} => by simp [List.lookup_cons, hx]
        rw [show p :: r = (p.1, p.2) :: r from rfl, a] at h
        rw [a]
        exact look_relab env h
theorem blkOk_in {N : List Str} {scope sc0 : Scope} {own : List (Str × Nat)} {Y : Cx} {s : Shared} {H : Hp} {cl : List (Str × Addr)} {C : Addr} {fp : List Addr} (h : blkC N sc0 scope own = true) (hN : Y.N = N := by rfl) :
    BlkOk (Y.blk s H sc0 (compEnvC sc0 cl C Y.env) fp).N (Y.blk s H sc0 (compEnvC sc0 cl C Y.env) fp).env.scope scope own := by
  have b := blkOk_by h
  rw [← hN] at b
  exact ⟨b.kind, b.uniq, b.ix, fun y hy e => look_relab Y.env (b.free y hy e), b.own⟩
section
variable {X : Cx} {K : PySem.W.Frag}
theorem pi_tupK {tg l : Expr} {tl : TE} (hk : X.K = K) (hl : PE X l tl) : PI X tg l (iTup K tl) := by
  subst hk
  exact pi_tup hl
theorem pi_listK {tg l : Expr} {tl : TE} (hk : X.K = K) (hl : PE X l tl) : PI X tg l (iList K tl) := by
  subst hk
  exact pi_list hl
end
end Hd

namespace Hd
open PySem PySem.Spec PyProof.Rows L2
section
variable {X : Cx} {p : Addr × Obj} {D d : Addr}
/-- isinstance(error, (C1, C2, ..)) -/
def rIsErrT (K : PySem.W.Frag) (p : Addr × Obj) (D d : Addr) : List V → Hp → VK → Prop := fun xs H Q => ∃ (tp : Addr) (cs : List V) (us : List Value) (b : Bool) (fs : List (Str × V)), xs = [.ref p.1, .ref tp] ∧ H tp = some (.tup cs) ∧ Paired ClsV cs us ∧ PySem.W.kitAny K (.ref D) us = some b ∧ ErrAt D d fs H p ∧ Q (.bl b) H
theorem call_isErrT {x : Str} (T : Ec X.K X.mg x D) (hp : p ∈ X.pn) : CallR X (.builtin "isinstance") (rIsErrT X.K p D d) := by
  rintro pins s σ H xs us Q I r ⟨tp, cs, ws, b, fs, rfl, hT, k, e, at_, q⟩
  cases r with
  | cons r1 rr =>
    cases rr with
    | cons r2 rr =>
      cases rr
      cases r1
      cases r2
      obtain ⟨od, mA, J, -⟩ := at_.inst hp I
      have kit := PySem.W.kitx_exc (x := p.1) (ox := p.2) (od := some od) T.ic T.xf.ga T.xf.gg T.xf.exC T.ca T.sg T.tk T.mo
      obtain ⟨_, its, rv, o, h1, h2, n, h3⟩ := I.hok tp _ hT
      have e3 := ClsV.all k rv
      subst e3
      obtain ⟨oc, od2, dt, sl⟩ := o
      simp only at h2 h3
      subst h2 h3
      exact PySem.W.kia_tup kit I.kIn J h1 e (fun z => nomatch z) fun tk => ⟨.bl b, H, I.kept (t' := tk) fun _ _ z => z, rfl, q⟩
/-- err.n, where the class has no n of its own -/
def tErrG (K : PySem.W.Frag) (p : Addr × Obj) (D d : Addr) (n : Str) (te : TE) : TE := fun σ H Q => te σ H fun x H1 => x = .ref p.1 ∧ PySem.W.findIn K (.ref D) n = some none ∧ ∃ (fs : List (Str × V)) (v : V), ErrAt D d fs H1 p ∧ fs.lookup n = some v ∧ Q v H1
theorem pe_errG {x : Str} {e : Expr} {te : TE} {pos : Pos} {n : Str} (T : Ec X.K X.mg x D) (hp : p ∈ X.pn) (he : PE X e te) (hb : attributeBase e n X.env (eval e X.env) = eval e X.env := by rfl) :
    PE X (.Attribute e n pos) (tErrG X.K p D d n te) := by
  constructor
  intro pins s σ H Q I h
  refine attr_of hb (thn (he.run pins s σ H _ I h) ?_)
  rintro u s1 ⟨y, H1, I1, ry, rfl, hno, fs, v, at_, l, q⟩
  obtain rfl : u = Value.ref p.1 := ry
  obtain ⟨od, mA, J, hns, hr, hl⟩ := at_.inst hp I1
  obtain ⟨u, hu, ru⟩ := RelO.some_of (v := v) (o := mA n) (by rw [← l]; exact hr n)
  exact HandSPX.exc_get I1.kIn J T.xf.ga T.xf.gg T.xf.exC (PySem.W.findObj_own T.xf.hdC hno rfl (by rw [hl, hu])) (handed_of ru) ⟨v, H1, I1.tok _, ru, q⟩
end
end Hd

namespace Hd
open PySem PySem.Spec PyProof.Rows L2
/-! ### all(list) while an exception is handled -/
theorem hotAt_keep {A : Around} {x1 : Addr} {h h' : Heap} (k : HotX.HotAt A x1 h) (e : ∀ o, h.get? x1 = some o → h'.get? x1 = some o) : HotX.HotAt A x1 h' := by
  obtain ⟨a, o, vs, b, c, d⟩ := k
  exact ⟨a, o, vs, e _ b, c, d⟩
theorem walks_hot {prog : Program} {w : World} {A : Around} {x1 : Addr} (it ax : Addr) (hne : ax ≠ it) (nx : x1 ≠ it) (items : Array Value) :
    Walks prog w A it [it, ax, x1] [it] items.size (fun i v => items[i]? = some v) (fun i h => h.IsListIter it ax i ∧ h.IsList ax items ∧ HotX.HotAt A x1 h) where
  sub := fun b hb => by
    rw [List.mem_singleton.mp hb]
    exact List.mem_cons_self
  frame := fun i h h' st k => ⟨st.1.at fun o e => k it (by simp) o e, st.2.1.at fun o e => k ax (by simp) o e, hotAt_keep st.2.2 fun o e => k x1 (by simp) o e⟩
  item := fun i s Q E hi st hQ => by
    refine wpAny_pyNext_list_item st.1 st.2.1 (x := items[i]) (by simp [hi]) fun h' hit' hs' => ?_
    exact hQ _ h' s.toks (by simp [hi]) ⟨hit', st.2.1.extBut hs'.extBut hne, hotAt_keep st.2.2 fun o e => hs'.extBut x1 o nx e⟩ fun b o hb e => hs'.extBut b o (fun h => hb (by simp [h])) e
  done := fun s Q E st hQ => listEnd_hot st.2.2 nx st.1 st.2.1 (by simp) fun h' he' => hQ h' s.toks fun b o hb e => he' b o (fun h => hb (by simp [h])) e
  self := fun i s Q E st hQ => wpAny_pyIter_listiter st.1 hQ
theorem cr_allH {X : Cx} (hot : L2H.HotC X) : CallR X (.builtin "all") (rAll X.K) := by
  intro pins s σ H vs us Q I r h
  obtain ⟨a, bs, rfl, hs, q⟩ := h
  obtain ⟨its, rv, hl, _⟩ := I.list hs
  rw [Vals.ref1 r]
  have hb := rv.bls
  obtain ⟨x1, hx⟩ := hot.at I
  refine call_all_walk (iter_any hl.isList fun s2 e2 st hne => ?_)
  subst e2
  have n1 : x1 ≠ s.heap.objs.size := by
    obtain ⟨_, o, _, e, _⟩ := hx
    exact Nat.ne_of_lt (Heap.lt_size e)
  refine ⟨_, _, _, _, _, _, _, rfl, walks_hot (A := X.A.in1) (x1 := x1) _ a hne n1 its.toArray, ⟨st.1, st.2, hotAt_keep (A := X.A.in1) (h := s.heap) hx fun o e => Heap.get?_push_of_some _ e⟩, truth_bools hb, fun h' tk hk => ?_⟩
  refine ⟨.bl _, H, I.kept fun b o eo => hk b o (fun hmem => ?_) (Heap.get?_push_of_some _ eo), ?_, q⟩
  · rcases List.mem_cons.mp hmem with e1 | hmem
    · exact absurd (e1 ▸ Heap.lt_size eo) (Nat.lt_irrefl _)
    · cases hmem
  · show Value.bool _ = Value.bool _
    rw [← L2.all_range, hb, List.size_toArray, List.length_map]
end Hd

namespace Hd
open PySem PySem.Spec PyProof.Rows L2
/-! ### rows, alike and their sizes -/
theorem ints_same : ∀ xs : List Int, sameL (xs.map PyData.int) (xs.map PyData.int) = true
  | [] => rfl
  | x :: xs => by
    show (sameD (.int x) (.int x) && sameL (xs.map PyData.int) (xs.map PyData.int)) = true
    rw [ints_same xs, show sameD (.int x) (.int x) = true from decide_eq_true rfl]
    rfl
theorem row_same (xs : List Int) : sameD (rowD xs) (rowD xs) = true := ints_same xs
theorem rows_same : ∀ T : List (List Int), sameL (T.map rowD) (T.map rowD) = true
  | [] => rfl
  | x :: xs => by
    show (sameD (rowD x) (rowD x) && sameL (xs.map rowD) (xs.map rowD)) = true
    rw [rows_same xs, row_same]
    rfl
theorem rows_sameD (T : List (List Int)) : sameD (.list (T.map rowD)) (.list (T.map rowD)) = true := rows_same T
theorem sz_rows {n : Int} (n12 : n ≤ 12) : ∀ {Ls : List (List Int)}, AllMv n Ls → szL (Ls.map rowD) ≤ 14 * Ls.length
  | [], _ => Nat.le_refl _
  | a :: Ls, h => by
    have h1 := sz_rows n12 fun b hb => h b (List.mem_cons_of_mem _ hb)
    have h2 := sz_ints a
    have h3 := (h a List.mem_cons_self).len
    show szD (rowD a) + szL (Ls.map rowD) ≤ _
    unfold rowD at *
    rw [List.length_cons]
    omega
end Hd

namespace Hd
open PySem PySem.Spec PyProof.Rows L2
section
variable {X : Cx}
/-- repr of any data -/
theorem call_reprV (hu : X.A.units + 64 < cLine) (hg : X.A.guards = some []) : CallR X (.builtin "repr") (fun xs H Q => ∃ (v : V) (d : PyData), xs = [v] ∧ Da H v d ∧ Shw d ∧ Q (.str d.shown) H) := by
  intro pins s σ H xs us Q I r h
  obtain ⟨v, d, rfl, hd, sh, q⟩ := h
  cases hd with
  | non =>
    obtain ⟨u, rfl, ru⟩ := vals1 r
    cases ru
    exact call_repr_gives (typeIs_none s) F.slot_NoneType_repr F.entry_NoneType_repr (F.args_NoneType_repr_1 _) gives_none_repr ⟨.str (PyData.none).shown, H, I.tok _, ⟨_, rfl⟩, q⟩ rfl (by decide)
  | bl b =>
    obtain ⟨u, rfl, ru⟩ := vals1 r
    cases ru
    exact call_repr_gives (PySem.typeIs_bool s b) F.slot_bool_repr F.entry_bool_repr (F.args_bool_repr_1 _) (gives_bool_repr b) ⟨.str (PyData.bool b).shown, H, I.tok _, ⟨_, rfl⟩, q⟩ rfl (by cases b <;> decide)
  | int i =>
    obtain ⟨u, rfl, t, rfl⟩ := vals1 r
    exact PySem.P.repr_of_int (of_decide_eq_true sh.sh) ⟨.str _, H, I.tok _, ⟨_, rfl⟩, q⟩
  | str x =>
    obtain ⟨u, rfl, t, rfl⟩ := vals1 r
    exact call_repr_gives (typeIs_str s x t) F.slot_str_repr F.entry_str_repr (F.args_str_repr_1 _) (gives_str_repr x t) ⟨.str (PyData.str x).shown, H, I.tok _, ⟨_, rfl⟩, q⟩ rfl sh.fit
  | lst a b => exact call_reprS hu hg pins s σ H _ us Q I r ⟨_, _, rfl, .lst a b, sh, q⟩
  | tup a b => exact call_reprS hu hg pins s σ H _ us Q I r ⟨_, _, rfl, .tup a b, sh, q⟩
end
end Hd

namespace Hd
open PySem PySem.Spec PyProof.Rows L2
/-! ### moves made out of others, one that is new at a time -/
theorem aft_inj {h : List Int} {n : Int} (mv : IsMv h n) : ∀ {a b : List Int}, RowIn n a → RowIn n b → aft a h = aft b h → a = b
  | [], [], _, _, _ => rfl
  | [], y :: b, _, _, e => by cases e
  | x :: a, [], _, _, e => by cases e
  | x :: a, y :: b, ra, rb, e => by
    have e : stp h x :: aft a h = stp h y :: aft b h := e
    injection e with e1 e2
    rw [stp_inj mv (ra x List.mem_cons_self) (rb y List.mem_cons_self) e1, aft_inj mv (fun p hp => ra p (List.mem_cons_of_mem _ hp)) (fun p hp => rb p (List.mem_cons_of_mem _ hp)) e2]
theorem nodup_map {f : List Int → List Int} : ∀ {K : List (List Int)}, K.Nodup → (∀ a ∈ K, ∀ b ∈ K, f a = f b → a = b) → (K.map f).Nodup
  | [], _, _ => .nil
  | x :: K, nd, inj => by
    obtain ⟨n1, n2⟩ := List.nodup_cons.mp nd
    rw [List.map_cons]
    refine List.nodup_cons.mpr ⟨fun h => ?_, nodup_map n2 fun a ha b hb => inj a (List.mem_cons_of_mem _ ha) b (List.mem_cons_of_mem _ hb)⟩
    obtain ⟨y, hy, e⟩ := List.mem_map.mp h
    rw [inj y (List.mem_cons_of_mem _ hy) x List.mem_cons_self e] at hy
    exact n1 hy
theorem grp_inj {n : Int} {T K : List (List Int)} (n0 : 0 ≤ n) (mv : AllMv n T) (g : Grp n T K) {h : List Int} (mh : IsMv h n) : ∀ a ∈ K, ∀ b ∈ K, aft a h = aft b h → a = b := fun a ha b hb e =>
  aft_inj mh (made_mv n0 mv ((g.mem a).mp ha)).row (made_mv n0 mv ((g.mem b).mp hb)).row e
theorem grp_inv {n : Int} {T K : List (List Int)} (n0 : 0 ≤ n) (mv : AllMv n T) (g : Grp n T K) {h : List Int} (hh : h ∈ K) : ∃ u ∈ K, aft u h = rngI n := by
  have mh := made_mv n0 mv ((g.mem h).mp hh)
  by_cases z : rngI n ∈ K.map fun u => aft u h
  · obtain ⟨u, hu, e⟩ := List.mem_map.mp z
    exact ⟨u, hu, e⟩
  · exfalso
    have nd := nodup_map g.asc.nodup (grp_inj n0 mv g mh)
    have := len_sub (L := K.erase (rngI n)) nd fun w hw => by
      obtain ⟨u, hu, rfl⟩ := List.mem_map.mp hw
      exact (List.mem_erase_of_ne fun e => z (by rw [← e]; exact hw)).mpr ((g.mem _).mpr (made_comp n0 mv ((g.mem u).mp hu) ((g.mem h).mp hh)))
    rw [List.length_map, List.length_erase_of_mem g.still] at this
    have := List.length_pos_of_mem g.still
    omega
theorem allmv_app {n : Int} {T : List (List Int)} {g : List Int} (mv : AllMv n T) (mg : IsMv g n) : AllMv n (T ++ [g]) := fun m hm => (List.mem_append.mp hm).elim (mv m) fun h => by
  rw [List.mem_singleton.mp h]
  exact mg
theorem grp_double {n : Int} {T K K' : List (List Int)} {g : List Int} (n0 : 0 ≤ n) (mv : AllMv n T) (mg : IsMv g n) (gK : Grp n T K) (gK' : Grp n (T ++ [g]) K') (no : ¬ Mk' n T g) : 2 * K.length ≤ K'.length := by
  have up : ∀ {w}, Mk' n T w → Mk' n (T ++ [g]) w := fun h => Rch.mono (fun m hm => List.mem_append_left _ hm) h
  have nd : (K ++ K.map fun h => aft h g).Nodup := by
    refine List.nodup_append.mpr ⟨gK.asc.nodup, nodup_map gK.asc.nodup (grp_inj n0 mv gK mg), fun a ha b hb e => ?_⟩
    obtain ⟨h, hh, rfl⟩ := List.mem_map.mp hb
    obtain ⟨u, hu, eu⟩ := grp_inv n0 mv gK hh
    have mu := made_mv n0 mv ((gK.mem u).mp hu)
    have mh := made_mv n0 mv ((gK.mem h).mp hh)
    have e2 : aft u a = g := by
      rw [e, ← aft_assoc mu mh, eu, rng_aft mg]
    refine no ?_
    rw [← e2]
    exact made_comp n0 mv ((gK.mem u).mp hu) ((gK.mem a).mp ha)
  have := len_sub (L := K') nd fun w hw => (List.mem_append.mp hw).elim (fun h => (gK'.mem w).mpr (up ((gK.mem w).mp h))) fun h => by
    obtain ⟨v, hv, rfl⟩ := List.mem_map.mp h
    exact (gK'.mem _).mpr (.step (up ((gK.mem v).mp hv)) (List.mem_append_right _ (List.mem_singleton.mpr rfl)))
  rw [List.length_append, List.length_map] at this
  omega
open Classical in
theorem grp_in {n : Int} {U T L : List (List Int)} (n0 : 0 ≤ n) (mv : AllMv n U) (g : Grp n U L) (sub : ∀ m ∈ T, m ∈ L) : ∃ K, Grp n T K ∧ ∀ w ∈ K, w ∈ L := by
  refine ⟨L.filter fun w => decide (Mk' n T w), ⟨List.Pairwise.filter _ g.asc, fun w => ?_⟩, fun w hw => (List.mem_filter.mp hw).1⟩
  rw [List.mem_filter, decide_eq_true_eq]
  exact ⟨fun h => h.2, fun h => ⟨(g.mem w).mpr (made_sub n0 mv (fun m hm => (g.mem m).mp (sub m hm)) h), h⟩⟩
open Classical in
/-- the moves of M that are made out of the earlier ones -/
noncomputable def grdS (n : Int) (T : List (List Int)) (m : List Int) : List (List Int) := if Mk' n T m then T else T ++ [m]
noncomputable def grd (n : Int) (M : List (List Int)) : List (List Int) := M.foldl (grdS n) []
theorem grd_step {n : Int} {M : List (List Int)} {i : Nat} {m : List Int} (h : M[i]? = some m) : grd n (M.take (i + 1)) = grdS n (grd n (M.take i)) m := by
  unfold grd
  rw [List.take_add_one, h, List.foldl_append]
  rfl
theorem grd_ok {n : Int} {U L M : List (List Int)} (n0 : 0 ≤ n) (mv : AllMv n U) (g : Grp n U L) (sub : ∀ m ∈ M, m ∈ L) : ∀ i : Nat, i ≤ M.length →
    (∀ m ∈ grd n (M.take i), m ∈ M) ∧ (∀ m ∈ M.take i, Mk' n (grd n (M.take i)) m) ∧ ∃ K, Grp n (grd n (M.take i)) K ∧ 2 ^ (grd n (M.take i)).length ≤ K.length ∧ ∀ w ∈ K, w ∈ L
  | 0, _ => ⟨fun m hm => (by cases hm), fun m hm => (by rw [List.take_zero] at hm; cases hm), [rngI n], .none, Nat.le_refl _, fun w hw => by rw [List.mem_singleton.mp hw]; exact g.still⟩
  | i + 1, hi => by
    obtain ⟨a, b, K, gK, k1, k2⟩ := grd_ok n0 mv g sub i (by omega)
    have hm : M[i]? = some M[i] := List.getElem?_eq_getElem (by omega)
    have mM := List.mem_of_getElem? hm
    generalize M[i] = m at hm mM
    have mvm : IsMv m n := made_mv n0 mv ((g.mem m).mp (sub m mM))
    have tk : ∀ x, x ∈ M.take (i + 1) → x ∈ M.take i ∨ x = m := fun x hx => by
      rw [List.take_add_one, hm] at hx
      exact (List.mem_append.mp hx).imp id fun z => List.mem_singleton.mp z
    rw [grd_step hm]
    generalize grd n (M.take i) = T at a b gK k1
    have mvT : AllMv n T := fun w hw => made_mv n0 mv ((g.mem w).mp (sub w (a w hw)))
    by_cases c : Mk' n T m
    · rw [show grdS n T m = T from if_pos c]
      exact ⟨a, fun x hx => (tk x hx).elim (b x) fun e => e ▸ c, K, gK, k1, k2⟩
    · rw [show grdS n T m = T ++ [m] from if_neg c]
      have sub' : ∀ x ∈ T ++ [m], x ∈ M := fun x hx => (List.mem_append.mp hx).elim (a x) fun z => by rw [List.mem_singleton.mp z]; exact mM
      obtain ⟨K', gK', s'⟩ := grp_in n0 mv g fun x hx => sub x (sub' x hx)
      have := grp_double n0 mvT mvm gK gK' c
      refine ⟨sub', fun x hx => (tk x hx).elim (fun h => Rch.mono (fun y hy => List.mem_append_left _ hy) (b x h)) fun e => ?_, K', gK', ?_, s'⟩
      · rw [e]
        exact made_told (allmv_app mvT mvm) (List.mem_append_right _ (List.mem_singleton.mpr rfl))
      · rw [List.length_append, List.length_singleton, Nat.pow_succ]
        omega
end Hd

namespace Hd
open PySem PySem.Spec PyProof.Rows L2
def topS (i : Nat) : Stmt := PySem.Challenge.pw_heldorder_k21_common_held.main.body.getD i (.Pass ⟨0, 0, 0, 0⟩)
abbrev s_is_number : Stmt := topS 37
theorem sc_is_number : FnScope ["value", "low", "high"] ["value", "low", "high"] (defScope s_is_number) := ⟨rfl, rfl, rfl, by decide +kernel, rfl, by decide +kernel, by decide +kernel⟩
abbrev s_is_point : Stmt := topS 38
theorem sc_is_point : FnScope ["points", "value"] ["points", "value"] (defScope s_is_point) := ⟨rfl, rfl, rfl, by decide +kernel, rfl, by decide +kernel, by decide +kernel⟩
abbrev s_is_move_on : Stmt := topS 39
theorem sc_is_move_on : FnScope ["points", "value", "image"] ["points", "value"] (defScope s_is_move_on) := ⟨rfl, rfl, rfl, by decide +kernel, rfl, by decide +kernel, by decide +kernel⟩
abbrev s_check_number : Stmt := topS 40
theorem sc_check_number : FnScope ["value", "low", "high"] ["value", "low", "high"] (defScope s_check_number) := ⟨rfl, rfl, rfl, by decide +kernel, rfl, by decide +kernel, by decide +kernel⟩
abbrev s_check_points : Stmt := topS 41
theorem sc_check_points : FnScope ["value"] ["value"] (defScope s_check_points) := ⟨rfl, rfl, rfl, by decide +kernel, rfl, by decide +kernel, by decide +kernel⟩
abbrev s_check_moves : Stmt := topS 42
theorem sc_check_moves : FnScope ["points", "moves", "what", "limit", "index", "value"] ["points", "moves", "what", "limit"] (defScope s_check_moves) := ⟨rfl, rfl, rfl, by decide +kernel, rfl, by decide +kernel, by decide +kernel⟩
abbrev s_held_by_all : Stmt := topS 44
theorem sc_held_by_all : FnScope ["points", "moves", "point", "move"] ["points", "moves"] (defScope s_held_by_all) := ⟨rfl, rfl, rfl, by decide +kernel, rfl, by decide +kernel, by decide +kernel⟩
abbrev s_common_held : Stmt := topS 45
theorem sc_common_held : FnScope ["points", "moves"] ["points", "moves"] (defScope s_common_held) := ⟨rfl, rfl, rfl, by decide +kernel, rfl, by decide +kernel, by decide +kernel⟩
abbrev s_law_store : Stmt := topS 47
theorem sc_law_store : FnScope ["script", "cell"] ["script"] (defScope s_law_store) := ⟨rfl, rfl, rfl, by decide +kernel, rfl, by decide +kernel, by decide +kernel⟩
abbrev s_law_mixed : Stmt := topS 48
theorem sc_law_mixed : FnScope ["seed", "turn", "first", "second"] ["seed", "turn"] (defScope s_law_mixed) := ⟨rfl, rfl, rfl, by decide +kernel, rfl, by decide +kernel, by decide +kernel⟩
abbrev s_law_take : Stmt := topS 49
theorem sc_law_take : FnScope ["store", "many", "cell", "digit"] ["store", "many"] (defScope s_law_take) := ⟨rfl, rfl, rfl, by decide +kernel, rfl, by decide +kernel, by decide +kernel⟩
abbrev s_law_pick : Stmt := topS 50
theorem sc_law_pick : FnScope ["store", "things"] ["store", "things"] (defScope s_law_pick) := ⟨rfl, rfl, rfl, by decide +kernel, rfl, by decide +kernel, by decide +kernel⟩
abbrev s_law_place : Stmt := topS 51
theorem sc_law_place : FnScope ["store", "size", "pick"] ["store", "size"] (defScope s_law_place) := ⟨rfl, rfl, rfl, by decide +kernel, rfl, by decide +kernel, by decide +kernel⟩
abbrev s_law_drawn : Stmt := topS 52
theorem sc_law_drawn : FnScope ["store", "things", "many", "pool", "found", "k", "at"] ["store", "things", "many"] (defScope s_law_drawn) := ⟨rfl, rfl, rfl, by decide +kernel, rfl, by decide +kernel, by decide +kernel⟩
abbrev s_law_either : Stmt := topS 53
theorem sc_law_either : FnScope ["store", "entries"] ["store", "entries"] (defScope s_law_either) := ⟨rfl, rfl, rfl, by decide +kernel, rfl, by decide +kernel, by decide +kernel⟩
abbrev s_law_after : Stmt := topS 54
theorem sc_law_after : FnScope ["first", "second", "p"] ["first", "second"] (defScope s_law_after) := ⟨rfl, rfl, rfl, by decide +kernel, rfl, by decide +kernel, by decide +kernel⟩
abbrev s_law_renamed : Stmt := topS 55
theorem sc_law_renamed : FnScope ["move", "by", "image", "k"] ["move", "by"] (defScope s_law_renamed) := ⟨rfl, rfl, rfl, by decide +kernel, rfl, by decide +kernel, by decide +kernel⟩
abbrev s_law_move : Stmt := topS 56
theorem sc_law_move : FnScope ["store", "points", "pick", "image", "size", "ring_row", "k", "shift"] ["store", "points"] (defScope s_law_move) := ⟨rfl, rfl, rfl, by decide +kernel, rfl, by decide +kernel, by decide +kernel⟩
abbrev s_law_group : Stmt := topS 57
theorem sc_law_group : FnScope ["points", "told", "most", "still", "queue", "seen", "at", "move", "image"] ["points", "told", "most"] (defScope s_law_group) := ⟨rfl, rfl, rfl, by decide +kernel, rfl, by decide +kernel, by decide +kernel⟩
abbrev s_law_alike : Stmt := topS 58
theorem sc_law_alike : FnScope ["one", "two", "k"] ["one", "two"] (defScope s_law_alike) := ⟨rfl, rfl, rfl, by decide +kernel, rfl, by decide +kernel, by decide +kernel⟩
abbrev s_law_wrong_move : Stmt := topS 59
theorem sc_law_wrong_move : FnScope ["store", "move", "size", "entries", "pick", "at"] ["store", "move"] (defScope s_law_wrong_move) := ⟨rfl, rfl, rfl, by decide +kernel, rfl, by decide +kernel, by decide +kernel⟩
abbrev s_law_spoil : Stmt := topS 60
theorem sc_law_spoil : FnScope ["given"] ["given"] (defScope s_law_spoil) := ⟨rfl, rfl, rfl, by decide +kernel, rfl, by decide +kernel, by decide +kernel⟩
abbrev s_law_arena_menu : Stmt := topS 61
theorem sc_law_arena_menu : FnScope ["store", "pick"] ["store"] (defScope s_law_arena_menu) := ⟨rfl, rfl, rfl, by decide +kernel, rfl, by decide +kernel, by decide +kernel⟩
abbrev s_law_turned_blocks : Stmt := topS 62
theorem sc_law_turned_blocks : FnScope ["store", "points", "sizes", "k", "told", "j", "image", "size", "base", "shift", "sign"] ["store", "points"] (defScope s_law_turned_blocks) := ⟨rfl, rfl, rfl, by decide +kernel, rfl, by decide +kernel, by decide +kernel⟩
abbrev s_law_arena_told : Stmt := topS 63
theorem sc_law_arena_told : FnScope ["store", "points", "pick", "size", "k"] ["store", "points"] (defScope s_law_arena_told) := ⟨rfl, rfl, rfl, by decide +kernel, rfl, by decide +kernel, by decide +kernel⟩
abbrev s_law_arena : Stmt := topS 64
theorem sc_law_arena : FnScope ["store", "share", "points", "drawn", "most", "told", "by", "move", "kept", "made", "wider", "k"] ["store"] (defScope s_law_arena) := ⟨rfl, rfl, rfl, by decide +kernel, rfl, by decide +kernel, by decide +kernel⟩
abbrev s_law_error : Stmt := topS 65
theorem sc_law_error : FnScope ["error", "found"] ["error"] (defScope s_law_error) := ⟨rfl, rfl, rfl, by decide +kernel, rfl, by decide +kernel, by decide +kernel⟩
abbrev s_law_refused_as : Stmt := topS 66
theorem sc_law_refused_as : FnScope ["error", "due"] ["error", "due"] (defScope s_law_refused_as) := ⟨rfl, rfl, rfl, by decide +kernel, rfl, by decide +kernel, by decide +kernel⟩
abbrev s_law_listed : Stmt := topS 67
theorem sc_law_listed : FnScope ["store", "points", "made", "pick", "lot", "moves", "size", "move", "k", "p"] ["store", "points", "made"] (defScope s_law_listed) := ⟨rfl, rfl, rfl, by decide +kernel, rfl, by decide +kernel, by decide +kernel⟩
abbrev s_law_wrong_moves : Stmt := topS 68
theorem sc_law_wrong_moves : FnScope ["store", "points", "moves", "still", "value", "entry", "bent", "at"] ["store", "points", "moves"] (defScope s_law_wrong_moves) := ⟨rfl, rfl, rfl, by decide +kernel, rfl, by decide +kernel, by decide +kernel⟩
abbrev s_law_wrong_number : Stmt := topS 69
theorem sc_law_wrong_number : FnScope ["store", "great", "odd"] ["store"] (defScope s_law_wrong_number) := ⟨rfl, rfl, rfl, by decide +kernel, rfl, by decide +kernel, by decide +kernel⟩
abbrev s_law_common_due : Stmt := topS 70
theorem sc_law_common_due : FnScope ["store", "points", "moves", "due", "handed", "before", "p", "move"] ["store", "points", "moves"] (defScope s_law_common_due) := ⟨rfl, rfl, rfl, by decide +kernel, rfl, by decide +kernel, by decide +kernel⟩
abbrev s_law_refusing : Stmt := topS 71
theorem sc_law_refusing : FnScope ["points", "handed", "due", "before", "error"] ["points", "handed", "due"] (defScope s_law_refusing) := ⟨rfl, rfl, rfl, by decide +kernel, rfl, by decide +kernel, by decide +kernel⟩
abbrev s_law : Stmt := topS 72
theorem sc_law : FnScope ["script", "store", "drawn", "points", "moves", "bad", "value", "handed", "twice", "more"] ["script"] (defScope s_law) := ⟨rfl, rfl, rfl, by decide +kernel, rfl, by decide +kernel, by decide +kernel⟩
structure Zs (mg : Str → Option Value) : Prop where
  z_ValueError : mg "ValueError" = none
  z_isinstance : mg "isinstance" = none
  z_int : mg "int" = none
  z_bool : mg "bool" = none
  z_str : mg "str" = none
  z_tuple : mg "tuple" = none
  z_list : mg "list" = none
  z_len : mg "len" = none
  z_range : mg "range" = none
  z_all : mg "all" = none
  z_sorted : mg "sorted" = none
  z_min : mg "min" = none
  z_sum : mg "sum" = none
  z_enumerate : mg "enumerate" = none
  z_repr : mg "repr" = none
  c_MOST_POINTS : ∃ t, mg "MOST_POINTS" = some (.int 12 t)
  c_MOST_LIST : ∃ t, mg "MOST_LIST" = some (.int 400 t)
structure Ds (K : PySem.W.Frag) (mg : Str → Option Value) : Prop where
  d_is_number : Def K mg "is_number" s_is_number ["value", "low", "high"]
  d_is_point : Def K mg "is_point" s_is_point ["points", "value"]
  d_is_move_on : Def K mg "is_move_on" s_is_move_on ["points", "value"]
  d_check_number : Def K mg "check_number" s_check_number ["value", "low", "high"]
  d_check_points : Def K mg "check_points" s_check_points ["value"]
  d_check_moves : Def K mg "check_moves" s_check_moves ["points", "moves", "what", "limit"]
  d_held_by_all : Def K mg "held_by_all" s_held_by_all ["points", "moves"]
  d_common_held : Def K mg "common_held" s_common_held ["points", "moves"]
  d_law_store : Def K mg "_law_store" s_law_store ["script"]
  d_law_mixed : Def K mg "_law_mixed" s_law_mixed ["seed", "turn"]
  d_law_take : Def K mg "_law_take" s_law_take ["store", "many"]
  d_law_pick : Def K mg "_law_pick" s_law_pick ["store", "things"]
  d_law_place : Def K mg "_law_place" s_law_place ["store", "size"]
  d_law_drawn : Def K mg "_law_drawn" s_law_drawn ["store", "things", "many"]
  d_law_either : Def K mg "_law_either" s_law_either ["store", "entries"]
  d_law_after : Def K mg "_law_after" s_law_after ["first", "second"]
  d_law_renamed : Def K mg "_law_renamed" s_law_renamed ["move", "by"]
  d_law_move : Def K mg "_law_move" s_law_move ["store", "points"]
  d_law_group : Def K mg "_law_group" s_law_group ["points", "told", "most"]
  d_law_alike : Def K mg "_law_alike" s_law_alike ["one", "two"]
  d_law_wrong_move : Def K mg "_law_wrong_move" s_law_wrong_move ["store", "move"]
  d_law_spoil : Def K mg "_law_spoil" s_law_spoil ["given"]
  d_law_arena_menu : Def K mg "_law_arena_menu" s_law_arena_menu ["store"]
  d_law_turned_blocks : Def K mg "_law_turned_blocks" s_law_turned_blocks ["store", "points"]
  d_law_arena_told : Def K mg "_law_arena_told" s_law_arena_told ["store", "points"]
  d_law_arena : Def K mg "_law_arena" s_law_arena ["store"]
  d_law_error : Def K mg "_law_error" s_law_error ["error"]
  d_law_refused_as : Def K mg "_law_refused_as" s_law_refused_as ["error", "due"]
  d_law_listed : Def K mg "_law_listed" s_law_listed ["store", "points", "made"]
  d_law_wrong_moves : Def K mg "_law_wrong_moves" s_law_wrong_moves ["store", "points", "moves"]
  d_law_wrong_number : Def K mg "_law_wrong_number" s_law_wrong_number ["store"]
  d_law_common_due : Def K mg "_law_common_due" s_law_common_due ["store", "points", "moves"]
  d_law_refusing : Def K mg "_law_refusing" s_law_refusing ["points", "handed", "due"]
/-- the class named nm at D, the k-th of those that are told apart -/
structure Es (K : PySem.W.Frag) (mg : Str → Option Value) (k : Nat) (nm : Str) (D : Addr) : Prop where
  ec : Ec K mg nm D
  lt : k < 32
  i_BadNumber : Isx K mg D "BadNumber" (k == 0)
  i_NotAMove : Isx K mg D "NotAMove" (k == 1)
  i_TooMany : Isx K mg D "TooMany" (k == 2)
  i_BadEdit : Isx K mg D "BadEdit" (k == 3)
  i_BadText : Isx K mg D "BadText" (k == 4)
  i_FullLot : Isx K mg D "FullLot" (k == 5)
  i_GameOver : Isx K mg D "GameOver" (k == 6)
  i_NoSuchLength : Isx K mg D "NoSuchLength" (k == 7)
  i_NotABase : Isx K mg D "NotABase" (k == 8)
  i_NotAChain : Isx K mg D "NotAChain" (k == 9)
  i_NotAColumn : Isx K mg D "NotAColumn" (k == 10)
  i_NotACount : Isx K mg D "NotACount" (k == 11)
  i_NotAFailing : Isx K mg D "NotAFailing" (k == 12)
  i_NotAPaper : Isx K mg D "NotAPaper" (k == 13)
  i_NotAPoint : Isx K mg D "NotAPoint" (k == 14)
  i_NotAWord : Isx K mg D "NotAWord" (k == 15)
  i_NotAllowed : Isx K mg D "NotAllowed" (k == 16)
  i_NotAnOrder : Isx K mg D "NotAnOrder" (k == 17)
  i_NotFull : Isx K mg D "NotFull" (k == 18)
  i_NotInside : Isx K mg D "NotInside" (k == 19)
  i_NotMade : Isx K mg D "NotMade" (k == 20)
  i_NotNeighbours : Isx K mg D "NotNeighbours" (k == 21)
  i_NotShorter : Isx K mg D "NotShorter" (k == 22)
  i_NotTight : Isx K mg D "NotTight" (k == 23)
  i_NothingKept : Isx K mg D "NothingKept" (k == 24)
  i_NothingToRedo : Isx K mg D "NothingToRedo" (k == 25)
  i_NothingToUndo : Isx K mg D "NothingToUndo" (k == 26)
  i_OrderMatters : Isx K mg D "OrderMatters" (k == 27)
  i_RepeatedPoint : Isx K mg D "RepeatedPoint" (k == 28)
  i_SameLength : Isx K mg D "SameLength" (k == 29)
  i_UnknownName : Isx K mg D "UnknownName" (k == 30)
  i_UnlikeSizes : Isx K mg D "UnlikeSizes" (k == 31)
  iH : Isx K mg D "HeldorderError" true
  hH : Hnd K mg "HeldorderError" D true
  iV : PySem.W.kitOne K (.ref D) (.type "ValueError") = some true
abbrev s_ini_BadNumber : Stmt := (clsB (topS 4)).getD 0 (.Pass ⟨0, 0, 0, 0⟩)
theorem sc_ini_BadNumber : FnScope ["self", "value", "low", "high"] ["self", "value", "low", "high"] (defScope s_ini_BadNumber) := ⟨rfl, rfl, rfl, by decide +kernel, rfl, by decide +kernel, by decide +kernel⟩
abbrev s_ini_NotAMove : Stmt := (clsB (topS 6)).getD 0 (.Pass ⟨0, 0, 0, 0⟩)
theorem sc_ini_NotAMove : FnScope ["self", "index"] ["self", "index"] (defScope s_ini_NotAMove) := ⟨rfl, rfl, rfl, by decide +kernel, rfl, by decide +kernel, by decide +kernel⟩
abbrev s_ini_TooMany : Stmt := (clsB (topS 7)).getD 0 (.Pass ⟨0, 0, 0, 0⟩)
theorem sc_ini_TooMany : FnScope ["self", "what", "limit"] ["self", "what", "limit"] (defScope s_ini_TooMany) := ⟨rfl, rfl, rfl, by decide +kernel, rfl, by decide +kernel, by decide +kernel⟩
def faL : List He.Fa := ([.glo "law", .free "ValueError", .free "isinstance", .free "int", .free "bool", .free "str", .free "tuple", .free "list", .free "len", .free "range", .free "all", .free "sorted", .free "min", .free "sum", .free "enumerate", .free "repr", .int "MOST_POINTS" 12, .int "MOST_LIST" 400, .glo "is_number", .glo "is_point", .glo "is_move_on", .glo "check_number", .glo "check_points", .glo "check_moves", .glo "held_by_all", .glo "common_held", .glo "_law_store", .glo "_law_mixed", .glo "_law_take", .glo "_law_pick", .glo "_law_place", .glo "_law_drawn", .glo "_law_either", .glo "_law_after", .glo "_law_renamed", .glo "_law_move", .glo "_law_group", .glo "_law_alike", .glo "_law_wrong_move", .glo "_law_spoil"] : List (He.Fa)) ++ ([.glo "_law_arena_menu", .glo "_law_turned_blocks", .glo "_law_arena_told", .glo "_law_arena", .glo "_law_error", .glo "_law_refused_as", .glo "_law_listed", .glo "_law_wrong_moves", .glo "_law_wrong_number", .glo "_law_common_due", .glo "_law_refusing", .glo "BadNumber", .glo "NotAMove", .glo "TooMany", .glo "BadEdit", .glo "BadText", .glo "FullLot", .glo "GameOver", .glo "NoSuchLength", .glo "NotABase", .glo "NotAChain", .glo "NotAColumn", .glo "NotACount", .glo "NotAFailing", .glo "NotAPaper", .glo "NotAPoint", .glo "NotAWord", .glo "NotAllowed", .glo "NotAnOrder", .glo "NotFull", .glo "NotInside", .glo "NotMade", .glo "NotNeighbours", .glo "NotShorter", .glo "NotTight", .glo "NothingKept", .glo "NothingToRedo", .glo "NothingToUndo", .glo "OrderMatters", .glo "RepeatedPoint"] : List (He.Fa)) ++ ([.glo "SameLength", .glo "UnknownName", .glo "UnlikeSizes", .glo "HeldorderError"] : List (He.Fa))
def fnL : List He5.DefA := ([dFn "law" s_law, dFn "is_number" s_is_number, dFn "is_point" s_is_point, dFn "is_move_on" s_is_move_on, dFn "check_number" s_check_number, dFn "check_points" s_check_points, dFn "check_moves" s_check_moves, dFn "held_by_all" s_held_by_all, dFn "common_held" s_common_held, dFn "_law_store" s_law_store, dFn "_law_mixed" s_law_mixed, dFn "_law_take" s_law_take, dFn "_law_pick" s_law_pick, dFn "_law_place" s_law_place, dFn "_law_drawn" s_law_drawn, dFn "_law_either" s_law_either, dFn "_law_after" s_law_after, dFn "_law_renamed" s_law_renamed, dFn "_law_move" s_law_move, dFn "_law_group" s_law_group, dFn "_law_alike" s_law_alike, dFn "_law_wrong_move" s_law_wrong_move, dFn "_law_spoil" s_law_spoil, dFn "_law_arena_menu" s_law_arena_menu, dFn "_law_turned_blocks" s_law_turned_blocks, dFn "_law_arena_told" s_law_arena_told, dFn "_law_arena" s_law_arena, dFn "_law_error" s_law_error, dFn "_law_refused_as" s_law_refused_as, dFn "_law_listed" s_law_listed, dFn "_law_wrong_moves" s_law_wrong_moves, dFn "_law_wrong_number" s_law_wrong_number, dFn "_law_common_due" s_law_common_due, dFn "_law_refusing" s_law_refusing, dMe "BadNumber" "__init__" "BadNumber.__init__" s_ini_BadNumber, dMe "NotAMove" "__init__" "NotAMove.__init__" s_ini_NotAMove, dMe "TooMany" "__init__" "TooMany.__init__" s_ini_TooMany] : List (He5.DefA))
def exL : List (PySem.W.Frag → Bool) := ([ecB "BadNumber", isB "BadNumber" "BadNumber" true, isB "BadNumber" "NotAMove" false, isB "BadNumber" "TooMany" false, isB "BadNumber" "BadEdit" false, isB "BadNumber" "BadText" false, isB "BadNumber" "FullLot" false, isB "BadNumber" "GameOver" false, isB "BadNumber" "NoSuchLength" false, isB "BadNumber" "NotABase" false, isB "BadNumber" "NotAChain" false, isB "BadNumber" "NotAColumn" false, isB "BadNumber" "NotACount" false, isB "BadNumber" "NotAFailing" false, isB "BadNumber" "NotAPaper" false, isB "BadNumber" "NotAPoint" false, isB "BadNumber" "NotAWord" false, isB "BadNumber" "NotAllowed" false, isB "BadNumber" "NotAnOrder" false, isB "BadNumber" "NotFull" false, isB "BadNumber" "NotInside" false, isB "BadNumber" "NotMade" false, isB "BadNumber" "NotNeighbours" false, isB "BadNumber" "NotShorter" false, isB "BadNumber" "NotTight" false, isB "BadNumber" "NothingKept" false, isB "BadNumber" "NothingToRedo" false, isB "BadNumber" "NothingToUndo" false, isB "BadNumber" "OrderMatters" false, isB "BadNumber" "RepeatedPoint" false, isB "BadNumber" "SameLength" false, isB "BadNumber" "UnknownName" false, isB "BadNumber" "UnlikeSizes" false, isB "BadNumber" "HeldorderError" true, hnB "BadNumber" "HeldorderError" true, ivB "BadNumber", xiB "BadNumber" ["value", "low", "high"], ecB "NotAMove", isB "NotAMove" "BadNumber" false, isB "NotAMove" "NotAMove" true] : List (PySem.W.Frag → Bool)) ++ ([isB "NotAMove" "TooMany" false, isB "NotAMove" "BadEdit" false, isB "NotAMove" "BadText" false, isB "NotAMove" "FullLot" false, isB "NotAMove" "GameOver" false, isB "NotAMove" "NoSuchLength" false, isB "NotAMove" "NotABase" false, isB "NotAMove" "NotAChain" false, isB "NotAMove" "NotAColumn" false, isB "NotAMove" "NotACount" false, isB "NotAMove" "NotAFailing" false, isB "NotAMove" "NotAPaper" false, isB "NotAMove" "NotAPoint" false, isB "NotAMove" "NotAWord" false, isB "NotAMove" "NotAllowed" false, isB "NotAMove" "NotAnOrder" false, isB "NotAMove" "NotFull" false, isB "NotAMove" "NotInside" false, isB "NotAMove" "NotMade" false, isB "NotAMove" "NotNeighbours" false, isB "NotAMove" "NotShorter" false, isB "NotAMove" "NotTight" false, isB "NotAMove" "NothingKept" false, isB "NotAMove" "NothingToRedo" false, isB "NotAMove" "NothingToUndo" false, isB "NotAMove" "OrderMatters" false, isB "NotAMove" "RepeatedPoint" false, isB "NotAMove" "SameLength" false, isB "NotAMove" "UnknownName" false, isB "NotAMove" "UnlikeSizes" false, isB "NotAMove" "HeldorderError" true, hnB "NotAMove" "HeldorderError" true, ivB "NotAMove", xiB "NotAMove" ["index"], ecB "TooMany", isB "TooMany" "BadNumber" false, isB "TooMany" "NotAMove" false, isB "TooMany" "TooMany" true, isB "TooMany" "BadEdit" false, isB "TooMany" "BadText" false] : List (PySem.W.Frag → Bool)) ++ ([isB "TooMany" "FullLot" false, isB "TooMany" "GameOver" false, isB "TooMany" "NoSuchLength" false, isB "TooMany" "NotABase" false, isB "TooMany" "NotAChain" false, isB "TooMany" "NotAColumn" false, isB "TooMany" "NotACount" false, isB "TooMany" "NotAFailing" false, isB "TooMany" "NotAPaper" false, isB "TooMany" "NotAPoint" false, isB "TooMany" "NotAWord" false, isB "TooMany" "NotAllowed" false, isB "TooMany" "NotAnOrder" false, isB "TooMany" "NotFull" false, isB "TooMany" "NotInside" false, isB "TooMany" "NotMade" false, isB "TooMany" "NotNeighbours" false, isB "TooMany" "NotShorter" false, isB "TooMany" "NotTight" false, isB "TooMany" "NothingKept" false, isB "TooMany" "NothingToRedo" false, isB "TooMany" "NothingToUndo" false, isB "TooMany" "OrderMatters" false, isB "TooMany" "RepeatedPoint" false, isB "TooMany" "SameLength" false, isB "TooMany" "UnknownName" false, isB "TooMany" "UnlikeSizes" false, isB "TooMany" "HeldorderError" true, hnB "TooMany" "HeldorderError" true, ivB "TooMany", xiB "TooMany" ["what", "limit"]] : List (PySem.W.Frag → Bool))
abbrev rowL : PySem.W.OpenRow := PySem.W.OpenLaw.row PySem.Challenge.rw_heldorder_k21_common_held
abbrev hkL : PySem.W.Hook := hookW faL fnL exL
def obL (s : PySem.W.SharedT) : He.AlD := obsWG faL fnL exL (HandSHeadRun.getT s)
theorem obL_eq (s : PySem.W.SharedT) : obL s = hkL.obs s.abs := obsWG_eq (HandSHeadRun.getT_eq s)
def looseL : List Str := ([("is_number" : Str), ("is_point" : Str), ("is_move_on" : Str), ("check_number" : Str), ("check_points" : Str), ("check_moves" : Str), ("held_by_all" : Str), ("common_held" : Str), ("_law_store" : Str), ("_law_mixed" : Str)] : List (Str)) ++ ([("_law_take" : Str), ("_law_pick" : Str), ("_law_place" : Str), ("_law_drawn" : Str), ("_law_either" : Str), ("_law_after" : Str), ("_law_renamed" : Str), ("_law_move" : Str), ("_law_group" : Str), ("_law_alike" : Str)] : List (Str)) ++ ([("_law_wrong_move" : Str), ("_law_spoil" : Str), ("_law_arena_menu" : Str), ("_law_turned_blocks" : Str), ("_law_arena_told" : Str), ("_law_arena" : Str), ("_law_error" : Str), ("_law_refused_as" : Str), ("_law_listed" : Str), ("_law_wrong_moves" : Str)] : List (Str)) ++ ([("_law_wrong_number" : Str), ("_law_common_due" : Str), ("_law_refusing" : Str), ("HeldorderError" : Str), ("BadNumber" : Str), ("NotAPoint" : Str), ("NotAMove" : Str), ("TooMany" : Str), ("UnlikeSizes" : Str), ("RepeatedPoint" : Str)] : List (Str)) ++ ([("BadText" : Str), ("NotMade" : Str), ("NotTight" : Str), ("NotFull" : Str), ("NotAFailing" : Str), ("NotNeighbours" : Str), ("NotShorter" : Str), ("SameLength" : Str), ("NoSuchLength" : Str), ("NotAnOrder" : Str)] : List (Str)) ++ ([("NotAChain" : Str), ("NotABase" : Str), ("NotInside" : Str), ("OrderMatters" : Str), ("FullLot" : Str), ("NotAWord" : Str), ("NotAColumn" : Str), ("NotACount" : Str), ("GameOver" : Str), ("NotAllowed" : Str)] : List (Str)) ++ ([("NothingToUndo" : Str), ("NothingToRedo" : Str), ("NothingKept" : Str), ("BadEdit" : Str), ("UnknownName" : Str), ("NotAPaper" : Str), ("MOST_POINTS" : Str), ("MOST_LIST" : Str)] : List (Str))
theorem runL (w : World) : HandSHeadRun.RunEq rowL (PySem.W.view rowL.prog [72]) hkL obL 12000 looseL w := by
  intro os
  kernel_rfl

section
variable {P : Program} {w : World} {K : PySem.W.Frag} {mg : Str → Option Value} {base : Heap}

theorem ok_mixed (Z : Zs mg) (D : Ds K mg) : Cal P w K mg base "_law_mixed" 1 ["seed", "turn"] spMixed := by
  refine Def.cal D.d_law_mixed sc_law_mixed (fun vs H Q E h => ?_) (fun f cdv A outer s H vs Q E hr h => ?_)
  · obtain ⟨a, b, rfl, q⟩ := h
    rfl
  obtain ⟨a, b, rfl, q⟩ := h
  refine ⟨_, (pss_cons (ps_set (i := 2) sc_law_mixed.nd rfl (Or.inl rfl) (pe_op op_mod (pe_callTy call_int1 (by rfl) Z.z_int (by decide +kernel) (pa_cons (pe_op op_add (pe_op op_add (pe_op op_mul (pv 0) pe_int) (pe_op op_mul (pv 1) pe_int)) pe_int) pa_nil)) pe_int))
      (pss_cons (ps_set (i := 3) sc_law_mixed.nd rfl (Or.inl rfl) (pe_op op_mod (pe_callTy call_int1 (by rfl) Z.z_int (by decide +kernel) (pa_cons (pe_op op_add (pe_op op_add (pe_op op_mul (pv 2) (pv 2)) (pe_op op_mul (pv 0) pe_int)) (pv 1)) pa_nil)) pe_int))
      (pss_one (ps_ret (pe_op op_mod (pe_callTy call_int1 (by rfl) Z.z_int (by decide +kernel) (pa_cons (pe_op op_add (pe_op op_mul (pv 3) (pv 3)) (pv 2)) pa_nil)) pe_int))))), ?_⟩
  have c1 : CMul a 48271 := .inr ⟨by omega, by omega⟩
  have c2 : CMul b 69621 := .inr ⟨by omega, by omega⟩
  refine ⟨_, rfl, _, _, rfl, rfl, c1, _, rfl, _, _, rfl, rfl, c2, _, _, rfl, rfl, _, _, rfl, rfl, .inl ⟨_, rfl, _, _, rfl, rfl, (by omega), ?_⟩⟩
  obtain ⟨f1, e1⟩ : ∃ f1, f1 = (a * 48271 + b * 69621 + 1013904223) % 2147483647 := ⟨_, rfl⟩
  have b1 : 0 ≤ f1 ∧ f1 < 2147483647 := by omega
  have c3 : CMul f1 f1 := .inl ⟨by omega, by omega⟩
  have c4 : CMul a 7 := .inr ⟨by omega, by omega⟩
  rw [show (fun i j => V.int (i % j)) (a * 48271 + b * 69621 + 1013904223) 2147483647 = V.int f1 from congrArg V.int e1.symm]
  refine ⟨_, rfl, _, rfl, _, _, rfl, rfl, c3, _, rfl, _, _, rfl, rfl, c4, _, _, rfl, rfl, _, rfl, _, _, rfl, rfl, .inl ⟨_, rfl, _, _, rfl, rfl, (by omega), ?_⟩⟩
  obtain ⟨f2, e2⟩ : ∃ f2, f2 = (f1 * f1 + a * 7 + b) % 2147483563 := ⟨_, rfl⟩
  have b2 : 0 ≤ f2 ∧ f2 < 2147483563 := by omega
  have c5 : CMul f2 f2 := .inl ⟨by omega, by omega⟩
  rw [show (fun i j => V.int (i % j)) (f1 * f1 + a * 7 + b) 2147483563 = V.int f2 from congrArg V.int e2.symm]
  refine ⟨_, rfl, _, rfl, _, _, rfl, rfl, c5, _, rfl, _, _, rfl, rfl, .inl ⟨_, rfl, _, _, rfl, rfl, (by omega), ?_⟩⟩
  exact q _
theorem ok_take (Z : Zs mg) (D : Ds K mg) (c__law_mixed : Cal P w K mg base "_law_mixed" 1 ["seed", "turn"] spMixed) : Cal P w K mg base "_law_take" 2 ["store", "many"] spTake := by
  refine Def.cal D.d_law_take sc_law_take (fun vs H Q E h => ?_) (fun f cdv A outer s H vs Q E hr h => ?_)
  · obtain ⟨S, G, n, rfl, wd, hn, q⟩ := h
    rfl
  obtain ⟨S, G, n, rfl, wd, hn, q⟩ := h
  refine ⟨_, (pss_cons (ps_if (pt_cmp (pc_lt (pv 1) pe_int) (nomark _)) (pss_one (ps_ret pe_int)) pss_nil)
      (Evl.pss_cut (ps_if (PW.pt (pw_and (pt_cmp (pc_lt (pe_ix ix_list (pv 0) pe_int (fun _ _ => rfl)) pe_int) (nomark _)) (pw_and (pt_cmp (pc_eqI (pe_ix ix_list (pv 0) pe_int (fun _ _ => rfl)) pe_int) (nomark _)) (pw_and1 (pt_cmp (pc_lt (pe_ix ix_list (pv 0) pe_int (fun _ _ => rfl)) (pe_callB call_len_seq (by rfl) Z.z_len (by decide +kernel) (pa_cons (pe_ix ix_list (pv 0) pe_int (fun _ _ => rfl)) pa_nil))) (nomark _)))))) (pss_cons (ps_set (i := 2) sc_law_take.nd rfl (Or.inl rfl) (pe_ix ix_list (pe_ix ix_list (pv 0) pe_int (fun _ _ => rfl)) (pe_ix ix_list (pv 0) pe_int (fun _ _ => rfl)) (fun _ _ => rfl)))
      (pss_cons (ps_asg (pe_op op_add (pe_ix ix_list (pv 0) pe_int (fun _ _ => rfl)) pe_int) (pg_sub (pv 0) pe_int set_listN))
      (pss_cons (ps_asg (pe_op op_mod (pe_callTy call_int1 (by rfl) Z.z_int (by decide +kernel) (pa_cons (pe_op op_add (pe_op op_add (pe_op op_mul (pe_ix ix_list (pv 0) pe_int (fun _ _ => rfl)) pe_int) (pe_op op_mod (pe_callTy call_int1 (by rfl) Z.z_int (by decide +kernel) (pa_cons (pv 2) pa_nil)) pe_int)) pe_int) pa_nil)) pe_int) (pg_sub (pv 0) pe_int set_listN))
      (pss_one (ps_if (pt_cmp (pc_ge (pv 2) (pe_op op_pow pe_int pe_int)) (nomark _)) (pss_one (ps_asg (pv 2) (pg_sub (pv 0) pe_int set_listN))) (pss_cons (ps_asg pe_int (pg_sub (pv 0) pe_int set_listN))
      (pss_one (ps_asg (pe_op op_mod (pe_callTy call_int1 (by rfl) Z.z_int (by decide +kernel) (pa_cons (pv 2) pa_nil)) pe_int) (pg_sub (pv 0) pe_int set_listN))))))))) pss_nil)
      (pss_cons (ps_if (pt_cmp (pc_ge (pe_ix ix_list (pv 0) pe_int (fun _ _ => rfl)) pe_int) (nomark _)) (pss_cons (ps_set (i := 3) sc_law_take.nd rfl (Or.inl rfl) (pe_op op_mod (pe_callTy call_int1 (by rfl) Z.z_int (by decide +kernel) (pa_cons (pe_ix ix_list (pv 0) pe_int (fun _ _ => rfl)) pa_nil)) (pv 1)))
      (pss_cons (ps_asg (pe_op op_fdiv (pe_ix ix_list (pv 0) pe_int (fun _ _ => rfl)) (pv 1)) (pg_sub (pv 0) pe_int set_listN))
      (pss_one (ps_ret (pv 3))))) pss_nil)
      (pss_cons (ps_asg (pe_op op_add (pe_ix ix_list (pv 0) pe_int (fun _ _ => rfl)) pe_int) (pg_sub (pv 0) pe_int set_listN))
      (pss_cons (ps_if (pt_cmp (pc_gt (pe_ix ix_list (pv 0) pe_int (fun _ _ => rfl)) pe_int) (nomark _)) (pss_cons (ps_asg (pe_op op_sub (pe_ix ix_list (pv 0) pe_int (fun _ _ => rfl)) pe_int) (pg_sub (pv 0) pe_int set_listN))
      (pss_one (ps_ret (pe_op op_mod (pe_callTy call_int1 (by rfl) Z.z_int (by decide +kernel) (pa_cons (pe_cal c__law_mixed (hr.mono (by first | decide | omega)) (by rfl) (pa_cons (pe_ix ix_list (pv 0) pe_int (fun _ _ => rfl)) (pa_cons (pe_ix ix_list (pv 0) pe_int (fun _ _ => rfl)) pa_nil))) pa_nil)) (pv 1))))) pss_nil)
      (pss_one (ps_ret (pe_op op_mod (pe_callTy call_int1 (by rfl) Z.z_int (by decide +kernel) (pa_cons (pe_cal c__law_mixed (hr.mono (by first | decide | omega)) (by rfl) (pa_cons (pe_ix ix_list (pv 0) pe_int (fun _ _ => rfl)) (pa_cons (pe_ix ix_list (pv 0) pe_int (fun _ _ => rfl)) pa_nil))) pa_nil)) (pv 1))))))))), ?_⟩
  refine ⟨_, rfl, _, _, rfl, rfl, _, rfl, ite2 (fun c => ?_) (fun c => ?_)⟩
  · have c := dec_of c
    exact q 0 H (by omega) (by omega) (.refl wd)
  have c := dec_not c
  refine ⟨fun σ' H' => ∃ y2, σ' = [some (.ref S.a), some (.int n), y2, none] ∧ Go S G H G H', ?_, ?_⟩
  · obtain ⟨i1, i2, i3, i4, i5, i6, h1, h2, z⟩ := wd.st
    refine ⟨_, rfl, S.a, _, 2, .int i2, rfl, rfl, .of h1, rfl, _, _, rfl, rfl, _, rfl, ite2 (fun c2 => ?_) (fun c2 => iteF ⟨none, rfl, .refl wd⟩)⟩
    refine ⟨_, rfl, S.a, _, 3, .int i3, rfl, rfl, .of h1, rfl, _, _, rfl, rfl, _, rfl, ite2 (fun c3 => ?_) (fun c3 => iteF ⟨none, rfl, .refl wd⟩)⟩
    refine ⟨_, rfl, S.a, _, 1, .int i1, rfl, rfl, .of h1, rfl, _, rfl, S.a, _, 0, .ref S.c, rfl, rfl, .of h1, rfl, _, _, rfl, .inl (.of h2), _, _, rfl, rfl, _, rfl, ite2 (fun c1 => ?_) (fun c1 => ⟨none, rfl, .refl wd⟩)⟩
    have c1 : i1 < ((S.ns.map V.int).length : Nat) := dec_of c1
    rw [List.length_map] at c1
    have k1 : i1.toNat < S.ns.length := by omega
    have a1 : atI (S.ns.map V.int) i1 = some (.int S.ns[i1.toNat]) := by
      have q := atI_nat (xs := S.ns.map V.int) (j := i1.toNat) (v := .int S.ns[i1.toNat]) (by rw [List.getElem?_map, List.getElem?_eq_getElem k1]; rfl)
      rwa [show ((i1.toNat : Nat) : Int) = i1 by omega] at q
    generalize S.ns[i1.toNat] = x at a1
    -- cell = store[0][store[1]]; store[1] = store[1] + 1
    refine ⟨_, rfl, S.a, _, 0, .ref S.c, rfl, rfl, .of h1, rfl, _, rfl, S.a, _, 1, .int i1, rfl, rfl, .of h1, rfl, S.c, _, i1, .int x, rfl, rfl, .of h2, a1, ?_⟩
    refine ⟨_, rfl, S.a, _, 1, .int i1, rfl, rfl, .of h1, rfl, _, _, rfl, rfl, _, rfl, S.a, _, 1, rfl, rfl, h1, (by show 1 < 7; decide), fun H1 e1 => ?_⟩
    have s1 : Go S G H G H1 := (Go.refl wd).put e1 (by omega)
    have h1 : H1 S.a = _ := upd_at e1
    have m5 : CMul i5 31 := .inr ⟨by omega, by omega⟩
    refine ⟨_, rfl, S.a, _, 5, .int i5, rfl, rfl, .of h1, rfl, _, _, rfl, rfl, m5, _, rfl, .inl ⟨_, rfl, _, _, rfl, rfl, (by omega), _, _, rfl, rfl, _, _, rfl, rfl, .inl ⟨_, rfl, _, _, rfl, rfl, (by omega), ?_⟩⟩⟩
    refine ⟨_, rfl, S.a, _, 5, rfl, rfl, h1, (by show 5 < 7; decide), fun H2 e2 => ?_⟩
    have s1 : Go S G H G H2 := s1.put e2 (by omega)
    have h1 : H2 S.a = _ := upd_at e2
    refine ⟨_, rfl, _, _, rfl, rfl, ⟨by omega, by omega, by decide⟩, _, _, rfl, rfl, _, rfl, ite2 (fun c => ?_) (fun c => ?_)⟩
    · refine ⟨_, rfl, _, rfl, S.a, _, 2, rfl, rfl, h1, (by show 2 < 7; decide), fun H3 e3 => ?_⟩
      exact ⟨_, rfl, s1.put e3 (by omega)⟩
    · refine ⟨_, rfl, S.a, _, 3, rfl, rfl, h1, (by show 3 < 7; decide), fun H3 e3 => ?_⟩
      have s1 : Go S G H G H3 := s1.put e3 (by omega)
      have h1 : H3 S.a = _ := upd_at e3
      refine ⟨_, rfl, .inl ⟨_, rfl, _, _, rfl, rfl, (by omega), _, rfl, S.a, _, 6, rfl, rfl, h1, (by show 6 < 7; decide), fun H4 e4 => ?_⟩⟩
      exact ⟨_, rfl, s1.put e4 (by omega)⟩
  · rintro σ' H1 ⟨y2, rfl, s1⟩
    obtain ⟨i1, i2, i3, i4, i5, i6, h1, h2, z⟩ := s1.st
    refine ⟨_, rfl, S.a, _, 2, .int i2, rfl, rfl, .of h1, rfl, _, _, rfl, rfl, _, rfl, ite2 (fun c2 => ?_) (fun c2 => ?_)⟩
    · refine ⟨_, rfl, S.a, _, 2, .int i2, rfl, rfl, .of h1, rfl, .inl ⟨_, rfl, _, rfl, _, _, rfl, rfl, (by omega), ?_⟩⟩
      refine ⟨_, rfl, S.a, _, 2, .int i2, rfl, rfl, .of h1, rfl, _, rfl, _, _, rfl, rfl, ⟨by omega, by omega⟩, _, rfl, S.a, _, 2, rfl, rfl, h1, (by show 2 < 7; decide), fun H2 e2 => ?_⟩
      have s1 : Go S G H G H2 := s1.put e2 (by omega)
      refine ⟨_, rfl, ?_⟩
      exact q _ _ (Int.emod_nonneg _ (by omega)) (.inl (Int.emod_lt_of_pos _ (by omega))) s1
    refine ⟨_, rfl, S.a, _, 4, .int i4, rfl, rfl, .of h1, rfl, _, _, rfl, rfl, _, rfl, S.a, _, 4, rfl, rfl, h1, (by show 4 < 7; decide), fun H2 e2 => ?_⟩
    have s1 : Go S G H G H2 := s1.put e2 (by omega)
    have h1 : H2 S.a = _ := upd_at e2
    refine ⟨_, rfl, S.a, _, 3, .int i3, rfl, rfl, .of h1, rfl, _, _, rfl, rfl, _, rfl, ite2 (fun c3 => ?_) (fun c3 => ?_)⟩
    · refine ⟨_, rfl, S.a, _, 3, .int i3, rfl, rfl, .of h1, rfl, _, _, rfl, rfl, _, rfl, S.a, _, 3, rfl, rfl, h1, (by show 3 < 7; decide), fun H3 e3 => ?_⟩
      have s1 : Go S G H G H3 := s1.put e3 (by omega)
      have h1 : H3 S.a = _ := upd_at e3
      refine ⟨_, rfl, S.a, _, 6, .int i6, rfl, rfl, .of h1, rfl, _, rfl, S.a, _, 4, _, rfl, rfl, .of h1, rfl, _, _, rfl, fun r => ?_⟩
      refine .inl ⟨_, rfl, _, rfl, _, _, rfl, rfl, (by omega), ?_⟩
      exact q _ _ (Int.emod_nonneg _ (by omega)) (.inl (Int.emod_lt_of_pos _ (by omega))) s1
    · refine ⟨_, rfl, S.a, _, 5, .int i5, rfl, rfl, .of h1, rfl, _, rfl, S.a, _, 4, _, rfl, rfl, .of h1, rfl, _, _, rfl, fun r => ?_⟩
      refine .inl ⟨_, rfl, _, rfl, _, _, rfl, rfl, (by omega), ?_⟩
      exact q _ _ (Int.emod_nonneg _ (by omega)) (.inl (Int.emod_lt_of_pos _ (by omega))) s1


theorem ok_pick (Z : Zs mg) (D : Ds K mg) (c__law_take : Cal P w K mg base "_law_take" 2 ["store", "many"] spTake) : Cal P w K mg base "_law_pick" 3 ["store", "things"] spPick := by
  refine Def.cal D.d_law_pick sc_law_pick (fun vs H Q E h => ?_) (fun f cdv A outer s H vs Q E hr h => ?_)
  · obtain ⟨S, G, v, xs, rfl, wd, hv, h0, h1, q⟩ := h
    rfl
  obtain ⟨S, G, v, xs, rfl, wd, hv, h0, h1, q⟩ := h
  refine ⟨_, (pss_one (ps_ret (pe_ix ix_seq (pv 1) (pe_cal c__law_take (hr.mono (by first | decide | omega)) (by rfl) (pa_cons (pv 0) (pa_cons (pe_callB call_len (by rfl) Z.z_len (by decide +kernel) (pa_cons (pv 1) pa_nil)) pa_nil))) (fun _ _ => rfl)))), ?_⟩
  rcases hv with ⟨a, rfl, na, ha⟩ | ⟨a, rfl, na, ha⟩ | ⟨z, rfl, hz, rfl⟩
  · refine ⟨_, rfl, _, rfl, _, rfl, .ref a, xs.length, rfl, .inl ⟨xs, .of ha, rfl⟩, S, G, _, rfl, wd, by omega, fun d H1 p0 p1 s1 => ?_⟩
    obtain ⟨x, _, e, m⟩ := at_int (xs := xs) p0 (by omega)
    exact .inl ⟨a, xs, d, x, rfl, rfl, .of (s1.hh ha na), e, q _ _ m s1⟩
  · refine ⟨_, rfl, _, rfl, _, rfl, .ref a, xs.length, rfl, .inr ⟨xs, .of ha, rfl⟩, S, G, _, rfl, wd, by omega, fun d H1 p0 p1 s1 => ?_⟩
    obtain ⟨x, _, e, m⟩ := at_int (xs := xs) p0 (by omega)
    exact .inr (.inl ⟨a, xs, d, x, rfl, rfl, .of (s1.hh ha na), e, q _ _ m s1⟩)
  · have hl : z.cps.toList.length = z.length := Array.length_toList
    rw [List.length_map, hl] at h0 h1
    refine ⟨_, rfl, _, rfl, _, rfl, .str z, z.length, rfl, ⟨ln (by omega), rfl⟩, S, G, _, rfl, wd, by omega, fun d H1 p0 p1 s1 => ?_⟩
    obtain ⟨c, e, g⟩ := at_str (z := z) p0 (by omega)
    exact .inr (.inr ⟨z, d, c, rfl, rfl, ln (by omega), e, q _ _ (List.mem_map.mpr ⟨c, List.mem_of_getElem? g, rfl⟩) s1⟩)
theorem ok_place (Z : Zs mg) (D : Ds K mg) (c__law_take : Cal P w K mg base "_law_take" 2 ["store", "many"] spTake) : Cal P w K mg base "_law_place" 3 ["store", "size"] spPlace := by
  refine Def.cal D.d_law_place sc_law_place (fun vs H Q E h => ?_) (fun f cdv A outer s H vs Q E hr h => ?_)
  · obtain ⟨S, G, n, rfl, wd, h1, hn, q⟩ := h
    rfl
  obtain ⟨S, G, n, rfl, wd, h1, hn, q⟩ := h
  refine ⟨_, (pss_cons (ps_set (i := 2) sc_law_place.nd rfl (Or.inl rfl) (pe_cal c__law_take (hr.mono (by first | decide | omega)) (by rfl) (pa_cons (pv 0) (pa_cons pe_int pa_nil))))
      (pss_cons (ps_if (pt_cmp (pc_eqI (pv 2) pe_int) (nomark _)) (pss_one (ps_ret pe_int)) pss_nil)
      (pss_cons (ps_if (pt_cmp (pc_eqI (pv 2) pe_int) (nomark _)) (pss_one (ps_ret (pe_op op_sub (pv 1) pe_int))) pss_nil)
      (pss_one (ps_ret (pe_cal c__law_take (hr.mono (by first | decide | omega)) (by rfl) (pa_cons (pv 0) (pa_cons (pv 1) pa_nil)))))))), ?_⟩
  refine ⟨_, rfl, S, G, 6, rfl, wd, by omega, fun d1 H1 p0 p1 s1 => ?_⟩
  refine ⟨_, rfl, _, _, rfl, rfl, _, rfl, ite2 (fun c => q _ _ (by omega) (by omega) s1) (fun c => ?_)⟩
  refine ⟨_, rfl, _, _, rfl, rfl, _, rfl, ite2 (fun c => ⟨_, rfl, _, _, rfl, rfl, q _ _ (by omega) (by omega) s1⟩) (fun c => ?_)⟩
  exact ⟨_, rfl, _, rfl, S, G, n, rfl, s1.wd, hn, fun d2 H2 r0 r1 s2 => q _ _ (by omega) (by omega) (s1.trans s2)⟩
theorem ok_drawn (Z : Zs mg) (D : Ds K mg) (c__law_take : Cal P w K mg base "_law_take" 2 ["store", "many"] spTake) : Cal P w K mg base "_law_drawn" 3 ["store", "things", "many"] spDrawn := by
  refine Def.cal D.d_law_drawn sc_law_drawn (fun vs H Q E h => ?_) (fun f cdv A outer s H vs Q E hr h => ?_)
  · obtain ⟨S, G, a, xs, n, rfl, wd, ha, hx, h0, h1, q⟩ := h
    rfl
  obtain ⟨S, G, a, xs, n, rfl, wd, ha, hx, h0, h1, q⟩ := h
  refine ⟨_, (pss_cons (ps_set (i := 3) sc_law_drawn.nd rfl (Or.inl rfl) (pe_callTy call_listN (by rfl) Z.z_list (by decide +kernel) (pa_cons (pv 1) pa_nil)))
      (pss_cons (ps_set (i := 4) sc_law_drawn.nd rfl (Or.inl rfl) (pe_lstN pa_nil))
      (pss_cons (ps_for PassesOwn.never rfl (pi_range1 (by rfl) Z.z_range (pa_cons (pe_callB (call_min2 rfl) (by rfl) Z.z_min (by decide +kernel) (pa_cons (pv 2) (pa_cons (pe_callB call_len_seq (by rfl) Z.z_len (by decide +kernel) (pa_cons (pv 3) pa_nil)) pa_nil))) pa_nil)) (pg_name (i := 5) sc_law_drawn.nd rfl (Or.inl rfl)) (pss_cons (ps_set (i := 6) sc_law_drawn.nd rfl (Or.inl rfl) (pe_cal c__law_take (hr.mono (by first | decide | omega)) (by rfl) (pa_cons (pv 0) (pa_cons (pe_callB call_len_seq (by rfl) Z.z_len (by decide +kernel) (pa_cons (pv 3) pa_nil)) pa_nil))))
      (pss_one (ps_expr (pe_bm PySem.F.plainAttrs_list PySem.F.slot_list_append PySem.F.type_list_append mt_appendN (pv 4) (pa_cons (pe_bm PySem.F.plainAttrs_list PySem.F.slot_list_pop PySem.F.type_list_pop mt_popAtN (pv 3) (pa_cons (pv 6) pa_nil)) pa_nil))))))
      (pss_one (ps_ret (pv 4)))))), ?_⟩
  refine ⟨_, rfl, a, xs, rfl, ha.len, fun p H1 n1 => ?_⟩
  obtain ⟨s1, gp, hp, fp⟩ := (Go.refl wd).loc n1
  refine ⟨Nat.zero_le _, fun l H2 n2 => ?_⟩
  obtain ⟨s2, gl, hl, fl⟩ := s1.loc n2
  have hp := n2.else hp
  have npl : p ≠ l := n2.ne (ne_none (n1.at))
  refine ⟨_, rfl, _, rfl, p, xs, rfl, .inl (.of hp), _, _, rfl, _, rfl, ?_⟩
  have em : (if ((xs.length : Nat) : Int) < n then ((xs.length : Nat) : Int) else n) = ((min n.toNat xs.length : Nat) : Int) := by split <;> omega
  rw [em]
  refine ⟨by omega, by omega, for_range (lo := 0) (n := ((min n.toNat xs.length : Nat) : Int).toNat) (fun i σ' H' => ∃ ys ps y5 y6, σ' = [some (.ref S.a), some (.ref a), some (.int n), some (.ref p), some (.ref l), y5, y6] ∧
    Go S G H G H' ∧ H' p = some (.lst ps) ∧ H' l = some (.lst ys) ∧ (ys ++ ps).Perm xs ∧ ys.length = i) ⟨[], xs, none, none, rfl, s2, hp, hl, .refl _, rfl⟩ ?_ ?_⟩
  · rintro i σ' H3 hi ⟨ys, ps, y5, y6, rfl, s3, hp, hl, pm, rfl⟩
    have lp : ys.length + ps.length = xs.length := by
      have := pm.length_eq
      rwa [List.length_append] at this
    refine ⟨_, rfl, _, rfl, p, ps, rfl, .inl (.of hp), S, G, _, rfl, s3.wd, by omega, fun d H4 p0 p1 s4 => ?_⟩
    have hp := s4.hh hp (s3.ns fp)
    have hl := s4.hh hl (s3.ns fl)
    have s4 := s3.trans s4
    obtain ⟨x, e, _, _⟩ := at_int (xs := ps) p0 (by omega)
    refine ⟨_, rfl, .inl ⟨rfl, _, .of hl⟩, _, rfl, .inl ⟨rfl, _, .of hp⟩, _, rfl, p, ps, d, d.toNat, x, rfl, rfl, hp, by omega, by omega, e, fun H5 e5 => ?_⟩
    have s5 := s4.mut gp fp e5
    have hl := upd_else e5 hl npl.symm
    have hp := upd_at e5
    refine ⟨l, ys, x, rfl, rfl, hl, lt (by omega), fun H6 e6 => ?_⟩
    have s6 := s5.mut gl fl e6
    have hp := upd_else e6 hp npl
    refine ⟨ys ++ [x], ps.eraseIdx d.toNat, _, _, rfl, s6, hp, upd_at e6, ?_, by rw [List.length_append]; rfl⟩
    refine List.Perm.trans ?_ pm
    rw [List.append_assoc]
    refine List.Perm.append_left ys ?_
    exact (perm_erase e).symm
  · rintro σ' H3 ⟨ys, ps, y5, y6, rfl, s3, hp, hl, pm, hy⟩
    exact ⟨_, rfl, q l ys ps H3 s3 gl fl hl pm (by omega)⟩
theorem ok_either (Z : Zs mg) (D : Ds K mg) (c__law_take : Cal P w K mg base "_law_take" 2 ["store", "many"] spTake) : Cal P w K mg base "_law_either" 3 ["store", "entries"] spEither := by
  refine Def.cal D.d_law_either sc_law_either (fun vs H Q E h => ?_) (fun f cdv A outer s H vs Q E hr h => ?_)
  · obtain ⟨S, G, a, xs, rfl, wd, na, ha, q⟩ := h
    rfl
  obtain ⟨S, G, a, xs, rfl, wd, na, ha, q⟩ := h
  refine ⟨_, (pss_cons (ps_if (pt_cmp (pc_eqI (pe_cal c__law_take (hr.mono (by first | decide | omega)) (by rfl) (pa_cons (pv 0) (pa_cons pe_int pa_nil))) pe_int) (nomark _)) (pss_one (ps_ret (pe_callTy call_tupleN (by rfl) Z.z_tuple (by decide +kernel) (pa_cons (pv 1) pa_nil)))) pss_nil)
      (pss_one (ps_ret (pe_callTy call_listN (by rfl) Z.z_list (by decide +kernel) (pa_cons (pv 1) pa_nil))))), ?_⟩
  refine ⟨_, rfl, S, G, 2, rfl, wd, by omega, fun d1 H1 p0 p1 s1 => ?_⟩
  have ha := s1.hh ha na
  refine ⟨_, _, rfl, rfl, _, rfl, ite2 (fun c => ?_) (fun c => ?_)⟩
  · refine ⟨_, rfl, a, xs, rfl, .of ha, fun p H2 n2 => ?_⟩
    obtain ⟨s2, gp, hp, fp⟩ := s1.loc n2
    exact q p true H2 s2 gp fp hp
  · refine ⟨_, rfl, a, xs, rfl, .inl (.of ha), fun p H2 n2 => ?_⟩
    obtain ⟨s2, gp, hp, fp⟩ := s1.loc n2
    exact q p false H2 s2 gp fp hp


theorem ok_is_number (Z : Zs mg) (D : Ds K mg) : Cal P w K mg base "is_number" 1 ["value", "low", "high"] spIsNum := by
  refine Def.cal D.d_is_number sc_is_number (fun vs H Q E h => ?_) (fun f cdv A outer s H vs Q E hr h => ?_)
  · obtain ⟨v, d, lo, hi, rfl, hd, q⟩ := h
    rfl
  obtain ⟨v, d, lo, hi, rfl, hd, q⟩ := h
  refine ⟨_, (pss_one (ps_ret (pe_and (pe_callB call_isD (by rfl) Z.z_isinstance (by decide +kernel) (pa_cons (pv 0) (pa_cons (pe_bltn (v := .ty "int") (by rfl) Z.z_int (by decide +kernel) rfl) pa_nil))) (pe_and (pe_not (pe_callB call_isD (by rfl) Z.z_isinstance (by decide +kernel) (pa_cons (pv 0) (pa_cons (pe_bltn (v := .ty "bool") (by rfl) Z.z_bool (by decide +kernel) rfl) pa_nil)))) (pe_one (pe_chain op_le op_le (pv 1) (pv 0) (pv 2))))))), ?_⟩
  refine ⟨_, rfl, v, d, "int", rfl, hd, ok_int, _, rfl, ?_⟩
  rcases hd.kind with ⟨rfl, rfl⟩ | ⟨b, rfl, rfl⟩ | ⟨i, rfl, rfl⟩ | ⟨j, rfl, rfl⟩ | ⟨a, xs, ds, t, rfl, ha, hat, hal, dxs, rfl⟩
  · exact iteBF ib_none_int q
  · exact iteBT (ib_bool_int b) ⟨_, rfl, _, _, "bool", rfl, hd, ok_bool, _, rfl, _, rfl, iteBF (by rw [ib_bool_bool]; rfl) q⟩
  · refine iteBT (ib_int_int i) ⟨_, rfl, _, _, "bool", rfl, hd, ok_bool, _, rfl, _, rfl, iteBT (by rw [ib_int_bool]; rfl) ⟨_, rfl, _, rfl, _, _, rfl, rfl, _, rfl, ?_⟩⟩
    have q : Q (.bl (decide (lo ≤ i) && decide (i ≤ hi))) H := q
    refine ite2 (fun c => ⟨_, rfl, _, _, rfl, rfl, ?_⟩) (fun c => ?_)
    · rw [c, Bool.true_and] at q
      exact q
    · rw [Bool.eq_false_iff.mpr c, Bool.false_and] at q
      exact q
  · exact iteBF (ib_str_int j) q
  · cases t with
    | true => exact iteBF (ib_tuple_int ds) q
    | false => exact iteBF (ib_list_int ds) q
theorem ok_is_point (Z : Zs mg) (D : Ds K mg) (c_is_number : Cal P w K mg base "is_number" 1 ["value", "low", "high"] spIsNum) : Cal P w K mg base "is_point" 2 ["points", "value"] spIsPoint := by
  refine Def.cal D.d_is_point sc_is_point (fun vs H Q E h => ?_) (fun f cdv A outer s H vs Q E hr h => ?_)
  · obtain ⟨v, d, n, rfl, hd, q⟩ := h
    rfl
  obtain ⟨v, d, n, rfl, hd, q⟩ := h
  refine ⟨_, (pss_one (ps_ret (pe_cal c_is_number (hr.mono (by first | decide | omega)) (by rfl) (pa_cons (pv 1) (pa_cons pe_int (pa_cons (pe_op op_sub (pv 0) pe_int) pa_nil)))))), ?_⟩
  exact ⟨_, rfl, _, rfl, _, _, rfl, rfl, v, d, 0, n - 1, rfl, hd, q⟩
theorem ok_is_move_on (Z : Zs mg) (D : Ds K mg) (c_is_point : Cal P w K mg base "is_point" 2 ["points", "value"] spIsPoint) : Cal P w K mg base "is_move_on" 3 ["points", "value"] spIsMoveOn := by
  refine Def.cal D.d_is_move_on sc_is_move_on (fun vs H Q E h => ?_) (fun f cdv A outer s H vs Q E hr h => ?_)
  · obtain ⟨G, v, d, n, rfl, gh, hd, sz, q⟩ := h
    rfl
  obtain ⟨G, v, d, n, rfl, gh, hd, sz, q⟩ := h
  refine ⟨_, (pss_cons (ps_if (PW.pt (pw_or (pt_not (pt_val (pe_callB call_isD (by rfl) Z.z_isinstance (by decide +kernel) (pa_cons (pv 1) (pa_cons (pe_bltn (v := .ty "tuple") (by rfl) Z.z_tuple (by decide +kernel) rfl) pa_nil))))) (pw_or1 (pt_cmp (pc_neI (pe_callB call_len (by rfl) Z.z_len (by decide +kernel) (pa_cons (pv 1) pa_nil)) (pv 0)) (nomark _))))) (pss_one (ps_ret pe_bl)) pss_nil)
      (pss_one (ps_ret (pe_and (pe_callB (cr_all rfl) (by rfl) Z.z_all (by decide +kernel) (pa_cons (pe_lc (own := [("image", 2)]) (g := gName 2) (tt := tYes) (by rfl) sc_is_move_on.nd (pi_tup (pv 1)) (blkOk_by (N := ["points", "value", "image"]) (sc := defScope s_is_move_on) (by decide +kernel)) (fun _ _ _ _ _ => pg_name (i := 2) sc_is_move_on.nd rfl (Or.inl rfl)) (fun _ _ _ _ _ => pts_nil) (fun _ _ _ _ _ => (pe_cal c_is_point (hr.mono (by first | decide | omega)) (by rfl) (pa_cons (pv 0) (pa_cons (pv 2) pa_nil))))) pa_nil)) (pe_one (pe_cmpR (op_eqLI hr.units) (pe_callB call_sortT (by rfl) Z.z_sorted (by decide +kernel) (pa_cons (pv 1) pa_nil)) (pe_listRgN rfl (by rfl) Z.z_list (prg_1 (by rfl) Z.z_range (pv 0))) (nomark _))))))), ?_⟩
  have hdH := hd.up gh
  refine ⟨_, rfl, v, d, "tuple", rfl, hdH, ok_tuple, _, rfl, ?_⟩
  rcases hd.kind with ⟨rfl, rfl⟩ | ⟨b, rfl, rfl⟩ | ⟨j, rfl, rfl⟩ | ⟨j, rfl, rfl⟩ | ⟨a, xs, ds, t, rfl, ha, hat, hal, dxs, rfl⟩
  · exact iteBT (by rw [ib_none_tuple]; rfl) (iteT (q H (.refl _)))
  · exact iteBT (by rw [ib_bool_tuple]; rfl) (iteT (q H (.refl _)))
  · exact iteBT (by rw [ib_int_tuple]; rfl) (iteT (q H (.refl _)))
  · exact iteBT (by rw [ib_str_tuple]; rfl) (iteT (q H (.refl _)))
  cases t with
  | false => exact iteBT (by rw [show instB (sqD false ds) "tuple" = false from ib_list_tuple ds]; rfl) (iteT (q H (.refl _)))
  | true =>
    have ha := hat rfl
    have lx := dxs.length
    have cn : mvOn n (sqD true ds) = (decide (((ds.length : Nat) : Int) = n) && (ds.all (fun d => isNum d 0 (n - 1)) && decide ((intsOf ds).Perm (rngI n)))) := rfl
    refine iteBF (by rw [show instB (sqD true ds) "tuple" = true from ib_tuple_tuple ds]; rfl) ⟨_, rfl, _, _, rfl, .inr ⟨xs, .of (gh _ _ ha), rfl⟩, _, rfl, _, _, rfl, rfl, _, rfl, ite2 (fun c => ?_) (fun c => ?_)⟩
    · have c : ¬ ((xs.length : Nat) : Int) = n := nd_of c
      have q1 := q H (.refl _)
      rw [cn, decide_eq_false (by omega), Bool.false_and] at q1
      exact q1
    have c : ((xs.length : Nat) : Int) = n := nd_not c
    have szl : ds.length ≤ 1000000 := by
      have := szL_len ds
      have := sqD_sz true ds
      omega
    rw [cn, decide_eq_true (by omega), Bool.true_and] at q
    refine ⟨_, rfl, a, rfl, ⟨_, .of (gh _ _ ha)⟩, fun l hl => ?_⟩
    refine lc_tup (xs := xs) (fun j H' => Same H H' ∧ H l = none ∧ H' l = some (.lst (((ds.take j).map fun d => isNum d 0 (n - 1)).map V.bl))) ?_ ?_ ?_ ?_
    · exact ⟨New.same (o := .lst []) ⟨hl, rfl⟩, hl, upd_same⟩
    · rintro j H' hj ⟨g2, _⟩
      exact .of (g2 _ _ (gh _ _ ha))
    · rintro j x H2 hj ⟨g2, fl, hz⟩
      obtain ⟨e, he, hde⟩ := dxs.get hj
      have hj2 := (List.getElem?_eq_some_iff.mp hj).1
      refine ⟨rfl, yesT ⟨_, rfl, _, rfl, x, e, n, rfl, hde.up (gh.trans g2), _, hz, ?_, fun b o h => ?_, fl, ?_⟩⟩
      · rw [List.length_map, List.length_map, List.length_take, sizeLine_eq]
        omega
      · rw [upd_ne (ne_of_none h fl)]
        exact g2 _ _ h
      · rw [upd_same, List.take_add_one, he, List.map_append, List.map_append]
        rfl
    · rintro H2 ⟨g2, fl, hz⟩
      rw [List.take_of_length_le (by omega)] at hz
      refine ⟨l, _, rfl, .of hz, _, rfl, ?_⟩
      have ea : (ds.map fun d => isNum d 0 (n - 1)).all id = ds.all fun d => isNum d 0 (n - 1) := by rw [List.all_map]; rfl
      refine ite2 (fun c2 => ?_) (fun c2 => ?_)
      · rw [ea] at c2
        rw [c2, Bool.true_and] at q
        have ed := ints_isNum c2
        have ex : xs = (intsOf ds).map V.int := vals_int (G := G) (by rw [← ed]; exact dxs)
        refine ⟨_, rfl, a, intsOf ds, rfl, ?_, fun ns' p H3 pm srt n3 => ?_⟩
        · rw [← ex]
          exact .of (g2 _ _ (gh _ _ ha))
        refine ⟨_, rfl, n, rfl, .of_le (by decide) (by omega) (by decide) (by omega), fun r H4 n4 => ?_⟩
        have h4 := n4.at
        rw [rgV_rngI] at h4
        refine ⟨p, r, ns', rngI n, rfl, rfl, .of (n4.else n3.at), .of h4, ?_⟩
        have q4 := q H4 (g2.trans (n3.same.trans n4.same))
        have e : decide (ns' = rngI n) = decide ((intsOf ds).Perm (rngI n)) := by
          refine decide_eq_decide.mpr ⟨fun h => h ▸ pm.symm, fun h => ?_⟩
          exact List.Perm.eq_of_pairwise (le := (· ≤ ·)) (fun a b _ _ h1 h2 => Int.le_antisymm h1 h2) srt (rngI_sorted n) (pm.trans h)
        rw [e]
        exact q4
      · rw [ea] at c2
        rw [Bool.eq_false_iff.mpr c2, Bool.false_and] at q
        exact q H2 g2


theorem ok_move (Z : Zs mg) (D : Ds K mg) (c__law_take : Cal P w K mg base "_law_take" 2 ["store", "many"] spTake) (c__law_drawn : Cal P w K mg base "_law_drawn" 3 ["store", "things", "many"] spDrawn) : Cal P w K mg base "_law_move" 4 ["store", "points"] spMove := by
  refine Def.cal D.d_law_move sc_law_move (fun vs H Q E h => ?_) (fun f cdv A outer s H vs Q E hr h => ?_)
  · obtain ⟨S, G, n, rfl, wd, h0, h1, q⟩ := h
    rfl
  obtain ⟨S, G, n, rfl, wd, h0, h1, q⟩ := h
  refine ⟨_, (pss_cons (ps_set (i := 2) sc_law_move.nd rfl (Or.inl rfl) (pe_cal c__law_take (hr.mono (by first | decide | omega)) (by rfl) (pa_cons (pv 0) (pa_cons pe_int pa_nil))))
      (pss_cons (ps_set (i := 3) sc_law_move.nd rfl (Or.inl rfl) (pe_listRgN rfl (by rfl) Z.z_list (prg_1 (by rfl) Z.z_range (pv 1))))
      (pss_cons (ps_if (PW.pt (pw_or (pt_cmp (pc_eqI (pv 2) pe_int) (nomark _)) (pw_or1 (pt_cmp (pc_lt (pv 1) pe_int) (nomark _))))) (pss_one (ps_ret (pe_callTy call_tupleN (by rfl) Z.z_tuple (by decide +kernel) (pa_cons (pv 3) pa_nil)))) pss_nil)
      (pss_cons (ps_if (pt_cmp (pc_lt (pv 2) pe_int) (nomark _)) (pss_cons (ps_set (i := 4) sc_law_move.nd rfl (Or.inl rfl) pe_int)
      (Evl.pss_cut (ps_if (pt_cmp (pc_gt (pv 2) pe_int) (nomark _)) (pss_one (ps_set (i := 4) sc_law_move.nd rfl (Or.inl rfl) (pe_op op_add pe_int (pe_cal c__law_take (hr.mono (by first | decide | omega)) (by rfl) (pa_cons (pv 0) (pa_cons (pe_op op_sub (pv 1) pe_int) pa_nil)))))) pss_nil)
      (pss_cons (ps_set (i := 5) sc_law_move.nd rfl (Or.inl rfl) (pe_cal c__law_drawn (hr.mono (by first | decide | omega)) (by rfl) (pa_cons (pv 0) (pa_cons (pv 3) (pa_cons (pv 4) pa_nil)))))
      (pss_cons (ps_for PassesOwn.never rfl (pi_range1 (by rfl) Z.z_range (pa_cons (pv 4) pa_nil)) (pg_name (i := 6) sc_law_move.nd rfl (Or.inl rfl)) (pss_one (ps_asg (pe_ix ix_list (pv 5) (pe_op op_mod (pe_callTy call_int1 (by rfl) Z.z_int (by decide +kernel) (pa_cons (pe_op op_add (pv 6) pe_int) pa_nil)) (pv 4)) (fun _ _ => rfl)) (pg_sub (pv 3) (pe_ix ix_list (pv 5) (pv 6) (fun _ _ => rfl)) set_listN))))
      (pss_one (ps_ret (pe_callTy call_tupleN (by rfl) Z.z_tuple (by decide +kernel) (pa_cons (pv 3) pa_nil)))))))) pss_nil)
      (pss_cons (ps_if (pt_cmp (pc_eqI (pv 2) pe_int) (nomark _)) (pss_cons (ps_set (i := 7) sc_law_move.nd rfl (Or.inr rfl) (pe_op op_add pe_int (pe_cal c__law_take (hr.mono (by first | decide | omega)) (by rfl) (pa_cons (pv 0) (pa_cons (pe_op op_sub (pv 1) pe_int) pa_nil)))))
      (pss_one (ps_ret (pe_callTy call_tupleN (by rfl) Z.z_tuple (by decide +kernel) (pa_cons (pe_lc (own := [("k", 6)]) (g := gName 6) (tt := tYes) (by rfl) sc_law_move.nd (pi_range1 (by rfl) Z.z_range (pa_cons (pv 1) pa_nil)) (blkOk_by (N := ["store", "points", "pick", "image", "size", "ring_row", "k", "shift"]) (sc := defScope s_law_move) (by decide +kernel)) (fun _ _ _ _ _ => pg_name (i := 6) sc_law_move.nd rfl (Or.inl rfl)) (fun _ _ _ _ _ => pts_nil) (fun _ _ _ _ _ => (pe_op op_mod (pe_callTy call_int1 (by rfl) Z.z_int (by decide +kernel) (pa_cons (pe_op op_add (pv 6) (pv 7)) pa_nil)) (pv 1)))) pa_nil))))) pss_nil)
      (pss_cons (ps_if (pt_cmp (pc_eqI (pv 2) pe_int) (nomark _)) (pss_one (ps_ret (pe_callTy call_tupleN (by rfl) Z.z_tuple (by decide +kernel) (pa_cons (pe_lc (own := [("k", 6)]) (g := gName 6) (tt := tYes) (by rfl) sc_law_move.nd (pi_range1 (by rfl) Z.z_range (pa_cons (pv 1) pa_nil)) (blkOk_by (N := ["store", "points", "pick", "image", "size", "ring_row", "k", "shift"]) (sc := defScope s_law_move) (by decide +kernel)) (fun _ _ _ _ _ => pg_name (i := 6) sc_law_move.nd rfl (Or.inl rfl)) (fun _ _ _ _ _ => pts_nil) (fun _ _ _ _ _ => (pe_op op_sub (pe_op op_sub (pv 1) pe_int) (pv 6)))) pa_nil)))) pss_nil)
      (pss_one (ps_ret (pe_callTy call_tupleN (by rfl) Z.z_tuple (by decide +kernel) (pa_cons (pe_cal c__law_drawn (hr.mono (by first | decide | omega)) (by rfl) (pa_cons (pv 0) (pa_cons (pv 3) (pa_cons (pv 1) pa_nil)))) pa_nil)))))))))), ?_⟩
  refine ⟨_, rfl, S, G, 8, rfl, wd, by omega, fun d1 H1 p0 p1 s1 => ?_⟩
  refine ⟨_, rfl, n, rfl, .of_le (by decide) (by omega) (by decide) (by omega), fun l H2 n2 => ?_⟩
  obtain ⟨s2, gl, hl, fl⟩ := s1.loc n2
  rw [rgV_rngI] at hl
  have ret : ∀ (H3 : Hp) (L : List Int), Go S G H G H3 → H3 l = some (.lst (L.map V.int)) → IsMv L n → ∃ p ys, [V.ref l] = [.ref p] ∧ SqL K H3 p ys ∧ ∀ p2 H4, New H3 p2 (.tup ys) H4 → Q (.ref p2) H4 := fun H3 L s3 h3 mv =>
    ⟨l, _, rfl, .of h3, fun p2 H4 n4 => by
      obtain ⟨G4, s4, _, k4, _⟩ := s3.know n4
      exact q p2 L G4 H4 s4 k4 mv⟩
  have plain := ret H2 _ s2 hl rngI_mv
  refine ⟨_, rfl, _, _, rfl, rfl, _, rfl, ite2 (fun c => iteT ⟨_, rfl, plain⟩) (fun c => ?_)⟩
  refine ⟨_, rfl, _, _, rfl, rfl, _, rfl, ite2 (fun c => ⟨_, rfl, plain⟩) (fun c => ?_)⟩
  have hn : ¬ n < 2 := dec_not c
  refine ⟨_, rfl, _, _, rfl, rfl, _, rfl, ite2 (fun c => ?_) (fun c => ?_)⟩
  · -- a ring
    refine ⟨fun σ' H' => ∃ m, σ' = [some (.ref S.a), some (.int n), some (.int d1), some (.ref l), some (.int m), none, none, none] ∧ Go S G H G H' ∧ H' l = some (.lst ((rngI n).map V.int)) ∧ 2 ≤ m ∧ m ≤ n, ?_, ?_⟩
    · refine ⟨_, rfl, _, _, rfl, rfl, _, rfl, ite2 (fun c => ?_) (fun c => ⟨2, rfl, s2, hl, by omega, by omega⟩)⟩
      refine ⟨_, rfl, _, rfl, _, _, rfl, rfl, S, G, n - 1, rfl, s2.wd, by omega, fun t H3 t0 t1 s3 => ⟨_, _, rfl, rfl, 2 + t, rfl, s2.trans s3, s3.hh hl (s2.ns fl), by omega, by omega⟩⟩
    · rintro σ' H3 ⟨m, rfl, s3, hl, m0, m1⟩
      refine ⟨_, rfl, _, rfl, _, rfl, S, G, l, _, m, rfl, s3.wd, .inl hl, by rw [List.length_map, rngI_len]; omega, by omega, by omega, fun r ys rest H4 s4 gr fr hr pm0 hy => ?_⟩
      obtain ⟨rs, ms, rfl, rfl, pm⟩ := perm_ints pm0
      rw [List.length_map, List.length_map, rngI_len] at hy
      have hm : rs.length = m.toNat := by omega
      have hl4 := s4.hh hl (s3.ns fl)
      have fr3 := fr
      have s4 := s3.trans s4
      have fr := s3.fresh fr
      have nd : rs.Nodup := (List.nodup_append.mp (pm.nodup_iff.mpr (rngI_nodup n))).1
      have hb : ∀ x ∈ rs, 0 ≤ x ∧ x < n := fun x hx => rngI_mem.mp (pm.mem_iff.mp (List.mem_append_left _ hx))
      have hb2 : ∀ x ∈ rs, 0 ≤ x ∧ x < ((n.toNat : Nat) : Int) := fun x hx => by have := hb x hx; omega
      have nrl : r ≠ l := fun z => by rw [z] at fr3; rw [hl] at fr3; cases fr3
      refine ⟨_, rfl, m, rfl, by omega, by omega, for_range (lo := 0) (n := m.toNat) (fun i σ' H' => ∃ (L : List Int) (y6 : Option V), σ' = [some (.ref S.a), some (.int n), some (.int d1), some (.ref l), some (.int m), some (.ref r), y6, none] ∧ Go S G H G H' ∧ H' l = some (.lst (L.map V.int)) ∧ H' r = some (.lst (rs.map V.int)) ∧ Ring n.toNat rs i L) ⟨rngI n, none, rfl, s4, hl4, hr, Ring.start n rs⟩ ?_ ?_⟩
      · rintro i σ' H5 hi ⟨L, y6, rfl, s5, h5, hr5, R⟩
        obtain ⟨a, e1, e2, _⟩ := atI_ints (ns := rs) (d := (0 + (i : Int) + 1) % m) (Int.emod_nonneg _ (by omega)) (by have := Int.emod_lt_of_pos (0 + (i : Int) + 1) (show 0 < m by omega); omega)
        obtain ⟨b, f1, f2, _⟩ := atI_ints (ns := rs) (d := 0 + (i : Int)) (by omega) (by omega)
        rw [show (0 + (i : Int)).toNat = i by omega] at f1
        have e1 : rs[(i + 1) % rs.length]? = some a := by
          rw [← e1]
          congr 1
          rw [hm, show 0 + (i : Int) + 1 = (((i + 1 : Nat)) : Int) by omega]
          have : ((i + 1 : Nat) : Int) % m = (((i + 1) % m.toNat : Nat) : Int) := by
            rw [Int.natCast_emod, Int.toNat_of_nonneg (by omega)]
          rw [this]
          rfl
        have bb := hb b (List.mem_of_getElem? f1)
        refine ⟨_, rfl, _, rfl, _, _, rfl, rfl, .inl ⟨_, rfl, _, rfl, _, _, rfl, rfl, by omega, r, _, _, _, rfl, rfl, .of hr5, e2, ?_⟩⟩
        refine ⟨_, rfl, _, rfl, _, rfl, r, _, _, _, rfl, rfl, .of hr5, f2, l, _, b.toNat, rfl, by rw [Int.toNat_of_nonneg bb.1], h5, by rw [List.length_map, R.1]; omega, fun H6 e6 => ?_⟩
        refine ⟨L.set b.toNat a, _, rfl, s5.mut gl fl e6, ?_, upd_else e6 hr5 nrl, R.step nd hb2 f1 e1⟩
        rw [upd_at e6, List.map_set]
      · rintro σ' H5 ⟨L, y6, rfl, s5, h5, hr5, R⟩
        exact ⟨_, rfl, ret H5 L s5 h5 (Ring.mv h0 (by rw [hm]; exact R) hb)⟩
  refine ⟨_, rfl, _, _, rfl, rfl, _, rfl, ite2 (fun c => ?_) (fun c => ?_)⟩
  · -- a shift
    refine ⟨_, rfl, _, rfl, _, _, rfl, rfl, S, G, n - 1, rfl, s2.wd, by omega, fun t H3 t0 t1 s3 => ⟨_, _, rfl, rfl, ?_⟩⟩
    have s3 := s2.trans s3
    refine ⟨_, rfl, n, rfl, by omega, by omega, fun e he => ?_⟩
    refine lc_range (lo := 0) (n := n.toNat) (fun i H' => Go S G H G H' ∧ G e = none ∧ H e = none ∧ H' e = some (.lst (((List.range i).map fun (k : Nat) => ((k : Int) + (1 + t)) % n).map V.int))) ?_ ?_ ?_
    · obtain ⟨s4, ge, h4, fe⟩ := s3.loc (p := e) (o := .lst []) ⟨he, rfl⟩
      exact ⟨s4, ge, fe, h4⟩
    · rintro i H4 hi ⟨s4, ge, fe, h4⟩
      refine ⟨rfl, yesT ⟨_, rfl, _, rfl, _, _, rfl, rfl, .inl ⟨_, rfl, _, rfl, _, _, rfl, rfl, by omega, _, h4, ?_, s4.mut ge fe rfl, ge, fe, ?_⟩⟩⟩
      · rw [List.length_map, List.length_map, List.length_range]
        exact lt (by omega)
      · rw [upd_same, List.range_succ, List.map_append, List.map_append, Int.zero_add]
        rfl
    · rintro H4 ⟨s4, ge, fe, h4⟩
      refine ⟨e, _, rfl, .of h4, fun p H5 n5 => ?_⟩
      obtain ⟨G5, s5, _, k5, _⟩ := s4.know n5
      exact q p _ G5 H5 s5 k5 (shift_mv (by omega))
  refine ⟨_, rfl, _, _, rfl, rfl, _, rfl, ite2 (fun c => ?_) (fun c => ?_)⟩
  · -- turned about
    refine ⟨_, rfl, n, rfl, by omega, by omega, fun e he => ?_⟩
    refine lc_range (lo := 0) (n := n.toNat) (fun i H' => Go S G H G H' ∧ G e = none ∧ H e = none ∧ H' e = some (.lst (((List.range i).map fun (k : Nat) => n - 1 - (k : Int)).map V.int))) ?_ ?_ ?_
    · obtain ⟨s4, ge, h4, fe⟩ := s2.loc (p := e) (o := .lst []) ⟨he, rfl⟩
      exact ⟨s4, ge, fe, h4⟩
    · rintro i H4 hi ⟨s4, ge, fe, h4⟩
      refine ⟨rfl, yesT ⟨_, rfl, _, _, rfl, rfl, _, rfl, _, _, rfl, rfl, _, h4, ?_, s4.mut ge fe rfl, ge, fe, ?_⟩⟩
      · rw [List.length_map, List.length_map, List.length_range]
        exact lt (by omega)
      · rw [upd_same, List.range_succ, List.map_append, List.map_append, Int.zero_add]
        rfl
    · rintro H4 ⟨s4, ge, fe, h4⟩
      refine ⟨e, _, rfl, .of h4, fun p H5 n5 => ?_⟩
      obtain ⟨G5, s5, _, k5, _⟩ := s4.know n5
      exact q p _ G5 H5 s5 k5 (turn_mv h0)
  · refine ⟨_, rfl, _, rfl, _, rfl, S, G, l, _, n, rfl, s2.wd, .inl hl, by rw [List.length_map, rngI_len]; omega, by omega, by omega, fun r ys rest H4 s4 gr fr hr pm0 hy => ?_⟩
    obtain ⟨rs, ms, rfl, rfl, pm⟩ := perm_ints pm0
    rw [List.length_map, List.length_map, rngI_len] at hy
    have pl := pm.length_eq
    rw [List.length_append, rngI_len] at pl
    have e : ms = [] := List.eq_nil_of_length_eq_zero (by omega)
    subst e
    rw [List.append_nil] at pm
    refine ⟨r, _, rfl, .of hr, fun p H5 n5 => ?_⟩
    obtain ⟨G5, s5, _, k5, _⟩ := (s2.trans s4).know n5
    exact q p rs G5 H5 s5 k5 pm


theorem ok_store (Z : Zs mg) (D : Ds K mg) : Cal P w K mg base "_law_store" 1 ["script"] (spStore K) := by
  refine Def.cal D.d_law_store sc_law_store (fun vs H Q E h => ?_) (fun f cdv A outer s H vs Q E hr h => ?_)
  · obtain ⟨a, ns, rfl, hS, hn, q⟩ := h
    rfl
  obtain ⟨a, ns, rfl, hS, hn, q⟩ := h
  refine ⟨_, (pss_one (ps_ret (pe_lstN (pa_cons (pe_lc (own := [("cell", 1)]) (g := gName 1) (tt := tYes) (by rfl) sc_law_store.nd (pi_list (pe_slice sl_listN (pv 0) po_none (po_some pe_int))) (blkOk_by (N := ["script", "cell"]) (sc := defScope s_law_store) (by decide +kernel)) (fun _ _ _ _ _ => pg_name (i := 1) sc_law_store.nd rfl (Or.inl rfl)) (fun _ _ _ _ _ => pts_nil) (fun _ _ _ _ _ => (pe_callTy call_int1 (by rfl) Z.z_int (by decide +kernel) (pa_cons (pv 1) pa_nil)))) (pa_cons pe_int (pa_cons pe_int (pa_cons pe_int (pa_cons pe_int (pa_cons pe_int (pa_cons pe_int pa_nil)))))))))), ?_⟩
  refine ⟨_, rfl, _, rfl, a, _, rfl, hS, fun p H1 n1 => ?_⟩
  have h1 := n1.at
  have ec : cutV (ns.map V.int) none (some 63) = ns.map V.int := cut_all (n := 63) (by rw [List.length_map]; exact hn)
  rw [ec] at h1
  refine ⟨p, rfl, ⟨_, .of h1⟩, fun c hc => ?_⟩
  refine lc_list (xs := ns.map V.int) (fun i H' => Same H H' ∧ H c = none ∧ H' p = some (.lst (ns.map V.int)) ∧ c ≠ p ∧ H' c = some (.lst ((ns.take i).map V.int))) ?_ ?_ ?_ ?_
  · have nc : c ≠ p := (ne_of_none h1 hc).symm
    exact ⟨n1.same.trans (New.same (o := .lst []) ⟨hc, rfl⟩), n1.same.free hc, by rw [upd_ne nc.symm]; exact h1, nc, upd_same⟩
  · rintro i H' _ ⟨_, _, hp, _⟩
    exact .of hp
  · rintro i x H2 hx ⟨g, fc, hp, nc, hc2⟩
    have hi := (List.getElem?_eq_some_iff.mp hx).1
    rw [List.length_map] at hi
    have ex : x = V.int ns[i] := by
      rw [List.getElem?_map, List.getElem?_eq_getElem hi] at hx
      exact (Option.some.inj hx).symm
    subst ex
    refine ⟨rfl, yesT ⟨_, rfl, .inl ⟨_, rfl, _, hc2, by rw [List.length_map, List.length_take]; exact lt (by omega), fun b o h => ?_, fc, by rw [upd_ne nc.symm]; exact hp, nc, ?_⟩⟩⟩
    · rw [upd_ne (ne_of_none h fc)]
      exact g _ _ h
    · rw [upd_same, List.take_add_one, List.getElem?_eq_getElem hi, List.map_append]
      rfl
  · rintro H2 ⟨g, fc, hp, nc, hc2⟩
    rw [List.length_map, List.take_length] at hc2
    refine ⟨by show 7 ≤ sizeLine; decide, fun s H3 n3 => ?_⟩
    exact q ⟨s, c, ns⟩ H3 ⟨g.trans n3.same, g.free n3.fr, 0, 0, 0, 0, 0, 0, n3.at, n3.else hc2, Int.le_refl _⟩


def spRenamed : Sp := fun vs H Q _ => ∃ (G : Hp) (a b : Addr) (ns bs : List Int) (n : Int), vs = [.ref a, .ref b] ∧ Same G H ∧ G a = some (.tup (ns.map V.int)) ∧ G b = some (.tup (bs.map V.int)) ∧ IsMv ns n ∧ IsMv bs n ∧ 0 ≤ n ∧ n ≤ 13 ∧
  ∀ (p : Addr) (ms : List Int) (G' H' : Hp), Stq G H G' H' → G' p = some (.tup (ms.map V.int)) → IsMv ms n → Q (.ref p) H'
theorem ok_renamed (Z : Zs mg) (D : Ds K mg) : Cal P w K mg base "_law_renamed" 1 ["move", "by"] spRenamed := by
  refine Def.cal D.d_law_renamed sc_law_renamed (fun vs H Q E h => ?_) (fun f cdv A outer s H vs Q E hr h => ?_)
  · obtain ⟨G, a, b, ns, bs, n, rfl, gh, ha, hb, mn, mb, n0, n13, q⟩ := h
    rfl
  obtain ⟨G, a, b, ns, bs, n, rfl, gh, ha, hb, mn, mb, n0, n13, q⟩ := h
  refine ⟨_, (pss_cons (ps_set (i := 2) sc_law_renamed.nd rfl (Or.inl rfl) (pe_op op_repL (pe_lstN (pa_cons pe_int pa_nil)) (pe_callB call_len_seq (by rfl) Z.z_len (by decide +kernel) (pa_cons (pv 0) pa_nil))))
      (pss_cons (ps_for PassesOwn.never rfl (pi_range1 (by rfl) Z.z_range (pa_cons (pe_callB call_len_seq (by rfl) Z.z_len (by decide +kernel) (pa_cons (pv 0) pa_nil)) pa_nil)) (pg_name (i := 3) sc_law_renamed.nd rfl (Or.inl rfl)) (pss_one (ps_asg (pe_ix ix_tup (pv 1) (pe_ix ix_tup (pv 0) (pv 3) (fun _ _ => rfl)) (fun _ _ => rfl)) (pg_sub (pv 2) (pe_ix ix_tup (pv 1) (pv 3) (fun _ _ => rfl)) set_listN))))
      (pss_one (ps_ret (pe_callTy call_tupleN (by rfl) Z.z_tuple (by decide +kernel) (pa_cons (pv 2) pa_nil)))))), ?_⟩
  have ln := mn.len
  have lb := mb.len
  have S0 := Stq.refl gh
  refine ⟨(by show 1 ≤ sizeLine; decide), fun z H1 n1 => ?_⟩
  obtain ⟨s1, gz, hz, fz⟩ := S0.loc2 n1
  have look : ∀ {cs : List Int} {c : Int} {H' : Hp}, IsMv cs n → inR n c → atI (cs.map V.int) c = some (.int (stp cs c)) := fun {cs c H'} mc ic => by
    obtain ⟨x, e1, e2, -⟩ := atI_ints (ns := cs) ic.1 (by have := mc.len; have := ic.2; omega)
    rw [e2]
    rw [(stp_at mc ic).1] at e1
    rw [Option.some.inj e1]
  refine ⟨_, rfl, a, _, rfl, .inr (.of (s1.gh _ _ ha)), z, _, _, rfl, rfl, hz, by rw [List.length_map]; omega, by rw [List.length_map]; omega, by rw [List.length_map]; show 1 * _ ≤ sizeLine; exact Nat.le_trans (show _ ≤ 13 by omega) (by decide), fun l H2 n2 => ?_⟩
  obtain ⟨s2, gl, hl, fl⟩ := s1.loc2 n2
  have e0 : (List.replicate ((((ns.map V.int).length : Nat) : Int)).toNat [V.int 0]).flatten = (List.replicate ns.length (0 : Int)).map V.int := by
    rw [List.length_map]
    have : ∀ m : Nat, (List.replicate m [V.int 0]).flatten = (List.replicate m (0 : Int)).map V.int := fun m => by
      induction m with
      | zero => rfl
      | succ m ih => rw [List.replicate_succ, List.flatten_cons, ih]; rfl
    exact this _
  rw [e0] at hl
  refine ⟨_, rfl, a, _, rfl, .inr (.of (s2.gh _ _ ha)), _, rfl, by rw [List.length_map]; omega, by rw [List.length_map]; omega, ?_⟩
  rw [List.length_map]
  refine for_range (lo := 0) (n := ((ns.length : Nat) : Int).toNat) (fun i σ' H' => ∃ (L : List Int) (y3 : Option V), σ' = [some (.ref a), some (.ref b), some (.ref l), y3] ∧ Stq G H G H' ∧ H' l = some (.lst (L.map V.int)) ∧ L.length = n.toNat ∧ ∀ k : Nat, k < i → L[(stp bs k).toNat]? = some (stp bs (stp ns k)))
    ⟨_, none, rfl, s2, hl, by rw [List.length_replicate]; omega, fun k hk => absurd hk (Nat.not_lt_zero k)⟩ ?_ ?_
  · rintro i σ' H3 hi ⟨L, y3, rfl, s3, h3, lL, hL⟩
    have ii : inR n (0 + (i : Int)) := ⟨by omega, by omega⟩
    have i1 := (stp_at mn ii).2
    have i2 := (stp_at mb i1).2
    have i3 := (stp_at mb ii).2
    refine ⟨_, rfl, _, rfl, _, rfl, a, _, _, _, rfl, rfl, .of (s3.gh _ _ ha), look (H' := H3) mn ii, b, _, _, _, rfl, rfl, .of (s3.gh _ _ hb), look (H' := H3) mb i1, ?_⟩
    refine ⟨_, rfl, _, rfl, _, rfl, b, _, _, _, rfl, rfl, .of (s3.gh _ _ hb), look (H' := H3) mb ii, l, _, (stp bs (0 + (i : Int))).toNat, rfl, ?_, h3, ?_, fun H4 e4 => ?_⟩
    · have := i3.1
      rw [Int.toNat_of_nonneg this]
    · rw [List.length_map]
      have := i3.1
      have := i3.2
      omega
    refine ⟨L.set (stp bs (0 + (i : Int))).toNat (stp bs (stp ns (0 + (i : Int)))), _, rfl, s3.mut gl fl e4, by rw [upd_at e4, List.map_set], by rw [List.length_set]; exact lL, fun k hk => ?_⟩
    rw [Int.zero_add]
    by_cases e : k = i
    · subst e
      have := i3.1
      have := i3.2
      rw [Int.zero_add] at *
      rw [List.getElem?_set_self (by omega)]
    · have ne : stp bs (i : Int) ≠ stp bs (k : Int) := fun z => e (by have := stp_inj mb (p := (i : Int)) (q := (k : Int)) ⟨by omega, by omega⟩ ⟨by omega, by omega⟩ z; omega)
      have k3 := (stp_at mb (p := (k : Int)) ⟨by omega, by omega⟩).2
      have := k3.1
      have := i3.1
      rw [Int.zero_add] at *
      rw [List.getElem?_set_ne (by omega)]
      exact hL k (by omega)
  · rintro σ' H3 ⟨L, y3, rfl, s3, h3, lL, hL⟩
    refine ⟨_, rfl, l, _, rfl, .of h3, fun p H4 n4 => ?_⟩
    obtain ⟨G4, s4, g4, k4, -⟩ := s3.know2 n4
    exact q p L G4 H4 s4 k4 (renamed_mv n0 mn mb lL fun k hk => hL k (by omega))


def spCarry : Sp := fun vs H Q _ => ∃ (G : Hp) (a b : Addr) (ms rs : List Int) (n : Int), vs = [.ref a, .ref b] ∧ Same G H ∧ G a = some (.tup (ms.map V.int)) ∧ G b = some (.tup (rs.map V.int)) ∧ IsMv ms n ∧ (∀ r ∈ rs, inR n r) ∧ rs.length ≤ 100000 ∧
  ∀ (p : Addr) (G' H' : Hp), Stq G H G' H' → G' p = some (.tup ((aft rs ms).map V.int)) → Q (.ref p) H'
def spCarryW (K : PySem.W.Frag) : Sp := fun vs H Q _ => ∃ (G : Hp) (a b : Addr) (ms rs : List Int) (n : Int), vs = [.ref a, .ref b] ∧ Same G H ∧ G a = some (.tup (ms.map V.int)) ∧ HasS K H b (rs.map V.int) ∧ IsMv ms n ∧ (∀ r ∈ rs, inR n r) ∧ rs.length ≤ 100000 ∧
  ∀ (p : Addr) (G' H' : Hp), Stq G H G' H' → G' p = some (.tup ((aft rs ms).map V.int)) → Q (.ref p) H'
def spAfter : Sp := fun vs H Q _ => ∃ (G : Hp) (a b : Addr) (rs ms : List Int) (n : Int), vs = [.ref a, .ref b] ∧ Same G H ∧ G a = some (.tup (rs.map V.int)) ∧ G b = some (.tup (ms.map V.int)) ∧ IsMv ms n ∧ (∀ r ∈ rs, inR n r) ∧ rs.length ≤ 100000 ∧
  ∀ (p : Addr) (G' H' : Hp), Stq G H G' H' → G' p = some (.tup ((aft rs ms).map V.int)) → Q (.ref p) H'
theorem ok_after (Z : Zs mg) (D : Ds K mg) : Cal P w K mg base "_law_after" 1 ["first", "second"] spAfter := by
  refine Def.cal D.d_law_after sc_law_after (fun vs H Q E h => ?_) (fun f cdv A outer s H vs Q E hr h => ?_)
  · obtain ⟨G, b, a, rs, ms, n, rfl, gh, hb, ha, mm, inr, lr, q⟩ := h
    rfl
  obtain ⟨G, b, a, rs, ms, n, rfl, gh, hb, ha, mm, inr, lr, q⟩ := h
  refine ⟨_, (pss_one (ps_ret (pe_callTy call_tupleN (by rfl) Z.z_tuple (by decide +kernel) (pa_cons (pe_lc (own := [("p", 2)]) (g := gName 2) (tt := tYes) (by rfl) sc_law_after.nd (pi_tup (pv 0)) (blkOk_by (N := ["first", "second", "p"]) (sc := defScope s_law_after) (by decide +kernel)) (fun _ _ _ _ _ => pg_name (i := 2) sc_law_after.nd rfl (Or.inl rfl)) (fun _ _ _ _ _ => pts_nil) (fun _ _ _ _ _ => (pe_ix (ix_tupK (K := K) rfl) (pv 1) (pv 2) (fun _ _ => rfl)))) pa_nil)))), ?_⟩
  refine ⟨_, rfl, b, rfl, ⟨_, .of (gh _ _ hb)⟩, fun l hl => ?_⟩
  refine lc_tup (xs := rs.map V.int) (fun i H' => Stq G H G H' ∧ G l = none ∧ H l = none ∧ H' l = some (.lst (((aft rs ms).take i).map V.int))) ?_ ?_ ?_ ?_
  · obtain ⟨s2, gl, h2, fl⟩ := (Stq.refl gh).loc2 (p := l) (o := .lst []) ⟨hl, rfl⟩
    exact ⟨s2, gl, fl, h2⟩
  · rintro i H' - ⟨s2, -⟩
    exact .of (s2.gh _ _ hb)
  · rintro i x H2 hx ⟨s2, gl, fl, h2⟩
    obtain ⟨r, hr, rfl⟩ := map_at hx
    have ir := inr r (List.mem_of_getElem? hr)
    have lt := (List.getElem?_eq_some_iff.mp hr).1
    obtain ⟨z, e1, e2, -⟩ := atI_ints (ns := ms) ir.1 (by have := mm.len; have := ir.2; omega)
    have ez : z = stp ms r := Option.some.inj (e1.symm.trans (stp_at mm ir).1)
    subst ez
    refine ⟨rfl, yesT ⟨_, rfl, _, rfl, a, _, _, _, rfl, rfl, .of (s2.gh _ _ ha), e2, _, h2, ?_, s2.mut gl fl rfl, gl, fl, ?_⟩⟩
    · rw [List.length_map, List.length_take, aft_len]
      exact Nat.lt_of_le_of_lt (Nat.min_le_left _ _) (Nat.lt_of_lt_of_le lt (Nat.le_trans lr (by decide)))
    · rw [upd_same, List.take_add_one]
      have : (aft rs ms)[i]? = some (stp ms r) := by unfold aft; rw [List.getElem?_map, hr]; rfl
      rw [this, List.map_append]
      rfl
  · rintro H2 ⟨s2, gl, fl, h2⟩
    rw [List.length_map, ← aft_len rs ms, List.take_length] at h2
    refine ⟨l, _, rfl, .of h2, fun p H3 n3 => ?_⟩
    obtain ⟨G3, s3, g3, k3, -⟩ := s2.know2 n3
    exact q p G3 H3 s3 k3


def spCheckNum (DB : Addr) : Sp := fun vs H Q E => ∃ (v : V) (d : PyData) (lo hi : Int), vs = [v, .int lo, .int hi] ∧ Da H v d ∧ (isNum d lo hi = true → Q .non H) ∧ (isNum d lo hi = false → Errs E DB [(("high" : Str), .int hi), (("low" : Str), .int lo), (("value" : Str), v)] H)
theorem ok_check_number {DB : Addr} (Z : Zs mg) (D : Ds K mg) (m_BadNumber : Xm P w K mg base "BadNumber" DB ["value", "low", "high"]) (c_is_number : Cal P w K mg base "is_number" 1 ["value", "low", "high"] spIsNum) : CalX P w K mg base "check_number" 3 ["value", "low", "high"] (spCheckNum DB) := by
  refine Def.calX D.d_check_number sc_check_number (fun vs H Q E h => ?_) (fun f cdv A outer s H vs Q E hr h => ?_)
  · obtain ⟨v, d, lo, hi, rfl, hd, q1, q2⟩ := h
    rfl
  obtain ⟨v, d, lo, hi, rfl, hd, q1, q2⟩ := h
  refine ⟨_, (pss_one (ps_if (pt_not (pt_val (pe_cal c_is_number (hr.mono (by first | decide | omega)) (by rfl) (pa_cons (pv 0) (pa_cons (pv 1) (pa_cons (pv 2) pa_nil)))))) (pss_one (L2N.ps_raise rfl (L2N.takes_of rfl rfl rfl rfl) (pmk_x m_BadNumber (hr.mono (by first | decide | omega)) (by rfl) (pa_cons (pv 0) (pa_cons (pv 1) (pa_cons (pv 2) pa_nil)))))) pss_nil)), ?_⟩
  refine ⟨_, rfl, _, rfl, _, rfl, v, d, lo, hi, rfl, hd, ?_⟩
  cases e : isNum d lo hi with
  | true => exact ⟨_, rfl, iteF (q1 e)⟩
  | false => exact ⟨_, rfl, iteT ⟨_, rfl, _, rfl, _, rfl, ini_end rfl (by show 3 ≤ 1000; decide) fun dd hdd => q2 e dd _ (same_put (Same.refl _) hdd) upd_same⟩⟩
def spCheckPts (DB : Addr) : Sp := fun vs H Q E => ∃ (v : V) (d : PyData), vs = [v] ∧ Da H v d ∧ (isNum d 0 12 = true → Q .non H) ∧ (isNum d 0 12 = false → Errs E DB [(("high" : Str), .int 12), (("low" : Str), .int 0), (("value" : Str), v)] H)
theorem ok_check_points {DB : Addr} (Z : Zs mg) (D : Ds K mg) (c_check_number : CalX P w K mg base "check_number" 3 ["value", "low", "high"] (spCheckNum DB)) : CalX P w K mg base "check_points" 4 ["value"] (spCheckPts DB) := by
  refine Def.calX D.d_check_points sc_check_points (fun vs H Q E h => ?_) (fun f cdv A outer s H vs Q E hr h => ?_)
  · obtain ⟨v, d, rfl, hd, q1, q2⟩ := h
    rfl
  obtain ⟨v, d, rfl, hd, q1, q2⟩ := h
  refine ⟨_, (pss_one (ps_expr (pe_calX c_check_number (L2N.takes_of rfl rfl rfl rfl) (hr.mono (by first | decide | omega)) (by rfl) (pa_cons (pv 0) (pa_cons pe_int (pa_cons (pe_globI (by rfl) Z.c_MOST_POINTS) pa_nil)))))), ?_⟩
  exact ⟨_, rfl, v, d, 0, 12, rfl, hd, q1, q2⟩
def badAt (n : Int) (ds : List PyData) (i : Nat) : Prop := (∃ d, ds[i]? = some d ∧ mvOn n d = false) ∧ ∀ (j : Nat) d, j < i → ds[j]? = some d → mvOn n d = true
def spCheckMoves (K : PySem.W.Frag) (DN DT : Addr) : Sp := fun vs H Q E => ∃ (G : Hp) (a : Addr) (xs : List V) (ds : List PyData) (n : Int) (what : Str) (lim : Int), vs = [.int n, .ref a, .str what, .int lim] ∧ Same G H ∧ HasS K H a xs ∧ DaAll G xs ds ∧ szL ds ≤ 900000 ∧
  (lim < (ds.length : Nat) → Errs E DT [(("limit" : Str), .int lim), (("what" : Str), .str what)] H) ∧ (((ds.length : Nat) : Int) ≤ lim → ∀ i : Nat, badAt n ds i → Errs E DN [(("index" : Str), .int i)] H) ∧
  (((ds.length : Nat) : Int) ≤ lim → (∀ d ∈ ds, mvOn n d = true) → ∀ H', Same H H' → Q .non H')
theorem ok_check_moves {DN DT : Addr} (Z : Zs mg) (D : Ds K mg) (m_NotAMove : Xm P w K mg base "NotAMove" DN ["index"]) (m_TooMany : Xm P w K mg base "TooMany" DT ["what", "limit"]) (c_is_move_on : Cal P w K mg base "is_move_on" 3 ["points", "value"] spIsMoveOn) : CalX P w K mg base "check_moves" 4 ["points", "moves", "what", "limit"] (spCheckMoves K DN DT) := by
  refine Def.calX D.d_check_moves sc_check_moves (fun vs H Q E h => ?_) (fun f cdv A outer s H vs Q E hr h => ?_)
  · obtain ⟨G, a, xs, ds, n, what, lim, rfl, gh, hl, dx, sz, q1, q2, q3⟩ := h
    rfl
  obtain ⟨G, a, xs, ds, n, what, lim, rfl, gh, hl, dx, sz, q1, q2, q3⟩ := h
  refine ⟨_, (pss_cons (ps_if (pt_cmp (pc_gt (pe_callB call_len (by rfl) Z.z_len (by decide +kernel) (pa_cons (pv 1) pa_nil)) (pv 3)) (nomark _)) (pss_one (L2N.ps_raise rfl (L2N.takes_of rfl rfl rfl rfl) (pmk_x m_TooMany (hr.mono (by first | decide | omega)) (by rfl) (pa_cons (pv 2) (pa_cons (pv 3) pa_nil))))) pss_nil)
      (pss_one (ps_for (passes_of rfl) rfl (pi_or (pi_enum (by rfl) Z.z_enumerate (pa_cons (pv 1) pa_nil)) (pi_enumT (by rfl) Z.z_enumerate (pa_cons (pv 1) pa_nil))) (pg_tup rfl (pgs_cons (pg_name (i := 4) sc_check_moves.nd rfl (Or.inl rfl)) (pgs_cons (pg_name (i := 5) sc_check_moves.nd rfl (Or.inl rfl)) pgs_nil))) (pss_one (ps_if (pt_not (pt_val (pe_cal c_is_move_on (hr.mono (by first | decide | omega)) (by rfl) (pa_cons (pv 0) (pa_cons (pv 5) pa_nil))))) (pss_one (L2N.ps_raise rfl (L2N.takes_of rfl rfl rfl rfl) (pmk_x m_NotAMove (hr.mono (by first | decide | omega)) (by rfl) (pa_cons (pv 4) pa_nil)))) pss_nil))))), ?_⟩
  have lx := dx.length
  refine ⟨_, rfl, _, xs.length, rfl, HasS.lenV hl, _, rfl, _, _, rfl, rfl, _, rfl, ite2 (fun c => ?_) (fun c => ?_)⟩
  · have c : lim < ((xs.length : Nat) : Int) := dec_of c
    exact ⟨_, rfl, _, rfl, ini_end rfl (by show 2 ≤ 1000; decide) fun dd hdd => q1 (by rw [← lx]; exact c) dd _ (same_put (Same.refl _) hdd) upd_same⟩
  have c : ¬ lim < ((xs.length : Nat) : Int) := dec_not c
  have q2 := q2 (by rw [← lx]; omega)
  have q3 := q3 (by rw [← lx]; omega)
  rcases hl with (hl | hl) | hl
  · refine .inl ⟨_, rfl, a, xs, rfl, .of hl, for_enumL (K := K) (a := a) (xs := xs) (fun i σ' H' => ∃ y4 y5 : Option V, σ' = [some (.int n), some (.ref a), some (.str what), some (.int lim), y4, y5] ∧ Same H H' ∧ ∀ (j : Nat) d, j < i → ds[j]? = some d → mvOn n d = true) ?_ ?_ ?_ ?_⟩
    · exact ⟨_, _, rfl, Same.refl _, fun j d hj => absurd hj (Nat.not_lt_zero j)⟩
    · rintro i σ' H' - ⟨y4, y5, rfl, s1, -⟩
      exact .of (s1 _ _ hl)
    · rintro i x T σ' H1 H2 hx ⟨y4, y5, rfl, s1, ok⟩ nT
      obtain ⟨d, hd, dd⟩ := dx.get hx
      refine ⟨T, _, rfl, .of nT.at, rfl, _, _, rfl, _, _, rfl, rfl, ?_⟩
      have s2 := s1.trans nT.same
      have zd := szL_get hd
      refine ⟨_, rfl, _, rfl, G, x, d, n, rfl, gh.trans s2, dd, by omega, fun H3 s3 => ?_⟩
      cases e : mvOn n d with
      | true =>
        refine ⟨_, rfl, iteF ⟨_, _, rfl, s2.trans s3, fun j d' hj hd' => ?_⟩⟩
        rcases Nat.lt_or_ge j i with z | z
        · exact ok j d' z hd'
        · have : j = i := by omega
          subst this
          rw [hd] at hd'
          cases hd'
          exact e
      | false => exact ⟨_, rfl, iteT ⟨_, rfl, ini_end rfl (by show 1 ≤ 1000; decide) fun p hp => q2 i ⟨⟨d, hd, e⟩, ok⟩ p _ ((s2.trans s3).trans (same_put (Same.refl _) hp)) upd_same⟩⟩
    · rintro σ' H1 ⟨y4, y5, rfl, s1, ok⟩
      refine q3 (fun d hd => ?_) H1 s1
      obtain ⟨j, hj⟩ := List.getElem?_of_mem hd
      exact ok j d (by rw [lx]; exact (List.getElem?_eq_some_iff.mp hj).1) hj
  · refine .inr ⟨_, rfl, a, xs, rfl, .of hl, for_enumT (K := K) (a := a) (xs := xs) (fun i σ' H' => ∃ y4 y5 : Option V, σ' = [some (.int n), some (.ref a), some (.str what), some (.int lim), y4, y5] ∧ Same H H' ∧ ∀ (j : Nat) d, j < i → ds[j]? = some d → mvOn n d = true) ?_ ?_ ?_ ?_⟩
    · exact ⟨_, _, rfl, Same.refl _, fun j d hj => absurd hj (Nat.not_lt_zero j)⟩
    · rintro i σ' H' - ⟨y4, y5, rfl, s1, -⟩
      exact .of (s1 _ _ hl)
    · rintro i x T σ' H1 H2 hx ⟨y4, y5, rfl, s1, ok⟩ nT
      obtain ⟨d, hd, dd⟩ := dx.get hx
      refine ⟨T, _, rfl, .of nT.at, rfl, _, _, rfl, _, _, rfl, rfl, ?_⟩
      have s2 := s1.trans nT.same
      have zd := szL_get hd
      refine ⟨_, rfl, _, rfl, G, x, d, n, rfl, gh.trans s2, dd, by omega, fun H3 s3 => ?_⟩
      cases e : mvOn n d with
      | true =>
        refine ⟨_, rfl, iteF ⟨_, _, rfl, s2.trans s3, fun j d' hj hd' => ?_⟩⟩
        rcases Nat.lt_or_ge j i with z | z
        · exact ok j d' z hd'
        · have : j = i := by omega
          subst this
          rw [hd] at hd'
          cases hd'
          exact e
      | false => exact ⟨_, rfl, iteT ⟨_, rfl, ini_end rfl (by show 1 ≤ 1000; decide) fun p hp => q2 i ⟨⟨d, hd, e⟩, ok⟩ p _ ((s2.trans s3).trans (same_put (Same.refl _) hp)) upd_same⟩⟩
    · rintro σ' H1 ⟨y4, y5, rfl, s1, ok⟩
      refine q3 (fun d hd => ?_) H1 s1
      obtain ⟨j, hj⟩ := List.getElem?_of_mem hd
      exact ok j d (by rw [lx]; exact (List.getElem?_eq_some_iff.mp hj).1) hj
  · refine .inr ⟨_, rfl, a, xs, rfl, .inr hl, for_enumT (K := K) (a := a) (xs := xs) (fun i σ' H' => ∃ y4 y5 : Option V, σ' = [some (.int n), some (.ref a), some (.str what), some (.int lim), y4, y5] ∧ Same H H' ∧ ∀ (j : Nat) d, j < i → ds[j]? = some d → mvOn n d = true) ?_ ?_ ?_ ?_⟩
    · exact ⟨_, _, rfl, Same.refl _, fun j d hj => absurd hj (Nat.not_lt_zero j)⟩
    · rintro i σ' H' - ⟨y4, y5, rfl, s1, -⟩
      exact .inr hl
    · rintro i x T σ' H1 H2 hx ⟨y4, y5, rfl, s1, ok⟩ nT
      obtain ⟨d, hd, dd⟩ := dx.get hx
      refine ⟨T, _, rfl, .of nT.at, rfl, _, _, rfl, _, _, rfl, rfl, ?_⟩
      have s2 := s1.trans nT.same
      have zd := szL_get hd
      refine ⟨_, rfl, _, rfl, G, x, d, n, rfl, gh.trans s2, dd, by omega, fun H3 s3 => ?_⟩
      cases e : mvOn n d with
      | true =>
        refine ⟨_, rfl, iteF ⟨_, _, rfl, s2.trans s3, fun j d' hj hd' => ?_⟩⟩
        rcases Nat.lt_or_ge j i with z | z
        · exact ok j d' z hd'
        · have : j = i := by omega
          subst this
          rw [hd] at hd'
          cases hd'
          exact e
      | false => exact ⟨_, rfl, iteT ⟨_, rfl, ini_end rfl (by show 1 ≤ 1000; decide) fun p hp => q2 i ⟨⟨d, hd, e⟩, ok⟩ p _ ((s2.trans s3).trans (same_put (Same.refl _) hp)) upd_same⟩⟩
    · rintro σ' H1 ⟨y4, y5, rfl, s1, ok⟩
      refine q3 (fun d hd => ?_) H1 s1
      obtain ⟨j, hj⟩ := List.getElem?_of_mem hd
      exact ok j d (by rw [lx]; exact (List.getElem?_eq_some_iff.mp hj).1) hj
def spStill (DB : Addr) : Sp := fun vs H Q _ => ∃ (n : Int), vs = [.int n] ∧ 0 ≤ n ∧ n ≤ 12 ∧ ∀ p H', New H p (.tup ((rngI n).map V.int)) H' → Q (.ref p) H'

def spNext (K : PySem.W.Frag) : Sp := fun vs H Q _ => ∃ (G : Hp) (l t d : Addr) (xs ts : List V) (R T : List (List Int)) (n : Int) (kvs : List (List L2.Key × V)) (W : WL), vs = [.ref l, .ref t, .ref d] ∧ Same G H ∧ H l = some (.lst xs) ∧ DaAll G xs (R.map rowD) ∧ HasS K H t ts ∧ DaAll G ts (T.map rowD) ∧ AllMv n T ∧ T.length ≤ 8 ∧
  R.length ≤ 400 ∧ (∀ r ∈ R, RowIn n r ∧ r.length ≤ 100 ∧ r ∈ W.map (·.1)) ∧ G d = none ∧ H d = some (.dT kvs) ∧ Wds G kvs W ∧ W.length ≤ 400 ∧ (∀ p ∈ W, p.2.length ≤ 1000) ∧
  ∀ (f : Addr) (G' H' : Hp) (kvs' : List (List L2.Key × V)) (ys : List V), Stp d G H G' H' → H f = none → G' f = none → H' f = some (.lst ys) → H' d = some (.dT kvs') → Wds G' kvs' (nl T R W R.length) → DaAll G' ys ((fnd W (nl T R W R.length)).map rowD) → Q (.ref f) H'

def spBest (K : PySem.W.Frag) (DT : Addr) : Sp := fun vs H Q E => ∃ (G : Hp) (a t : Addr) (r : List Int) (ts : List V) (T : List (List Int)) (n : Int), vs = [.ref a, .ref t] ∧ Same G H ∧ G a = some (.tup (r.map V.int)) ∧ HasS K H t ts ∧ DaAll G ts (T.map rowD) ∧ AllMv n T ∧ T.length ≤ 8 ∧ RowIn n r ∧ r.length ≤ 100 ∧
  (∀ (d : Addr) (G' H' : Hp) (kvs : List (List L2.Key × V)) (W : WL) (k : Nat), Stq G H G' H' → H d = none → G' d = none → H' d = some (.dT kvs) → Wds G' kvs W → lay T r k = (W, []) → (∀ j, j < k → (lay T r j).2 ≠ []) → W.length ≤ 400 → Q (.ref d) H') ∧
  ((∀ L : List (List Int), (∀ w, Rch T r w → w ∈ L) → 400 < L.length) → Errs E DT [(("limit" : Str), .int 400), (("what" : Str), .str "made")] H)

def numErr (E : XK) (DB : Addr) (v : V) (H : Hp) : Prop := Errs E DB [(("high" : Str), .int 12), (("low" : Str), .int 0), (("value" : Str), v)] H
/-- what comes of points and told moves that are good -/
def MadeTo (G H : Hp) (n : Int) (T : List (List Int)) (DT : Addr) (Q : Addr → Hp → Prop) (E : XK) : Prop :=
  (∀ (p : Addr) (G' H' : Hp) (ys : List V) (L : List (List Int)), Stq G H G' H' → H p = none → G' p = none → H' p = some (.lst ys) → DaAll G' ys (L.map rowD) → Grp n T L → L.length ≤ 400 → Q p H') ∧
  ((∀ L : List (List Int), (∀ w, Mk' n T w → w ∈ L) → 400 < L.length) → Errs E DT [(("limit" : Str), .int 400), (("what" : Str), .str "made")] H)
/-- points, told moves: refused in this order, or good -/
def Judge (G H : Hp) (v : V) (dv : PyData) (ds : List PyData) (DB DN DT : Addr) (good : Int → List (List Int) → Prop) (E : XK) : Prop :=
  (isNum dv 0 12 = false → numErr E DB v H) ∧
  ∀ n : Int, dv = .int n → v = .int n → 0 ≤ n → n ≤ 12 → (8 < ds.length → Errs E DT [(("limit" : Str), .int 8), (("what" : Str), .str "told")] H) ∧ (ds.length ≤ 8 → ∀ i : Nat, badAt n ds i → Errs E DN [(("index" : Str), .int i)] H) ∧
    (ds.length ≤ 8 → ∀ T : List (List Int), ds = T.map rowD → AllMv n T → good n T)
def spMakeAll (K : PySem.W.Frag) (DB DN DT : Addr) : Sp := fun vs H Q E => ∃ (G : Hp) (v : V) (dv : PyData) (a : Addr) (xs : List V) (ds : List PyData), vs = [v, .ref a] ∧ Same G H ∧ Da G v dv ∧ HasS K H a xs ∧ DaAll G xs ds ∧ szL ds ≤ 900000 ∧
  Judge G H v dv ds DB DN DT (fun n T => MadeTo G H n T DT (fun p H' => Q (.ref p) H') E) E
/-! ### worlds -/
def wf (ml : Addr) (n : Int) (tl : Addr) : List (Str × V) := putF "_told" (.ref tl) (putF "_points" (.int n) (putF "_made" (.ref ml) []))
theorem wf_eq (ml : Addr) (n : Int) (tl : Addr) : wf ml n tl = [(("_made" : Str), V.ref ml), (("_points" : Str), V.int n), (("_told" : Str), V.ref tl)] := by
  unfold wf
  show putF "_told" (.ref tl) (if ("_made" : Str) = "_points" then _ else _) = _
  rw [if_neg (by decide)]
  show (if ("_made" : Str) = "_told" then _ else (("_made" : Str), V.ref ml) :: (if ("_points" : Str) = "_told" then _ else _)) = _
  rw [if_neg (by decide), if_neg (by decide)]
  rfl
theorem wf_made (ml : Addr) (n : Int) (tl : Addr) : (wf ml n tl).lookup ("_made" : Str) = some (.ref ml) := by rw [wf_eq]; rfl
theorem wf_points (ml : Addr) (n : Int) (tl : Addr) : (wf ml n tl).lookup ("_points" : Str) = some (.int n) := by rw [wf_eq]; rfl
theorem wf_told (ml : Addr) (n : Int) (tl : Addr) : (wf ml n tl).lookup ("_told" : Str) = some (.ref tl) := by rw [wf_eq]; rfl
/-- a world stands at x -/
def WAt (C : Addr) (G : Hp) (x : Addr) (n : Int) (T L : List (List Int)) : Prop := ∃ (dx ml tl : Addr) (ms ts : List V), G x = some (.ins C dx (wf ml n tl)) ∧ G ml = some (.lst ms) ∧ DaAll G ms (L.map rowD) ∧ G tl = some (.lst ts) ∧ DaAll G ts (T.map rowD)
theorem WAt.up {C : Addr} {G G' : Hp} {x : Addr} {n : Int} {T L : List (List Int)} (h : WAt C G x n T L) (g : Same G G') : WAt C G' x n T L := by
  obtain ⟨dx, ml, tl, ms, ts, h1, h2, h3, h4, h5⟩ := h
  exact ⟨dx, ml, tl, ms, ts, g _ _ h1, g _ _ h2, h3.up g, g _ _ h4, h5.up g⟩
structure WOk (n : Int) (T L : List (List Int)) : Prop where
  n0 : 0 ≤ n
  n12 : n ≤ 12
  mv : AllMv n T
  lT : T.length ≤ 8
  lL : L.length ≤ 400
  grp : Grp n T L
/-- the object's own heap: what stood before it was made; x new -/
def spInit (K : PySem.W.Frag) (C DB DN DT : Addr) : Sp := fun vs H Q E => ∃ (G : Hp) (x dx : Addr) (v : V) (dv : PyData) (a : Addr) (xs : List V) (ds : List PyData), vs = [.ref x, v, .ref a] ∧ Same G H ∧ G x = none ∧ H x = some (.ins C dx []) ∧ Da G v dv ∧ HasS K H a xs ∧ DaAll G xs ds ∧ szL ds ≤ 900000 ∧
  Judge G H v dv ds DB DN DT (fun n T => (∀ (G' H' : Hp), Stp x G H G' H' → ∀ (ml tl : Addr) (ms ts : List V) (L : List (List Int)), G' x = none → H' x = some (.ins C dx (wf ml n tl)) → G' ml = some (.lst ms) → DaAll G' ms (L.map rowD) → G' tl = some (.lst ts) → DaAll G' ts (T.map rowD) → WOk n T L → Q .non H') ∧
    ((∀ L : List (List Int), (∀ w, Mk' n T w → w ∈ L) → 400 < L.length) → Errs E DT [(("limit" : Str), .int 400), (("what" : Str), .str "made")] H)) E

theorem judge_good {G H : Hp} {n : Int} {T : List (List Int)} {DB DN DT : Addr} {good : Int → List (List Int) → Prop} {E : XK} (n0 : 0 ≤ n) (n12 : n ≤ 12) (mv : AllMv n T) (lT : T.length ≤ 8) (g : good n T) : Judge G H (.int n) (.int n) (T.map rowD) DB DN DT good E := by
  refine ⟨fun e => ?_, fun n' e1 e2 _ _ => ?_⟩
  · have : isNum (.int n) 0 12 = true := by
      show (decide (0 ≤ n) && decide (n ≤ 12)) = true
      rw [decide_eq_true n0, decide_eq_true n12]
      rfl
    rw [this] at e
    cases e
  · cases e1
    refine ⟨fun c => by rw [List.length_map] at c; omega, fun _ i ⟨⟨d, hd, hb⟩, _⟩ => ?_, fun _ T' eT _ => by rw [← rows_inj eT]; exact g⟩
    rw [List.getElem?_map] at hd
    obtain ⟨m, hm, rfl⟩ := Option.map_eq_some_iff.mp hd
    rw [mvOn_of n0 (mv m (List.mem_of_getElem? hm))] at hb
    cases hb
def spPoints (C : Addr) : Sp := fun vs H Q _ => ∃ (G : Hp) (x : Addr) (n : Int) (T L : List (List Int)), vs = [.ref x] ∧ Same G H ∧ WAt C G x n T L ∧ Q (.int n) H
def spTold (C : Addr) : Sp := fun vs H Q _ => ∃ (G : Hp) (x : Addr) (n : Int) (T L : List (List Int)), vs = [.ref x] ∧ Same G H ∧ WAt C G x n T L ∧ ∀ (p : Addr) (ts : List V) (H' : Hp), DaAll G ts (T.map rowD) → New H p (.lst ts) H' → Q (.ref p) H'
def spMade (C : Addr) : Sp := fun vs H Q _ => ∃ (G : Hp) (x : Addr) (n : Int) (T L : List (List Int)), vs = [.ref x] ∧ Same G H ∧ WAt C G x n T L ∧ ∀ (p : Addr) (ms : List V) (H' : Hp), DaAll G ms (L.map rowD) → New H p (.lst ms) H' → Q (.ref p) H'
def spLenW (C : Addr) : Sp := fun vs H Q _ => ∃ (G : Hp) (x : Addr) (n : Int) (T L : List (List Int)), vs = [.ref x] ∧ Same G H ∧ WAt C G x n T L ∧ Q (.int (L.length : Nat)) H
def spEqW (C : Addr) : Sp := fun vs H Q _ => ∃ (G : Hp) (x y : Addr) (n m : Int) (T L U M : List (List Int)), vs = [.ref x, .ref y] ∧ Same G H ∧ WAt C G x n T L ∧ WAt C G y m U M ∧ ∀ b : Bool, (b = true ↔ n = m ∧ L = M) → Q (.bl b) H

def spGroup : Sp := fun vs H Q _ => ∃ (G : Hp) (a : Addr) (ts : List V) (T : List (List Int)) (n most : Int), vs = [.int n, .ref a, .int most] ∧ Same G H ∧ 0 ≤ n ∧ n ≤ 12 ∧ H a = some (.lst ts) ∧ DaAll G ts (T.map rowD) ∧ AllMv n T ∧ T.length ≤ 1000 ∧ 1 ≤ most ∧ most ≤ 1000 ∧
  (∀ (p : Addr) (G' H' : Hp) (ys : List V) (L : List (List Int)), Stq G H G' H' → H p = none → G' p = none → H' p = some (.lst ys) → DaAll G' ys (L.map rowD) → Grp n T L → ((L.length : Nat) : Int) ≤ most → Q (.ref p) H') ∧
  ((∀ L : List (List Int), (∀ w, Mk' n T w → w ∈ L) → most < (L.length : Nat)) → ∀ H', Same H H' → Q .non H')
theorem ok_group (Z : Zs mg) (D : Ds K mg) (c__law_after : Cal P w K mg base "_law_after" 1 ["first", "second"] spAfter) : Cal P w K mg base "_law_group" 2 ["points", "told", "most"] spGroup := by
  refine Def.cal D.d_law_group sc_law_group (fun vs H Q E h => ?_) (fun f cdv A outer s H vs Q E hr h => ?_)
  · obtain ⟨G, a, ts, T, n, most, rfl, gh, n0, n12, ha, dt, mvT, lT, m1, m2, q1, q2⟩ := h
    rfl
  obtain ⟨G, a, ts, T, n, most, rfl, gh, n0, n12, ha, dt, mvT, lT, m1, m2, q1, q2⟩ := h
  refine ⟨_, (pss_cons (ps_set (i := 3) sc_law_group.nd rfl (Or.inl rfl) (pe_tupRgN rfl (by rfl) Z.z_tuple (prg_1 (by rfl) Z.z_range (pv 0))))
      (pss_cons (ps_set (i := 4) sc_law_group.nd rfl (Or.inl rfl) (pe_lstN (pa_cons (pv 3) pa_nil)))
      (pss_cons (ps_set (i := 5) sc_law_group.nd rfl (Or.inl rfl) (pe_dispT1 (hu_of hr) (pv 3) pe_bl))
      (pss_cons (ps_set (i := 6) sc_law_group.nd rfl (Or.inl rfl) pe_int)
      (pss_cons (ps_while PassesOwn.never (pt_cmp (pc_lt (pv 6) (pe_callB call_len_seq (by rfl) Z.z_len (by decide +kernel) (pa_cons (pv 4) pa_nil))) (nomark _)) (pss_cons (ps_for PassesOwn.never rfl (pi_list (pv 1)) (pg_name (i := 7) sc_law_group.nd rfl (Or.inl rfl)) (pss_cons (ps_set (i := 8) sc_law_group.nd rfl (Or.inl rfl) (pe_cal c__law_after (hr.mono (by first | decide | omega)) (by rfl) (pa_cons (pe_ix ix_list (pv 4) (pv 6) (fun _ _ => rfl)) (pa_cons (pv 7) pa_nil))))
      (pss_one (ps_if (pt_cmp (pc_dnotin (hu_of hr) (pv 8) (pv 5))) (pss_cons (ps_if (pt_cmp (pc_ge (pe_callB call_len_seq (by rfl) Z.z_len (by decide +kernel) (pa_cons (pv 4) pa_nil)) (pv 2)) (nomark _)) (pss_one (ps_ret pe_non)) pss_nil)
      (pss_cons (ps_dput (hu_of hr) (pv 5) (pv 8) pe_bl rfl)
      (pss_one (ps_expr (pe_bm PySem.F.plainAttrs_list PySem.F.slot_list_append PySem.F.type_list_append mt_appendN (pv 4) (pa_cons (pv 8) pa_nil)))))) pss_nil))))
      (pss_one (ps_set (i := 6) sc_law_group.nd rfl (Or.inl rfl) (pe_op op_add (pv 6) pe_int)))))
      (pss_one (ps_ret (pe_callB call_sortR (by rfl) Z.z_sorted (by decide +kernel) (pa_cons (pv 4) pa_nil))))))))), ?_⟩
  have lt := dt.length
  rw [List.length_map] at lt
  refine ⟨_, rfl, n, rfl, .of_le (by decide) (by omega) (by decide) (by omega), fun p H1 n1 => ?_⟩
  rw [rgV_rngI] at n1
  obtain ⟨G1, s1, g1, k1, -⟩ := (Stq.refl gh).know2 n1
  refine ⟨_, rfl, Nat.succ_le_of_lt (Nat.lt_of_lt_of_le (show 0 < 2 by decide) (by decide)), fun qa H2 n2 => ?_⟩
  obtain ⟨s2, gq, hq, fq⟩ := s1.loc2 n2
  refine fun d hd => ⟨_, rfl, ?_⟩
  obtain ⟨s3, gd, h3, fd⟩ := s2.loc2 (p := d) (o := .dT []) ⟨hd, rfl⟩
  have hp3 : upd H2 d (.dT []) p = some (.tup ((keyL (rngI n)).map kV)) := by rw [keyL_kV]; exact s3.gh _ _ k1
  have nqd : qa ≠ d := fun e => by rw [← e, hq] at hd; cases hd
  refine ⟨h3, p, keyL (rngI n), rfl, hp3, ?_⟩
  have s4 := s3.mut gd fd (o := .dT [(keyL (rngI n), V.bl true)]) rfl
  have hd4 : upd (upd H2 d (.dT [])) d (.dT [(keyL (rngI n), V.bl true)]) d = some (.dT [(keyL (rngI n), V.bl true)]) := upd_same
  have hq4 : upd (upd H2 d (.dT [])) d (.dT [(keyL (rngI n), V.bl true)]) qa = some (.lst [V.ref p]) := by rw [upd_ne nqd, upd_ne nqd]; exact hq
  generalize upd (upd H2 d (.dT [])) d (.dT [(keyL (rngI n), V.bl true)]) = H4 at s4 hd4 hq4 ⊢
  refine ⟨fun m σ' H' => ∃ (at_ : Nat) (G' : Hp) (Qs : List (List Int)) (kvs : List (List L2.Key × V)) (ys : List V) (y7 y8 : Option V), m = most.toNat - at_ ∧ σ' = [some (.int n), some (.ref a), some (.int most), some (.ref p), some (.ref qa), some (.ref d), some (.int (at_ : Nat)), y7, y8] ∧ Stq G H G' H' ∧ G' qa = none ∧ G' d = none ∧
    H' qa = some (.lst ys) ∧ H' d = some (.dT kvs) ∧ DaAll G' ys (Qs.map rowD) ∧ kvs.map (·.1) = Qs.map keyL ∧ QOk T (rngI n) Qs at_ 0 ∧ ((Qs.length : Nat) : Int) ≤ most, ⟨_, 0, G1, [rngI n], _, _, none, none, rfl, rfl, s4, gq, gd, hq4, hd4, .cons (.tup k1 (DaAll.ints _)) .nil, rfl, .start _ _, by show ((1 : Nat) : Int) ≤ most; omega⟩, ?_⟩
  rintro m σ' H5 ⟨at_, G5, Qs, kvs, ys, y7, y8, rfl, rfl, s5, gq5, gd5, hq5, hd5, dy5, ek, ok, lm⟩
  have ly := dy5.length
  rw [List.length_map] at ly
  refine ⟨_, rfl, _, rfl, qa, _, rfl, .inl (.of hq5), _, _, rfl, rfl, _, rfl, ite2 (fun c => ?_) (fun c => ?_)⟩
  · have c : ((at_ : Nat) : Int) < ((ys.length : Nat) : Int) := dec_of c
    have atl : at_ < Qs.length := by omega
    obtain ⟨x, hx⟩ : ∃ x, Qs[at_]? = some x := ⟨_, List.getElem?_eq_getElem atl⟩
    refine ⟨fun σ' H' => ∃ m', m' < most.toNat - at_ ∧ ∃ (at_ : Nat) (G' : Hp) (Qs : List (List Int)) (kvs : List (List L2.Key × V)) (ys : List V) (y7 y8 : Option V), m' = most.toNat - at_ ∧ σ' = [some (.int n), some (.ref a), some (.int most), some (.ref p), some (.ref qa), some (.ref d), some (.int (at_ : Nat)), y7, y8] ∧ Stq G H G' H' ∧ G' qa = none ∧ G' d = none ∧
      H' qa = some (.lst ys) ∧ H' d = some (.dT kvs) ∧ DaAll G' ys (Qs.map rowD) ∧ kvs.map (·.1) = Qs.map keyL ∧ QOk T (rngI n) Qs at_ 0 ∧ ((Qs.length : Nat) : Int) ≤ most, fun σ' H' z => z, ?_⟩
    refine ⟨_, rfl, a, rfl, ⟨_, .of (s5.hh _ _ ha)⟩, for_list (K := K) (a := a) (xs := ts) (fun j σ' H' => ∃ (G' : Hp) (Qs : List (List Int)) (kvs : List (List L2.Key × V)) (ys : List V) (y7 y8 : Option V), σ' = [some (.int n), some (.ref a), some (.int most), some (.ref p), some (.ref qa), some (.ref d), some (.int (at_ : Nat)), y7, y8] ∧ Stq G H G' H' ∧ G' qa = none ∧ G' d = none ∧
      H' qa = some (.lst ys) ∧ H' d = some (.dT kvs) ∧ DaAll G' ys (Qs.map rowD) ∧ kvs.map (·.1) = Qs.map keyL ∧ QOk T (rngI n) Qs at_ j ∧ ((Qs.length : Nat) : Int) ≤ most ∧ at_ < Qs.length) ?_ ?_ ?_ ?_⟩
    · exact ⟨G5, Qs, kvs, ys, y7, y8, rfl, s5, gq5, gd5, hq5, hd5, dy5, ek, ok, lm, atl⟩
    · rintro j σ' H' - ⟨G', Qs, kvs, ys, y7, y8, rfl, s6, -⟩
      exact .of (s6.hh _ _ ha)
    · rintro j y σ' H6 hy ⟨G6, Qs, kvs, ys, y7, y8, rfl, s6, gq6, gd6, hq6, hd6, dy6, ek, ok, lm, atl⟩
      obtain ⟨e, he, hde⟩ := dt.get hy
      rw [List.getElem?_map] at he
      obtain ⟨m, hm, rfl⟩ := Option.map_eq_some_iff.mp he
      obtain ⟨b, rfl, hb⟩ := rows_ref hde
      obtain ⟨x, hx⟩ : ∃ x, Qs[at_]? = some x := ⟨_, List.getElem?_eq_getElem atl⟩
      have lyj := dy6.length
      rw [List.length_map] at lyj
      obtain ⟨v, hv⟩ : ∃ v, ys[at_]? = some v := ⟨_, List.getElem?_eq_getElem (by omega)⟩
      obtain ⟨e2, he2, hdx⟩ := dy6.get hv
      rw [List.getElem?_map, hx] at he2
      cases he2
      obtain ⟨c2, rfl, hc2⟩ := rows_ref hdx
      have xmv := made_mv n0 mvT (ok.rch x (List.mem_of_getElem? hx))
      have mvm := mvT m (List.mem_of_getElem? hm)
      refine ⟨_, rfl, _, rfl, qa, _, _, _, rfl, rfl, .of hq6, atI_nat hv, _, rfl, G6, c2, b, x, m, n, rfl, s6.gh, hc2, s6.gg _ _ hb, mvm, xmv.row, by have := xmv.len; omega, fun p7 G7 H7 s7 k7 => ?_⟩
      have S7 := s6.trans s7
      have hd7 := s7.hh _ _ hd6
      have hq7 := s7.hh _ _ hq6
      have gd7 := s7.nw2 hd6 gd6
      have gq7 := s7.nw2 hq6 gq6
      have dy7 := dy6.up s7.gg
      have hp7 : H7 p7 = some (.tup ((keyL (aft x m)).map kV)) := by rw [keyL_kV]; exact s7.gh _ _ k7
      refine ⟨_, rfl, _, rfl, d, _, rfl, DGet.t hd7 hp7, _, rfl, ?_⟩
      rw [val_some ek]
      by_cases c : aft x m ∈ Qs
      · rw [decide_eq_true c]
        exact iteF ⟨G7, Qs, kvs, ys, _, _, rfl, S7, gq7, gd7, hq7, hd7, dy7, ek, ok.same hx hm c, lm, atl⟩
      · rw [decide_eq_false c]
        refine iteT ⟨_, rfl, qa, _, rfl, .inl (.of hq7), _, rfl, _, _, rfl, rfl, _, rfl, ite2 (fun c3 => ?_) (fun c3 => ?_)⟩
        · have c3 : most ≤ ((ys.length : Nat) : Int) := dec_of c3
          refine q2 (fun L hL => ?_) H7 S7.hh
          have ok2 := ok.app hx hm c
          have := len_sub ok2.nd fun w hw => hL w (ok2.rch w hw)
          rw [List.length_append] at this
          have e1 : ([aft x m] : List (List Int)).length = 1 := rfl
          omega
        · have c3 : ¬ most ≤ ((ys.length : Nat) : Int) := dec_not c3
          have lkv : kvs.length = Qs.length := by
            have := congrArg List.length ek
            rwa [List.length_map, List.length_map] at this
          refine ⟨_, rfl, _, rfl, d, _, rfl, DPut.t hd7 hp7 (Nat.lt_of_le_of_lt (show kvs.length ≤ 1000 by omega) (by decide)), ?_⟩
          have nqd : qa ≠ d := ne_of hq7 hd7 (by intro z; cases z)
          have S8 := S7.mut gd7 fd (o := .dT (putK kvs (keyL (aft x m)) (.bl true))) rfl
          have hq8 : upd H7 d (.dT (putK kvs (keyL (aft x m)) (.bl true))) qa = some (.lst ys) := by rw [upd_ne nqd]; exact hq7
          refine ⟨_, rfl, .inl ⟨rfl, _, .of hq8⟩, _, rfl, qa, _, _, rfl, rfl, hq8, Nat.lt_of_le_of_lt (show ys.length ≤ 1000 by omega) (by decide), fun H9 e9 => ?_⟩
          refine ⟨G7, Qs ++ [aft x m], _, _, _, _, rfl, S8.mut gq7 fq e9, gq7, gd7, upd_at e9, upd_else e9 upd_same (Ne.symm nqd), ?_, ?_, ok.app hx hm c, ?_, ?_⟩
          · rw [List.map_append]
            exact dy7.append (.one (.tup k7 (DaAll.ints _)))
          · rw [putK_new _ (val_none ek c), List.map_append, List.map_append, ek]
            rfl
          · rw [List.length_append]
            show ((Qs.length + 1 : Nat) : Int) ≤ most
            omega
          · rw [List.length_append]
            omega
    · rintro σ' H6 ⟨G6, Qs, kvs, ys, y7, y8, rfl, s6, gq6, gd6, hq6, hd6, dy6, ek, ok, lm, atl⟩
      rw [lt] at ok
      refine ⟨_, rfl, _, _, rfl, rfl, _, ?_, at_ + 1, G6, Qs, kvs, ys, _, _, rfl, rfl, s6, gq6, gd6, hq6, hd6, dy6, ek, ok.next, lm⟩
      omega
  · have c : ¬ ((at_ : Nat) : Int) < ((ys.length : Nat) : Int) := dec_not c
    have keys := ok.end_ (by omega)
    refine ⟨_, rfl, qa, ys, Qs, rfl, .of hq5, dy5.up s5.gh, fun h2 l hl e => ?_, fun zs Ms r H6 dz pm so n6 => ?_⟩
    · subst e
      have := ((keys []).mp hl).row mvT rng_mv.row
      have z : (rngI n).length = 0 := this.2.symm
      rw [rngI_len] at z
      have all0 : ∀ w ∈ Qs, w ∈ [([] : List Int)] := fun w hw => by
        have := ((keys w).mp hw).row mvT rng_mv.row
        rw [rngI_len, z] at this
        rw [List.eq_nil_of_length_eq_zero this.2]
        exact List.mem_singleton.mpr rfl
      have := len_sub ok.nd all0
      simp at this
      omega
    · obtain ⟨s6, gr, hr6, fr⟩ := s5.loc2 n6
      have lM := pm.length_eq
      exact q1 r (fullG G5 H6) H6 zs Ms s6.full fr (full_else hr6 rfl gr) hr6 (rows_full s6.gh (dz.up n6.same)) (.of_perm ok.nd keys pm so) (by omega)


theorem depth_get : ∀ {ds : List PyData} {i : Nat} {d : PyData}, ds[i]? = some d → PyData.depth d ≤ PyData.depthAll ds
  | x :: ds, 0, d, h => by
    cases h
    simp only [PyData.depthAll]
    omega
  | x :: ds, i + 1, d, h => by
    have := depth_get (ds := ds) (i := i) h
    simp only [PyData.depthAll]
    omega
  | [], _, _, h => by cases h
theorem sq_depth {t : Bool} {es : List PyData} {k : Nat} (h : PyData.depth (sqD t es) < k + 1) : PyData.depthAll es < k := by
  cases t <;> simp only [sqD, PyData.depth, if_true, if_false, Bool.false_eq_true] at h <;> omega
def eqAt (ds es : List PyData) (i : Nat) : Bool := sameD (ds.getD i .none) (es.getD i .none)
theorem sameL_at {ds es : List PyData} (h : ds.length = es.length) : sameL ds es = ((List.range es.length).map (eqAt ds es)).all id := by
  induction ds generalizing es with
  | nil => cases es with
    | nil => rfl
    | cons _ _ => cases h
  | cons d ds ih => cases es with
    | nil => cases h
    | cons e es =>
      show (sameD d e && sameL ds es) = _
      rw [ih (Nat.succ.inj h), List.length_cons, List.range_succ_eq_map, List.map_cons, List.all_cons, List.map_map]
      rfl
def spAlike (k : Nat) : Sp := fun vs H Q _ => ∃ (G : Hp) (v w : V) (d e : PyData), vs = [v, w] ∧ Same G H ∧ Da G v d ∧ Da G w e ∧ PyData.depth e < k ∧ szD e ≤ 900000 ∧ ∀ H', Same H H' → Q (.bl (sameD d e)) H'
theorem or_and4 {A B C D : TT} {σ : L2.St} {H : Hp} {R : Bool → Hp → Prop} (a b c d : Bool) (hA : ∀ R : Bool → Hp → Prop, R a H → A σ H R) (hB : ∀ R : Bool → Hp → Prop, R b H → B σ H R) (hC : ∀ R : Bool → Hp → Prop, R c H → C σ H R) (hD : ∀ R : Bool → Hp → Prop, R d H → D σ H R)
    (h : R ((a && !b) || (c && !d)) H) : tOr (tAnd A (tNot B)) (tAnd C (tNot D)) σ H R := by
  refine hA _ ?_
  have rest : ((a && !b) = false) → tAnd C (tNot D) σ H R := fun e => by
    rw [e, Bool.false_or] at h
    refine hC _ ?_
    cases c with
    | true => exact iteT (hD _ h)
    | false => exact iteF h
  cases a with
  | false => exact iteF (iteF (rest rfl))
  | true =>
    refine iteT (hB _ ?_)
    cases b with
    | true => exact iteF (rest rfl)
    | false => exact iteT h
theorem sq_ne {d : PyData} {t : Bool} {es : List PyData} {G : Hp} {v : V} (hd : Da G v d) (h : (((!t) && !instB d "list") || (t && !instB d "tuple")) = true) : sameD d (sqD t es) = false := by
  cases t with
  | true => cases hd <;> first | rfl | (simp [ib_tuple_tuple] at h)
  | false => cases hd <;> first | rfl | (simp [ib_list_list] at h)
theorem same_sq {d : PyData} {t : Bool} {G : Hp} {v : V} (hd : Da G v d) (h : ¬ (((!t) && !instB d "list") || (t && !instB d "tuple")) = true) : ∃ a xs ds, v = .ref a ∧ G a = some (if t then HO.tup xs else HO.lst xs) ∧ DaAll G xs ds ∧ d = sqD t ds := by
  cases t with
  | true => cases hd with
    | tup h1 h2 => exact ⟨_, _, _, rfl, h1, h2, rfl⟩
    | non => simp [ib_none_tuple] at h
    | bl b => simp [ib_bool_tuple] at h
    | int b => simp [ib_int_tuple] at h
    | str b => simp [ib_str_tuple] at h
    | lst _ _ => simp [ib_list_tuple] at h
  | false => cases hd with
    | lst h1 h2 => exact ⟨_, _, _, rfl, h1, h2, rfl⟩
    | non => simp [ib_none_list] at h
    | bl b => simp [ib_bool_list] at h
    | int b => simp [ib_int_list] at h
    | str b => simp [ib_str_list] at h
    | tup _ _ => simp [ib_tuple_list] at h
theorem no_levelA {x : Str} {st : Stmt} {ps : List Str} {sp : Sp} (D : Def K mg x st ps) (no : ∀ vs H Q E, ¬ sp vs H Q E) : Cal P w K mg base x 0 ps sp := by
  obtain ⟨f, fd, F, g, b⟩ := D
  exact ⟨f, fd, ⟨fun vs H Q E h => absurd h (no vs H Q E), fun A outer s H args us vs Q E _ _ _ _ h => absurd h (no vs H Q E)⟩, g, F.kp, b⟩
theorem ok_alike_step (Z : Zs mg) (D : Ds K mg) (k : Nat) (c__law_alike : Cal P w K mg base "_law_alike" k ["one", "two"] (spAlike k)) : Cal P w K mg base "_law_alike" (k + 1) ["one", "two"] (spAlike (k + 1)) := by
  refine Def.cal D.d_law_alike sc_law_alike (fun vs H Q E h => ?_) (fun f cdv A outer s H vs Q E hr h => ?_)
  · obtain ⟨G, v, w, d, e, rfl, gh, hd, he, dk, sz, q⟩ := h
    rfl
  obtain ⟨G, v, w, d, e, rfl, gh, hd, he, dk, sz, q⟩ := h
  refine ⟨_, (pss_cons (ps_if (pt_val (pe_callB call_isD2 (by rfl) Z.z_isinstance (by decide +kernel) (pa_cons (pv 1) (pa_cons (pe_tupN (pa_cons (pe_bltn (v := .ty "list") (by rfl) Z.z_list (by decide +kernel) rfl) (pa_cons (pe_bltn (v := .ty "tuple") (by rfl) Z.z_tuple (by decide +kernel) rfl) pa_nil))) pa_nil)))) (pss_cons (ps_if (PW.pt (pw_or (PW.pt (pw_and (pt_val (pe_callB call_isD (by rfl) Z.z_isinstance (by decide +kernel) (pa_cons (pv 1) (pa_cons (pe_bltn (v := .ty "list") (by rfl) Z.z_list (by decide +kernel) rfl) pa_nil)))) (pw_and1 (pt_not (pt_val (pe_callB call_isD (by rfl) Z.z_isinstance (by decide +kernel) (pa_cons (pv 0) (pa_cons (pe_bltn (v := .ty "list") (by rfl) Z.z_list (by decide +kernel) rfl) pa_nil)))))))) (pw_or1 (PW.pt (pw_and (pt_val (pe_callB call_isD (by rfl) Z.z_isinstance (by decide +kernel) (pa_cons (pv 1) (pa_cons (pe_bltn (v := .ty "tuple") (by rfl) Z.z_tuple (by decide +kernel) rfl) pa_nil)))) (pw_and1 (pt_not (pt_val (pe_callB call_isD (by rfl) Z.z_isinstance (by decide +kernel) (pa_cons (pv 0) (pa_cons (pe_bltn (v := .ty "tuple") (by rfl) Z.z_tuple (by decide +kernel) rfl) pa_nil))))))))))) (pss_one (ps_ret pe_bl)) pss_nil)
      (pss_one (ps_ret (pe_and (pe_cmp (pc_eqI (pe_callB call_len (by rfl) Z.z_len (by decide +kernel) (pa_cons (pv 0) pa_nil)) (pe_callB call_len (by rfl) Z.z_len (by decide +kernel) (pa_cons (pv 1) pa_nil))) (nomark _)) (pe_one (pe_callB (cr_all rfl) (by rfl) Z.z_all (by decide +kernel) (pa_cons (pe_lc (own := [("k", 2)]) (g := gName 2) (tt := tYes) (by rfl) sc_law_alike.nd (pi_range1 (by rfl) Z.z_range (pa_cons (pe_callB call_len (by rfl) Z.z_len (by decide +kernel) (pa_cons (pv 1) pa_nil)) pa_nil)) (blkOk_by (N := ["one", "two", "k"]) (sc := defScope s_law_alike) (by decide +kernel)) (fun _ _ _ _ _ => pg_name (i := 2) sc_law_alike.nd rfl (Or.inl rfl)) (fun _ _ _ _ _ => pts_nil) (fun _ _ _ _ _ => (pe_cal c__law_alike (hr.mono (by first | decide | omega)) (by rfl) (pa_cons (pe_ix (ix_seqK (K := K) rfl) (pv 0) (pv 2) (fun _ _ => rfl)) (pa_cons (pe_ix (ix_seqK (K := K) rfl) (pv 1) (pv 2) (fun _ _ => rfl)) pa_nil))))) pa_nil))))))) pss_nil)
      (pss_cons (ps_if (PW.pt (pw_or (pt_cmpR op_isN (pv 1) pe_non (nomark _)) (pw_or (pt_cmpR op_isBD (pv 1) pe_bl (nomark _)) (pw_or1 (pt_cmpR op_isBD (pv 1) pe_bl (nomark _)))))) (pss_one (ps_ret (pe_or (pe_and (pe_cmpR op_isN (pv 1) pe_non (nomark _)) (pe_one (pe_cmpR op_isN (pv 0) pe_non (nomark _)))) (pe_or (pe_and (pe_cmpR op_isBD (pv 1) pe_bl (nomark _)) (pe_one (pe_cmpR op_isBD (pv 0) pe_bl (nomark _)))) (pe_one (pe_and (pe_cmpR op_isBD (pv 1) pe_bl (nomark _)) (pe_one (pe_cmpR op_isBD (pv 0) pe_bl (nomark _))))))))) pss_nil)
      (pss_cons (ps_if (pt_val (pe_callB call_isD (by rfl) Z.z_isinstance (by decide +kernel) (pa_cons (pv 1) (pa_cons (pe_bltn (v := .ty "str") (by rfl) Z.z_str (by decide +kernel) rfl) pa_nil)))) (pss_one (ps_ret (pe_and (pe_callB call_isD (by rfl) Z.z_isinstance (by decide +kernel) (pa_cons (pv 0) (pa_cons (pe_bltn (v := .ty "str") (by rfl) Z.z_str (by decide +kernel) rfl) pa_nil))) (pe_one (pe_cmpR op_eq (pv 0) (pv 1) (nomark _)))))) pss_nil)
      (pss_one (ps_ret (pe_and (pe_callB call_isD (by rfl) Z.z_isinstance (by decide +kernel) (pa_cons (pv 0) (pa_cons (pe_bltn (v := .ty "int") (by rfl) Z.z_int (by decide +kernel) rfl) pa_nil))) (pe_and (pe_not (pe_callB call_isD (by rfl) Z.z_isinstance (by decide +kernel) (pa_cons (pv 0) (pa_cons (pe_bltn (v := .ty "bool") (by rfl) Z.z_bool (by decide +kernel) rfl) pa_nil)))) (pe_one (pe_cmpR op_eq (pv 0) (pv 1) (nomark _)))))))))), ?_⟩
  refine ⟨_, rfl, (by show 2 ≤ sizeLine; decide), fun tp H2 n2 => ?_⟩
  have gh := gh.trans n2.same
  have q2 := fun H' (s : Same H2 H') => q H' (n2.same.trans s)
  have hd2 := hd.up gh
  have he2 := he.up gh
  have no : sameD d e = false → Q (.bl false) H2 := fun h => by
    have := q2 H2 (Same.refl _)
    rwa [h] at this
  refine ⟨w, e, tp, rfl, n2.at, he2, _, rfl, ?_⟩
  rcases he.kind with ⟨rfl, rfl⟩ | ⟨b, rfl, rfl⟩ | ⟨j, rfl, rfl⟩ | ⟨j, rfl, rfl⟩ | ⟨b, ys, es, t, rfl, hb, hbt, hbl, dys, rfl⟩
  · refine iteBF (by rw [ib_none_list, ib_none_tuple]; rfl) ⟨_, rfl, rfl, _, rfl, iteDT rfl (iteT ?_)⟩
    refine ⟨_, rfl, rfl, _, rfl, iteDT rfl ⟨_, rfl, rfl, _, rfl, ite2 (fun c => ?_) (fun c => ?_)⟩⟩
    · have e := hd.non_iff.mp (dec_of c)
      subst e
      exact q2 H2 (Same.refl _)
    · have e : ¬ d = .none := fun z => dec_not c (hd.non_iff.mpr z)
      refine ⟨_, rfl, .none, true, .non, rfl, _, rfl, iteDF (by intro z; cases z) ⟨_, rfl, iteF ⟨_, rfl, .none, false, .non, rfl, _, rfl, iteDF (by intro z; cases z) (no ?_)⟩⟩⟩
      cases d <;> first | rfl | exact absurd rfl e
  · refine iteBF (by rw [ib_bool_list, ib_bool_tuple]; rfl) ⟨_, rfl, rfl, _, rfl, iteDF (by intro z; cases z) ?_⟩
    cases b with
    | true =>
      refine ⟨_, rfl, _, true, .bl true, rfl, _, rfl, iteDT rfl (iteT ?_)⟩
      refine ⟨_, rfl, rfl, _, rfl, iteDF (by intro z; cases z) ⟨_, rfl, iteF ⟨_, rfl, _, true, .bl true, rfl, _, rfl, iteDT rfl ⟨_, rfl, d, true, hd2, rfl, _, rfl, ite2 (fun c => ?_) (fun c => ?_)⟩⟩⟩⟩
      · have e := hd.bl_iff.mp (dec_of c)
        subst e
        exact q2 H2 (Same.refl _)
      · have e : ¬ d = .bool true := fun z => dec_not c (hd.bl_iff.mpr z)
        refine ⟨_, rfl, _, false, .bl true, rfl, _, rfl, iteDF (by intro z; cases z) (no ?_)⟩
        cases d with
        | bool b => cases b with
          | true => exact absurd rfl e
          | false => rfl
        | _ => rfl
    | false =>
      refine ⟨_, rfl, _, true, .bl false, rfl, _, rfl, iteDF (by intro z; cases z) ⟨_, rfl, _, false, .bl false, rfl, _, rfl, iteDT rfl ?_⟩⟩
      refine ⟨_, rfl, rfl, _, rfl, iteDF (by intro z; cases z) ⟨_, rfl, iteF ⟨_, rfl, _, true, .bl false, rfl, _, rfl, iteDF (by intro z; cases z) ⟨_, rfl, iteF ⟨_, rfl, _, false, .bl false, rfl, _, rfl, iteDT rfl ⟨_, rfl, d, false, hd2, rfl, ?_⟩⟩⟩⟩⟩⟩
      have := q2 H2 (Same.refl _)
      by_cases c : v = .bl false
      · have e := hd.bl_iff.mp c
        subst e
        rw [decide_eq_true c]
        exact this
      · rw [decide_eq_false c]
        have e : ¬ d = .bool false := fun z => c (hd.bl_iff.mpr z)
        refine no ?_
        cases d with
        | bool b => cases b with
          | true => rfl
          | false => exact absurd rfl e
        | _ => rfl
  · refine iteBF (by rw [ib_int_list, ib_int_tuple]; rfl) ⟨_, rfl, rfl, _, rfl, iteDF (by intro z; cases z) ⟨_, rfl, _, true, .int j, rfl, _, rfl, iteDF (by intro z; cases z) ⟨_, rfl, _, false, .int j, rfl, _, rfl, iteDF (by intro z; cases z) ?_⟩⟩⟩
    refine ⟨_, rfl, _, _, "str", rfl, .int j, ok_str, _, rfl, iteBF (ib_int_str j) ⟨_, rfl, v, d, "int", rfl, hd2, .inl rfl, _, rfl, ?_⟩⟩
    cases hd with
    | int i =>
      refine iteBT (ib_int_int i) ⟨_, rfl, _, _, "bool", rfl, .int i, .inr (.inl rfl), _, rfl, _, rfl, iteBT (by rw [ib_int_bool]; rfl) ⟨_, rfl, _, rfl, rfl, ?_⟩⟩
      have := q2 H2 (Same.refl _)
      by_cases c : i = j
      · subst c
        rw [decide_eq_true rfl]
        rwa [show sameD (.int i) (.int i) = true from decide_eq_true rfl] at this
      · rw [decide_eq_false fun z => c (V.int.inj z)]
        exact no (decide_eq_false c)
    | bl b => exact iteBT (ib_bool_int b) ⟨_, rfl, _, _, "bool", rfl, .bl b, .inr (.inl rfl), _, rfl, _, rfl, iteBF (by rw [ib_bool_bool]; rfl) (no rfl)⟩
    | non => exact iteBF ib_none_int (no rfl)
    | str _ => exact iteBF (ib_str_int _) (no rfl)
    | lst _ _ => exact iteBF (ib_list_int _) (no rfl)
    | tup _ _ => exact iteBF (ib_tuple_int _) (no rfl)
  · refine iteBF (by rw [ib_str_list, ib_str_tuple]; rfl) ⟨_, rfl, rfl, _, rfl, iteDF (by intro z; cases z) ⟨_, rfl, _, true, .str j, rfl, _, rfl, iteDF (by intro z; cases z) ⟨_, rfl, _, false, .str j, rfl, _, rfl, iteDF (by intro z; cases z) ?_⟩⟩⟩
    refine ⟨_, rfl, _, _, "str", rfl, .str j, ok_str, _, rfl, iteBT (ib_str_str j) ⟨_, rfl, v, d, "str", rfl, hd2, ok_str, _, rfl, ?_⟩⟩
    cases hd with
    | str i =>
      refine iteBT (ib_str_str i) ⟨_, rfl, _, rfl, rfl, ?_⟩
      have := q2 H2 (Same.refl _)
      by_cases c : i = j
      · subst c
        rw [decide_eq_true rfl]
        rwa [show sameD (.str i) (.str i) = true from decide_eq_true rfl] at this
      · rw [decide_eq_false fun z => c (V.str.inj z)]
        exact no (decide_eq_false c)
    | bl b => exact iteBF (ib_bool_str b) (no rfl)
    | non => exact iteBF ib_none_str (no rfl)
    | int _ => exact iteBF (ib_int_str _) (no rfl)
    | lst _ _ => exact iteBF (ib_list_str _) (no rfl)
    | tup _ _ => exact iteBF (ib_tuple_str _) (no rfl)
  · have i3 : instB (sqD t es) "tuple" = t := by cases t <;> first | exact ib_list_tuple es | exact ib_tuple_tuple es
    have i4 : instB (sqD t es) "list" = !t := by cases t <;> first | exact ib_list_list es | exact ib_tuple_list es
    refine iteBT (by rw [i3, i4]; cases t <;> rfl) ?_
    refine or_and4 (!t) (instB d "list") t (instB d "tuple") (fun R r => ⟨_, rfl, _, _, "list", rfl, he2, ok_list, _, rfl, by rw [i4]; exact r⟩) (fun R r => ⟨_, rfl, _, _, "list", rfl, hd2, ok_list, _, rfl, r⟩) (fun R r => ⟨_, rfl, _, _, "tuple", rfl, he2, ok_tuple, _, rfl, by rw [i3]; exact r⟩) (fun R r => ⟨_, rfl, _, _, "tuple", rfl, hd2, ok_tuple, _, rfl, r⟩) (ite2 (fun c => ?_) (fun c => ?_))
    · exact no (sq_ne hd c)
    obtain ⟨a, xs, ds, rfl, ha, dxs, rfl⟩ := same_sq hd c
    have hb' : G b = some (if t then HO.tup ys else HO.lst ys) := by
      cases t with
      | true => exact hbt rfl
      | false => exact hbl rfl
    have sq : ∀ {p : Addr} {zs : List V} {H' : Hp}, Same G H' → G p = some (if t then HO.tup zs else HO.lst zs) → SqL K H' p zs ∨ SqT K H' p zs := fun {p zs H'} g h => by
      cases t with
      | true => exact .inr (.of (g _ _ h))
      | false => exact .inl (.of (g _ _ h))
    have lv : ∀ {p : Addr} {zs : List V} {H' : Hp}, Same G H' → G p = some (if t then HO.tup zs else HO.lst zs) → LenV K (.ref p) H' zs.length := fun {p zs H'} g h => (sq g h).imp (fun z => ⟨_, z, rfl⟩) fun z => ⟨_, z, rfl⟩
    have lx := dxs.length
    have ly := dys.length
    have zl := szL_len es
    have ze := sqD_sz t es
    refine ⟨_, rfl, .ref a, xs.length, rfl, lv gh ha, _, rfl, .ref b, ys.length, rfl, lv gh hb', _, _, rfl, rfl, _, rfl, ite2 (fun c => ?_) (fun c => ?_)⟩
    · have c : ((xs.length : Nat) : Int) = ((ys.length : Nat) : Int) := dec_of c
      refine ⟨_, rfl, .ref b, ys.length, rfl, lv gh hb', _, rfl, by omega, by omega, fun l hl => ?_⟩
      refine lc_range (lo := 0) (n := ys.length) (fun i H' => Same H2 H' ∧ H2 l = none ∧ H' l = some (.lst (((List.range i).map (eqAt ds es)).map V.bl))) ⟨New.same (o := .lst []) ⟨hl, rfl⟩, hl, upd_same⟩ ?_ ?_
      · rintro i H3 hi ⟨g3, fl, h3⟩
        have gG := gh.trans g3
        obtain ⟨x, hx⟩ : ∃ x, xs[i]? = some x := ⟨_, List.getElem?_eq_getElem (by omega)⟩
        obtain ⟨y, hy⟩ : ∃ y, ys[i]? = some y := ⟨_, List.getElem?_eq_getElem (by omega)⟩
        obtain ⟨d1, hd1, dd1⟩ := dxs.get hx
        obtain ⟨e1, he1, de1⟩ := dys.get hy
        have z1 := szL_get he1
        have dp := depth_get he1
        have dq := sq_depth dk
        have ei : eqAt ds es i = sameD d1 e1 := by unfold eqAt; rw [List.getD_eq_getElem?_getD, List.getD_eq_getElem?_getD, hd1, he1]; rfl
        refine ⟨rfl, yesT ⟨_, rfl, _, rfl, ?_⟩⟩
        have ix : ∀ {p : Addr} {zs : List V} {z : V} {H' : Hp} {R : VK}, Same G H' → G p = some (if t then HO.tup zs else HO.lst zs) → zs[i]? = some z → R z H' → rIx K (.ref p) (.int (0 + (i : Int))) H' R := fun {p zs z H' R} g h at_ r => by
          rw [Int.zero_add]
          rcases sq g h with h | h
          · exact .inl ⟨p, zs, _, z, rfl, rfl, h, atI_nat at_, r⟩
          · exact .inr (.inl ⟨p, zs, _, z, rfl, rfl, h, atI_nat at_, r⟩)
        refine ix gG ha hx ⟨_, rfl, _, rfl, ix gG hb' hy ⟨G, x, y, d1, e1, rfl, gG, dd1, de1, by omega, by omega, fun H4 s4 => ⟨_, s4 _ _ h3, ?_, ?_, fl, ?_⟩⟩⟩
        · rw [List.length_map, List.length_map, List.length_range]
          exact lt (by omega)
        · intro p o hp
          rw [upd_ne fun z => by rw [z, fl] at hp; cases hp]
          exact s4 _ _ (g3 _ _ hp)
        · rw [upd_same, List.range_succ, List.map_append, List.map_append]
          show _ = some (HO.lst (_ ++ [V.bl (eqAt ds es i)]))
          rw [ei]
      · rintro H3 ⟨g3, fl, h3⟩
        refine ⟨l, _, rfl, .of h3, ?_⟩
        have := q2 H3 g3
        have e : sameD (sqD t ds) (sqD t es) = sameL ds es := by cases t <;> rfl
        rw [e, sameL_at (by omega), ← ly] at this
        exact this
    · have c : ¬ ((xs.length : Nat) : Int) = ((ys.length : Nat) : Int) := dec_not c
      refine no ?_
      have e : sameD (sqD t ds) (sqD t es) = sameL ds es := by cases t <;> rfl
      rw [e]
      exact sameL_len (by omega)
theorem ok_alike (Z : Zs mg) (D : Ds K mg) : ∀ k, Cal P w K mg base "_law_alike" k ["one", "two"] (spAlike k)
  | 0 => no_levelA D.d_law_alike fun vs H Q E h => by
    obtain ⟨G, v, w, d, e, _, _, _, _, h0, _⟩ := h
    omega
  | k + 1 => ok_alike_step Z D k (ok_alike Z D k)


theorem AllMv.nil' {n : Int} : AllMv n [] := fun m hm => by cases hm
theorem AllMv.cons' {n : Int} {m : List Int} {T : List (List Int)} (h : IsMv m n) (t : AllMv n T) : AllMv n (m :: T) := fun x hx => (List.mem_cons.mp hx).elim (fun e => e ▸ h) (t x)
theorem AllMv.app' {n : Int} {T U : List (List Int)} (h : AllMv n T) (t : AllMv n U) : AllMv n (T ++ U) := fun x hx => (List.mem_append.mp hx).elim (h x) (t x)
def Tld (S : Sr) (G H : Hp) (p : Addr) (n : Int) (T : List (List Int)) (H' : Hp) : Prop := ∃ (G' : Hp) (q : Addr) (ts : List V), Go S G H G' H' ∧ G' p = none ∧ G' q = none ∧ H p = none ∧ H q = none ∧ H' p = some (.lst [.int n, .ref q]) ∧ H' q = some (.lst ts) ∧ DaAll G' ts (T.map rowD) ∧ AllMv n T ∧ 0 ≤ n ∧ n ≤ 12 ∧ T.length ≤ 8
theorem Tld.mk {S : Sr} {G H G1 H1 : Hp} {p q : Addr} {n : Int} {T : List (List Int)} {ts : List V} (s : Go S G H G1 H1) (gp : G1 p = none) (gq : G1 q = none) (fp : H p = none) (fq : H q = none) (hp : H1 p = some (.lst [.int n, .ref q])) (hq : H1 q = some (.lst ts)) (dt : DaAll H1 ts (T.map rowD)) (mv : AllMv n T) (n0 : 0 ≤ n) (n12 : n ≤ 12) (l : T.length ≤ 8) : Tld S G H p n T H1 :=
  ⟨fullG G1 H1, q, ts, s.full, full_else hp rfl gp, full_else hq rfl gq, fp, fq, hp, hq, rows_full s.gh dt, mv, n0, n12, l⟩
def spTold0 : Sp := fun vs H Q _ => ∃ (S : Sr) (G : Hp), vs = [.ref S.a] ∧ Wd S G H ∧ ∀ (p : Addr) (n : Int) (T : List (List Int)) (H' : Hp), Tld S G H p n T H' → Q (.ref p) H'
theorem tld_lit {S : Sr} {G H G1 Ha Hc Hd : Hp} {p q : Addr} {n : Int} {T : List (List Int)} {ts : List V} (s : Go S G H G1 Ha) (dt : DaAll Ha ts (T.map rowD)) (n3 : New Ha q (.lst ts) Hc) (n4 : New Hc p (.lst [.int n, .ref q]) Hd) (mv : AllMv n T) (n0 : 0 ≤ n) (n12 : n ≤ 12) (l : T.length ≤ 8) : Tld S G H p n T Hd ∧ Go S G H G1 Hd := by
  obtain ⟨s2, gq, hq, fq⟩ := s.loc n3
  obtain ⟨s3, gp, hp, fp⟩ := s2.loc n4
  exact ⟨.mk s3 gp gq fp fq hp (n4.else hq) (dt.up (n3.same.trans n4.same)) mv n0 n12 l, s3⟩
theorem Tld.later {S : Sr} {G H H1 H2 : Hp} {p : Addr} {n : Int} {T : List (List Int)} (t : Tld S G H p n T H1) (g : Same H1 H2) : Tld S G H p n T H2 := by
  obtain ⟨G1, q, ts, s, gp, gq, fp, fq, hp, hq, r⟩ := t
  exact ⟨G1, q, ts, s.pure g, gp, gq, fp, fq, g _ _ hp, g _ _ hq, r⟩
theorem ok_menu (Z : Zs mg) (D : Ds K mg) (c__law_take : Cal P w K mg base "_law_take" 2 ["store", "many"] spTake) : Cal P w K mg base "_law_arena_menu" 3 ["store"] spTold0 := by
  refine Def.cal D.d_law_arena_menu sc_law_arena_menu (fun vs H Q E h => ?_) (fun f cdv A outer s H vs Q E hr h => ?_)
  · obtain ⟨S, G, rfl, wd, q⟩ := h
    rfl
  obtain ⟨S, G, rfl, wd, q⟩ := h
  refine ⟨_, (pss_cons (ps_set (i := 1) sc_law_arena_menu.nd rfl (Or.inl rfl) (pe_cal c__law_take (hr.mono (by first | decide | omega)) (by rfl) (pa_cons (pv 0) (pa_cons pe_int pa_nil))))
      (pss_cons (ps_if (pt_cmp (pc_lt (pv 1) pe_int) (nomark _)) (pss_one (ps_ret (pe_ix ix_list (pe_lstN (pa_cons (pe_lstN (pa_cons pe_int (pa_cons (pe_lstN (pa_cons (pe_tupN (pa_cons pe_int (pa_cons pe_int (pa_cons pe_int (pa_cons pe_int (pa_cons pe_int (pa_cons pe_int pa_nil))))))) pa_nil)) pa_nil))) (pa_cons (pe_lstN (pa_cons pe_int (pa_cons (pe_lstN (pa_cons (pe_tupN (pa_cons pe_int (pa_cons pe_int (pa_cons pe_int (pa_cons pe_int (pa_cons pe_int (pa_cons pe_int (pa_cons pe_int (pa_cons pe_int pa_nil))))))))) pa_nil)) pa_nil))) (pa_cons (pe_lstN (pa_cons pe_int (pa_cons (pe_lstN (pa_cons (pe_tupN (pa_cons pe_int (pa_cons pe_int (pa_cons pe_int (pa_cons pe_int (pa_cons pe_int (pa_cons pe_int (pa_cons pe_int (pa_cons pe_int pa_nil))))))))) (pa_cons (pe_tupN (pa_cons pe_int (pa_cons pe_int (pa_cons pe_int (pa_cons pe_int (pa_cons pe_int (pa_cons pe_int (pa_cons pe_int (pa_cons pe_int pa_nil))))))))) pa_nil))) pa_nil))) pa_nil)))) (pv 1) (fun _ _ => rfl)))) pss_nil)
      (pss_cons (ps_if (pt_cmp (pc_eqI (pv 1) pe_int) (nomark _)) (pss_one (ps_ret (pe_lstN (pa_cons pe_int (pa_cons (pe_lstN (pa_cons (pe_tupN (pa_cons pe_int (pa_cons pe_int (pa_cons pe_int (pa_cons pe_int (pa_cons pe_int (pa_cons pe_int (pa_cons pe_int (pa_cons pe_int (pa_cons pe_int (pa_cons pe_int (pa_cons pe_int (pa_cons pe_int pa_nil))))))))))))) (pa_cons (pe_tupN (pa_cons pe_int (pa_cons pe_int (pa_cons pe_int (pa_cons pe_int (pa_cons pe_int (pa_cons pe_int (pa_cons pe_int (pa_cons pe_int (pa_cons pe_int (pa_cons pe_int (pa_cons pe_int (pa_cons pe_int pa_nil))))))))))))) pa_nil))) pa_nil))))) pss_nil)
      (pss_cons (ps_if (pt_cmp (pc_eqI (pv 1) pe_int) (nomark _)) (pss_one (ps_ret (pe_lstN (pa_cons pe_int (pa_cons (pe_lstN (pa_cons (pe_tupN (pa_cons pe_int (pa_cons pe_int (pa_cons pe_int (pa_cons pe_int (pa_cons pe_int (pa_cons pe_int (pa_cons pe_int (pa_cons pe_int (pa_cons pe_int (pa_cons pe_int (pa_cons pe_int (pa_cons pe_int pa_nil))))))))))))) pa_nil)) pa_nil))))) pss_nil)
      (pss_cons (ps_if (pt_cmp (pc_eqI (pv 1) pe_int) (nomark _)) (pss_one (ps_ret (pe_lstN (pa_cons pe_int (pa_cons (pe_lstN (pa_cons (pe_tupN (pa_cons pe_int (pa_cons pe_int (pa_cons pe_int (pa_cons pe_int pa_nil))))) (pa_cons (pe_tupN (pa_cons pe_int (pa_cons pe_int (pa_cons pe_int (pa_cons pe_int pa_nil))))) (pa_cons (pe_tupN (pa_cons pe_int (pa_cons pe_int (pa_cons pe_int (pa_cons pe_int pa_nil))))) pa_nil)))) pa_nil))))) pss_nil)
      (pss_cons (ps_if (pt_cmp (pc_eqI (pv 1) pe_int) (nomark _)) (pss_one (ps_ret (pe_lstN (pa_cons pe_int (pa_cons (pe_lstN (pa_cons (pe_tupN (pa_cons pe_int (pa_cons pe_int (pa_cons pe_int (pa_cons pe_int (pa_cons pe_int (pa_cons pe_int pa_nil))))))) (pa_cons (pe_tupN (pa_cons pe_int (pa_cons pe_int (pa_cons pe_int (pa_cons pe_int (pa_cons pe_int (pa_cons pe_int pa_nil))))))) pa_nil))) pa_nil))))) pss_nil)
      (pss_one (ps_ret (pe_lstN (pa_cons pe_int (pa_cons (pe_lstN (pa_cons (pe_tupN (pa_cons pe_int (pa_cons pe_int (pa_cons pe_int (pa_cons pe_int (pa_cons pe_int (pa_cons pe_int (pa_cons pe_int (pa_cons pe_int (pa_cons pe_int (pa_cons pe_int (pa_cons pe_int (pa_cons pe_int pa_nil))))))))))))) pa_nil)) pa_nil))))))))))), ?_⟩
  refine ⟨_, rfl, S, G, 8, rfl, wd, by omega, fun d1 H1 p0 p1 s1 => ?_⟩
  have row : ∀ {p : Addr} {ns : List Int} {Ha Hb : Hp}, New Ha p (.tup (ns.map V.int)) Hb → Da Hb (.ref p) (rowD ns) := fun n => .tup n.at (DaAll.ints _)
  refine ⟨_, rfl, _, _, rfl, rfl, _, rfl, ite2 (fun c => ?_) (fun c => ?_)⟩
  · have c : d1 < 3 := dec_of c
    refine ⟨(by show 6 ≤ sizeLine; decide), fun ax0 Hxa0 nxa0 => ⟨(by show 1 ≤ sizeLine; decide), fun qx Hxq nxq => ⟨(by show 2 ≤ sizeLine; decide), fun px Hxp nxp => ?_⟩⟩⟩
    have sxa0 := (s1.loc nxa0).1
    have tx := tld_lit (n := 6) (T := [[1, 2, 3, 0, 5, 4]]) sxa0 (.cons (row nxa0) .nil) nxq nxp (.cons' (by unfold IsMv; decide +kernel) .nil') (by decide) (by decide) (by decide)
    refine ⟨(by show 8 ≤ sizeLine; decide), fun ay0 Hya0 nya0 => ⟨(by show 1 ≤ sizeLine; decide), fun qy Hyq nyq => ⟨(by show 2 ≤ sizeLine; decide), fun py Hyp nyp => ?_⟩⟩⟩
    have sya0 := (tx.2.loc nya0).1
    have ty := tld_lit (n := 8) (T := [[1, 2, 3, 0, 6, 7, 4, 5]]) sya0 (.cons (row nya0) .nil) nyq nyp (.cons' (by unfold IsMv; decide +kernel) .nil') (by decide) (by decide) (by decide)
    refine ⟨(by show 8 ≤ sizeLine; decide), fun az0 Hza0 nza0 => ⟨(by show 8 ≤ sizeLine; decide), fun az1 Hza1 nza1 => ⟨(by show 2 ≤ sizeLine; decide), fun qz Hzq nzq => ⟨(by show 2 ≤ sizeLine; decide), fun pz Hzp nzp => ?_⟩⟩⟩⟩
    have sza0 := (ty.2.loc nza0).1
    have sza1 := (sza0.loc nza1).1
    have tz := tld_lit (n := 8) (T := [[1, 2, 3, 0, 5, 4, 6, 7], [0, 1, 2, 3, 4, 5, 7, 6]]) sza1 (.cons ((row nza0).up nza1.same) (.cons (row nza1) .nil)) nzq nzp (.cons' (by unfold IsMv; decide +kernel) (.cons' (by unfold IsMv; decide +kernel) .nil')) (by decide) (by decide) (by decide)
    refine ⟨(by show 3 ≤ sizeLine; decide), fun l H2 n2 => ⟨_, rfl, ?_⟩⟩
    have ty3 := ty.1.later ((nza0.same.trans nza1.same).trans ((nzq.same.trans nzp.same).trans n2.same))
    have tx3 := tx.1.later ((nya0.same.trans (nyq.same.trans nyp.same)).trans ((nza0.same.trans nza1.same).trans ((nzq.same.trans nzp.same).trans n2.same)))
    have tz3 := tz.1.later n2.same
    have h2 := n2.at
    have dd : d1 = 0 ∨ d1 = 1 ∨ d1 = 2 := by omega
    rcases dd with rfl | rfl | rfl
    · exact ⟨l, _, _, .ref px, rfl, rfl, .of h2, rfl, q _ _ _ _ tx3⟩
    · exact ⟨l, _, _, .ref py, rfl, rfl, .of h2, rfl, q _ _ _ _ ty3⟩
    · exact ⟨l, _, _, .ref pz, rfl, rfl, .of h2, rfl, q _ _ _ _ tz3⟩
  refine ⟨_, rfl, _, _, rfl, rfl, _, rfl, ite2 (fun c => ?_) (fun c => ?_)⟩
  · refine ⟨(by show 12 ≤ sizeLine; decide), fun au0 Hua0 nua0 => ⟨(by show 12 ≤ sizeLine; decide), fun au1 Hua1 nua1 => ⟨(by show 2 ≤ sizeLine; decide), fun qu Huq nuq => ⟨(by show 2 ≤ sizeLine; decide), fun pu Hup nup => ?_⟩⟩⟩⟩
    have sua0 := (s1.loc nua0).1
    have sua1 := (sua0.loc nua1).1
    have tu := tld_lit (n := 12) (T := [[1, 2, 3, 0, 5, 4, 6, 7, 8, 9, 10, 11], [0, 1, 2, 3, 4, 5, 7, 8, 9, 6, 11, 10]]) sua1 (.cons ((row nua0).up nua1.same) (.cons (row nua1) .nil)) nuq nup (.cons' (by unfold IsMv; decide +kernel) (.cons' (by unfold IsMv; decide +kernel) .nil')) (by decide) (by decide) (by decide)
    exact q _ _ _ _ tu.1
  refine ⟨_, rfl, _, _, rfl, rfl, _, rfl, ite2 (fun c => ?_) (fun c => ?_)⟩
  · refine ⟨(by show 12 ≤ sizeLine; decide), fun av0 Hva0 nva0 => ⟨(by show 1 ≤ sizeLine; decide), fun qv Hvq nvq => ⟨(by show 2 ≤ sizeLine; decide), fun pv Hvp nvp => ?_⟩⟩⟩
    have sva0 := (s1.loc nva0).1
    have tv := tld_lit (n := 12) (T := [[1, 2, 3, 4, 5, 6, 7, 0, 9, 10, 11, 8]]) sva0 (.cons (row nva0) .nil) nvq nvp (.cons' (by unfold IsMv; decide +kernel) .nil') (by decide) (by decide) (by decide)
    exact q _ _ _ _ tv.1
  refine ⟨_, rfl, _, _, rfl, rfl, _, rfl, ite2 (fun c => ?_) (fun c => ?_)⟩
  · refine ⟨(by show 4 ≤ sizeLine; decide), fun aw0 Hwa0 nwa0 => ⟨(by show 4 ≤ sizeLine; decide), fun aw1 Hwa1 nwa1 => ⟨(by show 4 ≤ sizeLine; decide), fun aw2 Hwa2 nwa2 => ⟨(by show 3 ≤ sizeLine; decide), fun qw Hwq nwq => ⟨(by show 2 ≤ sizeLine; decide), fun pw Hwp nwp => ?_⟩⟩⟩⟩⟩
    have swa0 := (s1.loc nwa0).1
    have swa1 := (swa0.loc nwa1).1
    have swa2 := (swa1.loc nwa2).1
    have tw := tld_lit (n := 4) (T := [[1, 0, 2, 3], [0, 2, 1, 3], [0, 1, 3, 2]]) swa2 (.cons (((row nwa0).up nwa1.same).up nwa2.same) (.cons ((row nwa1).up nwa2.same) (.cons (row nwa2) .nil))) nwq nwp (.cons' (by unfold IsMv; decide +kernel) (.cons' (by unfold IsMv; decide +kernel) (.cons' (by unfold IsMv; decide +kernel) .nil'))) (by decide) (by decide) (by decide)
    exact q _ _ _ _ tw.1
  refine ⟨_, rfl, _, _, rfl, rfl, _, rfl, ite2 (fun c => ?_) (fun c => ?_)⟩
  · refine ⟨(by show 6 ≤ sizeLine; decide), fun as0 Hsa0 nsa0 => ⟨(by show 6 ≤ sizeLine; decide), fun as1 Hsa1 nsa1 => ⟨(by show 2 ≤ sizeLine; decide), fun qs Hsq nsq => ⟨(by show 2 ≤ sizeLine; decide), fun ps Hsp nsp => ?_⟩⟩⟩⟩
    have ssa0 := (s1.loc nsa0).1
    have ssa1 := (ssa0.loc nsa1).1
    have ts := tld_lit (n := 6) (T := [[0, 3, 4, 1, 2, 5], [3, 4, 0, 5, 1, 2]]) ssa1 (.cons ((row nsa0).up nsa1.same) (.cons (row nsa1) .nil)) nsq nsp (.cons' (by unfold IsMv; decide +kernel) (.cons' (by unfold IsMv; decide +kernel) .nil')) (by decide) (by decide) (by decide)
    exact q _ _ _ _ ts.1
  refine ⟨(by show 12 ≤ sizeLine; decide), fun at0 Hta0 nta0 => ⟨(by show 1 ≤ sizeLine; decide), fun qt Htq ntq => ⟨(by show 2 ≤ sizeLine; decide), fun pt Htp ntp => ?_⟩⟩⟩
  have sta0 := (s1.loc nta0).1
  have tt := tld_lit (n := 12) (T := [[1, 2, 0, 4, 5, 6, 3, 8, 9, 10, 11, 7]]) sta0 (.cons (row nta0) .nil) ntq ntp (.cons' (by unfold IsMv; decide +kernel) .nil') (by decide) (by decide) (by decide)
  exact q _ _ _ _ tt.1


theorem sum_pos0 : ∀ {Z : List Int}, (∀ z ∈ Z, 0 ≤ z) → 0 ≤ Z.sum
  | [], _ => by simp
  | a :: r, p => by
    have := sum_pos0 fun z hz => p z (List.mem_cons_of_mem a hz)
    have := p a List.mem_cons_self
    rw [List.sum_cons]
    omega
theorem sum_ge0 : ∀ {Z : List Int}, (∀ z ∈ Z, 0 ≤ z) → ∀ z ∈ Z, z ≤ Z.sum
  | [], _, z, h => by cases h
  | a :: r, p, z, h => by
    have pr : ∀ z ∈ r, 0 ≤ z := fun z hz => p z (List.mem_cons_of_mem _ hz)
    have r0 : 0 ≤ r.sum := sum_pos0 pr
    have a1 := p a List.mem_cons_self
    rw [List.sum_cons]
    rcases List.mem_cons.mp h with e | h
    · omega
    · have := sum_ge0 pr z h
      omega
theorem sum_take0 {Z : List Int} (p : ∀ z ∈ Z, 0 ≤ z) (k : Nat) : (Z.take k).sum ≤ Z.sum := by
  have e : Z.sum = (Z.take k).sum + (Z.drop k).sum := by rw [← List.sum_append, List.take_append_drop]
  have := sum_pos0 fun z hz => p z (List.mem_of_mem_drop (i := k) hz)
  omega
theorem sgn_mv0 {n s g : Int} (h0 : 0 ≤ n) (hg : g = 1 ∨ g = -1) : IsMv ((List.range n.toNat).map fun (k : Nat) => (g * (k : Int) + s) % n) n := by
  by_cases c : n = 0
  · subst c
    exact .nil
  · exact sgn_mv (by omega) hg
def spTurned : Sp := fun vs H Q _ => ∃ (S : Sr) (G : Hp) (n : Int), vs = [.ref S.a, .int n] ∧ Wd S G H ∧ 0 ≤ n ∧ n ≤ 12 ∧
  ∀ (l : Addr) (xs : List V) (T : List (List Int)) (G' H' : Hp), Go S G H G' H' → H l = none → G' l = none → H' l = some (.lst xs) → DaAll G' xs (T.map rowD) → AllMv n T → T.length ≤ 8 → Q (.ref l) H'
theorem ok_turned (Z : Zs mg) (D : Ds K mg) (c__law_take : Cal P w K mg base "_law_take" 2 ["store", "many"] spTake) (c__law_pick : Cal P w K mg base "_law_pick" 3 ["store", "things"] spPick) : Cal P w K mg base "_law_turned_blocks" 4 ["store", "points"] spTurned := by
  refine Def.cal D.d_law_turned_blocks sc_law_turned_blocks (fun vs H Q E h => ?_) (fun f cdv A outer s H vs Q E hr h => ?_)
  · obtain ⟨S, G, n, rfl, wd, n0, n12, q⟩ := h
    rfl
  obtain ⟨S, G, n, rfl, wd, n0, n12, q⟩ := h
  refine ⟨_, (pss_cons (ps_set (i := 2) sc_law_turned_blocks.nd rfl (Or.inl rfl) (pe_lstN pa_nil))
      (pss_cons (ps_for PassesOwn.never rfl (pi_range1 (by rfl) Z.z_range (pa_cons (pv 1) pa_nil)) (pg_name (i := 3) sc_law_turned_blocks.nd rfl (Or.inl rfl)) (pss_one (ps_expr (pe_bm PySem.F.plainAttrs_list PySem.F.slot_list_append PySem.F.type_list_append mt_appendN (pv 2) (pa_cons (pe_callB (call_min2 rfl) (by rfl) Z.z_min (by decide +kernel) (pa_cons (pe_op op_add pe_int (pe_cal c__law_take (hr.mono (by first | decide | omega)) (by rfl) (pa_cons (pv 0) (pa_cons pe_int pa_nil)))) (pa_cons (pe_op op_sub (pv 1) (pe_callB (cr_sum rfl) (by rfl) Z.z_sum (by decide +kernel) (pa_cons (pv 2) pa_nil))) pa_nil))) pa_nil)))))
      (pss_cons (ps_set (i := 4) sc_law_turned_blocks.nd rfl (Or.inl rfl) (pe_lstN pa_nil))
      (pss_cons (ps_for PassesOwn.never rfl (pi_range1 (by rfl) Z.z_range (pa_cons (pe_op op_add pe_int (pe_cal c__law_take (hr.mono (by first | decide | omega)) (by rfl) (pa_cons (pv 0) (pa_cons pe_int pa_nil)))) pa_nil)) (pg_name (i := 5) sc_law_turned_blocks.nd rfl (Or.inl rfl)) (pss_cons (ps_set (i := 6) sc_law_turned_blocks.nd rfl (Or.inl rfl) (pe_lstN pa_nil))
      (pss_cons (ps_for PassesOwn.never rfl (pi_list (pv 2)) (pg_name (i := 7) sc_law_turned_blocks.nd rfl (Or.inl rfl)) (pss_cons (ps_set (i := 8) sc_law_turned_blocks.nd rfl (Or.inl rfl) (pe_callB call_len_seq (by rfl) Z.z_len (by decide +kernel) (pa_cons (pv 6) pa_nil)))
      (pss_cons (ps_set (i := 9) sc_law_turned_blocks.nd rfl (Or.inl rfl) (pe_cal c__law_pick (hr.mono (by first | decide | omega)) (by rfl) (pa_cons (pv 0) (pa_cons (pe_lstN (pa_cons pe_int (pa_cons pe_int (pa_cons (pe_cal c__law_take (hr.mono (by first | decide | omega)) (by rfl) (pa_cons (pv 0) (pa_cons pe_int pa_nil))) pa_nil)))) pa_nil))))
      (pss_cons (ps_set (i := 10) sc_law_turned_blocks.nd rfl (Or.inl rfl) (pe_cal c__law_pick (hr.mono (by first | decide | omega)) (by rfl) (pa_cons (pv 0) (pa_cons (pe_lstN (pa_cons pe_int (pa_cons pe_int (pa_cons pe_int (pa_cons (pe_un un_neg pe_int) pa_nil))))) pa_nil))))
      (pss_one (ps_for PassesOwn.never rfl (pi_range1 (by rfl) Z.z_range (pa_cons (pv 7) pa_nil)) (pg_name (i := 3) sc_law_turned_blocks.nd rfl (Or.inl rfl)) (pss_one (ps_expr (pe_bm PySem.F.plainAttrs_list PySem.F.slot_list_append PySem.F.type_list_append mt_appendN (pv 6) (pa_cons (pe_op op_add (pv 8) (pe_op op_mod (pe_callTy call_int1 (by rfl) Z.z_int (by decide +kernel) (pa_cons (pe_op op_add (pe_op op_mul (pv 10) (pv 3)) (pv 9)) pa_nil)) (pv 7))) pa_nil))))))))))
      (pss_one (ps_expr (pe_bm PySem.F.plainAttrs_list PySem.F.slot_list_append PySem.F.type_list_append mt_appendN (pv 4) (pa_cons (pe_callTy call_tupleN (by rfl) Z.z_tuple (by decide +kernel) (pa_cons (pv 6) pa_nil)) pa_nil)))))))
      (pss_one (ps_ret (pv 4))))))), ?_⟩
  refine ⟨by show 0 ≤ sizeLine; decide, fun l1 H1 n1 => ?_⟩
  obtain ⟨s1, g1, h1, f1⟩ := (Go.refl wd).loc n1
  refine ⟨_, rfl, n, rfl, by omega, by omega, for_range (lo := 0) (n := n.toNat) (fun i σ' H' => ∃ (Zl : List Int) (y3 : Option V), σ' = [some (.ref S.a), some (.int n), some (.ref l1), y3, none, none, none, none, none, none, none] ∧ Go S G H G H' ∧ H' l1 = some (.lst (Zl.map V.int)) ∧
    (∀ z ∈ Zl, 0 ≤ z) ∧ Zl.sum ≤ n ∧ (Zl.sum = n ∨ (i : Int) ≤ Zl.sum) ∧ Zl.length = i) ⟨[], none, rfl, s1, h1, fun z hz => (by cases hz), by simp; omega, .inr (by simp), rfl⟩ ?_ ?_⟩
  · rintro i σ' H2 hi ⟨Zl, y3, rfl, s2, h2, pos, sum, low, lz⟩
    refine ⟨_, rfl, .inl ⟨rfl, _, .of h2⟩, _, rfl, S, G, 6, rfl, s2.wd, by omega, fun d H3 d0 d1 s3 => ⟨_, _, rfl, rfl, _, rfl, _, rfl, l1, Zl, rfl, .of (s3.hh h2 (s2.ns f1)), _, _, rfl, rfl, _, _, rfl, ?_⟩⟩
    have h3 := s3.hh h2 (s2.ns f1)
    have s3 := s2.trans s3
    obtain ⟨m, em⟩ : ∃ m, m = (if n - Zl.sum < 1 + d then n - Zl.sum else 1 + d) := ⟨_, rfl⟩
    have bm : 0 ≤ m ∧ m ≤ n - Zl.sum ∧ (m = n - Zl.sum ∨ 1 ≤ m) := by
      by_cases z : n - Zl.sum < 1 + d
      · rw [if_pos z] at em; omega
      · rw [if_neg z] at em; omega
    refine ⟨l1, _, _, rfl, rfl, h3, ?_, fun H4 e4 => ⟨Zl ++ [m], _, rfl, s3.mut g1 f1 e4, ?_, fun z hz => ?_, ?_, ?_, by rw [List.length_append, lz]; rfl⟩⟩
    · rw [List.length_map, lz]
      exact Nat.lt_of_lt_of_le (show i < 100 by omega) (by decide)
    · rw [upd_at e4, List.map_append, em]
      rfl
    · rcases List.mem_append.mp hz with k | k
      · exact pos z k
      · rw [List.mem_singleton.mp k]; exact bm.1
    · rw [List.sum_append, List.sum_cons, List.sum_nil]
      omega
    · rw [List.sum_append, List.sum_cons, List.sum_nil]
      omega
  rintro σ' H2 ⟨Zl, y3, rfl, s2, h2, pos, sum, low, lz⟩
  have sum : Zl.sum = n := by omega
  refine ⟨by show 0 ≤ sizeLine; decide, fun l2 H3 n3 => ?_⟩
  obtain ⟨s3, g2, h3, f2⟩ := s2.loc n3
  have h1' := n3.else h2
  have ne12 : l1 ≠ l2 := fun z => by rw [z] at h2; rw [n3.fr] at h2; cases h2
  refine ⟨_, rfl, S, G, 3, rfl, s3.wd, by omega, fun c H4 c0 c1 s4 => ⟨_, _, rfl, rfl, _, rfl, by omega, by omega, ?_⟩⟩
  have h4a := s4.hh h1' (s3.ns f1)
  have h4b := s4.hh h3 (s3.ns f2)
  have s4 := s3.trans s4
  have zb : ∀ z ∈ Zl, z ≤ 12 := fun z hz => by
    have := sum_ge0 pos z hz
    omega
  refine for_range (lo := 0) (n := (1 + c).toNat) (fun j σ' H' => ∃ (G' : Hp) (xs : List V) (T : List (List Int)) (y3 y5 y6 y7 y8 y9 y10 : Option V), σ' = [some (.ref S.a), some (.int n), some (.ref l1), y3, some (.ref l2), y5, y6, y7, y8, y9, y10] ∧ Go S G H G' H' ∧ G' l1 = none ∧ G' l2 = none ∧
    H' l1 = some (.lst (Zl.map V.int)) ∧ H' l2 = some (.lst xs) ∧ T.length = j ∧ DaAll G' xs (T.map rowD) ∧ AllMv n T) ⟨G, [], [], y3, _, _, _, _, _, _, rfl, s4, g1, g2, h4a, h4b, rfl, .nil, .nil'⟩ ?_ ?_
  · rintro j σ' H5 hj ⟨G5, xs, T, y3, y5, y6, y7, y8, y9, y10, rfl, s5, g51, g52, h5a, h5b, lx, dT, mvT⟩
    have lxs := dT.length
    rw [List.length_map] at lxs
    refine ⟨by show 0 ≤ sizeLine; decide, fun l3 H6 n6 => ?_⟩
    obtain ⟨s6, g63, h6, f3⟩ := s5.loc n6
    have h6a := n6.else h5a
    have h6b := n6.else h5b
    have ne31 : l1 ≠ l3 := fun z => by rw [z] at h5a; rw [n6.fr] at h5a; cases h5a
    have ne32 : l2 ≠ l3 := fun z => by rw [z] at h5b; rw [n6.fr] at h5b; cases h5b
    refine ⟨_, rfl, l1, rfl, ⟨_, .of h6a⟩, for_list (K := K) (a := l1) (xs := Zl.map V.int) (fun t σ' H' => ∃ (L : List Int) (y3 y7 y8 y9 y10 : Option V), σ' = [some (.ref S.a), some (.int n), some (.ref l1), y3, some (.ref l2), some (.int (0 + (j : Int))), some (.ref l3), y7, y8, y9, y10] ∧ Go S G H G5 H' ∧
      H' l1 = some (.lst (Zl.map V.int)) ∧ H' l2 = some (.lst xs) ∧ H' l3 = some (.lst (L.map V.int)) ∧ IsMv L (Zl.take t).sum ∧ 0 ≤ (Zl.take t).sum ∧ (Zl.take t).sum ≤ 12) ?_ ?_ ?_ ?_⟩
    · exact ⟨[], y3, y7, y8, y9, y10, rfl, s6, h6a, h6b, h6, .nil, by simp, by simp⟩
    · rintro t σ' H' - ⟨L, y3, y7, y8, y9, y10, rfl, s7, h7a, -⟩
      exact .of h7a
    · rintro t x σ' H7 hx ⟨L, y3, y7, y8, y9, y10, rfl, s7, h7a, h7b, h7c, mv, t0, t12⟩
      obtain ⟨z, hz, rfl⟩ := map_at hx
      have zm := List.mem_of_getElem? hz
      have z1 := pos z zm
      have z12 := zb z zm
      have ln := mv.len
      have step : (Zl.take (t + 1)).sum = (Zl.take t).sum + z := by rw [List.take_add_one, hz, List.sum_append]; simp
      have upto : (Zl.take (t + 1)).sum ≤ 12 := by
        have := sum_take0 pos (t + 1)
        omega
      refine ⟨_, rfl, l3, _, rfl, .inl (.of h7c), ?_⟩
      refine ⟨_, rfl, _, rfl, S, G5, 6, rfl, s7.wd, by omega, fun d H8 d0 d1 s8 => ⟨by show 3 ≤ sizeLine; decide, fun l4 H9 n9 => ?_⟩⟩
      have h8a := s8.hh h7a (s7.ns f1)
      have h8b := s8.hh h7b (s7.ns f2)
      have h8c := s8.hh h7c (s7.ns f3)
      have s8' := s7.trans s8
      obtain ⟨s9, g94, h94, f4⟩ := s8'.loc n9
      refine ⟨S, G5, .ref l4, _, rfl, s9.wd, .inl ⟨l4, rfl, s9.ns f4, h94⟩, (by show 0 < 3; decide), (by show 3 < 1000000; decide), fun x HA hx sA => ?_⟩
      obtain ⟨sh, rfl⟩ : ∃ sh, x = .int sh := by
        rcases List.mem_cons.mp hx with e | hx
        · exact ⟨_, e⟩
        rcases List.mem_cons.mp hx with e | hx
        · exact ⟨_, e⟩
        exact ⟨_, List.mem_singleton.mp hx⟩
      have hAa := sA.hh (n9.else h8a) (s9.ns f1)
      have hAb := sA.hh (n9.else h8b) (s9.ns f2)
      have hAc := sA.hh (n9.else h8c) (s9.ns f3)
      have sA' := s9.trans sA
      refine ⟨_, rfl, _, rfl, by show 4 ≤ sizeLine; decide, fun l5 HB nB => ?_⟩
      obtain ⟨sB, gB5, hB5, f5⟩ := sA'.loc nB
      refine ⟨S, G5, .ref l5, _, rfl, sB.wd, .inl ⟨l5, rfl, sB.ns f5, hB5⟩, (by show 0 < 4; decide), (by show 4 < 1000000; decide), fun x HC hx sC => ?_⟩
      obtain ⟨sg, rfl, hsg⟩ : ∃ sg : Int, x = .int sg ∧ (sg = 1 ∨ sg = -1) := by
        rcases List.mem_cons.mp hx with e | hx
        · exact ⟨_, e, .inl rfl⟩
        rcases List.mem_cons.mp hx with e | hx
        · exact ⟨_, e, .inl rfl⟩
        rcases List.mem_cons.mp hx with e | hx
        · exact ⟨_, e, .inl rfl⟩
        exact ⟨_, List.mem_singleton.mp hx, .inr rfl⟩
      have hCa := sC.hh (nB.else hAa) (sB.ns f1)
      have hCb := sC.hh (nB.else hAb) (sB.ns f2)
      have hCc := sC.hh (nB.else hAc) (sB.ns f3)
      have sC := sB.trans sC
      refine ⟨_, rfl, z, rfl, by omega, by omega, for_range (lo := 0) (n := z.toNat) (fun u σ' H' => ∃ y3 : Option V, σ' = [some (.ref S.a), some (.int n), some (.ref l1), y3, some (.ref l2), some (.int (0 + (j : Int))), some (.ref l3), some (.int z), some (.int ((L.map V.int).length : Nat)), some (.int sh), some (.int sg)] ∧
        Go S G H G5 H' ∧ H' l1 = some (.lst (Zl.map V.int)) ∧ H' l2 = some (.lst xs) ∧ H' l3 = some (.lst ((L ++ ((List.range u).map fun (k : Nat) => (sg * (k : Int) + sh) % z).map ((Zl.take t).sum + ·)).map V.int))) ⟨y3, rfl, sC, hCa, hCb, by simpa using hCc⟩ ?_ ?_⟩
      · rintro u σ' HA hu ⟨y4, rfl, sA, hAa, hAb, hAc⟩
        refine ⟨_, rfl, .inl ⟨rfl, _, .of hAc⟩, _, rfl, _, rfl, _, rfl, _, _, rfl, rfl, .inl ?_, _, rfl, _, _, rfl, rfl, .inl ⟨_, rfl, _, rfl, _, _, rfl, rfl, by omega, _, _, rfl, rfl, l3, _, _, rfl, rfl, hAc, ?_, fun HB eB => ?_⟩⟩
        · rcases hsg with rfl | rfl <;> decide
        · rw [List.length_map, List.length_append, List.length_map, List.length_map, List.length_range, ln]
          exact Nat.lt_of_lt_of_le (show _ < 100 by omega) (by decide)
        · refine ⟨_, rfl, sA.mut g63 f3 eB, upd_else eB hAa ne31, upd_else eB hAb ne32, ?_⟩
          have back : (((Zl.take t).sum.toNat : Nat) : Int) = (Zl.take t).sum := by omega
          rw [upd_at eB, List.range_succ, List.length_map, ln, Int.zero_add]
          simp [List.map_append, back]
      · rintro σ' HA ⟨y4, rfl, sA, hAa, hAb, hAc⟩
        refine ⟨_, _, _, _, _, _, rfl, sA, hAa, hAb, hAc, ?_, by omega, upto⟩
        rw [step]
        exact app_mv t0 (by omega) mv (sgn_mv0 (by omega) hsg)
    · rintro σ' H7 ⟨L, y3, y7, y8, y9, y10, rfl, s7, h7a, h7b, h7c, mv, t0, t12⟩
      rw [List.length_map, List.take_length, sum] at mv
      refine ⟨_, rfl, .inl ⟨rfl, _, .of h7b⟩, _, rfl, l3, _, rfl, .of h7c, fun p H8 n8 => ?_⟩
      obtain ⟨G8, s8, g8, k8, o8⟩ := s7.know n8
      have h8a := n8.else h7a
      have h8b := n8.else h7b
      have g81 : G8 l1 = none := by
        rw [o8 l1 fun z => by rw [z, n8.fr] at h7a; cases h7a]
        exact g51
      have g82 : G8 l2 = none := by
        rw [o8 l2 fun z => by rw [z, n8.fr] at h7b; cases h7b]
        exact g52
      refine ⟨l2, _, _, rfl, rfl, h8b, Nat.lt_of_lt_of_le (show xs.length < 4 by omega) (by decide), fun H9 e9 => ?_⟩
      refine ⟨G8, xs ++ [.ref p], T ++ [L], _, _, _, _, _, _, _, rfl, s8.mut g82 f2 e9, g81, g82, upd_else e9 h8a ne12, upd_at e9, by rw [List.length_append, lx]; rfl, ?_, mvT.app' (.cons' mv .nil')⟩
      rw [List.map_append]
      exact (dT.up g8).append (.one (.tup k8 (DaAll.ints _)))
  · rintro σ' H5 ⟨G5, xs, T, y3, y5, y6, y7, y8, y9, y10, rfl, s5, g51, g52, h5a, h5b, lx, dT, mvT⟩
    exact ⟨_, rfl, q l2 xs T G5 H5 s5 f2 g52 h5b dT mvT (by omega)⟩


def spTold1 : Sp := fun vs H Q _ => ∃ (S : Sr) (G : Hp) (m : Int), vs = [.ref S.a, .int m] ∧ Wd S G H ∧ 0 ≤ m ∧ m ≤ 12 ∧ ∀ (p : Addr) (n : Int) (T : List (List Int)) (H' : Hp), Tld S G H p n T H' → Q (.ref p) H'
theorem rep_one (m : Nat) (v : V) : (List.replicate m [v]).flatten = List.replicate m v := by
  induction m with
  | zero => rfl
  | succ m ih => rw [List.replicate_succ, List.flatten_cons, ih]; rfl
theorem rep_rows {G : Hp} {p : Addr} {ns : List Int} (h : G p = some (.tup (ns.map V.int))) : ∀ m : Nat, DaAll G (List.replicate m (V.ref p)) ((List.replicate m ns).map rowD)
  | 0 => .nil
  | m + 1 => .cons (.tup h (DaAll.ints _)) (rep_rows h m)
theorem AllMv.rep {n : Int} {ns : List Int} (h : IsMv ns n) (m : Nat) : AllMv n (List.replicate m ns) := fun x hx => by rw [List.eq_of_mem_replicate hx]; exact h
theorem Tld.back {S : Sr} {G H H1 H2 : Hp} {p : Addr} {n : Int} {T : List (List Int)} (t : Tld S G H1 p n T H2) (s1 : Go S G H G H1) : Tld S G H p n T H2 := by
  obtain ⟨G1, q, ts, s, gp, gq, fp, fq, r⟩ := t
  exact ⟨G1, q, ts, s1.trans s, gp, gq, s1.fresh fp, s1.fresh fq, r⟩
theorem ok_arena_told (Z : Zs mg) (D : Ds K mg) (c__law_take : Cal P w K mg base "_law_take" 2 ["store", "many"] spTake) (c__law_move : Cal P w K mg base "_law_move" 4 ["store", "points"] spMove) (c__law_arena_menu : Cal P w K mg base "_law_arena_menu" 3 ["store"] spTold0) (c__law_turned_blocks : Cal P w K mg base "_law_turned_blocks" 4 ["store", "points"] spTurned) : Cal P w K mg base "_law_arena_told" 5 ["store", "points"] spTold1 := by
  refine Def.cal D.d_law_arena_told sc_law_arena_told (fun vs H Q E h => ?_) (fun f cdv A outer s H vs Q E hr h => ?_)
  · obtain ⟨S, G, n, rfl, wd, n0, n12, q⟩ := h
    rfl
  obtain ⟨S, G, n, rfl, wd, n0, n12, q⟩ := h
  refine ⟨_, (pss_cons (ps_set (i := 2) sc_law_arena_told.nd rfl (Or.inl rfl) (pe_cal c__law_take (hr.mono (by first | decide | omega)) (by rfl) (pa_cons (pv 0) (pa_cons pe_int pa_nil))))
      (pss_cons (ps_if (pt_cmp (pc_eqI (pv 2) pe_int) (nomark _)) (pss_one (ps_ret (pe_lstN (pa_cons (pv 1) (pa_cons (pe_op op_repL (pe_lstN (pa_cons (pe_tupRgN rfl (by rfl) Z.z_tuple (prg_1 (by rfl) Z.z_range (pv 1))) pa_nil)) (pe_cal c__law_take (hr.mono (by first | decide | omega)) (by rfl) (pa_cons (pv 0) (pa_cons pe_int pa_nil)))) pa_nil))))) pss_nil)
      (pss_cons (ps_if (pt_cmp (pc_lt (pv 2) pe_int) (nomark _)) (pss_one (ps_ret (pe_cal c__law_arena_menu (hr.mono (by first | decide | omega)) (by rfl) (pa_cons (pv 0) pa_nil)))) pss_nil)
      (pss_cons (ps_if (pt_cmp (pc_lt (pv 2) pe_int) (nomark _)) (pss_one (ps_ret (pe_lstN (pa_cons (pv 1) (pa_cons (pe_cal c__law_turned_blocks (hr.mono (by first | decide | omega)) (by rfl) (pa_cons (pv 0) (pa_cons (pv 1) pa_nil))) pa_nil))))) pss_nil)
      (pss_cons (ps_set (i := 3) sc_law_arena_told.nd rfl (Or.inl rfl) (pe_op op_add pe_int (pe_cal c__law_take (hr.mono (by first | decide | omega)) (by rfl) (pa_cons (pv 0) (pa_cons pe_int pa_nil)))))
      (pss_one (ps_ret (pe_lstN (pa_cons (pv 1) (pa_cons (pe_lc (own := [("k", 4)]) (g := gName 4) (tt := tYes) (by rfl) sc_law_arena_told.nd (pi_range1 (by rfl) Z.z_range (pa_cons (pv 3) pa_nil)) (blkOk_by (N := ["store", "points", "pick", "size", "k"]) (sc := defScope s_law_arena_told) (by decide +kernel)) (fun _ _ _ _ _ => pg_name (i := 4) sc_law_arena_told.nd rfl (Or.inl rfl)) (fun _ _ _ _ _ => pts_nil) (fun _ _ _ _ _ => (pe_cal c__law_move (hr.mono (by first | decide | omega)) (by rfl) (pa_cons (pv 0) (pa_cons (pv 1) pa_nil))))) pa_nil)))))))))), ?_⟩
  refine ⟨_, rfl, S, G, 8, rfl, wd, by omega, fun d1 H1 p0 p1 s1 => ?_⟩
  refine ⟨_, rfl, _, _, rfl, rfl, _, rfl, ite2 (fun c => ?_) (fun c => ?_)⟩
  · refine ⟨_, rfl, _, rfl, n, rfl, .of_le (by decide) (by omega) (by decide) (by omega), fun p H2 n2 => ?_⟩
    rw [rgV_rngI] at n2
    obtain ⟨G2, s2, g2, k2, -⟩ := s1.know n2
    refine ⟨by show 1 ≤ sizeLine; decide, fun l H3 n3 => ?_⟩
    obtain ⟨s3, gl, hl, fl⟩ := s2.loc n3
    refine ⟨_, rfl, S, G2, 3, rfl, s3.wd, by omega, fun d H4 e0 e1 s4 => ?_⟩
    have hl := s4.hh hl (s3.ns fl)
    have s4 := s3.trans s4
    refine ⟨l, _, _, rfl, rfl, hl, by omega, by omega, ?_, fun r H5 n5 => ?_⟩
    · show 1 * d.toNat ≤ sizeLine
      exact Nat.le_trans (show _ ≤ 3 by omega) (by decide)
    rw [rep_one] at n5
    obtain ⟨s5, gr, hr5, fr⟩ := s4.loc n5
    refine ⟨by show 2 ≤ sizeLine; decide, fun t H6 n6 => ?_⟩
    obtain ⟨s6, gt, ht, ft⟩ := s5.loc n6
    exact q t n _ H6 (.mk s6 gt gr ft fr ht (n6.else hr5) (rep_rows (s6.gh _ _ k2) d.toNat) (.rep rngI_mv _) n0 n12 (by rw [List.length_replicate]; omega))
  refine ⟨_, rfl, _, _, rfl, rfl, _, rfl, ite2 (fun c => ?_) (fun c => ?_)⟩
  · exact ⟨_, rfl, S, G, rfl, s1.wd, fun p m T H2 t => q p m T H2 (t.back s1)⟩
  refine ⟨_, rfl, _, _, rfl, rfl, _, rfl, ite2 (fun c => ?_) (fun c => ?_)⟩
  · refine ⟨_, rfl, _, rfl, _, rfl, S, G, n, rfl, s1.wd, n0, n12, fun l xs T G2 H2 s2 fl gl hl dT mvT lT => ⟨by show 2 ≤ sizeLine; decide, fun p H3 n3 => ?_⟩⟩
    have fl := s1.fresh fl
    obtain ⟨s3, gp, hp, fp⟩ := (s1.trans s2).loc n3
    exact q p n T H3 (.mk s3 gp gl fp fl hp (n3.else hl) (dT.up s3.gh) mvT n0 n12 lT)
  refine ⟨_, rfl, S, G, 4, rfl, s1.wd, by omega, fun d H2 e0 e1 s2 => ⟨_, _, rfl, rfl, ?_⟩⟩
  have s2 := s1.trans s2
  refine ⟨_, rfl, _, rfl, 1 + d, rfl, by omega, by omega, fun l hl => ?_⟩
  refine lc_range (lo := 0) (n := (1 + d).toNat) (fun i H' => ∃ (G' : Hp) (zs : List V) (T : List (List Int)), Go S G H G' H' ∧ G' l = none ∧ H l = none ∧ H' l = some (.lst zs) ∧ DaAll G' zs (T.map rowD) ∧ AllMv n T ∧ T.length = i) ?_ ?_ ?_
  · obtain ⟨s3, gl, h3, fl⟩ := s2.loc (p := l) (o := .lst []) ⟨hl, rfl⟩
    exact ⟨G, [], [], s3, gl, fl, h3, .nil, .nil', rfl⟩
  · rintro i H3 hi ⟨G3, zs, T, s3, gl, fl, h3, dT, mvT, lT⟩
    have lz := dT.length
    rw [List.length_map] at lz
    refine ⟨rfl, yesT ⟨_, rfl, _, rfl, S, G3, n, rfl, s3.wd, n0, by omega, fun p ms G4 H4 s4 k4 mv => ?_⟩⟩
    have h4 := s4.hh h3 (s3.ns fl)
    have gl4 := s4.nw h3 gl
    refine ⟨zs, h4, lt (by omega), G4, zs ++ [.ref p], T ++ [ms], (s3.trans s4).mut gl4 fl rfl, gl4, fl, upd_same, ?_, mvT.app' (.cons' mv .nil'), by rw [List.length_append, lT]; rfl⟩
    rw [List.map_append]
    exact (dT.up s4.gg).append (.one (.tup k4 (DaAll.ints _)))
  · rintro H3 ⟨G3, zs, T, s3, gl, fl, h3, dT, mvT, lT⟩
    refine ⟨by show 2 ≤ sizeLine; decide, fun p H4 n4 => ?_⟩
    obtain ⟨s4, gp, hp, fp⟩ := s3.loc n4
    exact q p n T H4 (.mk s4 gp gl fp fl hp (n4.else h3) (dT.up s4.gh) mvT n0 n12 (by omega))


def Arn (S : Sr) (G H : Hp) (p : Addr) (n : Int) (T L : List (List Int)) (H' : Hp) : Prop := ∃ (G' : Hp) (k m : Addr) (ks ms : List V), Go S G H G' H' ∧ G' p = none ∧ G' k = none ∧ G' m = none ∧ H p = none ∧ H k = none ∧ H m = none ∧ k ≠ m ∧ H' p = some (.lst [.int n, .ref k, .ref m]) ∧ H' k = some (.lst ks) ∧ H' m = some (.lst ms) ∧
  DaAll G' ks (T.map rowD) ∧ DaAll G' ms (L.map rowD) ∧ AllMv n T ∧ 0 ≤ n ∧ n ≤ 12 ∧ T.length ≤ 8 ∧ Grp n T L ∧ L.length ≤ 400
def spArena : Sp := fun vs H Q _ => ∃ (S : Sr) (G : Hp), vs = [.ref S.a] ∧ Wd S G H ∧ ∀ (p : Addr) (n : Int) (T L : List (List Int)) (H' : Hp), Arn S G H p n T L H' → Q (.ref p) H'
theorem ok_arena (Z : Zs mg) (D : Ds K mg) (c__law_take : Cal P w K mg base "_law_take" 2 ["store", "many"] spTake) (c__law_place : Cal P w K mg base "_law_place" 3 ["store", "size"] spPlace) (c__law_pick : Cal P w K mg base "_law_pick" 3 ["store", "things"] spPick) (c__law_drawn : Cal P w K mg base "_law_drawn" 3 ["store", "things", "many"] spDrawn) (c__law_renamed : Cal P w K mg base "_law_renamed" 1 ["move", "by"] spRenamed) (c__law_group : Cal P w K mg base "_law_group" 2 ["points", "told", "most"] spGroup) (c__law_arena_told : Cal P w K mg base "_law_arena_told" 5 ["store", "points"] spTold1) : Cal P w K mg base "_law_arena" 6 ["store"] spArena := by
  refine Def.cal D.d_law_arena sc_law_arena (fun vs H Q E h => ?_) (fun f cdv A outer s H vs Q E hr h => ?_)
  · obtain ⟨S, G, rfl, wd, q⟩ := h
    rfl
  obtain ⟨S, G, rfl, wd, q⟩ := h
  refine ⟨_, (pss_cons (ps_set (i := 1) sc_law_arena.nd rfl (Or.inl rfl) (pe_cal c__law_take (hr.mono (by first | decide | omega)) (by rfl) (pa_cons (pv 0) (pa_cons pe_int pa_nil))))
      (pss_cons (ps_set (i := 2) sc_law_arena.nd rfl (Or.inl rfl) (pe_op op_add pe_int (pe_cal c__law_take (hr.mono (by first | decide | omega)) (by rfl) (pa_cons (pv 0) (pa_cons pe_int pa_nil)))))
      (Evl.pss_cut (ps_if (pt_cmp (pc_eqI (pe_cal c__law_take (hr.mono (by first | decide | omega)) (by rfl) (pa_cons (pv 0) (pa_cons pe_int pa_nil))) pe_int) (nomark _)) (pss_one (ps_set (i := 2) sc_law_arena.nd rfl (Or.inl rfl) (pe_cal c__law_place (hr.mono (by first | decide | omega)) (by rfl) (pa_cons (pv 0) (pa_cons pe_int pa_nil))))) pss_nil)
      (pss_cons (ps_set (i := 3) sc_law_arena.nd rfl (Or.inl rfl) (pe_cal c__law_arena_told (hr.mono (by first | decide | omega)) (by rfl) (pa_cons (pv 0) (pa_cons (pv 2) pa_nil))))
      (Evl.pss_cut (ps_if (pt_cmp (pc_eqI (pv 1) pe_int) (nomark _)) (pss_one (ps_set (i := 3) sc_law_arena.nd rfl (Or.inl rfl) (pe_lstN (pa_cons pe_int (pa_cons (pe_lstN (pa_cons (pe_tupN (pa_cons pe_int (pa_cons pe_int (pa_cons pe_int (pa_cons pe_int (pa_cons pe_int (pa_cons pe_int (pa_cons pe_int (pa_cons pe_int (pa_cons pe_int (pa_cons pe_int pa_nil))))))))))) (pa_cons (pe_tupN (pa_cons pe_int (pa_cons pe_int (pa_cons pe_int (pa_cons pe_int (pa_cons pe_int (pa_cons pe_int (pa_cons pe_int (pa_cons pe_int (pa_cons pe_int (pa_cons pe_int pa_nil))))))))))) (pa_cons (pe_tupN (pa_cons pe_int (pa_cons pe_int (pa_cons pe_int (pa_cons pe_int (pa_cons pe_int (pa_cons pe_int (pa_cons pe_int (pa_cons pe_int (pa_cons pe_int (pa_cons pe_int pa_nil))))))))))) (pa_cons (pe_tupN (pa_cons pe_int (pa_cons pe_int (pa_cons pe_int (pa_cons pe_int (pa_cons pe_int (pa_cons pe_int (pa_cons pe_int (pa_cons pe_int (pa_cons pe_int (pa_cons pe_int pa_nil))))))))))) pa_nil))))) pa_nil))))) pss_nil)
      (pss_cons (ps_set (i := 4) sc_law_arena.nd rfl (Or.inl rfl) pe_int)
      (Evl.pss_cut (ps_if (pt_cmp (pc_lt (pv 1) pe_int) (nomark _)) (pss_one (ps_set (i := 4) sc_law_arena.nd rfl (Or.inl rfl) (pe_ix ix_list (pe_lstN (pa_cons pe_int (pa_cons pe_int (pa_cons pe_int (pa_cons pe_int (pa_cons pe_int (pa_cons pe_int (pa_cons pe_int (pa_cons pe_int (pa_cons pe_int pa_nil)))))))))) (pv 1) (fun _ _ => rfl)))) pss_nil)
      (pss_cons (ps_set (i := 2) sc_law_arena.nd rfl (Or.inl rfl) (pe_ix ix_list (pv 3) pe_int (fun _ _ => rfl)))
      (pss_cons (ps_set (i := 5) sc_law_arena.nd rfl (Or.inl rfl) (pe_ix ix_list (pv 3) pe_int (fun _ _ => rfl)))
      (Evl.pss_cut (ps_if (pt_cmp (pc_eqI (pe_cal c__law_take (hr.mono (by first | decide | omega)) (by rfl) (pa_cons (pv 0) (pa_cons pe_int pa_nil))) pe_int) (nomark _)) (pss_cons (ps_set (i := 6) sc_law_arena.nd rfl (Or.inr rfl) (pe_callTy call_tupleN (by rfl) Z.z_tuple (by decide +kernel) (pa_cons (pe_cal c__law_drawn (hr.mono (by first | decide | omega)) (by rfl) (pa_cons (pv 0) (pa_cons (pe_listRgN rfl (by rfl) Z.z_list (prg_1 (by rfl) Z.z_range (pv 2))) (pa_cons (pv 2) pa_nil)))) pa_nil)))
      (pss_one (ps_setLc (i := 5) (own := [("move", 7)]) (g := gName 7) (tt := tYes) (by rfl) sc_law_arena.nd rfl rfl (sw_true rfl rfl rfl (by decide +kernel)) (pi_list (pv 5)) (blkOk_by (N := ["store", "share", "points", "drawn", "most", "told", "by", "move", "kept", "made", "wider", "k"]) (sc := defScope s_law_arena) (by decide +kernel)) (fun _ _ _ _ _ => pg_name (i := 7) sc_law_arena.nd rfl (Or.inl rfl)) (fun _ _ _ _ _ => pts_nil) (fun _ _ _ _ _ => (pe_cal c__law_renamed (hr.mono (by first | decide | omega)) (by rfl) (pa_cons (pv 7) (pa_cons (pv 6) pa_nil))))))) pss_nil)
      (pss_cons (ps_set (i := 8) sc_law_arena.nd rfl (Or.inl rfl) (pe_lstN pa_nil))
      (pss_cons (ps_set (i := 9) sc_law_arena.nd rfl (Or.inl rfl) (pe_lstN (pa_cons (pe_tupRgN rfl (by rfl) Z.z_tuple (prg_1 (by rfl) Z.z_range (pv 2))) pa_nil)))
      (pss_cons (ps_for PassesOwn.never rfl (pi_list (pv 5)) (pg_name (i := 7) sc_law_arena.nd rfl (Or.inl rfl)) (pss_cons (ps_set (i := 10) sc_law_arena.nd rfl (Or.inl rfl) (pe_cal c__law_group (hr.mono (by first | decide | omega)) (by rfl) (pa_cons (pv 2) (pa_cons (pe_op op_catN (pv 8) (pe_lstN (pa_cons (pv 7) pa_nil))) (pa_cons (pv 4) pa_nil)))))
      (pss_one (ps_if (pt_cmpR op_notN (pv 10) pe_non (nomark _)) (pss_cons (ps_expr (pe_bm PySem.F.plainAttrs_list PySem.F.slot_list_append PySem.F.type_list_append mt_appendN (pv 8) (pa_cons (pv 7) pa_nil)))
      (pss_one (ps_set (i := 9) sc_law_arena.nd rfl (Or.inl rfl) (pv 10)))) pss_nil))))
      (Evl.pss_cut (ps_if (pt_cmp (pc_eqI (pe_cal c__law_take (hr.mono (by first | decide | omega)) (by rfl) (pa_cons (pv 0) (pa_cons pe_int pa_nil))) pe_int) (nomark _)) (pss_one (ps_for PassesOwn.never rfl (pi_range1 (by rfl) Z.z_range (pa_cons (pe_cal c__law_take (hr.mono (by first | decide | omega)) (by rfl) (pa_cons (pv 0) (pa_cons (pe_op op_sub pe_int (pe_callB call_len_seq (by rfl) Z.z_len (by decide +kernel) (pa_cons (pv 8) pa_nil))) pa_nil))) pa_nil)) (pg_name (i := 11) sc_law_arena.nd rfl (Or.inl rfl)) (pss_one (ps_expr (pe_bm PySem.F.plainAttrs_list PySem.F.slot_list_insert PySem.F.type_list_insert mt_insertN (pv 8) (pa_cons (pe_cal c__law_take (hr.mono (by first | decide | omega)) (by rfl) (pa_cons (pv 0) (pa_cons (pe_op op_add (pe_callB call_len_seq (by rfl) Z.z_len (by decide +kernel) (pa_cons (pv 8) pa_nil)) pe_int) pa_nil))) (pa_cons (pe_cal c__law_pick (hr.mono (by first | decide | omega)) (by rfl) (pa_cons (pv 0) (pa_cons (pv 9) pa_nil))) pa_nil))))))) pss_nil)
      (pss_one (ps_ret (pe_lstN (pa_cons (pv 2) (pa_cons (pv 8) (pa_cons (pv 9) pa_nil)))))))))))))))))))), ?_⟩
  refine ⟨_, rfl, S, G, 32, rfl, wd, by omega, fun sh H1 a0 a1 s1 => ?_⟩
  refine ⟨_, rfl, S, G, 6, rfl, s1.wd, by omega, fun d2 H2 b0 b1 s2 => ⟨_, _, rfl, rfl, ?_⟩⟩
  have s2 := s1.trans s2
  refine ⟨fun σ' H' => ∃ m : Int, 0 ≤ m ∧ m ≤ 12 ∧ σ' = [some (.ref S.a), some (.int sh), some (.int m), none, none, none, none, none, none, none, none, none] ∧ Go S G H G H', ?_, ?_⟩
  · refine ⟨_, rfl, S, G, 6, rfl, s2.wd, by omega, fun d3 H3 c0 c1 s3 => ⟨_, _, rfl, rfl, _, rfl, ite2 (fun c => ?_) (fun c => ⟨2 + d2, by omega, by omega, rfl, s2.trans s3⟩)⟩⟩
    exact ⟨_, rfl, S, G, 13, rfl, (s2.trans s3).wd, by omega, by omega, fun d H4 e0 e1 s4 => ⟨d, by omega, by omega, rfl, (s2.trans s3).trans s4⟩⟩
  rintro σ' H3 ⟨m, m0, m12, rfl, s3⟩
  refine ⟨_, rfl, _, rfl, S, G, m, rfl, s3.wd, m0, m12, fun p n T H4 t4 => ?_⟩
  have t4 := t4.back s3
  clear s1 s2
  refine ⟨fun σ' H' => ∃ (p : Addr) (n : Int) (T : List (List Int)), σ' = [some (.ref S.a), some (.int sh), some (.int m), some (.ref p), none, none, none, none, none, none, none, none] ∧ Tld S G H p n T H', ?_, ?_⟩
  · refine ⟨_, rfl, _, _, rfl, rfl, _, rfl, ite2 (fun c => ?_) (fun c => ⟨p, n, T, rfl, t4⟩)⟩
    obtain ⟨G4, q4, ts4, s4, -⟩ := t4
    have row : ∀ {p : Addr} {ns : List Int} {Ha Hb : Hp}, New Ha p (.tup (ns.map V.int)) Hb → Da Hb (.ref p) (rowD ns) := fun n => .tup n.at (DaAll.ints _)
    refine ⟨(by show 10 ≤ sizeLine; decide), fun a0 Hxa0 nxa0 => ⟨(by show 10 ≤ sizeLine; decide), fun a1 Hxa1 nxa1 => ⟨(by show 10 ≤ sizeLine; decide), fun a2 Hxa2 nxa2 => ⟨(by show 10 ≤ sizeLine; decide), fun a3 Hxa3 nxa3 => ⟨(by show 4 ≤ sizeLine; decide), fun qx Hxq nxq => ⟨(by show 2 ≤ sizeLine; decide), fun px Hxp nxp => ?_⟩⟩⟩⟩⟩⟩
    have sx := ((((s4.loc nxa0).1.loc nxa1).1.loc nxa2).1.loc nxa3).1
    exact ⟨px, 10, [[0, 2, 4, 1, 3, 5, 6, 7, 8, 9], [1, 2, 3, 4, 0, 5, 6, 7, 8, 9], [0, 1, 2, 3, 4, 5, 7, 9, 6, 8], [0, 1, 2, 3, 4, 6, 7, 8, 9, 5]], rfl,
      (tld_lit (n := 10) (T := [[0, 2, 4, 1, 3, 5, 6, 7, 8, 9], [1, 2, 3, 4, 0, 5, 6, 7, 8, 9], [0, 1, 2, 3, 4, 5, 7, 9, 6, 8], [0, 1, 2, 3, 4, 6, 7, 8, 9, 5]]) sx (.cons ((row nxa0).up (nxa1.same.trans (nxa2.same.trans nxa3.same))) (.cons ((row nxa1).up (nxa2.same.trans nxa3.same)) (.cons ((row nxa2).up nxa3.same) (.cons (row nxa3) .nil)))) nxq nxp
        (.cons' (by unfold IsMv; decide +kernel) (.cons' (by unfold IsMv; decide +kernel) (.cons' (by unfold IsMv; decide +kernel) (.cons' (by unfold IsMv; decide +kernel) .nil')))) (by decide) (by decide) (by decide)).1⟩
  clear t4
  rintro σ' H5 ⟨p, n, T, rfl, t5⟩
  refine ⟨fun σ' H' => ∃ most : Int, 1 ≤ most ∧ most ≤ 400 ∧ σ' = [some (.ref S.a), some (.int sh), some (.int m), some (.ref p), some (.int most), none, none, none, none, none, none, none] ∧ Tld S G H p n T H', ?_, ?_⟩
  · refine ⟨_, rfl, _, _, rfl, rfl, _, rfl, ite2 (fun c => ?_) (fun c => ⟨24, by omega, by omega, rfl, t5⟩)⟩
    have c : sh < 9 := dec_of c
    refine ⟨by show 9 ≤ sizeLine; decide, fun l H6 n6 => ?_⟩
    obtain ⟨a, e1, e2, -⟩ := atI_ints (ns := [400, 400, 400, 400, 60, 60, 60, 60, 60]) (d := sh) a0 (by show sh < 9; exact c)
    have am := List.mem_of_getElem? e1
    have ab : a = 400 ∨ a = 60 := by simpa using am
    exact ⟨_, rfl, l, _, _, _, rfl, rfl, .of n6.at, e2, a, by omega, by omega, rfl, t5.later n6.same⟩
  clear t5
  rintro σ' H6 ⟨most, o1, o2, rfl, t6⟩
  obtain ⟨G6, q6, ts6, s6, gp, gq, fp, fq, hp, hq, dT, mvT, n0, n12, lT⟩ := t6
  refine ⟨_, rfl, p, _, 0, _, rfl, rfl, .of hp, rfl, ?_⟩
  refine ⟨_, rfl, p, _, 1, _, rfl, rfl, .of hp, rfl, ?_⟩
  refine ⟨fun σ' H' => ∃ (G' : Hp) (qt : Addr) (ts : List V) (T : List (List Int)) (y6 : Option V), σ' = [some (.ref S.a), some (.int sh), some (.int n), some (.ref p), some (.int most), some (.ref qt), y6, none, none, none, none, none] ∧ Go S G H G' H' ∧ G' qt = none ∧ H qt = none ∧ H' qt = some (.lst ts) ∧ DaAll G' ts (T.map rowD) ∧ AllMv n T ∧ T.length ≤ 8, ?_, ?_⟩
  · refine ⟨_, rfl, S, G6, 2, rfl, s6.wd, by omega, fun d7 H7 b0 b1 s7 => ⟨_, _, rfl, rfl, _, rfl, ite2 (fun c => ?_) (fun c => ⟨G6, q6, ts6, T, _, rfl, s6.trans s7, gq, fq, s7.hh hq (s6.ns fq), dT, mvT, lT⟩)⟩⟩
    have hq := s7.hh hq (s6.ns fq)
    have s7 := s6.trans s7
    refine ⟨_, rfl, _, rfl, n, rfl, .of_le (by decide) (by omega) (by decide) (by omega), fun l H8 n8 => ?_⟩
    rw [rgV_rngI] at n8
    obtain ⟨s8, gl, hl, fl⟩ := s7.loc n8
    have hq := n8.else hq
    refine ⟨_, rfl, S, G6, l, _, n, rfl, s8.wd, .inl hl, by rw [List.length_map, rngI_len]; omega, by omega, by omega, fun r ys rest H9 s9 gr fr hr pm0 hy => ?_⟩
    obtain ⟨rs, ms, rfl, rfl, pm⟩ := perm_ints pm0
    rw [List.length_map, List.length_map, rngI_len] at hy
    have pl := pm.length_eq
    rw [List.length_append, rngI_len] at pl
    have e : ms = [] := List.eq_nil_of_length_eq_zero (by omega)
    subst e
    rw [List.append_nil] at pm
    have hq := s9.hh hq (s8.ns fq)
    refine ⟨r, _, rfl, .of hr, fun b HA nA => ?_⟩
    obtain ⟨GA, sA, gA, kA, oA⟩ := (s8.trans s9).know nA
    have hq := nA.else hq
    have gqA : GA q6 = none := by
      rw [oA q6 fun z => by rw [z, nA.at] at hq; cases hq]
      exact gq
    refine ⟨_, rfl, q6, rfl, ⟨_, .of hq⟩, fun x hx => ?_⟩
    refine lc_list (xs := ts6) (fun i H' => ∃ (G' : Hp) (zs : List V) (U : List (List Int)), Go S G H G' H' ∧ Same GA G' ∧ G' q6 = none ∧ H' q6 = some (.lst ts6) ∧ G' x = none ∧ H x = none ∧ H' x = some (.lst zs) ∧ DaAll G' zs (U.map rowD) ∧ AllMv n U ∧ U.length = i) ?_ ?_ ?_ ?_
    · obtain ⟨sx, gx, hx2, fx⟩ := sA.loc (p := x) (o := .lst []) ⟨hx, rfl⟩
      exact ⟨GA, [], [], sx, Same.refl _, gqA, (New.mk hx rfl : New _ x (.lst []) _).else hq, gx, fx, hx2, .nil, .nil', rfl⟩
    · rintro i H' - ⟨G', zs, U, sB, gg, gqB, hqB, -⟩
      exact .of hqB
    · rintro i y HB hy ⟨GB, zs, U, sB, gg, gqB, hqB, gx, fx, hxB, dU, mvU, lU⟩
      obtain ⟨e, he, hde⟩ := dT.get hy
      rw [List.getElem?_map] at he
      obtain ⟨v, hv, rfl⟩ := Option.map_eq_some_iff.mp he
      obtain ⟨c, rfl, hc⟩ := rows_ref hde
      have ilt := (List.getElem?_eq_some_iff.mp hv).1
      refine ⟨rfl, yesT ⟨_, rfl, _, rfl, GB, c, b, v, rs, n, rfl, sB.gh, (gg _ _ (gA _ _ hc)), gg _ _ kA, mvT v (List.mem_of_getElem? hv), pm, n0, by omega, fun p7 ms G7 H7 s7 k7 mv7 => ?_⟩⟩
      have S7 := sB.q s7
      have h7 := s7.hh _ _ hxB
      have g7 := s7.nw2 hxB gx
      have lz := dU.length
      rw [List.length_map] at lz
      refine ⟨zs, h7, lt (by omega), G7, zs ++ [.ref p7], U ++ [ms], S7.mut g7 fx rfl, gg.trans s7.gg, s7.nw2 hqB gqB, ?_, g7, fx, upd_same, ?_, mvU.app' (.cons' mv7 .nil'), by rw [List.length_append, lU]; rfl⟩
      · rw [upd_ne fun z => by rw [z, hx] at hq; cases hq]
        exact s7.hh _ _ hqB
      · rw [List.map_append]
        exact (dU.up s7.gg).append (.one (.tup k7 (DaAll.ints _)))
    · rintro HB ⟨GB, zs, U, sB, gg, gqB, hqB, gx, fx, hxB, dU, mvU, lU⟩
      have lt6 := dT.length
      rw [List.length_map] at lt6
      exact ⟨GB, x, zs, U, _, rfl, sB, gx, fx, hxB, dU, mvU, by omega⟩
  clear s6 gp gq fp fq hp hq dT mvT lT
  rintro σ' H7 ⟨G7, qt, ts, T, y6, rfl, s7, gq, fq, hq, dT, mvT, lT⟩
  have lts := dT.length
  rw [List.length_map] at lts
  refine ⟨by show 0 ≤ sizeLine; decide, fun kp H8 n8 => ?_⟩
  obtain ⟨s8, gk, hk, fk⟩ := s7.loc n8
  refine ⟨_, rfl, n, rfl, .of_le (by decide) (by omega) (by decide) (by omega), fun st H9 n9 => ?_⟩
  rw [rgV_rngI] at n9
  obtain ⟨G9, s9, g9, k9, o9⟩ := s8.know n9
  refine ⟨by show 1 ≤ sizeLine; decide, fun mp HA nA => ?_⟩
  obtain ⟨sA, gm, hm, fm⟩ := s9.loc nA
  have hqA := nA.else (n9.else (n8.else hq))
  have hkA := nA.else (n9.else hk)
  have nkm : kp ≠ mp := fun z => by rw [z] at hk; have := n9.else hk; rw [nA.fr] at this; cases this
  have gkA : G9 kp = none := by
    rw [o9 kp fun z => by rw [z, n9.fr] at hk; cases hk]
    exact gk
  have gqA : G9 qt = none := by
    rw [o9 qt fun z => by have := n8.else hq; rw [z, n9.fr] at this; cases this]
    exact gq
  have nqk : qt ≠ kp := fun z => by rw [z, n8.fr] at hq; cases hq
  have dTA := dT.up g9
  refine ⟨_, rfl, qt, rfl, ⟨_, .of hqA⟩, for_list (K := K) (a := qt) (xs := ts) (fun i σ' H' => ∃ (G' : Hp) (mp : Addr) (ks ms : List V) (U L : List (List Int)) (y7 y10 : Option V), σ' = [some (.ref S.a), some (.int sh), some (.int n), some (.ref p), some (.int most), some (.ref qt), y6, y7, some (.ref kp), some (.ref mp), y10, none] ∧ Go S G H G' H' ∧ Same G9 G' ∧ G' qt = none ∧ H' qt = some (.lst ts) ∧
    G' kp = none ∧ H' kp = some (.lst ks) ∧ DaAll G' ks (U.map rowD) ∧ AllMv n U ∧ U.length ≤ i ∧ G' mp = none ∧ H mp = none ∧ kp ≠ mp ∧ H' mp = some (.lst ms) ∧ DaAll G' ms (L.map rowD) ∧ Grp n U L ∧ ((L.length : Nat) : Int) ≤ 400) ?_ ?_ ?_ ?_⟩
  · exact ⟨G9, mp, [], _, [], [rngI n], none, none, rfl, sA, Same.refl _, gqA, hqA, gkA, hkA, .nil, .nil', Nat.le_refl _, gm, fm, nkm, hm, .cons (.tup k9 (DaAll.ints _)) .nil, .none, by show ((1 : Nat) : Int) ≤ 400; omega⟩
  · rintro i σ' H' - ⟨G', mp, ks, ms, U, L, y7, y10, rfl, sB, gg, gqB, hqB, -⟩
    exact .of hqB
  · rintro i y σ' HB hy ⟨GB, mp, ks, ms, U, L, y7, y10, rfl, sB, gg, gqB, hqB, gkB, hkB, dU, mvU, lU, gmB, fmB, nkm, hmB, dL, grp, lL⟩
    obtain ⟨e, he, hde⟩ := dTA.get hy
    rw [List.getElem?_map] at he
    obtain ⟨v, hv, rfl⟩ := Option.map_eq_some_iff.mp he
    obtain ⟨c, rfl, hc⟩ := rows_ref hde
    have ilt := (List.getElem?_eq_some_iff.mp hv).1
    have mvv := mvT v (List.mem_of_getElem? hv)
    have lks := dU.length
    rw [List.length_map] at lks
    refine ⟨_, rfl, _, rfl, _, rfl, by show 1 ≤ sizeLine; decide, fun e1 HC nC => ?_⟩
    have sC := (sB.loc nC).1
    refine ⟨kp, e1, ks, [.ref c], rfl, rfl, nC.else hkB, nC.at, ?_, fun r HD nD => ?_⟩
    · show ks.length + 1 ≤ sizeLine
      exact Nat.le_trans (show _ ≤ 9 by omega) (by decide)
    obtain ⟨sD, grD, hrD, frD⟩ := sC.loc nD
    have hkD := nD.else (nC.else hkB)
    have hqD := nD.else (nC.else hqB)
    have hmD := nD.else (nC.else hmB)
    have mv2 := mvU.app' (.cons' mvv .nil')
    refine ⟨_, rfl, GB, r, ks ++ [.ref c], U ++ [v], n, most, rfl, sD.gh, n0, n12, hrD, ?_, mv2, ?_, o1, by omega, fun p7 G7 H7 ys LL s7 f7 g7 h7 dy gM lM => ?_, fun no H7 s7 => ?_⟩
    · rw [List.map_append]
      exact dU.append (.one (hde.up gg))
    · rw [List.length_append]
      show U.length + 1 ≤ 1000
      omega
    · have gk7 := s7.nw2 hkD gkB
      have gq7 := s7.nw2 hqD gqB
      have hk7 := s7.hh _ _ hkD
      have nkp : kp ≠ p7 := fun z => by rw [z, f7] at hkD; cases hkD
      refine ⟨_, rfl, rfl, _, rfl, iteBT (by simp) ⟨_, rfl, .inl ⟨rfl, _, .of hk7⟩, _, rfl, kp, ks, _, rfl, rfl, hk7, lt (by omega), fun HE eE => ⟨_, rfl, ?_⟩⟩⟩
      refine ⟨G7, p7, ks ++ [.ref c], ys, U ++ [v], LL, _, _, rfl, (sD.q s7).mut gk7 fk eE, gg.trans s7.gg, gq7, upd_else eE (s7.hh _ _ hqD) nqk, gk7, upd_at eE, ?_, mv2, by rw [List.length_append]; show U.length + 1 ≤ i + 1; omega, g7, sD.fresh f7, nkp, upd_else eE h7 (Ne.symm nkp), dy, gM, by omega⟩
      rw [List.map_append]
      exact (dU.append (.one (hde.up gg))).up s7.gg
    · refine ⟨_, rfl, rfl, _, rfl, iteBF (by simp) ?_⟩
      exact ⟨GB, mp, ks, ms, U, L, _, _, rfl, sD.pure s7, gg, gqB, s7 _ _ hqD, gkB, s7 _ _ hkD, dU, mvU, by omega, gmB, fmB, nkm, s7 _ _ hmD, dL, grp, lL⟩
  rintro σ' HB ⟨GB, mp, ks, ms, U, L, y7, y10, rfl, sB, gg, gqB, hqB, gkB, hkB, dU, mvU, lU, gmB, fmB, nkm, hmB, dL, grp, lL⟩
  have lU : U.length ≤ 8 := by omega
  have lms := dL.length
  rw [List.length_map] at lms
  have L1 : 0 < L.length := List.length_pos_of_mem grp.still
  refine ⟨fun σ' H' => ∃ (ks : List V) (U : List (List Int)) (y11 : Option V), σ' = [some (.ref S.a), some (.int sh), some (.int n), some (.ref p), some (.int most), some (.ref qt), y6, y7, some (.ref kp), some (.ref mp), y10, y11] ∧ Go S G H GB H' ∧ H' kp = some (.lst ks) ∧ DaAll GB ks (U.map rowD) ∧ AllMv n U ∧ U.length ≤ 8 ∧ H' mp = some (.lst ms) ∧ Grp n U L, ?_, ?_⟩
  · have lks := dU.length
    rw [List.length_map] at lks
    refine ⟨_, rfl, S, GB, 4, rfl, sB.wd, by omega, fun d HC d0 d1 sC => ⟨_, _, rfl, rfl, _, rfl, ite2 (fun c => ?_) (fun c => ⟨ks, U, _, rfl, sB.trans sC, sC.hh hkB (sB.ns fk), dU, mvU, lU, sC.hh hmB (sB.ns fmB), grp⟩)⟩⟩
    have hk := sC.hh hkB (sB.ns fk)
    have hm := sC.hh hmB (sB.ns fmB)
    have sC := sB.trans sC
    refine ⟨_, rfl, _, rfl, kp, _, rfl, .inl (.of hk), _, _, rfl, rfl, S, GB, _, rfl, sC.wd, by omega, fun e HD e0 e1 sD => ⟨e, rfl, by omega, by omega, ?_⟩⟩
    refine for_range (lo := 0) (n := e.toNat) (fun i σ' H' => ∃ (ks : List V) (U' : List (List Int)) (y11 : Option V), σ' = [some (.ref S.a), some (.int sh), some (.int n), some (.ref p), some (.int most), some (.ref qt), y6, y7, some (.ref kp), some (.ref mp), y10, y11] ∧ Go S G H GB H' ∧ H' kp = some (.lst ks) ∧ DaAll GB ks (U'.map rowD) ∧ AllMv n U' ∧ U'.length = U.length + i ∧ H' mp = some (.lst ms) ∧ Grp n U' L) ⟨ks, U, _, rfl, sC.trans sD, sD.hh hk (sC.ns fk), dU, mvU, rfl, sD.hh hm (sC.ns fmB), grp⟩ ?_ ?_
    · rintro i σ' HE hi ⟨ks2, U2, y11, rfl, sE, hkE, dU2, mvU2, lU2, hmE, grp2⟩
      have lks2 := dU2.length
      rw [List.length_map] at lks2
      refine ⟨_, rfl, .inl ⟨rfl, _, .of hkE⟩, _, rfl, _, rfl, kp, _, rfl, .inl (.of hkE), _, _, rfl, rfl, S, GB, _, rfl, sE.wd, by omega, fun t HF t0 t1 sF => ?_⟩
      have hkF := sF.hh hkE (sE.ns fk)
      have hmF := sF.hh hmE (sE.ns fmB)
      have sF := sE.trans sF
      refine ⟨_, rfl, _, rfl, S, GB, .ref mp, ms, rfl, sF.wd, .inl ⟨mp, rfl, sF.ns fmB, hmF⟩, by omega, by omega, fun x HG hx sG => ?_⟩
      obtain ⟨j, hj⟩ := List.getElem?_of_mem hx
      obtain ⟨d, hd, hdd⟩ := dL.get hj
      rw [List.getElem?_map] at hd
      obtain ⟨w, hw, rfl⟩ := Option.map_eq_some_iff.mp hd
      have wL := List.mem_of_getElem? hw
      have mk := (grp2.mem w).mp wL
      have mvw := made_mv n0 mvU2 mk
      have hkG := sG.hh hkF (sF.ns fk)
      have hmG := sG.hh hmF (sF.ns fmB)
      have sG := sF.trans sG
      refine ⟨kp, ks2, t, x, rfl, rfl, hkG, lt (by omega), t0, by omega, fun HH eH => ?_⟩
      have mv3 : AllMv n (U2.take t.toNat ++ [w] ++ U2.drop t.toNat) := fun z hz => by
        rcases List.mem_append.mp hz with hz | hz
        · rcases List.mem_append.mp hz with hz | hz
          · exact mvU2 z (List.mem_of_mem_take hz)
          · rw [List.mem_singleton.mp hz]; exact mvw
        · exact mvU2 z (List.mem_of_mem_drop hz)
      refine ⟨_, U2.take t.toNat ++ [w] ++ U2.drop t.toNat, _, rfl, sG.mut gkB fk eH, upd_at eH, ?_, mv3, ?_, upd_else eH hmG (Ne.symm nkm), grp2.like n0 mvU2 mv3 (fun z hz => made_told mv3 ?_) fun z hz => ?_⟩
      · rw [List.map_append, List.map_append, List.map_drop]
        exact ((dU2.rows_take t.toNat).append (.one hdd)).append (dU2.drop t.toNat)
      · rw [List.length_append, List.length_append, List.length_take, List.length_drop]
        show min t.toNat U2.length + 1 + (U2.length - t.toNat) = _
        omega
      · rw [← List.take_append_drop t.toNat U2] at hz
        rcases List.mem_append.mp hz with hz | hz
        · exact List.mem_append_left _ (List.mem_append_left _ hz)
        · exact List.mem_append_right _ hz
      · rcases List.mem_append.mp hz with hz | hz
        · rcases List.mem_append.mp hz with hz | hz
          · exact made_told mvU2 (List.mem_of_mem_take hz)
          · rw [List.mem_singleton.mp hz]; exact mk
        · exact made_told mvU2 (List.mem_of_mem_drop hz)
    · rintro σ' HE ⟨ks2, U2, y11, rfl, sE, hkE, dU2, mvU2, lU2, hmE, grp2⟩
      exact ⟨ks2, U2, _, rfl, sE, hkE, dU2, mvU2, by omega, hmE, grp2⟩
  rintro σ' HC ⟨ks2, U2, y11, rfl, sC, hkC, dU2, mvU2, lU2, hmC, grp2⟩
  refine ⟨_, rfl, _, rfl, _, rfl, by show 3 ≤ sizeLine; decide, fun r HD nD => ?_⟩
  obtain ⟨sD, gr, hr, fr⟩ := sC.loc nD
  exact q r n U2 L HD ⟨GB, kp, mp, ks2, ms, sD, gr, gkB, gmB, fr, fk, fmB, nkm, hr, nD.else hkC, nD.else hmC, dU2, dL, mvU2, n0, n12, lU2, grp2, by omega⟩


/-- v is a point of n -/
def spCheckPoint (DP : Addr) : Sp := fun vs H Q E => ∃ (v : V) (d : PyData) (n : Int), vs = [.int n, v] ∧ Da H v d ∧ (isNum d 0 (n - 1) = true → Q .non H) ∧ (isNum d 0 (n - 1) = false → Errs E DP [(("value" : Str), v)] H)
/-- the first bad entry of a row -/
def badPt (n : Int) (ds : List PyData) (i : Nat) : Prop := (∃ d, ds[i]? = some d ∧ isNum d 0 (n - 1) = false) ∧ ∀ (j : Nat) d, j < i → ds[j]? = some d → isNum d 0 (n - 1) = true
/-- what is due for a row: refused, or its points -/
def RowJ (n : Int) (xs : List V) (ds : List PyData) (DP DT : Addr) (E : XK) (H : Hp) (good : List Int → Prop) : Prop :=
  (24 < ds.length → Errs E DT [(("limit" : Str), .int 24), (("what" : Str), .str "row")] H) ∧ (ds.length ≤ 24 → ∀ (i : Nat) (v : V), badPt n ds i → xs[i]? = some v → Errs E DP [(("value" : Str), v)] H) ∧
  (ds.length ≤ 24 → ∀ rs : List Int, ds = rs.map PyData.int → (∀ r ∈ rs, inR n r) → good rs)
theorem num_ints {n : Int} : ∀ {ds : List PyData}, (∀ d ∈ ds, isNum d 0 (n - 1) = true) → ∃ rs : List Int, ds = rs.map PyData.int ∧ ∀ r ∈ rs, inR n r
  | [], _ => ⟨[], rfl, fun _ h => by cases h⟩
  | d :: ds, h => by
    obtain ⟨rs, rfl, hr⟩ := num_ints fun e he => h e (List.mem_cons_of_mem _ he)
    have h1 := h d List.mem_cons_self
    cases d with
    | int i =>
      have h1 : (decide (0 ≤ i) && decide (i ≤ n - 1)) = true := h1
      rw [Bool.and_eq_true] at h1
      have a := of_decide_eq_true h1.1
      have b := of_decide_eq_true h1.2
      refine ⟨i :: rs, rfl, fun r hr2 => ?_⟩
      rcases List.mem_cons.mp hr2 with e | hr2
      · rw [e]
        exact ⟨a, by omega⟩
      · exact hr r hr2
    | _ => cases h1
def spCheckRow (K : PySem.W.Frag) (DP DT : Addr) : Sp := fun vs H Q E => ∃ (G : Hp) (a : Addr) (xs : List V) (ds : List PyData) (n : Int), vs = [.int n, .ref a] ∧ Same G H ∧ HasS K H a xs ∧ DaAll G xs ds ∧ RowJ n xs ds DP DT E H (fun _ => ∀ H', Same H H' → Q .non H')

/-- the moves of L that carry each entry of rs to itself -/
def holdB (rs : List Int) (m : List Int) : Bool := decide (aft rs m = rs)
def holdL (rs : List Int) (L : List (List Int)) : List (List Int) := L.filter (holdB rs)
def spThose (K : PySem.W.Frag) (C : Addr) : Sp := fun vs H Q _ => ∃ (G : Hp) (x b : Addr) (n : Int) (T L : List (List Int)) (rs : List Int), vs = [.ref x, .ref b] ∧ Same G H ∧ WAt C G x n T L ∧ WOk n T L ∧ HasS K H b (rs.map V.int) ∧ (∀ r ∈ rs, inR n r) ∧ rs.length ≤ 24 ∧
  ∀ (p : Addr) (ys : List V) (G' H' : Hp), Stq G H G' H' → G' p = none → H p = none → H' p = some (.lst ys) → DaAll G' ys ((holdL rs L).map rowD) → Q (.ref p) H'
theorem holdL_take {rs : List Int} {L : List (List Int)} {i : Nat} {m : List Int} (h : L[i]? = some m) : holdL rs (L.take (i + 1)) = holdL rs (L.take i) ++ (if holdB rs m then [m] else []) := by
  unfold holdL
  rw [List.take_add_one, h, List.filter_append]
  show _ ++ [m].filter (holdB rs) = _
  congr 1
  cases e : holdB rs m with
  | true => rw [List.filter_cons_of_pos e]; rfl
  | false => rw [List.filter_cons_of_neg (by rw [e]; exact Bool.false_ne_true)]; rfl

/-- the row is refused, or the moves that hold it -/
def spHolders (K : PySem.W.Frag) (C DP DT : Addr) : Sp := fun vs H Q E => ∃ (G : Hp) (x a : Addr) (n : Int) (T L : List (List Int)) (xs : List V) (ds : List PyData), vs = [.ref x, .ref a] ∧ Same G H ∧ WAt C G x n T L ∧ WOk n T L ∧ HasS K H a xs ∧ DaAll G xs ds ∧
  RowJ n xs ds DP DT E H (fun rs => ∀ (p : Addr) (ys : List V) (G' H' : Hp), Stq G H G' H' → G' p = none → H p = none → H' p = some (.lst ys) → DaAll G' ys ((holdL rs L).map rowD) → Q (.ref p) H')

theorem rep_one2 (m : Nat) (v : V) : (List.replicate m [v]).flatten = List.replicate m v := by
  induction m with
  | zero => rfl
  | succ m ih =>
    rw [List.replicate_succ, List.flatten_cons, ih, List.replicate_succ]
    rfl
/-- a fresh list of points of n, at most most -/
def spRow : Sp := fun vs H Q _ => ∃ (S : Sr) (G : Hp) (n most : Int), vs = [.ref S.a, .int n, .int most] ∧ Wd S G H ∧ 0 ≤ n ∧ n ≤ 12 ∧ 0 ≤ most ∧ most ≤ 1000 ∧
  ∀ (l : Addr) (rs : List Int) (H' : Hp), Go S G H G H' → H l = none → G l = none → H' l = some (.lst (rs.map V.int)) → (∀ r ∈ rs, inR n r) → rs.length ≤ most.toNat → Q (.ref l) H'

/-- ls: the entries of rs, ascending, each once -/
def IsLot (ls rs : List Int) : Prop := ls.Pairwise (· < ·) ∧ ∀ x, x ∈ ls ↔ x ∈ rs
theorem IsLot.uniq {ls ms rs : List Int} (a : IsLot ls rs) (b : IsLot ms rs) : ls = ms := by
  have pm : ls.Perm ms := by
    refine (List.perm_ext_iff_of_nodup ?_ ?_).mpr fun x => (a.2 x).trans (b.2 x).symm
    · exact a.1.imp fun h => by omega
    · exact b.1.imp fun h => by omega
  exact List.Perm.eq_of_pairwise (le := (· ≤ ·)) (fun x y _ _ h1 h2 => Int.le_antisymm h1 h2) (a.1.imp fun h => by omega) (b.1.imp fun h => by omega) pm
theorem len_subI {α : Type} [DecidableEq α] : ∀ {K L : List α}, K.Nodup → (∀ w ∈ K, w ∈ L) → K.length ≤ L.length
  | [], L, _, _ => Nat.zero_le _
  | x :: K, L, nd, h => by
    have hx := h x List.mem_cons_self
    have ih := len_subI (K := K) (L := L.erase x) (List.nodup_cons.mp nd).2 fun w hw => (List.mem_erase_of_ne fun e => (List.nodup_cons.mp nd).1 (by rw [← e]; exact hw)).mpr (h w (List.mem_cons_of_mem _ hw))
    rw [List.length_erase_of_mem hx] at ih
    have := List.length_pos_of_mem hx
    rw [List.length_cons]
    omega
theorem IsLot.len {ls rs : List Int} (a : IsLot ls rs) : ls.length ≤ rs.length := by
  have nd : ls.Nodup := a.1.imp fun h => by omega
  exact len_subI nd fun x hx => (a.2 x).mp hx
theorem keys_putK {κ : Type} [DecidableEq κ] {kvs : List (κ × V)} {k : κ} {v : V} (h : (valV kvs k).isSome = true) : (putK kvs k v).map (·.1) = kvs.map (·.1) := by
  unfold putK
  rw [if_pos (by rw [valV_any]; exact h), List.map_map]
  refine List.map_congr_left fun p _ => ?_
  show (if p.1 = k then (p.1, v) else p).1 = p.1
  split <;> rfl
theorem kV_inl : ∀ ms : List Int, (ms.map Sum.inl).map kV = ms.map V.int := fun ms => by
  rw [List.map_map]
  rfl
theorem aft_self {rs w : List Int} : aft rs w = rs ↔ ∀ r ∈ rs, stp w r = r := by
  unfold aft
  induction rs with
  | nil => simp
  | cons a rs ih => simp [ih]


def spLotOf (K : PySem.W.Frag) : Sp := fun vs H Q _ => ∃ (G : Hp) (a : Addr) (rs : List Int), vs = [.ref a] ∧ Same G H ∧ HasS K H a (rs.map V.int) ∧ rs.length ≤ 1000 ∧ ∀ (p : Addr) (ls : List Int) (G' H' : Hp), Stq G H G' H' → G' p = some (.tup (ls.map V.int)) → IsLot ls rs → Q (.ref p) H'

def spHeldBy (K : PySem.W.Frag) : Sp := fun vs H Q _ => ∃ (G : Hp) (m b : Addr) (ms : List V) (n : Int) (L : List (List Int)) (rs : List Int), vs = [.ref m, .ref b] ∧ Same G H ∧ H m = some (.lst ms) ∧ DaAll G ms (L.map rowD) ∧ AllMv n L ∧ L.length ≤ 1000 ∧ HasS K H b (rs.map V.int) ∧ (∀ r ∈ rs, inR n r) ∧ rs.length ≤ 1000 ∧
  ∀ (p : Addr) (ys : List V) (G' H' : Hp), Stq G H G' H' → G' p = none → H p = none → H' p = some (.lst ys) → DaAll G' ys ((holdL rs L).map rowD) → Q (.ref p) H'

/-- a alone has changed, beside what is new -/
inductive Ch (a : Addr) (H : Hp) : Hp → Prop
  | refl : Ch a H H
  | chg {H1 : Hp} {o : HO} : Ch a H H1 → Ch a H (upd H1 a o)
  | new {H1 H2 : Hp} {p : Addr} {o : HO} : Ch a H H1 → New H1 p o H2 → Ch a H H2
theorem Ch.else {a b : Addr} {H H' : Hp} {o : HO} (c : Ch a H H') (h : H b = some o) (n : b ≠ a) : H' b = some o := by
  induction c with
  | refl => exact h
  | chg _ ih => rw [upd_ne n]; exact ih
  | new _ nw ih => exact nw.else ih
theorem Go.ch {S : Sr} {G H G1 H1 H2 : Hp} {a : Addr} (s : Go S G H G1 H1) (c : Ch a H1 H2) (g : G1 a = none) (f : H a = none) : Go S G H G1 H2 := by
  induction c with
  | refl => exact s
  | chg _ ih => exact ih.mut g f rfl
  | new _ nw ih => exact (ih.loc nw).1
theorem Go.chT {S : Sr} {G H G1 H1 H2 : Hp} {a : Addr} {t : Bool} (s : Go S G H G1 H1) (c : Ch a H1 H2) (e : t = true → H2 = H1) (g : t = false → G1 a = none) (f : H a = none) : Go S G H G1 H2 := by
  cases t with
  | true => rw [e rfl]; exact s
  | false => exact s.ch c (g rfl) f
def spSpoil : Sp := fun vs H Q _ => ∃ (a : Addr) (t : Bool) (xs : List V) (ds : List PyData), vs = [.ref a] ∧ H a = some (if t then HO.tup xs else HO.lst xs) ∧ DaAll H xs ds ∧ xs.length ≤ 100000 ∧ ∀ H', Ch a H H' → (t = true → H' = H) → Q .non H'
theorem ok_spoil (Z : Zs mg) (D : Ds K mg) : Cal P w K mg base "_law_spoil" 1 ["given"] spSpoil := by
  refine Def.cal D.d_law_spoil sc_law_spoil (fun vs H Q E h => ?_) (fun f cdv A outer s H vs Q E hr h => ?_)
  · obtain ⟨a, t, xs, ds, rfl, ha, dx, lx, q⟩ := h
    rfl
  obtain ⟨a, t, xs, ds, rfl, ha, dx, lx, q⟩ := h
  refine ⟨_, (pss_one (ps_if (pt_val (pe_callB call_isD (by rfl) Z.z_isinstance (by decide +kernel) (pa_cons (pv 0) (pa_cons (pe_bltn (v := .ty "list") (by rfl) Z.z_list (by decide +kernel) rfl) pa_nil)))) (pss_cons (ps_expr (pe_bm0 PySem.F.plainAttrs_list PySem.F.slot_list_reverse PySem.F.type_list_reverse mt_reverse (pv 0)))
      (pss_one (ps_expr (pe_bm PySem.F.plainAttrs_list PySem.F.slot_list_extend PySem.F.type_list_extend mt_extend (pv 0) (pa_cons (pe_slice sl_listN (pv 0) po_none (po_some pe_int)) pa_nil))))) pss_nil)), ?_⟩
  cases t with
  | true => exact ⟨_, rfl, _, _, "list", rfl, .tup ha dx, ok_list, _, rfl, iteBF (ib_tuple_list ds) (q H .refl fun _ => rfl)⟩
  | false =>
    refine ⟨_, rfl, _, _, "list", rfl, .lst ha dx, ok_list, _, rfl, iteBT (ib_list_list ds) ?_⟩
    refine ⟨_, rfl, .inl ⟨rfl, _, .of ha⟩, a, _, rfl, rfl, ha, ?_⟩
    refine ⟨_, rfl, .inl ⟨rfl, _, .of upd_same⟩, _, rfl, 1, rfl, a, _, rfl, .of upd_same, fun p H2 n2 => ?_⟩
    have h2 := n2.else (upd_same (H := H) (a := a) (o := .lst xs.reverse))
    rw [cut_toN (by decide)] at n2
    refine ⟨a, p, _, _, rfl, rfl, h2, n2.at, ?_, q _ (((Ch.refl.chg).new n2).chg) (fun z => by cases z)⟩
    rw [List.length_reverse, List.length_take, List.length_reverse]
    exact Nat.le_trans (show _ ≤ 200000 by omega) (by decide)


/-- v is no point of n -/
structure BadV (G : Hp) (n : Int) (v : V) (d : PyData) : Prop where
  da : Da G v d
  no : isNum d 0 (n - 1) = false
  sh : ShwE d
  sz : szD d ≤ 5
theorem BadV.up {G G' : Hp} {n : Int} {v : V} {d : PyData} (b : BadV G n v d) (g : Same G G') : BadV G' n v d := ⟨b.da.up g, b.no, b.sh, b.sz⟩
theorem no_point {n i : Int} (h : i < 0 ∨ n ≤ i) : isNum (.int i) 0 (n - 1) = false := by
  show (decide (0 ≤ i) && decide (i ≤ n - 1)) = false
  rcases h with h | h
  · rw [decide_eq_false (by omega)]
    rfl
  · rw [decide_eq_false (p := i ≤ n - 1) (by omega), Bool.and_false]
theorem BadV.int {G : Hp} {n i : Int} (h : i < 0 ∨ n ≤ i) (z : i.natAbs < 10 ^ 40) : BadV G n (.int i) (.int i) := ⟨.int i, no_point h, .int z, by show 1 ≤ 5; decide⟩
def spWrongPt : Sp := fun vs H Q _ => ∃ (S : Sr) (G : Hp) (n : Int), vs = [.ref S.a, .int n] ∧ Wd S G H ∧ 0 ≤ n ∧ n ≤ 12 ∧ ∀ (v : V) (d : PyData) (G' H' : Hp), Go S G H G' H' → BadV G' n v d → Q v H'

theorem yes_point {n r : Int} (h : inR n r) : isNum (.int r) 0 (n - 1) = true := by
  show (decide (0 ≤ r) && decide (r ≤ n - 1)) = true
  rw [decide_eq_true h.1, decide_eq_true (p := r ≤ n - 1) (by have := h.2; omega)]
  rfl
/-- a row that is refused, and what is due -/
structure BadRow (G : Hp) (n : Int) (p : Addr) (t : Bool) (xs : List V) (ds : List PyData) (due : PyData) : Prop where
  at_ : G p = some (if t then HO.tup xs else HO.lst xs)
  da : DaAll G xs ds
  sh : ∀ d ∈ ds, ShwE d ∧ szD d ≤ 5
  ln : ds.length ≤ 40
  due : (24 < ds.length ∧ due = .tuple [.str "TooMany", .str "row", .int 24]) ∨ (ds.length ≤ 24 ∧ ∃ (i : Nat) (v : V) (d : PyData), xs[i]? = some v ∧ badPt n ds i ∧ ds[i]? = some d ∧ due = .tuple [.str "NotAPoint", d])
theorem BadRow.up {G G' : Hp} {n : Int} {p : Addr} {t : Bool} {xs : List V} {ds : List PyData} {due : PyData} (b : BadRow G n p t xs ds due) (g : Same G G') : BadRow G' n p t xs ds due := ⟨g _ _ b.at_, b.da.up g, b.sh, b.ln, b.due⟩
def spWrongRow : Sp := fun vs H Q _ => ∃ (S : Sr) (G : Hp) (n : Int) (a : Addr) (rs : List Int), vs = [.ref S.a, .int n, .ref a] ∧ Wd S G H ∧ 0 ≤ n ∧ n ≤ 12 ∧ a ≠ S.a ∧ H a = some (.lst (rs.map V.int)) ∧ (∀ r ∈ rs, inR n r) ∧ rs.length ≤ 24 ∧
  ∀ (l p du : Addr) (t : Bool) (xs : List V) (ds : List PyData) (due : PyData) (G' H' : Hp), Go S G H G' H' → G' l = some (.lst [.ref p, .ref du]) → BadRow G' n p t xs ds due → Da G' (.ref du) due → Q (.ref l) H'

theorem no_levelE {x : Str} {st : Stmt} {ps : List Str} {sp : SpH} (D : Def K mg x st ps) (no : ∀ p vs H Q E, ¬ sp p vs H Q E) : CalE P w K mg base x 0 ps sp := by
  obtain ⟨f, fd, F, g, b⟩ := D
  exact ⟨f, fd, ⟨fun p vs H Q E h => absurd h (no p vs H Q E), fun A outer s H args us vs Q E p _ _ _ _ _ _ h => absurd h (no p vs H Q E)⟩, g, F.kp, b⟩
theorem ok_alike_h_step (Z : Zs mg) (D : Ds K mg) (k : Nat) (c__law_alike_h : CalE P w K mg base "_law_alike" k ["one", "two"] (fun _ => spAlike k)) : CalE P w K mg base "_law_alike" (k + 1) ["one", "two"] (fun _ => spAlike (k + 1)) := by
  refine Def.calE D.d_law_alike sc_law_alike (fun p vs H Q E h => ?_) (fun f cdv A outer s H vs Q E p hot hr h => ?_)
  · obtain ⟨G, v, w, d, e, rfl, gh, hd, he, dk, sz, q⟩ := h
    rfl
  obtain ⟨G, v, w, d, e, rfl, gh, hd, he, dk, sz, q⟩ := h
  refine ⟨_, (pss_cons (ps_if (pt_val (pe_callB call_isD2 (by rfl) Z.z_isinstance (by decide +kernel) (pa_cons (pv 1) (pa_cons (pe_tupN (pa_cons (pe_bltn (v := .ty "list") (by rfl) Z.z_list (by decide +kernel) rfl) (pa_cons (pe_bltn (v := .ty "tuple") (by rfl) Z.z_tuple (by decide +kernel) rfl) pa_nil))) pa_nil)))) (pss_cons (ps_if (PW.pt (pw_or (PW.pt (pw_and (pt_val (pe_callB call_isD (by rfl) Z.z_isinstance (by decide +kernel) (pa_cons (pv 1) (pa_cons (pe_bltn (v := .ty "list") (by rfl) Z.z_list (by decide +kernel) rfl) pa_nil)))) (pw_and1 (pt_not (pt_val (pe_callB call_isD (by rfl) Z.z_isinstance (by decide +kernel) (pa_cons (pv 0) (pa_cons (pe_bltn (v := .ty "list") (by rfl) Z.z_list (by decide +kernel) rfl) pa_nil)))))))) (pw_or1 (PW.pt (pw_and (pt_val (pe_callB call_isD (by rfl) Z.z_isinstance (by decide +kernel) (pa_cons (pv 1) (pa_cons (pe_bltn (v := .ty "tuple") (by rfl) Z.z_tuple (by decide +kernel) rfl) pa_nil)))) (pw_and1 (pt_not (pt_val (pe_callB call_isD (by rfl) Z.z_isinstance (by decide +kernel) (pa_cons (pv 0) (pa_cons (pe_bltn (v := .ty "tuple") (by rfl) Z.z_tuple (by decide +kernel) rfl) pa_nil))))))))))) (pss_one (ps_ret pe_bl)) pss_nil)
      (pss_one (ps_ret (pe_and (pe_cmp (pc_eqI (pe_callB call_len (by rfl) Z.z_len (by decide +kernel) (pa_cons (pv 0) pa_nil)) (pe_callB call_len (by rfl) Z.z_len (by decide +kernel) (pa_cons (pv 1) pa_nil))) (nomark _)) (pe_one (pe_callB (cr_allH (hot_in hot List.mem_cons_self)) (by rfl) Z.z_all (by decide +kernel) (pa_cons (pe_lcH (own := [("k", 2)]) (g := gName 2) (tt := tYes) (hot_in hot List.mem_cons_self) sc_law_alike.nd (L2H.pi_range1H (by rfl) Z.z_range (pa_cons (pe_callB call_len (by rfl) Z.z_len (by decide +kernel) (pa_cons (pv 1) pa_nil)) pa_nil)) (blkOk_by (N := ["one", "two", "k"]) (sc := defScope s_law_alike) (by decide +kernel)) (fun _ _ _ _ _ => pg_name (i := 2) sc_law_alike.nd rfl (Or.inl rfl)) (fun _ _ _ _ _ => pts_nil) (fun _ _ _ _ _ => (pe_calE c__law_alike_h (hr.mono (by first | decide | omega)) hot List.mem_cons_self (by rfl) (pa_cons (pe_ix (ix_seqK (K := K) rfl) (pv 0) (pv 2) (fun _ _ => rfl)) (pa_cons (pe_ix (ix_seqK (K := K) rfl) (pv 1) (pv 2) (fun _ _ => rfl)) pa_nil))))) pa_nil))))))) pss_nil)
      (pss_cons (ps_if (PW.pt (pw_or (pt_cmpR op_isN (pv 1) pe_non (nomark _)) (pw_or (pt_cmpR op_isBD (pv 1) pe_bl (nomark _)) (pw_or1 (pt_cmpR op_isBD (pv 1) pe_bl (nomark _)))))) (pss_one (ps_ret (pe_or (pe_and (pe_cmpR op_isN (pv 1) pe_non (nomark _)) (pe_one (pe_cmpR op_isN (pv 0) pe_non (nomark _)))) (pe_or (pe_and (pe_cmpR op_isBD (pv 1) pe_bl (nomark _)) (pe_one (pe_cmpR op_isBD (pv 0) pe_bl (nomark _)))) (pe_one (pe_and (pe_cmpR op_isBD (pv 1) pe_bl (nomark _)) (pe_one (pe_cmpR op_isBD (pv 0) pe_bl (nomark _))))))))) pss_nil)
      (pss_cons (ps_if (pt_val (pe_callB call_isD (by rfl) Z.z_isinstance (by decide +kernel) (pa_cons (pv 1) (pa_cons (pe_bltn (v := .ty "str") (by rfl) Z.z_str (by decide +kernel) rfl) pa_nil)))) (pss_one (ps_ret (pe_and (pe_callB call_isD (by rfl) Z.z_isinstance (by decide +kernel) (pa_cons (pv 0) (pa_cons (pe_bltn (v := .ty "str") (by rfl) Z.z_str (by decide +kernel) rfl) pa_nil))) (pe_one (pe_cmpR op_eq (pv 0) (pv 1) (nomark _)))))) pss_nil)
      (pss_one (ps_ret (pe_and (pe_callB call_isD (by rfl) Z.z_isinstance (by decide +kernel) (pa_cons (pv 0) (pa_cons (pe_bltn (v := .ty "int") (by rfl) Z.z_int (by decide +kernel) rfl) pa_nil))) (pe_and (pe_not (pe_callB call_isD (by rfl) Z.z_isinstance (by decide +kernel) (pa_cons (pv 0) (pa_cons (pe_bltn (v := .ty "bool") (by rfl) Z.z_bool (by decide +kernel) rfl) pa_nil)))) (pe_one (pe_cmpR op_eq (pv 0) (pv 1) (nomark _)))))))))), ?_⟩
  refine ⟨_, rfl, (by show 2 ≤ sizeLine; decide), fun tp H2 n2 => ?_⟩
  have gh := gh.trans n2.same
  have q2 := fun H' (s : Same H2 H') => q H' (n2.same.trans s)
  have hd2 := hd.up gh
  have he2 := he.up gh
  have no : sameD d e = false → Q (.bl false) H2 := fun h => by
    have := q2 H2 (Same.refl _)
    rwa [h] at this
  refine ⟨w, e, tp, rfl, n2.at, he2, _, rfl, ?_⟩
  rcases he.kind with ⟨rfl, rfl⟩ | ⟨b, rfl, rfl⟩ | ⟨j, rfl, rfl⟩ | ⟨j, rfl, rfl⟩ | ⟨b, ys, es, t, rfl, hb, hbt, hbl, dys, rfl⟩
  · refine iteBF (by rw [ib_none_list, ib_none_tuple]; rfl) ⟨_, rfl, rfl, _, rfl, iteDT rfl (iteT ?_)⟩
    refine ⟨_, rfl, rfl, _, rfl, iteDT rfl ⟨_, rfl, rfl, _, rfl, ite2 (fun c => ?_) (fun c => ?_)⟩⟩
    · have e := hd.non_iff.mp (dec_of c)
      subst e
      exact q2 H2 (Same.refl _)
    · have e : ¬ d = .none := fun z => dec_not c (hd.non_iff.mpr z)
      refine ⟨_, rfl, .none, true, .non, rfl, _, rfl, iteDF (by intro z; cases z) ⟨_, rfl, iteF ⟨_, rfl, .none, false, .non, rfl, _, rfl, iteDF (by intro z; cases z) (no ?_)⟩⟩⟩
      cases d <;> first | rfl | exact absurd rfl e
  · refine iteBF (by rw [ib_bool_list, ib_bool_tuple]; rfl) ⟨_, rfl, rfl, _, rfl, iteDF (by intro z; cases z) ?_⟩
    cases b with
    | true =>
      refine ⟨_, rfl, _, true, .bl true, rfl, _, rfl, iteDT rfl (iteT ?_)⟩
      refine ⟨_, rfl, rfl, _, rfl, iteDF (by intro z; cases z) ⟨_, rfl, iteF ⟨_, rfl, _, true, .bl true, rfl, _, rfl, iteDT rfl ⟨_, rfl, d, true, hd2, rfl, _, rfl, ite2 (fun c => ?_) (fun c => ?_)⟩⟩⟩⟩
      · have e := hd.bl_iff.mp (dec_of c)
        subst e
        exact q2 H2 (Same.refl _)
      · have e : ¬ d = .bool true := fun z => dec_not c (hd.bl_iff.mpr z)
        refine ⟨_, rfl, _, false, .bl true, rfl, _, rfl, iteDF (by intro z; cases z) (no ?_)⟩
        cases d with
        | bool b => cases b with
          | true => exact absurd rfl e
          | false => rfl
        | _ => rfl
    | false =>
      refine ⟨_, rfl, _, true, .bl false, rfl, _, rfl, iteDF (by intro z; cases z) ⟨_, rfl, _, false, .bl false, rfl, _, rfl, iteDT rfl ?_⟩⟩
      refine ⟨_, rfl, rfl, _, rfl, iteDF (by intro z; cases z) ⟨_, rfl, iteF ⟨_, rfl, _, true, .bl false, rfl, _, rfl, iteDF (by intro z; cases z) ⟨_, rfl, iteF ⟨_, rfl, _, false, .bl false, rfl, _, rfl, iteDT rfl ⟨_, rfl, d, false, hd2, rfl, ?_⟩⟩⟩⟩⟩⟩
      have := q2 H2 (Same.refl _)
      by_cases c : v = .bl false
      · have e := hd.bl_iff.mp c
        subst e
        rw [decide_eq_true c]
        exact this
      · rw [decide_eq_false c]
        have e : ¬ d = .bool false := fun z => c (hd.bl_iff.mpr z)
        refine no ?_
        cases d with
        | bool b => cases b with
          | true => rfl
          | false => exact absurd rfl e
        | _ => rfl
  · refine iteBF (by rw [ib_int_list, ib_int_tuple]; rfl) ⟨_, rfl, rfl, _, rfl, iteDF (by intro z; cases z) ⟨_, rfl, _, true, .int j, rfl, _, rfl, iteDF (by intro z; cases z) ⟨_, rfl, _, false, .int j, rfl, _, rfl, iteDF (by intro z; cases z) ?_⟩⟩⟩
    refine ⟨_, rfl, _, _, "str", rfl, .int j, ok_str, _, rfl, iteBF (ib_int_str j) ⟨_, rfl, v, d, "int", rfl, hd2, .inl rfl, _, rfl, ?_⟩⟩
    cases hd with
    | int i =>
      refine iteBT (ib_int_int i) ⟨_, rfl, _, _, "bool", rfl, .int i, .inr (.inl rfl), _, rfl, _, rfl, iteBT (by rw [ib_int_bool]; rfl) ⟨_, rfl, _, rfl, rfl, ?_⟩⟩
      have := q2 H2 (Same.refl _)
      by_cases c : i = j
      · subst c
        rw [decide_eq_true rfl]
        rwa [show sameD (.int i) (.int i) = true from decide_eq_true rfl] at this
      · rw [decide_eq_false fun z => c (V.int.inj z)]
        exact no (decide_eq_false c)
    | bl b => exact iteBT (ib_bool_int b) ⟨_, rfl, _, _, "bool", rfl, .bl b, .inr (.inl rfl), _, rfl, _, rfl, iteBF (by rw [ib_bool_bool]; rfl) (no rfl)⟩
    | non => exact iteBF ib_none_int (no rfl)
    | str _ => exact iteBF (ib_str_int _) (no rfl)
    | lst _ _ => exact iteBF (ib_list_int _) (no rfl)
    | tup _ _ => exact iteBF (ib_tuple_int _) (no rfl)
  · refine iteBF (by rw [ib_str_list, ib_str_tuple]; rfl) ⟨_, rfl, rfl, _, rfl, iteDF (by intro z; cases z) ⟨_, rfl, _, true, .str j, rfl, _, rfl, iteDF (by intro z; cases z) ⟨_, rfl, _, false, .str j, rfl, _, rfl, iteDF (by intro z; cases z) ?_⟩⟩⟩
    refine ⟨_, rfl, _, _, "str", rfl, .str j, ok_str, _, rfl, iteBT (ib_str_str j) ⟨_, rfl, v, d, "str", rfl, hd2, ok_str, _, rfl, ?_⟩⟩
    cases hd with
    | str i =>
      refine iteBT (ib_str_str i) ⟨_, rfl, _, rfl, rfl, ?_⟩
      have := q2 H2 (Same.refl _)
      by_cases c : i = j
      · subst c
        rw [decide_eq_true rfl]
        rwa [show sameD (.str i) (.str i) = true from decide_eq_true rfl] at this
      · rw [decide_eq_false fun z => c (V.str.inj z)]
        exact no (decide_eq_false c)
    | bl b => exact iteBF (ib_bool_str b) (no rfl)
    | non => exact iteBF ib_none_str (no rfl)
    | int _ => exact iteBF (ib_int_str _) (no rfl)
    | lst _ _ => exact iteBF (ib_list_str _) (no rfl)
    | tup _ _ => exact iteBF (ib_tuple_str _) (no rfl)
  · have i3 : instB (sqD t es) "tuple" = t := by cases t <;> first | exact ib_list_tuple es | exact ib_tuple_tuple es
    have i4 : instB (sqD t es) "list" = !t := by cases t <;> first | exact ib_list_list es | exact ib_tuple_list es
    refine iteBT (by rw [i3, i4]; cases t <;> rfl) ?_
    refine or_and4 (!t) (instB d "list") t (instB d "tuple") (fun R r => ⟨_, rfl, _, _, "list", rfl, he2, ok_list, _, rfl, by rw [i4]; exact r⟩) (fun R r => ⟨_, rfl, _, _, "list", rfl, hd2, ok_list, _, rfl, r⟩) (fun R r => ⟨_, rfl, _, _, "tuple", rfl, he2, ok_tuple, _, rfl, by rw [i3]; exact r⟩) (fun R r => ⟨_, rfl, _, _, "tuple", rfl, hd2, ok_tuple, _, rfl, r⟩) (ite2 (fun c => ?_) (fun c => ?_))
    · exact no (sq_ne hd c)
    obtain ⟨a, xs, ds, rfl, ha, dxs, rfl⟩ := same_sq hd c
    have hb' : G b = some (if t then HO.tup ys else HO.lst ys) := by
      cases t with
      | true => exact hbt rfl
      | false => exact hbl rfl
    have sq : ∀ {p : Addr} {zs : List V} {H' : Hp}, Same G H' → G p = some (if t then HO.tup zs else HO.lst zs) → SqL K H' p zs ∨ SqT K H' p zs := fun {p zs H'} g h => by
      cases t with
      | true => exact .inr (.of (g _ _ h))
      | false => exact .inl (.of (g _ _ h))
    have lv : ∀ {p : Addr} {zs : List V} {H' : Hp}, Same G H' → G p = some (if t then HO.tup zs else HO.lst zs) → LenV K (.ref p) H' zs.length := fun {p zs H'} g h => (sq g h).imp (fun z => ⟨_, z, rfl⟩) fun z => ⟨_, z, rfl⟩
    have lx := dxs.length
    have ly := dys.length
    have zl := szL_len es
    have ze := sqD_sz t es
    refine ⟨_, rfl, .ref a, xs.length, rfl, lv gh ha, _, rfl, .ref b, ys.length, rfl, lv gh hb', _, _, rfl, rfl, _, rfl, ite2 (fun c => ?_) (fun c => ?_)⟩
    · have c : ((xs.length : Nat) : Int) = ((ys.length : Nat) : Int) := dec_of c
      refine ⟨_, rfl, .ref b, ys.length, rfl, lv gh hb', _, rfl, by omega, by omega, fun l hl => ?_⟩
      refine lc_range (lo := 0) (n := ys.length) (fun i H' => Same H2 H' ∧ H2 l = none ∧ H' l = some (.lst (((List.range i).map (eqAt ds es)).map V.bl))) ⟨New.same (o := .lst []) ⟨hl, rfl⟩, hl, upd_same⟩ ?_ ?_
      · rintro i H3 hi ⟨g3, fl, h3⟩
        have gG := gh.trans g3
        obtain ⟨x, hx⟩ : ∃ x, xs[i]? = some x := ⟨_, List.getElem?_eq_getElem (by omega)⟩
        obtain ⟨y, hy⟩ : ∃ y, ys[i]? = some y := ⟨_, List.getElem?_eq_getElem (by omega)⟩
        obtain ⟨d1, hd1, dd1⟩ := dxs.get hx
        obtain ⟨e1, he1, de1⟩ := dys.get hy
        have z1 := szL_get he1
        have dp := depth_get he1
        have dq := sq_depth dk
        have ei : eqAt ds es i = sameD d1 e1 := by unfold eqAt; rw [List.getD_eq_getElem?_getD, List.getD_eq_getElem?_getD, hd1, he1]; rfl
        refine ⟨rfl, yesT ⟨_, rfl, _, rfl, ?_⟩⟩
        have ix : ∀ {p : Addr} {zs : List V} {z : V} {H' : Hp} {R : VK}, Same G H' → G p = some (if t then HO.tup zs else HO.lst zs) → zs[i]? = some z → R z H' → rIx K (.ref p) (.int (0 + (i : Int))) H' R := fun {p zs z H' R} g h at_ r => by
          rw [Int.zero_add]
          rcases sq g h with h | h
          · exact .inl ⟨p, zs, _, z, rfl, rfl, h, atI_nat at_, r⟩
          · exact .inr (.inl ⟨p, zs, _, z, rfl, rfl, h, atI_nat at_, r⟩)
        refine ix gG ha hx ⟨_, rfl, _, rfl, ix gG hb' hy ⟨G, x, y, d1, e1, rfl, gG, dd1, de1, by omega, by omega, fun H4 s4 => ⟨_, s4 _ _ h3, ?_, ?_, fl, ?_⟩⟩⟩
        · rw [List.length_map, List.length_map, List.length_range]
          exact lt (by omega)
        · intro p o hp
          rw [upd_ne fun z => by rw [z, fl] at hp; cases hp]
          exact s4 _ _ (g3 _ _ hp)
        · rw [upd_same, List.range_succ, List.map_append, List.map_append]
          show _ = some (HO.lst (_ ++ [V.bl (eqAt ds es i)]))
          rw [ei]
      · rintro H3 ⟨g3, fl, h3⟩
        refine ⟨l, _, rfl, .of h3, ?_⟩
        have := q2 H3 g3
        have e : sameD (sqD t ds) (sqD t es) = sameL ds es := by cases t <;> rfl
        rw [e, sameL_at (by omega), ← ly] at this
        exact this
    · have c : ¬ ((xs.length : Nat) : Int) = ((ys.length : Nat) : Int) := dec_not c
      refine no ?_
      have e : sameD (sqD t ds) (sqD t es) = sameL ds es := by cases t <;> rfl
      rw [e]
      exact sameL_len (by omega)
theorem ok_alike_h (Z : Zs mg) (D : Ds K mg) : ∀ k, CalE P w K mg base "_law_alike" k ["one", "two"] (fun _ => spAlike k)
  | 0 => no_levelE D.d_law_alike fun p vs H Q E h => by
    obtain ⟨G, v, w, d, e, _, _, _, _, h0, _⟩ := h
    omega
  | k + 1 => ok_alike_h_step Z D k (ok_alike_h Z D k)


theorem rowJ_good {n : Int} {xs : List V} {rs : List Int} {DP DT : Addr} {E : XK} {H : Hp} {good : List Int → Prop} (inr : ∀ r ∈ rs, inR n r) (lr : rs.length ≤ 24) (q : good rs) : RowJ n xs (rs.map PyData.int) DP DT E H good := by
  refine ⟨fun h => ?_, fun _ i v h _ => ?_, fun _ ss e _ => ?_⟩
  · rw [List.length_map] at h
    omega
  · obtain ⟨⟨d, hd, no⟩, -⟩ := h
    obtain ⟨r, hr, rfl⟩ := List.mem_map.mp (List.mem_of_getElem? hd)
    rw [yes_point (inr r hr)] at no
    cases no
  · have := congrArg intsOf e
    rw [intsOf_map, intsOf_map] at this
    rw [← this]
    exact q
theorem if_sq {t : Bool} {ds : List PyData} : (if t then PyData.tuple ds else .list ds) = sqD t ds := by cases t <;> rfl
theorem hasS_if {K : PySem.W.Frag} {H : Hp} {p : Addr} {t : Bool} {xs : List V} (h : H p = some (if t then HO.tup xs else HO.lst xs)) : HasS K H p xs := by
  cases t with
  | true => exact .inl (.inr h)
  | false => exact .inl (.inl h)
theorem depth_rows (L : List (List Int)) : PyData.depth (.list (L.map rowD)) ≤ 2 := by
  have := depthAll_of (k := 1) (ds := L.map rowD) fun d hd => by
    obtain ⟨w, hw, rfl⟩ := List.mem_map.mp hd
    have := depthAll_of (k := 0) (ds := w.map PyData.int) fun d hd => by
      obtain ⟨i, hi, rfl⟩ := List.mem_map.mp hd
      exact Nat.le_refl _
    show PyData.depthAll (w.map PyData.int) + 1 ≤ 1
    omega
  show PyData.depthAll (L.map rowD) + 1 ≤ 2
  omega
theorem holdL_sub {rs : List Int} {L : List (List Int)} {w : List Int} (h : w ∈ holdL rs L) : w ∈ L := (List.mem_filter.mp h).1
theorem holdL_len {rs : List Int} {L : List (List Int)} : (holdL rs L).length ≤ L.length := List.length_filter_le _ _
theorem one_same {d : PyData} (h : sameD d d = true) : sameD (.list [d]) (.list [d]) = true := by
  show (sameD d d && true) = true
  rw [h]
  rfl
theorem BadRow.depth {G : Hp} {n : Int} {p : Addr} {t : Bool} {xs : List V} {ds : List PyData} {due : PyData} (b : BadRow G n p t xs ds due) : PyData.depth due ≤ 6 ∧ szD due ≤ 1000 ∧ sameD due due = true := by
  rcases b.due with ⟨-, rfl⟩ | ⟨-, i, v, d, hv, -, hd, rfl⟩
  · exact ⟨by decide, by decide, by decide⟩
  · obtain ⟨sh, sz⟩ := b.sh d (List.mem_of_getElem? hd)
    obtain ⟨d', hd', da⟩ := b.da.get hv
    obtain rfl : d' = d := Option.some.inj (hd'.symm.trans hd)
    have := sh.dp
    refine ⟨?_, ?_, ?_⟩
    · show max 0 (max (PyData.depth d') 0) + 1 ≤ 6
      omega
    · have e : szD (.str "NotAPoint") = 10 := by decide
      show 1 + (szD (.str "NotAPoint") + (szD d' + 0)) ≤ 1000
      omega
    · show (sameD (.str "NotAPoint") (.str "NotAPoint") && (sameD d' d' && true)) = true
      rw [sameD_self _ _ da]
      decide


theorem made_world {CW DB DN DT : Addr} {G H : Hp} {R : VK} {n : Int} {a x dx' : Addr} {xs : List V} {T L : List (List Int)} (gh : Same G H) (hl : HasS K H a xs) (dT : DaAll G xs (T.map rowD)) (ok : WOk n T L) (fx : H x = none) (fd : H dx' = none) (ne : dx' ≠ x)
    (q : ∀ (G' H' : Hp), Stq G H G' H' → WAt CW G' x n T L → R .non H') : spInit K CW DB DN DT (.ref x :: ([.int n, .ref a] ++ [])) (upd (upd H dx' (.own x)) x (.ins CW dx' [])) R E0 := by
  have n1 : New H dx' (.own x) (upd H dx' (.own x)) := ⟨fd, rfl⟩
  have fx1 : (upd H dx' (.own x)) x = none := by rw [upd_ne (Ne.symm ne)]; exact fx
  have n2 : New (upd H dx' (.own x)) x (.ins CW dx' []) (upd (upd H dx' (.own x)) x (.ins CW dx' [])) := ⟨fx1, rfl⟩
  obtain ⟨s1, -, -, -⟩ := (Stq.refl gh).loc2 n1
  obtain ⟨s2, gx, hx, -⟩ := s1.loc2 n2
  have sz := sz_rows ok.n12 ok.mv
  have lT := ok.lT
  refine ⟨G, x, dx', .int n, .int n, a, xs, _, rfl, s2.gh, gx, hx, .int n, (hl.imp (fun h => h.imp (s2.hh _ _) (s2.hh _ _)) id), dT, by omega, judge_good ok.n0 ok.n12 ok.mv lT ⟨fun G' H' P ml tl ms ts M gx' hx' hm dM ht dt w => ?_, fun h => absurd (h L fun w hw => (ok.grp.mem w).mpr hw) (by have := ok.lL; omega)⟩⟩
  have S := s2.stp P fx
  obtain ⟨G2, S2, g2, kx, -⟩ := S.frz gx' fx hx'
  have e : M = L := w.grp.uniq ok.grp
  subst e
  exact q G2 H' S2 ⟨dx', ml, tl, ms, ts, kx, g2 _ _ hm, dM.up g2, g2 _ _ ht, dt.up g2⟩


/-- a drawn world's list, known -/
def Frz (G : Hp) (p : Addr) (n : Int) (T L : List (List Int)) : Prop := ∃ (k m : Addr) (ks ms : List V), G p = some (.lst [.int n, .ref k, .ref m]) ∧ G k = some (.lst ks) ∧ G m = some (.lst ms) ∧ DaAll G ks (T.map rowD) ∧ DaAll G ms (L.map rowD) ∧ WOk n T L
theorem Frz.up {G G' : Hp} {p : Addr} {n : Int} {T L : List (List Int)} (f : Frz G p n T L) (g : Same G G') : Frz G' p n T L := by
  obtain ⟨k, m, ks, ms, h1, h2, h3, h4, h5, h6⟩ := f
  exact ⟨k, m, ks, ms, g _ _ h1, g _ _ h2, g _ _ h3, h4.up g, h5.up g, h6⟩
theorem rows_no_int {G : Hp} {n : Int} {vs : List V} : ∀ {T : List (List Int)}, ¬ DaAll G (V.int n :: vs) (T.map rowD)
  | [], h => by cases h
  | t :: T, h => by
    cases h with
    | cons a b => cases a
theorem Arn.frz {S : Sr} {G H H' : Hp} {p : Addr} {n : Int} {T L : List (List Int)} (a : Arn S G H p n T L H') : ∃ G', Go S G H G' H' ∧ Frz G' p n T L := by
  obtain ⟨G1, k, m, ks, ms, s1, gp, gk, gm, fp, fk, fm, nkm, hp, hk, hm, dT, dL, mv, n0, n12, lT, grp, lL⟩ := a
  have nkp : k ≠ p := fun z => by
    rw [z, hp] at hk
    injection hk with e
    injection e with e
    rw [← e] at dT
    exact rows_no_int dT
  have nmp : m ≠ p := fun z => by
    rw [z, hp] at hm
    injection hm with e
    injection e with e
    rw [← e] at dL
    exact rows_no_int dL
  obtain ⟨G2, s2, g2, k2, o2⟩ := s1.frz gp fp hp
  obtain ⟨G3, s3, g3, k3, o3⟩ := s2.frz (by rw [o2 k nkp]; exact gk) fk hk
  obtain ⟨G4, s4, g4, k4, o4⟩ := s3.frz (by rw [o3 m (Ne.symm nkm), o2 m nmp]; exact gm) fm hm
  exact ⟨G4, s4, k, m, ks, ms, g4 _ _ (g3 _ _ k2), g4 _ _ k3, k4, ((dT.up g2).up g3).up g4, ((dL.up g2).up g3).up g4, n0, n12, mv, lT, lL, grp⟩
theorem holdL_congr {rs ss : List Int} {L : List (List Int)} (h : ∀ x, x ∈ rs ↔ x ∈ ss) : holdL rs L = holdL ss L := by
  refine List.filter_congr fun w _ => ?_
  unfold holdB
  exact decide_eq_decide.mpr ⟨fun e => aft_self.mpr fun r hr => aft_self.mp e r ((h r).mpr hr), fun e => aft_self.mpr fun r hr => aft_self.mp e r ((h r).mp hr)⟩
theorem holdL_app {rs ss : List Int} {L : List (List Int)} : holdL (rs ++ ss) L = holdL rs (holdL ss L) := by
  unfold holdL
  rw [List.filter_filter]
  refine List.filter_congr fun w _ => ?_
  unfold holdB
  have : aft (rs ++ ss) w = rs ++ ss ↔ aft rs w = rs ∧ aft ss w = ss := by
    rw [aft_self, aft_self, aft_self]
    exact ⟨fun h => ⟨fun r hr => h r (List.mem_append_left _ hr), fun r hr => h r (List.mem_append_right _ hr)⟩, fun h r hr => (List.mem_append.mp hr).elim (h.1 r) (h.2 r)⟩
  rw [← Bool.decide_and]
  exact decide_eq_decide.mpr this
theorem rep_len {α : Type} (l : List α) : ∀ k : Nat, ((List.replicate k l).flatten).length = k * l.length
  | 0 => by rw [Nat.zero_mul]; rfl
  | k + 1 => by
    rw [List.replicate_succ, List.flatten_cons, List.length_append, rep_len l k, Nat.succ_mul]
    omega
theorem rep_map (l : List Int) : ∀ k : Nat, (List.replicate k (l.map V.int)).flatten = ((List.replicate k l).flatten).map V.int
  | 0 => rfl
  | k + 1 => by
    rw [List.replicate_succ, List.flatten_cons, rep_map l k, List.replicate_succ, List.flatten_cons, List.map_append]
theorem swap_ok : WOk 2 [[1, 0]] [[0, 1], [1, 0]] := by
  have mv : AllMv 2 [[1, 0]] := fun m hm => by
    rw [List.mem_singleton.mp hm]
    show List.Perm [1, 0] [0, 1]
    exact .swap _ _ _
  refine ⟨by decide, by decide, mv, by decide, by decide, ?_, fun w => ⟨fun h => ?_, fun h => rch_all (K := [[0, 1], [1, 0]]) (by decide) (by decide) h⟩⟩
  · unfold Asc
    decide
  · rcases List.mem_cons.mp h with rfl | h
    · exact .base
    · rw [List.mem_singleton.mp h]
      exact made_told mv (by decide)


theorem cr_allK {X : Cx} {K : PySem.W.Frag} (hk : X.K = K) (hc : X.calm = true) : CallR X (.builtin "all") (rAll K) := hk ▸ cr_all hc
def hAll (T : List (List Int)) (j : Nat) : Bool := T.all fun w => decide (stp w j = j)
def spHeldAll (K : PySem.W.Frag) : Sp := fun vs H Q _ => ∃ (G : Hp) (a : Addr) (n : Int) (xs : List V) (T : List (List Int)), vs = [.int n, .ref a] ∧ Same G H ∧ 0 ≤ n ∧ n ≤ 12 ∧ HasS K H a xs ∧ DaAll G xs (T.map rowD) ∧ AllMv n T ∧ T.length ≤ 1000 ∧
  ∀ (p : Addr) (G' H' : Hp), Stq G H G' H' → G' p = some (.tup ((pts (hAll T) n.toNat).map V.int)) → Q (.ref p) H'
theorem ok_held_all (Z : Zs mg) (D : Ds K mg) : Cal P w K mg base "held_by_all" 1 ["points", "moves"] (spHeldAll K) := by
  refine Def.cal D.d_held_by_all sc_held_by_all (fun vs H Q E h => ?_) (fun f cdv A outer s H vs Q E hr h => ?_)
  · obtain ⟨G, a, n, xs, T, rfl, gh, n0, n12, hl, dx, mvT, lT, q⟩ := h
    rfl
  obtain ⟨G, a, n, xs, T, rfl, gh, n0, n12, hl, dx, mvT, lT, q⟩ := h
  refine ⟨_, (pss_one (ps_ret (pe_callTy call_tupleN (by rfl) Z.z_tuple (by decide +kernel) (pa_cons (pe_lc (own := [("point", 2)]) (g := gName 2) (by rfl) sc_held_by_all.nd (pi_range1 (by rfl) Z.z_range (pa_cons (pv 0) pa_nil)) (blkOk_by (N := ["points", "moves", "point", "move"]) (sc := defScope s_held_by_all) (by decide +kernel)) (fun _ _ _ _ _ => pg_name (i := 2) sc_held_by_all.nd rfl (Or.inr rfl)) (fun _ _ _ _ _ => pts_one (pt_val (pe_callB (cr_allK (K := K) rfl rfl) (by rfl) Z.z_all (by decide +kernel) (pa_cons (pe_lc (own := [("move", 3)]) (g := gName 3) (tt := tYes) (by rfl) sc_held_by_all.nd (pi_or (pi_listK (K := K) rfl (pv 1)) (pi_tupK (K := K) rfl (pv 1))) (blkOk_in (N := ["points", "moves", "point", "move"]) (by decide +kernel)) (fun _ _ _ _ _ => pg_name (i := 3) sc_held_by_all.nd rfl (Or.inl rfl)) (fun _ _ _ _ _ => pts_nil) (fun _ _ _ _ _ => (pe_cmp (pc_eqI (pe_ix (ix_tupK (K := K) rfl) (pv 3) (pv 2) (fun _ _ => rfl)) (pv 2)) (nomark _)))) pa_nil)))) (fun _ _ _ _ _ => (pv 2))) pa_nil)))), ?_⟩
  have lx := dx.length
  rw [List.length_map] at lx
  refine ⟨_, rfl, _, rfl, by omega, by omega, fun l hll => ?_⟩
  refine lc_range (lo := 0) (n := n.toNat) (fun i H' => Stq G H G H' ∧ G l = none ∧ H l = none ∧ H' l = some (.lst ((pts (hAll T) i).map V.int))) ?_ ?_ ?_
  · obtain ⟨s2, gl, h2, fl⟩ := (Stq.refl gh).loc2 (p := l) (o := .lst []) ⟨hll, rfl⟩
    exact ⟨s2, gl, fl, h2⟩
  · rintro i H2 hi ⟨s2, gl, fl, h2⟩
    rw [Int.zero_add]
    have ir : inR n (i : Int) := ⟨by omega, by omega⟩
    rcases HasS.up s2.hh hl with (hb | hb) | hb
    · refine ⟨rfl, .inl ⟨_, rfl, a, rfl, ⟨_, .of (hb)⟩, fun z hz => ?_⟩⟩
      refine lc_list (xs := xs) (fun j H' => Same H2 H' ∧ H2 z = none ∧ H' z = some (.lst (((T.take j).map fun w => decide (stp w (i : Int) = i)).map V.bl))) ?_ ?_ ?_ ?_
      · exact ⟨New.same (o := .lst []) ⟨hz, rfl⟩, hz, upd_same⟩
      · rintro j H' - ⟨s3, -⟩
        exact .of (s3 _ _ hb)
      · rintro j x H3 hx ⟨s3, fz, hz3⟩
        obtain ⟨e, he, de⟩ := dx.get hx
        rw [List.getElem?_map] at he
        obtain ⟨w, hw, rfl⟩ := Option.map_eq_some_iff.mp he
        obtain ⟨c, rfl, hc⟩ := rows_ref de
        have mv := mvT w (List.mem_of_getElem? hw)
        have jlt := (List.getElem?_eq_some_iff.mp hw).1
        obtain ⟨y, e1, e2, -⟩ := atI_ints (ns := w) ir.1 (by have := mv.len; have := ir.2; omega)
        have ez : y = stp w (i : Int) := Option.some.inj (e1.symm.trans (stp_at mv ir).1)
        subst ez
        refine ⟨rfl, _, rfl, _, rfl, c, _, _, _, rfl, rfl, .of (s3 _ _ (s2.gh _ _ (s2.gg _ _ hc))), e2, _, rfl, _, _, rfl, rfl, _, hz3, ?_, fun b o h => ?_, fz, ?_⟩
        · rw [List.length_map, List.length_map]
          exact Hd.lt (Nat.lt_of_le_of_lt (List.length_take_le _ _) (by omega))
        · rw [upd_ne (ne_of_none h fz)]
          exact s3 _ _ h
        · rw [upd_same, List.take_add_one, hw, List.map_append, List.map_append]
          rfl
      · rintro H3 ⟨s3, fz, hz3⟩
        rw [lx, List.take_length] at hz3
        have eqv : (T.map fun w => decide (stp w (i : Int) = i)).all id = hAll T i := by
          rw [List.all_map]
          rfl
        have S3 := s2.pure s3
        have h3 := s3 _ _ h2
        refine ⟨z, T.map fun w => decide (stp w (i : Int) = i), rfl, .of hz3, _, rfl, ite2 (fun c1 => ?_) (fun c1 => ?_)⟩
        · refine ⟨_, rfl, _, h3, ?_, S3.mut gl fl rfl, gl, fl, ?_⟩
          · rw [List.length_map]
            exact Hd.lt (Nat.lt_of_le_of_lt (pts_len _ _) (by omega))
          · rw [upd_same, pts_step, show hAll T i = true from eqv.symm.trans c1, List.map_append]
            rfl
        · refine ⟨S3, gl, fl, ?_⟩
          rw [h3, pts_step, show hAll T i = false from eqv.symm.trans (Bool.eq_false_iff.mpr c1)]
          simp
    · refine ⟨rfl, .inr ⟨_, rfl, a, rfl, ⟨_, .of (hb)⟩, fun z hz => ?_⟩⟩
      refine lc_tup (xs := xs) (fun j H' => Same H2 H' ∧ H2 z = none ∧ H' z = some (.lst (((T.take j).map fun w => decide (stp w (i : Int) = i)).map V.bl))) ?_ ?_ ?_ ?_
      · exact ⟨New.same (o := .lst []) ⟨hz, rfl⟩, hz, upd_same⟩
      · rintro j H' - ⟨s3, -⟩
        exact .of (s3 _ _ hb)
      · rintro j x H3 hx ⟨s3, fz, hz3⟩
        obtain ⟨e, he, de⟩ := dx.get hx
        rw [List.getElem?_map] at he
        obtain ⟨w, hw, rfl⟩ := Option.map_eq_some_iff.mp he
        obtain ⟨c, rfl, hc⟩ := rows_ref de
        have mv := mvT w (List.mem_of_getElem? hw)
        have jlt := (List.getElem?_eq_some_iff.mp hw).1
        obtain ⟨y, e1, e2, -⟩ := atI_ints (ns := w) ir.1 (by have := mv.len; have := ir.2; omega)
        have ez : y = stp w (i : Int) := Option.some.inj (e1.symm.trans (stp_at mv ir).1)
        subst ez
        refine ⟨rfl, _, rfl, _, rfl, c, _, _, _, rfl, rfl, .of (s3 _ _ (s2.gh _ _ (s2.gg _ _ hc))), e2, _, rfl, _, _, rfl, rfl, _, hz3, ?_, fun b o h => ?_, fz, ?_⟩
        · rw [List.length_map, List.length_map]
          exact Hd.lt (Nat.lt_of_le_of_lt (List.length_take_le _ _) (by omega))
        · rw [upd_ne (ne_of_none h fz)]
          exact s3 _ _ h
        · rw [upd_same, List.take_add_one, hw, List.map_append, List.map_append]
          rfl
      · rintro H3 ⟨s3, fz, hz3⟩
        rw [lx, List.take_length] at hz3
        have eqv : (T.map fun w => decide (stp w (i : Int) = i)).all id = hAll T i := by
          rw [List.all_map]
          rfl
        have S3 := s2.pure s3
        have h3 := s3 _ _ h2
        refine ⟨z, T.map fun w => decide (stp w (i : Int) = i), rfl, .of hz3, _, rfl, ite2 (fun c1 => ?_) (fun c1 => ?_)⟩
        · refine ⟨_, rfl, _, h3, ?_, S3.mut gl fl rfl, gl, fl, ?_⟩
          · rw [List.length_map]
            exact Hd.lt (Nat.lt_of_le_of_lt (pts_len _ _) (by omega))
          · rw [upd_same, pts_step, show hAll T i = true from eqv.symm.trans c1, List.map_append]
            rfl
        · refine ⟨S3, gl, fl, ?_⟩
          rw [h3, pts_step, show hAll T i = false from eqv.symm.trans (Bool.eq_false_iff.mpr c1)]
          simp
    · refine ⟨rfl, .inr ⟨_, rfl, a, rfl, ⟨_, .inr hb⟩, fun z hz => ?_⟩⟩
      refine lc_tup (xs := xs) (fun j H' => Same H2 H' ∧ H2 z = none ∧ H' z = some (.lst (((T.take j).map fun w => decide (stp w (i : Int) = i)).map V.bl))) ?_ ?_ ?_ ?_
      · exact ⟨New.same (o := .lst []) ⟨hz, rfl⟩, hz, upd_same⟩
      · rintro j H' - ⟨s3, -⟩
        exact .inr hb
      · rintro j x H3 hx ⟨s3, fz, hz3⟩
        obtain ⟨e, he, de⟩ := dx.get hx
        rw [List.getElem?_map] at he
        obtain ⟨w, hw, rfl⟩ := Option.map_eq_some_iff.mp he
        obtain ⟨c, rfl, hc⟩ := rows_ref de
        have mv := mvT w (List.mem_of_getElem? hw)
        have jlt := (List.getElem?_eq_some_iff.mp hw).1
        obtain ⟨y, e1, e2, -⟩ := atI_ints (ns := w) ir.1 (by have := mv.len; have := ir.2; omega)
        have ez : y = stp w (i : Int) := Option.some.inj (e1.symm.trans (stp_at mv ir).1)
        subst ez
        refine ⟨rfl, _, rfl, _, rfl, c, _, _, _, rfl, rfl, .of (s3 _ _ (s2.gh _ _ (s2.gg _ _ hc))), e2, _, rfl, _, _, rfl, rfl, _, hz3, ?_, fun b o h => ?_, fz, ?_⟩
        · rw [List.length_map, List.length_map]
          exact Hd.lt (Nat.lt_of_le_of_lt (List.length_take_le _ _) (by omega))
        · rw [upd_ne (ne_of_none h fz)]
          exact s3 _ _ h
        · rw [upd_same, List.take_add_one, hw, List.map_append, List.map_append]
          rfl
      · rintro H3 ⟨s3, fz, hz3⟩
        rw [lx, List.take_length] at hz3
        have eqv : (T.map fun w => decide (stp w (i : Int) = i)).all id = hAll T i := by
          rw [List.all_map]
          rfl
        have S3 := s2.pure s3
        have h3 := s3 _ _ h2
        refine ⟨z, T.map fun w => decide (stp w (i : Int) = i), rfl, .of hz3, _, rfl, ite2 (fun c1 => ?_) (fun c1 => ?_)⟩
        · refine ⟨_, rfl, _, h3, ?_, S3.mut gl fl rfl, gl, fl, ?_⟩
          · rw [List.length_map]
            exact Hd.lt (Nat.lt_of_le_of_lt (pts_len _ _) (by omega))
          · rw [upd_same, pts_step, show hAll T i = true from eqv.symm.trans c1, List.map_append]
            rfl
        · refine ⟨S3, gl, fl, ?_⟩
          rw [h3, pts_step, show hAll T i = false from eqv.symm.trans (Bool.eq_false_iff.mpr c1)]
          simp
  · rintro H1 ⟨s1, gl, fl, h1⟩
    refine ⟨l, _, rfl, .of h1, fun p H2 n2 => ?_⟩
    obtain ⟨G2, s2, g2, k2, -⟩ := s1.know2 n2
    exact q p G2 H2 s2 k2


/-- a number of points, a list of moves: refused in this order, or the points that all of them hold -/
def CmJ (G H : Hp) (v : V) (dv : PyData) (ds : List PyData) (DB DN DT : Addr) (good : Int → List (List Int) → Prop) (E : XK) : Prop :=
  (isNum dv 0 12 = false → numErr E DB v H) ∧
  ∀ n : Int, dv = .int n → v = .int n → 0 ≤ n → n ≤ 12 → (400 < ds.length → Errs E DT [(("limit" : Str), .int 400), (("what" : Str), .str "list")] H) ∧ (ds.length ≤ 400 → ∀ i : Nat, badAt n ds i → Errs E DN [(("index" : Str), .int i)] H) ∧
    (ds.length ≤ 400 → ∀ T : List (List Int), ds = T.map rowD → AllMv n T → good n T)
def spCommon (K : PySem.W.Frag) (DB DN DT : Addr) : Sp := fun vs H Q E => ∃ (G : Hp) (v : V) (dv : PyData) (a : Addr) (xs : List V) (ds : List PyData), vs = [v, .ref a] ∧ Same G H ∧ Da G v dv ∧ HasS K H a xs ∧ DaAll G xs ds ∧ szL ds ≤ 900000 ∧
  CmJ G H v dv ds DB DN DT (fun n T => ∀ (p : Addr) (G' H' : Hp), Stq G H G' H' → G' p = some (.tup ((pts (hAll T) n.toNat).map V.int)) → Q (.ref p) H') E
theorem ok_common {DB DN DT : Addr} (Z : Zs mg) (D : Ds K mg) (c_check_points : CalX P w K mg base "check_points" 4 ["value"] (spCheckPts DB)) (c_check_moves : CalX P w K mg base "check_moves" 4 ["points", "moves", "what", "limit"] (spCheckMoves K DN DT)) (c_held_by_all : Cal P w K mg base "held_by_all" 1 ["points", "moves"] (spHeldAll K)) : CalX P w K mg base "common_held" 5 ["points", "moves"] (spCommon K DB DN DT) := by
  refine Def.calX D.d_common_held sc_common_held (fun vs H Q E h => ?_) (fun f cdv A outer s H vs Q E hr h => ?_)
  · obtain ⟨G, v, dv, a, xs, ds, rfl, gh, dd, hl, dx, sz, j1, j2⟩ := h
    rfl
  obtain ⟨G, v, dv, a, xs, ds, rfl, gh, dd, hl, dx, sz, j1, j2⟩ := h
  refine ⟨_, (pss_cons (ps_expr (pe_calX c_check_points (L2N.takes_of rfl rfl rfl rfl) (hr.mono (by first | decide | omega)) (by rfl) (pa_cons (pv 0) pa_nil)))
      (pss_cons (ps_expr (pe_calX c_check_moves (L2N.takes_of rfl rfl rfl rfl) (hr.mono (by first | decide | omega)) (by rfl) (pa_cons (pv 0) (pa_cons (pv 1) (pa_cons pe_str (pa_cons (pe_globI (by rfl) Z.c_MOST_LIST) pa_nil))))))
      (pss_one (ps_ret (pe_cal c_held_by_all (hr.mono (by first | decide | omega)) (by rfl) (pa_cons (pv 0) (pa_cons (pv 1) pa_nil))))))), ?_⟩
  refine ⟨_, rfl, v, dv, rfl, dd.up gh, fun e => ?_, j1⟩
  obtain ⟨n, rfl, n0, n12⟩ := num_int e
  have ev : v = .int n := by cases dd; rfl
  subst ev
  obtain ⟨k1, k2, k3⟩ := j2 n rfl rfl n0 n12
  refine ⟨_, rfl, _, rfl, G, a, xs, ds, n, "list", 400, rfl, gh, hl, dx, sz, fun c => k1 (by omega), fun c i b => k2 (by omega) i b, fun c all_ H1 s1 => ?_⟩
  obtain ⟨T, rfl, mvT⟩ := all_rows all_
  rw [List.length_map] at c
  have S1 := (Stq.refl gh).pure s1
  exact ⟨_, rfl, _, rfl, G, a, n, xs, T, rfl, S1.gh, n0, n12, HasS.up s1 hl, dx, mvT, by omega, fun p G2 H2 s2 h => k3 (by rw [List.length_map]; omega) T rfl mvT p G2 H2 (S1.trans s2) h⟩


/-- an exception at p, and what is due for it -/
def ErrIs (K : PySem.W.Frag) (mg : Str → Option Value) (G : Hp) (C : Addr) (fs : List (Str × V)) (due : PyData) : Prop := ∃ (k : Nat) (nm : Str), Es K mg k nm C ∧
  ((k = 0 ∧ ∃ (v : V) (dv : PyData) (lo hi : Int), PySem.W.findIn K (.ref C) "value" = some none ∧ PySem.W.findIn K (.ref C) "low" = some none ∧ PySem.W.findIn K (.ref C) "high" = some none ∧ fs.lookup ("value" : Str) = some v ∧ fs.lookup ("low" : Str) = some (.int lo) ∧ fs.lookup ("high" : Str) = some (.int hi) ∧ Da G v dv ∧ due = .tuple [.str "BadNumber", dv, .int lo, .int hi]) ∨
   (k = 1 ∧ ∃ (i : Int), PySem.W.findIn K (.ref C) "index" = some none ∧ fs.lookup ("index" : Str) = some (.int i) ∧ due = .tuple [.str "NotAMove", .int i]) ∨
   (k = 2 ∧ ∃ (what : Str) (lim : Int), PySem.W.findIn K (.ref C) "what" = some none ∧ PySem.W.findIn K (.ref C) "limit" = some none ∧ fs.lookup ("what" : Str) = some (.str what) ∧ fs.lookup ("limit" : Str) = some (.int lim) ∧ due = .tuple [.str "TooMany", .str what, .int lim]))
theorem ErrIs.up {G G' : Hp} {C : Addr} {fs : List (Str × V)} {due : PyData} (e : ErrIs K mg G C fs due) (g : Same G G') : ErrIs K mg G' C fs due := by
  obtain ⟨k, nm, es, h⟩ := e
  refine ⟨k, nm, es, h.imp (fun h => ?_) id⟩
  obtain ⟨e, v, dv, lo, hi, a, b, c, d, e1, f, h, i⟩ := h
  exact ⟨e, v, dv, lo, hi, a, b, c, d, e1, f, h.up g, i⟩
def spLawError (K : PySem.W.Frag) (mg : Str → Option Value) : SpH := fun p vs H Q _ => ∃ (G : Hp) (C d : Addr) (fs : List (Str × V)) (due : PyData), vs = [.ref p.1] ∧ Same G H ∧ ErrAt C d fs H p ∧ ErrIs K mg G C fs due ∧
  ∀ (r : Addr) (G' H' : Hp), Stq G H G' H' → Da G' (.ref r) (.list [due]) → Q (.ref r) H'
theorem ok_law_error_h (Z : Zs mg) (D : Ds K mg) : CalE P w K mg base "_law_error" 1 ["error"] (spLawError K mg) := by
  refine Def.calE D.d_law_error sc_law_error (fun p vs H Q E h => ?_) (fun f cdv A outer s H vs Q E p hot hr h => ?_)
  · obtain ⟨G, C, d, fs, due, rfl, gh, er, is, q⟩ := h
    rfl
  obtain ⟨G, C, d, fs, due, rfl, gh, er, is, q⟩ := h
  obtain ⟨k, nm, es, cases_⟩ := is
  have ec := es.ec
  obtain ⟨C_BadNumber, g_BadNumber, t_BadNumber⟩ := es.i_BadNumber
  obtain ⟨C_NotAMove, g_NotAMove, t_NotAMove⟩ := es.i_NotAMove
  obtain ⟨C_TooMany, g_TooMany, t_TooMany⟩ := es.i_TooMany
  obtain ⟨C_BadEdit, g_BadEdit, t_BadEdit⟩ := es.i_BadEdit
  obtain ⟨C_BadText, g_BadText, t_BadText⟩ := es.i_BadText
  obtain ⟨C_FullLot, g_FullLot, t_FullLot⟩ := es.i_FullLot
  obtain ⟨C_GameOver, g_GameOver, t_GameOver⟩ := es.i_GameOver
  obtain ⟨C_NoSuchLength, g_NoSuchLength, t_NoSuchLength⟩ := es.i_NoSuchLength
  obtain ⟨C_NotABase, g_NotABase, t_NotABase⟩ := es.i_NotABase
  obtain ⟨C_NotAChain, g_NotAChain, t_NotAChain⟩ := es.i_NotAChain
  obtain ⟨C_NotAColumn, g_NotAColumn, t_NotAColumn⟩ := es.i_NotAColumn
  obtain ⟨C_NotACount, g_NotACount, t_NotACount⟩ := es.i_NotACount
  obtain ⟨C_NotAFailing, g_NotAFailing, t_NotAFailing⟩ := es.i_NotAFailing
  obtain ⟨C_NotAPaper, g_NotAPaper, t_NotAPaper⟩ := es.i_NotAPaper
  obtain ⟨C_NotAPoint, g_NotAPoint, t_NotAPoint⟩ := es.i_NotAPoint
  obtain ⟨C_NotAWord, g_NotAWord, t_NotAWord⟩ := es.i_NotAWord
  obtain ⟨C_NotAllowed, g_NotAllowed, t_NotAllowed⟩ := es.i_NotAllowed
  obtain ⟨C_NotAnOrder, g_NotAnOrder, t_NotAnOrder⟩ := es.i_NotAnOrder
  obtain ⟨C_NotFull, g_NotFull, t_NotFull⟩ := es.i_NotFull
  obtain ⟨C_NotInside, g_NotInside, t_NotInside⟩ := es.i_NotInside
  obtain ⟨C_NotMade, g_NotMade, t_NotMade⟩ := es.i_NotMade
  obtain ⟨C_NotNeighbours, g_NotNeighbours, t_NotNeighbours⟩ := es.i_NotNeighbours
  obtain ⟨C_NotShorter, g_NotShorter, t_NotShorter⟩ := es.i_NotShorter
  obtain ⟨C_NotTight, g_NotTight, t_NotTight⟩ := es.i_NotTight
  obtain ⟨C_NothingKept, g_NothingKept, t_NothingKept⟩ := es.i_NothingKept
  obtain ⟨C_NothingToRedo, g_NothingToRedo, t_NothingToRedo⟩ := es.i_NothingToRedo
  obtain ⟨C_NothingToUndo, g_NothingToUndo, t_NothingToUndo⟩ := es.i_NothingToUndo
  obtain ⟨C_OrderMatters, g_OrderMatters, t_OrderMatters⟩ := es.i_OrderMatters
  obtain ⟨C_RepeatedPoint, g_RepeatedPoint, t_RepeatedPoint⟩ := es.i_RepeatedPoint
  obtain ⟨C_SameLength, g_SameLength, t_SameLength⟩ := es.i_SameLength
  obtain ⟨C_UnknownName, g_UnknownName, t_UnknownName⟩ := es.i_UnknownName
  obtain ⟨C_UnlikeSizes, g_UnlikeSizes, t_UnlikeSizes⟩ := es.i_UnlikeSizes
  refine ⟨_, (pss_cons (ps_set (i := 1) sc_law_error.nd rfl (Or.inl rfl) (pe_lstN pa_nil))
      (pss_cons (ps_if (pt_val (pe_callB (call_isErr (d := d) ec List.mem_cons_self) (by rfl) Z.z_isinstance (by decide +kernel) (pa_cons (pv 0) (pa_cons (pe_cls (by rfl) g_BadNumber) pa_nil)))) (pss_one (ps_expr (pe_bm PySem.F.plainAttrs_list PySem.F.slot_list_append PySem.F.type_list_append mt_appendN (pv 1) (pa_cons (pe_tupN (pa_cons pe_str (pa_cons (pe_errG (d := d) ec List.mem_cons_self (pv 0)) (pa_cons (pe_errG (d := d) ec List.mem_cons_self (pv 0)) (pa_cons (pe_errG (d := d) ec List.mem_cons_self (pv 0)) pa_nil))))) pa_nil)))) pss_nil)
      (pss_cons (ps_if (pt_val (pe_callB (call_isErr (d := d) ec List.mem_cons_self) (by rfl) Z.z_isinstance (by decide +kernel) (pa_cons (pv 0) (pa_cons (pe_cls (by rfl) g_NotAMove) pa_nil)))) (pss_one (ps_expr (pe_bm PySem.F.plainAttrs_list PySem.F.slot_list_append PySem.F.type_list_append mt_appendN (pv 1) (pa_cons (pe_tupN (pa_cons pe_str (pa_cons (pe_errG (d := d) ec List.mem_cons_self (pv 0)) pa_nil))) pa_nil)))) pss_nil)
      (pss_cons (ps_if (pt_val (pe_callB (call_isErr (d := d) ec List.mem_cons_self) (by rfl) Z.z_isinstance (by decide +kernel) (pa_cons (pv 0) (pa_cons (pe_cls (by rfl) g_TooMany) pa_nil)))) (pss_one (ps_expr (pe_bm PySem.F.plainAttrs_list PySem.F.slot_list_append PySem.F.type_list_append mt_appendN (pv 1) (pa_cons (pe_tupN (pa_cons pe_str (pa_cons (pe_errG (d := d) ec List.mem_cons_self (pv 0)) (pa_cons (pe_errG (d := d) ec List.mem_cons_self (pv 0)) pa_nil)))) pa_nil)))) pss_nil)
      (pss_cons (ps_if (pt_val (pe_callB (call_isErrT (d := d) ec List.mem_cons_self) (by rfl) Z.z_isinstance (by decide +kernel) (pa_cons (pv 0) (pa_cons (pe_tupN (pa_cons (pe_cls (by rfl) g_BadEdit) (pa_cons (pe_cls (by rfl) g_BadText) (pa_cons (pe_cls (by rfl) g_FullLot) (pa_cons (pe_cls (by rfl) g_GameOver) (pa_cons (pe_cls (by rfl) g_NoSuchLength) (pa_cons (pe_cls (by rfl) g_NotABase) (pa_cons (pe_cls (by rfl) g_NotAChain) (pa_cons (pe_cls (by rfl) g_NotAColumn) (pa_cons (pe_cls (by rfl) g_NotACount) (pa_cons (pe_cls (by rfl) g_NotAFailing) (pa_cons (pe_cls (by rfl) g_NotAPaper) (pa_cons (pe_cls (by rfl) g_NotAPoint) (pa_cons (pe_cls (by rfl) g_NotAWord) (pa_cons (pe_cls (by rfl) g_NotAllowed) (pa_cons (pe_cls (by rfl) g_NotAnOrder) (pa_cons (pe_cls (by rfl) g_NotFull) (pa_cons (pe_cls (by rfl) g_NotInside) (pa_cons (pe_cls (by rfl) g_NotMade) (pa_cons (pe_cls (by rfl) g_NotNeighbours) (pa_cons (pe_cls (by rfl) g_NotShorter) (pa_cons (pe_cls (by rfl) g_NotTight) (pa_cons (pe_cls (by rfl) g_NothingKept) (pa_cons (pe_cls (by rfl) g_NothingToRedo) (pa_cons (pe_cls (by rfl) g_NothingToUndo) (pa_cons (pe_cls (by rfl) g_OrderMatters) (pa_cons (pe_cls (by rfl) g_RepeatedPoint) (pa_cons (pe_cls (by rfl) g_SameLength) (pa_cons (pe_cls (by rfl) g_UnknownName) (pa_cons (pe_cls (by rfl) g_UnlikeSizes) pa_nil)))))))))))))))))))))))))))))) pa_nil)))) (pss_one (ps_expr (pe_bm PySem.F.plainAttrs_list PySem.F.slot_list_append PySem.F.type_list_append mt_appendN (pv 1) (pa_cons (pe_tupN (pa_cons pe_str pa_nil)) pa_nil)))) pss_nil)
      (pss_one (ps_ret (pv 1)))))))), ?_⟩
  refine ⟨by show 0 ≤ sizeLine; decide, fun l H1 n1 => ?_⟩
  obtain ⟨s1, gl, hl, fl⟩ := (Stq.refl gh).loc2 n1
  have er1 := er.same n1.same
  have tail : ∀ {G2 H2 : Hp} {xs : List V}, Stq G H G2 H2 → G2 l = none → H2 l = some (.lst xs) → DaAll G2 xs [due] → Q (.ref l) H2 := fun {G2 H2 xs} s g h dx => by
    obtain ⟨G3, s3, g3, k3, -⟩ := s.frz g fl h
    exact q l G3 H2 s3 (.lst k3 (dx.up g3))
  rcases cases_ with ⟨rfl, v, dv, lo, hi, nf1, nf2, nf3, l1, l2, l3, hv, rfl⟩ | ⟨rfl, ix, nf1, l1, rfl⟩ | ⟨rfl, what, lim, nf1, nf2, l1, l2, rfl⟩
  · refine ⟨_, rfl, .ref C_BadNumber, .ref C_BadNumber, _, fs, rfl, fun u r => r, t_BadNumber, er1, _, rfl, iteBT rfl ⟨_, rfl, .inl ⟨rfl, _, .of hl⟩, _, rfl, rfl, nf1, fs, v, er1, l1, _, rfl, rfl, nf2, fs, _, er1, l2, _, rfl, rfl, nf3, fs, _, er1, l3, by show 4 ≤ sizeLine; decide, fun t H2 n2 => ⟨l, _, _, rfl, rfl, n2.else hl, by show 0 < sizeLine; decide, fun H3 e3 => ?_⟩⟩⟩
    obtain ⟨G2, s2, g2, k2, o2⟩ := s1.know2 n2
    have gl2 : G2 l = none := by rw [o2 l (n2.ne (ne_none hl))]; exact gl
    have s3 := s2.mut gl2 fl e3
    have er3 := er.same s3.hh
    refine ⟨_, rfl, .ref C_NotAMove, .ref C_NotAMove, _, fs, rfl, fun u r => r, t_NotAMove, er3, _, rfl, iteBF rfl ?_⟩
    refine ⟨_, rfl, .ref C_TooMany, .ref C_TooMany, _, fs, rfl, fun u r => r, t_TooMany, er3, _, rfl, iteBF rfl ?_⟩
    refine ⟨_, rfl, by show 29 ≤ sizeLine; decide, fun tp H4 n4 => ⟨tp, _, _, false, fs, rfl, n4.at, (.cons (.own _) (.cons (.own _) (.cons (.own _) (.cons (.own _) (.cons (.own _) (.cons (.own _) (.cons (.own _) (.cons (.own _) (.cons (.own _) (.cons (.own _) (.cons (.own _) (.cons (.own _) (.cons (.own _) (.cons (.own _) (.cons (.own _) (.cons (.own _) (.cons (.own _) (.cons (.own _) (.cons (.own _) (.cons (.own _) (.cons (.own _) (.cons (.own _) (.cons (.own _) (.cons (.own _) (.cons (.own _) (.cons (.own _) (.cons (.own _) (.cons (.own _) (.cons (.own _) .nil))))))))))))))))))))))))))))), (kitAny_cons t_BadEdit (fun _ => (kitAny_cons t_BadText (fun _ => (kitAny_cons t_FullLot (fun _ => (kitAny_cons t_GameOver (fun _ => (kitAny_cons t_NoSuchLength (fun _ => (kitAny_cons t_NotABase (fun _ => (kitAny_cons t_NotAChain (fun _ => (kitAny_cons t_NotAColumn (fun _ => (kitAny_cons t_NotACount (fun _ => (kitAny_cons t_NotAFailing (fun _ => (kitAny_cons t_NotAPaper (fun _ => (kitAny_cons t_NotAPoint (fun _ => (kitAny_cons t_NotAWord (fun _ => (kitAny_cons t_NotAllowed (fun _ => (kitAny_cons t_NotAnOrder (fun _ => (kitAny_cons t_NotFull (fun _ => (kitAny_cons t_NotInside (fun _ => (kitAny_cons t_NotMade (fun _ => (kitAny_cons t_NotNeighbours (fun _ => (kitAny_cons t_NotShorter (fun _ => (kitAny_cons t_NotTight (fun _ => (kitAny_cons t_NothingKept (fun _ => (kitAny_cons t_NothingToRedo (fun _ => (kitAny_cons t_NothingToUndo (fun _ => (kitAny_cons t_OrderMatters (fun _ => (kitAny_cons t_RepeatedPoint (fun _ => (kitAny_cons t_SameLength (fun _ => (kitAny_cons t_UnknownName (fun _ => (kitAny_cons t_UnlikeSizes (fun _ => kitAny_nil) (fun z => absurd z (by decide)))) (fun z => absurd z (by decide)))) (fun z => absurd z (by decide)))) (fun z => absurd z (by decide)))) (fun z => absurd z (by decide)))) (fun z => absurd z (by decide)))) (fun z => absurd z (by decide)))) (fun z => absurd z (by decide)))) (fun z => absurd z (by decide)))) (fun z => absurd z (by decide)))) (fun z => absurd z (by decide)))) (fun z => absurd z (by decide)))) (fun z => absurd z (by decide)))) (fun z => absurd z (by decide)))) (fun z => absurd z (by decide)))) (fun z => absurd z (by decide)))) (fun z => absurd z (by decide)))) (fun z => absurd z (by decide)))) (fun z => absurd z (by decide)))) (fun z => absurd z (by decide)))) (fun z => absurd z (by decide)))) (fun z => absurd z (by decide)))) (fun z => absurd z (by decide)))) (fun z => absurd z (by decide)))) (fun z => absurd z (by decide)))) (fun z => absurd z (by decide)))) (fun z => absurd z (by decide)))) (fun z => absurd z (by decide)))) (fun z => absurd z (by decide))), er3.same n4.same, _, rfl, iteBF rfl ⟨_, rfl, ?_⟩⟩⟩
    exact tail (s3.loc2 n4).1 gl2 (n4.else (upd_at e3)) (.one (.tup k2 (.cons (.str _) (.cons (hv.up g2) (.cons (.int _) (.cons (.int _) .nil))))))
  · refine ⟨_, rfl, .ref C_BadNumber, .ref C_BadNumber, _, fs, rfl, fun u r => r, t_BadNumber, er1, _, rfl, iteBF rfl ?_⟩
    refine ⟨_, rfl, .ref C_NotAMove, .ref C_NotAMove, _, fs, rfl, fun u r => r, t_NotAMove, er1, _, rfl, iteBT rfl ⟨_, rfl, .inl ⟨rfl, _, .of hl⟩, _, rfl, rfl, nf1, fs, _, er1, l1, by show 2 ≤ sizeLine; decide, fun t H2 n2 => ⟨l, _, _, rfl, rfl, n2.else hl, by show 0 < sizeLine; decide, fun H3 e3 => ?_⟩⟩⟩
    obtain ⟨G2, s2, g2, k2, o2⟩ := s1.know2 n2
    have gl2 : G2 l = none := by rw [o2 l (n2.ne (ne_none hl))]; exact gl
    have s3 := s2.mut gl2 fl e3
    have er3 := er.same s3.hh
    refine ⟨_, rfl, .ref C_TooMany, .ref C_TooMany, _, fs, rfl, fun u r => r, t_TooMany, er3, _, rfl, iteBF rfl ?_⟩
    refine ⟨_, rfl, by show 29 ≤ sizeLine; decide, fun tp H4 n4 => ⟨tp, _, _, false, fs, rfl, n4.at, (.cons (.own _) (.cons (.own _) (.cons (.own _) (.cons (.own _) (.cons (.own _) (.cons (.own _) (.cons (.own _) (.cons (.own _) (.cons (.own _) (.cons (.own _) (.cons (.own _) (.cons (.own _) (.cons (.own _) (.cons (.own _) (.cons (.own _) (.cons (.own _) (.cons (.own _) (.cons (.own _) (.cons (.own _) (.cons (.own _) (.cons (.own _) (.cons (.own _) (.cons (.own _) (.cons (.own _) (.cons (.own _) (.cons (.own _) (.cons (.own _) (.cons (.own _) (.cons (.own _) .nil))))))))))))))))))))))))))))), (kitAny_cons t_BadEdit (fun _ => (kitAny_cons t_BadText (fun _ => (kitAny_cons t_FullLot (fun _ => (kitAny_cons t_GameOver (fun _ => (kitAny_cons t_NoSuchLength (fun _ => (kitAny_cons t_NotABase (fun _ => (kitAny_cons t_NotAChain (fun _ => (kitAny_cons t_NotAColumn (fun _ => (kitAny_cons t_NotACount (fun _ => (kitAny_cons t_NotAFailing (fun _ => (kitAny_cons t_NotAPaper (fun _ => (kitAny_cons t_NotAPoint (fun _ => (kitAny_cons t_NotAWord (fun _ => (kitAny_cons t_NotAllowed (fun _ => (kitAny_cons t_NotAnOrder (fun _ => (kitAny_cons t_NotFull (fun _ => (kitAny_cons t_NotInside (fun _ => (kitAny_cons t_NotMade (fun _ => (kitAny_cons t_NotNeighbours (fun _ => (kitAny_cons t_NotShorter (fun _ => (kitAny_cons t_NotTight (fun _ => (kitAny_cons t_NothingKept (fun _ => (kitAny_cons t_NothingToRedo (fun _ => (kitAny_cons t_NothingToUndo (fun _ => (kitAny_cons t_OrderMatters (fun _ => (kitAny_cons t_RepeatedPoint (fun _ => (kitAny_cons t_SameLength (fun _ => (kitAny_cons t_UnknownName (fun _ => (kitAny_cons t_UnlikeSizes (fun _ => kitAny_nil) (fun z => absurd z (by decide)))) (fun z => absurd z (by decide)))) (fun z => absurd z (by decide)))) (fun z => absurd z (by decide)))) (fun z => absurd z (by decide)))) (fun z => absurd z (by decide)))) (fun z => absurd z (by decide)))) (fun z => absurd z (by decide)))) (fun z => absurd z (by decide)))) (fun z => absurd z (by decide)))) (fun z => absurd z (by decide)))) (fun z => absurd z (by decide)))) (fun z => absurd z (by decide)))) (fun z => absurd z (by decide)))) (fun z => absurd z (by decide)))) (fun z => absurd z (by decide)))) (fun z => absurd z (by decide)))) (fun z => absurd z (by decide)))) (fun z => absurd z (by decide)))) (fun z => absurd z (by decide)))) (fun z => absurd z (by decide)))) (fun z => absurd z (by decide)))) (fun z => absurd z (by decide)))) (fun z => absurd z (by decide)))) (fun z => absurd z (by decide)))) (fun z => absurd z (by decide)))) (fun z => absurd z (by decide)))) (fun z => absurd z (by decide)))) (fun z => absurd z (by decide))), er3.same n4.same, _, rfl, iteBF rfl ⟨_, rfl, ?_⟩⟩⟩
    exact tail (s3.loc2 n4).1 gl2 (n4.else (upd_at e3)) (.one (.tup k2 (.cons (.str _) (.cons (.int _) .nil))))
  · refine ⟨_, rfl, .ref C_BadNumber, .ref C_BadNumber, _, fs, rfl, fun u r => r, t_BadNumber, er1, _, rfl, iteBF rfl ?_⟩
    refine ⟨_, rfl, .ref C_NotAMove, .ref C_NotAMove, _, fs, rfl, fun u r => r, t_NotAMove, er1, _, rfl, iteBF rfl ?_⟩
    refine ⟨_, rfl, .ref C_TooMany, .ref C_TooMany, _, fs, rfl, fun u r => r, t_TooMany, er1, _, rfl, iteBT rfl ⟨_, rfl, .inl ⟨rfl, _, .of hl⟩, _, rfl, rfl, nf1, fs, _, er1, l1, _, rfl, rfl, nf2, fs, _, er1, l2, by show 3 ≤ sizeLine; decide, fun t H2 n2 => ⟨l, _, _, rfl, rfl, n2.else hl, by show 0 < sizeLine; decide, fun H3 e3 => ?_⟩⟩⟩
    obtain ⟨G2, s2, g2, k2, o2⟩ := s1.know2 n2
    have gl2 : G2 l = none := by rw [o2 l (n2.ne (ne_none hl))]; exact gl
    have s3 := s2.mut gl2 fl e3
    have er3 := er.same s3.hh
    refine ⟨_, rfl, by show 29 ≤ sizeLine; decide, fun tp H4 n4 => ⟨tp, _, _, false, fs, rfl, n4.at, (.cons (.own _) (.cons (.own _) (.cons (.own _) (.cons (.own _) (.cons (.own _) (.cons (.own _) (.cons (.own _) (.cons (.own _) (.cons (.own _) (.cons (.own _) (.cons (.own _) (.cons (.own _) (.cons (.own _) (.cons (.own _) (.cons (.own _) (.cons (.own _) (.cons (.own _) (.cons (.own _) (.cons (.own _) (.cons (.own _) (.cons (.own _) (.cons (.own _) (.cons (.own _) (.cons (.own _) (.cons (.own _) (.cons (.own _) (.cons (.own _) (.cons (.own _) (.cons (.own _) .nil))))))))))))))))))))))))))))), (kitAny_cons t_BadEdit (fun _ => (kitAny_cons t_BadText (fun _ => (kitAny_cons t_FullLot (fun _ => (kitAny_cons t_GameOver (fun _ => (kitAny_cons t_NoSuchLength (fun _ => (kitAny_cons t_NotABase (fun _ => (kitAny_cons t_NotAChain (fun _ => (kitAny_cons t_NotAColumn (fun _ => (kitAny_cons t_NotACount (fun _ => (kitAny_cons t_NotAFailing (fun _ => (kitAny_cons t_NotAPaper (fun _ => (kitAny_cons t_NotAPoint (fun _ => (kitAny_cons t_NotAWord (fun _ => (kitAny_cons t_NotAllowed (fun _ => (kitAny_cons t_NotAnOrder (fun _ => (kitAny_cons t_NotFull (fun _ => (kitAny_cons t_NotInside (fun _ => (kitAny_cons t_NotMade (fun _ => (kitAny_cons t_NotNeighbours (fun _ => (kitAny_cons t_NotShorter (fun _ => (kitAny_cons t_NotTight (fun _ => (kitAny_cons t_NothingKept (fun _ => (kitAny_cons t_NothingToRedo (fun _ => (kitAny_cons t_NothingToUndo (fun _ => (kitAny_cons t_OrderMatters (fun _ => (kitAny_cons t_RepeatedPoint (fun _ => (kitAny_cons t_SameLength (fun _ => (kitAny_cons t_UnknownName (fun _ => (kitAny_cons t_UnlikeSizes (fun _ => kitAny_nil) (fun z => absurd z (by decide)))) (fun z => absurd z (by decide)))) (fun z => absurd z (by decide)))) (fun z => absurd z (by decide)))) (fun z => absurd z (by decide)))) (fun z => absurd z (by decide)))) (fun z => absurd z (by decide)))) (fun z => absurd z (by decide)))) (fun z => absurd z (by decide)))) (fun z => absurd z (by decide)))) (fun z => absurd z (by decide)))) (fun z => absurd z (by decide)))) (fun z => absurd z (by decide)))) (fun z => absurd z (by decide)))) (fun z => absurd z (by decide)))) (fun z => absurd z (by decide)))) (fun z => absurd z (by decide)))) (fun z => absurd z (by decide)))) (fun z => absurd z (by decide)))) (fun z => absurd z (by decide)))) (fun z => absurd z (by decide)))) (fun z => absurd z (by decide)))) (fun z => absurd z (by decide)))) (fun z => absurd z (by decide)))) (fun z => absurd z (by decide)))) (fun z => absurd z (by decide)))) (fun z => absurd z (by decide)))) (fun z => absurd z (by decide)))) (fun z => absurd z (by decide))), er3.same n4.same, _, rfl, iteBF rfl ⟨_, rfl, ?_⟩⟩⟩
    exact tail (s3.loc2 n4).1 gl2 (n4.else (upd_at e3)) (.one (.tup k2 (.cons (.str _) (.cons (.str _) (.cons (.int _) .nil)))))
def spRefusedAs (K : PySem.W.Frag) (mg : Str → Option Value) : SpH := fun p vs H Q _ => ∃ (G : Hp) (C d : Addr) (fs : List (Str × V)) (due e : PyData) (w : V), vs = [.ref p.1, w] ∧ Same G H ∧ ErrAt C d fs H p ∧ ErrIs K mg G C fs due ∧ Da G w e ∧ PyData.depth e ≤ 6 ∧ szD e ≤ 1000 ∧ ∀ H', Same H H' → Q (.bl (sameD (.list [due]) (.list [e]))) H'
theorem ok_refused_as_h (Z : Zs mg) (D : Ds K mg) (c__law_error_h : CalE P w K mg base "_law_error" 1 ["error"] (spLawError K mg)) (c__law_alike_h : CalE P w K mg base "_law_alike" 8 ["one", "two"] (fun _ => spAlike 8)) : CalE P w K mg base "_law_refused_as" 9 ["error", "due"] (spRefusedAs K mg) := by
  refine Def.calE D.d_law_refused_as sc_law_refused_as (fun p vs H Q E h => ?_) (fun f cdv A outer s H vs Q E p hot hr h => ?_)
  · obtain ⟨G, C, d, fs, due, e, w, rfl, gh, er, is, he, de, ze, q⟩ := h
    rfl
  obtain ⟨G, C, d, fs, due, e, w, rfl, gh, er, is, he, de, ze, q⟩ := h
  obtain ⟨k, nm, es, cases_⟩ := id is
  have ec := es.ec
  refine ⟨_, (pss_one (ps_ret (pe_and (pe_callB (call_isErr (d := d) ec List.mem_cons_self) (by rfl) Z.z_isinstance (by decide +kernel) (pa_cons (pv 0) (pa_cons (pe_bltn (v := .ty "ValueError") (by rfl) Z.z_ValueError (by decide +kernel) rfl) pa_nil))) (pe_one (pe_calE c__law_alike_h (hr.mono (by first | decide | omega)) hot List.mem_cons_self (by rfl) (pa_cons (pe_calE c__law_error_h (hr.mono (by first | decide | omega)) hot List.mem_cons_self (by rfl) (pa_cons (pv 0) pa_nil)) (pa_cons (pe_lstN (pa_cons (pv 1) pa_nil)) pa_nil))))))), ?_⟩
  refine ⟨_, rfl, .ty "ValueError", _, _, fs, rfl, fun u r => r, es.iV, er, _, rfl, ?_⟩
  refine iteT ⟨_, rfl, G, C, d, fs, due, rfl, gh, er, is, fun r G1 H1 s1 dr => ⟨_, rfl, by show 1 ≤ sizeLine; decide, fun l H2 n2 => ?_⟩⟩
  obtain ⟨G2, s2, g2, k2, -⟩ := s1.know2 n2
  have hd : PyData.depth (.list [e]) = PyData.depth e + 1 := by
    show max (PyData.depth e) 0 + 1 = _
    omega
  have hz : szD (.list [e]) = szD e + 1 := by
    show 1 + (szD e + 0) = _
    omega
  exact ⟨G2, .ref r, .ref l, .list [due], .list [e], rfl, s2.gh, dr.up g2, .lst k2 (.one (he.up s2.gg)), by omega, by omega, fun H3 s3 => q H3 (s2.hh.trans s3)⟩


theorem rows_sub {G : Hp} {n : Int} {xs : List V} {T : List (List Int)} (dx : DaAll G xs (T.map rowD)) (mv : AllMv n T) : ∀ {ys : List V}, (∀ y ∈ ys, y ∈ xs) → ∃ U : List (List Int), DaAll G ys (U.map rowD) ∧ AllMv n U
  | [], _ => ⟨[], .nil, fun m hm => by cases hm⟩
  | y :: ys, h => by
    obtain ⟨U, d, m⟩ := rows_sub dx mv (ys := ys) fun z hz => h z (List.mem_cons_of_mem _ hz)
    obtain ⟨i, hi⟩ := List.getElem?_of_mem (h y List.mem_cons_self)
    obtain ⟨e, he, de⟩ := dx.get hi
    rw [List.getElem?_map] at he
    obtain ⟨w, hw, rfl⟩ := Option.map_eq_some_iff.mp he
    exact ⟨w :: U, .cons de d, fun z hz => (List.mem_cons.mp hz).elim (fun e => e ▸ mv w (List.mem_of_getElem? hw)) (m z)⟩
def spListed : Sp := fun vs H Q _ => ∃ (S : Sr) (G : Hp) (n : Int) (m : Addr) (ms : List V) (L : List (List Int)), vs = [.ref S.a, .int n, .ref m] ∧ Wd S G H ∧ 0 ≤ n ∧ n ≤ 12 ∧ G m = some (.lst ms) ∧ DaAll G ms (L.map rowD) ∧ AllMv n L ∧ L.length ≤ 400 ∧
  ∀ (p : Addr) (G' H' : Hp) (xs : List V) (T : List (List Int)), Go S G H G' H' → G' p = none → H p = none → H' p = some (.lst xs) → DaAll G' xs (T.map rowD) → AllMv n T → T.length ≤ 400 → Q (.ref p) H'
theorem ok_listed (Z : Zs mg) (D : Ds K mg) (c__law_take : Cal P w K mg base "_law_take" 2 ["store", "many"] spTake) (c__law_pick : Cal P w K mg base "_law_pick" 3 ["store", "things"] spPick) (c__law_drawn : Cal P w K mg base "_law_drawn" 3 ["store", "things", "many"] spDrawn) (c__law_move : Cal P w K mg base "_law_move" 4 ["store", "points"] spMove) : Cal P w K mg base "_law_listed" 5 ["store", "points", "made"] spListed := by
  refine Def.cal D.d_law_listed sc_law_listed (fun vs H Q E h => ?_) (fun f cdv A outer s H vs Q E hr h => ?_)
  · obtain ⟨S, G, n, m, ms, L, rfl, wd, n0, n12, gm, dL, mvL, lL, q⟩ := h
    rfl
  obtain ⟨S, G, n, m, ms, L, rfl, wd, n0, n12, gm, dL, mvL, lL, q⟩ := h
  refine ⟨_, (pss_cons (ps_set (i := 3) sc_law_listed.nd rfl (Or.inl rfl) (pe_cal c__law_take (hr.mono (by first | decide | omega)) (by rfl) (pa_cons (pv 0) (pa_cons pe_int pa_nil))))
      (pss_cons (ps_set (i := 4) sc_law_listed.nd rfl (Or.inr rfl) (pe_cal c__law_drawn (hr.mono (by first | decide | omega)) (by rfl) (pa_cons (pv 0) (pa_cons (pe_listRgN rfl (by rfl) Z.z_list (prg_1 (by rfl) Z.z_range (pv 1))) (pa_cons (pe_cal c__law_take (hr.mono (by first | decide | omega)) (by rfl) (pa_cons (pv 0) (pa_cons pe_int pa_nil))) pa_nil)))))
      (pss_cons (ps_setLc (i := 5) (own := [("move", 7)]) (g := gName 7) (by rfl) sc_law_listed.nd rfl rfl (sw_true rfl rfl rfl (by decide +kernel)) (pi_list (pv 2)) (blkOk_by (N := ["store", "points", "made", "pick", "lot", "moves", "size", "move", "k", "p"]) (sc := defScope s_law_listed) (by decide +kernel)) (fun _ _ _ _ _ => pg_name (i := 7) sc_law_listed.nd rfl (Or.inr rfl)) (fun _ _ _ _ _ => pts_one (pt_val (pe_callB (cr_allK (K := K) rfl rfl) (by rfl) Z.z_all (by decide +kernel) (pa_cons (pe_lc (own := [("p", 9)]) (g := gName 9) (tt := tYes) (by rfl) sc_law_listed.nd (pi_listK (K := K) rfl (pv 4)) (blkOk_in (N := ["store", "points", "made", "pick", "lot", "moves", "size", "move", "k", "p"]) (by decide +kernel)) (fun _ _ _ _ _ => pg_name (i := 9) sc_law_listed.nd rfl (Or.inl rfl)) (fun _ _ _ _ _ => pts_nil) (fun _ _ _ _ _ => (pe_cmp (pc_eqI (pe_ix (ix_tupK (K := K) rfl) (pv 7) (pv 9) (fun _ _ => rfl)) (pv 9)) (nomark _)))) pa_nil)))) (fun _ _ _ _ _ => (pv 7)))
      (pss_cons (ps_if (pt_cmp (pc_eqI (pv 3) pe_int) (nomark _)) (pss_one (ps_ret (pe_lstN pa_nil))) pss_nil)
      (Evl.pss_cut (ps_if (pt_cmp (pc_eqI (pv 3) pe_int) (nomark _)) (pss_one (ps_setLc (i := 5) (own := [("k", 8)]) (g := gName 8) (tt := tYes) (by rfl) sc_law_listed.nd rfl rfl (sw_true rfl rfl rfl (by decide +kernel)) (pi_range1 (by rfl) Z.z_range (pa_cons (pe_op op_add pe_int (pe_cal c__law_take (hr.mono (by first | decide | omega)) (by rfl) (pa_cons (pv 0) (pa_cons pe_int pa_nil)))) pa_nil)) (blkOk_by (N := ["store", "points", "made", "pick", "lot", "moves", "size", "move", "k", "p"]) (sc := defScope s_law_listed) (by decide +kernel)) (fun _ _ _ _ _ => pg_name (i := 8) sc_law_listed.nd rfl (Or.inl rfl)) (fun _ _ _ _ _ => pts_nil) (fun _ _ _ _ _ => (pe_cal c__law_move (hr.mono (by first | decide | omega)) (by rfl) (pa_cons (pv 0) (pa_cons (pv 1) pa_nil)))))) pss_nil)
      (pss_cons (ps_set (i := 6) sc_law_listed.nd rfl (Or.inl rfl) (pe_op op_add pe_int (pe_cal c__law_take (hr.mono (by first | decide | omega)) (by rfl) (pa_cons (pv 0) (pa_cons pe_int pa_nil)))))
      (Evl.pss_cut (ps_if (pt_cmp (pc_eqI (pe_cal c__law_take (hr.mono (by first | decide | omega)) (by rfl) (pa_cons (pv 0) (pa_cons pe_int pa_nil))) pe_int) (nomark _)) (pss_one (ps_set (i := 6) sc_law_listed.nd rfl (Or.inl rfl) (pe_cal c__law_pick (hr.mono (by first | decide | omega)) (by rfl) (pa_cons (pv 0) (pa_cons (pe_lstN (pa_cons pe_int (pa_cons pe_int (pa_cons pe_int (pa_cons pe_int pa_nil))))) pa_nil))))) pss_nil)
      (pss_one (ps_ret (pe_slice sl_listN (pe_op op_repL (pe_cal c__law_drawn (hr.mono (by first | decide | omega)) (by rfl) (pa_cons (pv 0) (pa_cons (pv 5) (pa_cons pe_int pa_nil)))) (pv 6)) po_none (po_some (pv 6)))))))))))), ?_⟩
  have lms := dL.length
  rw [List.length_map] at lms
  refine ⟨_, rfl, S, G, 4, rfl, wd, by decide, fun pk H1 p0 p1 s1 => ?_⟩
  refine ⟨_, rfl, _, rfl, n, rfl, .of_le (by decide) (by omega) (by decide) (by omega), fun p H2 n2 => ?_⟩
  rw [rgV_rngI] at n2
  obtain ⟨S2, gp, hp, fp⟩ := s1.loc n2
  refine ⟨_, rfl, S, G, 4, rfl, S2.wd, by decide, fun k4 H3 k0 k1 s3 => ?_⟩
  have S3 := S2.trans s3
  have nps : p ≠ S.a := S2.ns fp
  refine ⟨S, G, p, _, k4, rfl, S3.wd, .inl (s3.hh hp nps), by rw [List.length_map, rngI_len]; omega, by omega, by omega, fun lo ys rest H4 s4 glo flo hlo pm0 hy => ?_⟩
  obtain ⟨rs, ms', rfl, rfl, pm⟩ := perm_ints pm0
  have S4 := S3.trans s4
  have inr : ∀ r ∈ rs, inR n r := fun x hx => rngI_mem.mp (pm.mem_iff.mp (List.mem_append_left _ hx))
  have lr : rs.length ≤ 12 := by
    rw [List.length_map, List.length_map, rngI_len] at hy
    omega
  obtain ⟨G5, S5, g5, klo, o5⟩ := S4.frz glo (S3.fresh flo) hlo
  have gm5 := g5 _ _ gm
  have dL5 := dL.up g5
  have nms : m ≠ S.a := wd.ne gm
  refine ⟨_, rfl, m, rfl, ⟨_, .of (S5.gh _ _ gm5)⟩, fun l hl => ?_⟩
  refine lc_list (xs := ms) (fun i H' => ∃ (ys : List V), Go S G H G5 H' ∧ G5 l = none ∧ H l = none ∧ H' l = some (.lst ys) ∧ DaAll G5 ys ((holdL rs (L.take i)).map rowD)) ?_ ?_ ?_ ?_
  · obtain ⟨s2, gl, h2, fl⟩ := S5.loc (p := l) (o := .lst []) ⟨hl, rfl⟩
    exact ⟨[], s2, gl, fl, h2, .nil⟩
  · rintro i H' - ⟨ys, s2, -⟩
    exact .of (s2.gh _ _ gm5)
  · rintro i y H5 hy ⟨ys, s5, gl, fl, hl2, dy⟩
    obtain ⟨e, he, de⟩ := dL5.get hy
    rw [List.getElem?_map] at he
    obtain ⟨w, hw, rfl⟩ := Option.map_eq_some_iff.mp he
    obtain ⟨c, rfl, hc⟩ := rows_ref de
    have mv := mvL w (List.mem_of_getElem? hw)
    have ly := dy.length
    rw [List.length_map] at ly
    have lh : (holdL rs (L.take i)).length ≤ 400 := by
      refine Nat.le_trans (List.length_filter_le _ _) ?_
      rw [List.length_take]
      omega
    have hb2 := s5.gh _ _ klo
    refine ⟨rfl, _, rfl, lo, rfl, ⟨_, .of hb2⟩, fun z hz => ?_⟩
    refine lc_list (xs := rs.map V.int) (fun j H' => Same H5 H' ∧ H5 z = none ∧ H' z = some (.lst ((rs.take j).map fun r => V.bl (decide (stp w r = r))))) ?_ ?_ ?_ ?_
    · exact ⟨New.same (o := .lst []) ⟨hz, rfl⟩, hz, upd_same⟩
    · rintro j H' - ⟨s3, -⟩
      exact .of (s3 _ _ hb2)
    · rintro j x H3 hx ⟨s3, fz, hz3⟩
      obtain ⟨r, hr, rfl⟩ := map_at hx
      have ir := inr r (List.mem_of_getElem? hr)
      have jlt := (List.getElem?_eq_some_iff.mp hr).1
      obtain ⟨y, e1, e2, -⟩ := atI_ints (ns := w) ir.1 (by have := mv.len; have := ir.2; omega)
      have ez : y = stp w r := Option.some.inj (e1.symm.trans (stp_at mv ir).1)
      subst ez
      refine ⟨rfl, _, rfl, _, rfl, c, _, _, _, rfl, rfl, .of (s3 _ _ (s5.gh _ _ hc)), e2, _, rfl, _, _, rfl, rfl, _, hz3, ?_, fun b o h => ?_, fz, ?_⟩
      · rw [List.length_map]
        exact Hd.lt (Nat.lt_of_le_of_lt (List.length_take_le _ _) (by omega))
      · rw [upd_ne (ne_of_none h fz)]
        exact s3 _ _ h
      · rw [upd_same, List.take_add_one, hr, List.map_append]
        rfl
    · rintro H3 ⟨s3, fz, hz3⟩
      rw [List.length_map, List.take_length] at hz3
      have S3 := s5.pure s3
      have eqv : (rs.map fun r => decide (stp w r = r)).all id = holdB rs w := by
        rw [List.all_map]
        unfold holdB
        rw [Bool.eq_iff_iff, List.all_eq_true, decide_eq_true_eq, aft_self]
        exact ⟨fun h r hr => of_decide_eq_true (h r hr), fun h r hr => decide_eq_true (h r hr)⟩
      have hl3 := s3 _ _ hl2
      refine ⟨z, rs.map fun r => decide (stp w r = r), rfl, .of (by rw [hz3, List.map_map]; rfl), _, rfl, ite2 (fun c1 => ?_) (fun c1 => ?_)⟩
      · refine ⟨_, rfl, _, hl3, Hd.lt (by omega), _, S3.mut gl fl rfl, gl, fl, upd_same, ?_⟩
        rw [holdL_take hw, show holdB rs w = true from eqv.symm.trans c1, List.map_append]
        exact dy.append (.one de)
      · refine ⟨ys, S3, gl, fl, hl3, ?_⟩
        rw [holdL_take hw, show holdB rs w = false from eqv.symm.trans (Bool.eq_false_iff.mpr c1), List.map_append]
        simpa using dy
  rintro H6 ⟨ys6, S6, gl, fl, hl6, dy6⟩
  rw [lms, List.take_length] at dy6
  have mv6 : AllMv n (holdL rs L) := fun w hw => mvL w (List.mem_filter.mp hw).1
  have l6 : (holdL rs L).length ≤ 400 := Nat.le_trans (List.length_filter_le _ _) lL
  refine ⟨_, rfl, _, _, rfl, rfl, _, rfl, ite2 (fun c => ⟨by show 0 ≤ sizeLine; decide, fun z H7 n7 => ?_⟩) (fun c => ?_)⟩
  · obtain ⟨s7, gz, hz, fz⟩ := S6.loc n7
    exact q z _ _ [] [] s7 gz fz hz .nil (fun w hw => by cases hw) (Nat.zero_le _)
  refine ⟨fun σ' H' => ∃ (G' : Hp) (l : Addr) (xs : List V) (T : List (List Int)), σ' = [some (.ref S.a), some (.int n), some (.ref m), some (.int pk), some (.ref lo), some (.ref l), none, none, none, none] ∧ Go S G H G' H' ∧ G' l = none ∧ H l = none ∧ H' l = some (.lst xs) ∧ DaAll G' xs (T.map rowD) ∧ AllMv n T ∧ T.length ≤ 400, ?_, ?_⟩
  · refine ⟨_, rfl, _, _, rfl, rfl, _, rfl, ite2 (fun c => ?_) (fun c => ⟨G5, l, ys6, _, rfl, S6, gl, fl, hl6, dy6, mv6, l6⟩)⟩
    refine ⟨_, rfl, S, G5, 6, rfl, S6.wd, by decide, fun d H7 d0 d1 s7 => ⟨_, _, rfl, rfl, _, rfl, by omega, by omega, fun l2 hl2 => ?_⟩⟩
    have S7 := S6.trans s7
    refine lc_range (lo := 0) (n := (1 + d).toNat) (fun i H' => ∃ (G' : Hp) (zs : List V) (T : List (List Int)), Go S G H G' H' ∧ G' l2 = none ∧ H l2 = none ∧ H' l2 = some (.lst zs) ∧ DaAll G' zs (T.map rowD) ∧ AllMv n T ∧ zs.length = i) ?_ ?_ ?_
    · obtain ⟨s8, gl8, h8, fl8⟩ := S7.loc (p := l2) (o := .lst []) ⟨hl2, rfl⟩
      exact ⟨G5, [], [], s8, gl8, fl8, h8, .nil, fun w hw => (by cases hw), rfl⟩
    · rintro i H8 hi ⟨G8, zs, T, S8, gl8, fl8, h8, dz, mvT, lz⟩
      refine ⟨rfl, yesT ⟨_, rfl, _, rfl, S, G8, n, rfl, S8.wd, n0, by omega, fun p9 ns G9 H9 s9 k9 mv9 => ⟨_, s9.hh h8 (S8.ns fl8), ?_, ?_⟩⟩⟩
      · exact Hd.lt (by omega)
      · refine ⟨G9, _, T ++ [ns], (S8.trans s9).mut (s9.nw h8 gl8) fl8 rfl, s9.nw h8 gl8, fl8, upd_same, ?_, fun w hw => (List.mem_append.mp hw).elim (mvT w) fun h => by rw [List.mem_singleton.mp h]; exact mv9, by rw [List.length_append, lz]; rfl⟩
        rw [List.map_append]
        exact (dz.up s9.gg).append (.one (.tup k9 (DaAll.ints ns)))
    · rintro H8 ⟨G8, zs, T, S8, gl8, fl8, h8, dz, mvT, lz⟩
      have := dz.length
      rw [List.length_map] at this
      exact ⟨G8, l2, zs, T, rfl, S8, gl8, fl8, h8, dz, mvT, by omega⟩
  rintro σ' H7 ⟨G7, l7, xs, T, rfl, S7, gl7, fl7, hl7, dx, mvT, lT⟩
  have lx := dx.length
  rw [List.length_map] at lx
  refine ⟨_, rfl, S, G7, 8, rfl, S7.wd, by decide, fun d H8 d0 d1 s8 => ⟨_, _, rfl, rfl, ?_⟩⟩
  have S8 := S7.trans s8
  have hl8 := s8.hh hl7 (S7.ns fl7)
  refine ⟨fun σ' H' => ∃ (z : Int), σ' = [some (.ref S.a), some (.int n), some (.ref m), some (.int pk), some (.ref lo), some (.ref l7), some (.int z), none, none, none] ∧ Go S G H G7 H' ∧ H' l7 = some (.lst xs) ∧ 0 ≤ z ∧ z ≤ 400, ?_, ?_⟩
  · refine ⟨_, rfl, S, G7, 6, rfl, S8.wd, by decide, fun d' H9 d0' d1' s9 => ⟨_, _, rfl, rfl, _, rfl, ite2 (fun c => ?_) (fun c => ⟨_, rfl, S8.trans s9, s9.hh hl8 (S8.ns fl7), by omega, by omega⟩)⟩⟩
    have S9 := S8.trans s9
    refine ⟨_, rfl, by show 4 ≤ sizeLine; decide, fun t HA nA => ?_⟩
    obtain ⟨SA, gt, ht, ft⟩ := S9.loc nA
    refine ⟨S, G7, .ref t, _, rfl, SA.wd, .inl ⟨t, rfl, SA.ns ft, ht⟩, by decide, by decide, fun x HB hx sB => ?_⟩
    have hlB := sB.hh (nA.else (s9.hh hl8 (S8.ns fl7))) (S8.ns fl7)
    simp only [List.mem_cons, List.not_mem_nil, or_false] at hx
    rcases hx with rfl | rfl | rfl | rfl
    · exact ⟨24, rfl, SA.trans sB, hlB, by decide, by decide⟩
    · exact ⟨60, rfl, SA.trans sB, hlB, by decide, by decide⟩
    · exact ⟨399, rfl, SA.trans sB, hlB, by decide, by decide⟩
    · exact ⟨400, rfl, SA.trans sB, hlB, by decide, by decide⟩
  rintro σ' H9 ⟨z, rfl, S9, hl9, z0, z4⟩
  refine ⟨_, rfl, _, rfl, S, G7, l7, xs, 8, rfl, S9.wd, .inl hl9, by omega, by decide, by decide, fun r ys rest HA sA gr fr hr pm ly => ?_⟩
  have SA := S9.trans sA
  have ly8 : ys.length ≤ 8 := by
    rw [ly]
    exact Nat.min_le_left _ _
  refine ⟨_, rfl, r, z, ys, rfl, rfl, hr, by omega, by omega, ?_, fun r2 HB nB => ⟨_, rfl, _, rfl, r2, _, rfl, .of nB.at, fun r3 HC nC => ?_⟩⟩
  · exact Nat.le_trans (Nat.mul_le_mul ly8 (show z.toNat ≤ 400 by omega)) (by decide)
  rw [cut_toN z0] at nC
  obtain ⟨SB, -, -, -⟩ := SA.loc nB
  obtain ⟨SC, g3, h3, f3⟩ := SB.loc nC
  obtain ⟨U, dU, mU⟩ := rows_sub dx mvT (ys := (List.replicate z.toNat ys).flatten.take z.toNat) fun v hv => by
    obtain ⟨l, hl, hz⟩ := List.mem_flatten.mp (List.mem_of_mem_take hv)
    rw [List.eq_of_mem_replicate hl] at hz
    exact pm.mem_iff.mp (List.mem_append_left _ hz)
  have lU := dU.length
  rw [List.length_map, List.length_take] at lU
  exact q r3 G7 HC _ U SC g3 f3 h3 dU mU (by omega)


theorem Errs.upS {E : XK} {C : Addr} {fs : List (Str × V)} {H H' : Hp} (s : Same H H') (e : Errs E C fs H) : Errs E C fs H' := fun d H2 s2 h => e d H2 (s.trans s2) h
theorem point_of {n : Int} {d : PyData} (h : isNum d 0 (n - 1) = true) : ∃ r, d = .int r ∧ inR n r := by
  obtain ⟨rs, e, hr⟩ := num_ints (n := n) (ds := [d]) fun e he => by rw [List.mem_singleton.mp he]; exact h
  cases rs with
  | nil => cases e
  | cons r rs =>
    injection e with e1 e2
    exact ⟨r, e1, hr r List.mem_cons_self⟩
/-- what is due for a row and a point: refused, or its points and the point -/
def RowPtJ (n : Int) (xs : List V) (ds : List PyData) (v : V) (dv : PyData) (DP DT : Addr) (E : XK) (H : Hp) (good : List Int → Int → Prop) : Prop :=
  RowJ n xs ds DP DT E H fun rs => (isNum dv 0 (n - 1) = false → Errs E DP [(("value" : Str), v)] H) ∧ ∀ pt : Int, dv = .int pt → inR n pt → good rs pt
def moveB (pt : Int) (w : List Int) : Bool := !decide (stp w pt = pt)
/-- the holders of rs that move pt -/
def movL (rs : List Int) (pt : Int) (L : List (List Int)) : List (List Int) := (holdL rs L).filter (moveB pt)
theorem filter_take {α : Type} {p : α → Bool} {L : List α} {i : Nat} {m : α} (h : L[i]? = some m) : (L.take (i + 1)).filter p = (L.take i).filter p ++ (if p m then [m] else []) := by
  rw [List.take_add_one, h, List.filter_append]
  show _ ++ [m].filter p = _
  congr 1
  cases e : p m with
  | true => rw [List.filter_cons_of_pos e]; rfl
  | false => rw [List.filter_cons_of_neg (by rw [e]; exact Bool.false_ne_true)]; rfl
def spMovers (K : PySem.W.Frag) (C DP DT : Addr) : Sp := fun vs H Q E => ∃ (G : Hp) (x a : Addr) (v : V) (n : Int) (T L : List (List Int)) (xs : List V) (ds : List PyData) (dv : PyData), vs = [.ref x, .ref a, v] ∧ Same G H ∧ WAt C G x n T L ∧ WOk n T L ∧ HasS K H a xs ∧ DaAll G xs ds ∧ Da G v dv ∧
  RowPtJ n xs ds v dv DP DT E H fun rs pt => ∀ (p : Addr) (ys : List V) (G' H' : Hp), Stq G H G' H' → G' p = none → H p = none → H' p = some (.lst ys) → DaAll G' ys ((movL rs pt L).map rowD) → Q (.ref p) H'
def headD (M : List (List Int)) : PyData := match M with
  | [] => .none
  | w :: _ => rowD w
def spFirstMover (K : PySem.W.Frag) (C DP DT : Addr) : Sp := fun vs H Q E => ∃ (G : Hp) (x a : Addr) (v : V) (n : Int) (T L : List (List Int)) (xs : List V) (ds : List PyData) (dv : PyData), vs = [.ref x, .ref a, v] ∧ Same G H ∧ WAt C G x n T L ∧ WOk n T L ∧ HasS K H a xs ∧ DaAll G xs ds ∧ Da G v dv ∧
  RowPtJ n xs ds v dv DP DT E H fun rs pt => ∀ (r : V) (G' H' : Hp), Stq G H G' H' → Da G' r (headD (movL rs pt L)) → Q r H'
def spIsMover (K : PySem.W.Frag) (C DP DT : Addr) : Sp := fun vs H Q E => ∃ (G : Hp) (x a : Addr) (v u : V) (n : Int) (T L : List (List Int)) (xs : List V) (ds : List PyData) (dv du : PyData), vs = [.ref x, .ref a, v, u] ∧ Same G H ∧ WAt C G x n T L ∧ WOk n T L ∧ HasS K H a xs ∧ DaAll G xs ds ∧ Da G v dv ∧ Da G u du ∧ szD du ≤ 900000 ∧
  RowPtJ n xs ds v dv DP DT E H fun rs pt => ∀ (b : Bool) (H' : Hp), Same H H' → (b = true ↔ ∃ w ∈ movL rs pt L, du = rowD w) → Q (.bl b) H'

theorem ShwE.shw {d : PyData} (h : ShwE d) : Shw d := ⟨h.sh, h.nd, by have := h.dp; omega, Nat.le_trans (PyData.shown_le 100 (by decide) d h.ls) (by have := h.wt; show 102 * d.weight + 100 ≤ 2 ^ 24; omega)⟩
/-- a small value; an entry of a row -/
structure ShwS (d : PyData) : Prop where
  e : ShwE d
  w : d.weight ≤ 20
  d3 : d.depth ≤ 3
theorem ShwS.small {i : Int} (h0 : -1000 ≤ i) (h1 : i ≤ 1000) : ShwS (.int i) := by
  refine ⟨.small h0 h1, ?_, Nat.zero_le _⟩
  show (if i == 0 then 0 else i.natAbs.log2 + 1) ≤ 20
  split
  · exact Nat.zero_le _
  · rename_i e
    have : i.natAbs.log2 < 11 := (Nat.log2_lt (by intro z; apply e; rw [Int.natAbs_eq_zero.mp z]; rfl)).mpr (Nat.lt_of_le_of_lt (show i.natAbs ≤ 1000 by omega) (by decide))
    omega
/-- a value that can be one of 403 that are shown together -/
structure ShwM (d : PyData) : Prop where
  e : ShwE d
  w : d.weight ≤ 300
theorem shwM_seq {t : Bool} {ds : List PyData} (h : ∀ d ∈ ds, ShwS d) (l : ds.length ≤ 13) : ShwM (sqD t ds) := by
  have w := weightAll_of (k := 20) fun d hd => (h d hd).w
  have s := showableAll_of fun d hd => (h d hd).e.sh
  have n := hasDictAll_of fun d hd => (h d hd).e.nd
  have p := depthAll_of (k := 3) fun d hd => (h d hd).d3
  have v := leavesShortAll_of (B := 100) fun d hd => (h d hd).e.ls
  have z : PyData.weightAll ds ≤ 300 := Nat.le_trans w (by omega)
  cases t with
  | true => exact ⟨⟨s, n, by show PyData.depthAll ds + 1 ≤ 4; omega, v, by show PyData.weightAll ds ≤ 500; omega⟩, z⟩
  | false => exact ⟨⟨s, n, by show PyData.depthAll ds + 1 ≤ 4; omega, v, by show PyData.weightAll ds ≤ 500; omega⟩, z⟩
/-- many such values -/
theorem shw_many {t : Bool} {ds : List PyData} (h : ∀ d ∈ ds, ShwM d) (l : ds.length ≤ 403) : Shw (sqD t ds) := by
  have w := weightAll_of (k := 300) fun d hd => (h d hd).w
  have s := showableAll_of fun d hd => (h d hd).e.sh
  have n := hasDictAll_of fun d hd => (h d hd).e.nd
  have p := depthAll_of (k := 4) fun d hd => (h d hd).e.dp
  have v := leavesShortAll_of (B := 100) fun d hd => (h d hd).e.ls
  have z : PyData.weightAll ds ≤ 150300 := Nat.le_trans w (by omega)
  have fit : ∀ d : PyData, d.leavesShort 100 = true → d.weight ≤ 150300 → d.shown.length ≤ sizeLine := fun d h1 h2 => by
    refine Nat.le_trans (PyData.shown_le 100 (by decide) d h1) ?_
    show 102 * d.weight + 100 ≤ 2 ^ 24
    omega
  cases t with
  | true => exact ⟨s, n, by show PyData.depthAll ds + 1 < 60; omega, fit (.tuple ds) v z⟩
  | false => exact ⟨s, n, by show PyData.depthAll ds + 1 < 60; omega, fit (.list ds) v z⟩
theorem set_no_mv {n : Int} {w : List Int} {k : Nat} {d : PyData} (hk : k < w.length) (h : ∀ r, inR n r → d ≠ .int r) : ∀ m, IsMv m n → PyData.tuple ((w.map PyData.int).set k d) ≠ rowD m := fun m mv e => by
  have e := PyData.tuple.inj e
  have a : (m.map PyData.int)[k]? = some d := by
    rw [← e, List.getElem?_set_self (by rw [List.length_map]; exact hk)]
  rw [List.getElem?_map] at a
  obtain ⟨r, hr, rfl⟩ := Option.map_eq_some_iff.mp a
  exact h r (mv.mem.mp (List.mem_of_getElem? hr)) rfl
theorem set_dup_mv {n : Int} {w : List Int} {k j : Nat} {y : Int} (hk : k < w.length) (hj : w[j]? = some y) (ne : j ≠ k) : ∀ m, IsMv m n → PyData.tuple ((w.map PyData.int).set k (.int y)) ≠ rowD m := fun m mv e => by
  have e := PyData.tuple.inj e
  rw [← List.map_set] at e
  have e := congrArg intsOf e
  rw [intsOf_map, intsOf_map] at e
  have a : m[k]? = some y := by rw [← e, List.getElem?_set_self hk]
  have b : m[j]? = some y := by rw [← e, List.getElem?_set_ne (Ne.symm ne), hj]
  have la := (List.getElem?_eq_some_iff.mp a)
  have lb := (List.getElem?_eq_some_iff.mp b)
  obtain ⟨p, hp⟩ := la
  obtain ⟨q, hq⟩ := lb
  exact ne ((List.getElem_inj mv.nodup).mp (hq.trans hp.symm))
theorem len_no_mv {n : Int} {ws : List Int} (h : ws.length ≠ n.toNat) : ∀ m, IsMv m n → rowD ws ≠ rowD m := fun m mv e => by
  rw [rowD_inj e] at h
  exact h mv.len
theorem szL_le5 : ∀ {ds : List PyData}, (∀ d ∈ ds, szD d ≤ 5) → szL ds ≤ 5 * ds.length
  | [], _ => Nat.le_refl _
  | d :: ds, h => by
    have h1 := h d List.mem_cons_self
    have h2 := szL_le5 fun e he => h e (List.mem_cons_of_mem _ he)
    show szD d + szL ds ≤ 5 * (ds.length + 1)
    omega
def spWrongMove : Sp := fun vs H Q _ => ∃ (S : Sr) (G : Hp) (b : Addr) (w : List Int) (n : Int), vs = [.ref S.a, .ref b] ∧ Wd S G H ∧ G b = some (.tup (w.map V.int)) ∧ IsMv w n ∧ 0 ≤ n ∧ n ≤ 12 ∧
  ∀ (v : V) (d : PyData) (G' H' : Hp), Go S G H G' H' → Da G' v d → (∀ m, IsMv m n → d ≠ rowD m) → ShwM d → szD d ≤ 100 → Q v H'
theorem ok_wrong_move (Z : Zs mg) (D : Ds K mg) (c__law_take : Cal P w K mg base "_law_take" 2 ["store", "many"] spTake) (c__law_place : Cal P w K mg base "_law_place" 3 ["store", "size"] spPlace) (c__law_pick : Cal P w K mg base "_law_pick" 3 ["store", "things"] spPick) : Cal P w K mg base "_law_wrong_move" 4 ["store", "move"] spWrongMove := by
  refine Def.cal D.d_law_wrong_move sc_law_wrong_move (fun vs H Q E h => ?_) (fun f cdv A outer s H vs Q E hr h => ?_)
  · obtain ⟨S, G, b, w, n, rfl, wd, hb, mv, n0, n12, q⟩ := h
    rfl
  obtain ⟨S, G, b, w, n, rfl, wd, hb, mv, n0, n12, q⟩ := h
  refine ⟨_, (pss_cons (ps_set (i := 2) sc_law_wrong_move.nd rfl (Or.inl rfl) (pe_callB call_len_seq (by rfl) Z.z_len (by decide +kernel) (pa_cons (pv 1) pa_nil)))
      (pss_cons (ps_set (i := 3) sc_law_wrong_move.nd rfl (Or.inl rfl) (pe_callTy call_listN (by rfl) Z.z_list (by decide +kernel) (pa_cons (pv 1) pa_nil)))
      (pss_cons (ps_set (i := 4) sc_law_wrong_move.nd rfl (Or.inl rfl) (pe_cal c__law_take (hr.mono (by first | decide | omega)) (by rfl) (pa_cons (pv 0) (pa_cons pe_int pa_nil))))
      (pss_cons (ps_if (pt_cmp (pc_eqI (pv 4) pe_int) (nomark _)) (pss_one (ps_ret (pv 3))) pss_nil)
      (pss_cons (ps_if (pt_cmp (pc_eqI (pv 4) pe_int) (nomark _)) (pss_one (ps_ret (pe_callTy call_tupleN (by rfl) Z.z_tuple (by decide +kernel) (pa_cons (pe_op op_catN (pv 3) (pe_lstN (pa_cons (pv 2) pa_nil))) pa_nil)))) pss_nil)
      (pss_cons (ps_if (PW.pt (pw_or (pt_cmp (pc_eqI (pv 4) pe_int) (nomark _)) (pw_or1 (pt_cmp (pc_eqI (pv 2) pe_int) (nomark _))))) (pss_one (ps_ret (pe_cal c__law_pick (hr.mono (by first | decide | omega)) (by rfl) (pa_cons (pv 0) (pa_cons (pe_lstN (pa_cons pe_non (pa_cons pe_bl (pa_cons pe_int (pa_cons (pe_un un_neg pe_int) (pa_cons pe_str (pa_cons pe_str (pa_cons (pe_tupN (pa_cons (pv 2) pa_nil)) (pa_cons (pe_lstN pa_nil) (pa_cons (pe_tupN (pa_cons (pe_tupN pa_nil) pa_nil)) (pa_cons pe_str (pa_cons (pe_tupN (pa_cons (pe_un un_neg pe_int) pa_nil)) (pa_cons (pe_tupN (pa_cons pe_non pa_nil)) pa_nil))))))))))))) pa_nil))))) pss_nil)
      (pss_cons (ps_set (i := 5) sc_law_wrong_move.nd rfl (Or.inl rfl) (pe_cal c__law_place (hr.mono (by first | decide | omega)) (by rfl) (pa_cons (pv 0) (pa_cons (pv 2) pa_nil))))
      (pss_cons (ps_if (pt_cmp (pc_eqI (pv 4) pe_int) (nomark _)) (pss_one (ps_ret (pe_callTy call_tupleN (by rfl) Z.z_tuple (by decide +kernel) (pa_cons (pe_op op_catN (pe_slice sl_listN (pv 3) po_none (po_some (pv 5))) (pe_slice sl_listN (pv 3) (po_some (pe_op op_add (pv 5) pe_int)) po_none)) pa_nil)))) pss_nil)
      (Evl.pss_cut (ps_if (pt_cmp (pc_eqI (pv 4) pe_int) (nomark _)) (pss_one (ps_asg (pv 2) (pg_sub (pv 3) (pv 5) set_listN))) (pss_one (ps_if (pt_cmp (pc_eqI (pv 4) pe_int) (nomark _)) (pss_one (ps_asg (pe_op op_sub (pe_ix ix_list (pv 3) (pv 5) (fun _ _ => rfl)) (pv 2)) (pg_sub (pv 3) (pv 5) set_listN))) (pss_one (ps_if (PW.pt (pw_and (pt_cmp (pc_eqI (pv 4) pe_int) (nomark _)) (pw_and1 (pt_cmp (pc_gt (pv 2) pe_int) (nomark _))))) (pss_one (ps_asg (pe_ix ix_list (pv 3) (pe_op op_sub (pv 5) pe_int) (fun _ _ => rfl)) (pg_sub (pv 3) (pv 5) set_listN))) (pss_one (ps_asg (pe_cmp (pc_eqI (pe_ix ix_list (pv 3) (pv 5) (fun _ _ => rfl)) pe_int) (nomark _)) (pg_sub (pv 3) (pv 5) set_listN))))))))
      (pss_one (ps_ret (pe_callTy call_tupleN (by rfl) Z.z_tuple (by decide +kernel) (pa_cons (pv 3) pa_nil))))))))))))), ?_⟩
  have lw := mv.len
  have inw : ∀ r ∈ w, inR n r := fun r hr => mv.mem.mp hr
  have len : (w.map V.int).length = w.length := List.length_map ..
  refine ⟨_, rfl, b, _, rfl, .inr (.of (wd.gh _ _ hb)), _, rfl, b, _, rfl, .inr (.of (wd.gh _ _ hb)), fun l H1 n1 => ?_⟩
  obtain ⟨s1, gl, hl, fl⟩ := (Go.refl wd).loc n1
  refine ⟨_, rfl, S, G, 8, rfl, s1.wd, by omega, fun pk H2 p0 p1 s2 => ?_⟩
  have hl2 := s2.hh hl (s1.ns fl)
  have s2 := s1.trans s2
  have small : ∀ {r : Int}, inR n r → ShwS (.int r) := fun {r} h => .small (by have := h.1; omega) (by have := h.2; omega)
  have rowS : ∀ {ws : List Int}, (∀ r ∈ ws, -20 ≤ r ∧ r ≤ 20) → ws.length ≤ 13 → ShwM (rowD ws) ∧ szD (rowD ws) ≤ 100 := fun {ws} h l => by
    refine ⟨shwM_seq (t := true) (fun d hd => ?_) (by rw [List.length_map]; omega), ?_⟩
    · obtain ⟨r, hr, rfl⟩ := List.mem_map.mp hd
      have := h r hr
      exact .small (by omega) (by omega)
    · have := sz_ints ws
      unfold rowD
      omega
  have inb : ∀ r ∈ w, -20 ≤ r ∧ r ≤ 20 := fun r hr => by
    have := inw r hr
    exact ⟨by have := this.1; omega, by have := this.2; omega⟩
  refine ⟨_, rfl, _, _, rfl, rfl, _, rfl, ite2 (fun c => ?_) (fun c => ?_)⟩
  · obtain ⟨G3, s3, g3, k3, -⟩ := s2.frz gl fl hl2
    refine ⟨_, rfl, q (.ref l) (.list (w.map PyData.int)) G3 _ s3 (.lst k3 (DaAll.ints w)) (fun m mv e => by cases e) (shwM_seq (t := false) (fun d hd => ?_) (by rw [List.length_map]; omega)) ?_⟩
    · obtain ⟨r, hr, rfl⟩ := List.mem_map.mp hd
      exact small (inw r hr)
    · show 1 + szL (w.map PyData.int) ≤ 100
      rw [szL_ints]
      omega
  refine ⟨_, rfl, _, _, rfl, rfl, _, rfl, ite2 (fun c => ?_) (fun c => ?_)⟩
  · refine ⟨_, rfl, _, rfl, by show 1 ≤ sizeLine; decide, fun z H3 n3 => ?_⟩
    obtain ⟨s3, gz, hz, fz⟩ := s2.loc n3
    refine ⟨l, z, _, _, rfl, rfl, n3.else hl2, hz, Nat.le_trans (show _ ≤ 100 by rw [len]; show w.length + 1 ≤ 100; omega) (by decide), fun c1 H4 n4 => ?_⟩
    obtain ⟨s4, gc, hc, fc⟩ := s3.loc n4
    refine ⟨c1, _, rfl, .of hc, fun p H5 n5 => ?_⟩
    obtain ⟨G5, s5, g5, k5, -⟩ := s4.know n5
    rw [len] at k5
    have rs := rowS (ws := w ++ [((w.length : Nat) : Int)]) (fun r hr => (List.mem_append.mp hr).elim (inb r) fun hr => by rw [List.mem_singleton.mp hr]; omega) (by rw [List.length_append]; show w.length + 1 ≤ 13; omega)
    refine q (.ref p) (rowD (w ++ [((w.length : Nat) : Int)])) G5 H5 s5 (.tup (xs := (w ++ [((w.length : Nat) : Int)]).map V.int) ?_ (DaAll.ints _)) (len_no_mv ?_) rs.1 rs.2
    · rw [k5, List.map_append]
      rfl
    · rw [List.length_append]
      show w.length + 1 ≠ _
      omega
  refine ⟨_, rfl, _, _, rfl, rfl, _, rfl, ite2 (fun c => iteT ?_) (fun c => ?_)⟩
  · refine ⟨_, rfl, _, rfl, _, rfl, by show 1 ≤ sizeLine; decide, fun t1 Ha na => ⟨by show 0 ≤ sizeLine; decide, fun e1 Hb nb => ⟨by show 0 ≤ sizeLine; decide, fun t2 Hc nc => ⟨by show 1 ≤ sizeLine; decide, fun t3 Hd nd => ⟨_, rfl, by show 1 ≤ sizeLine; decide, fun t4 He ne => ⟨by show 1 ≤ sizeLine; decide, fun t5 Hf nf => ⟨by show 12 ≤ sizeLine; decide, fun lst Hg ng => ?_⟩⟩⟩⟩⟩⟩⟩
    obtain ⟨Ga, sa, ga, ka, -⟩ := s2.know na
    obtain ⟨Gb, sb, gb, kb, -⟩ := sa.know nb
    obtain ⟨Gc, sc, gc, kc, -⟩ := sb.know nc
    obtain ⟨Gd, sd, gd, kd, -⟩ := sc.know nd
    obtain ⟨Ge, se, ge, ke, -⟩ := sd.know ne
    obtain ⟨Gf, sf, gf, kf, -⟩ := se.know nf
    obtain ⟨sg, glst, hlst, flst⟩ := sf.loc ng
    have gbf := gc.trans (gd.trans (ge.trans gf))
    refine ⟨S, Gf, .ref lst, _, rfl, sg.wd, .inl ⟨lst, rfl, sg.ns flst, hlst⟩, by show 0 < 12; decide, by show 12 < 1000000; decide, fun x Hh hx sh => ?_⟩
    have odd : ∀ x ∈ [V.non, .bl true, .int 0, .int (-1), .str "", .str "()", .ref t1, .ref e1, .ref t3, .str "(0 1)", .ref t4, .ref t5], ∃ d, Da Gf x d ∧ (∀ m, IsMv m n → d ≠ rowD m) ∧ ShwM d ∧ szD d ≤ 100 := by
      intro x hx
      simp only [List.mem_cons, List.not_mem_nil, or_false] at hx
      rcases hx with rfl | rfl | rfl | rfl | rfl | rfl | rfl | rfl | rfl | rfl | rfl | rfl
      · exact ⟨.none, .non, fun m mv e => (by unfold rowD at e; cases e), ⟨⟨rfl, rfl, by decide, rfl, by decide⟩, by decide⟩, by decide⟩
      · exact ⟨.bool true, .bl true, fun m mv e => (by unfold rowD at e; cases e), ⟨⟨rfl, rfl, by decide, rfl, by decide⟩, by decide⟩, by decide⟩
      · exact ⟨.int 0, .int 0, fun m mv e => (by unfold rowD at e; cases e), ⟨.small (by decide) (by decide), by decide⟩, by decide⟩
      · exact ⟨.int (-1), .int (-1), fun m mv e => (by unfold rowD at e; cases e), ⟨.small (by decide) (by decide), by decide⟩, by decide⟩
      · exact ⟨.str "", .str _, fun m mv e => (by unfold rowD at e; cases e), ⟨⟨rfl, rfl, by decide, by decide +kernel, by decide⟩, by decide⟩, by decide⟩
      · exact ⟨.str "()", .str _, fun m mv e => (by unfold rowD at e; cases e), ⟨⟨rfl, rfl, by decide, by decide +kernel, by decide⟩, by decide⟩, by decide⟩
      · have rs := rowS (ws := [((w.map V.int).length : Nat)]) (fun r hr => by rw [List.mem_singleton.mp hr]; omega) (by show 1 ≤ 13; decide)
        refine ⟨rowD [((w.map V.int).length : Nat)], .tup (gb.trans gbf _ _ ka) (.cons (.int _) .nil), fun m mv e => ?_, rs.1, rs.2⟩
        have e := rowD_inj e
        have := (mv.mem (x := ((w.map V.int).length : Nat))).mp (by rw [← e]; exact List.mem_singleton.mpr rfl)
        have := this.2
        omega
      · exact ⟨.list [], .lst (gbf _ _ kb) .nil, fun m mv e => (by unfold rowD at e; cases e), ⟨⟨rfl, rfl, by decide, rfl, by decide⟩, by decide⟩, by decide⟩
      · refine ⟨.tuple [.tuple []], .tup (ge.trans gf _ _ kd) (.cons (.tup (gd.trans (ge.trans gf) _ _ kc) .nil) .nil), fun m mv e => ?_, ⟨⟨rfl, rfl, by decide, rfl, by decide⟩, by decide⟩, by decide⟩
        have e := PyData.tuple.inj e
        cases m with
        | nil => cases e
        | cons a r => injection e with e1 e2; cases e1
      · exact ⟨.str "(0 1)", .str _, fun m mv e => (by unfold rowD at e; cases e), ⟨⟨rfl, rfl, by decide, by decide +kernel, by decide⟩, by decide⟩, by decide⟩
      · have rs := rowS (ws := [-1]) (fun r hr => by rw [List.mem_singleton.mp hr]; omega) (by decide)
        refine ⟨rowD [-1], .tup (gf _ _ ke) (.cons (.int _) .nil), fun m mv e => ?_, rs.1, rs.2⟩
        have e := rowD_inj e
        have := (mv.mem (x := -1)).mp (by rw [← e]; exact List.mem_singleton.mpr rfl)
        have := this.1
        omega
      · refine ⟨.tuple [.none], .tup kf (.cons .non .nil), fun m mv e => ?_, ⟨⟨rfl, rfl, by decide, rfl, by decide⟩, by decide⟩, by decide⟩
        have e := PyData.tuple.inj e
        cases m with
        | nil => cases e
        | cons a r => injection e with e1 e2; cases e1
    obtain ⟨d, o1, o2, o3, o4⟩ := odd x hx
    exact q x d Gf Hh (sg.trans sh) o1 o2 o3 o4
  refine ⟨_, rfl, _, _, rfl, rfl, _, rfl, ite2 (fun c => ?_) (fun c => ?_)⟩
  · refine ⟨_, rfl, _, rfl, _, rfl, by show 1 ≤ sizeLine; decide, fun t1 Ha na => ⟨by show 0 ≤ sizeLine; decide, fun e1 Hb nb => ⟨by show 0 ≤ sizeLine; decide, fun t2 Hc nc => ⟨by show 1 ≤ sizeLine; decide, fun t3 Hd nd => ⟨_, rfl, by show 1 ≤ sizeLine; decide, fun t4 He ne => ⟨by show 1 ≤ sizeLine; decide, fun t5 Hf nf => ⟨by show 12 ≤ sizeLine; decide, fun lst Hg ng => ?_⟩⟩⟩⟩⟩⟩⟩
    obtain ⟨Ga, sa, ga, ka, -⟩ := s2.know na
    obtain ⟨Gb, sb, gb, kb, -⟩ := sa.know nb
    obtain ⟨Gc, sc, gc, kc, -⟩ := sb.know nc
    obtain ⟨Gd, sd, gd, kd, -⟩ := sc.know nd
    obtain ⟨Ge, se, ge, ke, -⟩ := sd.know ne
    obtain ⟨Gf, sf, gf, kf, -⟩ := se.know nf
    obtain ⟨sg, glst, hlst, flst⟩ := sf.loc ng
    have gbf := gc.trans (gd.trans (ge.trans gf))
    refine ⟨S, Gf, .ref lst, _, rfl, sg.wd, .inl ⟨lst, rfl, sg.ns flst, hlst⟩, by show 0 < 12; decide, by show 12 < 1000000; decide, fun x Hh hx sh => ?_⟩
    have odd : ∀ x ∈ [V.non, .bl true, .int 0, .int (-1), .str "", .str "()", .ref t1, .ref e1, .ref t3, .str "(0 1)", .ref t4, .ref t5], ∃ d, Da Gf x d ∧ (∀ m, IsMv m n → d ≠ rowD m) ∧ ShwM d ∧ szD d ≤ 100 := by
      intro x hx
      simp only [List.mem_cons, List.not_mem_nil, or_false] at hx
      rcases hx with rfl | rfl | rfl | rfl | rfl | rfl | rfl | rfl | rfl | rfl | rfl | rfl
      · exact ⟨.none, .non, fun m mv e => (by unfold rowD at e; cases e), ⟨⟨rfl, rfl, by decide, rfl, by decide⟩, by decide⟩, by decide⟩
      · exact ⟨.bool true, .bl true, fun m mv e => (by unfold rowD at e; cases e), ⟨⟨rfl, rfl, by decide, rfl, by decide⟩, by decide⟩, by decide⟩
      · exact ⟨.int 0, .int 0, fun m mv e => (by unfold rowD at e; cases e), ⟨.small (by decide) (by decide), by decide⟩, by decide⟩
      · exact ⟨.int (-1), .int (-1), fun m mv e => (by unfold rowD at e; cases e), ⟨.small (by decide) (by decide), by decide⟩, by decide⟩
      · exact ⟨.str "", .str _, fun m mv e => (by unfold rowD at e; cases e), ⟨⟨rfl, rfl, by decide, by decide +kernel, by decide⟩, by decide⟩, by decide⟩
      · exact ⟨.str "()", .str _, fun m mv e => (by unfold rowD at e; cases e), ⟨⟨rfl, rfl, by decide, by decide +kernel, by decide⟩, by decide⟩, by decide⟩
      · have rs := rowS (ws := [((w.map V.int).length : Nat)]) (fun r hr => by rw [List.mem_singleton.mp hr]; omega) (by show 1 ≤ 13; decide)
        refine ⟨rowD [((w.map V.int).length : Nat)], .tup (gb.trans gbf _ _ ka) (.cons (.int _) .nil), fun m mv e => ?_, rs.1, rs.2⟩
        have e := rowD_inj e
        have := (mv.mem (x := ((w.map V.int).length : Nat))).mp (by rw [← e]; exact List.mem_singleton.mpr rfl)
        have := this.2
        omega
      · exact ⟨.list [], .lst (gbf _ _ kb) .nil, fun m mv e => (by unfold rowD at e; cases e), ⟨⟨rfl, rfl, by decide, rfl, by decide⟩, by decide⟩, by decide⟩
      · refine ⟨.tuple [.tuple []], .tup (ge.trans gf _ _ kd) (.cons (.tup (gd.trans (ge.trans gf) _ _ kc) .nil) .nil), fun m mv e => ?_, ⟨⟨rfl, rfl, by decide, rfl, by decide⟩, by decide⟩, by decide⟩
        have e := PyData.tuple.inj e
        cases m with
        | nil => cases e
        | cons a r => injection e with e1 e2; cases e1
      · exact ⟨.str "(0 1)", .str _, fun m mv e => (by unfold rowD at e; cases e), ⟨⟨rfl, rfl, by decide, by decide +kernel, by decide⟩, by decide⟩, by decide⟩
      · have rs := rowS (ws := [-1]) (fun r hr => by rw [List.mem_singleton.mp hr]; omega) (by decide)
        refine ⟨rowD [-1], .tup (gf _ _ ke) (.cons (.int _) .nil), fun m mv e => ?_, rs.1, rs.2⟩
        have e := rowD_inj e
        have := (mv.mem (x := -1)).mp (by rw [← e]; exact List.mem_singleton.mpr rfl)
        have := this.1
        omega
      · refine ⟨.tuple [.none], .tup kf (.cons .non .nil), fun m mv e => ?_, ⟨⟨rfl, rfl, by decide, rfl, by decide⟩, by decide⟩, by decide⟩
        have e := PyData.tuple.inj e
        cases m with
        | nil => cases e
        | cons a r => injection e with e1 e2; cases e1
    obtain ⟨d, o1, o2, o3, o4⟩ := odd x hx
    exact q x d Gf Hh (sg.trans sh) o1 o2 o3 o4
  have w0 : 0 < w.length := by
    have : ¬ (((w.map V.int).length : Nat) : Int) = 0 := dec_not c
    omega
  refine ⟨_, rfl, _, rfl, S, G, _, rfl, s2.wd, by omega, by omega, fun at_ H3 at0 at1 s3 => ?_⟩
  have hl3 := s3.hh hl2 (s2.ns fl)
  have s3 := s2.trans s3
  obtain ⟨k, rfl, hk⟩ : ∃ k : Nat, at_ = (k : Int) ∧ k < w.length := ⟨at_.toNat, by omega, by omega⟩
  obtain ⟨wk, hwk⟩ : ∃ r, w[k]? = some r := ⟨_, List.getElem?_eq_getElem hk⟩
  have ink := inw wk (List.mem_of_getElem? hwk)
  have atk : atI (w.map V.int) (k : Int) = some (.int wk) := atI_nat (by rw [List.getElem?_map, hwk]; rfl)
  refine ⟨_, rfl, _, _, rfl, rfl, _, rfl, ite2 (fun c => ?_) (fun c => ?_)⟩
  · refine ⟨_, rfl, _, rfl, _, rfl, l, _, rfl, .of hl3, fun a1 H4 n4 => ?_⟩
    rw [cut_toN (by omega), Int.toNat_natCast] at n4
    obtain ⟨s4, g1', h1', f1'⟩ := s3.loc n4
    refine ⟨_, rfl, _, rfl, _, _, rfl, rfl, _, rfl, l, _, rfl, .of (n4.else hl3), fun a2 H5 n5 => ?_⟩
    rw [cut_fromN (by omega), show ((k : Int) + 1).toNat = k + 1 by omega] at n5
    obtain ⟨s5, g2', h2', f2'⟩ := s4.loc n5
    refine ⟨a1, a2, _, _, rfl, rfl, n5.else h1', h2', Nat.le_trans (show _ ≤ 100 by rw [List.length_take, List.length_drop, len]; omega) (by decide), fun c1 H6 n6 => ?_⟩
    obtain ⟨s6, gc, hc, fc⟩ := s5.loc n6
    refine ⟨c1, _, rfl, .of hc, fun p H7 n7 => ?_⟩
    obtain ⟨G7, s7, g7, k7, -⟩ := s6.know n7
    rw [← List.map_take, ← List.map_drop, ← List.map_append] at k7
    have lk : (w.take k ++ w.drop (k + 1)).length = w.length - 1 := by
      rw [List.length_append, List.length_take, List.length_drop]
      omega
    have rs := rowS (ws := w.take k ++ w.drop (k + 1)) (fun r hr => (List.mem_append.mp hr).elim (fun hr => inb r (List.mem_of_mem_take hr)) fun hr => inb r (List.mem_of_mem_drop hr)) (by omega)
    exact q (.ref p) (rowD (w.take k ++ w.drop (k + 1))) G7 H7 s7 (.tup k7 (DaAll.ints _)) (len_no_mv (by omega)) rs.1 rs.2
  refine ⟨fun σ' H' => ∃ (ys : List V) (ds : List PyData), σ' = [some (.ref S.a), some (.ref b), some (.int ((w.map V.int).length : Nat)), some (.ref l), some (.int pk), some (.int (k : Int))] ∧ Go S G H G H' ∧ H' l = some (.lst ys) ∧ DaAll G ys ds ∧ (∀ m, IsMv m n → PyData.tuple ds ≠ rowD m) ∧ (∀ d ∈ ds, ShwS d ∧ szD d ≤ 5) ∧ ds.length ≤ 12, ?_, ?_⟩
  · have shS : ∀ {d : PyData}, ShwS d ∧ szD d ≤ 5 → ∀ e ∈ (w.map PyData.int).set k d, ShwS e ∧ szD e ≤ 5 := fun {d} hd e he => by
      rcases List.mem_or_eq_of_mem_set he with he | rfl
      · obtain ⟨r, hr, rfl⟩ := List.mem_map.mp he
        exact ⟨small (inw r hr), by show 1 ≤ 5; decide⟩
      · exact hd
    have ldS : ∀ {d : PyData}, ((w.map PyData.int).set k d).length ≤ 12 := fun {d} => by
      rw [List.length_set, List.length_map]
      omega
    have put : ∀ {H4 H5 : Hp} {v : V} {d : PyData}, Go S G H G H4 → H5 = upd H4 l (.lst ((w.map V.int).set k v)) → Da G v d → (∀ m, IsMv m n → PyData.tuple ((w.map PyData.int).set k d) ≠ rowD m) → ShwS d ∧ szD d ≤ 5 → ∃ (ys : List V) (ds : List PyData), Go S G H G H5 ∧ H5 l = some (.lst ys) ∧ DaAll G ys ds ∧ (∀ m, IsMv m n → PyData.tuple ds ≠ rowD m) ∧ (∀ d ∈ ds, ShwS d ∧ szD d ≤ 5) ∧ ds.length ≤ 12 := fun {H4 H5 v d} s e dv no sh =>
      ⟨_, _, s.mut gl fl e, upd_at e, (DaAll.ints w).set dv k, no, shS sh, ldS⟩
    refine ⟨_, rfl, _, _, rfl, rfl, _, rfl, ite2 (fun c => ?_) (fun c => ?_)⟩
    · refine ⟨_, rfl, _, rfl, _, rfl, l, _, k, rfl, rfl, hl3, by rw [len]; exact hk, fun H5 e5 => ?_⟩
      obtain ⟨ys, ds, r⟩ := put s3 e5 (.int _) (set_no_mv hk fun r hr e => by cases e; have := hr.2; omega) ⟨.small (by omega) (by omega), by show 1 ≤ 5; decide⟩
      exact ⟨ys, ds, rfl, r⟩
    refine ⟨_, rfl, _, _, rfl, rfl, _, rfl, ite2 (fun c => ?_) (fun c => ?_)⟩
    · refine ⟨_, rfl, _, rfl, l, _, _, _, rfl, rfl, .of hl3, atk, _, rfl, _, _, rfl, rfl, _, rfl, _, rfl, l, _, k, rfl, rfl, hl3, by rw [len]; exact hk, fun H5 e5 => ?_⟩
      obtain ⟨ys, ds, r⟩ := put s3 e5 (.int _) (set_no_mv hk fun r hr e => by cases e; have := hr.1; have := ink.2; omega) ⟨.small (by have := ink.1; omega) (by have := ink.2; omega), by show 1 ≤ 5; decide⟩
      exact ⟨ys, ds, rfl, r⟩
    have boo : ∀ H5 : Hp, H5 = upd H3 l (.lst ((w.map V.int).set k (.bl (decide (wk = 1))))) → ∃ (ys : List V) (ds : List PyData), Go S G H G H5 ∧ H5 l = some (.lst ys) ∧ DaAll G ys ds ∧ (∀ m, IsMv m n → PyData.tuple ds ≠ rowD m) ∧ (∀ d ∈ ds, ShwS d ∧ szD d ≤ 5) ∧ ds.length ≤ 12 := fun H5 e5 =>
      put s3 e5 (.bl _) (set_no_mv hk fun r hr e => by cases e) ⟨⟨⟨rfl, rfl, by show 0 ≤ 4; decide, rfl, by show 0 ≤ 500; decide⟩, by show 0 ≤ 20; decide, by show 0 ≤ 3; decide⟩, by show 1 ≤ 5; decide⟩
    refine ⟨_, rfl, _, _, rfl, rfl, _, rfl, ite2 (fun c => ?_) (fun c => iteF ?_)⟩
    · refine ⟨_, rfl, _, _, rfl, rfl, _, rfl, ite2 (fun c2 => ?_) (fun c2 => ?_)⟩
      · have c2 : (1 : Int) < (((w.map V.int).length : Nat) : Int) := dec_of c2
        obtain ⟨j, y, nj, hj, aj⟩ : ∃ (j : Nat) (y : Int), j ≠ k ∧ w[j]? = some y ∧ atI (w.map V.int) ((k : Int) - 1) = some (.int y) := by
          by_cases k0 : k = 0
          · subst k0
            have hl : w.length - 1 < w.length := by omega
            refine ⟨w.length - 1, w[w.length - 1], by omega, List.getElem?_eq_getElem hl, ?_⟩
            have e : w = w.take (w.length - 1) ++ [w[w.length - 1]] := by
              have := List.take_append_getElem hl
              rw [this, List.take_of_length_le (by omega)]
            show atI (w.map V.int) (-1) = _
            generalize w[w.length - 1] = z at e
            rw [e, List.map_append]
            exact atI_last _ _
          · have hl : k - 1 < w.length := by omega
            refine ⟨k - 1, w[k - 1], by omega, List.getElem?_eq_getElem hl, ?_⟩
            rw [show (k : Int) - 1 = ((k - 1 : Nat) : Int) by omega]
            exact atI_nat (by rw [List.getElem?_map, List.getElem?_eq_getElem hl]; rfl)
        have iny := inw y (List.mem_of_getElem? hj)
        refine ⟨_, rfl, _, rfl, _, _, rfl, rfl, l, _, _, _, rfl, rfl, .of hl3, aj, _, rfl, _, rfl, l, _, k, rfl, rfl, hl3, by rw [len]; exact hk, fun H5 e5 => ?_⟩
        obtain ⟨ys, ds, r⟩ := put s3 e5 (.int _) (set_dup_mv hk hj nj) ⟨small iny, by show 1 ≤ 5; decide⟩
        exact ⟨ys, ds, rfl, r⟩
      · refine ⟨_, rfl, _, rfl, l, _, _, _, rfl, rfl, .of hl3, atk, _, _, rfl, rfl, _, rfl, _, rfl, l, _, k, rfl, rfl, hl3, by rw [len]; exact hk, fun H5 e5 => ?_⟩
        obtain ⟨ys, ds, r⟩ := boo H5 e5
        exact ⟨ys, ds, rfl, r⟩
    · refine ⟨_, rfl, _, rfl, l, _, _, _, rfl, rfl, .of hl3, atk, _, _, rfl, rfl, _, rfl, _, rfl, l, _, k, rfl, rfl, hl3, by rw [len]; exact hk, fun H5 e5 => ?_⟩
      obtain ⟨ys, ds, r⟩ := boo H5 e5
      exact ⟨ys, ds, rfl, r⟩
  rintro σ' H4 ⟨ys, ds, rfl, s4, hl4, dy, no, sh, ld⟩
  have ly := dy.length
  refine ⟨_, rfl, l, _, rfl, .of hl4, fun p H5 n5 => ?_⟩
  obtain ⟨G5, s5, g5, k5, -⟩ := s4.know n5
  refine q (.ref p) (.tuple ds) G5 H5 s5 (.tup k5 (dy.up g5)) no (shwM_seq (t := true) (fun d hd => (sh d hd).1) (by omega)) ?_
  have := szL_le5 fun d hd => (sh d hd).2
  show 1 + szL ds ≤ 100
  omega


theorem row_shwM {n : Int} {w : List Int} (n12 : n ≤ 12) (mv : IsMv w n) : ShwM (rowD w) ∧ szD (rowD w) ≤ 100 := by
  have l := mv.len
  refine ⟨shwM_seq (t := true) (fun d hd => ?_) (by rw [List.length_map]; omega), ?_⟩
  · obtain ⟨r, hr, rfl⟩ := List.mem_map.mp hd
    have := mv.mem.mp hr
    exact .small (by omega) (by omega)
  · have := sz_ints w
    unfold rowD
    omega
theorem no_mv {n : Int} {d : PyData} (no : ∀ m, IsMv m n → d ≠ rowD m) : mvOn n d = false := by
  cases e : mvOn n d with
  | false => rfl
  | true =>
    obtain ⟨w, rfl, mw⟩ := mvOn_row e
    exact absurd rfl (no w mw)
/-- a list of moves that is refused, and why -/
structure BadMvs (G : Hp) (n : Int) (p : Addr) (t : Bool) (xs : List V) (ds : List PyData) (due : PyData) : Prop where
  at_ : G p = some (if t then HO.tup xs else HO.lst xs)
  da : DaAll G xs ds
  sh : ∀ d ∈ ds, ShwM d ∧ szD d ≤ 100
  ln : ds.length ≤ 403
  due : (400 < ds.length ∧ due = .tuple [.str "TooMany", .str "list", .int 400]) ∨ (ds.length ≤ 400 ∧ ∃ i : Nat, badAt n ds i ∧ due = .tuple [.str "NotAMove", .int i])
theorem BadMvs.up {G G' : Hp} {n : Int} {p : Addr} {t : Bool} {xs : List V} {ds : List PyData} {due : PyData} (b : BadMvs G n p t xs ds due) (g : Same G G') : BadMvs G' n p t xs ds due := ⟨g _ _ b.at_, b.da.up g, b.sh, b.ln, b.due⟩
def spWrongMoves : Sp := fun vs H Q _ => ∃ (S : Sr) (G : Hp) (n : Int) (m : Addr) (xs : List V) (T : List (List Int)), vs = [.ref S.a, .int n, .ref m] ∧ Wd S G H ∧ 0 ≤ n ∧ n ≤ 12 ∧ G m = some (.lst xs) ∧ DaAll G xs (T.map rowD) ∧ AllMv n T ∧ T.length ≤ 400 ∧
  ∀ (l p du : Addr) (t : Bool) (ys : List V) (ds : List PyData) (due : PyData) (G' H' : Hp), Go S G H G' H' → G' l = some (.lst [.ref p, .ref du]) → BadMvs G' n p t ys ds due → Da G' (.ref du) due → Q (.ref l) H'
theorem ok_wrong_moves (Z : Zs mg) (D : Ds K mg) (c__law_take : Cal P w K mg base "_law_take" 2 ["store", "many"] spTake) (c__law_pick : Cal P w K mg base "_law_pick" 3 ["store", "things"] spPick) (c__law_place : Cal P w K mg base "_law_place" 3 ["store", "size"] spPlace) (c__law_either : Cal P w K mg base "_law_either" 3 ["store", "entries"] spEither) (c__law_move : Cal P w K mg base "_law_move" 4 ["store", "points"] spMove) (c__law_wrong_move : Cal P w K mg base "_law_wrong_move" 4 ["store", "move"] spWrongMove) : Cal P w K mg base "_law_wrong_moves" 5 ["store", "points", "moves"] spWrongMoves := by
  refine Def.cal D.d_law_wrong_moves sc_law_wrong_moves (fun vs H Q E h => ?_) (fun f cdv A outer s H vs Q E hr h => ?_)
  · obtain ⟨S, G, n, m, xs, T, rfl, wd, n0, n12, gm, dx, mvT, lT, q⟩ := h
    rfl
  obtain ⟨S, G, n, m, xs, T, rfl, wd, n0, n12, gm, dx, mvT, lT, q⟩ := h
  refine ⟨_, (pss_cons (ps_set (i := 3) sc_law_wrong_moves.nd rfl (Or.inl rfl) (pe_tupRgN rfl (by rfl) Z.z_tuple (prg_1 (by rfl) Z.z_range (pv 1))))
      (pss_cons (ps_set (i := 4) sc_law_wrong_moves.nd rfl (Or.inl rfl) (pe_cal c__law_wrong_move (hr.mono (by first | decide | omega)) (by rfl) (pa_cons (pv 0) (pa_cons (pe_cal c__law_move (hr.mono (by first | decide | omega)) (by rfl) (pa_cons (pv 0) (pa_cons (pv 1) pa_nil))) pa_nil))))
      (pss_cons (ps_if (pt_cmp (pc_eqI (pe_cal c__law_take (hr.mono (by first | decide | omega)) (by rfl) (pa_cons (pv 0) (pa_cons pe_int pa_nil))) pe_int) (nomark _)) (pss_cons (ps_set (i := 5) sc_law_wrong_moves.nd rfl (Or.inl rfl) (pe_cal c__law_pick (hr.mono (by first | decide | omega)) (by rfl) (pa_cons (pv 0) (pa_cons (pe_lstN (pa_cons (pv 3) (pa_cons (pv 4) pa_nil))) pa_nil))))
      (pss_cons (ps_set (i := 6) sc_law_wrong_moves.nd rfl (Or.inl rfl) (pe_op op_catN (pv 2) (pe_op op_repL (pe_lstN (pa_cons (pv 5) pa_nil)) (pe_op op_sub (pe_op op_add pe_int (pe_cal c__law_take (hr.mono (by first | decide | omega)) (by rfl) (pa_cons (pv 0) (pa_cons pe_int pa_nil)))) (pe_callB call_len_seq (by rfl) Z.z_len (by decide +kernel) (pa_cons (pv 2) pa_nil))))))
      (pss_one (ps_ret (pe_lstN (pa_cons (pe_cal c__law_either (hr.mono (by first | decide | omega)) (by rfl) (pa_cons (pv 0) (pa_cons (pv 6) pa_nil))) (pa_cons (pe_tupN (pa_cons pe_str (pa_cons pe_str (pa_cons pe_int pa_nil)))) pa_nil))))))) pss_nil)
      (pss_cons (ps_set (i := 7) sc_law_wrong_moves.nd rfl (Or.inl rfl) (pe_callB (call_min2 rfl) (by rfl) Z.z_min (by decide +kernel) (pa_cons (pe_cal c__law_place (hr.mono (by first | decide | omega)) (by rfl) (pa_cons (pv 0) (pa_cons (pe_op op_add (pe_callB call_len_seq (by rfl) Z.z_len (by decide +kernel) (pa_cons (pv 2) pa_nil)) pe_int) pa_nil))) (pa_cons pe_int pa_nil))))
      (pss_cons (ps_set (i := 6) sc_law_wrong_moves.nd rfl (Or.inl rfl) (pe_slice sl_listN (pe_op op_catN (pe_op op_catN (pe_slice sl_listN (pv 2) po_none (po_some (pv 7))) (pe_lstN (pa_cons (pv 4) pa_nil))) (pe_slice sl_listN (pv 2) (po_some (pv 7)) po_none)) po_none (po_some pe_int)))
      (Evl.pss_cut (ps_if (PW.pt (pw_and (pt_cmp (pc_lt (pe_callB call_len_seq (by rfl) Z.z_len (by decide +kernel) (pa_cons (pv 6) pa_nil)) pe_int) (nomark _)) (pw_and1 (pt_cmp (pc_eqI (pe_cal c__law_take (hr.mono (by first | decide | omega)) (by rfl) (pa_cons (pv 0) (pa_cons pe_int pa_nil))) pe_int) (nomark _))))) (pss_one (ps_expr (pe_bm PySem.F.plainAttrs_list PySem.F.slot_list_append PySem.F.type_list_append mt_appendN (pv 6) (pa_cons (pe_cal c__law_wrong_move (hr.mono (by first | decide | omega)) (by rfl) (pa_cons (pv 0) (pa_cons (pv 3) pa_nil))) pa_nil)))) pss_nil)
      (pss_one (ps_ret (pe_lstN (pa_cons (pe_cal c__law_either (hr.mono (by first | decide | omega)) (by rfl) (pa_cons (pv 0) (pa_cons (pv 6) pa_nil))) (pa_cons (pe_tupN (pa_cons pe_str (pa_cons (pv 7) pa_nil))) pa_nil))))))))))), ?_⟩
  have lx := dx.length
  rw [List.length_map] at lx
  have shT : ∀ d ∈ T.map rowD, ShwM d ∧ szD d ≤ 100 := fun d hd => by
    obtain ⟨w, hw, rfl⟩ := List.mem_map.mp hd
    exact row_shwM n12 (mvT w hw)
  refine ⟨_, rfl, n, rfl, .of_le (by decide) (by omega) (by decide) (by omega), fun st H1 n1 => ?_⟩
  rw [rgV_rngI] at n1
  obtain ⟨G1, S1, g1, kst, -⟩ := (Go.refl wd).know n1
  refine ⟨_, rfl, _, rfl, _, rfl, S, G1, n, rfl, S1.wd, n0, by omega, fun b w G2 H2 s2 kb mw => ?_⟩
  refine ⟨S, G2, b, w, n, rfl, s2.wd, kb, mw, n0, n12, fun v dv G3 H3 s3 hv nov shv zv => ?_⟩
  have S3 := S1.trans (s2.trans s3)
  have g13 := s2.gg.trans s3.gg
  have kst3 := g13 _ _ kst
  have gm3 := g13 _ _ (g1 _ _ gm)
  have dx3 := (dx.up g1).up g13
  -- the end: the copy, the answer
  have fin : ∀ {G4 H4 H5 H6 H7 : Hp} {p du l : Addr} {t : Bool} {ys : List V} {ds : List PyData} {due : PyData} {ws : List V}, Go S G H G4 H4 → Go S G4 H4 G4 H5 → G4 p = none → H4 p = none → H5 p = some (if t then HO.tup ys else HO.lst ys) → New H5 du (.tup ws) H6 → New H6 l (.lst [.ref p, .ref du]) H7 → DaAll G4 ys ds → (∀ d ∈ ds, ShwM d ∧ szD d ≤ 100) → ds.length ≤ 403 →
      ((400 < ds.length ∧ due = .tuple [.str "TooMany", .str "list", .int 400]) ∨ (ds.length ≤ 400 ∧ ∃ i : Nat, badAt n ds i ∧ due = .tuple [.str "NotAMove", .int i])) → (∀ {G' : Hp}, Same G4 G' → G' du = some (.tup ws) → Da G' (.ref du) due) → Q (.ref l) H7 := by
    intro G4 H4 H5 H6 H7 p du l t ys ds due ws s4 s5 gp fp hp nd nl dy sh ln dq dd
    have S5 := s4.trans s5
    obtain ⟨G5, S5, g5, k5, -⟩ := S5.frz gp (s4.fresh fp) hp
    obtain ⟨G6, S6, g6, k6, -⟩ := S5.know nd
    obtain ⟨G7, S7, g7, k7, -⟩ := S6.know nl
    exact q l p du t ys ds due G7 H7 S7 k7 ⟨g7 _ _ (g6 _ _ k5), ((dy.up g5).up g6).up g7, sh, ln, dq⟩ (dd ((g5.trans g6).trans g7) (g7 _ _ k6))
  refine ⟨_, rfl, S, G3, 4, rfl, S3.wd, by decide, fun u H4 u0 u1 s4 => ⟨_, _, rfl, rfl, _, rfl, ite2 (fun c => ?_) (fun c => ?_)⟩⟩
  · have S4 := S3.trans s4
    refine ⟨_, rfl, _, rfl, _, rfl, by show 2 ≤ sizeLine; decide, fun pl H5 n5 => ?_⟩
    obtain ⟨S5, gpl, hpl, fpl⟩ := S4.loc n5
    refine ⟨S, G3, .ref pl, _, rfl, S5.wd, .inl ⟨pl, rfl, S5.ns fpl, hpl⟩, by show 0 < 2; decide, by show 2 < 1000000; decide, fun e H6 he s6 => ?_⟩
    have S6 := S5.trans s6
    obtain ⟨de, hde, she, sze⟩ : ∃ de, Da G3 e de ∧ ShwM de ∧ szD de ≤ 100 := by
      simp only [List.mem_cons, List.not_mem_nil, or_false] at he
      rcases he with rfl | rfl
      · exact ⟨_, .tup kst3 (DaAll.ints _), row_shwM n12 rng_mv⟩
      · exact ⟨dv, hv, shv, zv⟩
    refine ⟨_, rfl, _, rfl, by show 1 ≤ sizeLine; decide, fun z H7 n7 => ?_⟩
    obtain ⟨S7, gz, hz, fz⟩ := S6.loc n7
    refine ⟨_, rfl, S, G3, 3, rfl, S7.wd, by decide, fun k H8 k0 k1 s8 => ⟨_, _, rfl, rfl, _, rfl, m, _, rfl, .inl (.of ((S7.trans s8).gh _ _ gm3)), _, _, rfl, rfl, ?_⟩⟩
    have S8 := S7.trans s8
    have hz8 := s8.hh hz (S7.ns fz)
    refine ⟨z, _, _, rfl, rfl, hz8, by omega, by omega, ?_, fun r H9 n9 => ?_⟩
    · show 1 * _ ≤ sizeLine
      exact Nat.le_trans (show _ ≤ 1000 by omega) (by decide)
    obtain ⟨S9, gr, hr, fr⟩ := S8.loc n9
    rw [rep_one2] at hr
    refine ⟨m, r, _, _, rfl, rfl, S9.gh _ _ gm3, hr, ?_, fun bt HA nA => ?_⟩
    · rw [List.length_replicate]
      exact Nat.le_trans (show _ ≤ 1000 by omega) (by decide)
    obtain ⟨SA, gb, hb, fb⟩ := S9.loc nA
    refine ⟨_, rfl, _, rfl, S, G3, bt, _, rfl, SA.wd, SA.ns fb, hb, fun p t HB sB gp fp hp => ⟨by show 3 ≤ sizeLine; decide, fun du HC nC => ⟨by show 2 ≤ sizeLine; decide, fun l HD nD => ?_⟩⟩⟩
    have rep : ∀ k : Nat, DaAll G3 (List.replicate k e) (List.replicate k de) := fun k => by
      induction k with
      | zero => exact .nil
      | succ k ih => exact .cons hde ih
    refine fin (ds := T.map rowD ++ List.replicate (401 + k - (xs.length : Nat)).toNat de) SA sB gp fp hp nC nD (dx3.append (rep _)) (fun d hd => ?_) ?_ (.inl ⟨?_, rfl⟩) fun g k => .tup k (.cons (.str _) (.cons (.str _) (.cons (.int _) .nil)))
    · rcases List.mem_append.mp hd with hd | hd
      · exact shT d hd
      · rw [List.eq_of_mem_replicate hd]
        exact ⟨she, sze⟩
    · rw [List.length_append, List.length_replicate, List.length_map]
      omega
    · rw [List.length_append, List.length_replicate, List.length_map]
      omega
  have S4 := S3.trans s4
  refine ⟨_, rfl, _, rfl, m, _, rfl, .inl (.of (S4.gh _ _ gm3)), _, _, rfl, rfl, S, G3, _, rfl, S4.wd, by omega, by omega, fun i0 H5 i00 i01 s5 => ⟨_, _, rfl, ?_⟩⟩
  have S5 := S4.trans s5
  obtain ⟨i, hi, i399, ile⟩ : ∃ i : Nat, (if (399 : Int) < i0 then 399 else i0) = (i : Int) ∧ i ≤ 399 ∧ i ≤ xs.length := ⟨(if (399 : Int) < i0 then 399 else i0).toNat, by split <;> omega, by split <;> omega, by split <;> omega⟩
  rw [hi]
  have sz1 : ∀ {k : Nat}, k ≤ 1000 → k ≤ sizeLine := fun h => Nat.le_trans h (by decide)
  refine ⟨_, rfl, _, rfl, _, rfl, m, _, rfl, .of (S5.gh _ _ gm3), fun l1 H6 n6 => ?_⟩
  rw [cut_toN (by omega), Int.toNat_natCast] at n6
  obtain ⟨S6, g1', h1, f1⟩ := S5.loc n6
  refine ⟨_, rfl, by show 1 ≤ sizeLine; decide, fun z H7 n7 => ?_⟩
  obtain ⟨S7, gz, hz, fz⟩ := S6.loc n7
  refine ⟨l1, z, _, _, rfl, rfl, n7.else h1, hz, sz1 (by rw [List.length_take]; show _ + 1 ≤ 1000; omega), fun l3 H8 n8 => ?_⟩
  obtain ⟨S8, g3, h3, f3⟩ := S7.loc n8
  refine ⟨_, rfl, _, rfl, _, rfl, m, _, rfl, .of (S8.gh _ _ gm3), fun l4 H9 n9 => ?_⟩
  rw [cut_fromN (by omega), Int.toNat_natCast] at n9
  obtain ⟨S9, g4, h4, f4⟩ := S8.loc n9
  refine ⟨l3, l4, _, _, rfl, rfl, n9.else h3, h4, sz1 (by rw [List.length_append, List.length_take, List.length_drop]; show _ + 1 + _ ≤ 1000; omega), fun l6 HA nA => ?_⟩
  obtain ⟨SA, g6, h6, f6⟩ := S9.loc nA
  refine ⟨_, rfl, l6, _, rfl, .of h6, fun bt HB nB => ?_⟩
  rw [cut_toN (by decide)] at nB
  obtain ⟨SB, gb, hb, fb⟩ := SA.loc nB
  have eA : ((T.map rowD).take i).length = i := by
    rw [List.length_take, List.length_map]
    omega
  have prop : ∀ {α : Type} (zs : List α) (y : α), i ≤ zs.length → (zs.take i ++ [y] ++ zs.drop i).take 400 = zs.take i ++ [y] ++ (zs.drop i).take (399 - i) := fun zs y hz => by
    have e : (zs.take i ++ [y]).length = i + 1 := by
      rw [List.length_append, List.length_take]
      show min i zs.length + 1 = i + 1
      omega
    rw [List.take_append, e, List.take_of_length_le (by omega), show 400 - (i + 1) = 399 - i by omega]
  have bad : ∀ zs : List PyData, badAt n ((T.map rowD).take i ++ [dv] ++ zs) i := fun zs => by
    refine ⟨⟨dv, ?_, no_mv nov⟩, fun j d hj hd => ?_⟩
    · rw [List.append_assoc, List.getElem?_append_right (by omega), eA, Nat.sub_self]
      rfl
    · rw [List.append_assoc, List.getElem?_append_left (by omega)] at hd
      obtain ⟨w, hw, rfl⟩ := List.mem_map.mp (List.mem_of_mem_take (List.mem_of_getElem? hd))
      exact mvOn_of n0 (mvT w hw)
  have dX : DaAll G3 ((xs.take i ++ [v] ++ xs.drop i).take 400) (((T.map rowD).take i ++ [dv] ++ (T.map rowD).drop i).take 400) := by
    have := ((dx3.take i).append (.one hv)).append (dx3.drop i)
    exact this.take 400
  rw [show (400 : Int).toNat = 400 from rfl] at hb
  rw [prop (T.map rowD) dv (by rw [List.length_map]; omega)] at dX
  refine ⟨fun σ' H' => ∃ (G' : Hp) (ys : List V) (zs : List PyData), σ' = [some (.ref S.a), some (.int n), some (.ref m), some (.ref st), some v, none, some (.ref bt), some (.int (i : Int))] ∧ Go S G H G' H' ∧ G' bt = none ∧ H' bt = some (.lst ys) ∧ DaAll G' ys ((T.map rowD).take i ++ [dv] ++ zs) ∧ ((T.map rowD).take i ++ [dv] ++ zs).length ≤ 400 ∧ ∀ d ∈ zs, ShwM d ∧ szD d ≤ 100, ?_, ?_⟩
  · have l0 : ((T.map rowD).take i ++ [dv] ++ ((T.map rowD).drop i).take (399 - i)).length ≤ 400 := by
      rw [List.length_append, List.length_append, eA, List.length_take]
      show i + 1 + _ ≤ 400
      omega
    have sh0 : ∀ d ∈ ((T.map rowD).drop i).take (399 - i), ShwM d ∧ szD d ≤ 100 := fun d hd => shT d (List.mem_of_mem_drop (List.mem_of_mem_take hd))
    have lb := dX.length
    refine ⟨_, rfl, bt, _, rfl, .inl (.of hb), _, _, rfl, rfl, ?_⟩
    have here : ∀ {H' : Hp}, Go S G3 HB G3 H' → ∃ (G' : Hp) (ys : List V) (zs : List PyData), [some (.ref S.a), some (.int n), some (.ref m), some (.ref st), some v, none, some (.ref bt), some (.int (i : Int))] = [some (.ref S.a), some (.int n), some (.ref m), some (.ref st), some v, none, some (V.ref bt), some (.int (i : Int))] ∧ Go S G H G' H' ∧ G' bt = none ∧ H' bt = some (.lst ys) ∧ DaAll G' ys ((T.map rowD).take i ++ [dv] ++ zs) ∧ ((T.map rowD).take i ++ [dv] ++ zs).length ≤ 400 ∧ ∀ d ∈ zs, ShwM d ∧ szD d ≤ 100 := fun {H'} s =>
      ⟨G3, _, _, rfl, SB.trans s, gb, s.hh hb (SB.ns fb), dX, l0, sh0⟩
    refine ⟨_, rfl, ite2 (fun c => ⟨_, rfl, S, G3, 3, rfl, SB.wd, by decide, fun u HC u0 u1 sC => ⟨_, _, rfl, rfl, _, rfl, ite2 (fun c2 => ?_) (fun c2 => here sC)⟩⟩) (fun c => iteF (here (Go.refl SB.wd)))⟩
    have c : (((((xs.take i ++ [v] ++ xs.drop i).take 400).length : Nat) : Int)) < 400 := dec_of c
    have SC := SB.trans sC
    have hbC := sC.hh hb (SB.ns fb)
    refine ⟨_, rfl, .inl ⟨rfl, _, .of hbC⟩, _, rfl, _, rfl, S, G3, st, rngI n, n, rfl, SC.wd, kst3, rng_mv, n0, n12, fun v2 d2 GD HD sD hv2 no2 sh2 z2 => ?_⟩
    have hbD := sD.hh hbC (SC.ns fb)
    have gbD := sD.nw hbC gb
    refine ⟨bt, _, _, rfl, rfl, hbD, Hd.lt (by omega), fun HE eE => ?_⟩
    refine ⟨GD, _, ((T.map rowD).drop i).take (399 - i) ++ [d2], rfl, (SC.trans sD).mut gbD fb eE, gbD, upd_at eE, ?_, ?_, fun d hd => ?_⟩
    · rw [← List.append_assoc]
      exact (dX.up sD.gg).append (.one hv2)
    · rw [← List.append_assoc, List.length_append]
      show _ + 1 ≤ 400
      omega
    · rcases List.mem_append.mp hd with hd | hd
      · exact sh0 d hd
      · rw [List.mem_singleton.mp hd]
        exact ⟨sh2, z2⟩
  rintro σ' HC ⟨GC, ys, zs, rfl, SC, gbC, hbC, dy, ly, shz⟩
  refine ⟨_, rfl, _, rfl, S, GC, bt, _, rfl, SC.wd, SC.ns fb, hbC, fun p t HD sD gp fp hp => ⟨_, rfl, by show 2 ≤ sizeLine; decide, fun du HE nE => ⟨by show 2 ≤ sizeLine; decide, fun l HF nF => ?_⟩⟩⟩
  refine fin SC sD gp fp hp nE nF dy (fun d hd => ?_) (by omega) (.inr ⟨ly, i, bad zs, rfl⟩) fun g k => .tup k (.cons (.str _) (.cons (.int _) .nil))
  rcases List.mem_append.mp hd with hd | hd
  · rcases List.mem_append.mp hd with hd | hd
    · exact shT d (List.mem_of_mem_take hd)
    · rw [List.mem_singleton.mp hd]
      exact ⟨shv, zv⟩
  · exact shz d hd


def spWrongNum : Sp := fun vs H Q _ => ∃ (S : Sr) (G : Hp), vs = [.ref S.a] ∧ Wd S G H ∧ ∀ (v : V) (d : PyData) (G' H' : Hp), Go S G H G' H' → BadV G' 13 v d → Q v H'
theorem ok_wrong_number (Z : Zs mg) (D : Ds K mg) (c__law_take : Cal P w K mg base "_law_take" 2 ["store", "many"] spTake) (c__law_pick : Cal P w K mg base "_law_pick" 3 ["store", "things"] spPick) : Cal P w K mg base "_law_wrong_number" 4 ["store"] spWrongNum := by
  refine Def.cal D.d_law_wrong_number sc_law_wrong_number (fun vs H Q E h => ?_) (fun f cdv A outer s H vs Q E hr h => ?_)
  · obtain ⟨S, G, rfl, wd, q⟩ := h
    rfl
  obtain ⟨S, G, rfl, wd, q⟩ := h
  refine ⟨_, (pss_cons (ps_set (i := 1) sc_law_wrong_number.nd rfl (Or.inl rfl) (pe_op op_add (pe_op op_pow pe_int pe_int) (pe_cal c__law_take (hr.mono (by first | decide | omega)) (by rfl) (pa_cons (pv 0) (pa_cons pe_int pa_nil)))))
      (pss_cons (ps_set (i := 2) sc_law_wrong_number.nd rfl (Or.inl rfl) (pe_lstN (pa_cons (pe_un un_neg pe_int) (pa_cons pe_int (pa_cons (pe_un un_neg pe_int) (pa_cons pe_int (pa_cons (pe_op op_add pe_int (pe_cal c__law_take (hr.mono (by first | decide | omega)) (by rfl) (pa_cons (pv 0) (pa_cons pe_int pa_nil)))) (pa_cons (pe_op op_sub (pe_un un_neg pe_int) (pe_cal c__law_take (hr.mono (by first | decide | omega)) (by rfl) (pa_cons (pv 0) (pa_cons pe_int pa_nil)))) (pa_cons (pv 1) (pa_cons (pe_un un_neg (pv 1)) (pa_cons pe_bl (pa_cons pe_bl (pa_cons pe_non pa_nil)))))))))))))
      (pss_one (ps_ret (pe_cal c__law_pick (hr.mono (by first | decide | omega)) (by rfl) (pa_cons (pv 0) (pa_cons (pe_op op_catN (pv 2) (pe_lstN (pa_cons pe_str (pa_cons pe_str (pa_cons pe_str (pa_cons (pe_tupN (pa_cons pe_int pa_nil)) (pa_cons (pe_lstN (pa_cons pe_int pa_nil)) (pa_cons (pe_tupN pa_nil) (pa_cons (pe_lstN pa_nil) pa_nil))))))))) pa_nil))))))), ?_⟩
  refine ⟨_, _, rfl, rfl, ⟨by decide, by decide, by decide⟩, _, rfl, S, G, 1000, rfl, wd, by omega, fun a H1 a0 a1 s1 => ⟨_, _, rfl, rfl, ?_⟩⟩
  refine ⟨_, rfl, _, rfl, _, rfl, S, G, 500, rfl, s1.wd, by omega, fun b H2 b0 b1 s2 => ⟨_, _, rfl, rfl, ?_⟩⟩
  have s2 := s1.trans s2
  refine ⟨_, rfl, _, rfl, S, G, 500, rfl, s2.wd, by omega, fun c H3 c0 c1 s3 => ⟨_, _, rfl, rfl, _, rfl, _, rfl, _, rfl, by show 11 ≤ sizeLine; decide, fun l H4 n4 => ?_⟩⟩
  obtain ⟨s4, gl, hl, fl⟩ := (s2.trans s3).loc n4
  refine ⟨_, rfl, _, rfl, by show 1 ≤ sizeLine; decide, fun t1 H5 n5 => ⟨by show 1 ≤ sizeLine; decide, fun l1 H6 n6 => ⟨by show 0 ≤ sizeLine; decide, fun t2 H7 n7 => ⟨by show 0 ≤ sizeLine; decide, fun l2 H8 n8 => ⟨by show 7 ≤ sizeLine; decide, fun l3 H9 n9 => ?_⟩⟩⟩⟩⟩
  obtain ⟨G5, s5, g5, k5, -⟩ := s4.know n5
  obtain ⟨G6, s6, g6, k6, -⟩ := s5.know n6
  obtain ⟨G7, s7, g7, k7, -⟩ := s6.know n7
  obtain ⟨G8, s8, g8, k8, -⟩ := s7.know n8
  have s9 := (s8.loc n9).1
  have hl9 := n9.else (n8.else (n7.else (n6.else (n5.else hl))))
  refine ⟨l, l3, _, _, rfl, rfl, hl9, n9.at, by show 18 ≤ sizeLine; decide, fun r HA nA => ?_⟩
  obtain ⟨sA, gA, hA, fA⟩ := s9.loc nA
  refine ⟨S, G8, .ref r, _, rfl, sA.wd, .inl ⟨r, rfl, sA.ns fA, hA⟩, by show 0 < 18; decide, by show 18 < 1000000; decide, fun x HB hx sB => ?_⟩
  have ten : (10 : Int) ^ (29 : Int).toNat = 100000000000000000000000000000 := by decide +kernel
  have lim : (10 : Nat) ^ 40 = 10000000000000000000000000000000000000000 := by decide +kernel
  have bad : ∀ x ∈ [V.int (-1), .int 13, .int (-1), .int 13, .int (14 + b), .int (-2 - c), .int ((10 : Int) ^ (29 : Int).toNat + a), .int (-((10 : Int) ^ (29 : Int).toNat + a)), V.bl true, .bl false, .non] ++ [V.str "", .str "3", .str "12", .ref t1, .ref l1, .ref t2, .ref l2], ∃ d, BadV G8 13 x d := by
    intro x hx
    simp only [List.mem_append, List.mem_cons, List.not_mem_nil, or_false] at hx
    rcases hx with (rfl | rfl | rfl | rfl | rfl | rfl | rfl | rfl | rfl | rfl | rfl) | rfl | rfl | rfl | rfl | rfl | rfl | rfl
    · exact ⟨_, .int (by omega) (by rw [lim]; omega)⟩
    · exact ⟨_, .int (by omega) (by rw [lim]; omega)⟩
    · exact ⟨_, .int (by omega) (by rw [lim]; omega)⟩
    · exact ⟨_, .int (by omega) (by rw [lim]; omega)⟩
    · exact ⟨_, .int (by omega) (by rw [lim]; omega)⟩
    · exact ⟨_, .int (by omega) (by rw [lim]; omega)⟩
    · exact ⟨_, .int (by rw [ten]; omega) (by rw [lim, ten]; omega)⟩
    · exact ⟨_, .int (by rw [ten]; omega) (by rw [lim, ten]; omega)⟩
    · exact ⟨_, .bl true, rfl, ⟨rfl, rfl, by decide, rfl, by decide⟩, by decide⟩
    · exact ⟨_, .bl false, rfl, ⟨rfl, rfl, by decide, rfl, by decide⟩, by decide⟩
    · exact ⟨_, .non, rfl, ⟨rfl, rfl, by decide, rfl, by decide⟩, by decide⟩
    · exact ⟨_, .str _, rfl, ⟨rfl, rfl, by decide, by decide +kernel, by decide⟩, by decide⟩
    · exact ⟨_, .str _, rfl, ⟨rfl, rfl, by decide, by decide +kernel, by decide⟩, by decide⟩
    · exact ⟨_, .str _, rfl, ⟨rfl, rfl, by decide, by decide +kernel, by decide⟩, by decide⟩
    · exact ⟨.tuple [.int 3], .tup (g8 _ _ (g7 _ _ (g6 _ _ k5))) (.cons (.int 3) .nil), rfl, ⟨by decide +kernel, rfl, by decide, by decide +kernel, by decide⟩, by decide⟩
    · exact ⟨.list [.int 3], .lst (g8 _ _ (g7 _ _ k6)) (.cons (.int 3) .nil), rfl, ⟨by decide +kernel, rfl, by decide, by decide +kernel, by decide⟩, by decide⟩
    · exact ⟨.tuple [], .tup (g8 _ _ k7) .nil, rfl, ⟨rfl, rfl, by decide, rfl, by decide⟩, by decide⟩
    · exact ⟨.list [], .lst k8 .nil, rfl, ⟨rfl, rfl, by decide, rfl, by decide⟩, by decide⟩
  obtain ⟨d, bd⟩ := bad x hx
  exact q x d G8 HB (sA.trans sB) bd


/-- good moves are judged good -/
theorem cmj_good {G H : Hp} {n : Int} {T : List (List Int)} {DB DN DT : Addr} {E : XK} {good : Int → List (List Int) → Prop} (n0 : 0 ≤ n) (n12 : n ≤ 12) (mv : AllMv n T) (lT : T.length ≤ 400) (q : good n T) : CmJ G H (.int n) (.int n) (T.map rowD) DB DN DT good E := by
  have yes : isNum (.int n) 0 12 = true := by
    show (decide (0 ≤ n) && decide (n ≤ 12)) = true
    rw [decide_eq_true n0, decide_eq_true n12]
    rfl
  refine ⟨fun h => absurd (yes.symm.trans h) (by decide), fun n' e _ _ _ => ?_⟩
  cases e
  refine ⟨fun h => ?_, fun _ i h => ?_, fun _ U e _ => ?_⟩
  · rw [List.length_map] at h
    omega
  · obtain ⟨⟨d, hd, no⟩, -⟩ := h
    obtain ⟨w, hw, rfl⟩ := List.mem_map.mp (List.mem_of_getElem? hd)
    rw [mvOn_of n0 (mv w hw)] at no
    cases no
  · rw [← rows_inj e]
    exact q
def spCommonDue : Sp := fun vs H Q _ => ∃ (S : Sr) (G : Hp) (n : Int) (m : Addr) (xs : List V) (T : List (List Int)), vs = [.ref S.a, .int n, .ref m] ∧ Wd S G H ∧ 0 ≤ n ∧ n ≤ 12 ∧ G m = some (.lst xs) ∧ DaAll G xs (T.map rowD) ∧ AllMv n T ∧ T.length ≤ 400 ∧
  ∀ (G' H' : Hp), Go S G H G' H' → Q (.bl true) H'
theorem ok_common_due {DB DN DT : Addr} (Z : Zs mg) (D : Ds K mg) (c__law_either : Cal P w K mg base "_law_either" 3 ["store", "entries"] spEither) (c_common_held : CalX P w K mg base "common_held" 5 ["points", "moves"] (spCommon K DB DN DT)) (c__law_alike : Cal P w K mg base "_law_alike" 3 ["one", "two"] (spAlike 3)) (c__law_spoil : Cal P w K mg base "_law_spoil" 1 ["given"] spSpoil) : CalG P w K mg base "_law_common_due" 6 ["store", "points", "moves"] spCommonDue := by
  refine Def.calG D.d_law_common_due sc_law_common_due (fun vs H Q E h => ?_) (fun f cdv A outer s H vs Q E hg hr h => ?_)
  · obtain ⟨S, G, n, m, xs, T, rfl, wd, n0, n12, gm, dx, mvT, lT, q⟩ := h
    rfl
  obtain ⟨S, G, n, m, xs, T, rfl, wd, n0, n12, gm, dx, mvT, lT, q⟩ := h
  refine ⟨_, (pss_cons (ps_setLc (i := 3) (own := [("p", 6)]) (g := gName 6) (by rfl) sc_law_common_due.nd rfl rfl (sw_true rfl rfl rfl (by decide +kernel)) (pi_range1 (by rfl) Z.z_range (pa_cons (pv 1) pa_nil)) (blkOk_by (N := ["store", "points", "moves", "due", "handed", "before", "p", "move"]) (sc := defScope s_law_common_due) (by decide +kernel)) (fun _ _ _ _ _ => pg_name (i := 6) sc_law_common_due.nd rfl (Or.inr rfl)) (fun _ _ _ _ _ => pts_one (pt_cmp (pc_eqI (pe_callB (call_len_seqK (K := K) rfl) (by rfl) Z.z_len (by decide +kernel) (pa_cons (pe_lc (own := [("move", 7)]) (g := gName 7) (by rfl) sc_law_common_due.nd (pi_listK (K := K) rfl (pv 2)) (blkOk_in (N := ["store", "points", "moves", "due", "handed", "before", "p", "move"]) (by decide +kernel)) (fun _ _ _ _ _ => pg_name (i := 7) sc_law_common_due.nd rfl (Or.inl rfl)) (fun _ _ _ _ _ => pts_one (pt_cmp (pc_eqI (pe_ix (ix_tupK (K := K) rfl) (pv 7) (pv 6) (fun _ _ => rfl)) (pv 6)) (nomark _))) (fun _ _ _ _ _ => (pv 7))) pa_nil)) (pe_callB (call_len_seqK (K := K) rfl) (by rfl) Z.z_len (by decide +kernel) (pa_cons (pv 2) pa_nil))) (nomark _))) (fun _ _ _ _ _ => (pv 6)))
      (pss_cons (ps_set (i := 4) sc_law_common_due.nd rfl (Or.inl rfl) (pe_cal c__law_either (hr.mono (by first | decide | omega)) (by rfl) (pa_cons (pv 0) (pa_cons (pv 2) pa_nil))))
      (pss_cons (ps_set (i := 5) sc_law_common_due.nd rfl (Or.inl rfl) (pe_callB (call_reprS hr.units hg) (by rfl) Z.z_repr (by decide +kernel) (pa_cons (pv 4) pa_nil)))
      (pss_cons (ps_if (PW.pt (pw_or (pt_not (pt_val (pe_cal c__law_alike (hr.mono (by first | decide | omega)) (by rfl) (pa_cons (pe_calQ c_common_held (hr.mono (by first | decide | omega)) (by rfl) (pa_cons (pv 1) (pa_cons (pv 4) pa_nil))) (pa_cons (pe_callTy call_tupleN (by rfl) Z.z_tuple (by decide +kernel) (pa_cons (pv 3) pa_nil)) pa_nil))))) (pw_or1 (pt_cmpR op_ne (pe_callB (call_reprS hr.units hg) (by rfl) Z.z_repr (by decide +kernel) (pa_cons (pv 4) pa_nil)) (pv 5) (nomark _))))) (pss_one (ps_ret pe_bl)) pss_nil)
      (pss_cons (ps_expr (pe_cal c__law_spoil (hr.mono (by first | decide | omega)) (by rfl) (pa_cons (pv 4) pa_nil)))
      (pss_one (ps_ret (pe_cal c__law_alike (hr.mono (by first | decide | omega)) (by rfl) (pa_cons (pe_calQ c_common_held (hr.mono (by first | decide | omega)) (by rfl) (pa_cons (pv 1) (pa_cons (pv 2) pa_nil))) (pa_cons (pe_callTy call_tupleN (by rfl) Z.z_tuple (by decide +kernel) (pa_cons (pv 3) pa_nil)) pa_nil)))))))))), ?_⟩
  have lx := dx.length
  rw [List.length_map] at lx
  refine ⟨_, rfl, _, rfl, by omega, by omega, fun l hll => ?_⟩
  refine lc_range (lo := 0) (n := n.toNat) (fun i H' => Go S G H G H' ∧ G l = none ∧ H l = none ∧ H' l = some (.lst ((pts (hAll T) i).map V.int))) ?_ ?_ ?_
  · obtain ⟨s2, gl, h2, fl⟩ := (Go.refl wd).loc (p := l) (o := .lst []) ⟨hll, rfl⟩
    exact ⟨s2, gl, fl, h2⟩
  · rintro i H2 hi ⟨s2, gl, fl, h2⟩
    rw [Int.zero_add]
    have ir : inR n (i : Int) := ⟨by omega, by omega⟩
    have hb := s2.gh _ _ gm
    refine ⟨rfl, _, rfl, m, rfl, ⟨_, .of hb⟩, fun z hz => ?_⟩
    refine lc_list (xs := xs) (fun j H' => ∃ ys : List V, Same H2 H' ∧ H2 z = none ∧ H' z = some (.lst ys) ∧ ys.length = ((T.take j).filter fun w => decide (stp w (i : Int) = i)).length) ?_ ?_ ?_ ?_
    · exact ⟨[], New.same (o := .lst []) ⟨hz, rfl⟩, hz, upd_same, rfl⟩
    · rintro j H' - ⟨ys, s3, -⟩
      exact .of (s3 _ _ hb)
    · rintro j x H3 hx ⟨ys, s3, fz, hz3, ly⟩
      obtain ⟨e, he, de⟩ := dx.get hx
      rw [List.getElem?_map] at he
      obtain ⟨w, hw, rfl⟩ := Option.map_eq_some_iff.mp he
      obtain ⟨c, rfl, hc⟩ := rows_ref de
      have mv := mvT w (List.mem_of_getElem? hw)
      have jlt := (List.getElem?_eq_some_iff.mp hw).1
      obtain ⟨y, e1, e2, -⟩ := atI_ints (ns := w) ir.1 (by have := mv.len; have := ir.2; omega)
      have ez : y = stp w (i : Int) := Option.some.inj (e1.symm.trans (stp_at mv ir).1)
      subst ez
      have lf := List.length_filter_le (fun w => decide (stp w (i : Int) = i)) (T.take j)
      have lt := List.length_take_le j T
      refine ⟨rfl, _, rfl, _, rfl, c, _, _, _, rfl, rfl, .of (s3 _ _ (s2.gh _ _ hc)), e2, _, rfl, _, _, rfl, rfl, _, rfl, ite2 (fun c1 => ?_) (fun c1 => ?_)⟩
      · refine ⟨_, rfl, _, hz3, Hd.lt (by omega), _, fun b o h => ?_, fz, upd_same, ?_⟩
        · rw [upd_ne (ne_of_none h fz)]
          exact s3 _ _ h
        · rw [filter_take hw, if_pos c1, List.length_append, List.length_append, ly]
          rfl
      · refine ⟨ys, s3, fz, hz3, ?_⟩
        rw [filter_take hw, if_neg c1, List.append_nil, ly]
    · rintro H3 ⟨ys, s3, fz, hz3, ly⟩
      rw [lx, List.take_length] at ly
      have S3 := s2.pure s3
      have h3 := s3 _ _ h2
      refine ⟨z, _, rfl, .inl (.of hz3), _, rfl, m, _, rfl, .inl (.of (s3 _ _ hb)), _, _, rfl, rfl, _, rfl, ?_⟩
      have eqv : decide (((ys.length : Nat) : Int) = (xs.length : Nat)) = hAll T i := by
        unfold hAll
        rw [Bool.eq_iff_iff, decide_eq_true_eq, List.all_eq_true, ly, lx]
        rw [show (((T.filter fun w => decide (stp w (i : Int) = i)).length : Nat) : Int) = (T.length : Nat) ↔ (T.filter fun w => decide (stp w (i : Int) = i)).length = T.length by omega, List.length_filter_eq_length_iff]
      refine ite2 (fun c1 => ?_) (fun c1 => ?_)
      · refine ⟨_, rfl, _, h3, ?_, S3.mut gl fl rfl, gl, fl, ?_⟩
        · rw [List.length_map]
          exact Hd.lt (Nat.lt_of_le_of_lt (pts_len _ _) (by omega))
        · rw [upd_same, pts_step, show hAll T i = true from eqv.symm.trans c1, List.map_append]
          rfl
      · refine ⟨S3, gl, fl, ?_⟩
        rw [h3, pts_step, show hAll T i = false from eqv.symm.trans (Bool.eq_false_iff.mpr c1)]
        simp
  rintro H1 ⟨s1, gl, fl, h1⟩
  obtain ⟨G2, S2, g2, kl, -⟩ := s1.frz gl fl h1
  have gm2 := g2 _ _ gm
  have dx2 := dx.up g2
  have zT := sz_rows n12 mvT
  have lp : (pts (hAll T) n.toNat).length ≤ 12 := Nat.le_trans (pts_len _ _) (by omega)
  have ra : sameD (rowD (pts (hAll T) n.toNat)) (rowD (pts (hAll T) n.toNat)) = true ∧ PyData.depth (rowD (pts (hAll T) n.toNat)) < 3 ∧ szD (rowD (pts (hAll T) n.toNat)) ≤ 900000 := by
    refine ⟨sameD_self _ _ (Da.tup (H := upd H 0 (.tup ((pts (hAll T) n.toNat).map V.int))) upd_same (DaAll.ints _)), ?_, ?_⟩
    · have := depthAll_of (k := 0) (ds := (pts (hAll T) n.toNat).map PyData.int) fun d hd => by
        obtain ⟨i, hi, rfl⟩ := List.mem_map.mp hd
        exact Nat.le_refl _
      show PyData.depthAll ((pts (hAll T) n.toNat).map PyData.int) + 1 < 3
      omega
    · have := sz_ints (pts (hAll T) n.toNat)
      unfold rowD
      omega
  obtain ⟨a1, a2, a3⟩ := ra
  refine ⟨_, rfl, _, rfl, S, G2, m, xs, rfl, S2.wd, S2.wd.ne gm2, S2.gh _ _ gm2, fun p t H3 s3 gp fp hp => ?_⟩
  have fp := S2.fresh fp
  have S3 := S2.trans s3
  have sh : Shw (sqD t (T.map rowD)) := shw_many (fun d hd => by
    obtain ⟨w, hw, rfl⟩ := List.mem_map.mp hd
    exact (row_shwM n12 (mvT w hw)).1) (by rw [List.length_map]; omega)
  refine ⟨_, rfl, p, sqD t (T.map rowD), rfl, if_sq ▸ Da.of_if hp (dx2.up S3.gh), sh, ?_⟩
  refine ⟨_, rfl, _, rfl, G2, .int n, .int n, p, xs, _, rfl, S3.gh, .int n, hasS_if hp, dx2, by omega, cmj_good n0 n12 mvT lT fun tp G4 H4 s4 k4 => ?_⟩
  have S4 := S3.q s4
  have hp4 := s4.hh _ _ hp
  have kl4 := s4.gg _ _ kl
  refine ⟨_, rfl, l, _, rfl, .of (S4.gh _ _ kl4), fun t2 H5 n5 => ?_⟩
  obtain ⟨G5, S5, g5, k5, o5⟩ := S4.know n5
  refine ⟨G5, .ref tp, .ref t2, _, _, rfl, S5.gh, .tup (g5 _ _ k4) (DaAll.ints _), .tup k5 (DaAll.ints _), a2, a3, fun H6 s6 => ⟨_, rfl, iteBF (by show (!sameD (rowD (pts (hAll T) n.toNat)) (rowD (pts (hAll T) n.toNat))) = false; rw [a1]; rfl) ?_⟩⟩
  have S6 := S5.pure s6
  have hp6 := s6 _ _ (n5.else hp4)
  have gp6 : t = false → G5 p = none := fun e => by
    subst e
    rw [o5 p (n5.ne (ne_none hp4))]
    exact s4.nw2 hp gp
  refine ⟨_, rfl, p, sqD t (T.map rowD), rfl, if_sq ▸ Da.of_if hp6 (((dx2.up s4.gg).up g5).up S6.gh), sh, _, rfl, rfl, _, rfl, iteBF (by simp) ?_⟩
  refine ⟨_, rfl, p, t, _, _, rfl, hp6, ((dx2.up s4.gg).up g5).up S6.gh, by omega, fun H7 c7 e7 => ?_⟩
  have S7 := S6.chT c7 e7 gp6 fp
  have g25 := s4.gg.trans g5
  refine ⟨_, rfl, _, rfl, G5, .int n, .int n, m, xs, _, rfl, S7.gh, .int n, .inl (.inl (S7.gh _ _ (g25 _ _ gm2))), dx2.up g25, by omega, cmj_good n0 n12 mvT lT fun tq G8 H8 s8 k8 => ?_⟩
  have S8 := S7.q s8
  refine ⟨_, rfl, l, _, rfl, .of (S8.gh _ _ (s8.gg _ _ (g25 _ _ kl))), fun t3 H9 n9 => ?_⟩
  obtain ⟨G9, S9, g9, k9, -⟩ := S8.know n9
  refine ⟨G9, .ref tq, .ref t3, _, _, rfl, S9.gh, .tup (g9 _ _ k8) (DaAll.ints _), .tup k9 (DaAll.ints _), a2, a3, fun HA sA => ?_⟩
  show Q (.bl (sameD (rowD (pts (hAll T) n.toNat)) (rowD (pts (hAll T) n.toNat)))) HA
  rw [a1]
  exact q G9 HA (S9.pure sA)


/-- what an except suite gets: an exception that is due -/
def Sx (K : PySem.W.Frag) (mg : Str → Option Value) (G : Hp) (E : XK) (H : Hp) (due : PyData) : Prop := ∀ (C d1 : Addr) (H1 : Hp) (fs : List (Str × V)), Same H H1 → H1 d1 = some (.xd fs) → ErrIs K mg G C fs due → E (.ref C) (some d1) H1
/-- a number and a list that are refused -/
def RefC (K : PySem.W.Frag) (mg : Str → Option Value) (G : Hp) (v : V) (dv : PyData) (ds : List PyData) (DB DN DT : Addr) (due : PyData) : Prop := ∀ (E : XK) (H : Hp) (good : Int → List (List Int) → Prop), Sx K mg G E H due → CmJ G H v dv ds DB DN DT good E
def spRefusing (K : PySem.W.Frag) (mg : Str → Option Value) (DB DN DT : Addr) : Sp := fun vs H Q _ => ∃ (G : Hp) (v w : V) (p : Addr) (t : Bool) (ys : List V) (ds : List PyData) (dv due : PyData), vs = [v, .ref p, w] ∧ Same G H ∧ Da G v dv ∧ G p = some (if t then HO.tup ys else HO.lst ys) ∧ DaAll G ys ds ∧ szL ds ≤ 900000 ∧ Shw (sqD t ds) ∧
  Da G w due ∧ PyData.depth due ≤ 6 ∧ szD due ≤ 1000 ∧ sameD due due = true ∧ RefC K mg G v dv ds DB DN DT due ∧ ∀ H', Same H H' → Q (.bl true) H'
theorem ok_refusing {DB DN DT : Addr} (Z : Zs mg) (D : Ds K mg) (es_BadNumber : Es K mg 0 "BadNumber" DB) (c_common_held : CalX P w K mg base "common_held" 5 ["points", "moves"] (spCommon K DB DN DT)) (c__law_refused_as_h : CalE P w K mg base "_law_refused_as" 9 ["error", "due"] (spRefusedAs K mg)) : CalG P w K mg base "_law_refusing" 10 ["points", "handed", "due"] (spRefusing K mg DB DN DT) := by
  obtain ⟨CH, g_HeldorderError, ex0⟩ := es_BadNumber.hH
  refine Def.calG D.d_law_refusing sc_law_refusing (fun vs H Q E h => ?_) (fun f cdv A outer s H vs Q E hg hr h => ?_)
  · obtain ⟨G, v, w, p, t, ys, ds, dv, due, rfl, gh, hv, gp, dy, zy, sh, hw, dd, zd, sd, ref, q⟩ := h
    rfl
  obtain ⟨G, v, w, p, t, ys, ds, dv, due, rfl, gh, hv, gp, dy, zy, sh, hw, dd, zd, sd, ref, q⟩ := h
  refine ⟨_, (pss_cons (ps_set (i := 3) sc_law_refusing.nd rfl (Or.inl rfl) (pe_callB (call_reprS hr.units hg) (by rfl) Z.z_repr (by decide +kernel) (pa_cons (pv 1) pa_nil)))
      (pss_cons (ps_try_E (i := 4) rfl rfl sc_law_refusing.nd rfl rfl ⟨rfl, by decide, .inl g_HeldorderError⟩ nothing_taken (fun W pn xe tk po => (pss_one (ps_expr (pe_calX c_common_held tk (hr.mono (by first | decide | omega)) (by rfl) (pa_cons (pv 0) (pa_cons (pv 1) pa_nil)))))) (fun a oe cls d pn hz hf => (pss_one (ps_ret (pe_and (pe_calE c__law_refused_as_h (room_suite (hr.mono (by first | decide | omega)) _) (suite_hot hz hf) List.mem_cons_self (by rfl) (pa_cons (pv 4) (pa_cons (pv 2) pa_nil))) (pe_one (pe_cmpR op_eq (pe_callB (call_reprS hr.units hg) (by rfl) Z.z_repr (by decide +kernel) (pa_cons (pv 1) pa_nil)) (pv 3) (nomark _))))))))
      (pss_one (ps_ret pe_bl)))), ?_⟩
  refine ⟨_, rfl, p, sqD t ds, rfl, if_sq ▸ Da.of_if (gh _ _ gp) (dy.up gh), sh, ?_⟩
  refine ⟨_, rfl, _, rfl, G, v, dv, p, ys, ds, rfl, gh, hv, hasS_if (gh _ _ gp), dy, zy, ref _ _ _ fun C1 d1 H1 fs1 s1 h1 is1 => ?_⟩
  have ex : ∀ {C : Addr} {fs : List (Str × V)}, ErrIs K mg G C fs due → Hnd K mg "HeldorderError" C true := fun {C fs} is => by
    obtain ⟨k, nm, es, -⟩ := is
    exact es.hH
  obtain ⟨CH', g', ex1⟩ := ex is1
  obtain rfl : CH = CH' := by
    rw [g_HeldorderError] at g'
    cases g'
    rfl
  refine ⟨true, ex1, fun _ a1 ha1 => fun oe1 hz1 hf1 => ?_, fun z => nomatch z⟩
  refine ⟨_, rfl, _, rfl, G, C1, d1, fs1, due, due, w, rfl, gh.trans s1, suite_err hz1 hf1 h1, is1, hw, dd, zd, fun H2 s2 => ?_⟩
  rw [one_same sd]
  have s12 := gh.trans (s1.trans s2)
  refine ⟨_, rfl, iteT ⟨_, rfl, p, sqD t ds, rfl, if_sq ▸ Da.of_if (s12 _ _ gp) (dy.up s12), sh, _, rfl, rfl, ?_⟩⟩
  rw [decide_eq_true rfl]
  exact q H2 (s1.trans s2)


theorem yes_num {n : Int} (n0 : 0 ≤ n) (n12 : n ≤ 12) : isNum (.int n) 0 12 = true := by
  show (decide (0 ≤ n) && decide (n ≤ 12)) = true
  rw [decide_eq_true n0, decide_eq_true n12]
  rfl
theorem refC_moves {G : Hp} {n : Int} {ds : List PyData} {due : PyData} {DB DN DT : Addr} (es_NotAMove : Es K mg 1 "NotAMove" DN) (es_TooMany : Es K mg 2 "TooMany" DT) (nf_index : PySem.W.findIn K (.ref DN) "index" = some none) (nf_what : PySem.W.findIn K (.ref DT) "what" = some none) (nf_limit : PySem.W.findIn K (.ref DT) "limit" = some none)
    (n0 : 0 ≤ n) (n12 : n ≤ 12) (alt : (400 < ds.length ∧ due = .tuple [.str "TooMany", .str "list", .int 400]) ∨ (ds.length ≤ 400 ∧ ∃ i : Nat, badAt n ds i ∧ due = .tuple [.str "NotAMove", .int i])) : RefC K mg G (.int n) (.int n) ds DB DN DT due := fun E H good sx => by
  refine ⟨fun h => absurd ((yes_num n0 n12).symm.trans h) (by decide), fun n' e _ _ _ => ?_⟩
  cases e
  refine ⟨fun h d1 H1 s1 h1 => ?_, fun l i b d1 H1 s1 h1 => ?_, fun l U e mvU => ?_⟩
  · obtain ⟨-, e⟩ : 400 < ds.length ∧ due = .tuple [.str "TooMany", .str "list", .int 400] := alt.elim id fun z => absurd z.1 (by omega)
    exact sx DT d1 H1 _ s1 h1 ⟨2, _, es_TooMany, .inr (.inr ⟨rfl, _, _, nf_what, nf_limit, rfl, rfl, e⟩)⟩
  · obtain ⟨-, j, bj, ed⟩ := alt.elim (fun z => absurd z.1 (by omega)) id
    obtain rfl : i = j := by
      obtain ⟨⟨a, a1, a2⟩, a3⟩ := b
      obtain ⟨⟨b, b1, b2⟩, b3⟩ := bj
      rcases Nat.lt_trichotomy i j with z | z | z
      · rw [b3 i a z a1] at a2
        cases a2
      · exact z
      · rw [a3 j b z b1] at b2
        cases b2
    exact sx DN d1 H1 _ s1 h1 ⟨1, _, es_NotAMove, .inr (.inl ⟨rfl, _, nf_index, rfl, ed⟩)⟩
  · exfalso
    rcases alt with ⟨z, -⟩ | ⟨-, i, ⟨⟨b, hb, no⟩, -⟩, -⟩
    · omega
    · rw [e] at hb
      obtain ⟨w, hw, rfl⟩ := List.mem_map.mp (List.mem_of_getElem? hb)
      rw [mvOn_of n0 (mvU w hw)] at no
      cases no
theorem refC_num {G : Hp} {v : V} {dv : PyData} {ds : List PyData} {DB DN DT : Addr} (es_BadNumber : Es K mg 0 "BadNumber" DB) (nf_value : PySem.W.findIn K (.ref DB) "value" = some none) (nf_low : PySem.W.findIn K (.ref DB) "low" = some none) (nf_high : PySem.W.findIn K (.ref DB) "high" = some none)
    (bv : BadV G 13 v dv) : RefC K mg G v dv ds DB DN DT (.tuple [.str "BadNumber", dv, .int 0, .int 12]) := fun E H good sx => by
  have no : isNum dv 0 12 = false := bv.no
  refine ⟨fun _ d1 H1 s1 h1 => ?_, fun n e _ n0 n12 => ?_⟩
  · exact sx DB d1 H1 _ s1 h1 ⟨0, _, es_BadNumber, .inl ⟨rfl, v, dv, 0, 12, nf_value, nf_low, nf_high, rfl, rfl, rfl, bv.da, rfl⟩⟩
  · rw [e, yes_num n0 n12] at no
    cases no
theorem rows_shw {t : Bool} {n : Int} {T : List (List Int)} (n12 : n ≤ 12) (mv : AllMv n T) (l : T.length ≤ 403) : Shw (sqD t (T.map rowD)) := shw_many (fun d hd => by
  obtain ⟨w, hw, rfl⟩ := List.mem_map.mp hd
  exact (row_shwM n12 (mv w hw)).1) (by rw [List.length_map]; exact l)
theorem szL_le100 : ∀ {ds : List PyData}, (∀ d ∈ ds, szD d ≤ 100) → szL ds ≤ 100 * ds.length
  | [], _ => Nat.le_refl _
  | d :: ds, h => by
    have h1 := h d List.mem_cons_self
    have h2 := szL_le100 fun e he => h e (List.mem_cons_of_mem _ he)
    show szD d + szL ds ≤ 100 * (ds.length + 1)
    omega
theorem ok_law {f : Addr} {fd : FuncData} {DB DN DT : Addr} (Z : Zs mg) (D : Ds K mg) (F : Fun K "law" "law" s_law f fd) (es_BadNumber : Es K mg 0 "BadNumber" DB) (es_NotAMove : Es K mg 1 "NotAMove" DN) (es_TooMany : Es K mg 2 "TooMany" DT) (nf_value : PySem.W.findIn K (.ref DB) "value" = some none) (nf_low : PySem.W.findIn K (.ref DB) "low" = some none) (nf_high : PySem.W.findIn K (.ref DB) "high" = some none) (nf_index : PySem.W.findIn K (.ref DN) "index" = some none) (nf_what : PySem.W.findIn K (.ref DT) "what" = some none) (nf_limit : PySem.W.findIn K (.ref DT) "limit" = some none)
    (c__law_store : Cal P w K mg base "_law_store" 1 ["script"] (spStore K)) (c__law_arena : Cal P w K mg base "_law_arena" 6 ["store"] spArena) (c__law_pick : Cal P w K mg base "_law_pick" 3 ["store", "things"] spPick) (c__law_listed : Cal P w K mg base "_law_listed" 5 ["store", "points", "made"] spListed) (c__law_common_due : CalG P w K mg base "_law_common_due" 6 ["store", "points", "moves"] spCommonDue) (c__law_wrong_moves : Cal P w K mg base "_law_wrong_moves" 5 ["store", "points", "moves"] spWrongMoves) (c__law_wrong_number : Cal P w K mg base "_law_wrong_number" 4 ["store"] spWrongNum) (c__law_refusing : CalG P w K mg base "_law_refusing" 10 ["points", "handed", "due"] (spRefusing K mg DB DN DT)) : FnG P w K mg base 11 f fd ["script"] (spLaw K) := by
  refine fun_okG F sc_law (fun vs H Q E h => ?_) (fun cdv A outer s H vs Q E hg hr h => ?_)
  · obtain ⟨a, ns, rfl, _⟩ := h
    rfl
  obtain ⟨a, ns, rfl, hS, hn, q⟩ := h
  refine ⟨_, (pss_cons (ps_set (i := 1) sc_law.nd rfl (Or.inl rfl) (pe_cal c__law_store (hr.mono (by first | decide | omega)) (by rfl) (pa_cons (pv 0) pa_nil)))
      (pss_cons (ps_set (i := 2) sc_law.nd rfl (Or.inl rfl) (pe_cal c__law_arena (hr.mono (by first | decide | omega)) (by rfl) (pa_cons (pv 1) pa_nil)))
      (pss_cons (ps_set (i := 3) sc_law.nd rfl (Or.inl rfl) (pe_ix ix_list (pv 2) pe_int (fun _ _ => rfl)))
      (pss_cons (ps_set (i := 4) sc_law.nd rfl (Or.inl rfl) (pe_cal c__law_listed (hr.mono (by first | decide | omega)) (by rfl) (pa_cons (pv 1) (pa_cons (pv 3) (pa_cons (pe_ix ix_list (pv 2) pe_int (fun _ _ => rfl)) pa_nil)))))
      (pss_cons (ps_if (pt_not (pt_val (pe_calG c__law_common_due hg (hr.mono (by first | decide | omega)) (by rfl) (pa_cons (pv 1) (pa_cons (pv 3) (pa_cons (pv 4) pa_nil)))))) (pss_one (ps_ret pe_bl)) pss_nil)
      (pss_cons (ps_set (i := 5) sc_law.nd rfl (Or.inl rfl) (pe_cal c__law_wrong_moves (hr.mono (by first | decide | omega)) (by rfl) (pa_cons (pv 1) (pa_cons (pv 3) (pa_cons (pv 4) pa_nil)))))
      (pss_cons (ps_if (pt_not (pt_val (pe_calG c__law_refusing hg (hr.mono (by first | decide | omega)) (by rfl) (pa_cons (pv 3) (pa_cons (pe_ix ix_list (pv 5) pe_int (fun _ _ => rfl)) (pa_cons (pe_ix ix_list (pv 5) pe_int (fun _ _ => rfl)) pa_nil)))))) (pss_one (ps_ret pe_bl)) pss_nil)
      (pss_cons (ps_set (i := 6) sc_law.nd rfl (Or.inl rfl) (pe_cal c__law_wrong_number (hr.mono (by first | decide | omega)) (by rfl) (pa_cons (pv 1) pa_nil)))
      (pss_cons (ps_set (i := 7) sc_law.nd rfl (Or.inl rfl) (pe_cal c__law_pick (hr.mono (by first | decide | omega)) (by rfl) (pa_cons (pv 1) (pa_cons (pe_lstN (pa_cons (pv 4) (pa_cons (pe_ix ix_list (pv 5) pe_int (fun _ _ => rfl)) pa_nil))) pa_nil))))
      (pss_cons (ps_if (pt_not (pt_val (pe_calG c__law_refusing hg (hr.mono (by first | decide | omega)) (by rfl) (pa_cons (pv 6) (pa_cons (pv 7) (pa_cons (pe_tupN (pa_cons pe_str (pa_cons (pv 6) (pa_cons pe_int (pa_cons pe_int pa_nil))))) pa_nil)))))) (pss_one (ps_ret pe_bl)) pss_nil)
      (Evl.pss_cut (ps_if (PW.pt (pw_and (pt_cmp (pc_lt (pv 3) pe_int) (nomark _)) (pw_and (pt_cmp (pc_gt (pe_callB call_len_seq (by rfl) Z.z_len (by decide +kernel) (pa_cons (pv 4) pa_nil)) pe_int) (nomark _)) (pw_and1 (pt_not (pt_val (pe_calG c__law_refusing hg (hr.mono (by first | decide | omega)) (by rfl) (pa_cons (pe_op op_add (pv 3) pe_int) (pa_cons (pv 4) (pa_cons (pe_tupN (pa_cons pe_str (pa_cons pe_int pa_nil))) pa_nil)))))))))) (pss_one (ps_ret pe_bl)) pss_nil)
      (Evl.pss_cut (ps_if (PW.pt (pw_and (pt_cmp (pc_lt (pv 3) pe_int) (nomark _)) (pw_and1 (pt_not (pt_val (pe_calG c__law_common_due hg (hr.mono (by first | decide | omega)) (by rfl) (pa_cons (pv 1) (pa_cons (pe_op op_add (pv 3) pe_int) (pa_cons (pe_lstN pa_nil) pa_nil))))))))) (pss_one (ps_ret pe_bl)) pss_nil)
      (pss_cons (ps_set (i := 8) sc_law.nd rfl (Or.inl rfl) (pe_slice sl_listN (pe_op op_catN (pe_revN (pv 4)) (pv 4)) po_none (po_some pe_int)))
      (pss_cons (ps_if (PW.pt (pw_or (pt_not (pt_val (pe_calG c__law_common_due hg (hr.mono (by first | decide | omega)) (by rfl) (pa_cons (pv 1) (pa_cons (pv 3) (pa_cons (pv 8) pa_nil)))))) (pw_or1 (pt_not (pt_val (pe_calG c__law_common_due hg (hr.mono (by first | decide | omega)) (by rfl) (pa_cons (pv 1) (pa_cons pe_int (pa_cons (pe_lstN pa_nil) pa_nil))))))))) (pss_one (ps_ret pe_bl)) pss_nil)
      (pss_cons (ps_set (i := 9) sc_law.nd rfl (Or.inl rfl) (pe_slice sl_listN (pe_op op_catN (pe_cal c__law_listed (hr.mono (by first | decide | omega)) (by rfl) (pa_cons (pv 1) (pa_cons (pv 3) (pa_cons (pe_ix ix_list (pv 2) pe_int (fun _ _ => rfl)) pa_nil)))) (pv 4)) po_none (po_some pe_int)))
      (pss_one (ps_ret (pe_and (pe_calG c__law_common_due hg (hr.mono (by first | decide | omega)) (by rfl) (pa_cons (pv 1) (pa_cons (pv 3) (pa_cons (pv 9) pa_nil)))) (pe_one (pe_calG c__law_common_due hg (hr.mono (by first | decide | omega)) (by rfl) (pa_cons (pv 1) (pa_cons (pv 3) (pa_cons (pv 4) pa_nil))))))))))))))))))))))), ?_⟩
  refine ⟨_, rfl, a, ns, rfl, hS, hn, fun S H1 w1 => ?_⟩
  refine ⟨_, rfl, S, H, rfl, w1, fun p n T L H2 arn => ?_⟩
  obtain ⟨G2, s2, k0, m0, ks, ms, gp, gk, gm, dT, dL, ok⟩ := arn.frz
  have n0 := ok.n0
  have n12 := ok.n12
  have lL := ok.lL
  have mvL : AllMv n L := fun w hw => made_mv n0 ok.mv ((ok.grp.mem w).mp hw)
  refine ⟨_, rfl, p, _, 0, _, rfl, rfl, .of (s2.gh _ _ gp), rfl, ?_⟩
  refine ⟨_, rfl, _, rfl, _, rfl, p, _, 2, _, rfl, rfl, .of (s2.gh _ _ gp), rfl, S, G2, n, m0, ms, L, rfl, s2.wd, n0, n12, gm, dL, mvL, lL, fun lo G3 H3 xs M s3 glo flo hlo dx mvM lM => ?_⟩
  obtain ⟨G3, S3, g3, klo, -⟩ := (s2.trans s3).frz glo (s2.fresh flo) hlo
  have dx3 := dx.up g3
  have g23 := s3.gg.trans g3
  refine ⟨_, rfl, _, rfl, _, rfl, S, G3, n, lo, xs, M, rfl, S3.wd, n0, n12, klo, dx3, mvM, lM, fun G4 H4 s4 => ⟨_, rfl, iteBF rfl ?_⟩⟩
  have S4 := S3.trans s4
  refine ⟨_, rfl, _, rfl, _, rfl, S, G4, n, lo, xs, M, rfl, S4.wd, n0, n12, s4.gg _ _ klo, dx3.up s4.gg, mvM, lM, fun bl bp bdu bt ys ds due G5 H5 s5 kbl bad dd => ?_⟩
  have S5 := S4.trans s5
  have zb : szL ds ≤ 900000 := by
    have := szL_le100 fun d hd => (bad.sh d hd).2
    have := bad.ln
    omega
  have shb : Shw (sqD bt ds) := shw_many (fun d hd => (bad.sh d hd).1) bad.ln
  have dueOk : PyData.depth due ≤ 6 ∧ szD due ≤ 1000 ∧ sameD due due = true := by
    rcases bad.due with ⟨-, rfl⟩ | ⟨-, i, -, rfl⟩
    · exact ⟨by decide, by decide, by decide⟩
    · exact ⟨by show max 0 (max 0 0) + 1 ≤ 6; decide, by show 1 + (szD (.str "NotAMove") + (1 + 0)) ≤ 1000; decide, by show (sameD (.str "NotAMove") (.str "NotAMove") && (sameD (.int i) (.int i) && true)) = true; rw [sameD_self _ _ (Da.int (H := H) i)]; decide⟩
  obtain ⟨b1, b2, b3⟩ := dueOk
  refine ⟨_, rfl, _, rfl, bl, _, 0, _, rfl, rfl, .of (S5.gh _ _ kbl), rfl, _, rfl, bl, _, 1, _, rfl, rfl, .of (S5.gh _ _ kbl), rfl, G5, .int n, .ref bdu, bp, bt, ys, ds, .int n, due, rfl, S5.gh, .int n, bad.at_, bad.da, zb, shb, dd, b1, b2, b3, refC_moves es_NotAMove es_TooMany nf_index nf_what nf_limit n0 n12 bad.due, fun H6 s6 => ⟨_, rfl, iteBF rfl ?_⟩⟩
  have S6 := S5.pure s6
  refine ⟨_, rfl, S, G5, rfl, S6.wd, fun v dv G7 H7 s7 bv => ?_⟩
  have S7 := S6.trans s7
  have g37 := s4.gg.trans (s5.gg.trans s7.gg)
  have kbl7 := s7.gg _ _ kbl
  have bad7 := bad.up s7.gg
  have zM : szL (M.map rowD) ≤ 900000 := by
    have := sz_rows n12 mvM
    omega
  refine ⟨_, rfl, _, rfl, _, rfl, bl, _, 0, _, rfl, rfl, .of (S7.gh _ _ kbl7), rfl, by show 2 ≤ sizeLine; decide, fun pl H8 n8 => ?_⟩
  obtain ⟨S8, gpl, hpl, fpl⟩ := S7.loc n8
  refine ⟨S, G7, .ref pl, _, rfl, S8.wd, .inl ⟨pl, rfl, S8.ns fpl, hpl⟩, by show 0 < 2; decide, by show 2 < 1000000; decide, fun e H9 he s9 => ?_⟩
  have S9 := S8.trans s9
  obtain ⟨hd, ht, hys, hds, rfl, h1, h2, h3, h4⟩ : ∃ (hd : Addr) (t : Bool) (ys : List V) (ds : List PyData), e = .ref hd ∧ G7 hd = some (if t then HO.tup ys else HO.lst ys) ∧ DaAll G7 ys ds ∧ szL ds ≤ 900000 ∧ Shw (sqD t ds) := by
    simp only [List.mem_cons, List.not_mem_nil, or_false] at he
    rcases he with rfl | rfl
    · exact ⟨lo, false, xs, _, rfl, g37 _ _ klo, dx3.up g37, zM, rows_shw n12 mvM (by omega)⟩
    · exact ⟨bp, bt, ys, ds, rfl, bad7.at_, bad7.da, zb, shb⟩
  refine ⟨_, rfl, _, rfl, _, rfl, by show 4 ≤ sizeLine; decide, fun du2 HA nA => ?_⟩
  obtain ⟨GA, SA, gA, kA, -⟩ := S9.know nA
  have bvA := bv.up gA
  have due2 : PyData.depth (.tuple [.str "BadNumber", dv, .int 0, .int 12]) ≤ 6 ∧ szD (.tuple [.str "BadNumber", dv, .int 0, .int 12]) ≤ 1000 ∧ sameD (.tuple [.str "BadNumber", dv, .int 0, .int 12]) (.tuple [.str "BadNumber", dv, .int 0, .int 12]) = true := by
    have := bv.sh.dp
    have := bv.sz
    refine ⟨?_, ?_, ?_⟩
    · show max 0 (max (PyData.depth dv) (max 0 (max 0 0))) + 1 ≤ 6
      omega
    · have e : szD (.str "BadNumber") = 10 := by decide
      show 1 + (szD (.str "BadNumber") + (szD dv + (1 + (1 + 0)))) ≤ 1000
      omega
    · show (sameD (.str "BadNumber") (.str "BadNumber") && (sameD dv dv && (sameD (.int 0) (.int 0) && (sameD (.int 12) (.int 12) && true)))) = true
      rw [sameD_self _ _ bv.da]
      decide
  obtain ⟨c1, c2, c3⟩ := due2
  refine ⟨GA, v, .ref du2, hd, ht, hys, hds, dv, _, rfl, SA.gh, bvA.da, gA _ _ h1, h2.up gA, h3, h4, .tup kA (.cons (.str _) (.cons bvA.da (.cons (.int _) (.cons (.int _) .nil)))), c1, c2, c3, refC_num es_BadNumber nf_value nf_low nf_high bvA, fun HB sB => ⟨_, rfl, iteBF rfl ?_⟩⟩
  have SB := SA.pure sB
  have g3A := g37.trans gA
  refine ⟨fun σ' H' => ∃ G' : Hp, σ' = [some (.ref a), some (.ref S.a), some (.ref p), some (.int n), some (.ref lo), some (.ref bl), some v, some (.ref hd), none, none] ∧ Go S H H1 G' H' ∧ Same GA G', ?_, ?_⟩
  · have out : ∀ {G' H' : Hp}, Go S H H1 G' H' → Same GA G' → ∃ G'' : Hp, [some (.ref a), some (.ref S.a), some (.ref p), some (.int n), some (.ref lo), some (.ref bl), some v, some (.ref hd), none, none] = [some (.ref a), some (V.ref S.a), some (.ref p), some (.int n), some (.ref lo), some (.ref bl), some v, some (.ref hd), none, none] ∧ Go S H H1 G'' H' ∧ Same GA G'' := fun {G' H'} s g => ⟨G', rfl, s, g⟩
    refine ⟨_, rfl, _, _, rfl, rfl, _, rfl, ite2 (fun c => ⟨_, rfl, lo, xs, rfl, .inl (.of (SB.gh _ _ (g3A _ _ klo))), _, _, rfl, rfl, _, rfl, ite2 (fun c2 => ?_) (fun c2 => iteF (out SB (Same.refl _)))⟩) (fun c => iteF (out SB (Same.refl _)))⟩
    have c : n < 12 := dec_of c
    have c2 : (0 : Int) < ((xs.length : Nat) : Int) := dec_of c2
    have lx := dx.length
    rw [List.length_map] at lx
    obtain ⟨w0, hw0⟩ : ∃ w, M[0]? = some w := ⟨_, List.getElem?_eq_getElem (show 0 < M.length by omega)⟩
    have lw := (mvM w0 (List.mem_of_getElem? hw0)).len
    have bad0 : badAt (n + 1) (M.map rowD) 0 := ⟨⟨rowD w0, by rw [List.getElem?_map, hw0]; rfl, no_mv (len_no_mv (by omega))⟩, fun j d hj _ => absurd hj (Nat.not_lt_zero j)⟩
    refine ⟨_, rfl, _, _, rfl, rfl, _, rfl, by show 2 ≤ sizeLine; decide, fun du3 HC nC => ?_⟩
    obtain ⟨GC, SC, gC, kC, -⟩ := SB.know nC
    refine ⟨GC, .int (n + 1), .ref du3, lo, false, xs, M.map rowD, .int (n + 1), .tuple [.str "NotAMove", .int 0], rfl, SC.gh, .int _, gC _ _ (g3A _ _ klo), (dx3.up g3A).up gC, zM, rows_shw n12 mvM (by omega), .tup kC (.cons (.str _) (.cons (.int _) .nil)), by decide, by decide, by decide, refC_moves es_NotAMove es_TooMany nf_index nf_what nf_limit (by omega) (by omega) (.inr ⟨by rw [List.length_map]; omega, 0, bad0, rfl⟩), fun HD sD => ⟨_, rfl, iteBF rfl (out (SC.pure sD) gC)⟩⟩
  rintro σ' HC ⟨GC, rfl, SC, gC⟩
  refine ⟨fun σ' H' => ∃ G' : Hp, σ' = [some (.ref a), some (.ref S.a), some (.ref p), some (.int n), some (.ref lo), some (.ref bl), some v, some (.ref hd), none, none] ∧ Go S H H1 G' H' ∧ Same GA G', ?_, ?_⟩
  · refine ⟨_, rfl, _, _, rfl, rfl, _, rfl, ite2 (fun c => ⟨_, rfl, _, rfl, _, _, rfl, rfl, by show 0 ≤ sizeLine; decide, fun e0 HD nD => ?_⟩) (fun c => iteF ⟨GC, rfl, SC, gC⟩)⟩
    have c : n < 12 := dec_of c
    obtain ⟨GD, SD, gD, kD, -⟩ := SC.know nD
    exact ⟨S, GD, n + 1, e0, [], [], rfl, SD.wd, by omega, by omega, kD, .nil, fun w hw => (by cases hw), by decide, fun GE HE sE => ⟨_, rfl, iteBF rfl ⟨GE, rfl, SD.trans sE, gC.trans (gD.trans sE.gg)⟩⟩⟩
  rintro σ' HD ⟨GD, rfl, SD, gD⟩
  have g3D := g3A.trans gD
  have kloD := g3D _ _ klo
  have dxD := dx3.up g3D
  have lx := dx.length
  rw [List.length_map] at lx
  have sz1 : ∀ {k : Nat}, k ≤ 1000 → k ≤ sizeLine := fun h => Nat.le_trans h (by decide)
  refine ⟨_, rfl, lo, xs, rfl, .of (SD.gh _ _ kloD), fun rv HE nE => ⟨_, rfl, ?_⟩⟩
  obtain ⟨SE, grv, hrv, frv⟩ := SD.loc nE
  refine ⟨rv, lo, _, _, rfl, rfl, hrv, SE.gh _ _ kloD, sz1 (by rw [List.length_reverse]; omega), fun ct HF nF => ?_⟩
  obtain ⟨SF, gct, hct, fct⟩ := SE.loc nF
  refine ⟨_, rfl, ct, _, rfl, .of hct, fun tw HG nG => ?_⟩
  rw [cut_toN (by decide)] at nG
  obtain ⟨GG, SG, gG, ktw, -⟩ := SF.know nG
  obtain ⟨U, dU, mU⟩ := rows_sub dxD mvM (ys := (xs.reverse ++ xs).take (400 : Int).toNat) fun z hz => (List.mem_append.mp (List.mem_of_mem_take hz)).elim List.mem_reverse.mp id
  have lU := dU.length
  rw [List.length_map, List.length_take, show (400 : Int).toNat = 400 from rfl] at lU
  refine ⟨_, rfl, _, rfl, _, rfl, S, GG, n, tw, _, U, rfl, SG.wd, n0, n12, ktw, dU.up gG, mU, by omega, fun GH HH sH => ⟨_, rfl, iteBF rfl ?_⟩⟩
  have SH := SG.trans sH
  refine ⟨_, rfl, by show 0 ≤ sizeLine; decide, fun e1 HI nI => ?_⟩
  obtain ⟨GI, SI, gI, kI, -⟩ := SH.know nI
  refine ⟨S, GI, 12, e1, [], [], rfl, SI.wd, by decide, by decide, kI, .nil, fun w hw => (by cases hw), by decide, fun GJ HJ sJ => ⟨_, rfl, iteBF rfl ?_⟩⟩
  have SJ := SI.trans sJ
  have gDJ := gG.trans (sH.gg.trans (gI.trans sJ.gg))
  have g2J := g23.trans (g3D.trans gDJ)
  refine ⟨_, rfl, _, rfl, _, rfl, p, _, 2, _, rfl, rfl, .of (SJ.gh _ _ (g2J _ _ gp)), rfl, S, GJ, n, m0, ms, L, rfl, SJ.wd, n0, n12, g2J _ _ gm, dL.up g2J, mvL, lL, fun ml GK HK zs W sK gml fml hml dz mvW lW => ?_⟩
  have SK := SJ.trans sK
  have lz := dz.length
  rw [List.length_map] at lz
  have kloJ := gDJ _ _ kloD
  have kloK := sK.gg _ _ kloJ
  refine ⟨_, rfl, ml, lo, _, _, rfl, rfl, hml, SK.gh _ _ kloK, sz1 (by omega), fun ct2 HL nL => ?_⟩
  obtain ⟨SL, gct2, hct2, fct2⟩ := SK.loc nL
  refine ⟨_, rfl, ct2, _, rfl, .of hct2, fun mo HM nM => ?_⟩
  rw [cut_toN (by decide)] at nM
  obtain ⟨GM, SM, gM, kmo, -⟩ := SL.know nM
  have dBoth : DaAll GK (zs ++ xs) ((W ++ M).map rowD) := by
    rw [List.map_append]
    exact dz.append (dxD.up (gDJ.trans sK.gg))
  obtain ⟨U2, dU2, mU2⟩ := rows_sub dBoth (fun w hw => (List.mem_append.mp hw).elim (mvW w) (mvM w)) (ys := (zs ++ xs).take (400 : Int).toNat) fun z hz => List.mem_of_mem_take hz
  have lU2 := dU2.length
  rw [List.length_map, List.length_take, show (400 : Int).toNat = 400 from rfl] at lU2
  refine ⟨_, rfl, _, rfl, _, rfl, S, GM, n, mo, _, U2, rfl, SM.wd, n0, n12, kmo, dU2.up gM, mU2, by omega, fun GN HN sN => ⟨_, rfl, iteT ?_⟩⟩
  have SN := SM.trans sN
  have gDN := gDJ.trans (sK.gg.trans (gM.trans sN.gg))
  exact ⟨_, rfl, _, rfl, _, rfl, S, GN, n, lo, xs, M, rfl, SN.wd, n0, n12, gDN _ _ kloD, dxD.up gDN, mvM, lM, fun GO HO sO => q HO⟩

end
theorem w_Z {P : Program} {w : World} {K : PySem.W.Frag} {h : Heap} {mg : Str → Option Value} (X : K.In h) (G : h.Ns mainGlobals mg) (c : SaysW faL fnL exL K) : Zs mg := ⟨He.free_ok X G (c.fact 1 (f := .free "ValueError") rfl),
    He.free_ok X G (c.fact 2 (f := .free "isinstance") rfl),
    He.free_ok X G (c.fact 3 (f := .free "int") rfl),
    He.free_ok X G (c.fact 4 (f := .free "bool") rfl),
    He.free_ok X G (c.fact 5 (f := .free "str") rfl),
    He.free_ok X G (c.fact 6 (f := .free "tuple") rfl),
    He.free_ok X G (c.fact 7 (f := .free "list") rfl),
    He.free_ok X G (c.fact 8 (f := .free "len") rfl),
    He.free_ok X G (c.fact 9 (f := .free "range") rfl),
    He.free_ok X G (c.fact 10 (f := .free "all") rfl),
    He.free_ok X G (c.fact 11 (f := .free "sorted") rfl),
    He.free_ok X G (c.fact 12 (f := .free "min") rfl),
    He.free_ok X G (c.fact 13 (f := .free "sum") rfl),
    He.free_ok X G (c.fact 14 (f := .free "enumerate") rfl),
    He.free_ok X G (c.fact 15 (f := .free "repr") rfl),
    He.int_ok X G (c.fact 16 (f := .int "MOST_POINTS" 12) rfl),
    He.int_ok X G (c.fact 17 (f := .int "MOST_LIST" 400) rfl)⟩
theorem w_D {P : Program} {w : World} {K : PySem.W.Frag} {h : Heap} {mg : Str → Option Value} (X : K.In h) (G : h.Ns mainGlobals mg) (c : SaysW faL fnL exL K) : Ds K mg := ⟨def_w X G (c.def_ 1 (d := dFn "is_number" s_is_number) rfl) (c.fact 18 (f := .glo "is_number") rfl) (fun _ _ _ _ _ _ us hl => match us, hl with | [_, _, _], _ => rfl),
    def_w X G (c.def_ 2 (d := dFn "is_point" s_is_point) rfl) (c.fact 19 (f := .glo "is_point") rfl) (fun _ _ _ _ _ _ us hl => match us, hl with | [_, _], _ => rfl),
    def_w X G (c.def_ 3 (d := dFn "is_move_on" s_is_move_on) rfl) (c.fact 20 (f := .glo "is_move_on") rfl) (fun _ _ _ _ _ _ us hl => match us, hl with | [_, _], _ => rfl),
    def_w X G (c.def_ 4 (d := dFn "check_number" s_check_number) rfl) (c.fact 21 (f := .glo "check_number") rfl) (fun _ _ _ _ _ _ us hl => match us, hl with | [_, _, _], _ => rfl),
    def_w X G (c.def_ 5 (d := dFn "check_points" s_check_points) rfl) (c.fact 22 (f := .glo "check_points") rfl) (fun _ _ _ _ _ _ us hl => match us, hl with | [_], _ => rfl),
    def_w X G (c.def_ 6 (d := dFn "check_moves" s_check_moves) rfl) (c.fact 23 (f := .glo "check_moves") rfl) (fun _ _ _ _ _ _ us hl => match us, hl with | [_, _, _, _], _ => rfl),
    def_w X G (c.def_ 7 (d := dFn "held_by_all" s_held_by_all) rfl) (c.fact 24 (f := .glo "held_by_all") rfl) (fun _ _ _ _ _ _ us hl => match us, hl with | [_, _], _ => rfl),
    def_w X G (c.def_ 8 (d := dFn "common_held" s_common_held) rfl) (c.fact 25 (f := .glo "common_held") rfl) (fun _ _ _ _ _ _ us hl => match us, hl with | [_, _], _ => rfl),
    def_w X G (c.def_ 9 (d := dFn "_law_store" s_law_store) rfl) (c.fact 26 (f := .glo "_law_store") rfl) (fun _ _ _ _ _ _ us hl => match us, hl with | [_], _ => rfl),
    def_w X G (c.def_ 10 (d := dFn "_law_mixed" s_law_mixed) rfl) (c.fact 27 (f := .glo "_law_mixed") rfl) (fun _ _ _ _ _ _ us hl => match us, hl with | [_, _], _ => rfl),
    def_w X G (c.def_ 11 (d := dFn "_law_take" s_law_take) rfl) (c.fact 28 (f := .glo "_law_take") rfl) (fun _ _ _ _ _ _ us hl => match us, hl with | [_, _], _ => rfl),
    def_w X G (c.def_ 12 (d := dFn "_law_pick" s_law_pick) rfl) (c.fact 29 (f := .glo "_law_pick") rfl) (fun _ _ _ _ _ _ us hl => match us, hl with | [_, _], _ => rfl),
    def_w X G (c.def_ 13 (d := dFn "_law_place" s_law_place) rfl) (c.fact 30 (f := .glo "_law_place") rfl) (fun _ _ _ _ _ _ us hl => match us, hl with | [_, _], _ => rfl),
    def_w X G (c.def_ 14 (d := dFn "_law_drawn" s_law_drawn) rfl) (c.fact 31 (f := .glo "_law_drawn") rfl) (fun _ _ _ _ _ _ us hl => match us, hl with | [_, _, _], _ => rfl),
    def_w X G (c.def_ 15 (d := dFn "_law_either" s_law_either) rfl) (c.fact 32 (f := .glo "_law_either") rfl) (fun _ _ _ _ _ _ us hl => match us, hl with | [_, _], _ => rfl),
    def_w X G (c.def_ 16 (d := dFn "_law_after" s_law_after) rfl) (c.fact 33 (f := .glo "_law_after") rfl) (fun _ _ _ _ _ _ us hl => match us, hl with | [_, _], _ => rfl),
    def_w X G (c.def_ 17 (d := dFn "_law_renamed" s_law_renamed) rfl) (c.fact 34 (f := .glo "_law_renamed") rfl) (fun _ _ _ _ _ _ us hl => match us, hl with | [_, _], _ => rfl),
    def_w X G (c.def_ 18 (d := dFn "_law_move" s_law_move) rfl) (c.fact 35 (f := .glo "_law_move") rfl) (fun _ _ _ _ _ _ us hl => match us, hl with | [_, _], _ => rfl),
    def_w X G (c.def_ 19 (d := dFn "_law_group" s_law_group) rfl) (c.fact 36 (f := .glo "_law_group") rfl) (fun _ _ _ _ _ _ us hl => match us, hl with | [_, _, _], _ => rfl),
    def_w X G (c.def_ 20 (d := dFn "_law_alike" s_law_alike) rfl) (c.fact 37 (f := .glo "_law_alike") rfl) (fun _ _ _ _ _ _ us hl => match us, hl with | [_, _], _ => rfl),
    def_w X G (c.def_ 21 (d := dFn "_law_wrong_move" s_law_wrong_move) rfl) (c.fact 38 (f := .glo "_law_wrong_move") rfl) (fun _ _ _ _ _ _ us hl => match us, hl with | [_, _], _ => rfl),
    def_w X G (c.def_ 22 (d := dFn "_law_spoil" s_law_spoil) rfl) (c.fact 39 (f := .glo "_law_spoil") rfl) (fun _ _ _ _ _ _ us hl => match us, hl with | [_], _ => rfl),
    def_w X G (c.def_ 23 (d := dFn "_law_arena_menu" s_law_arena_menu) rfl) (c.fact 40 (f := .glo "_law_arena_menu") rfl) (fun _ _ _ _ _ _ us hl => match us, hl with | [_], _ => rfl),
    def_w X G (c.def_ 24 (d := dFn "_law_turned_blocks" s_law_turned_blocks) rfl) (c.fact 41 (f := .glo "_law_turned_blocks") rfl) (fun _ _ _ _ _ _ us hl => match us, hl with | [_, _], _ => rfl),
    def_w X G (c.def_ 25 (d := dFn "_law_arena_told" s_law_arena_told) rfl) (c.fact 42 (f := .glo "_law_arena_told") rfl) (fun _ _ _ _ _ _ us hl => match us, hl with | [_, _], _ => rfl),
    def_w X G (c.def_ 26 (d := dFn "_law_arena" s_law_arena) rfl) (c.fact 43 (f := .glo "_law_arena") rfl) (fun _ _ _ _ _ _ us hl => match us, hl with | [_], _ => rfl),
    def_w X G (c.def_ 27 (d := dFn "_law_error" s_law_error) rfl) (c.fact 44 (f := .glo "_law_error") rfl) (fun _ _ _ _ _ _ us hl => match us, hl with | [_], _ => rfl),
    def_w X G (c.def_ 28 (d := dFn "_law_refused_as" s_law_refused_as) rfl) (c.fact 45 (f := .glo "_law_refused_as") rfl) (fun _ _ _ _ _ _ us hl => match us, hl with | [_, _], _ => rfl),
    def_w X G (c.def_ 29 (d := dFn "_law_listed" s_law_listed) rfl) (c.fact 46 (f := .glo "_law_listed") rfl) (fun _ _ _ _ _ _ us hl => match us, hl with | [_, _, _], _ => rfl),
    def_w X G (c.def_ 30 (d := dFn "_law_wrong_moves" s_law_wrong_moves) rfl) (c.fact 47 (f := .glo "_law_wrong_moves") rfl) (fun _ _ _ _ _ _ us hl => match us, hl with | [_, _, _], _ => rfl),
    def_w X G (c.def_ 31 (d := dFn "_law_wrong_number" s_law_wrong_number) rfl) (c.fact 48 (f := .glo "_law_wrong_number") rfl) (fun _ _ _ _ _ _ us hl => match us, hl with | [_], _ => rfl),
    def_w X G (c.def_ 32 (d := dFn "_law_common_due" s_law_common_due) rfl) (c.fact 49 (f := .glo "_law_common_due") rfl) (fun _ _ _ _ _ _ us hl => match us, hl with | [_, _, _], _ => rfl),
    def_w X G (c.def_ 33 (d := dFn "_law_refusing" s_law_refusing) rfl) (c.fact 50 (f := .glo "_law_refusing") rfl) (fun _ _ _ _ _ _ us hl => match us, hl with | [_, _, _], _ => rfl)⟩
theorem w_ec_BadNumber {P : Program} {w : World} {K : PySem.W.Frag} {h : Heap} {mg : Str → Option Value} (X : K.In h) (G : h.Ns mainGlobals mg) (c : SaysW faL fnL exL K) : Ec K mg "BadNumber" (He.ga K "BadNumber") := ec_w X G (c.fact 51 (f := .glo "BadNumber") rfl) (c.more 0 (f := ecB "BadNumber") rfl)
theorem w_es_BadNumber {P : Program} {w : World} {K : PySem.W.Frag} {h : Heap} {mg : Str → Option Value} (X : K.In h) (G : h.Ns mainGlobals mg) (c : SaysW faL fnL exL K) : Es K mg 0 "BadNumber" (He.ga K "BadNumber") := ⟨(w_ec_BadNumber (P := P) (w := w) X G c), by decide, is_w X G (c.fact 51 (f := .glo "BadNumber") rfl) (c.more 1 (f := isB "BadNumber" "BadNumber" true) rfl),
    is_w X G (c.fact 52 (f := .glo "NotAMove") rfl) (c.more 2 (f := isB "BadNumber" "NotAMove" false) rfl),
    is_w X G (c.fact 53 (f := .glo "TooMany") rfl) (c.more 3 (f := isB "BadNumber" "TooMany" false) rfl),
    is_w X G (c.fact 54 (f := .glo "BadEdit") rfl) (c.more 4 (f := isB "BadNumber" "BadEdit" false) rfl),
    is_w X G (c.fact 55 (f := .glo "BadText") rfl) (c.more 5 (f := isB "BadNumber" "BadText" false) rfl),
    is_w X G (c.fact 56 (f := .glo "FullLot") rfl) (c.more 6 (f := isB "BadNumber" "FullLot" false) rfl),
    is_w X G (c.fact 57 (f := .glo "GameOver") rfl) (c.more 7 (f := isB "BadNumber" "GameOver" false) rfl),
    is_w X G (c.fact 58 (f := .glo "NoSuchLength") rfl) (c.more 8 (f := isB "BadNumber" "NoSuchLength" false) rfl),
    is_w X G (c.fact 59 (f := .glo "NotABase") rfl) (c.more 9 (f := isB "BadNumber" "NotABase" false) rfl),
    is_w X G (c.fact 60 (f := .glo "NotAChain") rfl) (c.more 10 (f := isB "BadNumber" "NotAChain" false) rfl),
    is_w X G (c.fact 61 (f := .glo "NotAColumn") rfl) (c.more 11 (f := isB "BadNumber" "NotAColumn" false) rfl),
    is_w X G (c.fact 62 (f := .glo "NotACount") rfl) (c.more 12 (f := isB "BadNumber" "NotACount" false) rfl),
    is_w X G (c.fact 63 (f := .glo "NotAFailing") rfl) (c.more 13 (f := isB "BadNumber" "NotAFailing" false) rfl),
    is_w X G (c.fact 64 (f := .glo "NotAPaper") rfl) (c.more 14 (f := isB "BadNumber" "NotAPaper" false) rfl),
    is_w X G (c.fact 65 (f := .glo "NotAPoint") rfl) (c.more 15 (f := isB "BadNumber" "NotAPoint" false) rfl),
    is_w X G (c.fact 66 (f := .glo "NotAWord") rfl) (c.more 16 (f := isB "BadNumber" "NotAWord" false) rfl),
    is_w X G (c.fact 67 (f := .glo "NotAllowed") rfl) (c.more 17 (f := isB "BadNumber" "NotAllowed" false) rfl),
    is_w X G (c.fact 68 (f := .glo "NotAnOrder") rfl) (c.more 18 (f := isB "BadNumber" "NotAnOrder" false) rfl),
    is_w X G (c.fact 69 (f := .glo "NotFull") rfl) (c.more 19 (f := isB "BadNumber" "NotFull" false) rfl),
    is_w X G (c.fact 70 (f := .glo "NotInside") rfl) (c.more 20 (f := isB "BadNumber" "NotInside" false) rfl),
    is_w X G (c.fact 71 (f := .glo "NotMade") rfl) (c.more 21 (f := isB "BadNumber" "NotMade" false) rfl),
    is_w X G (c.fact 72 (f := .glo "NotNeighbours") rfl) (c.more 22 (f := isB "BadNumber" "NotNeighbours" false) rfl),
    is_w X G (c.fact 73 (f := .glo "NotShorter") rfl) (c.more 23 (f := isB "BadNumber" "NotShorter" false) rfl),
    is_w X G (c.fact 74 (f := .glo "NotTight") rfl) (c.more 24 (f := isB "BadNumber" "NotTight" false) rfl),
    is_w X G (c.fact 75 (f := .glo "NothingKept") rfl) (c.more 25 (f := isB "BadNumber" "NothingKept" false) rfl),
    is_w X G (c.fact 76 (f := .glo "NothingToRedo") rfl) (c.more 26 (f := isB "BadNumber" "NothingToRedo" false) rfl),
    is_w X G (c.fact 77 (f := .glo "NothingToUndo") rfl) (c.more 27 (f := isB "BadNumber" "NothingToUndo" false) rfl),
    is_w X G (c.fact 78 (f := .glo "OrderMatters") rfl) (c.more 28 (f := isB "BadNumber" "OrderMatters" false) rfl),
    is_w X G (c.fact 79 (f := .glo "RepeatedPoint") rfl) (c.more 29 (f := isB "BadNumber" "RepeatedPoint" false) rfl),
    is_w X G (c.fact 80 (f := .glo "SameLength") rfl) (c.more 30 (f := isB "BadNumber" "SameLength" false) rfl),
    is_w X G (c.fact 81 (f := .glo "UnknownName") rfl) (c.more 31 (f := isB "BadNumber" "UnknownName" false) rfl),
    is_w X G (c.fact 82 (f := .glo "UnlikeSizes") rfl) (c.more 32 (f := isB "BadNumber" "UnlikeSizes" false) rfl),
    is_w X G (c.fact 83 (f := .glo "HeldorderError") rfl) (c.more 33 (f := isB "BadNumber" "HeldorderError" true) rfl),
    hn_w X G (c.fact 83 (f := .glo "HeldorderError") rfl) (c.more 34 (f := hnB "BadNumber" "HeldorderError" true) rfl),
    of_decide_eq_true (c.more 35 (f := ivB "BadNumber") rfl)⟩
theorem w_ec_NotAMove {P : Program} {w : World} {K : PySem.W.Frag} {h : Heap} {mg : Str → Option Value} (X : K.In h) (G : h.Ns mainGlobals mg) (c : SaysW faL fnL exL K) : Ec K mg "NotAMove" (He.ga K "NotAMove") := ec_w X G (c.fact 52 (f := .glo "NotAMove") rfl) (c.more 37 (f := ecB "NotAMove") rfl)
theorem w_es_NotAMove {P : Program} {w : World} {K : PySem.W.Frag} {h : Heap} {mg : Str → Option Value} (X : K.In h) (G : h.Ns mainGlobals mg) (c : SaysW faL fnL exL K) : Es K mg 1 "NotAMove" (He.ga K "NotAMove") := ⟨(w_ec_NotAMove (P := P) (w := w) X G c), by decide, is_w X G (c.fact 51 (f := .glo "BadNumber") rfl) (c.more 38 (f := isB "NotAMove" "BadNumber" false) rfl),
    is_w X G (c.fact 52 (f := .glo "NotAMove") rfl) (c.more 39 (f := isB "NotAMove" "NotAMove" true) rfl),
    is_w X G (c.fact 53 (f := .glo "TooMany") rfl) (c.more 40 (f := isB "NotAMove" "TooMany" false) rfl),
    is_w X G (c.fact 54 (f := .glo "BadEdit") rfl) (c.more 41 (f := isB "NotAMove" "BadEdit" false) rfl),
    is_w X G (c.fact 55 (f := .glo "BadText") rfl) (c.more 42 (f := isB "NotAMove" "BadText" false) rfl),
    is_w X G (c.fact 56 (f := .glo "FullLot") rfl) (c.more 43 (f := isB "NotAMove" "FullLot" false) rfl),
    is_w X G (c.fact 57 (f := .glo "GameOver") rfl) (c.more 44 (f := isB "NotAMove" "GameOver" false) rfl),
    is_w X G (c.fact 58 (f := .glo "NoSuchLength") rfl) (c.more 45 (f := isB "NotAMove" "NoSuchLength" false) rfl),
    is_w X G (c.fact 59 (f := .glo "NotABase") rfl) (c.more 46 (f := isB "NotAMove" "NotABase" false) rfl),
    is_w X G (c.fact 60 (f := .glo "NotAChain") rfl) (c.more 47 (f := isB "NotAMove" "NotAChain" false) rfl),
    is_w X G (c.fact 61 (f := .glo "NotAColumn") rfl) (c.more 48 (f := isB "NotAMove" "NotAColumn" false) rfl),
    is_w X G (c.fact 62 (f := .glo "NotACount") rfl) (c.more 49 (f := isB "NotAMove" "NotACount" false) rfl),
    is_w X G (c.fact 63 (f := .glo "NotAFailing") rfl) (c.more 50 (f := isB "NotAMove" "NotAFailing" false) rfl),
    is_w X G (c.fact 64 (f := .glo "NotAPaper") rfl) (c.more 51 (f := isB "NotAMove" "NotAPaper" false) rfl),
    is_w X G (c.fact 65 (f := .glo "NotAPoint") rfl) (c.more 52 (f := isB "NotAMove" "NotAPoint" false) rfl),
    is_w X G (c.fact 66 (f := .glo "NotAWord") rfl) (c.more 53 (f := isB "NotAMove" "NotAWord" false) rfl),
    is_w X G (c.fact 67 (f := .glo "NotAllowed") rfl) (c.more 54 (f := isB "NotAMove" "NotAllowed" false) rfl),
    is_w X G (c.fact 68 (f := .glo "NotAnOrder") rfl) (c.more 55 (f := isB "NotAMove" "NotAnOrder" false) rfl),
    is_w X G (c.fact 69 (f := .glo "NotFull") rfl) (c.more 56 (f := isB "NotAMove" "NotFull" false) rfl),
    is_w X G (c.fact 70 (f := .glo "NotInside") rfl) (c.more 57 (f := isB "NotAMove" "NotInside" false) rfl),
    is_w X G (c.fact 71 (f := .glo "NotMade") rfl) (c.more 58 (f := isB "NotAMove" "NotMade" false) rfl),
    is_w X G (c.fact 72 (f := .glo "NotNeighbours") rfl) (c.more 59 (f := isB "NotAMove" "NotNeighbours" false) rfl),
    is_w X G (c.fact 73 (f := .glo "NotShorter") rfl) (c.more 60 (f := isB "NotAMove" "NotShorter" false) rfl),
    is_w X G (c.fact 74 (f := .glo "NotTight") rfl) (c.more 61 (f := isB "NotAMove" "NotTight" false) rfl),
    is_w X G (c.fact 75 (f := .glo "NothingKept") rfl) (c.more 62 (f := isB "NotAMove" "NothingKept" false) rfl),
    is_w X G (c.fact 76 (f := .glo "NothingToRedo") rfl) (c.more 63 (f := isB "NotAMove" "NothingToRedo" false) rfl),
    is_w X G (c.fact 77 (f := .glo "NothingToUndo") rfl) (c.more 64 (f := isB "NotAMove" "NothingToUndo" false) rfl),
    is_w X G (c.fact 78 (f := .glo "OrderMatters") rfl) (c.more 65 (f := isB "NotAMove" "OrderMatters" false) rfl),
    is_w X G (c.fact 79 (f := .glo "RepeatedPoint") rfl) (c.more 66 (f := isB "NotAMove" "RepeatedPoint" false) rfl),
    is_w X G (c.fact 80 (f := .glo "SameLength") rfl) (c.more 67 (f := isB "NotAMove" "SameLength" false) rfl),
    is_w X G (c.fact 81 (f := .glo "UnknownName") rfl) (c.more 68 (f := isB "NotAMove" "UnknownName" false) rfl),
    is_w X G (c.fact 82 (f := .glo "UnlikeSizes") rfl) (c.more 69 (f := isB "NotAMove" "UnlikeSizes" false) rfl),
    is_w X G (c.fact 83 (f := .glo "HeldorderError") rfl) (c.more 70 (f := isB "NotAMove" "HeldorderError" true) rfl),
    hn_w X G (c.fact 83 (f := .glo "HeldorderError") rfl) (c.more 71 (f := hnB "NotAMove" "HeldorderError" true) rfl),
    of_decide_eq_true (c.more 72 (f := ivB "NotAMove") rfl)⟩
theorem w_ec_TooMany {P : Program} {w : World} {K : PySem.W.Frag} {h : Heap} {mg : Str → Option Value} (X : K.In h) (G : h.Ns mainGlobals mg) (c : SaysW faL fnL exL K) : Ec K mg "TooMany" (He.ga K "TooMany") := ec_w X G (c.fact 53 (f := .glo "TooMany") rfl) (c.more 74 (f := ecB "TooMany") rfl)
theorem w_es_TooMany {P : Program} {w : World} {K : PySem.W.Frag} {h : Heap} {mg : Str → Option Value} (X : K.In h) (G : h.Ns mainGlobals mg) (c : SaysW faL fnL exL K) : Es K mg 2 "TooMany" (He.ga K "TooMany") := ⟨(w_ec_TooMany (P := P) (w := w) X G c), by decide, is_w X G (c.fact 51 (f := .glo "BadNumber") rfl) (c.more 75 (f := isB "TooMany" "BadNumber" false) rfl),
    is_w X G (c.fact 52 (f := .glo "NotAMove") rfl) (c.more 76 (f := isB "TooMany" "NotAMove" false) rfl),
    is_w X G (c.fact 53 (f := .glo "TooMany") rfl) (c.more 77 (f := isB "TooMany" "TooMany" true) rfl),
    is_w X G (c.fact 54 (f := .glo "BadEdit") rfl) (c.more 78 (f := isB "TooMany" "BadEdit" false) rfl),
    is_w X G (c.fact 55 (f := .glo "BadText") rfl) (c.more 79 (f := isB "TooMany" "BadText" false) rfl),
    is_w X G (c.fact 56 (f := .glo "FullLot") rfl) (c.more 80 (f := isB "TooMany" "FullLot" false) rfl),
    is_w X G (c.fact 57 (f := .glo "GameOver") rfl) (c.more 81 (f := isB "TooMany" "GameOver" false) rfl),
    is_w X G (c.fact 58 (f := .glo "NoSuchLength") rfl) (c.more 82 (f := isB "TooMany" "NoSuchLength" false) rfl),
    is_w X G (c.fact 59 (f := .glo "NotABase") rfl) (c.more 83 (f := isB "TooMany" "NotABase" false) rfl),
    is_w X G (c.fact 60 (f := .glo "NotAChain") rfl) (c.more 84 (f := isB "TooMany" "NotAChain" false) rfl),
    is_w X G (c.fact 61 (f := .glo "NotAColumn") rfl) (c.more 85 (f := isB "TooMany" "NotAColumn" false) rfl),
    is_w X G (c.fact 62 (f := .glo "NotACount") rfl) (c.more 86 (f := isB "TooMany" "NotACount" false) rfl),
    is_w X G (c.fact 63 (f := .glo "NotAFailing") rfl) (c.more 87 (f := isB "TooMany" "NotAFailing" false) rfl),
    is_w X G (c.fact 64 (f := .glo "NotAPaper") rfl) (c.more 88 (f := isB "TooMany" "NotAPaper" false) rfl),
    is_w X G (c.fact 65 (f := .glo "NotAPoint") rfl) (c.more 89 (f := isB "TooMany" "NotAPoint" false) rfl),
    is_w X G (c.fact 66 (f := .glo "NotAWord") rfl) (c.more 90 (f := isB "TooMany" "NotAWord" false) rfl),
    is_w X G (c.fact 67 (f := .glo "NotAllowed") rfl) (c.more 91 (f := isB "TooMany" "NotAllowed" false) rfl),
    is_w X G (c.fact 68 (f := .glo "NotAnOrder") rfl) (c.more 92 (f := isB "TooMany" "NotAnOrder" false) rfl),
    is_w X G (c.fact 69 (f := .glo "NotFull") rfl) (c.more 93 (f := isB "TooMany" "NotFull" false) rfl),
    is_w X G (c.fact 70 (f := .glo "NotInside") rfl) (c.more 94 (f := isB "TooMany" "NotInside" false) rfl),
    is_w X G (c.fact 71 (f := .glo "NotMade") rfl) (c.more 95 (f := isB "TooMany" "NotMade" false) rfl),
    is_w X G (c.fact 72 (f := .glo "NotNeighbours") rfl) (c.more 96 (f := isB "TooMany" "NotNeighbours" false) rfl),
    is_w X G (c.fact 73 (f := .glo "NotShorter") rfl) (c.more 97 (f := isB "TooMany" "NotShorter" false) rfl),
    is_w X G (c.fact 74 (f := .glo "NotTight") rfl) (c.more 98 (f := isB "TooMany" "NotTight" false) rfl),
    is_w X G (c.fact 75 (f := .glo "NothingKept") rfl) (c.more 99 (f := isB "TooMany" "NothingKept" false) rfl),
    is_w X G (c.fact 76 (f := .glo "NothingToRedo") rfl) (c.more 100 (f := isB "TooMany" "NothingToRedo" false) rfl),
    is_w X G (c.fact 77 (f := .glo "NothingToUndo") rfl) (c.more 101 (f := isB "TooMany" "NothingToUndo" false) rfl),
    is_w X G (c.fact 78 (f := .glo "OrderMatters") rfl) (c.more 102 (f := isB "TooMany" "OrderMatters" false) rfl),
    is_w X G (c.fact 79 (f := .glo "RepeatedPoint") rfl) (c.more 103 (f := isB "TooMany" "RepeatedPoint" false) rfl),
    is_w X G (c.fact 80 (f := .glo "SameLength") rfl) (c.more 104 (f := isB "TooMany" "SameLength" false) rfl),
    is_w X G (c.fact 81 (f := .glo "UnknownName") rfl) (c.more 105 (f := isB "TooMany" "UnknownName" false) rfl),
    is_w X G (c.fact 82 (f := .glo "UnlikeSizes") rfl) (c.more 106 (f := isB "TooMany" "UnlikeSizes" false) rfl),
    is_w X G (c.fact 83 (f := .glo "HeldorderError") rfl) (c.more 107 (f := isB "TooMany" "HeldorderError" true) rfl),
    hn_w X G (c.fact 83 (f := .glo "HeldorderError") rfl) (c.more 108 (f := hnB "TooMany" "HeldorderError" true) rfl),
    of_decide_eq_true (c.more 109 (f := ivB "TooMany") rfl)⟩
theorem all_w {P : Program} {w : World} {K : PySem.W.Frag} {h : Heap} {mg : Str → Option Value} {f : Addr} (X : K.In h) (G : h.Ns mainGlobals mg) (hfa : mg ("law" : Str) = some (.ref f)) (c : SaysW faL fnL exL K) :
    ∃ fd : FuncData, (∀ (s : Shared) (v : Value), BindsTo s fd ⟨[v], []⟩ [("script", v)]) ∧ ∀ base : Heap, K.In base → base.Ns mainGlobals mg → FnG P w K mg base 11 f fd ["script"] (spLaw K) := by
  obtain ⟨fd, F⟩ := (c.def_ 0 (d := dFn "law" s_law) rfl)
  have e := hfa.symm.trans (He.glo_ok X G (c.fact 0 (f := .glo "law") rfl))
  cases e
  have b := FunD.bindsA (ps := ["script"]) F fun _ _ _ _ _ _ us hl => match us, hl with | [_], _ => rfl
  refine ⟨fd, fun s v => b s [v] rfl, fun base _ _ => ?_⟩
  have Z : Zs mg := w_Z (P := P) (w := w) X G c
  have D : Ds K mg := w_D (P := P) (w := w) X G c
  have ec_BadNumber : Ec K mg "BadNumber" (He.ga K "BadNumber") := w_ec_BadNumber (P := P) (w := w) X G c
  have es_BadNumber : Es K mg 0 "BadNumber" (He.ga K "BadNumber") := w_es_BadNumber (P := P) (w := w) X G c
  have nf_BadNumber_value := xi_no (c.more 36 (f := xiB "BadNumber" ["value", "low", "high"]) rfl) (f := "value") (by simp)
  have nf_BadNumber_low := xi_no (c.more 36 (f := xiB "BadNumber" ["value", "low", "high"]) rfl) (f := "low") (by simp)
  have nf_BadNumber_high := xi_no (c.more 36 (f := xiB "BadNumber" ["value", "low", "high"]) rfl) (f := "high") (by simp)
  obtain ⟨fd_BadNumber, F_BadNumber⟩ := (c.def_ 34 (d := dMe "BadNumber" "__init__" "BadNumber.__init__" s_ini_BadNumber) rfl)
  have F_BadNumber : FunD K "__init__" "BadNumber.__init__" (defArgs s_ini_BadNumber) (defBody s_ini_BadNumber) (defScope s_ini_BadNumber) [] [] (He.ma K (He.ga K "BadNumber") "__init__") fd_BadNumber := F_BadNumber
  have bi_BadNumber := bindsM (ps := ["self", "value", "low", "high"]) (fun _ _ _ _ _ _ us hl => match us, hl with | [_, _, _, _], _ => rfl) F_BadNumber
  have m_BadNumber : Xm P w K mg base "BadNumber" (He.ga K "BadNumber") ["value", "low", "high"] := xm_w ec_BadNumber (c.more 36 (f := xiB "BadNumber" ["value", "low", "high"]) rfl) (ini3 sc_ini_BadNumber ⟨_, _, _, _, _, _, _, _, _, _, _, _, rfl⟩ ec_BadNumber.ox rfl rfl (by decide) (by decide) nf_BadNumber_value rfl (by decide) (by decide) nf_BadNumber_low rfl (by decide) (by decide) nf_BadNumber_high (He5.fun_of F_BadNumber)) bi_BadNumber
  have ec_NotAMove : Ec K mg "NotAMove" (He.ga K "NotAMove") := w_ec_NotAMove (P := P) (w := w) X G c
  have es_NotAMove : Es K mg 1 "NotAMove" (He.ga K "NotAMove") := w_es_NotAMove (P := P) (w := w) X G c
  have nf_NotAMove_index := xi_no (c.more 73 (f := xiB "NotAMove" ["index"]) rfl) (f := "index") (by simp)
  obtain ⟨fd_NotAMove, F_NotAMove⟩ := (c.def_ 35 (d := dMe "NotAMove" "__init__" "NotAMove.__init__" s_ini_NotAMove) rfl)
  have F_NotAMove : FunD K "__init__" "NotAMove.__init__" (defArgs s_ini_NotAMove) (defBody s_ini_NotAMove) (defScope s_ini_NotAMove) [] [] (He.ma K (He.ga K "NotAMove") "__init__") fd_NotAMove := F_NotAMove
  have bi_NotAMove := bindsM (ps := ["self", "index"]) (fun _ _ _ _ _ _ us hl => match us, hl with | [_, _], _ => rfl) F_NotAMove
  have m_NotAMove : Xm P w K mg base "NotAMove" (He.ga K "NotAMove") ["index"] := xm_w ec_NotAMove (c.more 73 (f := xiB "NotAMove" ["index"]) rfl) (ini1 sc_ini_NotAMove ⟨_, _, _, _, rfl⟩ ec_NotAMove.ox rfl rfl (by decide) (by decide) nf_NotAMove_index (He5.fun_of F_NotAMove)) bi_NotAMove
  have ec_TooMany : Ec K mg "TooMany" (He.ga K "TooMany") := w_ec_TooMany (P := P) (w := w) X G c
  have es_TooMany : Es K mg 2 "TooMany" (He.ga K "TooMany") := w_es_TooMany (P := P) (w := w) X G c
  have nf_TooMany_what := xi_no (c.more 110 (f := xiB "TooMany" ["what", "limit"]) rfl) (f := "what") (by simp)
  have nf_TooMany_limit := xi_no (c.more 110 (f := xiB "TooMany" ["what", "limit"]) rfl) (f := "limit") (by simp)
  obtain ⟨fd_TooMany, F_TooMany⟩ := (c.def_ 36 (d := dMe "TooMany" "__init__" "TooMany.__init__" s_ini_TooMany) rfl)
  have F_TooMany : FunD K "__init__" "TooMany.__init__" (defArgs s_ini_TooMany) (defBody s_ini_TooMany) (defScope s_ini_TooMany) [] [] (He.ma K (He.ga K "TooMany") "__init__") fd_TooMany := F_TooMany
  have bi_TooMany := bindsM (ps := ["self", "what", "limit"]) (fun _ _ _ _ _ _ us hl => match us, hl with | [_, _, _], _ => rfl) F_TooMany
  have m_TooMany : Xm P w K mg base "TooMany" (He.ga K "TooMany") ["what", "limit"] := xm_w ec_TooMany (c.more 110 (f := xiB "TooMany" ["what", "limit"]) rfl) (ini2 sc_ini_TooMany ⟨_, _, _, _, _, _, _, _, rfl⟩ ec_TooMany.ox rfl rfl (by decide) (by decide) nf_TooMany_what rfl (by decide) (by decide) nf_TooMany_limit (He5.fun_of F_TooMany)) bi_TooMany
  have c__law_mixed := ok_mixed (P := P) (w := w) (K := K) (mg := mg) (base := base) Z D
  have c__law_take := ok_take (P := P) (w := w) (K := K) (mg := mg) (base := base) Z D c__law_mixed
  have c__law_pick := ok_pick (P := P) (w := w) (K := K) (mg := mg) (base := base) Z D c__law_take
  have c__law_place := ok_place (P := P) (w := w) (K := K) (mg := mg) (base := base) Z D c__law_take
  have c__law_drawn := ok_drawn (P := P) (w := w) (K := K) (mg := mg) (base := base) Z D c__law_take
  have c__law_either := ok_either (P := P) (w := w) (K := K) (mg := mg) (base := base) Z D c__law_take
  have c_is_number := ok_is_number (P := P) (w := w) (K := K) (mg := mg) (base := base) Z D
  have c_is_point := ok_is_point (P := P) (w := w) (K := K) (mg := mg) (base := base) Z D c_is_number
  have c_is_move_on := ok_is_move_on (P := P) (w := w) (K := K) (mg := mg) (base := base) Z D c_is_point
  have c__law_move := ok_move (P := P) (w := w) (K := K) (mg := mg) (base := base) Z D c__law_take c__law_drawn
  have c__law_store := ok_store (P := P) (w := w) (K := K) (mg := mg) (base := base) Z D
  have c__law_renamed := ok_renamed (P := P) (w := w) (K := K) (mg := mg) (base := base) Z D
  have c__law_after := ok_after (P := P) (w := w) (K := K) (mg := mg) (base := base) Z D
  have c_check_number := ok_check_number (P := P) (w := w) (K := K) (mg := mg) (base := base) Z D m_BadNumber c_is_number
  have c_check_points := ok_check_points (P := P) (w := w) (K := K) (mg := mg) (base := base) Z D c_check_number
  have c_check_moves := ok_check_moves (P := P) (w := w) (K := K) (mg := mg) (base := base) Z D m_NotAMove m_TooMany c_is_move_on
  have c__law_group := ok_group (P := P) (w := w) (K := K) (mg := mg) (base := base) Z D c__law_after
  have c__law_arena_menu := ok_menu (P := P) (w := w) (K := K) (mg := mg) (base := base) Z D c__law_take
  have c__law_turned_blocks := ok_turned (P := P) (w := w) (K := K) (mg := mg) (base := base) Z D c__law_take c__law_pick
  have c__law_arena_told := ok_arena_told (P := P) (w := w) (K := K) (mg := mg) (base := base) Z D c__law_take c__law_move c__law_arena_menu c__law_turned_blocks
  have c__law_arena := ok_arena (P := P) (w := w) (K := K) (mg := mg) (base := base) Z D c__law_take c__law_place c__law_pick c__law_drawn c__law_renamed c__law_group c__law_arena_told
  have c__law_spoil := ok_spoil (P := P) (w := w) (K := K) (mg := mg) (base := base) Z D
  have c_held_by_all := ok_held_all (P := P) (w := w) (K := K) (mg := mg) (base := base) Z D
  have c_common_held := ok_common (P := P) (w := w) (K := K) (mg := mg) (base := base) Z D c_check_points c_check_moves c_held_by_all
  have c__law_error_h := ok_law_error_h (P := P) (w := w) (K := K) (mg := mg) (base := base) Z D
  have c__law_listed := ok_listed (P := P) (w := w) (K := K) (mg := mg) (base := base) Z D c__law_take c__law_pick c__law_drawn c__law_move
  have c__law_wrong_move := ok_wrong_move (P := P) (w := w) (K := K) (mg := mg) (base := base) Z D c__law_take c__law_place c__law_pick
  have c__law_wrong_moves := ok_wrong_moves (P := P) (w := w) (K := K) (mg := mg) (base := base) Z D c__law_take c__law_pick c__law_place c__law_either c__law_move c__law_wrong_move
  have c__law_wrong_number := ok_wrong_number (P := P) (w := w) (K := K) (mg := mg) (base := base) Z D c__law_take c__law_pick
  have c__law_alike := ok_alike (P := P) (w := w) (K := K) (mg := mg) (base := base) Z D 3
  have c__law_alike_h := ok_alike_h (P := P) (w := w) (K := K) (mg := mg) (base := base) Z D 8
  have c__law_refused_as_h := ok_refused_as_h (P := P) (w := w) (K := K) (mg := mg) (base := base) Z D c__law_error_h c__law_alike_h
  have c__law_common_due := ok_common_due (P := P) (w := w) (K := K) (mg := mg) (base := base) Z D c__law_either c_common_held c__law_alike c__law_spoil
  have c__law_refusing := ok_refusing (P := P) (w := w) (K := K) (mg := mg) (base := base) Z D es_BadNumber c_common_held c__law_refused_as_h
  exact ok_law Z D (He5.fun_of F) es_BadNumber es_NotAMove es_TooMany nf_BadNumber_value nf_BadNumber_low nf_BadNumber_high nf_NotAMove_index nf_TooMany_what nf_TooMany_limit c__law_store c__law_arena c__law_pick c__law_listed c__law_common_due c__law_wrong_moves c__law_wrong_number c__law_refusing
end Hd
open PySem PySem.W PySem.Calls PyProof.Rows
set_option maxHeartbeats 0 in
theorem PySem.Challenge.cw_heldorder_k21_common_held_holds : PySem.Challenge.rw_heldorder_k21_common_held.Holds := by
  w_on; o_law
  refine HandSHeadRun.head_any (r := OpenLaw.row PySem.Challenge.rw_heldorder_k21_common_held) (q := view (OpenLaw.row PySem.Challenge.rw_heldorder_k21_common_held).prog [72]) (H := Hd.hkL) (ob := Hd.obL) (M := 12000) (loose := Hd.looseL) (d := HandSHeadRun.topDef (OpenLaw.row PySem.Challenge.rw_heldorder_k21_common_held).prog 72) (kwd := []) Hd.obL_eq
    (by kernel_rfl) (fun s => by kernel_rfl) Hd.runL (by kernel_rfl) (by kernel_rfl) (by kernel_rfl) (by rfl) (by first | assumption | decide +kernel) (by decide +kernel) ⟨rfl, rfl, rfl, rfl, rfl, by decide +kernel⟩ ?hw ?hc
  case hw => w_witness2
  case hc =>
    refine Hd.walk_ofG (l := PySem.Challenge.rw_heldorder_k21_common_held) (n := 63) (k := 11) (x := "script") rfl (by decide) (by kernel_rfl) ⟨rfl, by decide, by decide⟩ ?F
    intro w mg fa h Y G hmg0
    obtain ⟨K, KX, c⟩ := Y
    have hmg : mg ("law" : PySem.Str) = some (.ref fa) := by
      have e : (HandSHeadRun.topDef (OpenLaw.row PySem.Challenge.rw_heldorder_k21_common_held).prog 72).name = ("law" : PySem.Str) := by kernel_rfl
      rw [← e]
      exact hmg0
    obtain ⟨fd, hb, hF⟩ := Hd.all_w (P := (PySem.Challenge.rw_heldorder_k21_common_held).prog) (w := w) KX G hmg c
    exact ⟨K, fd, Hd.spLaw K, KX, hb, fun H a ns hl _ hS => Hd.spLaw_of hl hS, hF⟩
