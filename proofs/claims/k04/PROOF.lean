import PyProof.Rows.All
import Wide.All
import OpenK.AllK
import Wide.FinOn
import HandS.ForMost
import HandS.Wide
import HandS.IsInst
import HandS.TupAny
import HandS.TupMul
import HandS.TryOnly
import HandS.ExcOwn
import HandS.WordsExc
import HandS.RaiseMore
import HandS.Style
import PyProof.ReprRoads
import HandS.ExcValue
import HandS.ExcIs
import HandS.Ends
import PyProof.FactsAll.tuple_2
import KE.KRevSl
import KE.KTupSum
import KE.GoesEnum
import HandS.Zip
import HandS.Walk
import PySem.Challenge.RW_floormeet_k04_as_many_in_every_order
section FFmBase
set_option Elab.async false
set_option maxRecDepth 100000
namespace Fm
open PySem PySem.Spec PyProof.Rows L2
/-- a def of the top, by its name -/
structure Df (K : PySem.W.Frag) (mg : Str → Option Value) (x : Str) (st : Stmt) (ps : List Str) : Prop where
  ex : ∃ f fd, Fun K x x st f fd ∧ mg x = some (.ref f) ∧ Binds K fd ps []
/-- a def that keeps a promise, as whoever calls it wants it -/
def CallOk (P : Program) (w : World) (K : PySem.W.Frag) (mg : Str → Option Value) (base : Heap) (CX : CXT) (k : Nat) (x : Str) (ps : List Str) (sp : Sp) : Prop :=
  ∃ f fd, FnOk P w K mg base CX k f fd ps sp ∧ mg x = some (.ref f) ∧ PySem.W.keepIn K (.ref f) = true ∧ Binds K fd ps []
/-- the built-in names that stand for themselves -/
structure Nms (mg : Str → Option Value) : Prop where
  n_len : mg "len" = none
  n_range : mg "range" = none
  n_min : mg "min" = none
  n_max : mg "max" = none
  n_tuple : mg "tuple" = none
  n_list : mg "list" = none
  n_isinstance : mg "isinstance" = none
  n_repr : mg "repr" = none
  n_int : mg "int" = none
  n_bool : mg "bool" = none
  n_sum : mg "sum" = none
  n_str : mg "str" = none
  n_enumerate : mg "enumerate" = none
  n_zip : mg "zip" = none
section
variable {P : Program} {w : World} {K : PySem.W.Frag} {mg : Str → Option Value} {base : Heap}
theorem df_ok {x : Str} {st : Stmt} {N ps : List Str} {k : Nat} {sp : Sp} (D : Df K mg x st ps) (S : FnScope N ps (defScope st)) (hl : ∀ vs H Q E, sp vs H Q E → vs.length = ps.length)
    (b : ∀ (f : Addr) (cdv : Value) (A : Around) (outer : List Env) (s : Shared) (H : Hp) (vs : List V) (Q : VK) (E : XK), Room k (A.deeper (envOfC x (defScope st) s.heap.objs.size f cdv)) → sp vs H Q E →
      ∃ t, PSs (cxOf CX0 P w K mg base N x (defScope st) f cdv A outer s H E).nox (defBody st) t ∧ t { nx := fun _ H' => Q .non H', rt := Q } (start N vs) H) :
    CallOk P w K mg base CX0 (k + 1) x ps sp := by
  obtain ⟨f, fd, F, hm, hb⟩ := D.ex
  exact ⟨f, fd, F.ok S hl (b f), hm, F.kp, hb⟩
theorem df_okX {x : Str} {st : Stmt} {N ps : List Str} {k : Nat} {sp : Sp} (D : Df K mg x st ps) (S : FnScope N ps (defScope st)) (hl : ∀ vs H Q E, sp vs H Q E → vs.length = ps.length)
    (b : ∀ (f : Addr) (cdv : Value) (A : Around) (outer : List Env) (s : Shared) (H : Hp) (vs : List V) (Q : VK) (E : XK), Room k (A.deeper (envOfC x (defScope st) s.heap.objs.size f cdv)) → sp vs H Q E →
      ∃ t, PSs (cxOf (L2.CX P w) P w K mg base N x (defScope st) f cdv A outer s H E) (defBody st) t ∧ t { nx := fun _ H' => Q .non H', rt := Q } (start N vs) H) :
    CallOk P w K mg base (L2.CX P w) (k + 1) x ps sp := by
  obtain ⟨f, fd, F, hm, hb⟩ := D.ex
  exact ⟨f, fd, F.okX S hl (b f), hm, F.kp, hb⟩
theorem CallOk.mono {CX : CXT} {i k : Nat} {x : Str} {ps : List Str} {sp : Sp} (c : CallOk P w K mg base CX i x ps sp) (h : i ≤ k) : CallOk P w K mg base CX k x ps sp := by
  obtain ⟨f, fd, F, r⟩ := c
  exact ⟨f, fd, F.mono h, r⟩
theorem CallOk.imp {CX : CXT} {k : Nat} {x : Str} {ps : List Str} {sp sq : Sp} (c : CallOk P w K mg base CX k x ps sp) (h : ∀ vs H Q E, sq vs H Q E → sp vs H Q E) : CallOk P w K mg base CX k x ps sq := by
  obtain ⟨f, fd, F, r⟩ := c
  exact ⟨f, fd, F.imp h, r⟩
end
section
variable {X : Cx} {k : Nat} {x : Str} {ps : List Str} {sp : Sp} {p pos : Pos} {e : Expr} {es : List Expr} {t : TA} {E : XK}
theorem pe_cc (c : CallOk X.prog X.w X.K X.mg X.base CX0 k x ps sp) (hr : Room k X.A) (ha : PA X (e :: es) t) (hg : Gl X x := by rfl) (hd : (x == ("__debug__" : Str)) = false := by decide)
    (he : starEach (e :: es) X.env = (false, eval e X.env) :: starEach es X.env := by rfl) (hp : (backTo pos (starEach es X.env)).any (·.1) = false := by rfl) :
    PE X (.Call (.Name x p) (e :: es) [] pos) (tCall sp [] E0 t) := by
  obtain ⟨f, fd, F, hm, hk, hb⟩ := c
  exact pe_call F hr hg hm hk hb .nil pass0 ha hd he hp
/-- of a def that may raise, where it doesn't -/
theorem pe_cx (c : CallOk X.prog X.w X.K X.mg X.base (L2.CX X.prog X.w) k x ps sp) (hr : Room k X.A) (ha : PA X (e :: es) t) (hg : Gl X x := by rfl) (hd : (x == ("__debug__" : Str)) = false := by decide)
    (he : starEach (e :: es) X.env = (false, eval e X.env) :: starEach es X.env := by rfl) (hp : (backTo pos (starEach es X.env)).any (·.1) = false := by rfl) :
    PE X (.Call (.Name x p) (e :: es) [] pos) (tCall sp [] E0 t) := by
  obtain ⟨f, fd, F, hm, hk, hb⟩ := c
  exact pe_call F hr hg hm hk hb .nil passL ha hd he hp
/-- a call that may raise, under a wish -/
theorem pe_cs {W : WX} (c : CallOk X.prog X.w X.K X.mg X.base (L2.CX X.prog X.w) k x ps sp) (tk : Takes X W) (hr : Room k X.A) (ha : PA X (e :: es) t) (hg : Gl X x := by rfl) (hd : (x == ("__debug__" : Str)) = false := by decide)
    (he : starEach (e :: es) X.env = (false, eval e X.env) :: starEach es X.env := by rfl) (hp : (backTo pos (starEach es X.env)).any (·.1) = false := by rfl) :
    PE X (.Call (.Name x p) (e :: es) [] pos) (tCallS sp (fun σ => WE W σ) t) := by
  obtain ⟨f, fd, F, hm, hk, hb⟩ := c
  exact pe_callS F hr hg hm hk hb (fun σ => passAt tk σ) ha hd he hp
end
/-- all that was tracked but p is as it was -/
def Ext (p : Addr) (H H' : Hp) : Prop := ∀ b o, H b = some o → b ≠ p → H' b = some o
theorem Ext.refl (p : Addr) (H : Hp) : Ext p H H := fun _ _ h _ => h
theorem Ext.trans {p : Addr} {H H1 H2 : Hp} (a : Ext p H H1) (b : Ext p H1 H2) : Ext p H H2 := fun c o h n => b c o (a c o h n) n
theorem Same.ext {H H' : Hp} (s : Same H H') (p : Addr) : Ext p H H' := fun b o h _ => s b o h
theorem same_new {H : Hp} {q : Addr} {o : HO} (h : H q = none) : Same H (upd H q o) := fun b u e => by
  rw [upd_ne (ne_of_none e h)]
  exact e
theorem ext_at {H : Hp} {p : Addr} {o : HO} : Ext p H (upd H p o) := fun b u e n => by
  rw [upd_ne n]
  exact e
/-- the bag of draws at p -/
def Bag (H : Hp) (p : Addr) : Prop := ∃ x y c : Int, H p = some (.lst [.int x, .int y, .int c])
def spPick : Sp := fun vs H Q _ => ∃ (p : Addr) (m : Int), vs = [.ref p, .int m] ∧ 0 < m ∧ m.natAbs.log2 < 9000 ∧ Bag H p ∧ ∀ (k : Int) (H' : Hp), 0 ≤ k → k < m → Bag H' p → Ext p H H' → Q (.int k) H'
def spBag : Sp := fun vs H Q _ => ∃ c : Int, vs = [.int c] ∧ ∀ (p : Addr) (H' : Hp), H p = none → Bag H' p → Same H H' → Q (.ref p) H'
end Fm
end FFmBase
section FFmDat
set_option Elab.async false
set_option maxRecDepth 100000
namespace Fm
open PySem PySem.Spec PyProof.Rows L2
/-- the data that a value stands for: tuples, lists, the empty dict, flat things; no list or dict of it stands at p -/
inductive Dat (H : Hp) (p : Addr) : V → PyData → Prop
  | non : Dat H p .non .none
  | bl (b : Bool) : Dat H p (.bl b) (.bool b)
  | int (i : Int) : Dat H p (.int i) (.int i)
  | str (x : Str) : Dat H p (.str x) (.str x)
  | tup {a : Addr} {xs : List V} {ds : List PyData} : H a = some (.tup xs) → a ≠ p → xs.length = ds.length → (∀ (i : Nat) (x : V) (d : PyData), xs[i]? = some x → ds[i]? = some d → Dat H p x d) → Dat H p (.ref a) (.tuple ds)
  | lst {a : Addr} {xs : List V} {ds : List PyData} : H a = some (.lst xs) → a ≠ p → xs.length = ds.length → (∀ (i : Nat) (x : V) (d : PyData), xs[i]? = some x → ds[i]? = some d → Dat H p x d) → Dat H p (.ref a) (.list ds)
  | dct {a : Addr} : H a = some (.dK []) → a ≠ p → Dat H p (.ref a) (.dict [])
theorem Dat.ext {H H' : Hp} {p : Addr} {v : V} {d : PyData} (e : Ext p H H') (h : Dat H p v d) : Dat H' p v d := by
  induction h with
  | non => exact .non
  | bl b => exact .bl b
  | int i => exact .int i
  | str x => exact .str x
  | tup h1 h2 h3 _ ih => exact .tup (e _ _ h1 h2) h2 h3 ih
  | lst h1 h2 h3 _ ih => exact .lst (e _ _ h1 h2) h2 h3 ih
  | dct h1 h2 => exact .dct (e _ _ h1 h2) h2
theorem Dat.same {H H' : Hp} {p : Addr} {v : V} {d : PyData} (e : Same H H') (h : Dat H p v d) : Dat H' p v d := h.ext (Same.ext e p)
/-- rows of data -/
abbrev Dats (H : Hp) (p : Addr) (xs : List V) (ds : List PyData) : Prop := xs.length = ds.length ∧ ∀ (i : Nat) (x : V) (d : PyData), xs[i]? = some x → ds[i]? = some d → Dat H p x d
theorem Dats.ext {H H' : Hp} {p : Addr} {xs : List V} {ds : List PyData} (e : Ext p H H') (h : Dats H p xs ds) : Dats H' p xs ds := ⟨h.1, fun i x d a b => (h.2 i x d a b).ext e⟩
theorem Dats.nil {H : Hp} {p : Addr} : Dats H p [] [] := ⟨rfl, fun _ _ _ a _ => by simp at a⟩
theorem Dats.snoc {H : Hp} {p : Addr} {xs : List V} {ds : List PyData} {v : V} {d : PyData} (h : Dats H p xs ds) (k : Dat H p v d) : Dats H p (xs ++ [v]) (ds ++ [d]) := by
  refine ⟨by simp [h.1], fun i x e a b => ?_⟩
  by_cases hi : i < xs.length
  · rw [List.getElem?_append_left hi] at a
    rw [List.getElem?_append_left (by rw [← h.1]; exact hi)] at b
    exact h.2 i x e a b
  · rw [List.getElem?_append_right (by omega)] at a
    rw [List.getElem?_append_right (by rw [← h.1]; omega)] at b
    rw [h.1] at a
    cases e0 : i - ds.length with
    | zero =>
      rw [e0] at a b
      simp at a b
      subst a b
      exact k
    | succ j =>
      rw [e0] at a
      simp at a
theorem Dats.cons {H : Hp} {p : Addr} {xs : List V} {ds : List PyData} {v : V} {d : PyData} (k : Dat H p v d) (h : Dats H p xs ds) : Dats H p (v :: xs) (d :: ds) := by
  refine ⟨by simp [h.1], fun i x e a b => ?_⟩
  cases i with
  | zero =>
    simp at a b
    subst a b
    exact k
  | succ j =>
    simp at a b
    exact h.2 j x e a b
theorem Dats.ints {H : Hp} {p : Addr} (ns : List Int) : Dats H p (ns.map V.int) (ns.map PyData.int) := by
  refine ⟨by simp, fun i x d a b => ?_⟩
  rw [List.getElem?_map] at a b
  cases e : ns[i]? with
  | none => rw [e] at a; cases a
  | some n =>
    rw [e] at a b
    simp at a b
    subst a b
    exact .int n
theorem Dats.at {H : Hp} {p : Addr} {xs : List V} {ds : List PyData} (h : Dats H p xs ds) {i : Nat} {x : V} (e : xs[i]? = some x) : ∃ d, ds[i]? = some d ∧ Dat H p x d := by
  have hi : i < xs.length := (List.getElem?_eq_some_iff.mp e).1
  have hj : i < ds.length := by rw [← h.1]; exact hi
  exact ⟨ds[i], List.getElem?_eq_getElem hj, h.2 i x _ e (List.getElem?_eq_getElem hj)⟩
theorem Dats.back {H : Hp} {p : Addr} {xs : List V} {ds : List PyData} (h : Dats H p xs ds) {i : Nat} {d : PyData} (e : ds[i]? = some d) : ∃ x, xs[i]? = some x ∧ Dat H p x d := by
  have hi : i < ds.length := (List.getElem?_eq_some_iff.mp e).1
  have hj : i < xs.length := by rw [h.1]; exact hi
  exact ⟨xs[i], List.getElem?_eq_getElem hj, h.2 i _ d (List.getElem?_eq_getElem hj) e⟩
/-- a new tuple of data -/
theorem Dat.new {H : Hp} {p q : Addr} {xs : List V} {ds : List PyData} (hq : H q = none) (hp : q ≠ p) (h : Dats H p xs ds) : Dat (upd H q (.tup xs)) p (.ref q) (.tuple ds) :=
  .tup upd_same hp h.1 fun i x d a b => (h.2 i x d a b).same (same_new hq)
theorem Dat.newL {H : Hp} {p q : Addr} {xs : List V} {ds : List PyData} (hq : H q = none) (hp : q ≠ p) (h : Dats H p xs ds) : Dat (upd H q (.lst xs)) p (.ref q) (.list ds) :=
  .lst upd_same hp h.1 fun i x d a b => (h.2 i x d a b).same (same_new hq)
theorem Dat.isTup {H : Hp} {p : Addr} {v : V} {ds : List PyData} (h : Dat H p v (.tuple ds)) : ∃ a xs, v = .ref a ∧ H a = some (.tup xs) ∧ a ≠ p ∧ Dats H p xs ds := by
  cases h with
  | tup h1 h2 h3 h4 => exact ⟨_, _, rfl, h1, h2, h3, h4⟩
theorem Dat.isInt {H : Hp} {p : Addr} {v : V} {i : Int} (h : Dat H p v (.int i)) : v = .int i := by
  cases h with
  | int i => rfl
/-! ### types -/
def tyName : PyData → String
  | .none => "NoneType"
  | .bool _ => "bool"
  | .int _ => "int"
  | .str _ => "str"
  | .list _ => "list"
  | .tuple _ => "tuple"
  | .dict _ => "dict"
theorem Dat.ty {K : PySem.W.Frag} {H : Hp} {p : Addr} {v : V} {d : PyData} (h : Dat H p v d) : TyX K H v (.type (tyName d)) := by
  cases h with
  | non => exact .base .non
  | bl b => exact .base (.bl b)
  | int i => exact .base (.int i)
  | str x => exact .base (.str x)
  | tup h1 => exact .base (.tup h1)
  | lst h1 => exact .base (.lst h1)
  | dct h1 => exact .base (.dK h1)
def isI : PyData → Bool
  | .int _ => true
  | .bool _ => true
  | _ => false
def isB : PyData → Bool
  | .bool _ => true
  | _ => false
def isTu : PyData → Bool
  | .tuple _ => true
  | _ => false
theorem kit_int : ∀ d : PyData, kitB (tyName d) "int" = some (isI d)
  | .none => (by decide +kernel : kitB "NoneType" "int" = some false)
  | .bool _ => (by decide +kernel : kitB "bool" "int" = some true)
  | .int _ => (by decide +kernel : kitB "int" "int" = some true)
  | .str _ => (by decide +kernel : kitB "str" "int" = some false)
  | .list _ => (by decide +kernel : kitB "list" "int" = some false)
  | .tuple _ => (by decide +kernel : kitB "tuple" "int" = some false)
  | .dict _ => (by decide +kernel : kitB "dict" "int" = some false)
theorem kit_bool : ∀ d : PyData, kitB (tyName d) "bool" = some (isB d)
  | .none => (by decide +kernel : kitB "NoneType" "bool" = some false)
  | .bool _ => (by decide +kernel : kitB "bool" "bool" = some true)
  | .int _ => (by decide +kernel : kitB "int" "bool" = some false)
  | .str _ => (by decide +kernel : kitB "str" "bool" = some false)
  | .list _ => (by decide +kernel : kitB "list" "bool" = some false)
  | .tuple _ => (by decide +kernel : kitB "tuple" "bool" = some false)
  | .dict _ => (by decide +kernel : kitB "dict" "bool" = some false)
theorem kit_tuple : ∀ d : PyData, kitB (tyName d) "tuple" = some (isTu d)
  | .none => (by decide +kernel : kitB "NoneType" "tuple" = some false)
  | .bool _ => (by decide +kernel : kitB "bool" "tuple" = some false)
  | .int _ => (by decide +kernel : kitB "int" "tuple" = some false)
  | .str _ => (by decide +kernel : kitB "str" "tuple" = some false)
  | .list _ => (by decide +kernel : kitB "list" "tuple" = some false)
  | .tuple _ => (by decide +kernel : kitB "tuple" "tuple" = some true)
  | .dict _ => (by decide +kernel : kitB "dict" "tuple" = some false)
theorem isTu_iff {d : PyData} : isTu d = true ↔ ∃ ds, d = .tuple ds := by
  cases d <;> simp [isTu]
/-! ### texts -/
def noList : PyData → Bool
  | .list _ => false
  | .tuple xs => xs.attach.all fun ⟨x, _⟩ => noList x
  | _ => true
theorem noList_tup {ds : List PyData} (h : noList (.tuple ds) = true) : ∀ d ∈ ds, noList d = true := by
  intro d hd
  unfold noList at h
  rw [List.all_eq_true] at h
  exact h ⟨d, hd⟩ (List.mem_attach _ _)
theorem noList_of {ds : List PyData} (h : ∀ d ∈ ds, noList d = true) : noList (.tuple ds) = true := by
  unfold noList
  rw [List.all_eq_true]
  exact fun ⟨d, hd⟩ _ => h d hd
theorem readsAll_of {h : Heap} : ∀ {xs : List V} {us : List Value} {ds : List PyData}, Vals xs us → xs.length = ds.length →
    (∀ (i : Nat) (x : V) (d : PyData), xs[i]? = some x → ds[i]? = some d → ∀ u, RelV x u → ∃ as, Reads h u d as ∧ (noList d = true → sysModules ∉ as)) →
    ∃ as, ReadsAll h us ds as ∧ ((∀ d ∈ ds, noList d = true) → sysModules ∉ as)
  | [], _, ds, r, hl, _ => by
    cases r
    cases ds with
    | nil => exact ⟨[], .nil, fun _ => by simp⟩
    | cons d r => simp at hl
  | x :: xs, _, ds, r, hl, hr => by
    cases r with
    | cons r1 r2 =>
      cases ds with
      | nil => simp at hl
      | cons d ds =>
        obtain ⟨a1, h1, n1⟩ := hr 0 x d rfl rfl _ r1
        obtain ⟨a2, h2, n2⟩ := readsAll_of r2 (by simpa using hl) fun i y e q1 q2 => hr (i + 1) y e (by simpa using q1) (by simpa using q2)
        exact ⟨a1 ++ a2, .cons h1 h2, fun hn hm => by
          rcases List.mem_append.mp hm with hm | hm
          · exact n1 (hn d List.mem_cons_self) hm
          · exact n2 (fun e he => hn e (List.mem_cons_of_mem _ he)) hm⟩
theorem Dat.reads {X : Cx} {pins : List (Addr × Obj)} {σ : L2.St} {H : Hp} {s : Shared} {p : Addr} {v : V} {d : PyData} (I : Inv X pins σ H s) (h : Dat H p v d) :
    ∀ u, RelV v u → ∃ as, Reads s.heap u d as ∧ (noList d = true → sysModules ∉ as) := by
  induction h with
  | non => intro u r; cases r; exact ⟨[], .none, fun _ => by simp⟩
  | bl b => intro u r; cases r; exact ⟨[], .bool b, fun _ => by simp⟩
  | int i => intro u r; obtain ⟨t, rfl⟩ := r; exact ⟨[], .int i t, fun _ => by simp⟩
  | str x => intro u r; obtain ⟨t, rfl⟩ := r; exact ⟨[], .str x t, fun _ => by simp⟩
  | tup h1 h2 h3 _ ih =>
    intro u r
    cases r
    obtain ⟨its, rv, ⟨o, e, hc, n, hd⟩, _⟩ := I.tuple (SqT.of h1)
    obtain ⟨as, ha, hn⟩ := readsAll_of rv h3 ih
    exact ⟨as, .tuple e hc hd (by simpa using ha), fun z => hn (noList_tup z)⟩
  | lst h1 h2 h3 _ ih =>
    intro u r
    cases r
    obtain ⟨its, rv, ⟨o, n, e, hc, _, hd⟩, _⟩ := I.list (SqL.of h1)
    obtain ⟨as, ha, hn⟩ := readsAll_of rv h3 ih
    exact ⟨_, .list e hc hd (by simpa using ha), fun z => by unfold noList at z; cases z⟩
  | @dct a h1 h2 =>
    intro u r
    cases r
    obtain ⟨_, hs, vs, kv, o, es, ep, e, hx, hd, he⟩ := (show ObjOk X.prog X.w H s.heap a (.dK []) from I.hok a _ h1)
    cases kv
    have e0 : es.toList = [] := by
      have q := he.2.1
      cases z : es.toList with
      | nil => rfl
      | cons x r =>
        rw [z] at q
        exact absurd q (by intro w; cases w)
    refine ⟨_, .dict (as := []) (bs := []) e hx.1 hd (by rw [e0]; exact .nil) (by rw [e0]; exact .nil), fun _ hm => ?_⟩
    simp at hm
    rw [hm] at hs
    simp at hs
/-- a bound of what is shown -/
structure Fit (n k : Nat) (d : PyData) : Prop where
  len : d.shown.length ≤ n
  dep : d.depth ≤ k
  sh : d.showable = true
  ok : d.hasDict = false ∨ noList d = true
theorem fit_int {i : Int} (h : i.natAbs < 10 ^ 40) : Fit 41 0 (.int i) := by
  refine ⟨?_, ?_, ?_, ?_⟩
  · have q := int_text_length_le10 (a := i) (k := 40) (by decide) h
    simp only [PyData.shown]
    show (Str.ofString (toString i)).length ≤ 41
    rw [PySem.ofString_length]
    omega
  · simp only [PyData.depth]; omega
  · simp only [PyData.showable]
    have l : i.natAbs < 2 ^ 133 := Nat.lt_of_lt_of_le h (by decide)
    have l2 := PySem.Flt.log2_lt_of (by decide : 0 < 133) l
    exact decide_eq_true (by omega)
  · exact .inl (by simp only [PyData.hasDict])
theorem fit_bool (b : Bool) : Fit 5 0 (.bool b) := by
  refine ⟨?_, ?_, ?_, ?_⟩
  · simp only [PyData.shown]
    cases b <;> decide
  · simp only [PyData.depth]; omega
  · simp only [PyData.showable]
  · exact .inl (by simp only [PyData.hasDict])
theorem fit_none : Fit 5 0 .none := by
  refine ⟨?_, ?_, ?_, ?_⟩
  · simp only [PyData.shown]
    decide
  · simp only [PyData.depth]; omega
  · simp only [PyData.showable]
  · exact .inl (by simp only [PyData.hasDict])
theorem fit_str {x : Str} (h : (reprText x).length ≤ 41) : Fit 41 0 (.str x) := by
  refine ⟨?_, ?_, ?_, ?_⟩
  · simpa only [PyData.shown] using h
  · simp only [PyData.depth]; omega
  · simp only [PyData.showable]
  · exact .inl (by simp only [PyData.hasDict])
theorem Fit.mono {n k n' k' : Nat} {d : PyData} (F : Fit n k d) (h : n ≤ n') (h' : k ≤ k') : Fit n' k' d := ⟨Nat.le_trans F.len h, Nat.le_trans F.dep h', F.sh, F.ok⟩
theorem all_fit {n k : Nat} : ∀ {ds : List PyData}, (∀ d ∈ ds, Fit n k d) → piled (PyData.shownAll ds) ≤ (n + 2) * ds.length ∧ PyData.depthAll ds ≤ k ∧ PyData.showableAll ds = true ∧ (PyData.shownAll ds).length = ds.length
  | [], _ => by simp [PyData.shownAll, PyData.depthAll, PyData.showableAll, piled]
  | d :: r, h => by
    obtain ⟨h1, h2, h3, h4⟩ := all_fit fun e he => h e (List.mem_cons_of_mem _ he)
    have F := h d List.mem_cons_self
    have l := F.len
    have e := F.dep
    refine ⟨?_, ?_, ?_, ?_⟩
    · simp only [PyData.shownAll, piled_cons, List.length_cons]
      rw [Nat.mul_add]
      omega
    · simp only [PyData.depthAll]
      omega
    · simp only [PyData.showableAll, F.sh, h3, Bool.and_self]
    · simp only [PyData.shownAll, List.length_cons, h4]
theorem hasDict_all : ∀ {ds : List PyData}, (∀ d ∈ ds, d.hasDict = false) → PyData.hasDictAll ds = false
  | [], _ => by simp only [PyData.hasDictAll]
  | d :: r, h => by
    simp only [PyData.hasDictAll, h d List.mem_cons_self, hasDict_all fun e he => h e (List.mem_cons_of_mem _ he), Bool.or_self]
theorem tupleText_len (ts : List Str) : (tupleText ts).length ≤ piled ts + 3 := by
  unfold tupleText
  rw [strLen_append, strLen_append]
  have e : (Str.ofString (if ts.length == 1 then ",)" else ")" : String)).length ≤ 2 := by split <;> decide
  have e1 : ("(" : Str).length = 1 := rfl
  by_cases h : ts = []
  · subst h
    have : (Str.join ", " []).length = 0 := rfl
    omega
  · have := join_length_add ts h
    omega
theorem listText_len (ts : List Str) : (listText ts).length ≤ piled ts + 3 := by
  cases ts with
  | nil => decide
  | cons t r =>
    have h := textFrom_length_pos r 1 (("[" : Str) ++ (if (0 : Nat) > 0 then ", " else "" : String) ++ t) (Nat.succ_pos 0)
    have e : (("[" : Str) ++ (if (0 : Nat) > 0 then ", " else "" : String) ++ t).length = 1 + t.length := by rw [strLen_append, strLen_append]; rfl
    show (textFrom 1 (("[" : Str) ++ (if (0 : Nat) > 0 then ", " else "" : String) ++ t) r ++ "]").length ≤ _
    rw [strLen_append, h, e, piled_cons]
    have e2 : ("]" : Str).length = 1 := rfl
    omega
theorem fit_tup {n k : Nat} {ds : List PyData} (h : ∀ d ∈ ds, Fit n k d) (hn : ∀ d ∈ ds, noList d = true) : Fit ((n + 2) * ds.length + 3) (k + 1) (.tuple ds) := by
  obtain ⟨h1, h2, h3, h4⟩ := all_fit h
  refine ⟨?_, ?_, ?_, ?_⟩
  · simp only [PyData.shown]
    exact Nat.le_trans (tupleText_len _) (by omega)
  · simp only [PyData.depth]; omega
  · simpa only [PyData.showable] using h3
  · exact .inr (noList_of hn)
/-- tuples and lists without a dict -/
theorem fit_tupD {n k : Nat} {ds : List PyData} (h : ∀ d ∈ ds, Fit n k d) (hn : ∀ d ∈ ds, d.hasDict = false) : Fit ((n + 2) * ds.length + 3) (k + 1) (.tuple ds) := by
  obtain ⟨h1, h2, h3, h4⟩ := all_fit h
  refine ⟨?_, ?_, ?_, ?_⟩
  · simp only [PyData.shown]
    exact Nat.le_trans (tupleText_len _) (by omega)
  · simp only [PyData.depth]; omega
  · simpa only [PyData.showable] using h3
  · exact .inl (by simp only [PyData.hasDict]; exact hasDict_all hn)
theorem fit_lst {n k : Nat} {ds : List PyData} (h : ∀ d ∈ ds, Fit n k d) (hn : ∀ d ∈ ds, d.hasDict = false) : Fit ((n + 2) * ds.length + 3) (k + 1) (.list ds) := by
  obtain ⟨h1, h2, h3, h4⟩ := all_fit h
  refine ⟨?_, ?_, ?_, ?_⟩
  · simp only [PyData.shown]
    exact Nat.le_trans (listText_len _) (by omega)
  · simp only [PyData.depth]; omega
  · simpa only [PyData.showable] using h3
  · exact .inl (by simp only [PyData.hasDict]; exact hasDict_all hn)
theorem call_repr {X : Cx} (hg : X.A.guards = some []) (hu : X.A.units + 64 < cLine) : CallR X (.builtin "repr") (fun xs H Q => ∃ (v : V) (p : Addr) (d : PyData) (n k : Nat), xs = [v] ∧ Dat H p v d ∧ Fit n k d ∧ n ≤ sizeLine ∧ k ≤ 60 ∧ Q (.str d.shown) H) := by
  intro pins s σ H xs us Q I r h
  obtain ⟨v, p, d, n, k, rfl, hd, F, hn, hk, q⟩ := h
  obtain ⟨u, rfl, ru⟩ := vals1 r
  obtain ⟨as, R, hm⟩ := hd.reads I u ru
  have hz : d.shown.length ≤ sizeLine := Nat.le_trans F.len hn
  have fin : ∀ tk t, EP X pins σ Q (.str d.shown t) { s with toks := tk } := fun tk t => ⟨.str d.shown, H, I.tok tk, ⟨t, rfl⟩, q⟩
  cases hd with
  | non => cases ru; exact PySem.P.repr_of_none (by simpa only [PyData.shown] using fin _ _)
  | bl b => cases ru; exact PySem.P.repr_of_bool (by simpa only [PyData.shown] using fin _ _)
  | int i => obtain ⟨t, rfl⟩ := ru; exact PySem.P.repr_of_int (by simpa only [PyData.showable, decide_eq_true_eq] using F.sh) (by simpa only [PyData.shown] using fin _ _)
  | str x => obtain ⟨t, rfl⟩ := ru; exact PySem.P.repr_of_str (by simpa only [PyData.shown] using fin _ _) (by simpa only [PyData.shown] using hz)
  | tup h1 h2 h3 h4 =>
    cases ru
    exact repr_of_reads' R F.sh (fun hd => hm (F.ok.resolve_left (by rw [hd]; exact Bool.noConfusion))) hg (by have := F.dep; omega) (fun _ _ e => e) (fun h' u tk hk' => ⟨.str _, H, I.kept (t' := tk) hk', ⟨u, rfl⟩, q⟩) hz
  | lst h1 h2 h3 h4 =>
    cases ru
    exact repr_of_reads' R F.sh (fun hd => hm (F.ok.resolve_left (by rw [hd]; exact Bool.noConfusion))) hg (by have := F.dep; omega) (fun _ _ e => e) (fun h' u tk hk' => ⟨.str _, H, I.kept (t' := tk) hk', ⟨u, rfl⟩, q⟩) hz
  | dct h1 h2 =>
    cases ru
    exact repr_of_reads' R F.sh (fun hd => hm (F.ok.resolve_left (by rw [hd]; exact Bool.noConfusion))) hg (by have := F.dep; omega) (fun _ _ e => e) (fun h' u tk hk' => ⟨.str _, H, I.kept (t' := tk) hk', ⟨u, rfl⟩, q⟩) hz
end Fm
end FFmDat
section FFmLoop
set_option Elab.async false
set_option maxRecDepth 100000
namespace Fm
open PySem PySem.Spec PyProof.Rows L2
/-- a loop over what J yields -/
def ForB (J : It) (g : TG) (tb : TS) (D : Ends) (σ : L2.St) (H : Hp) : Prop := ∃ W : Nat → Nat → L2.St → Hp → Prop, (∃ m, W 0 m σ H) ∧ ∀ i m σ H, W i m σ H →
  (J.stop i H ∧ D.nx σ H) ∨ (J.go i H ∧ ∃ N : L2.St → Hp → Prop, (∀ σ' H', N σ' H' → ∃ m', m' < m ∧ W (i + 1) m' σ' H') ∧ ∀ x H', J.yld i H x H' → g x σ H' fun σ2 H2 => tb { D with nx := N, ct := N, bk := D.nx } σ2 H2)
theorem tFor_eq {wi : TI} {g : TG} {tb : TS} {D : Ends} {σ : L2.St} {H : Hp} : tFor wi g tb D σ H = wi σ H fun J H1 => ForB J g tb D σ H1 := rfl
/-- a comprehension over what J yields, its list at D -/
def LcB (J : It) (g : TG) (tt : TT) (te : TE) (vs : List Nat) (σ : L2.St) (H1 : Hp) (D : Addr) (Qd : Hp → Prop) : Prop := ∃ W : Nat → Nat → Hp → Prop, (∃ m, W 0 m (upd H1 D (.lst []))) ∧ ∀ i m H, W i m H →
  (J.stop i H ∧ Qd H) ∨ (J.go i H ∧ ∃ Nx : Hp → Prop, (∀ H', Nx H' → ∃ m', m' < m ∧ W (i + 1) m' H') ∧ ∀ x H', J.yld i H x H' → g x (wipe σ vs) H' fun σ2 H2 => wipe σ2 vs = wipe σ vs ∧ tt σ2 H2 fun b H3 =>
    if b = true then te σ2 H3 fun y H4 => ∃ acc, H4 D = some (.lst acc) ∧ acc.length < sizeLine ∧ Nx (upd H4 D (.lst (acc ++ [y]))) else Nx H3)
theorem tLc_eq {wi : TI} {g : TG} {tt : TT} {te : TE} {vs : List Nat} {σ : L2.St} {H : Hp} {Q : VK} : tLc wi g tt te vs σ H Q = wi σ H fun J H1 => ∀ A, H1 A = none → LcB J g tt te vs σ H1 A (fun H => Q (.ref A) H) := rfl
section
variable {K : PySem.W.Frag} {a : Addr} {xs : List V} {g : TG} {tb : TS} {D : Ends} {σ : L2.St} {H : Hp}
theorem fT (Pv : Nat → L2.St → Hp → Prop) (h0 : Pv 0 σ H) (hl : ∀ i σ H, i ≤ xs.length → Pv i σ H → SqT K H a xs)
    (hs : ∀ i x σ H, xs[i]? = some x → Pv i σ H → g x σ H fun σ2 H2 => tb { D with nx := Pv (i + 1), ct := Pv (i + 1), bk := D.nx } σ2 H2) (hd : ∀ σ H, Pv xs.length σ H → D.nx σ H) : ForB (Itt K a) g tb D σ H := for_tup Pv h0 hl hs hd
theorem fL (Pv : Nat → L2.St → Hp → Prop) (h0 : Pv 0 σ H) (hl : ∀ i σ H, i ≤ xs.length → Pv i σ H → SqL K H a xs)
    (hs : ∀ i x σ H, xs[i]? = some x → Pv i σ H → g x σ H fun σ2 H2 => tb { D with nx := Pv (i + 1), ct := Pv (i + 1), bk := D.nx } σ2 H2) (hd : ∀ σ H, Pv xs.length σ H → D.nx σ H) : ForB (Itl K a) g tb D σ H := for_list Pv h0 hl hs hd
theorem fR {lo : Int} {n : Nat} (Pv : Nat → L2.St → Hp → Prop) (h0 : Pv 0 σ H)
    (hs : ∀ i σ H, i < n → Pv i σ H → g (.int (lo + i)) σ H fun σ2 H2 => tb { D with nx := Pv (i + 1), ct := Pv (i + 1), bk := D.nx } σ2 H2) (hd : ∀ σ H, Pv n σ H → D.nx σ H) : ForB (Itr lo n) g tb D σ H := for_range Pv h0 hs hd
end
section
variable {K : PySem.W.Frag} {a : Addr} {xs : List V} {g : TG} {tt : TT} {te : TE} {vs : List Nat} {σ : L2.St} {H1 : Hp} {D : Addr} {Qd : Hp → Prop}
theorem lR {lo : Int} {n : Nat} (Pv : Nat → Hp → Prop) (h0 : Pv 0 (upd H1 D (.lst [])))
    (hs : ∀ i H, i < n → Pv i H → g (.int (lo + i)) (wipe σ vs) H fun σ2 H2 => wipe σ2 vs = wipe σ vs ∧ tt σ2 H2 fun b H3 =>
      if b = true then te σ2 H3 fun y H4 => ∃ acc, H4 D = some (.lst acc) ∧ acc.length < sizeLine ∧ Pv (i + 1) (upd H4 D (.lst (acc ++ [y]))) else Pv (i + 1) H3) (hd : ∀ H, Pv n H → Qd H) : LcB (Itr lo n) g tt te vs σ H1 D Qd := lc_range Pv h0 hs hd
theorem lL (Pv : Nat → Hp → Prop) (h0 : Pv 0 (upd H1 D (.lst []))) (hl : ∀ i H, i ≤ xs.length → Pv i H → SqL K H a xs)
    (hs : ∀ i x H, xs[i]? = some x → Pv i H → g x (wipe σ vs) H fun σ2 H2 => wipe σ2 vs = wipe σ vs ∧ tt σ2 H2 fun b H3 =>
      if b = true then te σ2 H3 fun y H4 => ∃ acc, H4 D = some (.lst acc) ∧ acc.length < sizeLine ∧ Pv (i + 1) (upd H4 D (.lst (acc ++ [y]))) else Pv (i + 1) H3) (hd : ∀ H, Pv xs.length H → Qd H) : LcB (Itl K a) g tt te vs σ H1 D Qd := lc_list Pv h0 hl hs hd
theorem lT (Pv : Nat → Hp → Prop) (h0 : Pv 0 (upd H1 D (.lst []))) (hl : ∀ i H, i ≤ xs.length → Pv i H → SqT K H a xs)
    (hs : ∀ i x H, xs[i]? = some x → Pv i H → g x (wipe σ vs) H fun σ2 H2 => wipe σ2 vs = wipe σ vs ∧ tt σ2 H2 fun b H3 =>
      if b = true then te σ2 H3 fun y H4 => ∃ acc, H4 D = some (.lst acc) ∧ acc.length < sizeLine ∧ Pv (i + 1) (upd H4 D (.lst (acc ++ [y]))) else Pv (i + 1) H3) (hd : ∀ H, Pv xs.length H → Qd H) : LcB (Itt K a) g tt te vs σ H1 D Qd := lc_tup Pv h0 hl hs hd
end
/-! ### what a house is, as data -/
def UpTo (mv : V) (d : PyData) : Prop := ∃ i : Int, d = .int i ∧ 0 ≤ i ∧ ∀ M, mv = .int M → i ≤ M
def RowD (m : Nat) (d : PyData) : Prop := ∃ ds, d = .tuple ds ∧ ds.length = m ∧ ∀ e ∈ ds, ∃ i : Int, e = .int i ∧ 0 ≤ i ∧ i < m
def cellD (rs : List PyData) (a b : Nat) : PyData := match rs[a]? with
  | some (.tuple r) => r[b]?.getD .none
  | _ => .none
def TabD (m : Nat) (d : PyData) : Prop := ∃ rs, d = .tuple rs ∧ rs.length = m ∧ (∀ r ∈ rs, RowD m r) ∧ ∀ a b, a < m → b < m → cellD rs a b = cellD rs b a
def FloorD (m : Nat) (d : PyData) : Prop := ∃ s u, d = .tuple [s, u] ∧ TabD m s ∧ TabD m u
def HouseN (m n : Nat) (d : PyData) : Prop := ∃ fs, d = .tuple fs ∧ fs.length = n ∧ 1 ≤ n ∧ n ≤ 4 ∧ 1 ≤ m ∧ m ≤ 6 ∧ ∀ f ∈ fs, FloorD m f
def HouseD (d : PyData) : Prop := ∃ m n, HouseN m n d
/-! ### promises of the program's looks -/
def spWhole : Sp := fun vs H Q _ => ∃ (v : V) (p : Addr) (d : PyData), vs = [v] ∧ Dat H p v d ∧ ∀ b : Bool, (b = true ↔ ∃ i, d = .int i) → Q (.bl b) H
def spUpTo : Sp := fun vs H Q _ => ∃ (v mv : V) (p : Addr) (d : PyData), vs = [v, mv] ∧ Dat H p v d ∧ (mv = .non ∨ ∃ M, mv = .int M) ∧ ∀ b : Bool, (b = true ↔ UpTo mv d) → Q (.bl b) H
def spTupOf : Sp := fun vs H Q _ => ∃ (v : V) (n : Int) (p : Addr) (d : PyData), vs = [v, .int n] ∧ Dat H p v d ∧ ∀ b : Bool, (b = true ↔ ∃ ds, d = .tuple ds ∧ (ds.length : Int) = n) → Q (.bl b) H
def spAre : Sp := fun vs H Q _ => ∃ (v mv : V) (n : Int) (p : Addr) (d : PyData), vs = [v, .int n, mv] ∧ Dat H p v d ∧ (mv = .non ∨ ∃ M, mv = .int M) ∧
  ∀ b : Bool, (b = true ↔ ∃ ds, d = .tuple ds ∧ (ds.length : Int) = n ∧ ∀ e ∈ ds, UpTo mv e) → Q (.bl b) H
def spTable : Sp := fun vs H Q _ => ∃ (v : V) (m : Nat) (p : Addr) (d : PyData), vs = [v, .int m] ∧ m ≤ 1000 ∧ Dat H p v d ∧ ∀ b : Bool, (b = true ↔ TabD m d) → Q (.bl b) H
def spHouse : Sp := fun vs H Q _ => ∃ (v : V) (p : Addr) (d : PyData), vs = [v] ∧ Dat H p v d ∧ ∀ b : Bool, (b = true ↔ HouseD d) → Q (.bl b) H
end Fm
end FFmLoop
section FFmTry
set_option Elab.async false
set_option linter.all false
set_option maxRecDepth 100000
set_option maxHeartbeats 2000000
namespace Fm
open PySem PySem.Spec PyProof.Rows L2
/-- an exception of the class cls, caught and kept at a -/
def ExK (cls : Value) (d : Option Addr) (a : Addr) : HO := .ext fun h => ∃ (oe : Obj) (vs : Array Value), h.get? a = some oe ∧ Zc cls d oe ∧ oe.data = .fields vs
section
variable {X : Cx} {pins : List (Addr × Obj)} {σ : L2.St} {H : Hp} {s sI : Shared}
/-- what is pinned, and is new since the entry, may be tracked -/
theorem track {a : Addr} {oe : Obj} {vs : Array Value} {cls : Value} {d : Option Addr} (I : Inv X ((a, oe) :: pins) σ H s) (hz : Zc cls d oe) (hv : oe.data = .fields vs)
    (h0 : X.s_0.heap.get? a = none) (hp : ∀ q ∈ X.pn ++ pins, q.1 ≠ a) : Inv X pins σ (upd H a (ExK cls d a)) s := by
  obtain ⟨ga, na, nl, nf, nc⟩ := I.pin (a, oe) (List.mem_append_right _ List.mem_cons_self)
  dsimp only at ga na nl nf nc
  have nb : ∀ {b o}, X.s_0.heap.get? b = some o → b ≠ a := fun {b o} e z => by
    rw [z, h0] at e
    cases e
  have hne : ∀ {b u}, H b = some u → b ≠ a := fun {b u} e => ne_of_none e na
  refine ⟨I.ok, I.os, I.bare, ⟨fun b o e n x y => ?_, fun b o e n x y => ?_, fun b o e n x => ?_, fun b o e x => ?_, fun b xs e => ?_, fun b o u e => ?_, fun b ps e => ?_⟩, I.loc, I.cell, ?_, fun x c e => ?_, fun q hq => ?_, fun b u e => ?_, I.len⟩
  · exact I.base.keep b o e n x y
  · exact I.base.slot b o e n x y
  · rw [upd_ne (nb e)]
    exact I.base.free b o e n x
  · exact I.base.there b o e x
  · have q := I.base.tups b xs e
    rw [upd_ne (hne q)]
    exact q
  · have q := I.base.frzs b o u e
    rw [upd_ne (hne q)]
    exact q
  · obtain ⟨m, q⟩ := I.base.tbls b ps e
    exact ⟨m, by rw [upd_ne (hne q)]; exact q⟩
  · rw [upd_ne (Ne.symm nl)]
    exact I.free
  · have hca : c ≠ a := fun z => by
      obtain ⟨v, o, ho, hd⟩ := I.cell x c e
      rw [z, ga] at ho
      cases ho
      exact nc v hd
    rw [upd_ne hca]
    exact I.freeC x c e
  · have hq2 : q ∈ X.pn ++ (a, oe) :: pins := by
      rcases List.mem_append.mp hq with z | z
      · exact List.mem_append_left _ z
      · exact List.mem_append_right _ (List.mem_cons_of_mem _ z)
    obtain ⟨e1, e2, e3⟩ := I.pin q hq2
    exact ⟨e1, by rw [upd_ne (hp q hq)]; exact e2, e3⟩
  · by_cases hb : b = a
    · subst hb
      rw [upd_same] at e
      cases e
      exact ⟨⟨oe, vs, ga, hz, hv⟩, ⟨oe, ga⟩, fun h1 h2 ⟨o, v, q, r⟩ k => ⟨o, v, k o q, r⟩⟩
    · rw [upd_ne hb] at e
      exact (I.hok b u e).stay (fun c w _ q => q) (fun c q => by rw [upd_ne (hne q)]; exact q) fun c xs q => by rw [upd_ne (hne q)]; exact q
end
/-- what the clause wishes that keeps its exception in a name: i the clause's own name, j the name that keeps it -/
def wKeep (K : PySem.W.Frag) (c : Value) (i j : Nat) (D : Ends) : WX := fun cls d σ H =>
  PySem.W.exmOne K cls c = some true ∧ ∀ a, H a = none → D.nx (((σ.set i (some (.ref a))).set j (some (.ref a))).set i none) (upd H a (ExK cls d a))
section
variable {X : Cx} {x n y : Str} {c : Value} {i j : Nat} {body : List Stmt} {np pos pos' py pn sp : Pos} {tb : WX → TS}
theorem ps_try_keep (hs : X.stack = X.env :: X.outer) (hf : X.env.frame = some X.env.locals) (hex : X.ex = []) (hN : X.N.Nodup) (hi : X.N[i]? = some n) (hln : X.env.kindOf n = some .local) (hj : X.N[j]? = some y) (hly : X.env.kindOf y = some .local) (hc : Names X x c)
    (hd1 : (n == ("__debug__" : Str)) = false) (hd2 : (n == ("__classdict__" : Str)) = false) (hsw : swapsWith (.Name n pn) (some (.Name y py)) sp.line X.env = pure false) (hil : i < X.N.length)
    (hb : ∀ (W : WX) (pn : List (Addr × Obj)) (xe : Value → Shared → Prop), Takes (X.tr pn xe) W → PassesOwn (model X.prog X.w) X.A X.env xe → PSs (X.tr pn xe) body (tb W)) :
    PS X (.Try body [.ExceptHandler (some (.Name x np)) (some n) [.Assign [.Name y py] (.Name n pn) sp] pos'] [] [] pos) (fun D σ H => tb (wKeep X.K c i j D) D σ H) := by
  refine ⟨fun pins s σ H D I h => ?_⟩
  have ok := I.ok
  have fr1 : X.A.frames = some (X.env :: X.outer) := by rw [ok.frames, hs]
  have lc1 : Loc X.env.scope n := .inl hln
  refine wpAny_Try_except ?_
  refine wpAny_mono ((hb (wKeep X.K c i j D) (X.pn ++ pins) (fun e t1 => wpAny (model X.prog X.w) X.A (noteFrame e X.env) (fun _ t2 => wpAny (model X.prog X.w) X.A (setFlight e none) (fun _ t3 =>
    wpAny (model X.prog X.w) X.A (handleBy e X.env [.ExceptHandler (some (.Name x np)) (some n) [.Assign [.Name y py] (.Name n pn) sp] pos']) (SP X pins D) X.xe t3) X.xe t2) X.xe t1) (fun u s' xx => ?_) PassesOwn.looking).run [] s σ H D (I.toTry _) h) (fun f s1 hsp => ?_) (fun e s1 he => he)
  · obtain ⟨a, B, sI, pins', σ1, H1, cls, d, rfl, J0, nb, up, sky, na, os, ag, hx1, hyes⟩ := xx
    have J : Inv X pins σ1 H1 sI := J0.ofTry ok
    have sk : Sky B (X.env :: X.outer) a (Zc cls d) X.env.locals s'.heap := hs ▸ sky
    show wpAny (model X.prog X.w) X.A (noteFrame (.ref a) X.env) _ _ _
    refine Sky.land Zc.steady fr1 hf sk fun g3 f3 u3 => ?_
    have K3 : Inv X pins σ1 H1 { s' with heap := g3 } := J.landed nb f3.1 (up.trans u3) os ag
    obtain ⟨o3, v3, e3, z3, d3⟩ := f3.there
    have off : a ∉ frs (X.env :: X.outer) := fun hm => by
      obtain ⟨_, o', e', hq⟩ := (show g3.FunFrames B (X.env :: X.outer) from f3.2.2.1).mem hm
      rw [e3] at e'
      cases e'
      exact hq _ d3
    have offL : a ≠ X.env.locals := fun z => off (List.mem_filterMap.mpr ⟨X.env, List.mem_cons_self, by rw [hf, z]⟩)
    have offF : a ∉ X.fs := fun hm => by
      obtain ⟨e, he, q⟩ := List.mem_filterMap.mp hm
      exact off (List.mem_filterMap.mpr ⟨e, List.mem_cons_of_mem _ he, q⟩)
    have newI : sI.heap.get? a = none := by
      cases q : sI.heap.get? a with
      | none => rfl
      | some o =>
        have z := nb a o q (by rw [hs]; exact off)
        rw [f3.2.1] at z
        cases z
    have new0 : X.s_0.heap.get? a = none := by
      cases q : X.s_0.heap.get? a with
      | none => rfl
      | some o =>
        obtain ⟨o', z⟩ := J.base.there a o q (by rw [hex]; exact fun z => nomatch z)
        rw [newI] at z
        cases z
    have S3 := K3.suite e3 d3 na offL offF
    refine wpAny_handleBy_cons (codeAny_handlers_test ?_) (by intro q; cases q)
    have LT : PySem.W.Looks (model X.prog X.w) g3 (typeOf (.ref a)) cls := fun A Q E s k q => wpAny_typeOf_ref (k _ _ e3) (by rw [z3.1]; exact q)
    have LM := PySem.W.exm_one (M := model X.prog X.w) K3.kIn LT hx1
    have tst : ∀ {Q : Value → Shared → Prop} {E : Value → Shared → Prop}, Q c { s' with heap := g3 } → wpAny (model X.prog X.w) (X.A.mark (some (.ref a))) (eval (.Name x np) X.env) Q E { s' with heap := g3 } := fun {Q E} q => by
      obtain ⟨hg, hdb, hm | ⟨hm, hv, hnn⟩⟩ := hc
      · exact ld_glob (X := X.suite a ((a, o3) :: (X.pn ++ pins))) S3 hg hm q hdb
      · exact ld_blt (X := X.suite a ((a, o3) :: (X.pn ++ pins))) S3 hg hm hv q hnn hdb
    refine tst (LM.here ?_)
    refine codeAny_handlers_suite_as ?_
    refine HandSPX.lands_againZ f3 fun g4 f4 u4 => ?_
    have K4 : Inv X pins σ1 H1 { s' with heap := g4 } := J.landed nb f4.1 ((up.trans u3).trans u4) os ag
    obtain ⟨o4, v4, e4, z4, d4⟩ := f4.there
    have S4 := K4.suite e4 d4 na offL offF
    refine store_ok (X := X.suite a ((a, o4) :: (X.pn ++ pins))) (v := .ref a) S4 hN hi lc1 rfl (fun s5 S5 => ?_) (.inr hln)
    have step : PSs (X.suite a ((a, o4) :: (X.pn ++ pins))) [.Assign [.Name y py] (.Name n pn) sp] (tSeq (tAsg (tVar i) (gName j)) tNext) :=
      pss_cons (ps_set (i := j) hN hj (.inl hly) (pe_var (i := i) hi (.inl hln) hd1 hd2) hsw (.inr hly)) pss_nil
    have hlen : i < σ1.length := by rw [J.len]; exact hil
    refine wpAny_mono (step.run [] s5 _ H1 { nx := fun σ6 H6 => σ6 = (σ1.set i (some (.ref a))).set j (some (.ref a)) ∧ H6 = H1, rt := fun _ _ => False } S5 ⟨.ref a, by rw [List.getElem?_set_self hlen], rfl, rfl⟩) (fun f s6 hsp => ?_) (fun _ _ z => False.elim z)
    cases f with
    | next =>
      obtain ⟨σ6, H6, S6, rfl, rfl⟩ := hsp
      have U : Inv X ((a, o4) :: pins) ((σ1.set i (some (.ref a))).set j (some (.ref a))) H6 s6 := ⟨ok, S6.os, S6.bare, S6.base, S6.loc, S6.cell, S6.free, S6.freeC, fun q hq => S6.pin q (List.mem_append_left _ (by
        rcases List.mem_append.mp hq with z | z
        · exact List.mem_cons_of_mem _ (List.mem_append_left _ z)
        · rcases List.mem_cons.mp z with z | z
          · rw [z]; exact List.mem_cons_self
          · exact List.mem_cons_of_mem _ (List.mem_append_right _ z))), S6.hok, S6.len⟩
      refine gone_ok U hN hi hln fun s7 J7 => ?_
      refine ⟨_, _, track J7 z4 d4 new0 (fun q hq z => ?_), hyes a na⟩
      have e := (J.pin q hq).1
      rw [z, newI] at e
      cases e
    | brk =>
      obtain ⟨_, _, _, q⟩ := hsp
      exact False.elim q
    | cont =>
      obtain ⟨_, _, _, q⟩ := hsp
      exact False.elim q
    | ret u =>
      obtain ⟨_, _, _, _, _, q⟩ := hsp
      exact False.elim q
  · cases f with
    | next =>
      obtain ⟨σ', H', J', q⟩ := hsp
      exact wpAny_execs_nil ⟨σ', H', J'.ofTry ok, q⟩
    | brk =>
      obtain ⟨σ', H', J', q⟩ := hsp
      exact ⟨σ', H', J'.ofTry ok, q⟩
    | cont =>
      obtain ⟨σ', H', J', q⟩ := hsp
      exact ⟨σ', H', J'.ofTry ok, q⟩
    | ret u =>
      obtain ⟨v, σ', H', J', r, q⟩ := hsp
      exact ⟨v, σ', H', J'.ofTry ok, r, q⟩
end
end Fm
end FFmTry
section FFmExc
set_option Elab.async false
set_option linter.all false
set_option maxRecDepth 100000
set_option maxHeartbeats 2000000
namespace Fm
open PySem PySem.Spec PyProof.Rows L2
/-- an error class of the program, straight under MeetError at M -/
structure Exn (K : PySem.W.Frag) (mg : Str → Option Value) (x : Str) (C M : Addr) : Prop where
  g : mg x = some (.ref C)
  e : PySem.W.excIn K C [.type "ValueError", .type "Exception", .type "BaseException", .type "object"] "ValueError.__new__" = true
  k : PySem.W.keepIn K (.ref C) = true
  b : PySem.W.subIn K (.ref C) (.type "BaseException") = some true
  t : PySem.W.typeIn K (.ref C) = some (.type "type")
  c : ExcC K C
  m : PySem.W.exmOne K (.ref C) (.ref M) = some true
/-- isinstance(e, c), e a kept error -/
def rIsK (K : PySem.W.Frag) (D : Addr) : List V → Hp → VK → Prop := fun xs H Q => ∃ (a : Addr) (c : V) (u : Value) (b : Bool), xs = [.ref a, c] ∧ H a = some (ExK (.ref D) none a) ∧ ClsV c u ∧ PySem.W.kitOne K (.ref D) u = some b ∧ Q (.bl b) H
def rIsKT (K : PySem.W.Frag) (D : Addr) : List V → Hp → VK → Prop := fun xs H Q => ∃ (a tp : Addr) (cs : List V) (us : List Value) (b : Bool), xs = [.ref a, .ref tp] ∧ H a = some (ExK (.ref D) none a) ∧ H tp = some (.tup cs) ∧ Paired ClsV cs us ∧ PySem.W.kitAny K (.ref D) us = some b ∧ Q (.bl b) H
section
variable {X : Cx} {D : Addr}
theorem kept_inst {pins : List (Addr × Obj)} {σ : L2.St} {H : Hp} {s : Shared} {a : Addr} (I : Inv X pins σ H s) (h : H a = some (ExK (.ref D) none a)) : ∃ oe, PySem.W.InstAt s.heap a oe D none := by
  obtain ⟨⟨oe, vs, hg, hz, hv⟩, _, _⟩ := I.hok a _ h
  obtain ⟨oc, od, oda, osl⟩ := oe
  obtain ⟨h1, h2⟩ := hz
  dsimp only at h1 h2 hv
  subst h1 h2 hv
  exact ⟨_, hg, rfl, rfl, trivial⟩
theorem call_isK (C : ExcC X.K D) : CallR X (.builtin "isinstance") (rIsK X.K D) := by
  intro pins s σ H xs us Q I r h
  obtain ⟨a, c, u, b, rfl, ha, hc, e, q⟩ := h
  obtain ⟨u1, u2, rfl, r1, r2⟩ := vals2 r
  cases r1
  have e2 := hc.eq r2
  subst e2
  obtain ⟨oe, J⟩ := kept_inst I ha
  exact PySem.W.kia_one (PySem.W.handS_kitx_exc C.hg C.hk C.hs C.hd C.ha C.hn C.ht C.hm) I.kIn J e (fun z => nomatch z) fun tk => ⟨.bl b, H, I.tok tk, rfl, q⟩
theorem call_isKT (C : ExcC X.K D) : CallR X (.builtin "isinstance") (rIsKT X.K D) := by
  intro pins s σ H xs us Q I r h
  obtain ⟨a, tp, cs, ws, b, rfl, ha, hT, hc, e, q⟩ := h
  obtain ⟨u1, u2, rfl, r1, r2⟩ := vals2 r
  cases r1
  cases (show u2 = Value.ref tp from r2)
  obtain ⟨oe, J⟩ := kept_inst I ha
  obtain ⟨_, its, rv, o, h1, h2, n, h3⟩ := (show ObjOk X.prog X.w H s.heap tp (.tup cs) from I.hok tp _ hT)
  have e3 := ClsV.all hc rv
  subst e3
  obtain ⟨oc, od, dt, sl⟩ := o
  simp only at h2 h3
  subst h2 h3
  exact PySem.W.kia_tup (PySem.W.handS_kitx_exc C.hg C.hk C.hs C.hd C.ha C.hn C.ht C.hm) I.kIn J h1 e (fun z => nomatch z) fun tk => ⟨.bl b, H, I.tok tk, rfl, q⟩
end
/-- raise C('..') of such a class -/
theorem ps_raiseE {X : Cx} {W : WX} {x m : Str} {C M : Addr} {j : Nat} {p p2 p3 pos : Pos} (hc : X.calm = true) (tk : Takes X W) (E : Exn X.K X.mg x C M) (hg : Gl X x) (hd : (x == ("__debug__" : Str)) = false := by decide) :
    PS X (.Raise (some (.Call (.Name x p) [.Constant (.str m) j p2] [] p3)) none pos) (fun _ σ H => W (.ref C) none σ H) :=
  ps_raise hc tk (pmk_own PySem.F.excBase_ValueError E.e E.g E.k (raises_own E.b E.t) hg hd)
/-- size's promise: C is NoHouse -/
def spSize (C : Addr) : Sp := fun vs H Q E => ∃ (v : V) (p : Addr) (d : PyData), vs = [v] ∧ Dat H p v d ∧ (∀ m n, HouseN m n d → ∀ q H', H q = none → H' q = some (.tup [.int m, .int n]) → Same H H' → Q (.ref q) H') ∧ (¬ HouseD d → E (.ref C) none H)
end Fm
end FFmExc
section FFmEnd
set_option Elab.async false
set_option linter.all false
set_option maxRecDepth 100000
set_option maxHeartbeats 2000000
namespace Fm
open PySem PySem.Spec PyProof.Rows L2
/-- a def's promise where no text is being made of anything around it, and nothing is raised -/
def RunG (P : Program) (w : World) (K : PySem.W.Frag) (mg : Str → Option Value) (base : Heap) (k : Nat) (f : Addr) (fd : FuncData) (ps : List Str) (sp : Sp) : Prop :=
  ∀ (A : Around) (outer : List Env) (s : Shared) (H : Hp) (args : Args) (us : List Value) (vs : List V) (Q : VK), A.guards = some [] → Room k A → Env0 P w K mg base A outer s H → BindsTo s fd args (ps.zip us) → Vals vs us → vs.length = ps.length → sp vs H Q E0 →
    codeAny (model P w) A (.call (.ref f) args) (fun r s' => ∃ u, r = .ok (.ret u) ∧ CE outer P w H s Q u s') s
theorem run_g {P : Program} {w : World} {K : PySem.W.Frag} {mg : Str → Option Value} {base : Heap} {x : Str} {st : Stmt} {f : Addr} {fd : FuncData} {N ps : List Str} {k : Nat} {sp : Sp} (F : Fun K x x st f fd) (S : FnScope N ps (defScope st))
    (b : ∀ (cdv : Value) (A : Around) (outer : List Env) (s : Shared) (H : Hp) (vs : List V) (Q : VK), (A.deeper (envOfC x (defScope st) s.heap.objs.size f cdv)).guards = some [] → Room k (A.deeper (envOfC x (defScope st) s.heap.objs.size f cdv)) → sp vs H Q E0 →
      ∃ t, PSs (cxOf CX0 P w K mg base N x (defScope st) f cdv A outer s H E0).nox (defBody st) t ∧ t { nx := fun _ H' => Q .non H', rt := Q } (start N vs) H) : RunG P w K mg base (k + 1) f fd ps sp := by
  obtain ⟨oc, od, kV, doc, pm, an, cdv, ct, osl, rfl, lk, hcd⟩ := F.ex
  intro A outer s H args us vs Q hg hr e0 hb r hl hsp
  have KX : K.In s.heap := e0.mod.kin.keeps fun c o e => (e0.bs c o e).1
  have nl : s.heap.NoLimit := e0.mod.nolimit.keeps fun c o e => (e0.bs c o e).1
  have kinds : ∀ z ∈ ps.zip us, (defScope st).names.lookup z.1 = some .local ∨ ((defScope st).names.lookup z.1 = some .cell ∧ ((cellsFrom (s.heap.objs.size + 1) (defScope st).names []).lookup z.1).isSome = true) := fun ⟨n, v⟩ hz => by
    rcases S.par n (List.of_mem_zip hz).1 with q | q
    · exact .inl q
    · exact .inr ⟨q, PySem.W.cellsFrom_some _ _ _ (.inl q)⟩
  refine codeAny_call_function hr.depth (KX _ _ lk) rfl S.co S.gen rfl (PySem.W.codeRec_of KX hcd) (hb _ _ _ _ ?_)
  refine wpAny_newFunctionEnv_cells S.kind kinds fun env he s1 y => ?_
  subst he
  refine ⟨nl.keeps y.toInCall.keep, codeAny_func ?_⟩
  obtain ⟨t, ht, hq⟩ := b cdv A outer s H vs Q hg (hr.deeper _) hsp
  have I := inv_start (CX := CX0) (P := P) (w := w) (qual := x) (f := f) (cd := cdv) (E := E0) S hr.hd e0 hl r y
  refine wpAny_mono (ht.nox.run [] s1 (start N vs) H _ I hq) (fun fl s' hs => ?_) (fun e s' hs => ?_)
  · cases fl with
    | ret u =>
      obtain ⟨v, σ', H', J, rv, q⟩ := hs
      exact ⟨u, rfl, v, H', J.os, J.bare, J.base, J.hok, rv, q⟩
    | next =>
      obtain ⟨σ', H', J, q⟩ := hs
      exact ⟨.none, rfl, .non, H', J.os, J.bare, J.base, J.hok, rfl, q⟩
    | brk =>
      obtain ⟨_, _, _, q⟩ := hs
      exact False.elim q
    | cont =>
      obtain ⟨_, _, _, q⟩ := hs
      exact False.elim q
  · exact wpAny_mono hs (fun _ _ z => False.elim z) fun _ _ z => False.elim z
/-- the law's call, at what the top has left -/
theorem end_g {P : Program} {w : World} {K : PySem.W.Frag} {mg mb : Str → Option Value} {k : Nat} {fa a : Addr} {fd : FuncData} {x : Str} {sp : Sp} {t : Shared} {vs : List Value} {ns : List Int}
    (KX : K.In t.heap) (g1 : t.heap.Ns mainGlobals mg) (g2 : t.heap.Ns builtinsNs mb) (g3 : ∀ y : Str, y ≠ "__name__" → mb y = bootBuiltins y) (g4 : t.heap.NoLimit) (g5 : t.gens = #[])
    (ha : t.heap.get? a = some { cls := .type "list", data := .seq vs.toArray }) (hi : IntsAre vs ns) (hl : ns.length ≤ sizeLine) (hr : Room k callerA)
    (F : ∀ base : Heap, K.In base → base.Ns mainGlobals mg → RunG P w K mg base k fa fd [x] sp) (hb : ∀ (s : Shared) (u : Value), BindsTo s fd ⟨[u], []⟩ [(x, u)])
    (hs : ∀ H : Hp, SqL K H a (ns.map V.int) → (∀ b, H b = none ∨ b = a) → sp [.ref a] H (fun v _ => v = .bl true) E0) :
    codeAny (model P w) callerA (.call (.ref fa) ⟨[.ref a], []⟩) (fun r s' => r = .ok (.ret (.bool true)) ∧ OldK t.heap s'.heap ∧ s'.os = t.os ∧ AllBare s'.gens) t := by
  have rv := vals_ints hi
  have lv := hi.length
  suffices core : ∀ H : Hp, SqL K H a (ns.map V.int) → HOk P w H t.heap → (∀ b, H b = none ∨ (b = a ∧ ∃ o us, H b = some (.frz o (.lst us)))) → (H a ≠ none → K.lookup a = none) →
      codeAny (model P w) callerA (.call (.ref fa) ⟨[.ref a], []⟩) (fun r s' => r = .ok (.ret (.bool true)) ∧ OldK t.heap s'.heap ∧ s'.os = t.os ∧ AllBare s'.gens) t by
    cases hk : K.lookup a with
    | some o =>
      have e := KX a o hk
      rw [ha] at e
      cases e
      exact core (fun _ => none) (.inr ⟨_, vs.toArray, _, hk, rfl, rfl, rfl, by rw [List.size_toArray, lv]; exact hl, by simpa using rv⟩) (fun b u z => by cases (show (none : Option HO) = some u from z)) (fun b => .inl rfl) fun z => absurd rfl z
    | none =>
      have at1 : ∀ b u, (if b = a then some (HO.frz { cls := .type "list", data := .seq vs.toArray } (.lst (ns.map V.int))) else none) = some u → b = a ∧ u = .frz { cls := .type "list", data := .seq vs.toArray } (.lst (ns.map V.int)) := fun b u z => by
        by_cases hba : b = a
        · rw [if_pos hba] at z
          exact ⟨hba, (Option.some.inj z).symm⟩
        · rw [if_neg hba] at z
          cases z
      refine core (fun b => if b = a then some (.frz { cls := .type "list", data := .seq vs.toArray } (.lst (ns.map V.int))) else none) (.inl (.inr ⟨{ cls := .type "list", data := .seq vs.toArray }, if_pos rfl⟩)) (fun b u z => ?_) (fun b => ?_) fun _ => hk
      · obtain ⟨rfl, rfl⟩ := at1 b u z
        exact ⟨ha, by rw [List.length_map]; exact hl, vs, _, rv, ha⟩
      · by_cases hba : b = a
        · exact .inr ⟨hba, _, _, if_pos hba⟩
        · exact .inl (if_neg hba)
  intro H hS hok hA hK
  have ex : ∀ {b : Addr} {u : HO}, H b = some u → b = a := fun {b u} e => by
    rcases hA b with z | ⟨z, _⟩
    · rw [e] at z
      cases z
    · exact z
  have off : ∀ {b : Addr} {o : Obj} {es : Array DictEntry} {ep : Nat}, t.heap.get? b = some o → o.data = .dict es ep → H b = none := fun {b o es ep} e d => by
    cases q : H b with
    | none => rfl
    | some u =>
      rw [ex q, ha] at e
      cases e
      cases (show Data.seq vs.toArray _ = Data.dict es ep from d)
  have ns : ∀ {b : Addr} {m : Str → Option Value}, t.heap.Ns b m → (hidT t.heap H).Ns b m := fun {b m} ⟨o, es, ep, e, d, r⟩ => ⟨o, es, ep, hidT_get e (off e d), d, r⟩
  have kin : K.In (hidT t.heap H) := fun b o e => hidT_get (KX b o e) (by
    cases q : H b with
    | none => rfl
    | some u =>
      have z := ex q
      subst z
      rw [hK (by rw [q]; exact fun y => by cases y)] at e
      cases e)
  have md : Mod K mg (hidT t.heap H) := ⟨kin, ns g1, ⟨mb, ns g2, g3⟩, let ⟨mc, y1, y2⟩ := g4; ⟨mc, ns y1, y2⟩⟩
  have e0 : Env0 P w K mg (hidT t.heap H) callerA [] t H := ⟨rfl, md, fun b o e => of_hidT e, Nat.le_of_eq (hidT_size _ _), trivial, fun b z => (by cases z), hok, .of_eq g5⟩
  refine codeAny_mono (F _ kin (ns g1) callerA [] t H ⟨[.ref a], []⟩ [.ref a] [.ref a] _ rfl hr e0 (hb t (.ref a)) (.cons rfl .nil) rfl (hs H hS fun b => (hA b).imp id fun z => z.1)) fun r s' h => ?_
  obtain ⟨u, rfl, v, H', os, bare, un, hok', r', q⟩ := h
  have q' : v = .bl true := q
  subst q'
  obtain rfl : u = Value.bool true := r'
  refine ⟨rfl, OldK.of_keep fun b o e => ?_, os, bare⟩
  rcases hA b with q | ⟨_, ob, us, q⟩
  · exact un.keep b o e q (by intro z; cases z) (by intro z; cases z)
  · obtain ⟨d1, _⟩ := hok b _ q
    obtain ⟨d2, _⟩ := hok' b _ (un.frzs b ob _ q)
    rw [e] at d1
    cases d1
    exact d2
/-- the goal that k_head leaves -/
theorem walk_g {l : PySem.W.OpenLaw} {n k : Nat} {q : Program} {loose : List Str} {XP : (Str → Option Value) → Heap → Prop} {YP : World → Heap → Prop} {d : DefRec} {K : Params → PySem.W.Frag} {sp : PySem.W.Frag → Sp} {x : Str}
    (hn : l.most = some n) (hn2 : n ≤ sizeLine) (hdf : d.params.defaults = []) (hr : Room k callerA) (hY : ∀ (w : World) (h : Heap), YP w h → (K w.params).In h)
    (F : ∀ (w : World) (mg : Str → Option Value) (fa : Addr) (h : Heap), (K w.params).In h → h.Ns mainGlobals mg → mg d.name = some (.ref fa) →
      ∃ fd : FuncData, (∀ (s : Shared) (u : Value), BindsTo s fd ⟨[u], []⟩ [(x, u)]) ∧ ∀ base : Heap, (K w.params).In base → base.Ns mainGlobals mg → RunG l.prog w (K w.params) mg base k fa fd [x] (sp (K w.params)))
    (hs : ∀ (K : PySem.W.Frag) (H : Hp) (a : Addr) (ns : List Int), ns.length ≤ n → SqL K H a (ns.map V.int) → (∀ b, H b = none ∨ b = a) → sp K [.ref a] H (fun v _ => v = .bl true) E0) :
    PySem.W.WalkO q loose XP YP l.row.toRowW d [] (fun f vs => PySem.call f vs) := by
  refine Att.attach_call hn hdf fun w s0 t mg mb fa o pm cd doc a vs ns G Y ho hd hcd hmg hobj hints hlen hg => ?_
  have KX := hY w _ Y
  obtain ⟨fd, hb, hF⟩ := F w mg fa _ KX G.T.g hmg
  exact end_g KX G.T.g G.T.b G.T.builtins G.T.nolimit hg hobj hints (Nat.le_trans hlen hn2) hr hF hb fun H h1 h2 => hs _ H a ns hlen h1 h2
end Fm
end FFmEnd
section FFmSeq
set_option Elab.async false
set_option linter.all false
set_option maxRecDepth 100000
set_option maxHeartbeats 4000000
namespace Fm
open PySem PySem.Spec PyProof.Rows L2 HT
theorem rev_adjust (n : Nat) : Builtin.Slice.sliceAdjust none none (-1) (n : Int) = ((n : Int) - 1, -1) := by
  unfold Builtin.Slice.sliceAdjust
  simp
theorem rev_places (n : Nat) : Builtin.Slice.slicePlaces ((n : Int) - 1) (-1) (-1) = n := by
  unfold Builtin.Slice.slicePlaces
  have h1 : ¬ ((-1 : Int) > 0) := by decide
  simp only [h1, if_false]
  have e : ((n : Int) - 1 - -1 - 1) / (- -1) = (n : Int) - 1 := by
    rw [show (- -1 : Int) = 1 by decide, Int.ediv_one]
    omega
  rw [e]
  split <;> omega
theorem fm_congr {α β : Type} {f g : α → Option β} : ∀ {l : List α}, (∀ x ∈ l, f x = g x) → l.filterMap f = l.filterMap g
  | [], _ => rfl
  | x :: r, h => by
    rw [List.filterMap_cons, List.filterMap_cons, h x List.mem_cons_self, fm_congr fun y hy => h y (List.mem_cons_of_mem _ hy)]
theorem rev_pick (xs : Array Value) : ((List.range xs.size).filterMap fun (m : Nat) => xs[((xs.size : Int) - 1 + (m : Int) * -1).toNat]?).toArray = xs.toList.reverse.toArray := by
  congr 1
  have h := PySem.W.krv_all xs
  rw [← h, ← List.filterMap_reverse, ← PySem.W.krv_range, List.filterMap_map]
  apply fm_congr
  intro m hm
  have := List.mem_range.mp hm
  have e : ((xs.size : Int) - 1 + (m : Int) * -1).toNat = xs.size - 1 - m := by omega
  rw [e]
  rfl
section
variable {prog : Program} {w : World} {A : Around} {E : Value → Shared → Prop} {s : Shared}
theorem rev_applied {sl : Addr} {vs : Value} {n : Nat} {Q : Int × Int × Nat → Shared → Prop} (hs : s.heap.IsSliceOf sl .none .none vs) (ps : IsPart vs (some (-1))) (h : Q ((n : Int) - 1, -1, n) s) :
    wpAny (model prog w) A (Builtin.Slice.sliceApplied (.ref sl) (pure (n : Int))) Q E s := by
  obtain ⟨os, hos, hcs, hds⟩ := id hs
  unfold Builtin.Slice.sliceApplied Builtin.Slice.sliceFields
  refine wpAny_bind (wpAny_bind (wpAny_field hos hds (x := .none) rfl (wpAny_bind (wpAny_field hos hds (x := .none) rfl (wpAny_bind (wpAny_field hos hds (x := vs) rfl (wpAny_pure ?_)))))))
  refine wpAny_bind (slicePart_ ps ?_)
  show wpAny _ _ (if ((-1 : Int) == 0) = true then _ else _) _ _ s
  rw [if_neg (by decide)]
  refine wpAny_bind (slicePart_none (wpAny_bind (slicePart_none (wpAny_bind (wpAny_pure ?_)))))
  show wpAny _ _ (match Builtin.Slice.sliceAdjust none none (-1) (n : Int) with | (lo, hi) => pure (lo, (-1 : Int), Builtin.Slice.slicePlaces lo hi (-1))) _ _ s
  rw [rev_adjust]
  show wpAny _ _ (pure ((n : Int) - 1, (-1 : Int), Builtin.Slice.slicePlaces ((n : Int) - 1) (-1) (-1))) _ _ s
  rw [rev_places]
  exact wpAny_pure h
theorem rev_item {t sl : Addr} {items : Array Value} {vs : Value} {Q : Value → Shared → Prop} (ht : IsTup s.heap t items) (hs : s.heap.IsSliceOf sl .none .none vs) (ps : IsPart vs (some (-1)))
    (h : Q (.ref s.heap.objs.size) { s with heap := s.heap.push { cls := .type "tuple", data := .seq items.toList.reverse.toArray } }) (hsz : items.size ≤ sizeLine) : wpAny (model prog w) A (getItem (.ref t) (.ref sl)) Q E s := by
  have ok : sizeOk (.seq items.toList.reverse.toArray) := by
    show items.toList.reverse.toArray.size ≤ sizeLine
    rw [List.size_toArray, List.length_reverse, Array.length_toList]
    exact hsz
  obtain ⟨os, hos, hcs, hds⟩ := id hs
  have tS : s.TypeIs (.ref sl) "slice" := ⟨os, hos, hcs⟩
  unfold getItem
  try with_reducible refine wpAny_holding ?_
  first | refine wpAny_bind (wpAny_pure ?_) | skip
  refine wpAny_bind (wpAny_sequenceKey ht.typeIs (by decide) ?_)
  refine wpAny_bind (wpAny_callSpecial?_slot (name := Str.ofString "__getitem__") ht.typeIs PyProof.Rows.slot_tuple_getitem
    (wpAny_call_entry PyProof.Rows.slot_tuple_getitem ht.typeIs entry_tuple_getitem ?_ (args_tuple_getitem _ _)))
  show wpAny _ _ (Builtin.Tuple.tupleItemsOf (.ref t) >>= _) _ _ s
  refine wpAny_bind (tupleItemsOf_ ht (wpAny_bind (wpAny_typeOf tS ?_)))
  rw [if_pos (by decide)]
  refine wpAny_bind (rev_applied hs ps ?_)
  have no : ¬ ((((items.size : Int) - 1) == 0 && (-1 : Int) == 1 && items.size == items.size) = true) := by
    rw [show ((-1 : Int) == 1) = false by decide, Bool.and_false, Bool.false_and]
    exact Bool.false_ne_true
  show wpAny _ _ (if (((items.size : Int) - 1) == 0 && (-1 : Int) == 1 && items.size == items.size) = true then _ else _) _ _ s
  rw [if_neg no, rev_pick]
  first
    | exact wpAny_bind (m := Builtin.Tuple.tupleExact _) (wpAny_newObj_type (wpAny_pure ⟨_, rfl, wpAny_pure h⟩) ok)
    | exact wpAny_bind (m := Builtin.Tuple.tupleExact _) (wpAny_newObj_type (wpAny_bind (wpAny_pure (wpAny_pure ⟨_, rfl, wpAny_pure h⟩))) ok)
    | exact wpAny_bind (wpAny_bind (m := Builtin.Tuple.tupleExact _) (wpAny_newObj_type (wpAny_pure (wpAny_pure ⟨_, rfl, wpAny_pure h⟩)) ok))
    | exact wpAny_bind (wpAny_bind (m := Builtin.Tuple.tupleExact _) (wpAny_newObj_type (wpAny_pure ⟨_, rfl, wpAny_pure h⟩) ok))
end
/-- t[::-1], a tuple -/
def tRevT (K : PySem.W.Frag) (te : TE) : TE := fun σ H Q => te σ H fun x H1 => ∃ a xs, x = .ref a ∧ SqT K H1 a xs ∧ ∀ p, H1 p = none → Q (.ref p) (upd H1 p (.tup xs.reverse))
theorem pe_REV {X : Cx} {e : Expr} {te : TE} {k : Nat} {p1 p2 p3 pos : Pos} (he : PE X e te) : PE X (.Subscript e (.Slice none none (some (.UnaryOp .USub (.Constant (.int 1) k p1) p2)) p3) pos) (tRevT X.K te) := by
  refine ⟨fun pins s σ H Q I h => ?_⟩
  refine Subscript_ (thn (he.run pins s σ H _ I h) fun v s1 ⟨x, H1, I1, r1, q1⟩ => ?_)
  obtain ⟨a, xs, ex, hx, q⟩ := q1
  subst ex
  cases r1
  have st : PO X (some (.UnaryOp .USub (.Constant (.int 1) k p1) p2)) (tPart (tUn (rU fun i => .int (-i)) (tC (.int 1)))) := po_some (pe_un un_neg pe_int)
  refine wpAny_Slice (thn (po_none.run pins s1 σ H1 (fun o H2 => o = none ∧ H2 = H1) I1 ⟨rfl, rfl⟩) fun vl s2 ⟨l, H2, I2, pl, el, e2⟩ => ?_)
  subst el e2
  refine thn (po_none.run pins s2 σ H2 (fun o H3 => o = none ∧ H3 = H2) I2 ⟨rfl, rfl⟩) fun vu s3 ⟨u, H3, I3, pu, eu, e3⟩ => ?_
  subst eu e3
  refine thn (st.run pins s3 σ H3 (fun o H4 => o = some (-1) ∧ H4 = H3) I3 ⟨1, rfl, -1, rfl, rfl, rfl⟩) fun vs s4 ⟨o, H4, I4, ps, eo, e4⟩ => ?_
  subst eo e4
  have I5 : Inv X pins σ H4 { s4 with heap := s4.heap.push { cls := .type "slice", data := .fields #[vl, vu, vs] } } := I4.kept (t' := s4.toks) fun b ob q => Heap.get?_push_of_some _ q
  obtain ⟨its, r, ht, hz⟩ := I5.tuple hx
  cases pl
  cases pu
  show wpAny (model X.prog X.w) X.A (subscriptTail e (.Slice none none (some (.UnaryOp .USub (.Constant (.int 1) k p1) p2)) p3) (.ref a) (.ref s4.heap.objs.size)) (EP X pins σ Q) X.xe { s4 with heap := s4.heap.push { cls := .type "slice", data := .fields #[.none, .none, vs] } }
  refine tail_any (ops := [.ref a, .ref s4.heap.objs.size]) ht.typeIs (PyProof.Rows.slot_tuple_getitem.lookup) ?_ (by with_unfolding_all rfl)
  refine rev_item ht (Heap.IsSliceOf.new _ .none .none vs) ps ?_ (by rw [List.size_toArray, ← r.length]; exact hz)
  refine ⟨.ref _, _, I5.laid (t' := s4.toks) (o := .tup xs.reverse) (fun b ob q => Heap.get?_push_of_some _ q) (Nat.le_refl _) ?_, rfl, q _ (I5.hok.fresh (Nat.le_refl _))⟩
  exact ⟨by rw [List.length_reverse]; exact hz, _, r.reverse, IsTup.new _ _⟩
/-- a tuple once -/
theorem once_meets (l : Addr) (items : Array Value) (n : Nat) (dd : Option Addr) (sl : Array (Option Value)) (u : Tok) :
    Meets (Builtin.«tuple.__mul__» ⟨[.ref l, .int 1 u], []⟩) (fun _ R s => s.heap.get? l = some { cls := .type "tuple", dict := dd, data := .seq items n, slots := sl } ∧ R (.ok (.ret (.ref l))) s) :=
  .of_wp fun prog w A R s h => by
    obtain ⟨hp, g, d, tk, os⟩ := s
    obtain ⟨hl, h⟩ := h
    have f1 := AutoSeq1.idx_int
    have c1 : (items.isEmpty || (1 : Int) == 1) = true := by simp
    wp_walk using wpAny_loadPart' hl
    repeat (first
      | (refine wpAny_ite_true (decide_eq_true c1) ?_; wp_walk using wpAny_loadPart' hl)
      | (refine wpAny_ite_true c1 ?_; wp_walk using wpAny_loadPart' hl))
    exact ⟨_, rfl, h⟩
def rOnce (K : PySem.W.Frag) : R2 := fun x y H Q => ∃ l xs, x = .ref l ∧ y = .int 1 ∧ SqT K H l xs ∧ Q (.ref l) H
theorem op_once {X : Cx} : OpR X (binaryOp .Mult) (rOnce X.K) := by
  intro pins s σ H x y v u Q I rx ry h
  obtain ⟨l, xs, rfl, rfl, hT, q⟩ := h
  cases rx
  obtain ⟨t, rfl⟩ := ry
  obtain ⟨its, r, ⟨⟨cls, dd, data, sl⟩, ho, hc, n, hd⟩, hs⟩ := I.tuple hT
  simp only at hc hd
  subst hc hd
  refine wpAny_binaryOp_repeat_ref (T := "tuple") (U := "int") (by decide) ⟨_, ho, rfl⟩ (fun s' => typeIs_int s' 1 t) noFill_tuple_mul F.fills_int_mul F.slot_int_rmul repeat_tuple F.slot_int_index.lookup
    (call_meets F.slot_int_rmul (typeIs_int s 1 t) F.entry_int_rmul (F.args_int_rmul_2 _ _) (int_rmul_tuple 1 t l its.toArray n dd sl)
      ⟨ho, rfl, ⟨_, ho, rfl⟩, call_meets F.slot_tuple_mul ⟨_, ho, rfl⟩ F.entry_tuple_mul (F.args_tuple_mul_2 _ _) (once_meets l its.toArray n dd sl t) ⟨ho, ⟨.ref l, H, I, rfl, q⟩⟩⟩)
/-- t * k, k one or more -/
def rTimes (K : PySem.W.Frag) : R2 := fun x y H Q => rOnce K x y H Q ∨ rRepT K x y H Q
theorem op_times {X : Cx} : OpR X (binaryOp .Mult) (rTimes X.K) := op_once.or op_repT
def rLenS (K : PySem.W.Frag) : List V → Hp → VK → Prop := fun xs H Q => ∃ p ys, xs = [.ref p] ∧ (SqL K H p ys ∨ SqT K H p ys) ∧ Q (.int ys.length) H
theorem call_lenS {X : Cx} : CallR X (.builtin "len") (rLenS X.K) := call_len_seq
def rTupOf (K : PySem.W.Frag) : List V → Hp → VK → Prop := fun xs H Q => ∃ p ys, xs = [.ref p] ∧ ((SqL K H p ys ∧ ∀ l, H l = none → Q (.ref l) (upd H l (.tup ys))) ∨ (SqT K H p ys ∧ Q (.ref p) H))
theorem call_tupOf {X : Cx} : CallR X (.type "tuple") (rTupOf X.K) := call_tuple_of
def rLstOf (K : PySem.W.Frag) : List V → Hp → VK → Prop := fun xs H Q => ∃ p ys, xs = [.ref p] ∧ (SqL K H p ys ∨ SqT K H p ys) ∧ ∀ l, H l = none → Q (.ref l) (upd H l (.lst ys))
theorem call_lstOf {X : Cx} : CallR X (.type "list") (rLstOf X.K) := call_list_of
end Fm
end FFmSeq
section FFmMore
set_option Elab.async false
set_option linter.all false
set_option maxRecDepth 100000
set_option maxHeartbeats 4000000
namespace Fm
open PySem PySem.Spec PyProof.Rows L2
/-- the sum of a tuple's ints -/
def rSumT (K : PySem.W.Frag) : List V → Hp → VK → Prop := fun vs H Q => ∃ (a : Addr) (ns : List Int), vs = [V.ref a] ∧ SqT K H a (ns.map V.int) ∧ Q (.int ns.sum) H
theorem cr_sumT {X : Cx} (hc : X.calm = true) : CallR X (.builtin "sum") (rSumT X.K) := by
  intro pins s σ H vs us Q I r h
  obtain ⟨a, ns, rfl, hs, q⟩ := h
  obtain ⟨its, rv, ⟨o, ho, hcl, n, hd⟩, _⟩ := I.tuple hs
  obtain rfl := Vals.ref1 r
  have hi := rv.ints
  obtain ⟨xs, e⟩ := hi.allInts.items
  have hn : numsOf (PySem.intItems xs).toList = ns := by rw [← e]; exact hi.numsOf
  rw [nums_intItems] at hn
  rw [e] at hd
  refine PySem.W.ktm_sumG (I.ok.hd hc) ⟨o, ho, hcl, n, hd⟩ fun h' tk t' hk => ?_
  rw [preSum_eq, List.take_of_length_le (by simp), hn]
  exact ⟨.int _, H, I.kept hk, ⟨_, rfl⟩, q⟩
def rSumI (K : PySem.W.Frag) : List V → Hp → VK → Prop := fun vs H Q => rSum K vs H Q ∨ rSumT K vs H Q
theorem cr_sumI {X : Cx} (hc : X.calm = true) : CallR X (.builtin "sum") (rSumI X.K) := (cr_sum hc).or (cr_sumT hc)
/-- xs[i], read by xs[i] += e -/
def rGetL (K : PySem.W.Frag) : V → V → Hp → VK → Prop := fun x y H Q => ∃ (p : Addr) (xs : List V) (i : Nat) (v : V), x = .ref p ∧ y = .int i ∧ SqL K H p xs ∧ xs[i]? = some v ∧ Q v H
theorem get_list {X : Cx} : PGet X (rGetL X.K) := by
  intro pins s σ H o i ov iv Q I ro ri h
  obtain ⟨p, xs, i, z, rfl, rfl, hq, he, q⟩ := h
  cases ro
  obtain ⟨t, rfl⟩ := ri
  obtain ⟨its, r, pl, hz⟩ := I.list hq
  obtain ⟨u, eu, ru⟩ := r.get he
  have hi : i < xs.length := (List.getElem?_eq_some_iff.mp he).1
  have hn := line63
  refine wpAny_getItem_list pl.isList (by omega) (by omega) (x := u) (by simpa using eu) ?_
  exact ⟨z, H, I, ru, q⟩
/-- a tuple at a, its items counted -/
def IteT (K : PySem.W.Frag) (a : Addr) : It where
  go := fun i H => ∃ (xs : List V) (x : V), SqT K H a xs ∧ xs[i]? = some x
  yld := fun i H v H' => ∃ T x, v = .ref T ∧ H T = none ∧ H' = upd H T (.tup [.int (i : Nat), x]) ∧ ∀ xs, SqT K H a xs → xs[i]? = some x
  stop := fun i H => ∃ xs : List V, SqT K H a xs ∧ xs.length ≤ i
end Fm
end FFmMore
section FFmMore2
set_option Elab.async false
set_option linter.all false
set_option maxRecDepth 100000
set_option maxHeartbeats 4000000
namespace Fm
open PySem PySem.Spec PyProof.Rows L2
/-- the enumerate object e over the tuple at a, its iterator at it, i turns on -/
def EnT (a e it : Addr) (its : Array Value) (i : Nat) (h : Heap) : Prop := (∃ old, IsEnum h e it ((i : Nat) : Int) old) ∧ (h.IsTupleIter it a i ∧ h.IsTuple a its) ∧ e ≠ it ∧ a ≠ it ∧ e ≠ a
theorem turn_enumT {P : Program} {w : World} {K : PySem.W.Frag} {elts : List Expr} {kk : Nat} {tpos : Pos} (a e it : Addr) (hei : e ≠ it) (hai : a ≠ it) (hea : e ≠ a) :
    Turn P w K (.Tuple elts kk tpos) (IteT K a) [e, it] e (fun i h => (∃ old, IsEnum h e it ((i : Nat) : Int) old) ∧ h.IsTupleIter it a i) where
  mem := List.mem_cons_self
  obj := fun i h st b hb => by
    obtain ⟨⟨old, he⟩, o, ho, _, hd⟩ := st
    rcases List.mem_cons.mp hb with z | z
    · subst z
      exact ⟨_, he, fun v q => nomatch q⟩
    · obtain rfl := List.mem_singleton.mp z
      exact ⟨o, ho, fun v q => by rw [hd] at q; cases q⟩
  keep := fun i h h' st k => by
    obtain ⟨⟨old, he⟩, hi⟩ := st
    exact ⟨⟨old, k e List.mem_cons_self _ he⟩, hi.at fun o q => k it (List.mem_cons_of_mem _ List.mem_cons_self) o q⟩
  item := by
    intro X hP hw hK hc i pins s σ H E I hf st hg
    subst hP hw hK
    obtain ⟨⟨old, he⟩, hit⟩ := st
    obtain ⟨xs, x, hq, hx⟩ := hg
    obtain ⟨its, rv, ⟨o, ho, hoc, no, hod⟩, hz⟩ := I.tuple hq
    have ht : s.heap.IsTuple a its.toArray := ⟨o, ho, hoc, no, hod⟩
    obtain ⟨u, hu, ru⟩ := rv.get hx
    have hlt : i < its.toArray.size := by
      rw [List.size_toArray, ← rv.length]
      exact (List.getElem?_eq_some_iff.mp hx).1
    have hel : e < s.heap.objs.size := Heap.lt_size he
    have hil : it < s.heap.objs.size := by
      obtain ⟨_, q, _⟩ := hit
      exact Heap.lt_size q
    have hef : e ∉ [it, a] := by
      intro z
      rcases List.mem_cons.mp z with z | z
      · exact hei z
      · exact hea (List.mem_singleton.mp z)
    refine wpAny_pyNext_enum_itemD (Draws.tuple (prog := X.prog) (w := X.w) (A := X.A.in1) (show X.A.in1.handled = none from I.ok.hd hc) it a hai its.toArray) he ⟨hit, ht⟩ hlt hei hef fun y h' tk hy ho' st' hT hsz hk => ?_
    have ey : y = u := by
      have q : its.toArray[i]? = some u := by simpa using hu
      rw [q] at hy
      exact (Option.some.inj hy).symm
    subst ey
    refine ⟨_, rfl, wpAny_letOwnedTupleGo_enum (s := { s with heap := h', toks := tk + 1 }) ho' fun h2 he2 sb => ?_⟩
    have hT2 : h2.get? s.heap.objs.size = some { cls := .type "tuple", data := .seq #[.int i tk, y] } := (sb.2 _ (Nat.ne_of_gt hel)).trans hT
    have new : ObjOk X.prog X.w (upd H s.heap.objs.size (.tup [.int (i : Nat), x])) h2 s.heap.objs.size (.tup [.int (i : Nat), x]) := by
      refine ⟨by show 2 ≤ sizeLine; decide, [.int i tk, y], .cons ⟨_, rfl⟩ (.cons ru .nil), _, hT2, rfl, _, rfl⟩
    have old2 : ∀ b ob, b ∉ [e, it] → s.heap.get? b = some ob → h2.get? b = some ob := fun b ob hb q => by
      have n1 : b ≠ e := fun z => hb (z ▸ List.mem_cons_self)
      have n2 : b ≠ it := fun z => hb (z ▸ List.mem_cons_of_mem _ List.mem_cons_self)
      exact (sb.2 b n1).trans (hk b ob n1 n2 q)
    have I1 := I.turnedNew (t' := tk + 1) (ch := [e, it]) old2 hf (Nat.le_refl _) new
    refine ⟨.ref s.heap.objs.size, _, I1, rfl, ⟨_, x, rfl, I.hok.fresh (Nat.le_refl _), rfl, fun ys hy => ?_⟩, ⟨⟨y, ?_⟩, ?_⟩, fun b hb => ?_⟩
    · rw [I.tuple_inj hy hq]
      exact hx
    · have e1 : ((i + 1 : Nat) : Int) = (i : Int) + 1 := by omega
      rw [e1]
      exact he2
    · exact st'.1.at fun ob q => (sb.2 it (Ne.symm hei)).trans q
    · have hb' : b < s.heap.objs.size := by
        rcases List.mem_cons.mp hb with z | z
        · rw [z]; exact hel
        · rw [List.mem_singleton.mp z]; exact hil
      rw [upd_ne (Nat.ne_of_lt hb')]
      exact (hf b hb).1
  done := by
    intro X hP hw hK hc i pins s σ H E I hf st hg
    subst hP hw hK
    obtain ⟨⟨old, he⟩, hit⟩ := st
    obtain ⟨xs, hq, hx⟩ := hg
    obtain ⟨its, rv, ⟨o, ho, hoc, no, hod⟩, hz⟩ := I.tuple hq
    have ht : s.heap.IsTuple a its.toArray := ⟨o, ho, hoc, no, hod⟩
    obtain ⟨f0, f1, f2, f3, f4, f5⟩ := hf it (List.mem_cons_of_mem _ List.mem_cons_self)
    have hl : its.toArray.size ≤ i := by
      rw [List.size_toArray, ← rv.length]
      exact hx
    have D : Draws X.prog X.w X.A.in1 it [it, a] i (fun _ _ => False) (fun j h => j = i ∧ h.IsTupleIter it a i ∧ h.IsTuple a its.toArray) := {
      live := fun _ _ st => by
        obtain ⟨o, ho, _⟩ := st.2.1
        exact ⟨o, ho⟩
      frame := fun j h h' st hk => ⟨st.1, st.2.1.at fun o e => hk it List.mem_cons_self o e, st.2.2.at fun o e => hk a (List.mem_cons_of_mem _ List.mem_cons_self) o e⟩
      item := fun j s Q E hj st hQ => absurd st.1 (Nat.ne_of_lt hj)
      done := fun s Q E st hE => wpAny_nextOf_tuple_end (show X.A.in1.handled = none from I.ok.hd hc) st.2.1 st.2.2 (Array.getElem?_eq_none hl) hE }
    exact wpAny_pyNext_enum_endD D he ⟨rfl, hit, ht⟩ fun h' eb => ⟨rfl, I.turned (t' := s.toks) (fun b o hb q => eb b o hb q) f0 f1 f3 f4 f5⟩
  self := fun A i s Q E st h => by
    obtain ⟨⟨_, he⟩, _⟩ := st
    exact wpAny_pyIter_enum he h
end Fm
end FFmMore2
section FFmMore3
set_option Elab.async false
set_option linter.all false
set_option maxRecDepth 100000
set_option maxHeartbeats 4000000
namespace Fm
open PySem PySem.Spec PyProof.Rows L2
theorem meets_enumT (a : Addr) (its : Array Value) :
    Meets (Builtin.«enumerate.__new__» ⟨[.type "enumerate", .ref a], []⟩) (fun _ R s => s.heap.IsTuple a its ∧
      R (.ok (.ret (.ref (s.heap.push { cls := .type "tuple_iterator", data := .fields #[.ref a, .int 0 0] }).objs.size)))
        { s with heap := (s.heap.push { cls := .type "tuple_iterator", data := .fields #[.ref a, .int 0 0] }).push { cls := .type "enumerate", data := .fields #[.none, .bool false, .ref s.heap.objs.size, rawInt 0, .none, .none] } }) :=
  .of_wp fun prog w A R s hh => by
    obtain ⟨hp, g, d, tk, os⟩ := s
    obtain ⟨hT, hh⟩ := hh
    have hsub := PySem.sub_enumerate
    have it1 : ∀ {A' : Around} {E : Value → Shared → Prop} {Q : Value → Shared → Prop}, Q (.ref hp.objs.size) ⟨hp.push { cls := .type "tuple_iterator", data := .fields #[.ref a, .int 0 0] }, g, d, tk, os⟩ → wpAny (model prog w) A' (pyIter (.ref a)) Q E ⟨hp, g, d, tk, os⟩ :=
      fun q => wpAny_pyIter_tuple (s := ⟨hp, g, d, tk, os⟩) hT q
    wp_walk using it1
    refine wpAny_stack_any fun st => wpAny_pure ?_
    split
    · rename_i cc _ _ _ _ _
      cases (cc == Value.type "enumerate") <;> (wp_walk using it1; exact ⟨_, rfl, hh⟩)
    · wp_walk using it1
      exact ⟨_, rfl, hh⟩
theorem call_enumT {prog : Program} {w : World} {A : Around} {E : Value → Shared → Prop} {s : Shared} {a : Addr} {its : Array Value} {Q : Value → Shared → Prop} (hT : s.heap.IsTuple a its)
    (h : ∀ h', IsEnum h' (s.heap.objs.size + 1) s.heap.objs.size 0 .none → h'.IsTupleIter s.heap.objs.size a 0 → (∀ b o, s.heap.get? b = some o → h'.get? b = some o) → Q (.ref (s.heap.objs.size + 1)) { s with heap := h' }) :
    wpAny (model prog w) A (call (.type "enumerate") [.ref a]) Q E s := by
  refine callType_new F.called_enumerate (by decide) (F.typeCall_enumerate_1 _) (F.newCall_enumerate_1 _) (fun obj => F.args_object_init_2 obj _) F.entry_enumerate_new (meets_enumT a its) ⟨hT, ?_⟩
  let h1 := s.heap.push { cls := .type "tuple_iterator", data := .fields #[.ref a, .int 0 0] }
  have hz : h1.objs.size = s.heap.objs.size + 1 := Heap.size_push ..
  show _ ∧ _
  rw [hz]
  let h2 := h1.push { cls := .type "enumerate", data := .fields #[.none, .bool false, .ref s.heap.objs.size, rawInt 0, .none, .none] }
  have he : IsEnum h2 (s.heap.objs.size + 1) s.heap.objs.size 0 .none := by
    have q := Heap.get?_push_size h1 (o := { cls := .type "enumerate", data := .fields #[.none, .bool false, .ref s.heap.objs.size, rawInt 0, .none, .none] }) rfl
    rw [hz] at q
    exact q
  refine ⟨⟨_, he, rfl⟩, h h2 he ⟨_, Heap.get?_push_of_some _ (Heap.get?_push_size _ rfl), rfl, rfl⟩ fun b o x => Heap.get?_push_of_some _ (Heap.get?_push_of_some _ x)⟩
def iEnumT (K : PySem.W.Frag) (ta : TA) : TI := fun σ H R => ta σ H fun vs H1 => ∃ a xs, vs = [.ref a] ∧ SqT K H1 a xs ∧ R (IteT K a) H1
theorem pi_enumT {X : Cx} {e : Expr} {ta : TA} {p pos tpos : Pos} {elts : List Expr} {kk : Nat} (hg : Gl X "enumerate") (hm : X.mg "enumerate" = none) (ha : PA X [e] ta) (hs : starEach [e] X.env = [(false, eval e X.env)] := by rfl) :
    PI X (.Tuple elts kk tpos) (.Call (.Name "enumerate" p) [e] [] pos) (iEnumT X.K ta) := by
  refine ⟨fun pins s σ H R I h => ?_⟩
  refine Call_ (ld_blt I hg hm boot_enumerate (PyProof.Rows.callWith_type1 (thn (ha.run pos pins s σ H _ I h) fun us s1 ⟨vs, H1, I1, r1, q1⟩ => ?_) hs rfl))
  obtain ⟨a, xs, rfl, hq, q⟩ := q1
  obtain rfl := Vals.ref1 r1
  obtain ⟨its, rv, ⟨o, ho, hoc, no, hod⟩, hz⟩ := I1.tuple hq
  have hal : a < s1.heap.objs.size := Heap.lt_size ho
  refine call_enumT (its := its.toArray) ⟨o, ho, hoc, no, hod⟩ fun h' he hit hk => wpAny_pyIter_enum he ?_
  have I2 : Inv X pins σ H1 { s1 with heap := h' } := I1.kept (t' := s1.toks) hk
  refine ⟨s1.heap.objs.size + 1, [s1.heap.objs.size + 1, s1.heap.objs.size], _, _, H1, rfl, I2, turn_enumT a (s1.heap.objs.size + 1) s1.heap.objs.size (Nat.succ_ne_self _) (Nat.ne_of_lt hal) (Nat.ne_of_gt (Nat.lt_succ_of_lt hal)), ⟨⟨.none, he⟩, hit⟩, fun b hb => ?_, q⟩
  have hle : s1.heap.objs.size ≤ b := by
    rcases List.mem_cons.mp hb with z | z
    · rw [z]; exact Nat.le_succ _
    · rw [List.mem_singleton.mp z]; exact Nat.le_refl _
  exact I1.fpOk hle (I1.hok.fresh hle)
theorem walk_enumT {K : PySem.W.Frag} {a : Addr} {xs : List V} : Walk (IteT K a) xs.length (fun H => SqT K H a xs) (YPair (fun i => some (.int (i : Nat))) (fun i => xs[i]?)) where
  goes := fun i _ hi q => ⟨xs, xs[i], q, List.getElem?_eq_getElem hi⟩
  stops := fun _ q => ⟨xs, q, Nat.le_refl _⟩
  yields := fun i H v H' _ q y => by
    obtain ⟨T, x, h1, h2, h3, h4⟩ := y
    exact ⟨T, _, x, h1, h2, h3, rfl, h4 xs q⟩
theorem walk_zipT {K : PySem.W.Frag} {a b : Addr} {xs ys : List V} (hn : xs.length = ys.length) : Walk (RZ.ItzT K a b) xs.length (fun H => SqT K H a xs ∧ SqT K H b ys) (YPair (fun i => xs[i]?) (fun i => ys[i]?)) where
  goes := fun i _ hi q => ⟨xs, ys, xs[i], ys[i]'(by omega), q.1, q.2, List.getElem?_eq_getElem hi, List.getElem?_eq_getElem (by omega)⟩
  stops := fun _ q => ⟨xs, ys, q.1, q.2, .inl (Nat.le_refl _)⟩
  yields := fun i H v H' _ q y => by
    obtain ⟨T, x, z, h1, h2, h3, h4, h5⟩ := y
    exact ⟨T, x, z, h1, h2, h3, h4 xs q.1, h5 ys q.2⟩
section
variable {J : It} {n : Nat} {G : Hp → Prop} {Y : Nat → Hp → V → Hp → Prop}
theorem fI (w : Walk J n G Y) {g : TG} {tb : TS} {D : Ends} {σ : L2.St} {H : Hp} (Pv : Nat → L2.St → Hp → Prop) (h0 : Pv 0 σ H) (hG : ∀ i σ H, i ≤ n → Pv i σ H → G H)
    (hs : ∀ i x σ H H', i < n → Pv i σ H → Y i H x H' → g x σ H' fun σ2 H2 => tb { D with nx := Pv (i + 1), ct := Pv (i + 1), bk := D.nx } σ2 H2) (hd : ∀ σ H, Pv n σ H → D.nx σ H) : ForB J g tb D σ H := for_it w Pv h0 hG hs hd
theorem lI (w : Walk J n G Y) {g : TG} {tt : TT} {te : TE} {vs : List Nat} {σ : L2.St} {H1 : Hp} {D : Addr} {Qd : Hp → Prop} (Pv : Nat → Hp → Prop) (h0 : Pv 0 (upd H1 D (.lst []))) (hG : ∀ i H, i ≤ n → Pv i H → G H)
    (hs : ∀ i x H H', i < n → Pv i H → Y i H x H' → g x (wipe σ vs) H' fun σ2 H2 => wipe σ2 vs = wipe σ vs ∧ tt σ2 H2 fun b H3 =>
      if b = true then te σ2 H3 fun y H4 => ∃ acc, H4 D = some (.lst acc) ∧ acc.length < sizeLine ∧ Pv (i + 1) (upd H4 D (.lst (acc ++ [y]))) else Pv (i + 1) H3) (hd : ∀ H, Pv n H → Qd H) : LcB J g tt te vs σ H1 D Qd := lc_it w Pv h0 hG hs hd
end
end Fm
end FFmMore3
section FFmSumL
set_option Elab.async false
set_option linter.all false
set_option maxRecDepth 100000
set_option maxHeartbeats 4000000
namespace Fm
open PySem PySem.Spec PyProof.Rows L2
/-- the list at b holds us -/
def LstAt (h : Heap) (b : Addr) (us : List Value) : Prop := ∃ n, h.get? b = some { cls := .type "list", data := .seq us.toArray n }
section
variable {prog : Program} {w : World} {A : Around} {R : Result → Shared → Prop} {I : Addr} {fp wr : List Addr} {G : Array GenState → Array GenState → Prop} {n : Nat} {P : Nat → Value → Prop} {St : Nat → Shared → Prop}
/-- what is summed: lists -/
theorem sum_loop_lists (W : WalksS prog w A.in1 I fp wr G n P St) (parts : Nat → List Value) (hP : ∀ i v, P i v → ∃ b, v = .ref b) (hlive : ∀ i s, St i s → ∀ b ∈ wr, b < s.heap.objs.size) (B : Nat) (hB : ∀ i s, St i s → B ≤ s.heap.objs.size) (S : Addr) (hSf : S ∉ fp) :
    ∀ (k i : Nat) (s : Shared) (t : Addr) (us : List Value) (c : Nat), n - i = k → i ≤ n → St i s → s.heap.get? S = some { cls := .type "list", dict := none, data := .seq #[.ref t] c, slots := #[] } → LstAt s.heap t us → t ≠ S → t ∉ wr → 
    (∀ j b s', i ≤ j → j < n → P j (.ref b) → Moved (S :: wr) G s s' → LstAt s'.heap b (parts j) ∧ b ≠ S ∧ b ∉ wr) → (us ++ ((List.range n).drop i).flatMap parts).length ≤ sizeLine →
    (∀ s' t', Moved (S :: wr) G s s' → LstAt s'.heap t' (us ++ ((List.range n).drop i).flatMap parts) → ((t' = t ∧ i = n) ∨ (B ≤ t' ∧ i < n)) → R (.ok (.ret (.ref t'))) s') → codeAny (model prog w) A (.builtin "sum.loop" ⟨[.ref I, .ref S, rawInt 2, rawInt 0], []⟩) R s := by
  have hSw : S ∉ wr := fun h => hSf (W.sub _ h)
  have hsub : ∀ b ∈ wr, b ∈ S :: wr := fun b hb => List.mem_cons_of_mem _ hb
  intro k
  induction k with
  | zero =>
    intro i s t us c hk hi hst hS hT htS htw hparts hlen hR
    obtain rfl : i = n := by omega
    refine codeAny_builtin F.entry_sum_loop ?_
    rw [Around.under_plainId F.plain_sum_loop _]
    show wpAny _ A.in1 (seqItems? (.ref S) >>= _) _ _ s
    refine wpAny_bind (wpAny_seqItems hS rfl ?_)
    show wpAny _ A.in1 (tryCatch (pyNext (.ref I)) _ >>= _) _ _ s
    refine wpAny_bind (wpAny_tryCatch (W.done s _ _ hst fun s' hm => ?_))
    refine wpAny_pure (hR s' t (hm.mono hsub) ?_ (.inl ⟨rfl, rfl⟩))
    obtain ⟨m, e⟩ := hT
    have e0 : (List.range i).drop i = [] := by simp
    rw [e0, List.flatMap_nil, List.append_nil]
    exact ⟨m, hm.heap t _ htw e⟩
  | succ k ih =>
    intro i s t us c hk hi hst hS hT htS htw hparts hlen hR
    have hlt : i < n := by omega
    refine codeAny_builtin F.entry_sum_loop ?_
    rw [Around.under_plainId F.plain_sum_loop _]
    show wpAny _ A.in1 (seqItems? (.ref S) >>= _) _ _ s
    refine wpAny_bind (wpAny_seqItems hS rfl ?_)
    show wpAny _ A.in1 (tryCatch (pyNext (.ref I)) _ >>= _) _ _ s
    refine wpAny_bind (wpAny_tryCatch (W.item i s _ _ hlt hst fun v s' hPv hst' hm => ?_))
    obtain ⟨b, rfl⟩ := hP i v hPv
    have hS' := hm.heap S _ hSw hS
    obtain ⟨⟨nb, hb⟩, hbS, hbw⟩ := hparts i b s' (Nat.le_refl _) hlt hPv (hm.mono hsub)
    obtain ⟨nt, ht⟩ := hT
    have ht' := hm.heap t _ htw ht
    have e0 : (List.range n).drop i = i :: (List.range n).drop (i + 1) := by
      rw [List.drop_eq_getElem_cons (by simpa using hlt)]
      simp
    rw [e0, List.flatMap_cons] at hlen
    have hl2 : us.length + (parts i).length ≤ sizeLine := by
      rw [List.length_append, List.length_append] at hlen
      omega
    show wpAny _ A.in1 ((holding [Value.ref b] (binaryOp .Add (.ref t) (.ref b))).attempt >>= _) _ _ _
    refine wpAny_bind (wpAny_attempt (wpAny_holding (PySem.P.add_list ht' hb ?_ (by rw [List.size_toArray, List.size_toArray]; exact hl2))))
    let hp1 := s'.heap.push { cls := .type "list", data := .seq (us.toArray ++ (parts i).toArray) }
    have hS1 : hp1.get? S = _ := Heap.get?_push_of_some _ hS'
    show wpAny _ A.in1 (updateSeq S (fun _ => #[.ref s'.heap.objs.size]) >>= _) _ _ _
    refine wpAny_bind (wpAny_updateSeq hS1 rfl ?_)
    have hS2 := Heap.get?_update_self (Obj.mapSeq fun _ => #[Value.ref s'.heap.objs.size]) hS1 rfl
    refine wpAny_bind (wpAny_letGo ?_)
    refine wpAny_bind (wpAny_updateSeq hS2 rfl (wpAny_pure ⟨plainId_quiet F.plain_sum_loop _, ?_⟩))
    have eS : ∀ {x : Addr} {o : Obj}, x ≠ S → s'.heap.get? x = some o → ((hp1.update S (Obj.mapSeq fun _ => #[Value.ref s'.heap.objs.size])).update S (Obj.mapSeq fun _ => #[Value.ref s'.heap.objs.size])).get? x = some o := fun {x o} hx q =>
      (Heap.get?_update_other _ _ (Ne.symm hx)).trans ((Heap.get?_update_other _ _ (Ne.symm hx)).trans (Heap.get?_push_of_some _ q))
    have hSl : S < s'.heap.objs.size := Heap.lt_size hS'
    have nS : s'.heap.objs.size ≠ S := Nat.ne_of_gt hSl
    have hN : ((hp1.update S (Obj.mapSeq fun _ => #[Value.ref s'.heap.objs.size])).update S (Obj.mapSeq fun _ => #[Value.ref s'.heap.objs.size])).get? s'.heap.objs.size = some { cls := .type "list", data := .seq (us.toArray ++ (parts i).toArray) } :=
      (Heap.get?_update_other _ _ (Ne.symm nS)).trans ((Heap.get?_update_other _ _ (Ne.symm nS)).trans (Heap.get?_push_size _ rfl))
    have hmv : Moved (S :: wr) G s { s' with heap := (hp1.update S (Obj.mapSeq fun _ => #[Value.ref s'.heap.objs.size])).update S (Obj.mapSeq fun _ => #[Value.ref s'.heap.objs.size]) } :=
      (hm.mono hsub).then_heap (Nat.le_refl _) fun x o hx q => eS (fun z => hx (z ▸ List.mem_cons_self)) q
    refine ih (i + 1) _ s'.heap.objs.size (us ++ parts i) _ (by omega) hlt (W.frame _ s' _ _ hst' (Nat.le_refl _) fun x hx o q => eS (fun z => hSf (z ▸ hx)) q) (Heap.get?_update_self _ hS2 rfl) ⟨0, hN.trans (by simp)⟩ nS
      (fun z => Nat.lt_irrefl _ (hlive _ _ hst' _ z)) (fun j x s2 hj1 hj2 hpx hm2 => hparts j x s2 (by omega) hj2 hpx (Moved.trans W.gtrans hmv hm2)) (by rw [List.append_assoc]; exact hlen) fun s2 t2 hm2 hl2 hc => ?_
    refine hR s2 t2 (Moved.trans W.gtrans hmv hm2) (by rw [e0, List.flatMap_cons, ← List.append_assoc]; exact hl2) (.inr ⟨?_, hlt⟩)
    rcases hc with ⟨rfl, _⟩ | ⟨hc, _⟩
    · exact hB _ _ hst'
    · exact hc
end
theorem sub_list_str : isSubtype (.type "list") (.type "str") = pure false := by rw [isSubtype_type]; kernel_rfl
theorem sub_list_bytes : isSubtype (.type "list") (.type "bytes") = pure false := by rw [isSubtype_type]; kernel_rfl
theorem sub_list_bytearray : isSubtype (.type "list") (.type "bytearray") = pure false := by rw [isSubtype_type]; kernel_rfl
theorem args_sum2 (a b : Value) : argsOk "sum" ⟨[a, b], []⟩ := by unfold argsOk; kernel_rfl
section
variable {prog : Program} {w : World} {A : Around} {E : Value → Shared → Prop} {s : Shared}
theorem call_sum_lists {l t : Addr} {its : Array Value} {parts : Nat → List Value} {us : List Value} {Q : Value → Shared → Prop} (hh : A.handled = none) (hl : s.heap.IsList l its) (hr : ∀ i v, its[i]? = some v → ∃ b, v = .ref b ∧ LstAt s.heap b (parts i))
    (ht : LstAt s.heap t us) (hz : (us ++ (List.range its.size).flatMap parts).length ≤ sizeLine)
    (hQ : ∀ h' t', (∀ b o, s.heap.get? b = some o → h'.get? b = some o) → LstAt h' t' (us ++ (List.range its.size).flatMap parts) → ((t' = t ∧ its.size = 0) ∨ (s.heap.objs.size ≤ t' ∧ 0 < its.size)) → ∀ tk, Q (.ref t') { s with heap := h', toks := tk }) :
    wpAny (model prog w) A (call (.builtin "sum") [.ref l, .ref t]) Q E s := by
  obtain ⟨ol, hol, hcl, nl, hdl⟩ := id hl
  obtain ⟨nt, hot⟩ := id ht
  refine call_function_tree F.kind_sum F.plain_sum F.entry_sum (args_sum2 _ _) ?_
  unfold Builtin.«sum»
  simp only [List.length_cons, List.length_nil]
  rw [if_neg (by decide)]
  refine wpAny_bind (wpAny_of_eq (show Builtin.Builtins.bindParams "sum" ["start"] 0 ⟨[.ref t], []⟩ = pure [some (.ref t)] from rfl) ?_)
  refine wpAny_bind (wpAny_pyIter_list hl ?_)
  refine wpAny_bind (wpAny_pure ?_)
  let I := s.heap.objs.size
  let h1 := s.heap.push { cls := .type "list_iterator", data := .fields #[.ref l, .int 0 0] }
  have hot1 : h1.get? t = _ := Heap.get?_push_of_some _ hot
  have tt : ∀ (s' : Shared), s'.heap = h1 → s'.TypeIs (.ref t) "list" := fun s' e => ⟨_, by rw [e]; exact hot1, rfl⟩
  simp only [List.forIn_cons, List.forIn_nil]
  refine wpAny_bind (wpAny_bind (wpAny_bind (wpAny_isInstance (T := "list") (b := false) (tt _ rfl) sub_list_str ?_)))
  simp only [Bool.false_eq_true, if_false]
  refine wpAny_pure (wpAny_bind (wpAny_bind (wpAny_isInstance (T := "list") (b := false) (tt _ rfl) sub_list_bytes ?_)))
  simp only [Bool.false_eq_true, if_false]
  refine wpAny_pure (wpAny_bind (wpAny_bind (wpAny_isInstance (T := "list") (b := false) (tt _ rfl) sub_list_bytearray ?_)))
  simp only [Bool.false_eq_true, if_false]
  refine wpAny_pure (wpAny_pure ?_)
  refine wpAny_bind (wpAny_newObj_type ?_)
  refine wpAny_pure ⟨plainId_quiet F.plain_sum_loop _, ?_⟩
  have hlI : l ≠ I := Nat.ne_of_lt (Heap.lt_size hol)
  have htI : t ≠ I := Nat.ne_of_lt (Heap.lt_size hot)
  have hz1 : h1.objs.size = I + 1 := Heap.size_push ..
  have W0 := Walks.list (prog := prog) (w := w) (A := A.in1) (show A.in1.handled = none from hh) I l hlI its
  have W1 := W0.toS
  have hSI : h1.objs.size ≠ I := by
    rw [hz1]
    exact Nat.succ_ne_self _
  have hlS : l ≠ h1.objs.size := by
    rw [hz1]
    exact Nat.ne_of_lt (Nat.lt_succ_of_lt (Heap.lt_size hol))
  have htS : t ≠ h1.objs.size := by
    rw [hz1]
    exact Nat.ne_of_lt (Nat.lt_succ_of_lt (Heap.lt_size hot))
  have keep0 : ∀ {o : Obj} (b : Addr) (ob : Obj), s.heap.get? b = some ob → (h1.push o).get? b = some ob := fun b ob q => Heap.get?_push_of_some _ (Heap.get?_push_of_some _ q)
  have hdrop : (List.range its.size).drop 0 = List.range its.size := rfl
  refine sum_loop_lists W1 parts (fun i v hv => (hr i v hv).imp fun b q => q.1) (fun i s' st b hb => ?_) I (fun i s' st => ?_) h1.objs.size (fun z => ?_) its.size 0 _ t us _ (by omega) (Nat.zero_le _) ⟨⟨_, Heap.get?_push_of_some _ (Heap.get?_push_size _ rfl), rfl, rfl⟩, hl.at fun o e => keep0 l o e⟩ (Heap.get?_push_size _ rfl)
    ⟨_, keep0 t _ hot⟩ htS (fun z => htI (List.mem_singleton.mp z)) (fun j b s' _ hj hb hm => ?_) (by rw [hdrop]; exact hz) fun s' t' hm hl' hc => ?_
  · obtain rfl := List.mem_singleton.mp hb
    obtain ⟨_, q, _⟩ := st.1
    exact Heap.lt_size q
  · obtain ⟨_, q, _⟩ := st.1
    exact Nat.le_of_lt (Heap.lt_size q)
  · rcases List.mem_cons.mp z with z | z
    · exact hSI z
    · exact hlS (List.mem_singleton.mp z).symm
  · obtain ⟨b', eb, nb, hob⟩ := hr j _ hb
    cases eb
    have hbI : b ≠ I := Nat.ne_of_lt (Heap.lt_size hob)
    have hbS : b ≠ h1.objs.size := by
      rw [hz1]
      exact Nat.ne_of_lt (Nat.lt_succ_of_lt (Heap.lt_size hob))
    refine ⟨⟨nb, hm.heap b _ (fun z => ?_) (keep0 b _ hob)⟩, hbS, fun z => hbI (List.mem_singleton.mp z)⟩
    rcases List.mem_cons.mp z with z | z
    · exact hbS z
    · exact hbI (List.mem_singleton.mp z)
  · obtain ⟨h', g', d', tk', os'⟩ := s'
    obtain rfl : g' = s.gens := hm.gens
    obtain rfl : d' = s.drawn := hm.drawn
    obtain rfl : os' = s.os := hm.os
    refine hQ h' t' (fun b o q => hm.heap b o (fun z => ?_) (keep0 b o q)) (by rw [hdrop] at hl'; exact hl') (by rcases hc with ⟨a, b⟩ | ⟨a, b⟩; exact .inl ⟨a, b.symm⟩; exact .inr ⟨a, b⟩) tk'
    have hb := Heap.lt_size q
    rcases List.mem_cons.mp z with z | z
    · rw [z, hz1] at hb
      exact absurd hb (by show ¬ I + 1 < I; omega)
    · rw [List.mem_singleton.mp z] at hb
      exact Nat.lt_irrefl _ hb
end
/-- sum(xs, start), lists -/
def rSumL (K : PySem.W.Frag) : List V → Hp → VK → Prop := fun vs H Q => ∃ (a t : Addr) (xs zs : List V) (parts : Nat → List V), vs = [.ref a, .ref t] ∧ SqL K H a xs ∧ H t = some (.lst zs) ∧ 0 < xs.length ∧
  (∀ i x, xs[i]? = some x → ∃ b, x = .ref b ∧ H b = some (.lst (parts i))) ∧ (zs ++ (List.range xs.length).flatMap parts).length ≤ sizeLine ∧ ∀ p, H p = none → Q (.ref p) (upd H p (.lst (zs ++ (List.range xs.length).flatMap parts)))
theorem vals_flat {f : Nat → List V} {g : Nat → List Value} : ∀ {l : List Nat}, (∀ i ∈ l, Vals (f i) (g i)) → Vals (l.flatMap f) (l.flatMap g)
  | [], _ => .nil
  | i :: r, h => by
    rw [List.flatMap_cons, List.flatMap_cons]
    exact (h i List.mem_cons_self).append (vals_flat fun j hj => h j (List.mem_cons_of_mem _ hj))
theorem cr_sumL {X : Cx} (hc : X.calm = true) : CallR X (.builtin "sum") (rSumL X.K) := by
  intro pins s σ H vs us Q I r h
  obtain ⟨a, t, xs, zs, parts, rfl, hs, hz, h0, hp, hlen, q⟩ := h
  obtain ⟨u1, u2, rfl, r1, r2⟩ : ∃ u1 u2, us = [u1, u2] ∧ RelV (.ref a) u1 ∧ RelV (.ref t) u2 := by
    cases r with
    | cons r1 rr =>
      cases rr with
      | cons r2 rr =>
        cases rr
        exact ⟨_, _, rfl, r1, r2⟩
  cases r1
  cases r2
  obtain ⟨its, rv, hl, hlz⟩ := I.list hs
  obtain ⟨hzz, iz, nz, rz, ez⟩ := (show ObjOk X.prog X.w H s.heap t (.lst zs) from I.hok t _ hz)
  have ex : ∀ i, ∃ g : List Value, ∀ x, xs[i]? = some x → Vals (parts i) g ∧ ∃ b, x = .ref b ∧ LstAt s.heap b g := fun i => by
    cases e : xs[i]? with
    | none => exact ⟨[], fun x q => by cases q⟩
    | some x =>
      obtain ⟨b, rfl, hb⟩ := hp i x e
      obtain ⟨_, g, n, rg, eg⟩ := (show ObjOk X.prog X.w H s.heap b (.lst (parts i)) from I.hok b _ hb)
      exact ⟨g, fun y q => by cases q; exact ⟨rg, b, rfl, n, eg⟩⟩
  obtain ⟨g, hg⟩ := Classical.axiomOfChoice ex
  have hn : its.toArray.size = xs.length := by rw [List.size_toArray, rv.length]
  have vf : Vals (zs ++ (List.range xs.length).flatMap parts) (iz ++ (List.range xs.length).flatMap g) := rz.append (vals_flat fun i hi => by
    have hi' := List.mem_range.mp hi
    exact (hg i xs[i] (List.getElem?_eq_getElem hi')).1)
  refine call_sum_lists (parts := g) (us := iz) (I.ok.hd hc) hl.isList (fun i v hv => ?_) ⟨nz, ez⟩ (by rw [hn, ← vf.length]; exact hlen) fun h' t' hk hl' hcs tk => ?_
  · have hv' : its[i]? = some v := by simpa using hv
    have hi : i < xs.length := by
      rw [rv.length]
      exact (List.getElem?_eq_some_iff.mp hv').1
    obtain ⟨_, b, eb, hb⟩ := hg i xs[i] (List.getElem?_eq_getElem hi)
    obtain ⟨u, hu, ru⟩ := rv.get (List.getElem?_eq_getElem hi)
    rw [hv'] at hu
    cases hu
    rw [eb] at ru
    cases ru
    exact ⟨b, rfl, hb⟩
  · rw [hn] at hl' hcs
    rcases hcs with ⟨_, z⟩ | ⟨hge, _⟩
    · omega
    · obtain ⟨n', e'⟩ := hl'
      refine ⟨.ref t', _, I.laid (t' := tk) (a := t') (o := .lst (zs ++ (List.range xs.length).flatMap parts)) hk hge ⟨hlen, _, n', vf, e'⟩, rfl, q t' (I.hok.fresh hge)⟩
end Fm
end FFmSumL
section FQ1
set_option Elab.async false
set_option linter.all false
set_option maxRecDepth 100000
set_option maxHeartbeats 4000000
local macro_rules | `(tactic| walk_at "ne") => `(tactic| first | assumption | (apply Ne.symm; assumption) | exact L2.ne_of_none (by assumption) (by assumption) | exact Ne.symm (L2.ne_of_none (by assumption) (by assumption)))
local macro_rules | `(tactic| walk_at "hl") => `(tactic| first | assumption | exact L2.upd_same | (refine Eq.trans (L2.upd_ne (by walk_at "ne")) ?_; walk_at "hl"))
local macro_rules | `(tactic| walk_at "sd") => `(tactic| first | (with_reducible show (_ : Int) < _; omega) | (with_reducible show (_ : Int) ≤ _; omega) | assumption | decide | exact ⟨by assumption, by assumption⟩ | exact ⟨by decide, by decide⟩ | exact Or.inr ⟨by decide, by decide⟩ | exact Or.inl ⟨by omega, by omega⟩ | rfl)
local macro_rules | `(tactic| walk_at "st1") => `(tactic| first
  | refine ⟨_, rfl, ?_⟩
  | refine ⟨_, _, rfl, rfl, ?_⟩
  | refine ⟨_, _, rfl, ?_⟩
  | (refine ⟨_, _, _, _, rfl, rfl, L2.SqL.of (by walk_at "hl"), rfl, ?_⟩)
  | (refine ⟨_, _, _, _, rfl, rfl, L2.SqT.of (by walk_at "hl"), rfl, ?_⟩)
  | (refine ⟨_, _, _, _, rfl, rfl, (by walk_at "hl"), rfl, ?_⟩)
  | (refine And.intro (by walk_at "sd") ?_)
  )
local macro_rules | `(tactic| walk_at "st") => `(tactic| repeat walk_at "st1")
local macro_rules | `(tactic| walk_at "op") => `(tactic| try dsimp only [L2.tSeq, L2.tAsg, L2.tOp, L2.tVar, L2.tC, L2.gSub, L2.rI, L2.rI0, L2.rIxL, L2.rIxT, L2.rSetL, L2.tIfS, L2.tTest, L2.tRet, L2.gName, L2.tNext, L2.tAnd, L2.tOr, L2.tNot, L2.tAndV, L2.tOrV, L2.tNotV, L2.tB, L2.tCB, L2.tCons, L2.tNil, L2.tCall, L2.tTup, L2.tLst, L2.tChain, L2.tUn, L2.tPar, L2.tDrop, L2.tIf, L2.tBM, L2.tBM0, L2.rAppend, L2.rCat, L2.rIsi, L2.rIsiT, L2.gTup, L2.gCons, L2.gNil, Fm.tFor_eq, Fm.tLc_eq, L2.iTup, L2.iList, L2.iRng1, L2.iRng2, L2.tSl, L2.tPart, L2.tNoPart, L2.rSlL, L2.rEq, L2.rNe, L2.rU, L2.rEqD, L2.rNeD, Fm.tRevT, Fm.rLenS, Fm.rTupOf, Fm.rLstOf, L2.tDNewK, L2.tCallS, L2.WE, Fm.wKeep, Fm.rIsK, Fm.rIsKT, List.cons_append, List.nil_append, L2.tYes])
namespace Fm
open PySem PySem.Spec PyProof.Rows L2
def top (i : Nat) : Stmt := PySem.Challenge.pw_floormeet_k04_as_many_in_every_order.main.body.getD i (.Pass ⟨0, 0, 0, 0⟩)
abbrev s_is_whole : Stmt := top 1
abbrev N_is_whole : List Str := ["thing"]
theorem sc_is_whole : FnScope N_is_whole ["thing"] (defScope s_is_whole) := ⟨rfl, rfl, rfl, by decide +kernel, rfl, by decide +kernel, by decide +kernel⟩
abbrev s_is_up_to : Stmt := top 2
abbrev N_is_up_to : List Str := ["thing", "most"]
theorem sc_is_up_to : FnScope N_is_up_to ["thing", "most"] (defScope s_is_up_to) := ⟨rfl, rfl, rfl, by decide +kernel, rfl, by decide +kernel, by decide +kernel⟩
abbrev s_is_tuple_of : Stmt := top 3
abbrev N_is_tuple_of : List Str := ["thing", "many"]
theorem sc_is_tuple_of : FnScope N_is_tuple_of ["thing", "many"] (defScope s_is_tuple_of) := ⟨rfl, rfl, rfl, by decide +kernel, rfl, by decide +kernel, by decide +kernel⟩
abbrev s_are_up_to : Stmt := top 4
abbrev N_are_up_to : List Str := ["thing", "many", "most", "number"]
theorem sc_are_up_to : FnScope N_are_up_to ["thing", "many", "most"] (defScope s_are_up_to) := ⟨rfl, rfl, rfl, by decide +kernel, rfl, by decide +kernel, by decide +kernel⟩
section
variable {P : Program} {w : World} {K : PySem.W.Frag} {mg : Str → Option Value} {base : Heap}
theorem ok_is_whole (D : Df K mg "is_whole" s_is_whole ["thing"]) (T : Nms mg) : CallOk P w K mg base CX0 1 "is_whole" ["thing"] spWhole := by
  refine df_ok D sc_is_whole (fun vs H Q E h => ?_) (fun f cdv A outer s H vs Q E hr h => ?_)
  · obtain ⟨v, p, d, rfl, _⟩ := h
    rfl
  · obtain ⟨v, p, d, rfl, hd, k⟩ := h
    have nd := sc_is_whole.nd
    refine ⟨_, (pss_one (ps_ret (pe_and (pe_callB (r := rIsi K) call_isi (by rfl) T.n_isinstance (by decide +kernel) (pa_cons (pv 0) (pa_cons (pe_bltn (v := .ty "int") (by rfl) T.n_int (by decide +kernel) rfl) pa_nil))) (pe_one (pe_not (pe_callB (r := rIsi K) call_isi (by rfl) T.n_isinstance (by decide +kernel) (pa_cons (pv 0) (pa_cons (pe_bltn (v := .ty "bool") (by rfl) T.n_bool (by decide +kernel) rfl) pa_nil)))))))), ?_⟩
    walk_at "op"
    walk_at "st"
    refine ⟨_, _, _, _, _, rfl, .ty _, hd.ty, kit_ty (kit_int d), ?_⟩
    walk_at "st"
    refine ite2 (fun c1 => ?_) (fun c1 => ?_)
    · walk_at "st"
      refine ⟨_, _, _, _, _, rfl, .ty _, hd.ty, kit_ty (kit_bool d), ?_⟩
      walk_at "st"
      refine k _ ?_
      cases d <;> simp_all [isI, isB]
    · refine k _ ?_
      cases d <;> simp_all [isI, isB]
theorem ok_is_up_to (D : Df K mg "is_up_to" s_is_up_to ["thing", "most"]) (T : Nms mg) (c_is_whole : CallOk P w K mg base CX0 1 "is_whole" ["thing"] spWhole) : CallOk P w K mg base CX0 2 "is_up_to" ["thing", "most"] spUpTo := by
  refine df_ok D sc_is_up_to (fun vs H Q E h => ?_) (fun f cdv A outer s H vs Q E hr h => ?_)
  · obtain ⟨v, mv, p, d, rfl, _⟩ := h
    rfl
  · obtain ⟨v, mv, p, d, rfl, hd, hm, k⟩ := h
    have nd := sc_is_up_to.nd
    refine ⟨_, (pss_cons (ps_if (PW.pt (pw_or (pt_not (pt_val (pe_cc c_is_whole (hr.mono (by omega)) (pa_cons (pv 0) pa_nil)))) (pw_or1 (pt_cmpR op_lt (pv 0) pe_int (nomark _))))) (pss_one (ps_ret pe_bl)) pss_nil)
      (pss_one (ps_ret (pe_or (pe_cmpR op_isN (pv 1) pe_non (nomark _)) (pe_one (pe_cmpR op_le (pv 0) (pv 1) (nomark _))))))), ?_⟩
    walk_at "op"
    walk_at "st"
    refine ⟨v, p, d, rfl, hd, fun b hb => ?_⟩
    walk_at "st"
    cases b with
    | false =>
      refine iteT (iteT (k false ⟨fun z => Bool.noConfusion z, fun ⟨i, e, _⟩ => hb.mpr ⟨i, e⟩⟩))
    | true =>
      obtain ⟨i, rfl⟩ := hb.mp rfl
      obtain rfl := hd.isInt
      refine iteF ?_
      walk_at "st"
      refine ite2 (fun c0 => ?_) (fun c0 => ?_)
      · refine k false ⟨fun z => Bool.noConfusion z, fun ⟨j, e, h0, _⟩ => ?_⟩
        cases e
        have := of_decide_eq_true c0
        omega
      · have c1 : 0 ≤ i := by
          have := of_decide_eq_false (Bool.eq_false_iff.mpr c0)
          omega
        walk_at "st"
        rcases hm with rfl | ⟨M, rfl⟩
        · refine iteT (k true ⟨fun _ => ⟨i, rfl, c1, fun M z => by cases z⟩, fun _ => rfl⟩)
        · refine iteF ?_
          walk_at "st"
          refine k _ ⟨fun z => ⟨i, rfl, c1, fun N e => ?_⟩, fun ⟨j, e, _, hM⟩ => ?_⟩
          · cases e
            exact of_decide_eq_true z
          · cases e
            exact decide_eq_true (hM M rfl)
theorem ok_is_tuple_of (D : Df K mg "is_tuple_of" s_is_tuple_of ["thing", "many"]) (T : Nms mg) : CallOk P w K mg base CX0 1 "is_tuple_of" ["thing", "many"] spTupOf := by
  refine df_ok D sc_is_tuple_of (fun vs H Q E h => ?_) (fun f cdv A outer s H vs Q E hr h => ?_)
  · obtain ⟨v, n, p, d, rfl, _⟩ := h
    rfl
  · obtain ⟨v, n, p, d, rfl, hd, k⟩ := h
    have nd := sc_is_tuple_of.nd
    refine ⟨_, (pss_one (ps_ret (pe_and (pe_callB (r := rIsi K) call_isi (by rfl) T.n_isinstance (by decide +kernel) (pa_cons (pv 0) (pa_cons (pe_bltn (v := .ty "tuple") (by rfl) T.n_tuple (by decide +kernel) rfl) pa_nil))) (pe_one (pe_cmpR op_eq (pe_callB (r := rLenS K) call_lenS (by rfl) T.n_len (by decide +kernel) (pa_cons (pv 0) pa_nil)) (pv 1) (nomark _)))))), ?_⟩
    walk_at "op"
    walk_at "st"
    refine ⟨_, _, _, _, _, rfl, .ty _, hd.ty, kit_ty (kit_tuple d), ?_⟩
    walk_at "st"
    refine ite2 (fun c1 => ?_) (fun c1 => ?_)
    · obtain ⟨ds, rfl⟩ := isTu_iff.mp c1
      obtain ⟨a, xs, rfl, ha, _, hs⟩ := hd.isTup
      walk_at "st"
      refine ⟨_, _, rfl, .inr (SqT.of ha), ?_⟩
      walk_at "st"
      refine k _ ⟨fun z => ⟨ds, rfl, ?_⟩, fun ⟨es, e, z⟩ => ?_⟩
      · have := of_decide_eq_true z
        cases this
        rw [hs.1]
      · cases e
        rw [← hs.1] at z
        exact decide_eq_true (by rw [z])
    · exact k false ⟨fun z => Bool.noConfusion z, fun ⟨ds, e, _⟩ => absurd (isTu_iff.mpr ⟨ds, e⟩) c1⟩
theorem ok_are_up_to (D : Df K mg "are_up_to" s_are_up_to ["thing", "many", "most"]) (T : Nms mg) (c_is_tuple_of : CallOk P w K mg base CX0 1 "is_tuple_of" ["thing", "many"] spTupOf)
    (c_is_up_to : CallOk P w K mg base CX0 2 "is_up_to" ["thing", "most"] spUpTo) : CallOk P w K mg base CX0 3 "are_up_to" ["thing", "many", "most"] spAre := by
  refine df_ok D sc_are_up_to (fun vs H Q E h => ?_) (fun f cdv A outer s H vs Q E hr h => ?_)
  · obtain ⟨v, mv, n, p, d, rfl, _⟩ := h
    rfl
  · obtain ⟨v, mv, n, p, d, rfl, hd, hm, k⟩ := h
    have nd := sc_are_up_to.nd
    refine ⟨_, (pss_cons (ps_if (pt_not (pt_val (pe_cc c_is_tuple_of (hr.mono (by omega)) (pa_cons (pv 0) (pa_cons (pv 1) pa_nil))))) (pss_one (ps_ret pe_bl)) pss_nil)
      (pss_cons (ps_for PassesOwn.never rfl (pi_tup (pv 0)) (pg_name (i := 3) nd rfl (Or.inl rfl)) (pss_one (ps_if (pt_not (pt_val (pe_cc c_is_up_to (hr.mono (by omega)) (pa_cons (pv 3) (pa_cons (pv 2) pa_nil))))) (pss_one (ps_ret pe_bl)) pss_nil)))
      (pss_one (ps_ret pe_bl)))), ?_⟩
    walk_at "op"
    walk_at "st"
    refine ⟨v, n, p, d, rfl, hd, fun b hb => ?_⟩
    walk_at "st"
    cases b with
    | false =>
      refine iteT (k false ⟨fun z => Bool.noConfusion z, fun ⟨ds, e, hl, _⟩ => hb.mpr ⟨ds, e, hl⟩⟩)
    | true =>
      obtain ⟨ds, rfl, hl⟩ := hb.mp rfl
      obtain ⟨a, xs, rfl, ha, _, hs⟩ := hd.isTup
      refine iteF ?_
      walk_at "st"
      refine ⟨⟨_, SqT.of ha⟩, fT (xs := xs) (fun i σ H' => H' = H ∧ (∃ u, σ = [some (.ref a), some (.int n), some mv, u]) ∧ ∀ j e, j < i → ds[j]? = some e → UpTo mv e)
        ⟨rfl, ⟨none, rfl⟩, fun j e hj => absurd hj (Nat.not_lt_zero j)⟩ (fun i σ H' _ ⟨e, _⟩ => by rw [e]; exact SqT.of ha) ?_ ?_⟩
      · rintro i x σ H' hx ⟨rfl, ⟨u, rfl⟩, hi⟩
        obtain ⟨e, he, hde⟩ := hs.at hx
        walk_at "op"
        walk_at "st"
        refine ⟨x, mv, p, e, rfl, hde, hm, fun b hb => ?_⟩
        walk_at "st"
        cases b with
        | false =>
          refine iteT (k false ⟨fun z => Bool.noConfusion z, fun ⟨es, e1, _, h2⟩ => ?_⟩)
          cases e1
          exact hb.mpr (h2 e (List.mem_of_getElem? he))
        | true =>
          refine iteF ⟨rfl, ⟨_, rfl⟩, fun j e' hj he' => ?_⟩
          by_cases hji : j = i
          · subst hji
            rw [he] at he'
            cases he'
            exact hb.mp rfl
          · exact hi j e' (by omega) he'
      · rintro σ H' ⟨rfl, _, hi⟩
        walk_at "op"
        refine k true ⟨fun _ => ⟨ds, rfl, hl, fun e he => ?_⟩, fun _ => rfl⟩
        obtain ⟨j, hj⟩ := List.getElem?_of_mem he
        exact hi j e (by rw [hs.1]; exact (List.getElem?_eq_some_iff.mp hj).1) hj
end
end Fm
end FQ1
section FQ2
set_option Elab.async false
set_option linter.all false
set_option maxRecDepth 100000
set_option maxHeartbeats 4000000
local macro_rules | `(tactic| walk_at "ne") => `(tactic| first | assumption | (apply Ne.symm; assumption) | exact L2.ne_of_none (by assumption) (by assumption) | exact Ne.symm (L2.ne_of_none (by assumption) (by assumption)))
local macro_rules | `(tactic| walk_at "hl") => `(tactic| first | assumption | exact L2.upd_same | (refine Eq.trans (L2.upd_ne (by walk_at "ne")) ?_; walk_at "hl"))
local macro_rules | `(tactic| walk_at "sd") => `(tactic| first | (with_reducible show (_ : Int) < _; omega) | (with_reducible show (_ : Int) ≤ _; omega) | assumption | decide | exact ⟨by assumption, by assumption⟩ | exact ⟨by decide, by decide⟩ | exact Or.inr ⟨by decide, by decide⟩ | exact Or.inl ⟨by omega, by omega⟩ | rfl)
local macro_rules | `(tactic| walk_at "st1") => `(tactic| first
  | refine ⟨_, rfl, ?_⟩
  | refine ⟨_, _, rfl, rfl, ?_⟩
  | refine ⟨_, _, rfl, ?_⟩
  | (refine ⟨_, _, _, _, rfl, rfl, L2.SqL.of (by walk_at "hl"), rfl, ?_⟩)
  | (refine ⟨_, _, _, _, rfl, rfl, L2.SqT.of (by walk_at "hl"), rfl, ?_⟩)
  | (refine ⟨_, _, _, _, rfl, rfl, (by walk_at "hl"), rfl, ?_⟩)
  | (refine And.intro (by walk_at "sd") ?_)
  )
local macro_rules | `(tactic| walk_at "st") => `(tactic| repeat walk_at "st1")
local macro_rules | `(tactic| walk_at "op") => `(tactic| try dsimp only [L2.tSeq, L2.tAsg, L2.tOp, L2.tVar, L2.tC, L2.gSub, L2.rI, L2.rI0, L2.rIxL, L2.rIxT, L2.rSetL, L2.tIfS, L2.tTest, L2.tRet, L2.gName, L2.tNext, L2.tAnd, L2.tOr, L2.tNot, L2.tAndV, L2.tOrV, L2.tNotV, L2.tB, L2.tCB, L2.tCons, L2.tNil, L2.tCall, L2.tTup, L2.tLst, L2.tChain, L2.tUn, L2.tPar, L2.tDrop, L2.tIf, L2.tBM, L2.tBM0, L2.rAppend, L2.rCat, L2.rIsi, L2.rIsiT, L2.gTup, L2.gCons, L2.gNil, Fm.tFor_eq, Fm.tLc_eq, L2.iTup, L2.iList, L2.iRng1, L2.iRng2, L2.tSl, L2.tPart, L2.tNoPart, L2.rSlL, L2.rEq, L2.rNe, L2.rU, L2.rEqD, L2.rNeD, Fm.tRevT, Fm.rLenS, Fm.rTupOf, Fm.rLstOf, L2.tDNewK, L2.tCallS, L2.WE, Fm.wKeep, Fm.rIsK, Fm.rIsKT, List.cons_append, List.nil_append, L2.tYes])
namespace Fm
open PySem PySem.Spec PyProof.Rows L2
abbrev s_is_table : Stmt := top 13
abbrev N_is_table : List Str := ["thing", "m", "row", "a", "b"]
theorem sc_is_table : FnScope N_is_table ["thing", "m"] (defScope s_is_table) := ⟨rfl, rfl, rfl, by decide +kernel, rfl, by decide +kernel, by decide +kernel⟩
section
variable {P : Program} {w : World} {K : PySem.W.Frag} {mg : Str → Option Value} {base : Heap}
theorem row_iff {m : Nat} {d : PyData} : (∃ ds, d = .tuple ds ∧ (ds.length : Int) = m ∧ ∀ e ∈ ds, UpTo (.int ((m : Int) - 1)) e) ↔ RowD m d := by
  constructor
  · rintro ⟨ds, rfl, hl, h⟩
    refine ⟨ds, rfl, by omega, fun e he => ?_⟩
    obtain ⟨i, rfl, h0, hM⟩ := h e he
    exact ⟨i, rfl, h0, by have := hM _ rfl; omega⟩
  · rintro ⟨ds, rfl, hl, h⟩
    refine ⟨ds, rfl, by omega, fun e he => ?_⟩
    obtain ⟨i, rfl, h0, hM⟩ := h e he
    exact ⟨i, rfl, h0, fun M z => by cases z; omega⟩
theorem cell_at {H : Hp} {p : Addr} {xs : List V} {ds : List PyData} {m : Nat} (hs : Dats H p xs ds) (hl : ds.length = m) (hr : ∀ r ∈ ds, RowD m r) {a b : Nat} (ha : a < m) (hb : b < m) :
    ∃ (ra : Addr) (ys : List V) (i : Int), xs[a]? = some (.ref ra) ∧ H ra = some (.tup ys) ∧ ys[b]? = some (.int i) ∧ cellD ds a b = .int i ∧ 0 ≤ i ∧ i < m := by
  have e1 : ds[a]? = some ds[a] := List.getElem?_eq_getElem (by omega)
  obtain ⟨es, he, hes, hi⟩ := hr ds[a] (List.getElem_mem _)
  obtain ⟨x, hx, hd⟩ := hs.back e1
  rw [he] at hd
  obtain ⟨ra, ys, rfl, hra, _, hy⟩ := hd.isTup
  have e2 : es[b]? = some es[b] := List.getElem?_eq_getElem (by omega)
  obtain ⟨i, hei, h0, h1⟩ := hi es[b] (List.getElem_mem _)
  obtain ⟨y, hyb, hyd⟩ := hy.back e2
  rw [hei] at hyd
  obtain rfl := hyd.isInt
  refine ⟨ra, ys, i, hx, hra, hyb, ?_, h0, h1⟩
  unfold cellD
  rw [e1, he]
  simp only [e2, hei, Option.getD_some]
theorem ok_is_table (D : Df K mg "is_table" s_is_table ["thing", "m"]) (T : Nms mg) (c_is_tuple_of : CallOk P w K mg base CX0 1 "is_tuple_of" ["thing", "many"] spTupOf)
    (c_are_up_to : CallOk P w K mg base CX0 3 "are_up_to" ["thing", "many", "most"] spAre) : CallOk P w K mg base CX0 4 "is_table" ["thing", "m"] spTable := by
  refine df_ok D sc_is_table (fun vs H Q E h => ?_) (fun f cdv A outer s H vs Q E hr h => ?_)
  · obtain ⟨v, m, p, d, rfl, _⟩ := h
    rfl
  · obtain ⟨v, m, p, d, rfl, hm, hd, k⟩ := h
    have nd := sc_is_table.nd
    refine ⟨_, (pss_cons (ps_if (pt_not (pt_val (pe_cc c_is_tuple_of (hr.mono (by omega)) (pa_cons (pv 0) (pa_cons (pv 1) pa_nil))))) (pss_one (ps_ret pe_bl)) pss_nil)
      (pss_cons (ps_for PassesOwn.never rfl (pi_tup (pv 0)) (pg_name (i := 2) nd rfl (Or.inl rfl)) (pss_one (ps_if (pt_not (pt_val (pe_cc c_are_up_to (hr.mono (by omega)) (pa_cons (pv 2) (pa_cons (pv 1) (pa_cons (pe_op op_sub (pv 1) pe_int) pa_nil)))))) (pss_one (ps_ret pe_bl)) pss_nil)))
      (pss_cons (ps_for PassesOwn.never rfl (pi_range1 rfl T.n_range (pa_cons (pv 1) pa_nil)) (pg_name (i := 3) nd rfl (Or.inl rfl)) (pss_one (ps_for PassesOwn.never rfl (pi_range1 rfl T.n_range (pa_cons (pv 3) pa_nil)) (pg_name (i := 4) nd rfl (Or.inl rfl)) (pss_one (ps_if (pt_cmpR op_ne (pe_ix (r := rIxT K) ix_tup (pe_ix (r := rIxT K) ix_tup (pv 0) (pv 3) (fun _ _ => rfl)) (pv 4) (fun _ _ => rfl)) (pe_ix (r := rIxT K) ix_tup (pe_ix (r := rIxT K) ix_tup (pv 0) (pv 4) (fun _ _ => rfl)) (pv 3) (fun _ _ => rfl)) (nomark _)) (pss_one (ps_ret pe_bl)) pss_nil)))))
      (pss_one (ps_ret pe_bl))))), ?_⟩
    walk_at "op"
    walk_at "st"
    refine ⟨v, m, p, d, rfl, hd, fun b hb => ?_⟩
    walk_at "st"
    cases b with
    | false =>
      refine iteT (k false ⟨fun z => Bool.noConfusion z, fun ⟨ds, e, hl, _⟩ => hb.mpr ⟨ds, e, by omega⟩⟩)
    | true =>
      obtain ⟨ds, rfl, hl'⟩ := hb.mp rfl
      have hl : ds.length = m := by omega
      obtain ⟨a, xs, rfl, ha, _, hs⟩ := hd.isTup
      refine iteF ?_
      walk_at "st"
      refine ⟨⟨_, SqT.of ha⟩, fT (xs := xs) (fun i σ H' => H' = H ∧ (∃ u, σ = [some (.ref a), some (.int m), u, none, none]) ∧ ∀ j e, j < i → ds[j]? = some e → RowD m e)
        ⟨rfl, ⟨none, rfl⟩, fun j e hj => absurd hj (Nat.not_lt_zero j)⟩ (fun i σ H' _ ⟨e, _⟩ => by rw [e]; exact SqT.of ha) ?_ ?_⟩
      · rintro i x σ H' hx ⟨rfl, ⟨u, rfl⟩, hi⟩
        obtain ⟨e, he, hde⟩ := hs.at hx
        walk_at "op"
        walk_at "st"
        refine ⟨x, _, m, p, e, rfl, hde, .inr ⟨_, rfl⟩, fun b hb => ?_⟩
        rw [row_iff] at hb
        walk_at "st"
        cases b with
        | false =>
          refine iteT (k false ⟨fun z => Bool.noConfusion z, fun ⟨es, e1, _, h2, _⟩ => ?_⟩)
          cases e1
          exact hb.mpr (h2 e (List.mem_of_getElem? he))
        | true =>
          refine iteF ⟨rfl, ⟨_, rfl⟩, fun j e' hj he' => ?_⟩
          by_cases hji : j = i
          · subst hji
            rw [he] at he'
            cases he'
            exact hb.mp rfl
          · exact hi j e' (by omega) he'
      · rintro σ H' ⟨rfl, ⟨u, rfl⟩, hi⟩
        have hrow : ∀ r ∈ ds, RowD m r := fun r hr => by
          obtain ⟨j, hj⟩ := List.getElem?_of_mem hr
          exact hi j r (by rw [hs.1]; exact (List.getElem?_eq_some_iff.mp hj).1) hj
        walk_at "op"
        walk_at "st"
        rw [Int.toNat_natCast]
        refine fR (fun i σ H1 => H1 = H' ∧ (∃ u1 u2 u3, σ = [some (.ref a), some (.int m), u1, u2, u3]) ∧ ∀ x y, x < i → y < x → cellD ds x y = cellD ds y x)
          ⟨rfl, ⟨_, _, _, rfl⟩, fun x y hx => absurd hx (Nat.not_lt_zero x)⟩ ?_ ?_
        · rintro i σ H1 hi1 ⟨rfl, ⟨u1, u2, u3, rfl⟩, hsy⟩
          rw [Int.zero_add]
          walk_at "op"
          walk_at "st"
          rw [Int.toNat_natCast]
          refine fR (fun j σ H2 => H2 = H1 ∧ (∃ u1 u3, σ = [some (.ref a), some (.int m), u1, some (.int i), u3]) ∧ ∀ y, y < j → cellD ds i y = cellD ds y i)
            ⟨rfl, ⟨_, _, rfl⟩, fun y hy => absurd hy (Nat.not_lt_zero y)⟩ ?_ ?_
          · rintro j σ H2 hj ⟨rfl, ⟨u1, u3, rfl⟩, hsj⟩
            rw [Int.zero_add]
            obtain ⟨ra, ya, x1, a1, a2, a3, a4, _⟩ := cell_at hs hl hrow (a := i) (b := j) hi1 (by omega)
            obtain ⟨rb, yb, x2, b1, b2, b3, b4, _⟩ := cell_at hs hl hrow (a := j) (b := i) (by omega) hi1
            walk_at "op"
            walk_at "st"
            refine ⟨_, _, _, _, rfl, rfl, SqT.of ha, atI_nat a1, ?_⟩
            walk_at "st"
            refine ⟨_, _, _, _, rfl, rfl, SqT.of a2, atI_nat a3, ?_⟩
            walk_at "st"
            refine ⟨_, _, _, _, rfl, rfl, SqT.of ha, atI_nat b1, ?_⟩
            walk_at "st"
            refine ⟨_, _, _, _, rfl, rfl, SqT.of b2, atI_nat b3, rfl, ?_⟩
            walk_at "st"
            refine ite2 (fun c0 => ?_) (fun c0 => ?_)
            · refine k false ⟨fun z => Bool.noConfusion z, fun ⟨es, e1, _, _, h3⟩ => ?_⟩
              cases e1
              have q := h3 i j hi1 (by omega)
              rw [a4, b4] at q
              cases q
              simp at c0
            · refine ⟨rfl, ⟨_, _, rfl⟩, fun y hy => ?_⟩
              by_cases hyj : y = j
              · subst hyj
                rw [a4, b4]
                simp at c0
                rw [c0]
              · exact hsj y (by omega)
          · rintro σ H2 ⟨rfl, ⟨u1, u3, rfl⟩, hsj⟩
            refine ⟨rfl, ⟨_, _, _, rfl⟩, fun x y hx hy => ?_⟩
            by_cases hxi : x = i
            · subst hxi
              exact hsj y hy
            · exact hsy x y (by omega) hy
        · rintro σ H1 ⟨rfl, _, hsy⟩
          walk_at "op"
          refine k true ⟨fun _ => ⟨ds, rfl, hl, hrow, fun x y hx hy => ?_⟩, fun _ => rfl⟩
          rcases Nat.lt_trichotomy x y with h | h | h
          · exact (hsy y x hy h).symm
          · rw [h]
          · exact hsy x y hx h
end
end Fm
end FQ2
section FQ3
set_option Elab.async false
set_option linter.all false
set_option maxRecDepth 100000
set_option maxHeartbeats 4000000
local macro_rules | `(tactic| walk_at "ne") => `(tactic| first | assumption | (apply Ne.symm; assumption) | exact L2.ne_of_none (by assumption) (by assumption) | exact Ne.symm (L2.ne_of_none (by assumption) (by assumption)))
local macro_rules | `(tactic| walk_at "hl") => `(tactic| first | assumption | exact L2.upd_same | (refine Eq.trans (L2.upd_ne (by walk_at "ne")) ?_; walk_at "hl"))
local macro_rules | `(tactic| walk_at "sd") => `(tactic| first | (with_reducible show (_ : Int) < _; omega) | (with_reducible show (_ : Int) ≤ _; omega) | assumption | decide | exact ⟨by assumption, by assumption⟩ | exact ⟨by decide, by decide⟩ | exact Or.inr ⟨by decide, by decide⟩ | exact Or.inl ⟨by omega, by omega⟩ | rfl)
local macro_rules | `(tactic| walk_at "st1") => `(tactic| first
  | refine ⟨_, rfl, ?_⟩
  | refine ⟨_, _, rfl, rfl, ?_⟩
  | refine ⟨_, _, rfl, ?_⟩
  | (refine ⟨_, _, _, _, rfl, rfl, L2.SqL.of (by walk_at "hl"), rfl, ?_⟩)
  | (refine ⟨_, _, _, _, rfl, rfl, L2.SqT.of (by walk_at "hl"), rfl, ?_⟩)
  | (refine ⟨_, _, _, _, rfl, rfl, (by walk_at "hl"), rfl, ?_⟩)
  | (refine And.intro (by walk_at "sd") ?_)
  )
local macro_rules | `(tactic| walk_at "st") => `(tactic| repeat walk_at "st1")
local macro_rules | `(tactic| walk_at "op") => `(tactic| try dsimp only [L2.tSeq, L2.tAsg, L2.tOp, L2.tVar, L2.tC, L2.gSub, L2.rI, L2.rI0, L2.rIxL, L2.rIxT, L2.rSetL, L2.tIfS, L2.tTest, L2.tRet, L2.gName, L2.tNext, L2.tAnd, L2.tOr, L2.tNot, L2.tAndV, L2.tOrV, L2.tNotV, L2.tB, L2.tCB, L2.tCons, L2.tNil, L2.tCall, L2.tTup, L2.tLst, L2.tChain, L2.tUn, L2.tPar, L2.tDrop, L2.tIf, L2.tBM, L2.tBM0, L2.rAppend, L2.rCat, L2.rIsi, L2.rIsiT, L2.gTup, L2.gCons, L2.gNil, Fm.tFor_eq, Fm.tLc_eq, L2.iTup, L2.iList, L2.iRng1, L2.iRng2, L2.tSl, L2.tPart, L2.tNoPart, L2.rSlL, L2.rEq, L2.rNe, L2.rU, L2.rEqD, L2.rNeD, Fm.tRevT, Fm.rLenS, Fm.rTupOf, Fm.rLstOf, L2.tDNewK, L2.tCallS, L2.WE, Fm.wKeep, Fm.rIsK, Fm.rIsKT, List.cons_append, List.nil_append, L2.tYes])
namespace Fm
open PySem PySem.Spec PyProof.Rows L2
abbrev s_is_house : Stmt := top 12
abbrev N_is_house : List Str := ["thing", "floor", "first", "stay", "up"]
theorem sc_is_house : FnScope N_is_house ["thing"] (defScope s_is_house) := ⟨rfl, rfl, rfl, by decide +kernel, rfl, by decide +kernel, by decide +kernel⟩
section
variable {P : Program} {w : World} {K : PySem.W.Frag} {mg : Str → Option Value} {base : Heap}
theorem ok_is_house (D : Df K mg "is_house" s_is_house ["thing"]) (T : Nms mg) {tF tN : Tok} (c_MOST_FLOORS : mg "MOST_FLOORS" = some (.int 4 tF)) (c_MOST_NUMBERS : mg "MOST_NUMBERS" = some (.int 6 tN))
    (c_is_tuple_of : CallOk P w K mg base CX0 1 "is_tuple_of" ["thing", "many"] spTupOf) (c_is_table : CallOk P w K mg base CX0 4 "is_table" ["thing", "m"] spTable) : CallOk P w K mg base CX0 5 "is_house" ["thing"] spHouse := by
  refine df_ok D sc_is_house (fun vs H Q E h => ?_) (fun f cdv A outer s H vs Q E hr h => ?_)
  · obtain ⟨v, p, d, rfl, _⟩ := h
    rfl
  · obtain ⟨v, p, d, rfl, hd, k⟩ := h
    have nd := sc_is_house.nd
    refine ⟨_, (pss_cons (ps_if (PW.pt (pw_or (pt_not (pt_val (pe_callB (r := rIsi K) call_isi (by rfl) T.n_isinstance (by decide +kernel) (pa_cons (pv 0) (pa_cons (pe_bltn (v := .ty "tuple") (by rfl) T.n_tuple (by decide +kernel) rfl) pa_nil))))) (pw_or1 (pt_not (pt_chain op_le op_le pe_int (pe_callB (r := rLenS K) call_lenS (by rfl) T.n_len (by decide +kernel) (pa_cons (pv 0) pa_nil)) (pe_glob (v := .int 4) rfl c_MOST_FLOORS ⟨_, rfl⟩)))))) (pss_one (ps_ret pe_bl)) pss_nil)
      (pss_cons (ps_for PassesOwn.never rfl (pi_tup (pv 0)) (pg_name (i := 1) nd rfl (Or.inl rfl)) (pss_one (ps_if (pt_not (pt_val (pe_cc c_is_tuple_of (hr.mono (by omega)) (pa_cons (pv 1) (pa_cons pe_int pa_nil))))) (pss_one (ps_ret pe_bl)) pss_nil)))
      (pss_cons (ps_set (i := 2) nd rfl (Or.inl rfl) (pe_ix (r := rIxT K) ix_tup (pe_ix (r := rIxT K) ix_tup (pv 0) pe_int (fun _ _ => rfl)) pe_int (fun _ _ => rfl)))
      (pss_cons (ps_if (PW.pt (pw_or (pt_not (pt_val (pe_callB (r := rIsi K) call_isi (by rfl) T.n_isinstance (by decide +kernel) (pa_cons (pv 2) (pa_cons (pe_bltn (v := .ty "tuple") (by rfl) T.n_tuple (by decide +kernel) rfl) pa_nil))))) (pw_or1 (pt_not (pt_chain op_le op_le pe_int (pe_callB (r := rLenS K) call_lenS (by rfl) T.n_len (by decide +kernel) (pa_cons (pv 2) pa_nil)) (pe_glob (v := .int 6) rfl c_MOST_NUMBERS ⟨_, rfl⟩)))))) (pss_one (ps_ret pe_bl)) pss_nil)
      (pss_cons (ps_for PassesOwn.never rfl (pi_tup (pv 0)) (pg_tup rfl (pgs_cons (pg_name (i := 3) nd rfl (Or.inl rfl)) (pgs_cons (pg_name (i := 4) nd rfl (Or.inl rfl)) pgs_nil))) (pss_one (ps_if (PW.pt (pw_or (pt_not (pt_val (pe_cc c_is_table (hr.mono (by omega)) (pa_cons (pv 3) (pa_cons (pe_callB (r := rLenS K) call_lenS (by rfl) T.n_len (by decide +kernel) (pa_cons (pv 2) pa_nil)) pa_nil))))) (pw_or1 (pt_not (pt_val (pe_cc c_is_table (hr.mono (by omega)) (pa_cons (pv 4) (pa_cons (pe_callB (r := rLenS K) call_lenS (by rfl) T.n_len (by decide +kernel) (pa_cons (pv 2) pa_nil)) pa_nil)))))))) (pss_one (ps_ret pe_bl)) pss_nil)))
      (pss_one (ps_ret pe_bl))))))), ?_⟩
    walk_at "op"
    walk_at "st"
    refine ⟨_, _, _, _, _, rfl, .ty _, hd.ty, kit_ty (kit_tuple d), ?_⟩
    walk_at "st"
    by_cases ht : isTu d = true
    · obtain ⟨ds, rfl⟩ := isTu_iff.mp ht
      obtain ⟨a, xs, rfl, ha, _, hs⟩ := hd.isTup
      refine iteF ?_
      walk_at "st"
      refine ⟨_, _, rfl, .inr (SqT.of ha), ?_⟩
      walk_at "st"
      by_cases hlo : 1 ≤ xs.length ∧ xs.length ≤ 4
      · rw [decide_eq_true (show (1 : Int) ≤ (xs.length : Int) by omega)]
        refine iteT ?_
        walk_at "st"
        rw [decide_eq_true (show (xs.length : Int) ≤ 4 by omega)]
        refine iteF ?_
        walk_at "st"
        refine ⟨⟨_, SqT.of ha⟩, fT (xs := xs) (fun i σ H' => H' = H ∧ (∃ u, σ = [some (.ref a), u, none, none, none]) ∧ ∀ j e, j < i → ds[j]? = some e → ∃ es, e = .tuple es ∧ es.length = 2)
          ⟨rfl, ⟨none, rfl⟩, fun j e hj => absurd hj (Nat.not_lt_zero j)⟩ (fun i σ H' _ ⟨e, _⟩ => by rw [e]; exact SqT.of ha) ?_ ?_⟩
        · rintro i x σ H' hx ⟨rfl, ⟨u, rfl⟩, hi⟩
          obtain ⟨e, he, hde⟩ := hs.at hx
          walk_at "op"
          walk_at "st"
          refine ⟨x, 2, p, e, rfl, hde, fun b hb => ?_⟩
          walk_at "st"
          cases b with
          | false =>
            refine iteT (k false ⟨fun z => Bool.noConfusion z, fun ⟨m, n, fs, e1, _, _, _, _, _, h3⟩ => ?_⟩)
            cases e1
            obtain ⟨s1, u1, e2, _⟩ := h3 e (List.mem_of_getElem? he)
            exact hb.mpr ⟨_, e2, rfl⟩
          | true =>
            refine iteF ⟨rfl, ⟨_, rfl⟩, fun j e' hj he' => ?_⟩
            by_cases hji : j = i
            · subst hji
              rw [he] at he'
              cases he'
              obtain ⟨es, e1, e2⟩ := hb.mp rfl
              exact ⟨es, e1, by omega⟩
            · exact hi j e' (by omega) he'
        · rintro σ H' ⟨rfl, ⟨u, rfl⟩, hi⟩
          have hpair : ∀ (j : Nat) (e : PyData), ds[j]? = some e → ∃ s1 u1, e = .tuple [s1, u1] := fun j e he => by
            obtain ⟨es, e1, e2⟩ := hi j e (by rw [hs.1]; exact (List.getElem?_eq_some_iff.mp he).1) he
            match es, e2 with
            | [s1, u1], _ => exact ⟨s1, u1, e1⟩
          have hd0 : ds[0]? = some ds[0] := List.getElem?_eq_getElem (by rw [← hs.1]; omega)
          obtain ⟨s0, u0, e0⟩ := hpair 0 _ hd0
          rw [e0] at hd0
          obtain ⟨x0, hx0, hdx0⟩ := hs.back hd0
          obtain ⟨a0, y0, rfl, ha0, _, hs0⟩ := hdx0.isTup
          obtain ⟨z0, hz0, hdz0⟩ := hs0.back (i := 0) (d := s0) rfl
          walk_at "op"
          walk_at "st"
          refine ⟨_, _, _, _, rfl, rfl, SqT.of ha, atI_nat (j := 0) hx0, ?_⟩
          walk_at "st"
          refine ⟨_, _, _, _, rfl, rfl, SqT.of ha0, atI_nat (j := 0) hz0, ?_⟩
          walk_at "st"
          refine ⟨_, _, _, _, _, rfl, .ty _, hdz0.ty, kit_ty (kit_tuple s0), ?_⟩
          walk_at "st"
          have hfirst : ∀ m n, HouseN m n (.tuple ds) → TabD m s0 := fun m n ⟨fs, e1, _, _, _, _, _, h3⟩ => by
            cases e1
            obtain ⟨s1, u1, e2, h4, _⟩ := h3 _ (List.mem_of_getElem? hd0)
            cases e2
            exact h4
          by_cases ht0 : isTu s0 = true
          · obtain ⟨es0, rfl⟩ := isTu_iff.mp ht0
            obtain ⟨af, yf, rfl, haf, _, hsf⟩ := hdz0.isTup
            refine iteF ?_
            walk_at "st"
            refine ⟨_, _, rfl, .inr (SqT.of haf), ?_⟩
            walk_at "st"
            have hm0 : ∀ m n, HouseN m n (.tuple ds) → m = yf.length ∧ 1 ≤ m ∧ m ≤ 6 := fun m n hN => by
              obtain ⟨rs, e1, e2, _⟩ := hfirst m n hN
              cases e1
              obtain ⟨_, _, _, _, _, q1, q2, _⟩ := hN
              exact ⟨by rw [hsf.1, e2], q1, q2⟩
            by_cases hm1 : 1 ≤ yf.length ∧ yf.length ≤ 6
            · rw [decide_eq_true (show (1 : Int) ≤ (yf.length : Int) by omega)]
              refine iteT ?_
              walk_at "st"
              rw [decide_eq_true (show (yf.length : Int) ≤ 6 by omega)]
              refine iteF ?_
              walk_at "st"
              refine ⟨⟨_, SqT.of ha⟩, fT (xs := xs) (fun i σ H1 => H1 = H' ∧ (∃ u1 u2 u3, σ = [some (.ref a), u1, some (.ref af), u2, u3]) ∧ ∀ j e, j < i → ds[j]? = some e → FloorD yf.length e)
                ⟨rfl, ⟨_, _, _, rfl⟩, fun j e hj => absurd hj (Nat.not_lt_zero j)⟩ (fun i σ H1 _ ⟨e, _⟩ => by rw [e]; exact SqT.of ha) ?_ ?_⟩
              · rintro i x σ H1 hx ⟨rfl, ⟨u1, u2, u3, rfl⟩, hfl⟩
                obtain ⟨e, he, hde⟩ := hs.at hx
                obtain ⟨s1, v1, rfl⟩ := hpair i e he
                obtain ⟨ai, yi, rfl, hai, _, hsi⟩ := hde.isTup
                have hlen : yi.length = 2 := hsi.1
                match yi, hlen with
                | [w1, w2], _ =>
                have hw1 : Dat H1 p w1 s1 := hsi.2 0 w1 s1 rfl rfl
                have hw2 : Dat H1 p w2 v1 := hsi.2 1 w2 v1 rfl rfl
                walk_at "op"
                refine ⟨ai, _, rfl, SqT.of hai, rfl, _, _, rfl, _, _, rfl, rfl, ?_⟩
                walk_at "op"
                walk_at "st"
                refine ⟨_, _, rfl, .inr (SqT.of haf), ?_⟩
                refine ⟨w1, yf.length, p, s1, rfl, by omega, hw1, fun b1 hb1 => ?_⟩
                walk_at "st"
                cases b1 with
                | false =>
                  refine iteT (iteT (k false ⟨fun z => Bool.noConfusion z, fun ⟨m, n, hN⟩ => ?_⟩))
                  obtain ⟨rfl, _, _⟩ := hm0 m n hN
                  obtain ⟨fs, e1, _, _, _, _, _, h3⟩ := hN
                  cases e1
                  obtain ⟨s2, v2, e2, h4, _⟩ := h3 _ (List.mem_of_getElem? he)
                  cases e2
                  exact hb1.mpr h4
                | true =>
                  refine iteF ?_
                  walk_at "st"
                  refine ⟨_, _, rfl, .inr (SqT.of haf), ?_⟩
                  refine ⟨w2, yf.length, p, v1, rfl, by omega, hw2, fun b2 hb2 => ?_⟩
                  walk_at "st"
                  cases b2 with
                  | false =>
                    refine iteT (k false ⟨fun z => Bool.noConfusion z, fun ⟨m, n, hN⟩ => ?_⟩)
                    obtain ⟨rfl, _, _⟩ := hm0 m n hN
                    obtain ⟨fs, e1, _, _, _, _, _, h3⟩ := hN
                    cases e1
                    obtain ⟨s2, v2, e2, _, h4⟩ := h3 _ (List.mem_of_getElem? he)
                    cases e2
                    exact hb2.mpr h4
                  | true =>
                    refine iteF ⟨rfl, ⟨_, _, _, rfl⟩, fun j e' hj he' => ?_⟩
                    by_cases hji : j = i
                    · subst hji
                      rw [he] at he'
                      cases he'
                      exact ⟨s1, v1, rfl, hb1.mp rfl, hb2.mp rfl⟩
                    · exact hfl j e' (by omega) he'
              · rintro σ H1 ⟨rfl, _, hfl⟩
                walk_at "op"
                refine k true ⟨fun _ => ⟨yf.length, xs.length, ds, rfl, hs.1.symm, hlo.1, hlo.2, hm1.1, hm1.2, fun e he => ?_⟩, fun _ => rfl⟩
                obtain ⟨j, hj⟩ := List.getElem?_of_mem he
                exact hfl j e (by rw [hs.1]; exact (List.getElem?_eq_some_iff.mp hj).1) hj
            · have no : ¬ HouseD (.tuple ds) := fun ⟨m, n, hN⟩ => by
                obtain ⟨e1, q1, q2⟩ := hm0 m n hN
                exact hm1 (by omega)
              by_cases h1 : 1 ≤ yf.length
              · rw [decide_eq_true (show (1 : Int) ≤ (yf.length : Int) by omega)]
                refine iteT ?_
                walk_at "st"
                rw [decide_eq_false (show ¬ (yf.length : Int) ≤ 6 by omega)]
                exact iteT (k false ⟨fun z => Bool.noConfusion z, fun z => (no z).elim⟩)
              · rw [decide_eq_false (show ¬ (1 : Int) ≤ (yf.length : Int) by omega)]
                refine iteF ?_
                walk_at "st"
                exact iteT (k false ⟨fun z => Bool.noConfusion z, fun z => (no z).elim⟩)
          · have no : ¬ HouseD (.tuple ds) := fun ⟨m, n, hN⟩ => by
              obtain ⟨rs, e1, _⟩ := hfirst m n hN
              exact ht0 (isTu_iff.mpr ⟨rs, e1⟩)
            rw [Bool.eq_false_iff.mpr ht0]
            exact iteT (iteT (k false ⟨fun z => Bool.noConfusion z, fun z => (no z).elim⟩))
      · have no : ¬ HouseD (.tuple ds) := fun ⟨m, n, fs, e1, e2, q1, q2, _⟩ => by
          cases e1
          exact hlo (by rw [hs.1]; omega)
        by_cases h1 : 1 ≤ xs.length
        · rw [decide_eq_true (show (1 : Int) ≤ (xs.length : Int) by omega)]
          refine iteT ?_
          walk_at "st"
          rw [decide_eq_false (show ¬ (xs.length : Int) ≤ 4 by omega)]
          exact iteT (k false ⟨fun z => Bool.noConfusion z, fun z => (no z).elim⟩)
        · rw [decide_eq_false (show ¬ (1 : Int) ≤ (xs.length : Int) by omega)]
          refine iteF ?_
          walk_at "st"
          exact iteT (k false ⟨fun z => Bool.noConfusion z, fun z => (no z).elim⟩)
    · have no : ¬ HouseD d := fun ⟨m, n, fs, e1, _⟩ => ht (isTu_iff.mpr ⟨fs, e1⟩)
      rw [Bool.eq_false_iff.mpr ht]
      exact iteT (iteT (k false ⟨fun z => Bool.noConfusion z, fun z => (no z).elim⟩))
end
end Fm
end FQ3
section FR4
set_option Elab.async false
set_option linter.all false
set_option maxRecDepth 100000
set_option maxHeartbeats 4000000
local macro_rules | `(tactic| walk_at "ne") => `(tactic| first | assumption | (apply Ne.symm; assumption) | exact L2.ne_of_none (by assumption) (by assumption) | exact Ne.symm (L2.ne_of_none (by assumption) (by assumption)))
local macro_rules | `(tactic| walk_at "hl") => `(tactic| first | assumption | exact L2.upd_same | (refine Eq.trans (L2.upd_ne (by walk_at "ne")) ?_; walk_at "hl"))
local macro_rules | `(tactic| walk_at "sd") => `(tactic| first | (with_reducible show (_ : Int) < _; omega) | (with_reducible show (_ : Int) ≤ _; omega) | assumption | decide | exact ⟨by assumption, by assumption⟩ | exact ⟨by decide, by decide⟩ | exact Or.inr ⟨by decide, by decide⟩ | exact Or.inl ⟨by omega, by omega⟩ | rfl)
local macro_rules | `(tactic| walk_at "st1") => `(tactic| first
  | refine ⟨_, rfl, ?_⟩
  | refine ⟨_, _, rfl, rfl, ?_⟩
  | refine ⟨_, _, rfl, ?_⟩
  | (refine ⟨_, _, _, _, rfl, rfl, L2.SqL.of (by walk_at "hl"), rfl, ?_⟩)
  | (refine ⟨_, _, _, _, rfl, rfl, L2.SqT.of (by walk_at "hl"), rfl, ?_⟩)
  | (refine ⟨_, _, _, _, rfl, rfl, (by walk_at "hl"), rfl, ?_⟩)
  | (refine And.intro (by walk_at "sd") ?_)
  )
local macro_rules | `(tactic| walk_at "st") => `(tactic| repeat walk_at "st1")
local macro_rules | `(tactic| walk_at "op") => `(tactic| try dsimp only [L2.tSeq, L2.tAsg, L2.tOp, L2.tVar, L2.tC, L2.gSub, L2.rI, L2.rI0, L2.rIxL, L2.rIxT, L2.rSetL, L2.tIfS, L2.tTest, L2.tRet, L2.gName, L2.tNext, L2.tAnd, L2.tOr, L2.tNot, L2.tAndV, L2.tOrV, L2.tNotV, L2.tB, L2.tCB, L2.tCons, L2.tNil, L2.tCall, L2.tTup, L2.tLst, L2.tChain, L2.tUn, L2.tPar, L2.tDrop, L2.tIf, L2.tBM, L2.tBM0, L2.rAppend, L2.rCat, L2.rIsi, L2.rIsiT, L2.gTup, L2.gCons, L2.gNil, Fm.tFor_eq, Fm.tLc_eq, L2.iTup, L2.iList, L2.iRng1, L2.iRng2, L2.tSl, L2.tPart, L2.tNoPart, L2.rSlL, L2.rEq, L2.rNe, L2.rU, L2.rEqD, L2.rNeD, Fm.tRevT, Fm.rLenS, Fm.rTupOf, Fm.rLstOf, L2.tDNewK, L2.tCallS, L2.WE, Fm.wKeep, Fm.rIsK, Fm.rIsKT, List.cons_append, List.nil_append, L2.tYes])
namespace Fm
open PySem PySem.Spec PyProof.Rows L2
abbrev s_size : Stmt := top 14
abbrev N_size : List Str := ["house"]
theorem sc_size : FnScope N_size ["house"] (defScope s_size) := ⟨rfl, rfl, rfl, by decide +kernel, rfl, by decide +kernel, by decide +kernel⟩
section
variable {P : Program} {w : World} {K : PySem.W.Frag} {mg : Str → Option Value} {base : Heap}
theorem ok_size (D : Df K mg "size" s_size ["house"]) (T : Nms mg) {C M : Addr} (EX : Exn K mg "NoHouse" C M) (c_is_house : CallOk P w K mg base CX0 5 "is_house" ["thing"] spHouse) : CallOk P w K mg base (L2.CX P w) 6 "size" ["house"] (spSize C) := by
  refine df_okX D sc_size (fun vs H Q E h => ?_) (fun f cdv A outer s H vs Q E hr h => ?_)
  · obtain ⟨v, p, d, rfl, _⟩ := h
    rfl
  · obtain ⟨v, p, d, rfl, hd, k1, k2⟩ := h
    have nd := sc_size.nd
    refine ⟨_, (pss_cons (ps_if (pt_not (pt_val (pe_cc c_is_house (hr.mono (by omega)) (pa_cons (pv 0) pa_nil)))) (pss_one (ps_raiseE rfl (takes_of rfl rfl rfl rfl) EX rfl)) pss_nil)
      (pss_one (ps_ret (pe_tup (pa_cons (pe_callB (r := rLenS K) call_lenS (by rfl) T.n_len (by decide +kernel) (pa_cons (pe_ix (r := rIxT K) ix_tup (pe_ix (r := rIxT K) ix_tup (pv 0) pe_int (fun _ _ => rfl)) pe_int (fun _ _ => rfl)) pa_nil)) (pa_cons (pe_callB (r := rLenS K) call_lenS (by rfl) T.n_len (by decide +kernel) (pa_cons (pv 0) pa_nil)) pa_nil)))))), ?_⟩
    walk_at "op"
    walk_at "st"
    refine ⟨v, p, d, rfl, hd, fun b hb => ?_⟩
    walk_at "st"
    cases b with
    | false => exact iteT (k2 fun z => Bool.noConfusion (hb.mpr z))
    | true =>
      obtain ⟨m, n, hN⟩ := hb.mp rfl
      obtain ⟨fs, rfl, hl, h1, _, _, _, hf⟩ := id hN
      obtain ⟨a, xs, rfl, ha, _, hs⟩ := hd.isTup
      have hd0 : fs[0]? = some fs[0] := List.getElem?_eq_getElem (by omega)
      obtain ⟨s0, u0, e0, ⟨rs, e1, e2, _⟩, _⟩ := hf fs[0] (List.getElem_mem _)
      rw [e0] at hd0
      subst e1
      obtain ⟨x0, hx0, hdx0⟩ := hs.back hd0
      obtain ⟨a0, y0, rfl, ha0, _, hs0⟩ := hdx0.isTup
      obtain ⟨z0, hz0, hdz0⟩ := hs0.back (i := 0) rfl
      obtain ⟨af, yf, rfl, haf, _, hsf⟩ := hdz0.isTup
      refine iteF ?_
      walk_at "op"
      walk_at "st"
      refine ⟨_, _, _, _, rfl, rfl, SqT.of ha, atI_nat (j := 0) hx0, ?_⟩
      walk_at "st"
      refine ⟨_, _, _, _, rfl, rfl, SqT.of ha0, atI_nat (j := 0) hz0, ?_⟩
      refine ⟨_, _, rfl, .inr (SqT.of haf), ?_⟩
      walk_at "st"
      refine ⟨_, _, rfl, .inr (SqT.of ha), ?_⟩
      refine ⟨by show 2 ≤ sizeLine; decide, fun q hq => ?_⟩
      refine k1 m n hN q _ hq ?_ (same_new hq)
      rw [upd_same, hsf.1, e2, hs.1, hl]
end
end Fm
end FR4
section FQ5
set_option Elab.async false
set_option linter.all false
set_option maxRecDepth 100000
set_option maxHeartbeats 4000000
local macro_rules | `(tactic| walk_at "ne") => `(tactic| first | assumption | (apply Ne.symm; assumption) | exact L2.ne_of_none (by assumption) (by assumption) | exact Ne.symm (L2.ne_of_none (by assumption) (by assumption)))
local macro_rules | `(tactic| walk_at "hl") => `(tactic| first | assumption | exact L2.upd_same | (refine Eq.trans (L2.upd_ne (by walk_at "ne")) ?_; walk_at "hl"))
local macro_rules | `(tactic| walk_at "sd") => `(tactic| first | (with_reducible show (_ : Int) < _; omega) | (with_reducible show (_ : Int) ≤ _; omega) | assumption | decide | exact ⟨by assumption, by assumption⟩ | exact ⟨by decide, by decide⟩ | exact Or.inr ⟨by decide, by decide⟩ | exact Or.inl ⟨by omega, by omega⟩ | rfl)
local macro_rules | `(tactic| walk_at "st1") => `(tactic| first
  | refine ⟨_, rfl, ?_⟩
  | refine ⟨_, _, rfl, rfl, ?_⟩
  | refine ⟨_, _, rfl, ?_⟩
  | (refine ⟨_, _, _, _, rfl, rfl, L2.SqL.of (by walk_at "hl"), rfl, ?_⟩)
  | (refine ⟨_, _, _, _, rfl, rfl, L2.SqT.of (by walk_at "hl"), rfl, ?_⟩)
  | (refine ⟨_, _, _, _, rfl, rfl, (by walk_at "hl"), rfl, ?_⟩)
  | (refine And.intro (by walk_at "sd") ?_)
  )
local macro_rules | `(tactic| walk_at "st") => `(tactic| repeat walk_at "st1")
local macro_rules | `(tactic| walk_at "op") => `(tactic| try dsimp only [L2.tSeq, L2.tAsg, L2.tOp, L2.tVar, L2.tC, L2.gSub, L2.rI, L2.rI0, L2.rIxL, L2.rIxT, L2.rSetL, L2.tIfS, L2.tTest, L2.tRet, L2.gName, L2.tNext, L2.tAnd, L2.tOr, L2.tNot, L2.tAndV, L2.tOrV, L2.tNotV, L2.tB, L2.tCB, L2.tCons, L2.tNil, L2.tCall, L2.tTup, L2.tLst, L2.tChain, L2.tUn, L2.tPar, L2.tDrop, L2.tIf, L2.tBM, L2.tBM0, L2.rAppend, L2.rCat, L2.rIsi, L2.rIsiT, L2.gTup, L2.gCons, L2.gNil, Fm.tFor_eq, Fm.tLc_eq, L2.iTup, L2.iList, L2.iRng1, L2.iRng2, L2.tSl, L2.tPart, L2.tNoPart, L2.rSlL, L2.rEq, L2.rNe, L2.rU, L2.rEqD, L2.rNeD, Fm.tRevT, Fm.rLenS, Fm.rTupOf, Fm.rLstOf, L2.tDNewK, L2.tCallS, L2.WE, Fm.wKeep, Fm.rIsK, Fm.rIsKT, List.cons_append, List.nil_append, L2.tYes])
namespace Fm
open PySem PySem.Spec PyProof.Rows L2
abbrev s_law_bag : Stmt := top 27
abbrev N_law_bag : List Str := ["cell"]
theorem sc_law_bag : FnScope N_law_bag ["cell"] (defScope s_law_bag) := ⟨rfl, rfl, rfl, by decide +kernel, rfl, by decide +kernel, by decide +kernel⟩
abbrev s_law_pick : Stmt := top 28
abbrev N_law_pick : List Str := ["bag", "many", "told", "first", "second"]
theorem sc_law_pick : FnScope N_law_pick ["bag", "many"] (defScope s_law_pick) := ⟨rfl, rfl, rfl, by decide +kernel, rfl, by decide +kernel, by decide +kernel⟩
abbrev s_law_table : Stmt := top 29
abbrev N_law_table : List Str := ["bag", "m", "way", "free", "k", "rows", "a", "row", "b", "least", "most", "some"]
theorem sc_law_table : FnScope N_law_table ["bag", "m"] (defScope s_law_table) := ⟨rfl, rfl, rfl, by decide +kernel, rfl, by decide +kernel, by decide +kernel⟩
section
variable {P : Program} {w : World} {K : PySem.W.Frag} {mg : Str → Option Value} {base : Heap}
theorem atI_of {xs : List V} {i : Int} {v : V} (h0 : 0 ≤ i) (h : xs[i.toNat]? = some v) : atI xs i = some v := by
  have e := atI_nat h
  rw [Int.toNat_of_nonneg h0] at e
  exact e
theorem ok_law_bag (D : Df K mg "_law_bag" s_law_bag ["cell"]) (T : Nms mg) : CallOk P w K mg base CX0 1 "_law_bag" ["cell"] spBag := by
  refine df_ok D sc_law_bag (fun vs H Q E h => ?_) (fun f cdv A outer s H vs Q E hr h => ?_)
  · obtain ⟨c, rfl, _⟩ := h
    rfl
  · obtain ⟨c, rfl, k⟩ := h
    have nd := sc_law_bag.nd
    refine ⟨_, (pss_one (ps_ret (pe_lst (pa_cons (pe_callB (call_max2 rfl) (by rfl) T.n_max (by decide +kernel) (pa_cons pe_int (pa_cons (pe_op op_sub (pv 0) (pe_op op_pow pe_int pe_int)) pa_nil))) (pa_cons (pv 0) (pa_cons pe_int pa_nil)))))), ?_⟩
    walk_at "op"
    walk_at "st"
    refine ⟨by show 3 ≤ sizeLine; decide, fun q hq => ?_⟩
    exact k q _ hq ⟨_, _, _, upd_same⟩ (same_new hq)
theorem ok_law_pick (D : Df K mg "_law_pick" s_law_pick ["bag", "many"]) (T : Nms mg) : CallOk P w K mg base CX0 1 "_law_pick" ["bag", "many"] spPick := by
  refine df_ok D sc_law_pick (fun vs H Q E h => ?_) (fun f cdv A outer s H vs Q E hr h => ?_)
  · obtain ⟨p, m, rfl, _⟩ := h
    rfl
  · obtain ⟨p, m, rfl, m0, ml, ⟨x, y, c, hp⟩, k⟩ := h
    have nd := sc_law_pick.nd
    refine ⟨_, (pss_cons (ps_asg (pe_op op_add (pe_ix (r := rIxL K) ix_list (pv 0) pe_int (fun _ _ => rfl)) pe_int) (pg_sub (pv 0) pe_int set_list))
      (pss_cons (ps_if (pt_cmpR op_gt (pe_ix (r := rIxL K) ix_list (pv 0) pe_int (fun _ _ => rfl)) pe_int (nomark _)) (pss_cons (ps_set (i := 2) nd rfl (Or.inl rfl) (pe_op op_mod (pe_ix (r := rIxL K) ix_list (pv 0) pe_int (fun _ _ => rfl)) (pv 1)))
      (pss_cons (ps_asg (pe_op op_fdivW (pe_ix (r := rIxL K) ix_list (pv 0) pe_int (fun _ _ => rfl)) (pv 1)) (pg_sub (pv 0) pe_int set_list))
      (pss_one (ps_ret (pv 2))))) pss_nil)
      (pss_cons (ps_set (i := 3) nd rfl (Or.inl rfl) (pe_op op_mod (pe_op op_add (pe_op op_add (pe_op op_mul (pe_op op_mod (pe_ix (r := rIxL K) ix_list (pv 0) pe_int (fun _ _ => rfl)) pe_int) pe_int) (pe_op op_mul (pe_ix (r := rIxL K) ix_list (pv 0) pe_int (fun _ _ => rfl)) pe_int)) pe_int) pe_int))
      (pss_cons (ps_set (i := 4) nd rfl (Or.inl rfl) (pe_op op_mod (pe_op op_add (pe_op op_mul (pv 3) (pv 3)) (pe_op op_mul (pe_ix (r := rIxL K) ix_list (pv 0) pe_int (fun _ _ => rfl)) pe_int)) pe_int))
      (pss_one (ps_ret (pe_op op_mod (pe_op op_fdivW (pe_op op_add (pe_op op_mul (pv 3) pe_int) (pv 4)) pe_int) (pv 1)))))))), ?_⟩
    walk_at "op"
    walk_at "st"
    refine ite2 (fun c0 => ?_) (fun c0 => ?_)
    · walk_at "st"
      refine k _ _ (Int.emod_nonneg _ (by omega)) (Int.emod_lt_of_pos _ m0) ⟨_, _, _, upd_same⟩ (ext_at.trans ext_at)
    · walk_at "st"
      refine k _ _ (Int.emod_nonneg _ (by omega)) (Int.emod_lt_of_pos _ m0) ⟨_, _, _, upd_same⟩ ext_at
/-- the seven ways of a table's number -/
def ways7 (fs : List Int) (m a b : Int) : List Int :=
  let lo := if b < a then b else a
  let hi := if b > a then b else a
  [fs.getD (lo * 6 + hi).toNat 0, hi, lo, (a + b) % m, if m - 1 < a + b then m - 1 else a + b, fs.getD 0 0, a * b % m]
theorem ways7_comm (fs : List Int) (m a b : Int) : ways7 fs m a b = ways7 fs m b a := by
  have e1 : (if b < a then b else a) = if a < b then a else b := by split <;> split <;> omega
  have e2 : (if b > a then b else a) = if a > b then a else b := by split <;> split <;> omega
  unfold ways7
  rw [e1, e2, Int.add_comm b a, Int.mul_comm b a]
theorem ways7_in {fs : List Int} {m : Nat} {a b : Nat} (hf : ∀ f ∈ fs, 0 ≤ f ∧ f < (m : Int)) (hl : fs.length = 36) (hm : m ≤ 6) (ha : a < m) (hb : b < m) : ∀ e ∈ ways7 fs m a b, 0 ≤ e ∧ e < (m : Int) := by
  have gd : ∀ i, i < 36 → 0 ≤ fs.getD i 0 ∧ fs.getD i 0 < (m : Int) := fun i hi => by
    rw [List.getD_eq_getElem?_getD, List.getElem?_eq_getElem (show i < fs.length by omega), Option.getD_some]
    exact hf _ (List.getElem_mem _)
  intro e he
  unfold ways7 at he
  simp only [List.mem_cons, List.not_mem_nil, or_false] at he
  have m0 : (0 : Int) < m := by omega
  rcases he with rfl | rfl | rfl | rfl | rfl | rfl | rfl
  · apply gd
    split <;> split <;> omega
  · split <;> omega
  · split <;> omega
  · exact ⟨Int.emod_nonneg _ (by omega), Int.emod_lt_of_pos _ m0⟩
  · split <;> omega
  · exact gd 0 (by omega)
  · exact ⟨Int.emod_nonneg _ (by omega), Int.emod_lt_of_pos _ m0⟩
def spTab : Sp := fun vs H Q _ => ∃ (p : Addr) (m : Nat), vs = [.ref p, .int m] ∧ 1 ≤ m ∧ m ≤ 6 ∧ Bag H p ∧ ∀ (v : V) (d : PyData) (H' : Hp), Bag H' p → Ext p H H' → Dat H' p v d → TabD m d → Q v H'
/-- rows made by a function of two places -/
theorem tab_of {m : Nat} {G : Nat → Nat → Int} (hs : ∀ a b, G a b = G b a) (hb : ∀ a b, a < m → b < m → 0 ≤ G a b ∧ G a b < (m : Int)) :
    TabD m (.tuple ((List.range m).map fun a => .tuple ((List.range m).map fun b => .int (G a b)))) := by
  refine ⟨_, rfl, by simp, fun r hr => ?_, fun a b ha hb => ?_⟩
  · obtain ⟨a, ha, rfl⟩ := List.mem_map.mp hr
    refine ⟨_, rfl, by simp, fun e he => ?_⟩
    obtain ⟨b, hb', rfl⟩ := List.mem_map.mp he
    exact ⟨_, rfl, hb a b (List.mem_range.mp ha) (List.mem_range.mp hb')⟩
  · have c : ∀ x y, x < m → y < m → cellD ((List.range m).map fun a => PyData.tuple ((List.range m).map fun b => .int (G a b))) x y = .int (G x y) := fun x y hx hy => by
      unfold cellD
      simp [hx, hy]
    rw [c a b ha hb, c b a hb ha, hs]
theorem range_snoc {α : Type} (f : Nat → α) (n : Nat) : (List.range (n + 1)).map f = (List.range n).map f ++ [f n] := by
  rw [List.range_succ, List.map_append]
  rfl
theorem Ext.off {H H' : Hp} {p L : Addr} {o : HO} (e : Ext p H H') (h : H L = none) : Ext p H (upd H' L o) := fun b u eb n => by
  rw [upd_ne (ne_of_none eb h)]
  exact e b u eb n
theorem Bag.up {H : Hp} {p L : Addr} {o : HO} (h : Bag H p) (n : p ≠ L) : Bag (upd H L o) p := by
  obtain ⟨x, y, c, q⟩ := h
  exact ⟨x, y, c, by rw [upd_ne n]; exact q⟩
theorem Bag.ne {H : Hp} {p L : Addr} (h : Bag H p) (n : H L = none) : p ≠ L := by
  obtain ⟨x, y, c, q⟩ := h
  exact ne_of_none q n
theorem Bag.here {H : Hp} {p : Addr} (h : Bag H p) : ∃ u, H p = some u := by
  obtain ⟨x, y, c, q⟩ := h
  exact ⟨_, q⟩
theorem ext_new {H : Hp} {p L : Addr} {o : HO} (h : H L = none) : Ext p H (upd H L o) := fun b u eb _ => by
  rw [upd_ne (ne_of_none eb h)]
  exact eb
theorem len_le {n : Nat} (h : n ≤ 1000) : n ≤ sizeLine := Nat.le_of_lt (small1000 h)
/-- what both makers of tables share: the rows so far -/
def RowsAt (H : Hp) (p R : Addr) (m a : Nat) (G : Nat → Nat → Int) : Prop :=
  ∃ xs, H R = some (.lst xs) ∧ Dats H p xs ((List.range a).map fun x => .tuple ((List.range m).map fun y => .int (G x y)))
def RowAt (H : Hp) (W : Addr) (a b : Nat) (G : Nat → Nat → Int) : Prop := H W = some (.lst (((List.range b).map fun y => G a y).map V.int))
theorem Ext.free {H H' : Hp} {p S : Addr} (e : Ext p H H') (n : S ≠ p) (h : H' S = none) : H S = none := by
  cases q : H S with
  | none => rfl
  | some u =>
    rw [e S u q n] at h
    cases h
theorem Dat.setL {H : Hp} {p R : Addr} {xs ys : List V} {v : V} {d : PyData} (hR : H R = some (.lst xs)) (h : Dat H p v d) : noList d = true → Dat (upd H R (.lst ys)) p v d := by
  induction h with
  | non => exact fun _ => .non
  | bl b => exact fun _ => .bl b
  | int i => exact fun _ => .int i
  | str x => exact fun _ => .str x
  | tup h1 h2 h3 h4 ih => exact fun hn => .tup (by rw [upd_ne (ne_of h1 hR (by intro z; cases z))]; exact h1) h2 h3 fun i x d a b => ih i x d a b (noList_tup hn d (List.mem_of_getElem? b))
  | lst h1 h2 h3 h4 ih => exact fun hn => by unfold noList at hn; cases hn
  | dct h1 h2 => exact fun _ => .dct (by rw [upd_ne (ne_of h1 hR (by intro z; cases z))]; exact h1) h2
theorem Dats.setL {H : Hp} {p R : Addr} {xs ys zs : List V} {ds : List PyData} (hR : H R = some (.lst xs)) (h : Dats H p zs ds) (hn : ∀ d ∈ ds, noList d = true) : Dats (upd H R (.lst ys)) p zs ds :=
  ⟨h.1, fun i x d a b => (h.2 i x d a b).setL hR (hn d (List.mem_of_getElem? b))⟩
theorem noList_ints {α : Type} (l : List α) (f : α → Int) : noList (.tuple (l.map fun x => .int (f x))) = true := noList_of fun d hd => by
  obtain ⟨x, _, rfl⟩ := List.mem_map.mp hd
  unfold noList
  rfl
theorem fs_at {fs : List Int} {i : Nat} (h : i < fs.length) : (fs.map V.int)[i]? = some (.int (fs.getD i 0)) := by
  rw [List.getElem?_map, List.getElem?_eq_getElem h, List.getD_eq_getElem?_getD, List.getElem?_eq_getElem h]
  rfl
theorem ok_law_table (D : Df K mg "_law_table" s_law_table ["bag", "m"]) (T : Nms mg) (c_law_pick : CallOk P w K mg base CX0 1 "_law_pick" ["bag", "many"] spPick) : CallOk P w K mg base CX0 2 "_law_table" ["bag", "m"] spTab := by
  refine df_ok D sc_law_table (fun vs H Q E h => ?_) (fun f cdv A outer s H vs Q E hr h => ?_)
  · obtain ⟨p, m, rfl, _⟩ := h
    rfl
  · obtain ⟨p, m, rfl, hm1, hm6, hB, k⟩ := h
    have nd := sc_law_table.nd
    have ml : (m : Int).natAbs.log2 < 9000 := Nat.lt_of_le_of_lt (Nat.log2_le_self _) (by omega)
    refine ⟨_, (pss_cons (ps_set (i := 2) nd rfl (Or.inl rfl) (pe_cc c_law_pick (hr.mono (by omega)) (pa_cons (pv 0) (pa_cons pe_int pa_nil))))
      (pss_cons (ps_setLc (i := 3) (own := [("k", 4)]) (g := (gName 4)) (tt := tYes) (by rfl) nd rfl rfl (sw_true rfl rfl rfl (by decide +kernel)) (pi_range1 rfl T.n_range (pa_cons pe_int pa_nil)) (blkOk_by (own := [("k", 4)]) (N := N_law_table) (sc := defScope s_law_table) (by decide +kernel)) (fun _ _ _ _ _ => (pg_name (i := 4) nd rfl (Or.inl rfl))) (fun _ _ _ _ _ => pts_nil) (fun _ _ _ _ _ => (pe_cc c_law_pick (hr.mono (by omega)) (pa_cons (pv 0) (pa_cons (pv 1) pa_nil)))))
      (pss_cons (ps_set (i := 5) nd rfl (Or.inl rfl) (pe_lst pa_nil))
      (pss_cons (ps_for PassesOwn.never rfl (pi_range1 rfl T.n_range (pa_cons (pv 1) pa_nil)) (pg_name (i := 6) nd rfl (Or.inl rfl)) (pss_cons (ps_set (i := 7) nd rfl (Or.inl rfl) (pe_lst pa_nil))
      (pss_cons (ps_for PassesOwn.never rfl (pi_range1 rfl T.n_range (pa_cons (pv 1) pa_nil)) (pg_name (i := 8) nd rfl (Or.inl rfl)) (pss_cons (ps_par (i := 9) (j := 10) (by rfl) nd rfl rfl (by decide) rfl rfl (pa_cons (pe_callB (call_min2 rfl) (by rfl) T.n_min (by decide +kernel) (pa_cons (pv 6) (pa_cons (pv 8) pa_nil))) (pa_cons (pe_callB (call_max2 rfl) (by rfl) T.n_max (by decide +kernel) (pa_cons (pv 6) (pa_cons (pv 8) pa_nil))) pa_nil)) (by rfl))
      (pss_cons (ps_set (i := 11) nd rfl (Or.inl rfl) (pe_lst (pa_cons (pe_ix (r := rIxL K) ix_list (pv 3) (pe_op op_add (pe_op op_mul (pv 9) pe_int) (pv 10)) (fun _ _ => rfl)) (pa_cons (pv 10) (pa_cons (pv 9) (pa_cons (pe_op op_mod (pe_op op_add (pv 6) (pv 8)) (pv 1)) (pa_cons (pe_callB (call_min2 rfl) (by rfl) T.n_min (by decide +kernel) (pa_cons (pe_op op_add (pv 6) (pv 8)) (pa_cons (pe_op op_sub (pv 1) pe_int) pa_nil))) (pa_cons (pe_ix (r := rIxL K) ix_list (pv 3) pe_int (fun _ _ => rfl)) (pa_cons (pe_op op_mod (pe_op op_mul (pv 6) (pv 8)) (pv 1)) pa_nil)))))))))
      (pss_one (ps_expr (pe_bm PySem.F.plainAttrs_list PySem.F.slot_list_append PySem.F.type_list_append mt_append (pv 7) (pa_cons (pe_ix (r := rIxL K) ix_list (pv 11) (pv 2) (fun _ _ => rfl)) pa_nil)))))))
      (pss_one (ps_expr (pe_bm PySem.F.plainAttrs_list PySem.F.slot_list_append PySem.F.type_list_append mt_append (pv 5) (pa_cons (pe_callTy (r := rTupOf K) call_tupOf (by rfl) T.n_tuple (by decide +kernel) (pa_cons (pv 7) pa_nil)) pa_nil)))))))
      (pss_one (ps_ret (pe_callTy (r := rTupOf K) call_tupOf (by rfl) T.n_tuple (by decide +kernel) (pa_cons (pv 5) pa_nil)))))))), ?_⟩
    walk_at "op"
    walk_at "st"
    refine fun way H1 hw0 hw7 hB1 x1 => ?_
    walk_at "st"
    refine fun L hL => ?_
    have nL := hB1.ne hL
    refine lR (fun i H2 => Bag H2 p ∧ Ext p H1 H2 ∧ ∃ fs : List Int, H2 L = some (.lst (fs.map V.int)) ∧ fs.length = i ∧ ∀ e ∈ fs, 0 ≤ e ∧ e < (m : Int)) ?_ ?_ ?_
    · exact ⟨hB1.up nL, ext_new hL, [], upd_same, rfl, fun e he => by simp at he⟩
    · rintro i H2 hi ⟨hB2, x2, fs, hLs, hl, hf⟩
      walk_at "op"
      refine ⟨rfl, ?_⟩
      walk_at "st"
      refine fun k' H3 k0 k1 hB3 x3 => ?_
      have hL3 := x3 _ _ hLs nL.symm
      refine ⟨_, hL3, by rw [List.length_map, hl]; exact small1000 (by have : Int.toNat 36 = 36 := rfl; omega), hB3.up nL, (x2.trans x3).off hL, fs ++ [k'], ?_, by simp [hl], fun e he => ?_⟩
      · rw [upd_same, List.map_append]
        rfl
      · rcases List.mem_append.mp he with he | he
        · exact hf e he
        · simp at he
          subst he
          exact ⟨k0, k1⟩
    · rintro H2 ⟨hB2, x2, fs, hLs, hl, hf⟩
      have hl36 : fs.length = 36 := hl
      clear hl
      have x02 := x1.trans x2
      let G : Nat → Nat → Int := fun a b => (ways7 fs m a b).getD way.toNat 0
      have hG : ∀ a b, G a b = G b a := fun a b => by show (ways7 fs m a b).getD _ 0 = (ways7 fs m b a).getD _ 0; rw [ways7_comm]
      have hGat : ∀ a b : Nat, (ways7 fs m a b)[way.toNat]? = some (G a b) := fun a b => by
        have hlen : way.toNat < (ways7 fs m a b).length := by show way.toNat < 7; omega
        show _ = some ((ways7 fs m a b).getD way.toNat 0)
        rw [List.getD_eq_getElem?_getD, List.getElem?_eq_getElem hlen, Option.getD_some]
      have hGb : ∀ a b, a < m → b < m → 0 ≤ G a b ∧ G a b < (m : Int) := fun a b ha hb => ways7_in hf hl36 hm6 ha hb _ (List.mem_of_getElem? (hGat a b))
      refine ⟨by show 0 ≤ sizeLine; omega, fun R hR => ?_⟩
      have nR := hB2.ne hR
      have nLR : L ≠ R := ne_of_none hLs hR
      walk_at "st"
      rw [Int.toNat_natCast]
      refine fR (fun a σ H3 => Bag H3 p ∧ Ext p H2 H3 ∧ (∃ u4 u6 u7 u8 u9 u10 u11, σ = [some (.ref p), some (.int m), some (.int way), some (.ref L), u4, some (.ref R), u6, u7, u8, u9, u10, u11]) ∧ RowsAt H3 p R m a G)
        ⟨hB2.up nR, ext_new hR, ⟨_, _, _, _, _, _, _, rfl⟩, [], upd_same, Dats.nil⟩ ?_ ?_
      · rintro a σ H3 ha ⟨hB3, x3, ⟨u4, u6, u7, u8, u9, u10, u11, rfl⟩, xs, hRs, hD⟩
        rw [Int.zero_add]
        have hL3 := x3 _ _ hLs nL.symm
        walk_at "op"
        refine ⟨by show 0 ≤ sizeLine; omega, fun W hW => ?_⟩
        have nW := hB3.ne hW
        have nLW : L ≠ W := ne_of_none hL3 hW
        have nRW : R ≠ W := ne_of_none hRs hW
        walk_at "st"
        rw [Int.toNat_natCast]
        refine fR (fun b σ H4 => Bag H4 p ∧ Ext p H3 H4 ∧ (∃ u8 u9 u10 u11, σ = [some (.ref p), some (.int m), some (.int way), some (.ref L), u4, some (.ref R), some (.int a), some (.ref W), u8, u9, u10, u11]) ∧ RowAt H4 W a b G)
          ⟨hB3.up nW, ext_new hW, ⟨_, _, _, _, rfl⟩, upd_same⟩ ?_ ?_
        · rintro b σ H4 hb ⟨hB4, x4, ⟨u8, u9, u10, u11, rfl⟩, hWs⟩
          rw [Int.zero_add]
          have hL4 := x4 _ _ hL3 nL.symm
          walk_at "op"
          walk_at "st"
          refine ⟨_, _, _, _, rfl, rfl, SqL.of hL4, atI_of (by split <;> split <;> omega) (fs_at (by rw [hl36]; split <;> split <;> omega)), ?_⟩
          walk_at "st"
          refine ⟨_, _, _, _, rfl, rfl, SqL.of hL4, atI_of (i := 0) (by decide) (fs_at (by rw [hl36]; decide)), ?_⟩
          walk_at "st"
          refine ⟨by show 7 ≤ sizeLine; decide, fun S hS => ?_⟩
          have nWS : W ≠ S := ne_of_none hWs hS
          have nS := hB4.ne hS
          walk_at "st"
          have hW5 : ∀ o, upd H4 S o W = some (.lst (((List.range b).map fun y => G a y).map V.int)) := fun o => by rw [upd_ne nWS]; exact hWs
          refine ⟨.inl ⟨rfl, _, SqL.of (hW5 _)⟩, ?_⟩
          walk_at "st"
          refine ⟨_, _, _, _, rfl, rfl, SqL.of upd_same, atI_of (v := .int (G a b)) hw0 (by show ((ways7 fs m a b).map V.int)[way.toNat]? = _; rw [List.getElem?_map, hGat]; rfl), ?_⟩
          refine ⟨_, _, _, rfl, rfl, hW5 _, by rw [List.length_map, List.length_map, List.length_range]; exact small1000 (by omega), ?_⟩
          refine ⟨(hB4.up nS).up nW, (x4.off (x4.free nS.symm hS)).off hW, ⟨_, _, _, _, rfl⟩, ?_⟩
          show _ = _
          rw [upd_same, range_snoc, List.map_append]
          rfl
        · rintro σ H4 ⟨hB4, x4, ⟨u8, u9, u10, u11, rfl⟩, hWs⟩
          have hR4 := x4 _ _ hRs nR.symm
          walk_at "op"
          walk_at "st"
          refine ⟨.inl ⟨rfl, _, SqL.of hR4⟩, ?_⟩
          walk_at "st"
          refine ⟨_, _, rfl, .inl ⟨SqL.of hWs, fun t ht => ?_⟩⟩
          have nRt : R ≠ t := ne_of_none hR4 ht
          have nt := hB4.ne ht
          refine ⟨_, _, _, rfl, rfl, (by rw [upd_ne nRt]; exact hR4), by rw [hD.1, List.length_map, List.length_range]; exact small1000 (by omega), ?_⟩
          refine ⟨(hB4.up nt).up nR, ((x3.trans x4).off ((x3.trans x4).free nt.symm ht)).off hR, ⟨_, _, _, _, _, _, _, rfl⟩, _, upd_same, ?_⟩
          rw [range_snoc]
          have hD4 : Dats (upd H4 t (.tup (((List.range m).map fun y => G a y).map V.int))) p xs _ := (hD.ext x4).ext (ext_new ht)
          refine Dats.snoc (hD4.setL (by rw [upd_ne nRt]; exact hR4) fun d hd => ?_) (Dat.setL (by rw [upd_ne nRt]; exact hR4) (Dat.new ht nt.symm ?_) (noList_ints _ _))
          · obtain ⟨x, _, rfl⟩ := List.mem_map.mp hd
            exact noList_ints _ _
          · have q := Dats.ints (H := H4) (p := p) ((List.range m).map fun y => G a y)
            rw [List.map_map (g := PyData.int)] at q
            exact q
      · rintro σ H3 ⟨hB3, x3, ⟨u4, u6, u7, u8, u9, u10, u11, rfl⟩, xs, hRs, hD⟩
        walk_at "op"
        walk_at "st"
        refine ⟨_, _, rfl, .inl ⟨SqL.of hRs, fun t ht => ?_⟩⟩
        have nt := hB3.ne ht
        exact k _ _ _ (hB3.up nt) ((x02.trans x3).trans (ext_new ht)) (Dat.new ht nt.symm hD) (tab_of hG hGb)
end
end Fm
end FQ5
section FQ6
set_option Elab.async false
set_option linter.all false
set_option maxRecDepth 100000
set_option maxHeartbeats 4000000
local macro_rules | `(tactic| walk_at "ne") => `(tactic| first | assumption | (apply Ne.symm; assumption) | exact L2.ne_of_none (by assumption) (by assumption) | exact Ne.symm (L2.ne_of_none (by assumption) (by assumption)))
local macro_rules | `(tactic| walk_at "hl") => `(tactic| first | assumption | exact L2.upd_same | (refine Eq.trans (L2.upd_ne (by walk_at "ne")) ?_; walk_at "hl"))
local macro_rules | `(tactic| walk_at "sd") => `(tactic| first | (with_reducible show (_ : Int) < _; omega) | (with_reducible show (_ : Int) ≤ _; omega) | assumption | decide | exact ⟨by assumption, by assumption⟩ | exact ⟨by decide, by decide⟩ | exact Or.inr ⟨by decide, by decide⟩ | exact Or.inl ⟨by omega, by omega⟩ | rfl)
local macro_rules | `(tactic| walk_at "st1") => `(tactic| first
  | refine ⟨_, rfl, ?_⟩
  | refine ⟨_, _, rfl, rfl, ?_⟩
  | refine ⟨_, _, rfl, ?_⟩
  | (refine ⟨_, _, _, _, rfl, rfl, L2.SqL.of (by walk_at "hl"), rfl, ?_⟩)
  | (refine ⟨_, _, _, _, rfl, rfl, L2.SqT.of (by walk_at "hl"), rfl, ?_⟩)
  | (refine ⟨_, _, _, _, rfl, rfl, (by walk_at "hl"), rfl, ?_⟩)
  | (refine And.intro (by walk_at "sd") ?_)
  )
local macro_rules | `(tactic| walk_at "st") => `(tactic| repeat walk_at "st1")
local macro_rules | `(tactic| walk_at "op") => `(tactic| try dsimp only [L2.tSeq, L2.tAsg, L2.tOp, L2.tVar, L2.tC, L2.gSub, L2.rI, L2.rI0, L2.rIxL, L2.rIxT, L2.rSetL, L2.tIfS, L2.tTest, L2.tRet, L2.gName, L2.tNext, L2.tAnd, L2.tOr, L2.tNot, L2.tAndV, L2.tOrV, L2.tNotV, L2.tB, L2.tCB, L2.tCons, L2.tNil, L2.tCall, L2.tTup, L2.tLst, L2.tChain, L2.tUn, L2.tPar, L2.tDrop, L2.tIf, L2.tBM, L2.tBM0, L2.rAppend, L2.rCat, L2.rIsi, L2.rIsiT, L2.gTup, L2.gCons, L2.gNil, Fm.tFor_eq, Fm.tLc_eq, L2.iTup, L2.iList, L2.iRng1, L2.iRng2, L2.tSl, L2.tPart, L2.tNoPart, L2.rSlL, L2.rEq, L2.rNe, L2.rU, L2.rEqD, L2.rNeD, Fm.tRevT, Fm.rLenS, Fm.rTupOf, Fm.rLstOf, L2.tDNewK, L2.tCallS, L2.WE, Fm.wKeep, Fm.rIsK, Fm.rIsKT, List.cons_append, List.nil_append, L2.tYes])
namespace Fm
open PySem PySem.Spec PyProof.Rows L2
abbrev s_law_up : Stmt := top 30
abbrev N_law_up : List Str := ["bag", "m", "stay", "way", "free", "k", "rows", "a", "row", "b", "least", "most", "some"]
theorem sc_law_up : FnScope N_law_up ["bag", "m", "stay"] (defScope s_law_up) := ⟨rfl, rfl, rfl, by decide +kernel, rfl, by decide +kernel, by decide +kernel⟩
section
variable {P : Program} {w : World} {K : PySem.W.Frag} {mg : Str → Option Value} {base : Heap}
/-- a number of rows of data -/
def cellI (rs : List PyData) (a b : Nat) : Int := match cellD rs a b with
  | .int i => i
  | _ => 0
theorem cellI_in {m : Nat} {rs : List PyData} (hl : rs.length = m) (hr : ∀ r ∈ rs, RowD m r) {a b : Nat} (ha : a < m) (hb : b < m) : 0 ≤ cellI rs a b ∧ cellI rs a b < (m : Int) := by
  have e1 : rs[a]? = some rs[a] := List.getElem?_eq_getElem (by omega)
  obtain ⟨es, he, hes, hi⟩ := hr rs[a] (List.getElem_mem _)
  have e2 : es[b]? = some es[b] := List.getElem?_eq_getElem (by omega)
  obtain ⟨i, hei, h0, h1⟩ := hi es[b] (List.getElem_mem _)
  have : cellD rs a b = .int i := by
    unfold cellD
    rw [e1, he]
    simp only [e2, hei, Option.getD_some]
  unfold cellI
  rw [this]
  exact ⟨h0, h1⟩
theorem cellI_comm {m : Nat} {rs : List PyData} (h : ∀ a b, a < m → b < m → cellD rs a b = cellD rs b a) {a b : Nat} (ha : a < m) (hb : b < m) : cellI rs a b = cellI rs b a := by
  unfold cellI
  rw [h a b ha hb]
theorem tab_of2 {m : Nat} {G : Nat → Nat → Int} (hs : ∀ a b, a < m → b < m → G a b = G b a) (hb : ∀ a b, a < m → b < m → 0 ≤ G a b ∧ G a b < (m : Int)) :
    TabD m (.tuple ((List.range m).map fun a => .tuple ((List.range m).map fun b => .int (G a b)))) := by
  refine ⟨_, rfl, by simp, fun r hr => ?_, fun a b ha hb => ?_⟩
  · obtain ⟨a, ha, rfl⟩ := List.mem_map.mp hr
    refine ⟨_, rfl, by simp, fun e he => ?_⟩
    obtain ⟨b, hb', rfl⟩ := List.mem_map.mp he
    exact ⟨_, rfl, hb a b (List.mem_range.mp ha) (List.mem_range.mp hb')⟩
  · have c : ∀ x y, x < m → y < m → cellD ((List.range m).map fun a => PyData.tuple ((List.range m).map fun b => .int (G a b))) x y = .int (G x y) := fun x y hx hy => by
      unfold cellD
      simp [hx, hy]
    rw [c a b ha hb, c b a hb ha, hs a b ha hb]
/-- the six ways of an up table's number -/
def ways6 (fs : List Int) (c m a b : Int) : List Int :=
  let lo := if b < a then b else a
  let hi := if b > a then b else a
  [fs.getD (lo * 6 + hi).toNat 0, lo, hi, (a + b) / m, fs.getD 0 0, c]
theorem ways6_comm (fs : List Int) (c m a b : Int) : ways6 fs c m a b = ways6 fs c m b a := by
  have e1 : (if b < a then b else a) = if a < b then a else b := by split <;> split <;> omega
  have e2 : (if b > a then b else a) = if a > b then a else b := by split <;> split <;> omega
  unfold ways6
  rw [e1, e2, Int.add_comm b a]
theorem ways6_in {fs : List Int} {c : Int} {m : Nat} {a b : Nat} (hf : ∀ f ∈ fs, 0 ≤ f ∧ f < (m : Int)) (hl : fs.length = 36) (hm : m ≤ 6) (ha : a < m) (hb : b < m) (hc : 0 ≤ c ∧ c < (m : Int)) : ∀ e ∈ ways6 fs c m a b, 0 ≤ e ∧ e < (m : Int) := by
  have gd : ∀ i, i < 36 → 0 ≤ fs.getD i 0 ∧ fs.getD i 0 < (m : Int) := fun i hi => by
    rw [List.getD_eq_getElem?_getD, List.getElem?_eq_getElem (show i < fs.length by omega), Option.getD_some]
    exact hf _ (List.getElem_mem _)
  intro e he
  unfold ways6 at he
  simp only [List.mem_cons, List.not_mem_nil, or_false] at he
  have m0 : (0 : Int) < m := by omega
  rcases he with rfl | rfl | rfl | rfl | rfl | rfl
  · apply gd
    split <;> split <;> omega
  · split <;> omega
  · split <;> omega
  · refine ⟨Int.ediv_nonneg (by omega) (by omega), ?_⟩
    apply Int.ediv_lt_of_lt_mul m0
    by_cases h1 : m = 1
    · subst h1
      omega
    · have : (m : Int) * m ≥ 2 * m := Int.mul_le_mul_of_nonneg_right (by omega) (by omega)
      omega
  · exact gd 0 (by omega)
  · exact hc
def spUp : Sp := fun vs H Q _ => ∃ (p : Addr) (m : Nat) (sv : V) (sd : PyData), vs = [.ref p, .int m, sv] ∧ 1 ≤ m ∧ m ≤ 6 ∧ Bag H p ∧ Dat H p sv sd ∧ TabD m sd ∧ ∀ (v : V) (d : PyData) (H' : Hp), Bag H' p → Ext p H H' → Dat H' p v d → TabD m d → Q v H'
theorem ok_law_up (D : Df K mg "_law_up" s_law_up ["bag", "m", "stay"]) (T : Nms mg) (c_law_pick : CallOk P w K mg base CX0 1 "_law_pick" ["bag", "many"] spPick) : CallOk P w K mg base CX0 2 "_law_up" ["bag", "m", "stay"] spUp := by
  refine df_ok D sc_law_up (fun vs H Q E h => ?_) (fun f cdv A outer s H vs Q E hr h => ?_)
  · obtain ⟨p, m, sv, sd, rfl, _⟩ := h
    rfl
  · obtain ⟨p, m, sv, sd, rfl, hm1, hm6, hB, hSD, hST, k⟩ := h
    obtain ⟨srs, rfl, hsl, hsr, hss⟩ := hST
    obtain ⟨sa, sx, rfl, hsa, hsp, hsD⟩ := hSD.isTup
    have nd := sc_law_up.nd
    have m0 : (0 : Int) < m := by omega
    have ml : (m : Int).natAbs.log2 < 9000 := Nat.lt_of_le_of_lt (Nat.log2_le_self _) (by omega)
    refine ⟨_, (pss_cons (ps_set (i := 3) nd rfl (Or.inl rfl) (pe_cc c_law_pick (hr.mono (by omega)) (pa_cons (pv 0) (pa_cons pe_int pa_nil))))
      (pss_cons (ps_setLc (i := 4) (own := [("k", 5)]) (g := (gName 5)) (tt := tYes) (by rfl) nd rfl rfl (sw_true rfl rfl rfl (by decide +kernel)) (pi_range1 rfl T.n_range (pa_cons pe_int pa_nil)) (blkOk_by (own := [("k", 5)]) (N := N_law_up) (sc := defScope s_law_up) (by decide +kernel)) (fun _ _ _ _ _ => (pg_name (i := 5) nd rfl (Or.inl rfl))) (fun _ _ _ _ _ => pts_nil) (fun _ _ _ _ _ => (pe_cc c_law_pick (hr.mono (by omega)) (pa_cons (pv 0) (pa_cons (pv 1) pa_nil)))))
      (pss_cons (ps_set (i := 6) nd rfl (Or.inl rfl) (pe_lst pa_nil))
      (pss_cons (ps_for PassesOwn.never rfl (pi_range1 rfl T.n_range (pa_cons (pv 1) pa_nil)) (pg_name (i := 7) nd rfl (Or.inl rfl)) (pss_cons (ps_set (i := 8) nd rfl (Or.inl rfl) (pe_lst pa_nil))
      (pss_cons (ps_for PassesOwn.never rfl (pi_range1 rfl T.n_range (pa_cons (pv 1) pa_nil)) (pg_name (i := 9) nd rfl (Or.inl rfl)) (pss_cons (ps_par (i := 10) (j := 11) (by rfl) nd rfl rfl (by decide) rfl rfl (pa_cons (pe_callB (call_min2 rfl) (by rfl) T.n_min (by decide +kernel) (pa_cons (pv 7) (pa_cons (pv 9) pa_nil))) (pa_cons (pe_callB (call_max2 rfl) (by rfl) T.n_max (by decide +kernel) (pa_cons (pv 7) (pa_cons (pv 9) pa_nil))) pa_nil)) (by rfl))
      (pss_cons (ps_set (i := 12) nd rfl (Or.inl rfl) (pe_lst (pa_cons (pe_ix (r := rIxL K) ix_list (pv 4) (pe_op op_add (pe_op op_mul (pv 10) pe_int) (pv 11)) (fun _ _ => rfl)) (pa_cons (pv 10) (pa_cons (pv 11) (pa_cons (pe_op op_fdivW (pe_op op_add (pv 7) (pv 9)) (pv 1)) (pa_cons (pe_ix (r := rIxL K) ix_list (pv 4) pe_int (fun _ _ => rfl)) (pa_cons (pe_ix (r := rIxT K) ix_tup (pe_ix (r := rIxT K) ix_tup (pv 2) (pv 7) (fun _ _ => rfl)) (pv 9) (fun _ _ => rfl)) pa_nil))))))))
      (pss_one (ps_expr (pe_bm PySem.F.plainAttrs_list PySem.F.slot_list_append PySem.F.type_list_append mt_append (pv 8) (pa_cons (pe_ix (r := rIxL K) ix_list (pv 12) (pv 3) (fun _ _ => rfl)) pa_nil)))))))
      (pss_one (ps_expr (pe_bm PySem.F.plainAttrs_list PySem.F.slot_list_append PySem.F.type_list_append mt_append (pv 6) (pa_cons (pe_callTy (r := rTupOf K) call_tupOf (by rfl) T.n_tuple (by decide +kernel) (pa_cons (pv 8) pa_nil)) pa_nil)))))))
      (pss_one (ps_ret (pe_callTy (r := rTupOf K) call_tupOf (by rfl) T.n_tuple (by decide +kernel) (pa_cons (pv 6) pa_nil)))))))), ?_⟩
    walk_at "op"
    walk_at "st"
    refine fun way H1 hw0 hw7 hB1 x1 => ?_
    walk_at "st"
    refine fun L hL => ?_
    have nL := hB1.ne hL
    refine lR (fun i H2 => Bag H2 p ∧ Ext p H1 H2 ∧ ∃ fs : List Int, H2 L = some (.lst (fs.map V.int)) ∧ fs.length = i ∧ ∀ e ∈ fs, 0 ≤ e ∧ e < (m : Int)) ?_ ?_ ?_
    · exact ⟨hB1.up nL, ext_new hL, [], upd_same, rfl, fun e he => by simp at he⟩
    · rintro i H2 hi ⟨hB2, x2, fs, hLs, hl, hf⟩
      walk_at "op"
      refine ⟨rfl, ?_⟩
      walk_at "st"
      refine fun k' H3 k0 k1 hB3 x3 => ?_
      have hL3 := x3 _ _ hLs nL.symm
      refine ⟨_, hL3, by rw [List.length_map, hl]; exact small1000 (by have : Int.toNat 36 = 36 := rfl; omega), hB3.up nL, (x2.trans x3).off hL, fs ++ [k'], ?_, by simp [hl], fun e he => ?_⟩
      · rw [upd_same, List.map_append]
        rfl
      · rcases List.mem_append.mp he with he | he
        · exact hf e he
        · simp at he
          subst he
          exact ⟨k0, k1⟩
    · rintro H2 ⟨hB2, x2, fs, hLs, hl, hf⟩
      have hl36 : fs.length = 36 := hl
      clear hl
      have x02 := x1.trans x2
      let G : Nat → Nat → Int := fun a b => (ways6 fs (cellI srs a b) m a b).getD way.toNat 0
      have hG : ∀ a b, a < m → b < m → G a b = G b a := fun a b ha hb => by show (ways6 fs (cellI srs a b) m a b).getD _ 0 = (ways6 fs (cellI srs b a) m b a).getD _ 0; rw [ways6_comm, cellI_comm hss ha hb]
      have hGat : ∀ a b : Nat, (ways6 fs (cellI srs a b) m a b)[way.toNat]? = some (G a b) := fun a b => by
        have hlen : way.toNat < (ways6 fs (cellI srs a b) m a b).length := by show way.toNat < 6; omega
        show _ = some ((ways6 fs (cellI srs a b) m a b).getD way.toNat 0)
        rw [List.getD_eq_getElem?_getD, List.getElem?_eq_getElem hlen, Option.getD_some]
      have hGb : ∀ a b, a < m → b < m → 0 ≤ G a b ∧ G a b < (m : Int) := fun a b ha hb => ways6_in hf hl36 hm6 ha hb (cellI_in hsl hsr ha hb) _ (List.mem_of_getElem? (hGat a b))
      refine ⟨by show 0 ≤ sizeLine; omega, fun R hR => ?_⟩
      have nR := hB2.ne hR
      have nLR : L ≠ R := ne_of_none hLs hR
      walk_at "st"
      rw [Int.toNat_natCast]
      refine fR (fun a σ H3 => Bag H3 p ∧ Ext p H2 H3 ∧ (∃ u4 u6 u7 u8 u9 u10 u11, σ = [some (.ref p), some (.int m), some (.ref sa), some (.int way), some (.ref L), u4, some (.ref R), u6, u7, u8, u9, u10, u11]) ∧ RowsAt H3 p R m a G)
        ⟨hB2.up nR, ext_new hR, ⟨_, _, _, _, _, _, _, rfl⟩, [], upd_same, Dats.nil⟩ ?_ ?_
      · rintro a σ H3 ha ⟨hB3, x3, ⟨u4, u6, u7, u8, u9, u10, u11, rfl⟩, xs, hRs, hD⟩
        rw [Int.zero_add]
        have hL3 := x3 _ _ hLs nL.symm
        walk_at "op"
        refine ⟨by show 0 ≤ sizeLine; omega, fun W hW => ?_⟩
        have nW := hB3.ne hW
        have nLW : L ≠ W := ne_of_none hL3 hW
        have nRW : R ≠ W := ne_of_none hRs hW
        walk_at "st"
        rw [Int.toNat_natCast]
        refine fR (fun b σ H4 => Bag H4 p ∧ Ext p H3 H4 ∧ (∃ u8 u9 u10 u11, σ = [some (.ref p), some (.int m), some (.ref sa), some (.int way), some (.ref L), u4, some (.ref R), some (.int a), some (.ref W), u8, u9, u10, u11]) ∧ RowAt H4 W a b G)
          ⟨hB3.up nW, ext_new hW, ⟨_, _, _, _, rfl⟩, upd_same⟩ ?_ ?_
        · rintro b σ H4 hb ⟨hB4, x4, ⟨u8, u9, u10, u11, rfl⟩, hWs⟩
          rw [Int.zero_add]
          have hL4 := x4 _ _ hL3 nL.symm
          walk_at "op"
          walk_at "st"
          refine ⟨_, _, _, _, rfl, rfl, SqL.of hL4, atI_of (by split <;> split <;> omega) (fs_at (by rw [hl36]; split <;> split <;> omega)), ?_⟩
          walk_at "st"
          refine ⟨_, _, _, _, rfl, rfl, SqL.of hL4, atI_of (i := 0) (by decide) (fs_at (by rw [hl36]; decide)), ?_⟩
          walk_at "st"
          have hsa4 := x4 _ _ (x3 _ _ (x2 _ _ (x1 _ _ hsa hsp) hsp) hsp) hsp
          obtain ⟨ra, ys, ci, a1, a2, a3, a4, _⟩ := cell_at ((((hsD.ext x1).ext x2).ext x3).ext x4) hsl hsr (a := a) (b := b) (by omega) (by omega)
          have hci : ci = cellI srs a b := by unfold cellI; rw [a4]
          subst hci
          refine ⟨_, _, _, _, rfl, rfl, SqT.of hsa4, atI_nat a1, ?_⟩
          walk_at "st"
          refine ⟨_, _, _, _, rfl, rfl, SqT.of a2, atI_nat a3, ?_⟩
          refine ⟨by show 6 ≤ sizeLine; decide, fun S hS => ?_⟩
          have nWS : W ≠ S := ne_of_none hWs hS
          have nS := hB4.ne hS
          walk_at "st"
          have hW5 : ∀ o, upd H4 S o W = some (.lst (((List.range b).map fun y => G a y).map V.int)) := fun o => by rw [upd_ne nWS]; exact hWs
          refine ⟨.inl ⟨rfl, _, SqL.of (hW5 _)⟩, ?_⟩
          walk_at "st"
          refine ⟨_, _, _, _, rfl, rfl, SqL.of upd_same, atI_of (v := .int (G a b)) hw0 (by show ((ways6 fs (cellI srs a b) m a b).map V.int)[way.toNat]? = _; rw [List.getElem?_map, hGat]; rfl), ?_⟩
          refine ⟨_, _, _, rfl, rfl, hW5 _, by rw [List.length_map, List.length_map, List.length_range]; exact small1000 (by omega), ?_⟩
          refine ⟨(hB4.up nS).up nW, (x4.off (x4.free nS.symm hS)).off hW, ⟨_, _, _, _, rfl⟩, ?_⟩
          show _ = _
          rw [upd_same, range_snoc, List.map_append]
          rfl
        · rintro σ H4 ⟨hB4, x4, ⟨u8, u9, u10, u11, rfl⟩, hWs⟩
          have hR4 := x4 _ _ hRs nR.symm
          walk_at "op"
          walk_at "st"
          refine ⟨.inl ⟨rfl, _, SqL.of hR4⟩, ?_⟩
          walk_at "st"
          refine ⟨_, _, rfl, .inl ⟨SqL.of hWs, fun t ht => ?_⟩⟩
          have nRt : R ≠ t := ne_of_none hR4 ht
          have nt := hB4.ne ht
          refine ⟨_, _, _, rfl, rfl, (by rw [upd_ne nRt]; exact hR4), by rw [hD.1, List.length_map, List.length_range]; exact small1000 (by omega), ?_⟩
          refine ⟨(hB4.up nt).up nR, ((x3.trans x4).off ((x3.trans x4).free nt.symm ht)).off hR, ⟨_, _, _, _, _, _, _, rfl⟩, _, upd_same, ?_⟩
          rw [range_snoc]
          have hD4 : Dats (upd H4 t (.tup (((List.range m).map fun y => G a y).map V.int))) p xs _ := (hD.ext x4).ext (ext_new ht)
          refine Dats.snoc (hD4.setL (by rw [upd_ne nRt]; exact hR4) fun d hd => ?_) (Dat.setL (by rw [upd_ne nRt]; exact hR4) (Dat.new ht nt.symm ?_) (noList_ints _ _))
          · obtain ⟨x, _, rfl⟩ := List.mem_map.mp hd
            exact noList_ints _ _
          · have q := Dats.ints (H := H4) (p := p) ((List.range m).map fun y => G a y)
            rw [List.map_map (g := PyData.int)] at q
            exact q
      · rintro σ H3 ⟨hB3, x3, ⟨u4, u6, u7, u8, u9, u10, u11, rfl⟩, xs, hRs, hD⟩
        walk_at "op"
        walk_at "st"
        refine ⟨_, _, rfl, .inl ⟨SqL.of hRs, fun t ht => ?_⟩⟩
        have nt := hB3.ne ht
        exact k _ _ _ (hB3.up nt) ((x02.trans x3).trans (ext_new ht)) (Dat.new ht nt.symm hD) (tab_of2 hG hGb)
end
end Fm
end FQ6
section FQ7
set_option Elab.async false
set_option linter.all false
set_option maxRecDepth 100000
set_option maxHeartbeats 4000000
local macro_rules | `(tactic| walk_at "ne") => `(tactic| first | assumption | (apply Ne.symm; assumption) | exact L2.ne_of_none (by assumption) (by assumption) | exact Ne.symm (L2.ne_of_none (by assumption) (by assumption)))
local macro_rules | `(tactic| walk_at "hl") => `(tactic| first | assumption | exact L2.upd_same | (refine Eq.trans (L2.upd_ne (by walk_at "ne")) ?_; walk_at "hl"))
local macro_rules | `(tactic| walk_at "sd") => `(tactic| first | (with_reducible show (_ : Int) < _; omega) | (with_reducible show (_ : Int) ≤ _; omega) | assumption | decide | exact ⟨by assumption, by assumption⟩ | exact ⟨by decide, by decide⟩ | exact Or.inr ⟨by decide, by decide⟩ | exact Or.inl ⟨by omega, by omega⟩ | rfl)
local macro_rules | `(tactic| walk_at "st1") => `(tactic| first
  | refine ⟨_, rfl, ?_⟩
  | refine ⟨_, _, rfl, rfl, ?_⟩
  | refine ⟨_, _, rfl, ?_⟩
  | (refine ⟨_, _, _, _, rfl, rfl, L2.SqL.of (by walk_at "hl"), rfl, ?_⟩)
  | (refine ⟨_, _, _, _, rfl, rfl, L2.SqT.of (by walk_at "hl"), rfl, ?_⟩)
  | (refine ⟨_, _, _, _, rfl, rfl, (by walk_at "hl"), rfl, ?_⟩)
  | (refine And.intro (by walk_at "sd") ?_)
  )
local macro_rules | `(tactic| walk_at "st") => `(tactic| repeat walk_at "st1")
local macro_rules | `(tactic| walk_at "op") => `(tactic| try dsimp only [L2.tSeq, L2.tAsg, L2.tOp, L2.tVar, L2.tC, L2.gSub, L2.rI, L2.rI0, L2.rIxL, L2.rIxT, L2.rSetL, L2.tIfS, L2.tTest, L2.tRet, L2.gName, L2.tNext, L2.tAnd, L2.tOr, L2.tNot, L2.tAndV, L2.tOrV, L2.tNotV, L2.tB, L2.tCB, L2.tCons, L2.tNil, L2.tCall, L2.tTup, L2.tLst, L2.tChain, L2.tUn, L2.tPar, L2.tDrop, L2.tIf, L2.tBM, L2.tBM0, L2.rAppend, L2.rCat, L2.rIsi, L2.rIsiT, L2.gTup, L2.gCons, L2.gNil, Fm.tFor_eq, Fm.tLc_eq, L2.iTup, L2.iList, L2.iRng1, L2.iRng2, L2.tSl, L2.tPart, L2.tNoPart, L2.rSlL, L2.rEq, L2.rNe, L2.rU, L2.rEqD, L2.rNeD, Fm.tRevT, Fm.rLenS, Fm.rTupOf, Fm.rLstOf, L2.tDNewK, L2.tCallS, L2.WE, Fm.wKeep, Fm.rIsK, Fm.rIsKT, List.cons_append, List.nil_append, L2.tYes])
namespace Fm
open PySem PySem.Spec PyProof.Rows L2
abbrev s_law_house : Stmt := top 31
abbrev N_law_house : List Str := ["bag", "m", "floors", "found", "k", "stay"]
theorem sc_law_house : FnScope N_law_house ["bag"] (defScope s_law_house) := ⟨rfl, rfl, rfl, by decide +kernel, rfl, by decide +kernel, by decide +kernel⟩
section
variable {P : Program} {w : World} {K : PySem.W.Frag} {mg : Str → Option Value} {base : Heap}
theorem row_fit {m : Nat} {d : PyData} (hm : m ≤ 6) (h : RowD m d) : Fit 300 1 d ∧ noList d = true ∧ d.hasDict = false := by
  obtain ⟨ds, rfl, hl, hd⟩ := h
  have h1 : ∀ e ∈ ds, Fit 41 0 e := fun e he => by
    obtain ⟨i, rfl, h0, hi⟩ := hd e he
    refine fit_int ?_
    have : i.natAbs < 10 := by omega
    exact Nat.lt_of_lt_of_le this (by decide)
  have h2 : ∀ e ∈ ds, noList e = true := fun e he => by
    obtain ⟨i, rfl, _⟩ := hd e he
    unfold noList
    rfl
  have h3 : ∀ e ∈ ds, e.hasDict = false := fun e he => by
    obtain ⟨i, rfl, _⟩ := hd e he
    simp only [PyData.hasDict]
  exact ⟨(fit_tup h1 h2).mono (by rw [hl]; omega) (by omega), noList_of h2, by simp only [PyData.hasDict]; exact hasDict_all h3⟩
theorem tab_fit {m : Nat} {d : PyData} (hm : m ≤ 6) (h : TabD m d) : Fit 2000 2 d ∧ noList d = true ∧ d.hasDict = false := by
  obtain ⟨ds, rfl, hl, hd, _⟩ := h
  have h1 := fun e he => row_fit hm (hd e he)
  exact ⟨(fit_tup (fun e he => (h1 e he).1) fun e he => (h1 e he).2.1).mono (by rw [hl]; omega) (by omega), noList_of fun e he => (h1 e he).2.1, by simp only [PyData.hasDict]; exact hasDict_all fun e he => (h1 e he).2.2⟩
theorem floor_fit {m : Nat} {d : PyData} (hm : m ≤ 6) (h : FloorD m d) : Fit 5000 3 d ∧ noList d = true ∧ d.hasDict = false := by
  obtain ⟨s, u, rfl, hs, hu⟩ := h
  have h1 : ∀ e ∈ [s, u], Fit 2000 2 e ∧ noList e = true ∧ e.hasDict = false := fun e he => by
    simp only [List.mem_cons, List.not_mem_nil, or_false] at he
    rcases he with rfl | rfl
    · exact tab_fit hm hs
    · exact tab_fit hm hu
  exact ⟨(fit_tup (fun e he => (h1 e he).1) fun e he => (h1 e he).2.1).mono (by show _ * 2 + 3 ≤ _; omega) (by omega), noList_of fun e he => (h1 e he).2.1, by simp only [PyData.hasDict]; exact hasDict_all fun e he => (h1 e he).2.2⟩
theorem house_fit {m n : Nat} {d : PyData} (h : HouseN m n d) : Fit 30000 4 d ∧ noList d = true ∧ d.hasDict = false := by
  obtain ⟨ds, rfl, hl, h1, h4, _, hm, hd⟩ := h
  have h1 := fun e he => floor_fit hm (hd e he)
  exact ⟨(fit_tup (fun e he => (h1 e he).1) fun e he => (h1 e he).2.1).mono (by rw [hl]; omega) (by omega), noList_of fun e he => (h1 e he).2.1, by simp only [PyData.hasDict]; exact hasDict_all fun e he => (h1 e he).2.2⟩
def spMkHouse : Sp := fun vs H Q _ => ∃ p : Addr, vs = [.ref p] ∧ Bag H p ∧ ∀ (v : V) (d : PyData) (m n : Nat) (H' : Hp), Bag H' p → Ext p H H' → Dat H' p v d → HouseN m n d → Q v H'
theorem ok_law_house (D : Df K mg "_law_house" s_law_house ["bag"]) (T : Nms mg) (c_law_pick : CallOk P w K mg base CX0 1 "_law_pick" ["bag", "many"] spPick) (c_law_table : CallOk P w K mg base CX0 2 "_law_table" ["bag", "m"] spTab)
    (c_law_up : CallOk P w K mg base CX0 2 "_law_up" ["bag", "m", "stay"] spUp) : CallOk P w K mg base CX0 3 "_law_house" ["bag"] spMkHouse := by
  refine df_ok D sc_law_house (fun vs H Q E h => ?_) (fun f cdv A outer s H vs Q E hr h => ?_)
  · obtain ⟨p, rfl, _⟩ := h
    rfl
  · obtain ⟨p, rfl, hB, k⟩ := h
    have nd := sc_law_house.nd
    refine ⟨_, (pss_cons (ps_par (i := 1) (j := 2) (by rfl) nd rfl rfl (by decide) rfl rfl (pa_cons (pe_op op_add pe_int (pe_cc c_law_pick (hr.mono (by omega)) (pa_cons (pv 0) (pa_cons (pe_ix (r := rIxL K) ix_list (pe_lst (pa_cons pe_int (pa_cons pe_int pa_nil))) (pe_cc c_law_pick (hr.mono (by omega)) (pa_cons (pv 0) (pa_cons pe_int pa_nil))) (fun _ _ => rfl)) pa_nil)))) (pa_cons (pe_op op_add pe_int (pe_cc c_law_pick (hr.mono (by omega)) (pa_cons (pv 0) (pa_cons pe_int pa_nil)))) pa_nil)) (by rfl))
      (pss_cons (ps_set (i := 3) nd rfl (Or.inl rfl) (pe_lst pa_nil))
      (pss_cons (ps_for PassesOwn.never rfl (pi_range1 rfl T.n_range (pa_cons (pv 2) pa_nil)) (pg_name (i := 4) nd rfl (Or.inl rfl)) (pss_cons (ps_set (i := 5) nd rfl (Or.inl rfl) (pe_cc c_law_table (hr.mono (by omega)) (pa_cons (pv 0) (pa_cons (pv 1) pa_nil))))
      (pss_one (ps_expr (pe_bm PySem.F.plainAttrs_list PySem.F.slot_list_append PySem.F.type_list_append mt_append (pv 3) (pa_cons (pe_tup (pa_cons (pv 5) (pa_cons (pe_cc c_law_up (hr.mono (by omega)) (pa_cons (pv 0) (pa_cons (pv 1) (pa_cons (pv 5) pa_nil)))) pa_nil))) pa_nil))))))
      (pss_one (ps_ret (pe_callTy (r := rTupOf K) call_tupOf (by rfl) T.n_tuple (by decide +kernel) (pa_cons (pv 3) pa_nil))))))), ?_⟩
    walk_at "op"
    walk_at "st"
    refine fun q0 hq0 => ?_
    have hB0 := hB.up (o := .lst [.int 3, .int 6]) (hB.ne hq0)
    have n0 := hB.ne hq0
    walk_at "st"
    refine fun k0 H1 k00 k02 hB1 x1 => ?_
    obtain ⟨c, hc, c1, c6⟩ : ∃ c : Int, atI [V.int 3, V.int 6] k0 = some (.int c) ∧ 1 ≤ c ∧ c ≤ 6 := by
      rcases (show k0 = 0 ∨ k0 = 1 by omega) with rfl | rfl
      · exact ⟨3, rfl, by decide, by decide⟩
      · exact ⟨6, rfl, by decide, by decide⟩
    have hq1 := x1 _ _ (upd_same (H := H) (a := q0)) n0.symm
    have cl : c.natAbs.log2 < 9000 := Nat.lt_of_le_of_lt (Nat.log2_le_self _) (by omega)
    refine ⟨_, _, _, _, rfl, rfl, SqL.of hq1, hc, ?_⟩
    walk_at "st"
    refine fun m1 H2 m10 m11 hB2 x2 => ?_
    walk_at "st"
    refine fun n1 H3 n10 n11 hB3 x3 => ?_
    obtain ⟨m, hm⟩ : ∃ m : Nat, (m : Int) = 1 + m1 := ⟨(1 + m1).toNat, by omega⟩
    obtain ⟨n, hn⟩ : ∃ n : Nat, (n : Int) = 1 + n1 := ⟨(1 + n1).toNat, by omega⟩
    have hm6 : m ≤ 6 := by omega
    have hm1 : 1 ≤ m := by omega
    have hn4 : n ≤ 4 := by omega
    have x03 : Ext p H H3 := (((ext_new hq0).trans x1).trans x2).trans x3
    walk_at "st"
    rw [← hm, ← hn]
    refine fun R hR => ?_
    have nR := hB3.ne hR
    walk_at "st"
    rw [Int.toNat_natCast]
    refine fR (fun i σ H4 => Bag H4 p ∧ Ext p H3 H4 ∧ (∃ u4 u5, σ = [some (.ref p), some (.int m), some (.int n), some (.ref R), u4, u5]) ∧ ∃ xs ds, H4 R = some (.lst xs) ∧ Dats H4 p xs ds ∧ ds.length = i ∧ ∀ e ∈ ds, FloorD m e)
      ⟨hB3.up nR, ext_new hR, ⟨_, _, rfl⟩, [], [], upd_same, Dats.nil, rfl, fun e he => by simp at he⟩ ?_ ?_
    · rintro i σ H4 hi ⟨hB4, x4, ⟨u4, u5, rfl⟩, xs, ds, hRs, hD, hl, hf⟩
      walk_at "op"
      walk_at "st"
      refine fun sv sd H5 hB5 x5 hsd hst => ?_
      have hR5 := x5 _ _ hRs nR.symm
      walk_at "st"
      refine ⟨.inl ⟨rfl, _, SqL.of hR5⟩, ?_⟩
      walk_at "st"
      refine ⟨p, m, sv, sd, rfl, hm1, hm6, hB5, hsd, hst, fun uv ud H6 hB6 x6 hud hut => ?_⟩
      have hR6 := x6 _ _ hR5 nR.symm
      refine ⟨by show 2 ≤ sizeLine; decide, fun t ht => ?_⟩
      have nt := hB6.ne ht
      have nRt : R ≠ t := ne_of_none hR6 ht
      have x36 := (x4.trans x5).trans x6
      refine ⟨_, _, _, rfl, rfl, (by rw [upd_ne nRt]; exact hR6), by rw [hD.1, hl]; exact small1000 (by omega), ?_⟩
      have hD6 : Dats (upd H6 t (.tup [sv, uv])) p xs ds := ((hD.ext x5).ext x6).ext (ext_new ht)
      have hN : Dat (upd H6 t (.tup [sv, uv])) p (.ref t) (.tuple [sd, ud]) := Dat.new ht nt.symm (Dats.cons (hsd.ext x6) (Dats.cons hud Dats.nil))
      have hFN : FloorD m (.tuple [sd, ud]) := ⟨sd, ud, rfl, hst, hut⟩
      refine ⟨(hB6.up nt).up nR, (x36.off (x36.free nt.symm ht)).off hR, ⟨_, _, rfl⟩, _, _, upd_same, Dats.snoc (hD6.setL (by rw [upd_ne nRt]; exact hR6) fun e he => (floor_fit hm6 (hf e he)).2.1) (hN.setL (by rw [upd_ne nRt]; exact hR6) (floor_fit hm6 hFN).2.1), by simp [hl], fun e he => ?_⟩
      rcases List.mem_append.mp he with he | he
      · exact hf e he
      · simp at he
        subst he
        exact hFN
    · rintro σ H4 ⟨hB4, x4, ⟨u4, u5, rfl⟩, xs, ds, hRs, hD, hl, hf⟩
      walk_at "op"
      walk_at "st"
      refine ⟨_, _, rfl, .inl ⟨SqL.of hRs, fun t ht => ?_⟩⟩
      have nt := hB4.ne ht
      exact k _ _ m n _ (hB4.up nt) ((x03.trans x4).trans (ext_new ht)) (Dat.new ht nt.symm hD) ⟨ds, rfl, hl, by omega, hn4, hm1, hm6, hf⟩
end
end Fm
end FQ7
section FK1
set_option Elab.async false
set_option linter.all false
set_option maxRecDepth 100000
set_option maxHeartbeats 4000000
local macro_rules | `(tactic| walk_at "ne") => `(tactic| first | assumption | (apply Ne.symm; assumption) | exact L2.ne_of_none (by assumption) (by assumption) | exact Ne.symm (L2.ne_of_none (by assumption) (by assumption)))
local macro_rules | `(tactic| walk_at "hl") => `(tactic| first | assumption | exact L2.upd_same | (refine Eq.trans (L2.upd_ne (by walk_at "ne")) ?_; walk_at "hl"))
local macro_rules | `(tactic| walk_at "sd") => `(tactic| first | (with_reducible show (_ : Int) < _; omega) | (with_reducible show (_ : Int) ≤ _; omega) | assumption | decide | exact ⟨by assumption, by assumption⟩ | exact ⟨by decide, by decide⟩ | exact Or.inr ⟨by decide, by decide⟩ | exact Or.inl ⟨by omega, by omega⟩ | rfl)
local macro_rules | `(tactic| walk_at "st1") => `(tactic| first
  | refine ⟨_, rfl, ?_⟩
  | refine ⟨_, _, rfl, rfl, ?_⟩
  | refine ⟨_, _, rfl, ?_⟩
  | (refine ⟨_, _, _, _, rfl, rfl, L2.SqL.of (by walk_at "hl"), rfl, ?_⟩)
  | (refine ⟨_, _, _, _, rfl, rfl, L2.SqT.of (by walk_at "hl"), rfl, ?_⟩)
  | (refine ⟨_, _, _, _, rfl, rfl, (by walk_at "hl"), rfl, ?_⟩)
  | (refine And.intro (by walk_at "sd") ?_)
  )
local macro_rules | `(tactic| walk_at "st") => `(tactic| repeat walk_at "st1")
local macro_rules | `(tactic| walk_at "op") => `(tactic| try dsimp only [L2.tSeq, L2.tAsg, L2.tOp, L2.tVar, L2.tC, L2.gSub, L2.rI, L2.rI0, L2.rIxL, L2.rIxT, L2.rSetL, L2.tIfS, L2.tTest, L2.tRet, L2.gName, L2.tNext, L2.tAnd, L2.tOr, L2.tNot, L2.tAndV, L2.tOrV, L2.tNotV, L2.tB, L2.tCB, L2.tCons, L2.tNil, L2.tCall, L2.tTup, L2.tLst, L2.tChain, L2.tUn, L2.tPar, L2.tDrop, L2.tIf, L2.tBM, L2.tBM0, L2.rAppend, L2.rCat, L2.rIsi, L2.rIsiT, L2.gTup, L2.gCons, L2.gNil, Fm.tFor_eq, Fm.tLc_eq, L2.iTup, L2.iList, L2.iRng1, L2.iRng2, L2.tSl, L2.tPart, L2.tNoPart, L2.rSlL, L2.rEq, L2.rNe, L2.rU, L2.rEqD, L2.rNeD, Fm.tRevT, Fm.rLenS, Fm.rTupOf, Fm.rLstOf, L2.tDNewK, L2.tCallS, L2.WE, Fm.wKeep, Fm.rIsK, Fm.rIsKT, List.cons_append, List.nil_append, L2.tYes])
namespace Fm
open PySem PySem.Spec PyProof.Rows L2
abbrev s_has_form : Stmt := top 16
abbrev N_has_form : List Str := ["thing", "m", "floors", "most", "counts"]
theorem sc_has_form : FnScope N_has_form ["thing", "m", "floors", "most"] (defScope s_has_form) := ⟨rfl, rfl, rfl, by decide +kernel, rfl, by decide +kernel, by decide +kernel⟩
section
variable {P : Program} {w : World} {K : PySem.W.Frag} {mg : Str → Option Value} {base : Heap}
/-! ### standings, as data -/
def rowD (r : List Int) : PyData := .tuple (r.map PyData.int)
def stD (rows : List (List Int)) (out : Int) : PyData := .tuple (rows.map rowD ++ [.int out])
structure StOk (m : Nat) (rows : List (List Int)) (out : Int) : Prop where
  len : ∀ r ∈ rows, r.length = m
  pos : ∀ r ∈ rows, ∀ c ∈ r, 0 ≤ c
  out : 0 ≤ out
theorem sl_init {K : PySem.W.Frag} {H : Hp} {Q : VK} {a : Addr} {xs : List V} {y : V} (h : SqT K H a (xs ++ [y])) (q : ∀ p, H p = none → Q (.ref p) (upd H p (.tup xs))) : rSlA K (.ref a) none (some (-1)) H Q := by
  have e1 : HT.sIx (xs ++ [y]).length 0 none = 0 := rfl
  have e2 : HT.sIx (xs ++ [y]).length (xs ++ [y]).length (some (-1)) = xs.length := by
    unfold HT.sIx
    rw [List.length_append]
    show (if (-1 : Int) < 0 then _ else _) = _
    rw [if_pos (by decide)]
    show ((-1 : Int) + ((xs.length + 1 : Nat) : Int)).toNat = _
    omega
  refine ⟨a, _, rfl, h, fun z => ?_, fun _ p hp => ?_⟩
  · rw [e2, List.length_append] at z
    have : ([y] : List V).length = 1 := rfl
    omega
  · have e3 : cutV (xs ++ [y]) none (some (-1)) = xs := by
      unfold cutV
      rw [e1, e2, List.drop_zero, Nat.sub_zero, List.take_left]
    rw [e3]
    exact q p hp
theorem atI_last {xs : List V} {y : V} (hl : xs.length ≤ 1000) : atI (xs ++ [y]) (-1) = some y := by
  unfold atI ixN
  rw [if_neg (by decide), List.length_append]
  have h1 : ([y] : List V).length = 1 := rfl
  rw [h1, if_pos (by omega)]
  show (xs ++ [y])[_]? = some y
  have e : ((-1 : Int) + ((xs.length + 1 : Nat) : Int)).toNat = xs.length := by omega
  rw [e]
  simp
/-- a standing's parts in the heap -/
theorem st_parts {H : Hp} {p : Addr} {v : V} {rows : List (List Int)} {out : Int} (h : Dat H p v (stD rows out)) : ∃ a xs, v = .ref a ∧ H a = some (.tup (xs ++ [.int out])) ∧ a ≠ p ∧ Dats H p xs (rows.map rowD) := by
  obtain ⟨a, ys, rfl, ha, np, hs⟩ := h.isTup
  have hl := hs.1
  rw [List.length_append] at hl
  have h1 : ([PyData.int out] : List PyData).length = 1 := rfl
  obtain ⟨x, hx, hdx⟩ := hs.back (i := (rows.map rowD).length) (d := .int out) (by simp)
  obtain rfl := hdx.isInt
  refine ⟨a, ys.take (rows.map rowD).length, rfl, ?_, np, by rw [List.length_take]; omega, fun i x d e1 e2 => ?_⟩
  · have e : ys = ys.take (rows.map rowD).length ++ [.int out] := by
      conv => lhs; rw [← List.take_append_drop (rows.map rowD).length ys]
      congr 1
      rw [List.drop_eq_getElem_cons (by omega), List.drop_eq_nil_of_le (by omega)]
      congr 1
      have := List.getElem?_eq_some_iff.mp hx
      exact this.2
    rw [← e]
    exact ha
  · have hi : i < (rows.map rowD).length := (List.getElem?_eq_some_iff.mp e2).1
    rw [List.getElem?_take_of_lt hi] at e1
    exact hs.2 i x d e1 (by rw [List.getElem?_append_left hi]; exact e2)
def spForm : Sp := fun vs H Q _ => ∃ (v : V) (p : Addr) (m n : Nat) (rows : List (List Int)) (out : Int), vs = [v, .int m, .int n, .non] ∧ Dat H p v (stD rows out) ∧ rows.length = n ∧ 1 ≤ n ∧ n ≤ 4 ∧ StOk m rows out ∧ ∀ H', Same H H' → Q (.bl true) H'
theorem ok_has_form (D : Df K mg "has_form" s_has_form ["thing", "m", "floors", "most"]) (T : Nms mg) (c_is_tuple_of : CallOk P w K mg base CX0 1 "is_tuple_of" ["thing", "many"] spTupOf)
    (c_is_up_to : CallOk P w K mg base CX0 2 "is_up_to" ["thing", "most"] spUpTo) (c_are_up_to : CallOk P w K mg base CX0 3 "are_up_to" ["thing", "many", "most"] spAre) : CallOk P w K mg base CX0 4 "has_form" ["thing", "m", "floors", "most"] spForm := by
  refine df_ok D sc_has_form (fun vs H Q E h => ?_) (fun f cdv A outer s H vs Q E hr h => ?_)
  · obtain ⟨v, p, m, n, rows, out, rfl, _⟩ := h
    rfl
  · obtain ⟨v, p, m, n, rows, out, rfl, hd, hn, hn1, hn4, ok, k⟩ := h
    obtain ⟨a, xs, rfl, ha, nap, hx⟩ := st_parts hd
    have nd := sc_has_form.nd
    refine ⟨_, (pss_cons (ps_if (PW.pt (pw_or (pt_not (pt_val (pe_cc c_is_tuple_of (hr.mono (by omega)) (pa_cons (pv 0) (pa_cons (pe_op op_add (pv 2) pe_int) pa_nil))))) (pw_or1 (pt_not (pt_val (pe_cc c_is_up_to (hr.mono (by omega)) (pa_cons (pe_ix (r := rIxT K) ix_tup (pv 0) (pe_un un_neg pe_int) (fun _ _ => rfl)) (pa_cons (pv 3) pa_nil)))))))) (pss_one (ps_ret pe_bl)) pss_nil)
      (pss_cons (ps_for PassesOwn.never rfl (pi_tup (pe_slice (r := rSlA K) sl_tupA (pv 0) po_none (po_some (pe_un un_neg pe_int)))) (pg_name (i := 4) nd rfl (Or.inl rfl)) (pss_one (ps_if (pt_not (pt_val (pe_cc c_are_up_to (hr.mono (by omega)) (pa_cons (pv 4) (pa_cons (pv 1) (pa_cons (pv 3) pa_nil)))))) (pss_one (ps_ret pe_bl)) pss_nil)))
      (pss_one (ps_ret pe_bl)))), ?_⟩
    walk_at "op"
    walk_at "st"
    refine ⟨_, _, p, _, rfl, hd, fun b hb => ?_⟩
    have hb1 : b = true := hb.mpr ⟨_, rfl, by simp [hn]⟩
    walk_at "st"
    subst hb1
    refine iteF ?_
    walk_at "st"
    refine ⟨_, _, _, _, rfl, rfl, SqT.of ha, atI_last (by rw [hx.1, List.length_map]; omega), ?_⟩
    walk_at "st"
    refine ⟨_, _, p, _, rfl, Dat.int out, .inl rfl, fun b hb => ?_⟩
    have hb1 : b = true := hb.mpr ⟨_, rfl, ok.out, fun M z => by cases z⟩
    walk_at "st"
    subst hb1
    refine iteF ?_
    walk_at "st"
    refine sl_init (SqT.of ha) fun q hq => ?_
    refine ⟨_, rfl, ⟨_, SqT.of upd_same⟩, fT (xs := xs) (fun i σ H' => Same H H' ∧ H' q = some (.tup xs) ∧ ∃ u, σ = [some (.ref a), some (.int m), some (.int n), some .non, u])
      ⟨same_new hq, upd_same, _, rfl⟩ (fun i σ H' _ ⟨_, e, _⟩ => SqT.of e) ?_ ?_⟩
    · rintro i x σ H' hxi ⟨sm, hq2, u, rfl⟩
      obtain ⟨e, he, hde⟩ := hx.at hxi
      rw [List.getElem?_map] at he
      cases er : rows[i]? with
      | none => rw [er] at he; cases he
      | some r =>
        rw [er] at he
        cases he
        have hr := List.mem_of_getElem? er
        walk_at "op"
        walk_at "st"
        refine ⟨x, _, _, p, _, rfl, hde.same sm, .inl rfl, fun b hb => ?_⟩
        have hb1 : b = true := hb.mpr ⟨_, rfl, by rw [List.length_map, ok.len r hr], fun e he => by
          obtain ⟨c, hc, rfl⟩ := List.mem_map.mp he
          exact ⟨c, rfl, ok.pos r hr c hc, fun M z => by cases z⟩⟩
        walk_at "st"
        subst hb1
        exact iteF ⟨sm, hq2, _, rfl⟩
    · rintro σ H' ⟨sm, hq2, u, rfl⟩
      walk_at "op"
      exact k _ sm
end
end Fm
end FK1
section FK2
set_option Elab.async false
set_option linter.all false
set_option maxRecDepth 100000
set_option maxHeartbeats 4000000
local macro_rules | `(tactic| walk_at "ne") => `(tactic| first | assumption | (apply Ne.symm; assumption) | exact L2.ne_of_none (by assumption) (by assumption) | exact Ne.symm (L2.ne_of_none (by assumption) (by assumption)))
local macro_rules | `(tactic| walk_at "hl") => `(tactic| first | assumption | exact L2.upd_same | (refine Eq.trans (L2.upd_ne (by walk_at "ne")) ?_; walk_at "hl"))
local macro_rules | `(tactic| walk_at "sd") => `(tactic| first | (with_reducible show (_ : Int) < _; omega) | (with_reducible show (_ : Int) ≤ _; omega) | assumption | decide | exact ⟨by assumption, by assumption⟩ | exact ⟨by decide, by decide⟩ | exact Or.inr ⟨by decide, by decide⟩ | exact Or.inl ⟨by omega, by omega⟩ | rfl)
local macro_rules | `(tactic| walk_at "st1") => `(tactic| first
  | refine ⟨_, rfl, ?_⟩
  | refine ⟨_, _, rfl, rfl, ?_⟩
  | refine ⟨_, _, rfl, ?_⟩
  | (refine ⟨_, _, _, _, rfl, rfl, L2.SqL.of (by walk_at "hl"), rfl, ?_⟩)
  | (refine ⟨_, _, _, _, rfl, rfl, L2.SqT.of (by walk_at "hl"), rfl, ?_⟩)
  | (refine ⟨_, _, _, _, rfl, rfl, (by walk_at "hl"), rfl, ?_⟩)
  | (refine And.intro (by walk_at "sd") ?_)
  )
local macro_rules | `(tactic| walk_at "st") => `(tactic| repeat walk_at "st1")
local macro_rules | `(tactic| walk_at "op") => `(tactic| try dsimp only [L2.tSeq, L2.tAsg, L2.tOp, L2.tVar, L2.tC, L2.gSub, L2.rI, L2.rI0, L2.rIxL, L2.rIxT, L2.rSetL, L2.tIfS, L2.tTest, L2.tRet, L2.gName, L2.tNext, L2.tAnd, L2.tOr, L2.tNot, L2.tAndV, L2.tOrV, L2.tNotV, L2.tB, L2.tCB, L2.tCons, L2.tNil, L2.tCall, L2.tTup, L2.tLst, L2.tChain, L2.tUn, L2.tPar, L2.tDrop, L2.tIf, L2.tBM, L2.tBM0, L2.rAppend, L2.rCat, L2.rIsi, L2.rIsiT, L2.gTup, L2.gCons, L2.gNil, Fm.tFor_eq, Fm.tLc_eq, L2.iTup, L2.iList, L2.iRng1, L2.iRng2, L2.tSl, L2.tPart, L2.tNoPart, L2.rSlL, L2.rEq, L2.rNe, L2.rU, L2.rEqD, L2.rNeD, Fm.tRevT, Fm.rLenS, Fm.rTupOf, Fm.rLstOf, L2.tDNewK, L2.tCallS, L2.WE, Fm.wKeep, Fm.rIsK, Fm.rIsKT, List.cons_append, List.nil_append, L2.tYes])
namespace Fm
open PySem PySem.Spec PyProof.Rows L2
abbrev s_coming : Stmt := top 23
abbrev N_coming : List Str := ["standing", "told", "rising", "counts", "many"]
theorem sc_coming : FnScope N_coming ["standing"] (defScope s_coming) := ⟨rfl, rfl, rfl, by decide +kernel, rfl, by decide +kernel, by decide +kernel⟩
abbrev s_meetings_left : Stmt := top 21
abbrev N_meetings_left : List Str := ["standing", "many"]
theorem sc_meetings_left : FnScope N_meetings_left ["standing"] (defScope s_meetings_left) := ⟨rfl, rfl, rfl, by decide +kernel, rfl, by decide +kernel, by decide +kernel⟩
section
variable {P : Program} {w : World} {K : PySem.W.Frag} {mg : Str → Option Value} {base : Heap}
theorem houseN_inj {m n m' n' : Nat} {d : PyData} (h : HouseN m n d) (h' : HouseN m' n' d) : m = m' ∧ n = n' := by
  obtain ⟨fs, rfl, hl, h1, h4, _, _, hf⟩ := h
  obtain ⟨fs', e, hl', _, _, _, _, hf'⟩ := h'
  cases e
  have h0 : 0 < fs.length := by omega
  obtain ⟨s, u, e1, ⟨rs, e2, e3, _⟩, _⟩ := hf fs[0] (List.getElem_mem _)
  obtain ⟨s', u', e1', ⟨rs', e2', e3', _⟩, _⟩ := hf' fs[0] (List.getElem_mem _)
  rw [e1] at e1'
  cases e1'
  rw [e2] at e2'
  cases e2'
  exact ⟨by omega, by omega⟩
theorem dats_ints {H : Hp} {p : Addr} : ∀ {ys : List V} {ns : List Int}, Dats H p ys (ns.map PyData.int) → ys = ns.map V.int
  | [], [], _ => rfl
  | [], n :: ns, h => by have := h.1; simp at this
  | y :: ys, [], h => by have := h.1; simp at this
  | y :: ys, n :: ns, h => by
    obtain rfl := (h.2 0 y (.int n) rfl rfl).isInt
    rw [dats_ints (ys := ys) (ns := ns) ⟨by have := h.1; simpa using this, fun i x d a b => h.2 (i + 1) x d a b⟩]
    rfl
theorem row_parts {H : Hp} {p : Addr} {v : V} {r : List Int} (h : Dat H p v (rowD r)) : ∃ a, v = .ref a ∧ H a = some (.tup (r.map V.int)) ∧ a ≠ p := by
  obtain ⟨a, ys, rfl, ha, np, hs⟩ := h.isTup
  rw [dats_ints hs] at ha
  exact ⟨a, rfl, ha, np⟩
theorem sameOff {H H' : Hp} {L : Addr} {o : HO} (e : Same H H') (h : H L = none) : Same H (upd H' L o) := fun b u eb => by
  rw [upd_ne (ne_of_none eb h)]
  exact e b u eb
theorem sameFree {H H' : Hp} {S : Addr} (e : Same H H') (h : H' S = none) : H S = none := by
  cases q : H S with
  | none => rfl
  | some u =>
    rw [e S u q] at h
    cases h
/-- how many come to each floor -/
def comeF : Int → List (List Int) → List Int
  | _, [] => []
  | r, c :: cs => (c.sum + r) :: comeF (if c.sum + r = 0 then 0 else c.sum + r - 1) cs
theorem comeF_len : ∀ (r : Int) (rows : List (List Int)), (comeF r rows).length = rows.length
  | _, [] => rfl
  | r, c :: cs => by unfold comeF; rw [List.length_cons, List.length_cons, comeF_len]
def spComing : Sp := fun vs H Q _ => ∃ (v : V) (p : Addr) (rows : List (List Int)) (out : Int), vs = [v] ∧ Dat H p v (stD rows out) ∧ rows.length ≤ 4 ∧ ∀ q H', H q = none → H' q = some (.lst ((comeF 0 rows).map V.int)) → Same H H' → Q (.ref q) H'
theorem ok_coming (D : Df K mg "coming" s_coming ["standing"]) (T : Nms mg) : CallOk P w K mg base CX0 1 "coming" ["standing"] spComing := by
  refine df_ok D sc_coming (fun vs H Q E h => ?_) (fun f cdv A outer s H vs Q E hr h => ?_)
  · obtain ⟨v, p, rows, out, rfl, _⟩ := h
    rfl
  · obtain ⟨v, p, rows, out, rfl, hd, hn4, k⟩ := h
    obtain ⟨a, xs, rfl, ha, nap, hx⟩ := st_parts hd
    have nd := sc_coming.nd
    refine ⟨_, (pss_cons (ps_set (i := 1) nd rfl (Or.inl rfl) (pe_lst pa_nil))
      (pss_cons (ps_set (i := 2) nd rfl (Or.inl rfl) pe_int)
      (pss_cons (ps_for PassesOwn.never rfl (pi_tup (pe_slice (r := rSlA K) sl_tupA (pv 0) po_none (po_some (pe_un un_neg pe_int)))) (pg_name (i := 3) nd rfl (Or.inl rfl)) (pss_cons (ps_set (i := 4) nd rfl (Or.inl rfl) (pe_op op_add (pe_callB (r := rSumI K) (cr_sumI rfl) (by rfl) T.n_sum (by decide +kernel) (pa_cons (pv 3) pa_nil)) (pv 2)))
      (pss_cons (ps_expr (pe_bm PySem.F.plainAttrs_list PySem.F.slot_list_append PySem.F.type_list_append mt_append (pv 1) (pa_cons (pv 4) pa_nil)))
      (pss_one (ps_set (i := 2) nd rfl (Or.inl rfl) (pe_ifExp (pt_truth (pv 4) (fun _ => rfl)) (pe_op op_sub (pv 4) pe_int) pe_int))))))
      (pss_one (ps_ret (pv 1)))))), ?_⟩
    walk_at "op"
    walk_at "st"
    refine fun L hL => ?_
    have nL : a ≠ L := ne_of_none ha hL
    walk_at "st"
    refine sl_init (SqT.of (by rw [upd_ne nL]; exact ha)) fun q hq => ?_
    have nLq : L ≠ q := ne_of_none upd_same hq
    have hq0 : H q = none := by rw [← hq, upd_ne nLq.symm]
    refine ⟨_, rfl, ⟨_, SqT.of upd_same⟩, fT (xs := xs) (fun i σ H' => Same H H' ∧ H' q = some (.tup xs) ∧ ∃ (T : List Int) (r : Int) (u1 u2 : Option V), σ = [some (.ref a), some (.ref L), some (.int r), u1, u2] ∧ H' L = some (.lst (T.map V.int)) ∧ T.length = i ∧ comeF 0 rows = T ++ comeF r (rows.drop i))
      ⟨sameOff (sameOff (Same.refl H) hL) hq0, upd_same, [], 0, _, _, rfl, by rw [upd_ne nLq]; exact upd_same, rfl, rfl⟩ (fun i σ H' _ ⟨_, e, _⟩ => SqT.of e) ?_ ?_⟩
    · rintro i x σ H' hxi ⟨sm, hq2, T', r, u1, u2, rfl, hL2, hl, hc⟩
      obtain ⟨e, he, hde⟩ := hx.at hxi
      rw [List.getElem?_map] at he
      cases er : rows[i]? with
      | none => rw [er] at he; cases he
      | some c =>
        rw [er] at he
        cases he
        obtain ⟨ac, rfl, hac, _⟩ := row_parts (hde.same sm)
        have hil := (List.getElem?_eq_some_iff.mp er).1
        have ed : rows.drop i = c :: rows.drop (i + 1) := by
          rw [List.drop_eq_getElem_cons hil]
          rw [List.getElem?_eq_getElem hil] at er
          cases er
          rfl
        have hc2 : comeF 0 rows = (T' ++ [c.sum + r]) ++ comeF (if c.sum + r = 0 then 0 else c.sum + r - 1) (rows.drop (i + 1)) := by
          rw [hc, ed]
          conv => lhs; unfold comeF
          rw [List.append_assoc]
          rfl
        walk_at "op"
        walk_at "st"
        refine .inr ⟨ac, c, rfl, SqT.of hac, ?_⟩
        walk_at "st"
        refine ⟨.inl ⟨rfl, _, SqL.of hL2⟩, ?_⟩
        walk_at "st"
        refine ⟨_, _, _, rfl, rfl, hL2, by rw [List.length_map, hl]; exact small1000 (by omega), ?_⟩
        walk_at "st"
        have tailOk : ∀ z : Int, (if c.sum + r = 0 then 0 else c.sum + r - 1) = z → Same H (upd H' L (.lst (T'.map V.int ++ [.int (c.sum + r)]))) ∧ upd H' L (.lst (T'.map V.int ++ [.int (c.sum + r)])) q = some (.tup xs) ∧
            ∃ (T2 : List Int) (r2 : Int) (w1 w2 : Option V), [some (V.ref a), some (V.ref L), some (V.int z), some (V.ref ac), some (V.int (c.sum + r))] = [some (.ref a), some (.ref L), some (.int r2), w1, w2] ∧
              upd H' L (.lst (T'.map V.int ++ [.int (c.sum + r)])) L = some (.lst (T2.map V.int)) ∧ T2.length = i + 1 ∧ comeF 0 rows = T2 ++ comeF r2 (rows.drop (i + 1)) := fun z hz => by
          refine ⟨sameOff sm hL, by rw [upd_ne nLq.symm]; exact hq2, T' ++ [c.sum + r], z, _, _, rfl, by rw [upd_same, List.map_append]; rfl, by simp [hl], ?_⟩
          rw [hc2, hz]
        refine ite2 (fun c0 => ?_) (fun c0 => ?_)
        · walk_at "st"
          exact tailOk _ (if_neg (by simpa using c0))
        · exact tailOk _ (if_pos (by simpa using c0))
    · rintro σ H' ⟨sm, hq2, T', r, u1, u2, rfl, hL2, hl, hc⟩
      walk_at "op"
      walk_at "st"
      have e : rows.drop xs.length = [] := by
        rw [hx.1, List.length_map]
        simp
      rw [e, show comeF r [] = [] from by unfold comeF; rfl, List.append_nil] at hc
      exact k L H' hL (by rw [hL2, hc]) sm

def leftF (rows : List (List Int)) : Int := ((comeF 0 rows).map fun s => if s - 1 > 0 then s - 1 else 0).sum
def spLeft : Sp := fun vs H Q _ => ∃ (v : V) (p : Addr) (rows : List (List Int)) (out : Int), vs = [v] ∧ Dat H p v (stD rows out) ∧ rows.length ≤ 4 ∧ ∀ H', Same H H' → Q (.int (leftF rows)) H'
theorem ok_meetings_left (D : Df K mg "meetings_left" s_meetings_left ["standing"]) (T : Nms mg) (c_coming : CallOk P w K mg base CX0 1 "coming" ["standing"] spComing) : CallOk P w K mg base CX0 2 "meetings_left" ["standing"] spLeft := by
  refine df_ok D sc_meetings_left (fun vs H Q E h => ?_) (fun f cdv A outer s H vs Q E hr h => ?_)
  · obtain ⟨v, p, rows, out, rfl, _⟩ := h
    rfl
  · obtain ⟨v, p, rows, out, rfl, hd, hn4, k⟩ := h
    have nd := sc_meetings_left.nd
    refine ⟨_, (pss_one (ps_ret (pe_callB (r := rSumI K) (cr_sumI rfl) (by rfl) T.n_sum (by decide +kernel) (pa_cons (pe_lc (own := [("many", 1)]) (g := (gName 1)) (tt := tYes) (by rfl) nd (pi_list (pe_cc c_coming (hr.mono (by omega)) (pa_cons (pv 0) pa_nil))) (blkOk_by (own := [("many", 1)]) (N := N_meetings_left) (sc := defScope s_meetings_left) (by decide +kernel)) (fun _ _ _ _ _ => (pg_name (i := 1) nd rfl (Or.inl rfl))) (fun _ _ _ _ _ => pts_nil) (fun _ _ _ _ _ => (pe_callB (call_max2 rfl) (by rfl) T.n_max (by decide +kernel) (pa_cons pe_int (pa_cons (pe_op op_sub (pv 1) pe_int) pa_nil))))) pa_nil)))), ?_⟩
    walk_at "op"
    walk_at "st"
    refine ⟨v, p, rows, out, rfl, hd, hn4, fun q H1 hq hq1 sm => ?_⟩
    refine ⟨_, rfl, ⟨_, SqL.of hq1⟩, fun D' hD' => ?_⟩
    have nqD : q ≠ D' := ne_of_none hq1 hD'
    have hD0 := sameFree sm hD'
    refine lI walk_list (fun i H2 => Same H H2 ∧ H2 q = some (.lst ((comeF 0 rows).map V.int)) ∧ ∃ T2 : List Int, H2 D' = some (.lst (T2.map V.int)) ∧ T2 = ((comeF 0 rows).map fun s => if s - 1 > 0 then s - 1 else 0).take i) 
      ⟨sameOff sm hD0, by rw [upd_ne nqD]; exact hq1, [], upd_same, rfl⟩ (fun i H2 _ ⟨_, e, _⟩ => SqL.of e) ?_ ?_
    · rintro i x H2 _ hi ⟨sm2, hq2, T2, hT2, e2⟩ ⟨rfl, hx⟩
      rw [List.getElem?_map] at hx
      cases es : (comeF 0 rows)[i]? with
      | none => rw [es] at hx; cases hx
      | some c =>
        rw [es] at hx
        cases hx
        walk_at "op"
        refine ⟨rfl, ?_⟩
        walk_at "st"
        have hlen : T2.length ≤ 4 := by
          rw [e2, List.length_take, List.length_map, comeF_len]
          omega
        refine ⟨_, hT2, by rw [List.length_map]; exact small1000 (by omega), sameOff sm2 hD0, by rw [upd_ne nqD]; exact hq2, T2 ++ [if c - 1 > 0 then c - 1 else 0], by rw [upd_same, List.map_append]; rfl, ?_⟩
        rw [e2, List.take_add_one, List.getElem?_map, es]
        rfl
    · rintro H2 ⟨sm2, hq2, T2, hT2, e2⟩
      walk_at "op"
      walk_at "st"
      refine .inl ⟨D', T2, rfl, SqL.of hT2, ?_⟩
      rw [e2, List.length_map, ← List.length_map (f := fun s => if s - 1 > 0 then s - 1 else 0), List.take_length]
      exact k _ sm2
end
end Fm
end FK2
section FK3
set_option Elab.async false
set_option linter.all false
set_option maxRecDepth 100000
set_option maxHeartbeats 4000000
local macro_rules | `(tactic| walk_at "ne") => `(tactic| first | assumption | (apply Ne.symm; assumption) | exact L2.ne_of_none (by assumption) (by assumption) | exact Ne.symm (L2.ne_of_none (by assumption) (by assumption)))
local macro_rules | `(tactic| walk_at "hl") => `(tactic| first | assumption | exact L2.upd_same | (refine Eq.trans (L2.upd_ne (by walk_at "ne")) ?_; walk_at "hl"))
local macro_rules | `(tactic| walk_at "sd") => `(tactic| first | (with_reducible show (_ : Int) < _; omega) | (with_reducible show (_ : Int) ≤ _; omega) | assumption | decide | exact ⟨by assumption, by assumption⟩ | exact ⟨by decide, by decide⟩ | exact Or.inr ⟨by decide, by decide⟩ | exact Or.inl ⟨by omega, by omega⟩ | rfl)
local macro_rules | `(tactic| walk_at "st1") => `(tactic| first
  | refine ⟨_, rfl, ?_⟩
  | refine ⟨_, _, rfl, rfl, ?_⟩
  | refine ⟨_, _, rfl, ?_⟩
  | (refine ⟨_, _, _, _, rfl, rfl, L2.SqL.of (by walk_at "hl"), rfl, ?_⟩)
  | (refine ⟨_, _, _, _, rfl, rfl, L2.SqT.of (by walk_at "hl"), rfl, ?_⟩)
  | (refine ⟨_, _, _, _, rfl, rfl, (by walk_at "hl"), rfl, ?_⟩)
  | (refine And.intro (by walk_at "sd") ?_)
  )
local macro_rules | `(tactic| walk_at "st") => `(tactic| repeat walk_at "st1")
local macro_rules | `(tactic| walk_at "op") => `(tactic| try dsimp only [L2.tSeq, L2.tAsg, L2.tOp, L2.tVar, L2.tC, L2.gSub, L2.rI, L2.rI0, L2.rIxL, L2.rIxT, L2.rSetL, L2.tIfS, L2.tTest, L2.tRet, L2.gName, L2.tNext, L2.tAnd, L2.tOr, L2.tNot, L2.tAndV, L2.tOrV, L2.tNotV, L2.tB, L2.tCB, L2.tCons, L2.tNil, L2.tCall, L2.tTup, L2.tLst, L2.tChain, L2.tUn, L2.tPar, L2.tDrop, L2.tIf, L2.tBM, L2.tBM0, L2.rAppend, L2.rCat, L2.rIsi, L2.rIsiT, L2.gTup, L2.gCons, L2.gNil, Fm.tFor_eq, Fm.tLc_eq, L2.iTup, L2.iList, L2.iRng1, L2.iRng2, L2.tSl, L2.tPart, L2.tNoPart, L2.rSlL, L2.rEq, L2.rNe, L2.rU, L2.rEqD, L2.rNeD, Fm.tRevT, Fm.rLenS, Fm.rTupOf, Fm.rLstOf, L2.tDNewK, L2.tCallS, L2.WE, Fm.wKeep, Fm.rIsK, Fm.rIsKT, List.cons_append, List.nil_append, L2.tYes])
namespace Fm
open PySem PySem.Spec PyProof.Rows L2
abbrev s_check_standing : Stmt := top 17
abbrev N_check_standing : List Str := ["house", "standing", "m", "floors"]
theorem sc_check_standing : FnScope N_check_standing ["house", "standing"] (defScope s_check_standing) := ⟨rfl, rfl, rfl, by decide +kernel, rfl, by decide +kernel, by decide +kernel⟩
abbrev s_how_long : Stmt := top 20
abbrev N_how_long : List Str := ["house", "standing"]
theorem sc_how_long : FnScope N_how_long ["house", "standing"] (defScope s_how_long) := ⟨rfl, rfl, rfl, by decide +kernel, rfl, by decide +kernel, by decide +kernel⟩
abbrev s_who_rests : Stmt := top 22
abbrev N_who_rests : List Str := ["house", "standing", "many"]
theorem sc_who_rests : FnScope N_who_rests ["house", "standing"] (defScope s_who_rests) := ⟨rfl, rfl, rfl, by decide +kernel, rfl, by decide +kernel, by decide +kernel⟩
section
variable {P : Program} {w : World} {K : PySem.W.Frag} {mg : Str → Option Value} {base : Heap}
def spWho (K : PySem.W.Frag) : Sp := fun vs H Q _ => ∃ (hv sv : V) (p p' : Addr) (hd : PyData) (m n : Nat) (rows : List (List Int)) (out : Int), vs = [hv, sv] ∧ Dat H p hv hd ∧ HouseN m n hd ∧ Dat H p' sv (stD rows out) ∧ rows.length = n ∧ StOk m rows out ∧
  ∀ q H', H q = none → H' q = some (.tup ((comeF 0 rows).map fun s => V.bl (decide (s > 0)))) → Same H H' → Q (.ref q) H'
def spStIn (R : List (List Int) → Int → VK → Hp → Prop) : Sp := fun vs H Q _ => ∃ (hv sv : V) (p p' : Addr) (hd : PyData) (m n : Nat) (rows : List (List Int)) (out : Int), vs = [hv, sv] ∧ Dat H p hv hd ∧ HouseN m n hd ∧ Dat H p' sv (stD rows out) ∧ rows.length = n ∧ StOk m rows out ∧ R rows out Q H
def spCheck : Sp := spStIn fun _ _ Q H => ∀ H', Same H H' → Q .non H'
theorem ok_check_standing (D : Df K mg "check_standing" s_check_standing ["house", "standing"]) (T : Nms mg) {C M C2 : Addr} (EX_NoStanding : Exn K mg "NoStanding" C2 M)
    (c_size : CallOk P w K mg base (L2.CX P w) 6 "size" ["house"] (spSize C)) (c_has_form : CallOk P w K mg base CX0 4 "has_form" ["thing", "m", "floors", "most"] spForm) :
    CallOk P w K mg base (L2.CX P w) 7 "check_standing" ["house", "standing"] spCheck := by
  refine df_okX D sc_check_standing (fun vs H Q E h => ?_) (fun f cdv A outer s H vs Q E hr h => ?_)
  · obtain ⟨hv, sv, p, p', hd, m, n, rows, out, rfl, _⟩ := h
    rfl
  · obtain ⟨hv, sv, p, p', hd, m, n, rows, out, rfl, hD, hN, sD, hl, ok, k⟩ := h
    have nd := sc_check_standing.nd
    refine ⟨_, (pss_cons (ps_asg (pe_cx c_size (hr.mono (by omega)) (pa_cons (pv 0) pa_nil)) (pg_tup rfl (pgs_cons (pg_name (i := 2) nd rfl (Or.inl rfl)) (pgs_cons (pg_name (i := 3) nd rfl (Or.inl rfl)) pgs_nil))))
      (pss_one (ps_if (pt_not (pt_val (pe_cc c_has_form (hr.mono (by omega)) (pa_cons (pv 1) (pa_cons (pv 2) (pa_cons (pv 3) (pa_cons pe_non pa_nil))))))) (pss_one (ps_raiseE rfl (takes_of rfl rfl rfl rfl) EX_NoStanding rfl)) pss_nil))), ?_⟩
    walk_at "op"
    walk_at "st"
    refine ⟨hv, p, hd, rfl, hD, fun m' n' hN' q H' hq hq2 sm => ?_, fun no => (no ⟨m, n, hN⟩).elim⟩
    obtain ⟨rfl, rfl⟩ := houseN_inj hN hN'
    refine ⟨q, _, rfl, SqT.of hq2, rfl, _, _, rfl, _, _, rfl, rfl, ?_⟩
    walk_at "op"
    walk_at "st"
    obtain ⟨_, _, _, hn1, hn4, _⟩ := hN
    refine ⟨sv, p', m, n, rows, out, rfl, sD.same sm, hl, hn1, hn4, ok, fun H2 sm2 => ?_⟩
    walk_at "st"
    exact iteF (k _ (sm.trans sm2))
theorem ok_how_long (D : Df K mg "how_long" s_how_long ["house", "standing"]) (T : Nms mg) (c_check_standing : CallOk P w K mg base (L2.CX P w) 7 "check_standing" ["house", "standing"] spCheck)
    (c_meetings_left : CallOk P w K mg base CX0 2 "meetings_left" ["standing"] spLeft) : CallOk P w K mg base CX0 8 "how_long" ["house", "standing"] (spStIn fun rows _ Q H => ∀ H', Same H H' → Q (.int (leftF rows)) H') := by
  refine df_ok D sc_how_long (fun vs H Q E h => ?_) (fun f cdv A outer s H vs Q E hr h => ?_)
  · obtain ⟨hv, sv, p, p', hd, m, n, rows, out, rfl, _⟩ := h
    rfl
  · obtain ⟨hv, sv, p, p', hd, m, n, rows, out, rfl, hD, hN, sD, hl, ok, k⟩ := h
    have nd := sc_how_long.nd
    have hn4 : n ≤ 4 := by
      obtain ⟨_, _, _, _, hn4, _⟩ := hN
      exact hn4
    refine ⟨_, (pss_cons (ps_expr (pe_cx c_check_standing (hr.mono (by omega)) (pa_cons (pv 0) (pa_cons (pv 1) pa_nil))))
      (pss_one (ps_ret (pe_cc c_meetings_left (hr.mono (by omega)) (pa_cons (pv 1) pa_nil))))), ?_⟩
    walk_at "op"
    walk_at "st"
    refine ⟨hv, sv, p, p', hd, m, n, rows, out, rfl, hD, hN, sD, hl, ok, fun H1 sm => ?_⟩
    walk_at "op"
    walk_at "st"
    exact ⟨sv, p', rows, out, rfl, sD.same sm, by omega, fun H2 sm2 => k _ (sm.trans sm2)⟩
theorem ok_who_rests (D : Df K mg "who_rests" s_who_rests ["house", "standing"]) (T : Nms mg) (c_check_standing : CallOk P w K mg base (L2.CX P w) 7 "check_standing" ["house", "standing"] spCheck)
    (c_coming : CallOk P w K mg base CX0 1 "coming" ["standing"] spComing) : CallOk P w K mg base CX0 8 "who_rests" ["house", "standing"]
      (spStIn fun rows _ Q H => ∀ q H', H q = none → H' q = some (.tup ((comeF 0 rows).map fun s => V.bl (decide (s > 0)))) → Same H H' → Q (.ref q) H') := by
  refine df_ok D sc_who_rests (fun vs H Q E h => ?_) (fun f cdv A outer s H vs Q E hr h => ?_)
  · obtain ⟨hv, sv, p, p', hd, m, n, rows, out, rfl, _⟩ := h
    rfl
  · obtain ⟨hv, sv, p, p', hd, m, n, rows, out, rfl, hD, hN, sD, hl, ok, k⟩ := h
    have nd := sc_who_rests.nd
    have hn4 : n ≤ 4 := by
      obtain ⟨_, _, _, _, hn4, _⟩ := hN
      exact hn4
    refine ⟨_, (pss_cons (ps_expr (pe_cx c_check_standing (hr.mono (by omega)) (pa_cons (pv 0) (pa_cons (pv 1) pa_nil))))
      (pss_one (ps_ret (pe_callTy (r := rTupOf K) call_tupOf (by rfl) T.n_tuple (by decide +kernel) (pa_cons (pe_lc (own := [("many", 2)]) (g := (gName 2)) (tt := tYes) (by rfl) nd (pi_list (pe_cc c_coming (hr.mono (by omega)) (pa_cons (pv 1) pa_nil))) (blkOk_by (own := [("many", 2)]) (N := N_who_rests) (sc := defScope s_who_rests) (by decide +kernel)) (fun _ _ _ _ _ => (pg_name (i := 2) nd rfl (Or.inl rfl))) (fun _ _ _ _ _ => pts_nil) (fun _ _ _ _ _ => (pe_cmpR op_gt (pv 2) pe_int (nomark _)))) pa_nil))))), ?_⟩
    walk_at "op"
    walk_at "st"
    refine ⟨hv, sv, p, p', hd, m, n, rows, out, rfl, hD, hN, sD, hl, ok, fun H0 sm0 => ?_⟩
    walk_at "op"
    walk_at "st"
    refine ⟨sv, p', rows, out, rfl, sD.same sm0, by omega, fun q H1 hq hq1 sm => ?_⟩
    refine ⟨_, rfl, ⟨_, SqL.of hq1⟩, fun D' hD' => ?_⟩
    have nqD : q ≠ D' := ne_of_none hq1 hD'
    have hD0 := sameFree sm hD'
    refine lI walk_list (fun i H2 => Same H0 H2 ∧ H2 q = some (.lst ((comeF 0 rows).map V.int)) ∧ H2 D' = some (.lst (((comeF 0 rows).map fun s => V.bl (decide (s > 0))).take i))) 
      ⟨sameOff sm hD0, by rw [upd_ne nqD]; exact hq1, upd_same⟩ (fun i H2 _ ⟨_, e, _⟩ => SqL.of e) ?_ ?_
    · rintro i x H2 _ hi ⟨sm2, hq2, hT2⟩ ⟨rfl, hx⟩
      rw [List.getElem?_map] at hx
      cases es : (comeF 0 rows)[i]? with
      | none => rw [es] at hx; cases hx
      | some c =>
        rw [es] at hx
        cases hx
        walk_at "op"
        refine ⟨rfl, ?_⟩
        walk_at "st"
        have hlen : (((comeF 0 rows).map fun s => V.bl (decide (s > 0))).take i).length ≤ 4 := by
          rw [List.length_take, List.length_map, comeF_len]
          omega
        refine ⟨_, hT2, small1000 (by omega), sameOff sm2 hD0, by rw [upd_ne nqD]; exact hq2, ?_⟩
        rw [upd_same, List.take_add_one, List.getElem?_map, es]
        rfl
    · rintro H2 ⟨sm2, hq2, hT2⟩
      walk_at "op"
      walk_at "st"
      rw [List.length_map, ← List.length_map (f := fun s => V.bl (decide (s > 0))), List.take_length] at hT2
      refine ⟨_, _, rfl, .inl ⟨SqL.of hT2, fun t ht => k t _ (sameFree sm0 (sameFree sm2 ht)) upd_same (sm0.trans (sameOff sm2 (sameFree sm2 ht)))⟩⟩
end
end Fm
end FK3
section FK4
set_option Elab.async false
set_option linter.all false
set_option maxRecDepth 100000
set_option maxHeartbeats 4000000
local macro_rules | `(tactic| walk_at "ne") => `(tactic| first | assumption | (apply Ne.symm; assumption) | exact L2.ne_of_none (by assumption) (by assumption) | exact Ne.symm (L2.ne_of_none (by assumption) (by assumption)))
local macro_rules | `(tactic| walk_at "hl") => `(tactic| first | assumption | exact L2.upd_same | (refine Eq.trans (L2.upd_ne (by walk_at "ne")) ?_; walk_at "hl"))
local macro_rules | `(tactic| walk_at "sd") => `(tactic| first | (with_reducible show (_ : Int) < _; omega) | (with_reducible show (_ : Int) ≤ _; omega) | assumption | decide | exact ⟨by assumption, by assumption⟩ | exact ⟨by decide, by decide⟩ | exact Or.inr ⟨by decide, by decide⟩ | exact Or.inl ⟨by omega, by omega⟩ | rfl)
local macro_rules | `(tactic| walk_at "st1") => `(tactic| first
  | refine ⟨_, rfl, ?_⟩
  | refine ⟨_, _, rfl, rfl, ?_⟩
  | refine ⟨_, _, rfl, ?_⟩
  | (refine ⟨_, _, _, _, rfl, rfl, L2.SqL.of (by walk_at "hl"), rfl, ?_⟩)
  | (refine ⟨_, _, _, _, rfl, rfl, L2.SqT.of (by walk_at "hl"), rfl, ?_⟩)
  | (refine ⟨_, _, _, _, rfl, rfl, (by walk_at "hl"), rfl, ?_⟩)
  | (refine And.intro (by walk_at "sd") ?_)
  )
local macro_rules | `(tactic| walk_at "st") => `(tactic| repeat walk_at "st1")
local macro_rules | `(tactic| walk_at "op") => `(tactic| try dsimp only [L2.tSeq, L2.tAsg, L2.tOp, L2.tVar, L2.tC, L2.gSub, L2.rI, L2.rI0, L2.rIxL, L2.rIxT, L2.rSetL, L2.tIfS, L2.tTest, L2.tRet, L2.gName, L2.tNext, L2.tAnd, L2.tOr, L2.tNot, L2.tAndV, L2.tOrV, L2.tNotV, L2.tB, L2.tCB, L2.tCons, L2.tNil, L2.tCall, L2.tTup, L2.tLst, L2.tChain, L2.tUn, L2.tPar, L2.tDrop, L2.tIf, L2.tBM, L2.tBM0, L2.rAppend, L2.rCat, L2.rIsi, L2.rIsiT, L2.gTup, L2.gCons, L2.gNil, Fm.tFor_eq, Fm.tLc_eq, L2.iTup, L2.iList, L2.iRng1, L2.iRng2, L2.tSl, L2.tPart, L2.tNoPart, L2.rSlL, L2.rEq, L2.rNe, L2.rU, L2.rEqD, L2.rNeD, Fm.tRevT, Fm.rLenS, Fm.rTupOf, Fm.rLstOf, L2.tDNewK, L2.tCallS, L2.WE, Fm.wKeep, Fm.rIsK, Fm.rIsKT, List.cons_append, List.nil_append, L2.tYes])
namespace Fm
open PySem PySem.Spec PyProof.Rows L2
abbrev s_is_still : Stmt := top 19
abbrev N_is_still : List Str := ["standing", "counts"]
theorem sc_is_still : FnScope N_is_still ["standing"] (defScope s_is_still) := ⟨rfl, rfl, rfl, by decide +kernel, rfl, by decide +kernel, by decide +kernel⟩
abbrev s_is_rest : Stmt := top 18
abbrev N_is_rest : List Str := ["house", "standing"]
theorem sc_is_rest : FnScope N_is_rest ["house", "standing"] (defScope s_is_rest) := ⟨rfl, rfl, rfl, by decide +kernel, rfl, by decide +kernel, by decide +kernel⟩
abbrev s_added : Stmt := top 25
abbrev N_added : List Str := ["counts", "more", "a", "b"]
theorem sc_added : FnScope N_added ["counts", "more"] (defScope s_added) := ⟨rfl, rfl, rfl, by decide +kernel, rfl, by decide +kernel, by decide +kernel⟩
abbrev s_together : Stmt := top 24
abbrev N_together : List Str := ["house", "one", "other", "m", "floors", "rows", "counts", "more"]
theorem sc_together : FnScope N_together ["house", "one", "other"] (defScope s_together) := ⟨rfl, rfl, rfl, by decide +kernel, rfl, by decide +kernel, by decide +kernel⟩
section
variable {P : Program} {w : World} {K : PySem.W.Frag} {mg : Str → Option Value} {base : Heap}
theorem max_le_one {l : List Int} {M : Int} (h1 : M ∈ l) (h2 : ∀ y, y ∈ l → y ≤ M) : (decide (M ≤ 1) = true ↔ ∀ y ∈ l, y ≤ 1) :=
  ⟨fun z y hy => Int.le_trans (h2 y hy) (of_decide_eq_true z), fun z => decide_eq_true (z M h1)⟩
def spStill : Sp := fun vs H Q _ => ∃ (v : V) (p : Addr) (rows : List (List Int)) (out : Int), vs = [v] ∧ Dat H p v (stD rows out) ∧ 1 ≤ rows.length ∧ rows.length ≤ 4 ∧ ∀ (b : Bool) H', (b = true ↔ ∀ r ∈ rows, r.sum ≤ 1) → Same H H' → Q (.bl b) H'
theorem ok_is_still (D : Df K mg "is_still" s_is_still ["standing"]) (T : Nms mg) : CallOk P w K mg base CX0 1 "is_still" ["standing"] spStill := by
  refine df_ok D sc_is_still (fun vs H Q E h => ?_) (fun f cdv A outer s H vs Q E hr h => ?_)
  · obtain ⟨v, p, rows, out, rfl, _⟩ := h
    rfl
  · obtain ⟨v, p, rows, out, rfl, hd, hn1, hn4, k⟩ := h
    obtain ⟨a, xs, rfl, ha, nap, hx⟩ := st_parts hd
    have nd := sc_is_still.nd
    refine ⟨_, (pss_one (ps_ret (pe_cmpR op_le (pe_callB (cr_max rfl) (by rfl) T.n_max (by decide +kernel) (pa_cons (pe_lc (own := [("counts", 1)]) (g := (gName 1)) (tt := tYes) (by rfl) nd (pi_tup (pe_slice (r := rSlA K) sl_tupA (pv 0) po_none (po_some (pe_un un_neg pe_int)))) (blkOk_by (own := [("counts", 1)]) (N := N_is_still) (sc := defScope s_is_still) (by decide +kernel)) (fun _ _ _ _ _ => (pg_name (i := 1) nd rfl (Or.inl rfl))) (fun _ _ _ _ _ => pts_nil) (fun _ _ _ _ _ => (pe_callB (r := rSumI K) (cr_sumI rfl) (by rfl) T.n_sum (by decide +kernel) (pa_cons (pv 1) pa_nil)))) pa_nil)) pe_int (nomark _)))), ?_⟩
    walk_at "op"
    walk_at "st"
    refine sl_init (SqT.of ha) fun q hq => ?_
    refine ⟨_, rfl, ⟨_, SqT.of upd_same⟩, fun D' hD' => ?_⟩
    have nqD : q ≠ D' := ne_of_none upd_same hD'
    have hD0 : H D' = none := by rw [← hD', upd_ne nqD.symm]
    refine lI walk_tup (fun i H2 => Same H H2 ∧ H2 q = some (.tup xs) ∧ H2 D' = some (.lst (((rows.map List.sum).take i).map V.int))) 
      ⟨sameOff (same_new hq) hD0, by rw [upd_ne nqD]; exact upd_same, upd_same⟩ (fun i H2 _ ⟨_, e, _⟩ => SqT.of e) ?_ ?_
    · rintro i x H2 _ hi ⟨sm2, hq2, hT2⟩ ⟨rfl, hxi⟩
      obtain ⟨e, he, hde⟩ := hx.at hxi
      rw [List.getElem?_map] at he
      cases er : rows[i]? with
      | none => rw [er] at he; cases he
      | some c =>
        rw [er] at he
        cases he
        obtain ⟨ac, rfl, hac, _⟩ := row_parts (hde.same sm2)
        walk_at "op"
        refine ⟨rfl, ?_⟩
        walk_at "st"
        have hlen : ((rows.map List.sum).take i).length ≤ 4 := by
          rw [List.length_take, List.length_map]
          omega
        refine .inr ⟨ac, c, rfl, SqT.of hac, ?_⟩
        refine ⟨_, hT2, by rw [List.length_map]; exact small1000 (by omega), sameOff sm2 hD0, by rw [upd_ne nqD]; exact hq2, ?_⟩
        rw [upd_same, List.take_add_one, List.getElem?_map, er, List.map_append]
        rfl
    · rintro H2 ⟨sm2, hq2, hT2⟩
      walk_at "op"
      walk_at "st"
      have e1 : xs.length = (rows.map List.sum).length := by rw [hx.1, List.length_map, List.length_map]
      rw [e1, List.take_length] at hT2
      refine ⟨D', _, rfl, SqL.of hT2, by rw [List.length_map]; omega, fun M hM1 hM2 => ?_⟩
      walk_at "st"
      refine k _ _ ?_ sm2
      rw [max_le_one hM1 hM2]
      exact ⟨fun z r hr => z _ (List.mem_map_of_mem hr), fun z y hy => by obtain ⟨r, hr, rfl⟩ := List.mem_map.mp hy; exact z r hr⟩
theorem ok_is_rest (D : Df K mg "is_rest" s_is_rest ["house", "standing"]) (T : Nms mg) (c_check_standing : CallOk P w K mg base (L2.CX P w) 7 "check_standing" ["house", "standing"] spCheck)
    (c_is_still : CallOk P w K mg base CX0 1 "is_still" ["standing"] spStill) : CallOk P w K mg base CX0 8 "is_rest" ["house", "standing"]
      (spStIn fun rows _ Q H => ∀ (b : Bool) H', (b = true ↔ ∀ r ∈ rows, r.sum ≤ 1) → Same H H' → Q (.bl b) H') := by
  refine df_ok D sc_is_rest (fun vs H Q E h => ?_) (fun f cdv A outer s H vs Q E hr h => ?_)
  · obtain ⟨hv, sv, p, p', hd, m, n, rows, out, rfl, _⟩ := h
    rfl
  · obtain ⟨hv, sv, p, p', hd, m, n, rows, out, rfl, hD, hN, sD, hl, ok, k⟩ := h
    have nd := sc_is_rest.nd
    have hn : 1 ≤ n ∧ n ≤ 4 := by
      obtain ⟨_, _, _, hn1, hn4, _⟩ := hN
      exact ⟨hn1, hn4⟩
    refine ⟨_, (pss_cons (ps_expr (pe_cx c_check_standing (hr.mono (by omega)) (pa_cons (pv 0) (pa_cons (pv 1) pa_nil))))
      (pss_one (ps_ret (pe_cc c_is_still (hr.mono (by omega)) (pa_cons (pv 1) pa_nil))))), ?_⟩
    walk_at "op"
    walk_at "st"
    refine ⟨hv, sv, p, p', hd, m, n, rows, out, rfl, hD, hN, sD, hl, ok, fun H1 sm => ?_⟩
    walk_at "op"
    walk_at "st"
    exact ⟨sv, p', rows, out, rfl, sD.same sm, by omega, by omega, fun b H2 hb sm2 => k b _ hb (sm.trans sm2)⟩
def spAdded : Sp := fun vs H Q _ => ∃ (v1 v2 : V) (p p' : Addr) (r1 r2 : List Int), vs = [v1, v2] ∧ Dat H p v1 (rowD r1) ∧ Dat H p' v2 (rowD r2) ∧ r1.length = r2.length ∧ r1.length ≤ 6 ∧
  ∀ q H', H q = none → H' q = some (.tup ((List.zipWith (· + ·) r1 r2).map V.int)) → Same H H' → Q (.ref q) H'
theorem ok_added (D : Df K mg "added" s_added ["counts", "more"]) (T : Nms mg) : CallOk P w K mg base CX0 1 "added" ["counts", "more"] spAdded := by
  refine df_ok D sc_added (fun vs H Q E h => ?_) (fun f cdv A outer s H vs Q E hr h => ?_)
  · obtain ⟨v1, v2, p, p', r1, r2, rfl, _⟩ := h
    rfl
  · obtain ⟨v1, v2, p, p', r1, r2, rfl, h1, h2, hl, h6, k⟩ := h
    obtain ⟨a1, rfl, ha1, _⟩ := row_parts h1
    obtain ⟨a2, rfl, ha2, _⟩ := row_parts h2
    have nd := sc_added.nd
    refine ⟨_, (pss_one (ps_ret (pe_callTy (r := rTupOf K) call_tupOf (by rfl) T.n_tuple (by decide +kernel) (pa_cons (pe_lc (own := [("a", 2), ("b", 3)]) (g := (gTup K 2 (gCons (gName 2) (gCons (gName 3) gNil)))) (tt := tYes) (by rfl) nd (RZ.pi_zipA (by rfl) T.n_zip (pa_cons (pv 0) (pa_cons (pv 1) pa_nil))) (blkOk_by (own := [("a", 2), ("b", 3)]) (N := N_added) (sc := defScope s_added) (by decide +kernel)) (fun _ _ _ _ _ => (pg_tup rfl (pgs_cons (pg_name (i := 2) nd rfl (Or.inl rfl)) (pgs_cons (pg_name (i := 3) nd rfl (Or.inl rfl)) pgs_nil)))) (fun _ _ _ _ _ => pts_nil) (fun _ _ _ _ _ => (pe_op op_add (pv 2) (pv 3)))) pa_nil)))), ?_⟩
    walk_at "op"
    walk_at "st"
    refine ⟨_, _, _, _, rfl, .inr ⟨SqT.of ha1, SqT.of ha2, fun D' hD' => ?_⟩⟩
    have hlm : (r1.map V.int).length = (r2.map V.int).length := by rw [List.length_map, List.length_map, hl]
    refine lI (walk_zipT hlm) (fun i H2 => Same H H2 ∧ H2 D' = some (.lst (((List.zipWith (· + ·) r1 r2).take i).map V.int))) 
      ⟨same_new hD', upd_same⟩ (fun i H2 _ ⟨e, _⟩ => ⟨SqT.of (e _ _ ha1), SqT.of (e _ _ ha2)⟩) ?_ ?_
    · rintro i v H2 _ hi ⟨sm2, hT2⟩ ⟨t, x, y, rfl, ht, rfl, hxi, hyi⟩
      rw [List.length_map] at hi
      dsimp only at hxi hyi
      rw [List.getElem?_map, List.getElem?_eq_getElem hi] at hxi
      rw [List.getElem?_map, List.getElem?_eq_getElem (by omega)] at hyi
      cases hxi
      cases hyi
      have nDt : D' ≠ t := ne_of_none hT2 ht
      walk_at "op"
      refine ⟨t, _, rfl, SqT.of upd_same, rfl, _, _, rfl, _, _, rfl, rfl, ?_⟩
      refine ⟨rfl, ?_⟩
      walk_at "st"
      have hlen : ((List.zipWith (· + ·) r1 r2).take i).length ≤ 6 := by
        rw [List.length_take, List.length_zipWith]
        omega
      refine ⟨_, by rw [upd_ne nDt]; exact hT2, by rw [List.length_map]; exact small1000 (by omega), sameOff (sameOff sm2 (sameFree sm2 ht)) hD', ?_⟩
      rw [upd_same, List.take_add_one, List.getElem?_zipWith, List.getElem?_eq_getElem hi, List.getElem?_eq_getElem (show i < r2.length by omega), List.map_append]
      rfl
    · rintro H2 ⟨sm2, hT2⟩
      walk_at "op"
      walk_at "st"
      have e1 : (r1.map V.int).length = (List.zipWith (· + ·) r1 r2).length := by rw [List.length_map, List.length_zipWith]; omega
      rw [e1, List.take_length] at hT2
      exact ⟨_, _, rfl, .inl ⟨SqL.of hT2, fun t ht => k t _ (sameFree sm2 ht) upd_same (sameOff sm2 (sameFree sm2 ht))⟩⟩

def addRows (a b : List (List Int)) : List (List Int) := List.zipWith (List.zipWith (· + ·)) a b
theorem Dat.off {H : Hp} {p L : Addr} {o : HO} {v : V} {d : PyData} (h : Dat H p v d) (hL : H L = none) : Dat (upd H L o) p v d := h.same (same_new hL)
theorem Dats.off {H : Hp} {p L : Addr} {o : HO} {xs : List V} {ds : List PyData} (h : Dats H p xs ds) (hL : H L = none) : Dats (upd H L o) p xs ds := ⟨h.1, fun i x d a b => (h.2 i x d a b).off hL⟩
theorem Dats.same {H H' : Hp} {p : Addr} {xs : List V} {ds : List PyData} (h : Dats H p xs ds) (e : Same H H') : Dats H' p xs ds := ⟨h.1, fun i x d a b => (h.2 i x d a b).same e⟩
def spTogether : Sp := fun vs H Q _ => ∃ (hv v1 v2 : V) (p ph : Addr) (hd : PyData) (m n : Nat) (R1 R2 : List (List Int)) (o1 o2 : Int) (u : HO), vs = [hv, v1, v2] ∧ H p = some u ∧ Dat H ph hv hd ∧ HouseN m n hd ∧ Dat H p v1 (stD R1 o1) ∧ Dat H p v2 (stD R2 o2) ∧ R1.length = n ∧ R2.length = n ∧ StOk m R1 o1 ∧ StOk m R2 o2 ∧
  ∀ v H', Dat H' p v (stD (addRows R1 R2) (o1 + o2)) → Same H H' → Q v H'
theorem ok_together (D : Df K mg "together" s_together ["house", "one", "other"]) (T : Nms mg) {C M C2 : Addr} (EX_NoStanding : Exn K mg "NoStanding" C2 M)
    (c_size : CallOk P w K mg base (L2.CX P w) 6 "size" ["house"] (spSize C)) (c_has_form : CallOk P w K mg base CX0 4 "has_form" ["thing", "m", "floors", "most"] spForm) (c_added : CallOk P w K mg base CX0 1 "added" ["counts", "more"] spAdded) :
    CallOk P w K mg base (L2.CX P w) 7 "together" ["house", "one", "other"] spTogether := by
  refine df_okX D sc_together (fun vs H Q E h => ?_) (fun f cdv A outer s H vs Q E hr h => ?_)
  · obtain ⟨hv, v1, v2, p, ph, hd, m, n, R1, R2, o1, o2, u, rfl, _⟩ := h
    rfl
  · obtain ⟨hv, v1, v2, p, ph, hd, m, n, R1, R2, o1, o2, u, rfl, hp, hD, hN, d1, d2, hl1, hl2, ok1, ok2, k⟩ := h
    have nd := sc_together.nd
    obtain ⟨_, _, _, hn1, hn4, _, hm6, _⟩ := id hN
    refine ⟨_, (pss_cons (ps_asg (pe_cx c_size (hr.mono (by omega)) (pa_cons (pv 0) pa_nil)) (pg_tup rfl (pgs_cons (pg_name (i := 3) nd rfl (Or.inl rfl)) (pgs_cons (pg_name (i := 4) nd rfl (Or.inl rfl)) pgs_nil))))
      (pss_cons (ps_if (PW.pt (pw_or (pt_not (pt_val (pe_cc c_has_form (hr.mono (by omega)) (pa_cons (pv 1) (pa_cons (pv 3) (pa_cons (pv 4) (pa_cons pe_non pa_nil))))))) (pw_or1 (pt_not (pt_val (pe_cc c_has_form (hr.mono (by omega)) (pa_cons (pv 2) (pa_cons (pv 3) (pa_cons (pv 4) (pa_cons pe_non pa_nil)))))))))) (pss_one (ps_raiseE rfl (takes_of rfl rfl rfl rfl) EX_NoStanding rfl)) pss_nil)
      (pss_cons (ps_setLc (i := 5) (own := [("counts", 6), ("more", 7)]) (g := (gTup K 2 (gCons (gName 6) (gCons (gName 7) gNil)))) (tt := tYes) (by rfl) nd rfl rfl (sw_true rfl rfl rfl (by decide +kernel)) (RZ.pi_zipA (by rfl) T.n_zip (pa_cons (pe_slice (r := rSlA K) sl_tupA (pv 1) po_none (po_some (pe_un un_neg pe_int))) (pa_cons (pe_slice (r := rSlA K) sl_tupA (pv 2) po_none (po_some (pe_un un_neg pe_int))) pa_nil))) (blkOk_by (own := [("counts", 6), ("more", 7)]) (N := N_together) (sc := defScope s_together) (by decide +kernel)) (fun _ _ _ _ _ => (pg_tup rfl (pgs_cons (pg_name (i := 6) nd rfl (Or.inl rfl)) (pgs_cons (pg_name (i := 7) nd rfl (Or.inl rfl)) pgs_nil)))) (fun _ _ _ _ _ => pts_nil) (fun _ _ _ _ _ => (pe_cc c_added (hr.mono (by omega)) (pa_cons (pv 6) (pa_cons (pv 7) pa_nil)))))
      (pss_one (ps_ret (pe_op (r := rCatA K) op_catA (pe_callTy (r := rTupOf K) call_tupOf (by rfl) T.n_tuple (by decide +kernel) (pa_cons (pv 5) pa_nil)) (pe_tup (pa_cons (pe_op op_add (pe_ix (r := rIxT K) ix_tup (pv 1) (pe_un un_neg pe_int) (fun _ _ => rfl)) (pe_ix (r := rIxT K) ix_tup (pv 2) (pe_un un_neg pe_int) (fun _ _ => rfl))) pa_nil)))))))), ?_⟩
    walk_at "op"
    walk_at "st"
    refine ⟨hv, ph, hd, rfl, hD, fun m' n' hN' q H' hq hq2 sm => ?_, fun no => (no ⟨m, n, hN⟩).elim⟩
    obtain ⟨rfl, rfl⟩ := houseN_inj hN hN'
    refine ⟨q, _, rfl, SqT.of hq2, rfl, _, _, rfl, _, _, rfl, rfl, ?_⟩
    walk_at "op"
    walk_at "st"
    refine ⟨v1, p, m, n, R1, o1, rfl, d1.same sm, hl1, hn1, hn4, ok1, fun H2 sm2 => ?_⟩
    walk_at "st"
    refine ⟨v2, p, m, n, R2, o2, rfl, d2.same (sm.trans sm2), hl2, hn1, hn4, ok2, fun H3 sm3 => ?_⟩
    have sm03 := (sm.trans sm2).trans sm3
    obtain ⟨a1, x1, rfl, ha1, na1, hx1⟩ := st_parts (d1.same sm03)
    obtain ⟨a2, x2, rfl, ha2, na2, hx2⟩ := st_parts (d2.same sm03)
    walk_at "op"
    walk_at "st"
    refine sl_init (SqT.of ha1) fun q1 hq1 => ?_
    have hq1H := sameFree sm03 hq1
    walk_at "op"
    walk_at "st"
    refine sl_init (SqT.of (by rw [upd_ne (ne_of_none ha2 hq1)]; exact ha2)) fun q2 hq2' => ?_
    have n12 : q1 ≠ q2 := ne_of_none upd_same hq2'
    have hq2H : H q2 = none := sameFree (sm03.trans (same_new hq1)) hq2'
    refine ⟨_, _, _, _, rfl, .inr ⟨SqT.of (by rw [upd_ne n12]; exact upd_same), SqT.of upd_same, fun D' hD' => ?_⟩⟩
    have nq2D : q2 ≠ D' := ne_of_none upd_same hD'
    have nq1D : q1 ≠ D' := ne_of_none (by rw [upd_ne n12]; exact upd_same) hD'
    have sm4 : Same H (upd (upd H3 q1 (.tup x1)) q2 (.tup x2)) := (sm03.trans (same_new hq1)).trans (same_new hq2')
    have hDH := sameFree sm4 hD'
    have pne : ∀ {S : Addr} {G : Hp}, Same H G → G S = none → S ≠ p := fun {S G} e z q => by
      rw [q] at z
      have := e p u hp
      rw [z] at this
      cases this
    have hlx : x1.length = x2.length := by rw [hx1.1, hx2.1, List.length_map, List.length_map, hl1, hl2]
    have hadl : (addRows R1 R2).length = n := by
      unfold addRows
      rw [List.length_zipWith, hl1, hl2]
      omega
    have nl : ∀ (l : List (List Int)), ∀ d ∈ l.map rowD, noList d = true := fun l d hd => by
      obtain ⟨r, _, rfl⟩ := List.mem_map.mp hd
      exact noList_ints _ _
    refine lI (walk_zipT hlx) (fun i H4 => Same H H4 ∧ H4 q1 = some (.tup x1) ∧ H4 q2 = some (.tup x2) ∧ H4 a1 = some (.tup (x1 ++ [.int o1])) ∧ H4 a2 = some (.tup (x2 ++ [.int o2])) ∧ Dats H4 p x1 (R1.map rowD) ∧ Dats H4 p x2 (R2.map rowD) ∧ ∃ ws, H4 D' = some (.lst ws) ∧ Dats H4 p ws (((addRows R1 R2).take i).map rowD))
      ⟨sameOff sm4 hDH, by rw [upd_ne nq1D, upd_ne n12]; exact upd_same, by rw [upd_ne nq2D]; exact upd_same, ?_, ?_, ((hx1.off hq1).off hq2').off hD', ((hx2.off hq1).off hq2').off hD', [], upd_same, Dats.nil⟩ (fun i H4 _ ⟨_, e1, e2, _⟩ => ⟨SqT.of e1, SqT.of e2⟩) ?_ ?_
    · exact (same_new hD') _ _ ((same_new hq2') _ _ ((same_new hq1) _ _ ha1))
    · exact (same_new hD') _ _ ((same_new hq2') _ _ ((same_new hq1) _ _ ha2))
    · rintro i v H4 _ hi ⟨s4, e1, e2, f1, f2, g1, g2, ws, hws, hW⟩ ⟨t, x, y, rfl, ht, rfl, hxi, hyi⟩
      dsimp only at hxi hyi
      obtain ⟨d1', hd1', hdx⟩ := g1.at hxi
      obtain ⟨d2', hd2', hdy⟩ := g2.at hyi
      rw [List.getElem?_map] at hd1' hd2'
      have hi1 : i < R1.length := by rw [hl1, ← hl1, ← List.length_map (f := rowD), ← hx1.1]; exact hi
      have hi2 : i < R2.length := by omega
      rw [List.getElem?_eq_getElem hi1] at hd1'
      rw [List.getElem?_eq_getElem hi2] at hd2'
      cases hd1'
      cases hd2'
      have nDt : D' ≠ t := ne_of_none hws ht
      have htp := pne s4 ht
      walk_at "op"
      refine ⟨t, _, rfl, SqT.of upd_same, rfl, _, _, rfl, _, _, rfl, rfl, ?_⟩
      refine ⟨rfl, ?_⟩
      walk_at "st"
      have m1 := ok1.len _ (List.getElem_mem hi1)
      have m2 := ok2.len _ (List.getElem_mem hi2)
      refine ⟨x, y, p, p, _, _, rfl, hdx.off ht, hdy.off ht, by rw [m1, m2], by omega, fun r H5 hr hr2 s5 => ?_⟩
      have s45 : Same H4 H5 := (same_new ht).trans s5
      have hws5 := s45 _ _ hws
      have hr4 : H4 r = none := sameFree (same_new ht) hr
      have hrp := pne s4 hr4
      have nrD : r ≠ D' := fun z => by rw [z, hws] at hr4; cases hr4
      have wl : ws.length ≤ 4 := by
        rw [hW.1, List.length_map, List.length_take]
        omega
      refine ⟨_, hws5, small1000 (by omega), sameOff (s4.trans s45) hDH, by rw [upd_ne nq1D]; exact s45 _ _ e1, by rw [upd_ne nq2D]; exact s45 _ _ e2, ?_, ?_, ?_, ?_, ws ++ [.ref r], upd_same, ?_⟩
      · rw [upd_ne (fun z => by rw [z, hws] at f1; cases f1)]; exact s45 _ _ f1
      · rw [upd_ne (fun z => by rw [z, hws] at f2; cases f2)]; exact s45 _ _ f2
      · exact (g1.same s45).setL hws5 (nl _)
      · exact (g2.same s45).setL hws5 (nl _)
      · have e9 : ((addRows R1 R2).take (i + 1)).map rowD = ((addRows R1 R2).take i).map rowD ++ [rowD (List.zipWith (· + ·) R1[i] R2[i])] := by
          have e8 : (addRows R1 R2)[i]? = some (List.zipWith (· + ·) R1[i] R2[i]) := by
            unfold addRows
            rw [List.getElem?_zipWith, List.getElem?_eq_getElem hi1, List.getElem?_eq_getElem hi2]
          rw [List.take_add_one, e8, List.map_append]
          rfl
        rw [e9]
        refine ((hW.same s45).setL hws5 (nl _)).snoc ?_
        exact Dat.tup (by rw [upd_ne nrD]; exact hr2) hrp (by simp) fun j x d q1 q2 => by
          have := (Dats.ints (H := upd H5 D' (.lst (ws ++ [.ref r]))) (p := p) (List.zipWith (· + ·) R1[i] R2[i])).2 j x d q1 q2
          exact this
    · rintro H4 ⟨s4, e1, e2, f1, f2, g1, g2, ws, hws, hW⟩
      have hxn : x1.length = n := by rw [hx1.1, List.length_map, hl1]
      rw [hxn, ← hadl, List.take_length] at hW
      walk_at "op"
      walk_at "st"
      refine ⟨_, _, rfl, .inl ⟨SqL.of hws, fun l hl => ?_⟩⟩
      have hlp := pne s4 hl
      walk_at "st"
      refine ⟨_, _, _, _, rfl, rfl, SqT.of (by rw [upd_ne (ne_of_none f1 hl)]; exact f1), atI_last (by omega), ?_⟩
      walk_at "st"
      refine ⟨_, _, _, _, rfl, rfl, SqT.of (by rw [upd_ne (ne_of_none f2 hl)]; exact f2), atI_last (by omega), ?_⟩
      walk_at "st"
      refine ⟨by show 1 ≤ sizeLine; decide, fun t ht => ?_⟩
      have nlt : l ≠ t := ne_of_none upd_same ht
      have s5 : Same H (upd H4 l (.tup ws)) := s4.trans (same_new hl)
      have htp := pne s5 ht
      refine ⟨l, t, ws, _, rfl, rfl, SqT.of (by rw [upd_ne nlt]; exact upd_same), SqT.of upd_same, len_le (by rw [hW.1, List.length_map, hadl]; show n + 1 ≤ 1000; omega), fun e => ?_, fun _ e => (by cases e), fun _ _ r hr => ?_⟩
      · have := hW.1
        rw [e, List.length_map, hadl] at this
        simp at this
        omega
      · have s6 : Same H (upd (upd H4 l (.tup ws)) t (.tup [.int (o1 + o2)])) := s5.trans (same_new ht)
        refine k _ _ ?_ (s6.trans (same_new hr))
        have hW6 : Dats (upd (upd H4 l (.tup ws)) t (.tup [.int (o1 + o2)])) p ws ((addRows R1 R2).map rowD) := (hW.off hl).off ht
        refine Dat.new hr (pne s6 hr) ?_
        exact Dats.snoc hW6 (.int _)
end
end Fm
end FK4
section FS1
set_option Elab.async false
set_option linter.all false
set_option maxRecDepth 100000
set_option maxHeartbeats 4000000
local macro_rules | `(tactic| walk_at "ne") => `(tactic| first | assumption | (apply Ne.symm; assumption) | exact L2.ne_of_none (by assumption) (by assumption) | exact Ne.symm (L2.ne_of_none (by assumption) (by assumption)))
local macro_rules | `(tactic| walk_at "hl") => `(tactic| first | assumption | exact L2.upd_same | (refine Eq.trans (L2.upd_ne (by walk_at "ne")) ?_; walk_at "hl"))
local macro_rules | `(tactic| walk_at "sd") => `(tactic| first | (with_reducible show (_ : Int) < _; omega) | (with_reducible show (_ : Int) ≤ _; omega) | assumption | decide | exact ⟨by assumption, by assumption⟩ | exact ⟨by decide, by decide⟩ | exact Or.inr ⟨by decide, by decide⟩ | exact Or.inl ⟨by omega, by omega⟩ | rfl)
local macro_rules | `(tactic| walk_at "st1") => `(tactic| first
  | refine ⟨_, rfl, ?_⟩
  | refine ⟨_, _, rfl, rfl, ?_⟩
  | refine ⟨_, _, rfl, ?_⟩
  | (refine ⟨_, _, _, _, rfl, rfl, L2.SqL.of (by walk_at "hl"), rfl, ?_⟩)
  | (refine ⟨_, _, _, _, rfl, rfl, L2.SqT.of (by walk_at "hl"), rfl, ?_⟩)
  | (refine ⟨_, _, _, _, rfl, rfl, (by walk_at "hl"), rfl, ?_⟩)
  | (refine And.intro (by walk_at "sd") ?_)
  )
local macro_rules | `(tactic| walk_at "st") => `(tactic| repeat walk_at "st1")
local macro_rules | `(tactic| walk_at "op") => `(tactic| try dsimp only [L2.tSeq, L2.tAsg, L2.tOp, L2.tVar, L2.tC, L2.gSub, L2.rI, L2.rI0, L2.rIxL, L2.rIxT, L2.rSetL, L2.tIfS, L2.tTest, L2.tRet, L2.gName, L2.tNext, L2.tAnd, L2.tOr, L2.tNot, L2.tAndV, L2.tOrV, L2.tNotV, L2.tB, L2.tCB, L2.tCons, L2.tNil, L2.tCall, L2.tTup, L2.tLst, L2.tChain, L2.tUn, L2.tPar, L2.tDrop, L2.tIf, L2.tBM, L2.tBM0, L2.rAppend, L2.rCat, L2.rIsi, L2.rIsiT, L2.gTup, L2.gCons, L2.gNil, Fm.tFor_eq, Fm.tLc_eq, L2.iTup, L2.iList, L2.iRng1, L2.iRng2, L2.tSl, L2.tPart, L2.tNoPart, L2.rSlL, L2.rEq, L2.rNe, L2.rU, L2.rEqD, L2.rNeD, Fm.tRevT, Fm.rLenS, Fm.rTupOf, Fm.rLstOf, L2.tDNewK, L2.tCallS, L2.WE, Fm.wKeep, Fm.rIsK, Fm.rIsKT, List.cons_append, List.nil_append, L2.tYes])
namespace Fm
open PySem PySem.Spec PyProof.Rows L2
abbrev s_law_sums : Stmt := top 39
abbrev N_law_sums : List Str := ["standing", "found", "coming_v", "counts", "here", "count"]
theorem sc_law_sums : FnScope N_law_sums ["standing"] (defScope s_law_sums) := ⟨rfl, rfl, rfl, by decide +kernel, rfl, by decide +kernel, by decide +kernel⟩
section
variable {P : Program} {w : World} {K : PySem.W.Frag} {mg : Str → Option Value} {base : Heap}
theorem sumF_take {c : List Int} {i : Nat} {x : Int} (h : c[i]? = some x) (r : Int) : r + (c.take i).sum + x = r + (c.take (i + 1)).sum := by
  rw [List.take_add_one, h, List.sum_append]
  show _ = r + (_ + (x + 0))
  omega
theorem sum_pos : ∀ {c : List Int}, (∀ x ∈ c, 0 ≤ x) → 0 ≤ c.sum
  | [], _ => Int.le_refl 0
  | x :: c, h => by
    rw [List.sum_cons]
    have := h x List.mem_cons_self
    have := sum_pos (c := c) fun y hy => h y (List.mem_cons_of_mem _ hy)
    omega
def spSums : Sp := fun vs H Q _ => ∃ (v : V) (p : Addr) (rows : List (List Int)) (out : Int) (m : Nat), vs = [v] ∧ Dat H p v (stD rows out) ∧ rows.length ≤ 4 ∧ StOk m rows out ∧ ∀ q H', H q = none → H' q = some (.lst ((comeF 0 rows).map V.int)) → Same H H' → Q (.ref q) H'
theorem ok_law_sums (D : Df K mg "_law_sums" s_law_sums ["standing"]) (T : Nms mg) : CallOk P w K mg base CX0 1 "_law_sums" ["standing"] spSums := by
  refine df_ok D sc_law_sums (fun vs H Q E h => ?_) (fun f cdv A outer s H vs Q E hr h => ?_)
  · obtain ⟨v, p, rows, out, m, rfl, _⟩ := h
    rfl
  · obtain ⟨v, p, rows, out, m, rfl, hd, hn4, ok, k⟩ := h
    obtain ⟨a, xs, rfl, ha, nap, hx⟩ := st_parts hd
    have nd := sc_law_sums.nd
    refine ⟨_, (pss_cons (ps_set (i := 1) nd rfl (Or.inl rfl) (pe_lst pa_nil))
      (pss_cons (ps_set (i := 2) nd rfl (Or.inl rfl) pe_int)
      (pss_cons (ps_for PassesOwn.never rfl (pi_tup (pe_slice (r := rSlA K) sl_tupA (pv 0) po_none (po_some (pe_un un_neg pe_int)))) (pg_name (i := 3) nd rfl (Or.inl rfl)) (pss_cons (ps_set (i := 4) nd rfl (Or.inl rfl) (pv 2))
      (pss_cons (ps_for PassesOwn.never rfl (pi_tup (pv 3)) (pg_name (i := 5) nd rfl (Or.inl rfl)) (pss_one (ps_set (i := 4) nd rfl (Or.inl rfl) (pe_op op_add (pv 4) (pv 5)))))
      (pss_cons (ps_expr (pe_bm PySem.F.plainAttrs_list PySem.F.slot_list_append PySem.F.type_list_append mt_append (pv 1) (pa_cons (pv 4) pa_nil)))
      (pss_one (ps_set (i := 2) nd rfl (Or.inl rfl) (pe_ifExp (pt_cmpR op_gt (pv 4) pe_int (nomark _)) (pe_op op_sub (pv 4) pe_int) pe_int)))))))
      (pss_one (ps_ret (pv 1)))))), ?_⟩
    walk_at "op"
    walk_at "st"
    refine fun L hL => ?_
    have nL : a ≠ L := ne_of_none ha hL
    walk_at "st"
    refine sl_init (SqT.of (by rw [upd_ne nL]; exact ha)) fun q hq => ?_
    have nLq : L ≠ q := ne_of_none upd_same hq
    have hq0 : H q = none := by rw [← hq, upd_ne nLq.symm]
    refine ⟨_, rfl, ⟨_, SqT.of upd_same⟩, fT (xs := xs) (fun i σ H' => Same H H' ∧ H' q = some (.tup xs) ∧ ∃ (T : List Int) (r : Int) (u1 u2 u3 : Option V), σ = [some (.ref a), some (.ref L), some (.int r), u1, u2, u3] ∧ 0 ≤ r ∧ H' L = some (.lst (T.map V.int)) ∧ T.length = i ∧ comeF 0 rows = T ++ comeF r (rows.drop i))
      ⟨sameOff (sameOff (Same.refl H) hL) hq0, upd_same, [], 0, _, _, _, rfl, Int.le_refl 0, by rw [upd_ne nLq]; exact upd_same, rfl, rfl⟩ (fun i σ H' _ ⟨_, e, _⟩ => SqT.of e) ?_ ?_⟩
    · rintro i x σ H' hxi ⟨sm, hq2, T', r, u1, u2, u3, rfl, hr0, hL2, hl, hc⟩
      obtain ⟨e, he, hde⟩ := hx.at hxi
      rw [List.getElem?_map] at he
      cases er : rows[i]? with
      | none => rw [er] at he; cases he
      | some c =>
        rw [er] at he
        cases he
        obtain ⟨ac, rfl, hac, _⟩ := row_parts (hde.same sm)
        have hil := (List.getElem?_eq_some_iff.mp er).1
        have hcp : 0 ≤ c.sum := sum_pos (ok.pos c (List.mem_of_getElem? er))
        have ed : rows.drop i = c :: rows.drop (i + 1) := by
          rw [List.drop_eq_getElem_cons hil]
          rw [List.getElem?_eq_getElem hil] at er
          cases er
          rfl
        have hc2 : comeF 0 rows = (T' ++ [c.sum + r]) ++ comeF (if c.sum + r = 0 then 0 else c.sum + r - 1) (rows.drop (i + 1)) := by
          rw [hc, ed]
          conv => lhs; unfold comeF
          rw [List.append_assoc]
          rfl
        walk_at "op"
        walk_at "st"
        refine ⟨⟨_, SqT.of hac⟩, fT (xs := c.map V.int) (fun j σ H2 => H2 = H' ∧ ∃ (u3 : Option V), σ = [some (.ref a), some (.ref L), some (.int r), some (.ref ac), some (.int (r + (c.take j).sum)), u3])
          ⟨rfl, u3, by simp⟩ (fun j σ H2 _ ⟨e, _⟩ => by rw [e]; exact SqT.of hac) ?_ ?_⟩
        · rintro j y σ H2 hyj ⟨rfl, u3', rfl⟩
          rw [List.getElem?_map] at hyj
          cases ec : c[j]? with
          | none => rw [ec] at hyj; cases hyj
          | some y' =>
            rw [ec] at hyj
            cases hyj
            walk_at "op"
            walk_at "st"
            exact ⟨_, by rw [← sumF_take ec]; rfl⟩
        · rintro σ H2 ⟨rfl, u3', rfl⟩
          rw [List.length_map, List.take_length]
          walk_at "op"
          walk_at "st"
          refine ⟨.inl ⟨rfl, _, SqL.of hL2⟩, ?_⟩
          walk_at "st"
          refine ⟨_, _, _, rfl, rfl, hL2, by rw [List.length_map, hl]; exact small1000 (by omega), ?_⟩
          walk_at "st"
          rw [Int.add_comm r c.sum]
          have tailOk : ∀ z : Int, (if c.sum + r = 0 then 0 else c.sum + r - 1) = z → Same H (upd H2 L (.lst (T'.map V.int ++ [.int (c.sum + r)]))) ∧ upd H2 L (.lst (T'.map V.int ++ [.int (c.sum + r)])) q = some (.tup xs) ∧
              ∃ (T2 : List Int) (r2 : Int) (w1 w2 w3 : Option V), [some (V.ref a), some (V.ref L), some (V.int z), some (V.ref ac), some (V.int (c.sum + r)), u3'] = [some (.ref a), some (.ref L), some (.int r2), w1, w2, w3] ∧ 0 ≤ r2 ∧
                upd H2 L (.lst (T'.map V.int ++ [.int (c.sum + r)])) L = some (.lst (T2.map V.int)) ∧ T2.length = i + 1 ∧ comeF 0 rows = T2 ++ comeF r2 (rows.drop (i + 1)) := fun z hz => by
            refine ⟨sameOff sm hL, by rw [upd_ne nLq.symm]; exact hq2, T' ++ [c.sum + r], z, _, _, _, rfl, by rw [← hz]; split <;> omega, by rw [upd_same, List.map_append]; rfl, by simp [hl], ?_⟩
            rw [hc2, hz]
          refine ite2 (fun c0 => ?_) (fun c0 => ?_)
          · walk_at "st"
            have c1 := of_decide_eq_true c0
            exact tailOk _ (if_neg (by omega))
          · have c1 := of_decide_eq_false (Bool.eq_false_iff.mpr c0)
            exact tailOk _ (if_pos (by omega))
    · rintro σ H' ⟨sm, hq2, T', r, u1, u2, u3, rfl, hr0, hL2, hl, hc⟩
      walk_at "op"
      walk_at "st"
      have e : rows.drop xs.length = [] := by
        rw [hx.1, List.length_map]
        simp
      rw [e, show comeF r [] = [] from by unfold comeF; rfl, List.append_nil] at hc
      exact k L H' hL (by rw [hL2, hc]) sm
end
end Fm
end FS1
section FC1
set_option Elab.async false
set_option linter.all false
set_option maxRecDepth 100000
set_option maxHeartbeats 4000000
local macro_rules | `(tactic| walk_at "ne") => `(tactic| first | assumption | (apply Ne.symm; assumption) | exact L2.ne_of_none (by assumption) (by assumption) | exact Ne.symm (L2.ne_of_none (by assumption) (by assumption)))
local macro_rules | `(tactic| walk_at "hl") => `(tactic| first | assumption | exact L2.upd_same | (refine Eq.trans (L2.upd_ne (by walk_at "ne")) ?_; walk_at "hl"))
local macro_rules | `(tactic| walk_at "sd") => `(tactic| first | (with_reducible show (_ : Int) < _; omega) | (with_reducible show (_ : Int) ≤ _; omega) | assumption | decide | exact ⟨by assumption, by assumption⟩ | exact ⟨by decide, by decide⟩ | exact Or.inr ⟨by decide, by decide⟩ | exact Or.inl ⟨by omega, by omega⟩ | rfl)
local macro_rules | `(tactic| walk_at "st1") => `(tactic| first
  | refine ⟨_, rfl, ?_⟩
  | refine ⟨_, _, rfl, rfl, ?_⟩
  | refine ⟨_, _, rfl, ?_⟩
  | (refine ⟨_, _, _, _, rfl, rfl, L2.SqL.of (by walk_at "hl"), rfl, ?_⟩)
  | (refine ⟨_, _, _, _, rfl, rfl, L2.SqT.of (by walk_at "hl"), rfl, ?_⟩)
  | (refine ⟨_, _, _, _, rfl, rfl, (by walk_at "hl"), rfl, ?_⟩)
  | (refine And.intro (by walk_at "sd") ?_)
  )
local macro_rules | `(tactic| walk_at "st") => `(tactic| repeat walk_at "st1")
local macro_rules | `(tactic| walk_at "op") => `(tactic| try dsimp only [L2.tSeq, L2.tAsg, L2.tOp, L2.tVar, L2.tC, L2.gSub, L2.rI, L2.rI0, L2.rIxL, L2.rIxT, L2.rSetL, L2.tIfS, L2.tTest, L2.tRet, L2.gName, L2.tNext, L2.tAnd, L2.tOr, L2.tNot, L2.tAndV, L2.tOrV, L2.tNotV, L2.tB, L2.tCB, L2.tCons, L2.tNil, L2.tCall, L2.tTup, L2.tLst, L2.tChain, L2.tUn, L2.tPar, L2.tDrop, L2.tIf, L2.tBM, L2.tBM0, L2.rAppend, L2.rCat, L2.rIsi, L2.rIsiT, L2.gTup, L2.gCons, L2.gNil, Fm.tFor_eq, Fm.tLc_eq, L2.iTup, L2.iList, L2.iRng1, L2.iRng2, L2.tSl, L2.tPart, L2.tNoPart, L2.rSlL, L2.rEq, L2.rNe, L2.rU, L2.rEqD, L2.rNeD, Fm.tRevT, Fm.rLenS, Fm.rTupOf, Fm.rLstOf, L2.tDNewK, L2.tCallS, L2.WE, Fm.wKeep, Fm.rIsK, Fm.rIsKT, List.cons_append, List.nil_append, L2.tYes])
namespace Fm
open PySem PySem.Spec PyProof.Rows L2
abbrev s_law_crowd : Stmt := top 34
abbrev N_law_crowd : List Str := ["standing", "floors", "counts", "number", "many"]
theorem sc_law_crowd : FnScope N_law_crowd ["standing"] (defScope s_law_crowd) := ⟨rfl, rfl, rfl, by decide +kernel, rfl, by decide +kernel, by decide +kernel⟩
section
variable {P : Program} {w : World} {K : PySem.W.Frag} {mg : Str → Option Value} {base : Heap}
/-! ### people told apart, floor by floor -/
def rowL (r : List Int) : PyData := .list (r.map PyData.int)
def crowdD (fl : List (List Int)) (out : Int) : PyData := .tuple [.list (fl.map rowL), .int out]
def rowOf (c : List Int) (n : Nat) : List Int := (List.range n).flatMap fun i => List.replicate (c.getD i 0).toNat (i : Int)
theorem rowOf_succ (c : List Int) (n : Nat) : rowOf c (n + 1) = rowOf c n ++ List.replicate (c.getD n 0).toNat (n : Int) := by
  unfold rowOf
  rw [List.range_succ, List.flatMap_append, List.flatMap_singleton]
theorem rowOf_len (c : List Int) (hp : ∀ x ∈ c, 0 ≤ x) : ∀ n, n ≤ c.length → ((rowOf c n).length : Int) = (c.take n).sum
  | 0, _ => rfl
  | n + 1, h => by
    have ih := rowOf_len c hp n (by omega)
    have e : c[n]? = some (c.getD n 0) := by
      rw [List.getD_eq_getElem?_getD, List.getElem?_eq_getElem (show n < c.length by omega)]
      rfl
    have q := sumF_take e 0
    have hn := hp _ (List.mem_of_getElem? e)
    rw [rowOf_succ, List.length_append, List.length_replicate]
    omega
theorem rowOf_in (c : List Int) : ∀ n, ∀ e ∈ rowOf c n, 0 ≤ e ∧ e < (n : Int) := fun n e he => by
  unfold rowOf at he
  obtain ⟨i, hi, h⟩ := List.mem_flatMap.mp he
  have := List.mem_range.mp hi
  have e1 := (List.mem_replicate.mp h).2
  omega
theorem rep_one (n : Nat) (x : V) : (List.replicate n [x]).flatten = List.replicate n x := by
  induction n with
  | zero => rfl
  | succ n ih => rw [List.replicate_succ, List.flatten_cons, ih, List.replicate_succ]; rfl
theorem flat_rowOf (c : List Int) (n : Nat) : ((List.range n).flatMap fun i => List.replicate (c.getD i 0).toNat (V.int i)) = (rowOf c n).map V.int := by
  unfold rowOf
  rw [List.map_flatMap]
  congr 1
  funext i
  rw [List.map_replicate]
/-- a list at L of lists of ints -/
structure LL (H : Hp) (p L : Addr) (ws : List V) (fl : List (List Int)) : Prop where
  at_ : H L = some (.lst ws)
  len : ws.length = fl.length
  row : ∀ (j : Nat) (c : List Int), fl[j]? = some c → ∃ b : Addr, ws[j]? = some (V.ref b) ∧ H b = some (.lst (c.map V.int)) ∧ b ≠ L ∧ b ≠ p
theorem LL.nil {H : Hp} {p L : Addr} (h : H L = some (.lst [])) : LL H p L [] [] := ⟨h, rfl, fun j c e => by cases e⟩
theorem LL.same {H H' : Hp} {p L : Addr} {ws : List V} {fl : List (List Int)} (h : LL H p L ws fl) (e : Same H H') : LL H' p L ws fl :=
  ⟨e _ _ h.at_, h.len, fun j c q => by
    obtain ⟨b, e1, e2, e3⟩ := h.row j c q
    exact ⟨b, e1, e _ _ e2, e3⟩⟩
theorem LL.snoc {H : Hp} {p L b : Addr} {ws : List V} {fl : List (List Int)} {c : List Int} (h : LL H p L ws fl) (hb : H b = some (.lst (c.map V.int))) (n1 : b ≠ L) (n2 : b ≠ p) : LL (upd H L (.lst (ws ++ [.ref b]))) p L (ws ++ [.ref b]) (fl ++ [c]) := by
  refine ⟨upd_same, by rw [List.length_append, List.length_append, h.len]; rfl, fun j d q => ?_⟩
  by_cases hj : j < fl.length
  · rw [List.getElem?_append_left hj] at q
    obtain ⟨b', e1, e2, e3, e4⟩ := h.row j d q
    exact ⟨b', by rw [List.getElem?_append_left (by rw [h.len]; exact hj)]; exact e1, by rw [upd_ne e3]; exact e2, e3, e4⟩
  · rw [List.getElem?_append_right (by omega)] at q
    cases z : j - fl.length with
    | zero =>
      rw [z] at q
      cases q
      exact ⟨b, by rw [List.getElem?_append_right (by rw [h.len]; omega), h.len, z]; rfl, by rw [upd_ne n1]; exact hb, n1, n2⟩
    | succ k =>
      rw [z] at q
      cases q
theorem LL.dat {H : Hp} {p L : Addr} {ws : List V} {fl : List (List Int)} (h : LL H p L ws fl) (n : L ≠ p) : Dat H p (.ref L) (.list (fl.map rowL)) := by
  refine .lst h.at_ n (by rw [h.len, List.length_map]) fun i x d e1 e2 => ?_
  rw [List.getElem?_map] at e2
  cases q : fl[i]? with
  | none => rw [q] at e2; cases e2
  | some c =>
    rw [q] at e2
    cases e2
    obtain ⟨b, h1, h2, _, h4⟩ := h.row i c q
    rw [h1] at e1
    cases e1
    exact .lst h2 h4 (by rw [List.length_map, List.length_map]) fun j x d a b => (Dats.ints (H := H) (p := p) c).2 j x d a b
theorem le_sum : ∀ {c : List Int}, (∀ x ∈ c, 0 ≤ x) → ∀ {x}, x ∈ c → x ≤ c.sum
  | y :: c, h, x, hx => by
    rw [List.sum_cons]
    have h1 := h y List.mem_cons_self
    have h2 := sum_pos (c := c) fun z hz => h z (List.mem_cons_of_mem _ hz)
    rcases List.mem_cons.mp hx with rfl | hx
    · omega
    · have := le_sum (c := c) (fun z hz => h z (List.mem_cons_of_mem _ hz)) hx
      omega
def spCrowd : Sp := fun vs H Q _ => ∃ (v : V) (p : Addr) (u : HO) (rows : List (List Int)) (out : Int) (m : Nat), vs = [v] ∧ H p = some u ∧ Dat H p v (stD rows out) ∧ rows.length ≤ 4 ∧ 1 ≤ m ∧ m ≤ 6 ∧ StOk m rows out ∧ (∀ r ∈ rows, r.sum ≤ 100) ∧
  ∀ v' H', Dat H' p v' (crowdD (rows.map fun c => rowOf c m) out) → Same H H' → Q v' H'
theorem ok_law_crowd (D : Df K mg "_law_crowd" s_law_crowd ["standing"]) (T : Nms mg) : CallOk P w K mg base CX0 1 "_law_crowd" ["standing"] spCrowd := by
  refine df_ok D sc_law_crowd (fun vs H Q E h => ?_) (fun f cdv A outer s H vs Q E hr h => ?_)
  · obtain ⟨v, p, u, rows, out, m, rfl, _⟩ := h
    rfl
  · obtain ⟨v, p, u, rows, out, m, rfl, hp, hd, hn4, hm1, hm6, ok, hs, k⟩ := h
    obtain ⟨a, xs, rfl, ha, nap, hx⟩ := st_parts hd
    have nd := sc_law_crowd.nd
    have pne : ∀ {S : Addr} {G : Hp}, Same H G → G S = none → S ≠ p := fun {S G} e z q => by
      rw [q] at z
      have := e p u hp
      rw [z] at this
      cases this
    refine ⟨_, (pss_cons (ps_set (i := 1) nd rfl (Or.inl rfl) (pe_lst pa_nil))
      (pss_cons (ps_for PassesOwn.never rfl (pi_tup (pe_slice (r := rSlA K) sl_tupA (pv 0) po_none (po_some (pe_un un_neg pe_int)))) (pg_name (i := 2) nd rfl (Or.inl rfl)) (pss_one (ps_expr (pe_bm PySem.F.plainAttrs_list PySem.F.slot_list_append PySem.F.type_list_append mt_append (pv 1) (pa_cons (pe_callB (r := rSumL K) (cr_sumL rfl) (by rfl) T.n_sum (by decide +kernel) (pa_cons (pe_lc (own := [("number", 3), ("many", 4)]) (g := (gTup K 2 (gCons (gName 3) (gCons (gName 4) gNil)))) (tt := tYes) (by rfl) nd (pi_enumT (by rfl) T.n_enumerate (pa_cons (pv 2) pa_nil)) (blkOk_by (own := [("number", 3), ("many", 4)]) (N := N_law_crowd) (sc := defScope s_law_crowd) (by decide +kernel)) (fun _ _ _ _ _ => (pg_tup rfl (pgs_cons (pg_name (i := 3) nd rfl (Or.inl rfl)) (pgs_cons (pg_name (i := 4) nd rfl (Or.inl rfl)) pgs_nil)))) (fun _ _ _ _ _ => pts_nil) (fun _ _ _ _ _ => (pe_op op_rep (pe_lst (pa_cons (pv 3) pa_nil)) (pv 4)))) (pa_cons (pe_lst pa_nil) pa_nil))) pa_nil)))))
      (pss_one (ps_ret (pe_tup (pa_cons (pv 1) (pa_cons (pe_ix (r := rIxT K) ix_tup (pv 0) (pe_un un_neg pe_int) (fun _ _ => rfl)) pa_nil))))))), ?_⟩
    walk_at "op"
    walk_at "st"
    refine fun L hL => ?_
    have nL : a ≠ L := ne_of_none ha hL
    walk_at "st"
    refine sl_init (SqT.of (by rw [upd_ne nL]; exact ha)) fun q hq => ?_
    have nLq : L ≠ q := ne_of_none upd_same hq
    have hq0 : H q = none := by rw [← hq, upd_ne nLq.symm]
    refine ⟨_, rfl, ⟨_, SqT.of upd_same⟩, fT (xs := xs) (fun i σ H' => Same H H' ∧ H' q = some (.tup xs) ∧ ∃ (ws : List V) (u1 : Option V), σ = [some (.ref a), some (.ref L), u1, none, none] ∧ LL H' p L ws ((rows.take i).map fun c => rowOf c m))
      ⟨sameOff (sameOff (Same.refl H) hL) hq0, upd_same, [], _, rfl, LL.nil (by rw [upd_ne nLq]; exact upd_same)⟩ (fun i σ H' _ ⟨_, e, _⟩ => SqT.of e) ?_ ?_⟩
    · rintro i x σ H' hxi ⟨sm, hq2, ws, u1, rfl, hLL⟩
      obtain ⟨e, he, hde⟩ := hx.at hxi
      rw [List.getElem?_map] at he
      cases er : rows[i]? with
      | none => rw [er] at he; cases he
      | some c =>
        rw [er] at he
        cases he
        obtain ⟨ac, rfl, hac, _⟩ := row_parts (hde.same sm)
        have hrm := List.mem_of_getElem? er
        have hcl := ok.len c hrm
        have hil := (List.getElem?_eq_some_iff.mp er).1
        walk_at "op"
        walk_at "st"
        refine ⟨.inl ⟨rfl, _, SqL.of hLL.at_⟩, ?_⟩
        walk_at "st"
        refine ⟨ac, _, rfl, SqT.of hac, fun D' hD' => ?_⟩
        have hLD : L ≠ D' := ne_of_none hLL.at_ hD'
        have hqD : q ≠ D' := ne_of_none hq2 hD'
        have hDH := sameFree sm hD'
        have hcap : ∀ x ∈ c, 0 ≤ x ∧ x ≤ 100 := fun x hx => by
          refine ⟨ok.pos c hrm x hx, Int.le_trans ?_ (hs c hrm)⟩
          exact le_sum (ok.pos c hrm) hx
        have hgd : ∀ j, j < m → c[j]? = some (c.getD j 0) := fun j hj => by
          rw [List.getD_eq_getElem?_getD, List.getElem?_eq_getElem (show j < c.length by omega)]
          rfl
        refine lI walk_enumT (fun j H2 => Same H' H2 ∧ ∃ ws2 : List V, H2 D' = some (.lst ws2) ∧ ws2.length = j ∧ ∀ k x, ws2[k]? = some x → ∃ b, x = .ref b ∧ b ≠ D' ∧ H2 b = some (.lst (List.replicate (c.getD k 0).toNat (V.int k))))
          ⟨same_new hD', [], upd_same, rfl, fun k x e => by cases e⟩ (fun j H2 _ ⟨e, _⟩ => SqT.of (e _ _ hac)) ?_ ?_
        · rintro j v H2 _ hj ⟨s2, ws2, hw2, hl2, hW2⟩ ⟨t, x, y, rfl, ht, rfl, hxj, hyj⟩
          rw [List.length_map, hcl] at hj
          dsimp only at hxj hyj
          cases hxj
          rw [List.getElem?_map, hgd j hj] at hyj
          cases hyj
          have nDt : D' ≠ t := ne_of_none hw2 ht
          have hcj := hcap _ (List.mem_of_getElem? (hgd j hj))
          walk_at "op"
          refine ⟨t, _, rfl, SqT.of upd_same, rfl, _, _, rfl, _, _, rfl, rfl, ?_⟩
          refine ⟨rfl, ?_⟩
          walk_at "st"
          refine ⟨by show 1 ≤ sizeLine; decide, fun l hl => ?_⟩
          walk_at "st"
          refine ⟨l, _, _, rfl, rfl, upd_same, by omega, by omega, by show 1 * _ ≤ sizeLine; exact len_le (by omega), fun r hr => ?_⟩
          have nDl : D' ≠ l := ne_of_none (by rw [upd_ne nDt]; exact hw2) hl
          have nDr : D' ≠ r := ne_of_none (by rw [upd_ne nDl, upd_ne nDt]; exact hw2) hr
          have s3 : Same H2 (upd (upd (upd H2 t (.tup [.int j, .int (c.getD j 0)])) l (.lst [.int j])) r (.lst (List.replicate (c.getD j 0).toNat [V.int j]).flatten)) := ((same_new ht).trans (same_new hl)).trans (same_new hr)
          refine ⟨ws2, s3 _ _ hw2, small1000 (by omega), sameOff (s2.trans s3) hD', ws2 ++ [.ref r], upd_same, by rw [List.length_append, hl2]; rfl, fun k x hk => ?_⟩
          by_cases hkj : k < ws2.length
          · rw [List.getElem?_append_left hkj] at hk
            obtain ⟨b, e1, e2, e3⟩ := hW2 k x hk
            exact ⟨b, e1, e2, by rw [upd_ne e2]; exact s3 _ _ e3⟩
          · rw [List.getElem?_append_right (by omega)] at hk
            cases z : k - ws2.length with
            | zero =>
              rw [z] at hk
              cases hk
              have ek : k = j := by omega
              subst ek
              exact ⟨r, rfl, nDr.symm, by rw [upd_ne nDr.symm, upd_same, rep_one]⟩
            | succ w =>
              rw [z] at hk
              cases hk
        · rintro H2 ⟨s2, ws2, hw2, hl2, hW2⟩
          rw [List.length_map, hcl] at hl2
          walk_at "op"
          walk_at "st"
          refine fun t ht => ?_
          have nDt : D' ≠ t := ne_of_none hw2 ht
          have hrl : ((rowOf c m).length : Int) = c.sum := by
            have q := rowOf_len c (ok.pos c hrm) c.length (Nat.le_refl _)
            rw [List.take_length, hcl] at q
            exact q
          have hcs := hs c hrm
          have hfl : (List.range ws2.length).flatMap (fun i => List.replicate (c.getD i 0).toNat (V.int i)) = (rowOf c m).map V.int := by
            rw [hl2]
            exact flat_rowOf c m
          refine ⟨D', t, ws2, [], fun i => List.replicate (c.getD i 0).toNat (V.int i), rfl, SqL.of (by rw [upd_ne nDt]; exact hw2), upd_same, by omega, fun k x e => ?_, ?_, fun r hr => ?_⟩
          · obtain ⟨b, e1, e2, e3⟩ := hW2 k x e
            exact ⟨b, e1, by rw [upd_ne (ne_of_none e3 ht)]; exact e3⟩
          · rw [List.nil_append, hfl, List.length_map]
            exact len_le (by omega)
          · rw [List.nil_append, hfl]
            have s3 : Same H' (upd (upd H2 t (.lst [])) r (.lst ((rowOf c m).map V.int))) := (s2.trans (same_new ht)).trans (same_new hr)
            have hrH' : H' r = none := sameFree (s2.trans (same_new ht)) hr
            have hL3 := hLL.same s3
            have nrL : r ≠ L := Ne.symm (ne_of_none hLL.at_ hrH')
            refine ⟨L, ws, _, rfl, rfl, hL3.at_, small1000 (by rw [hLL.len, List.length_map, List.length_take]; omega), sameOff (sm.trans s3) hL, by rw [upd_ne nLq.symm]; exact s3 _ _ hq2, ws ++ [.ref r], _, rfl, ?_⟩
            have e9 : (rows.take (i + 1)).map (fun c => rowOf c m) = (rows.take i).map (fun c => rowOf c m) ++ [rowOf c m] := by
              rw [List.take_add_one, er, List.map_append]
              rfl
            rw [e9]
            exact hL3.snoc upd_same nrL (pne sm hrH')
    · rintro σ H' ⟨sm, hq2, ws, u1, rfl, hLL⟩
      walk_at "op"
      walk_at "st"
      have hxl : xs.length = rows.length := by rw [hx.1, List.length_map]
      rw [hxl, List.take_length] at hLL
      refine ⟨_, _, _, _, rfl, rfl, SqT.of (sm _ _ ha), atI_last (by omega), ?_⟩
      refine ⟨by show 2 ≤ sizeLine; decide, fun t ht => ?_⟩
      refine k _ _ ?_ (sm.trans (same_new ht))
      have hLp : L ≠ p := pne (Same.refl H) hL
      refine Dat.new ht (pne sm ht) (Dats.cons (hLL.dat hLp) (Dats.cons (.int _) Dats.nil))
end
end Fm
end FC1
section FPR
set_option Elab.async false
set_option linter.all false
set_option maxRecDepth 100000
set_option maxHeartbeats 4000000
local macro_rules | `(tactic| walk_at "ne") => `(tactic| first | assumption | (apply Ne.symm; assumption) | exact L2.ne_of_none (by assumption) (by assumption) | exact Ne.symm (L2.ne_of_none (by assumption) (by assumption)))
local macro_rules | `(tactic| walk_at "hl") => `(tactic| first | assumption | exact L2.upd_same | (refine Eq.trans (L2.upd_ne (by walk_at "ne")) ?_; walk_at "hl"))
local macro_rules | `(tactic| walk_at "sd") => `(tactic| first | (with_reducible show (_ : Int) < _; omega) | (with_reducible show (_ : Int) ≤ _; omega) | assumption | decide | exact ⟨by assumption, by assumption⟩ | exact ⟨by decide, by decide⟩ | exact Or.inr ⟨by decide, by decide⟩ | exact Or.inl ⟨by omega, by omega⟩ | rfl)
local macro_rules | `(tactic| walk_at "st1") => `(tactic| first
  | refine ⟨_, rfl, ?_⟩
  | refine ⟨_, _, rfl, rfl, ?_⟩
  | refine ⟨_, _, rfl, ?_⟩
  | (refine ⟨_, _, _, _, rfl, rfl, L2.SqL.of (by walk_at "hl"), rfl, ?_⟩)
  | (refine ⟨_, _, _, _, rfl, rfl, L2.SqT.of (by walk_at "hl"), rfl, ?_⟩)
  | (refine ⟨_, _, _, _, rfl, rfl, (by walk_at "hl"), rfl, ?_⟩)
  | (refine And.intro (by walk_at "sd") ?_)
  )
local macro_rules | `(tactic| walk_at "st") => `(tactic| repeat walk_at "st1")
local macro_rules | `(tactic| walk_at "op") => `(tactic| try dsimp only [L2.tSeq, L2.tAsg, L2.tOp, L2.tVar, L2.tC, L2.gSub, L2.rI, L2.rI0, L2.rIxL, L2.rIxT, L2.rSetL, L2.tIfS, L2.tTest, L2.tRet, L2.gName, L2.tNext, L2.tAnd, L2.tOr, L2.tNot, L2.tAndV, L2.tOrV, L2.tNotV, L2.tB, L2.tCB, L2.tCons, L2.tNil, L2.tCall, L2.tTup, L2.tLst, L2.tChain, L2.tUn, L2.tPar, L2.tDrop, L2.tIf, L2.tBM, L2.tBM0, L2.rAppend, L2.rCat, L2.rIsi, L2.rIsiT, L2.gTup, L2.gCons, L2.gNil, Fm.tFor_eq, Fm.tLc_eq, L2.iTup, L2.iList, L2.iRng1, L2.iRng2, L2.tSl, L2.tPart, L2.tNoPart, L2.rSlL, L2.rEq, L2.rNe, L2.rU, L2.rEqD, L2.rNeD, Fm.tRevT, Fm.rLenS, Fm.rTupOf, Fm.rLstOf, L2.tDNewK, L2.tCallS, L2.WE, Fm.wKeep, Fm.rIsK, Fm.rIsKT, List.cons_append, List.nil_append, L2.tYes])
namespace Fm
open PySem PySem.Spec PyProof.Rows L2
abbrev s_law_pairs : Stmt := top 37
abbrev N_law_pairs : List Str := ["crowd", "found", "floor", "row", "one", "other"]
theorem sc_law_pairs : FnScope N_law_pairs ["crowd"] (defScope s_law_pairs) := ⟨rfl, rfl, rfl, by decide +kernel, rfl, by decide +kernel, by decide +kernel⟩
section
variable {P : Program} {w : World} {K : PySem.W.Frag} {mg : Str → Option Value} {base : Heap}
theorem Dat.isLst {H : Hp} {p : Addr} {v : V} {ds : List PyData} (h : Dat H p v (.list ds)) : ∃ a xs, v = .ref a ∧ H a = some (.lst xs) ∧ a ≠ p ∧ Dats H p xs ds := by
  cases h with
  | lst h1 h2 h3 h4 => exact ⟨_, _, rfl, h1, h2, h3, h4⟩
theorem rowL_parts {H : Hp} {p : Addr} {v : V} {r : List Int} (h : Dat H p v (rowL r)) : ∃ a, v = .ref a ∧ H a = some (.lst (r.map V.int)) ∧ a ≠ p := by
  obtain ⟨a, ys, rfl, ha, np, hs⟩ := h.isLst
  rw [dats_ints hs] at ha
  exact ⟨a, rfl, ha, np⟩
theorem crowd_parts {H : Hp} {p : Addr} {v : V} {fl : List (List Int)} {out : Int} (h : Dat H p v (crowdD fl out)) : ∃ a F ws, v = .ref a ∧ H a = some (.tup [.ref F, .int out]) ∧ a ≠ p ∧ H F = some (.lst ws) ∧ F ≠ p ∧ Dats H p ws (fl.map rowL) := by
  obtain ⟨a, xs, rfl, ha, na, hs⟩ := h.isTup
  have hl : xs.length = 2 := hs.1
  match xs, hl with
  | [x0, x1], _ =>
    obtain ⟨F, ws, rfl, hF, nF, hW⟩ := (hs.2 0 x0 _ rfl rfl).isLst
    obtain rfl := (hs.2 1 x1 _ rfl rfl).isInt
    exact ⟨a, F, ws, rfl, ha, na, hF, nF, hW⟩
def tup3 (f one other : Nat) : PyData := .tuple [.int f, .int one, .int other]
def tri (f one n : Nat) : List PyData := (List.range n).map fun other => tup3 f one other
def rowP (f n : Nat) : List PyData := (List.range n).flatMap fun one => tri f one one
def allP (ls : List Nat) (n : Nat) : List PyData := (List.range n).flatMap fun f => rowP f (ls.getD f 0)
theorem tri_succ (f one n : Nat) : tri f one (n + 1) = tri f one n ++ [tup3 f one n] := by unfold tri; rw [List.range_succ, List.map_append]; rfl
theorem rowP_succ (f n : Nat) : rowP f (n + 1) = rowP f n ++ tri f n n := by unfold rowP; rw [List.range_succ, List.flatMap_append, List.flatMap_singleton]
theorem allP_succ (ls : List Nat) (n : Nat) : allP ls (n + 1) = allP ls n ++ rowP n (ls.getD n 0) := by unfold allP; rw [List.range_succ, List.flatMap_append, List.flatMap_singleton]
theorem tri_len (f one n : Nat) : (tri f one n).length = n := by unfold tri; rw [List.length_map, List.length_range]
theorem rowP_len (f : Nat) : ∀ n, (rowP f n).length ≤ n * n
  | 0 => Nat.le_refl 0
  | n + 1 => by
    have := rowP_len f n
    rw [rowP_succ, List.length_append, tri_len, Nat.succ_mul, Nat.mul_succ]
    omega
theorem allP_len {ls : List Nat} (h : ∀ l ∈ ls, l ≤ 100) : ∀ n, (allP ls n).length ≤ n * 10000
  | 0 => Nat.le_refl 0
  | n + 1 => by
    have ih := allP_len h n
    have h1 := rowP_len n (ls.getD n 0)
    have h2 : ls.getD n 0 ≤ 100 := by
      rw [List.getD_eq_getElem?_getD]
      cases e : ls[n]? with
      | none => exact Nat.zero_le _
      | some l => exact h l (List.mem_of_getElem? e)
    have h3 := Nat.mul_le_mul h2 h2
    rw [allP_succ, List.length_append, Nat.succ_mul]
    omega
theorem allP_mem {ls : List Nat} {n : Nat} {d : PyData} (h : d ∈ allP ls n) : ∃ f one other, d = tup3 f one other ∧ f < n ∧ other < one ∧ one < ls.getD f 0 := by
  obtain ⟨f, hf, h⟩ := List.mem_flatMap.mp h
  obtain ⟨one, ho, h⟩ := List.mem_flatMap.mp h
  obtain ⟨other, hx, h⟩ := List.mem_map.mp h
  exact ⟨f, one, other, h.symm, List.mem_range.mp hf, List.mem_range.mp hx, List.mem_range.mp ho⟩
theorem allP_some {ls : List Nat} {n f : Nat} (hf : f < n) (h : 2 ≤ ls.getD f 0) : allP ls n ≠ [] := by
  intro e
  have : tup3 f 1 0 ∈ allP ls n := List.mem_flatMap.mpr ⟨f, List.mem_range.mpr hf, List.mem_flatMap.mpr ⟨1, List.mem_range.mpr (by omega), List.mem_map.mpr ⟨0, List.mem_range.mpr (by omega), rfl⟩⟩⟩
  rw [e] at this
  cases this
theorem allP_none {ls : List Nat} {n : Nat} (h : ∀ f, f < n → ls.getD f 0 ≤ 1) : allP ls n = [] := by
  cases e : allP ls n with
  | nil => rfl
  | cons d r =>
    obtain ⟨f, one, other, _, h1, h2, h3⟩ := allP_mem (d := d) (by rw [e]; exact List.mem_cons_self)
    have := h f h1
    omega
theorem tri_no (f one n : Nat) : ∀ d ∈ tri f one n, noList d = true := fun d hd => by
  obtain ⟨x, _, rfl⟩ := List.mem_map.mp hd
  exact noList_of fun e he => by
    simp only [List.mem_cons, List.not_mem_nil, or_false] at he
    rcases he with rfl | rfl | rfl <;> (unfold noList; rfl)
theorem rowP_no (f n : Nat) : ∀ d ∈ rowP f n, noList d = true := fun d hd => by
  obtain ⟨x, _, h⟩ := List.mem_flatMap.mp hd
  exact tri_no _ _ _ d h
theorem allP_no (ls : List Nat) (n : Nat) : ∀ d ∈ allP ls n, noList d = true := fun d hd => by
  obtain ⟨x, _, h⟩ := List.mem_flatMap.mp hd
  exact rowP_no _ _ d h
theorem Dats.app {H : Hp} {p : Addr} {xs ys : List V} {ds es : List PyData} (h : Dats H p xs ds) (k : Dats H p ys es) : Dats H p (xs ++ ys) (ds ++ es) := by
  refine ⟨by rw [List.length_append, List.length_append, h.1, k.1], fun i x e a b => ?_⟩
  by_cases hi : i < xs.length
  · rw [List.getElem?_append_left hi] at a
    rw [List.getElem?_append_left (by rw [← h.1]; exact hi)] at b
    exact h.2 i x e a b
  · rw [List.getElem?_append_right (by omega)] at a
    rw [List.getElem?_append_right (by rw [← h.1]; omega), ← h.1] at b
    exact k.2 _ x e a b
def lensOf (fl : List (List Int)) : List Nat := fl.map List.length
def spPairs : Sp := fun vs H Q _ => ∃ (v : V) (p : Addr) (u : HO) (fl : List (List Int)) (out : Int), vs = [v] ∧ H p = some u ∧ Dat H p v (crowdD fl out) ∧ fl.length ≤ 4 ∧ (∀ l ∈ lensOf fl, l ≤ 100) ∧
  ∀ q ws H', H q = none → H' q = some (.lst ws) → Dats H' p ws (allP (lensOf fl) fl.length) → Same H H' → Q (.ref q) H'
theorem ok_law_pairs (D : Df K mg "_law_pairs" s_law_pairs ["crowd"]) (T : Nms mg) : CallOk P w K mg base CX0 1 "_law_pairs" ["crowd"] spPairs := by
  refine df_ok D sc_law_pairs (fun vs H Q E h => ?_) (fun f cdv A outer s H vs Q E hr h => ?_)
  · obtain ⟨v, p, u, fl, out, rfl, _⟩ := h
    rfl
  · obtain ⟨v, p, u, fl, out, rfl, hp, hd, hn4, h100, k⟩ := h
    obtain ⟨a, F, ws, rfl, ha, na, hF, nF, hW⟩ := crowd_parts hd
    have nd := sc_law_pairs.nd
    have pne : ∀ {S : Addr} {G : Hp}, Same H G → G S = none → S ≠ p := fun {S G} e z q => by
      rw [q] at z
      have := e p u hp
      rw [z] at this
      cases this
    refine ⟨_, (pss_cons (ps_set (i := 1) nd rfl (Or.inl rfl) (pe_lst pa_nil))
      (pss_cons (ps_for PassesOwn.never rfl (pi_enum (by rfl) T.n_enumerate (pa_cons (pe_ix (r := rIxT K) ix_tup (pv 0) pe_int (fun _ _ => rfl)) pa_nil)) (pg_tup rfl (pgs_cons (pg_name (i := 2) nd rfl (Or.inr rfl)) (pgs_cons (pg_name (i := 3) nd rfl (Or.inl rfl)) pgs_nil))) (pss_one (ps_for PassesOwn.never rfl (pi_range1 rfl T.n_range (pa_cons (pe_callB (r := rLenS K) call_lenS (by rfl) T.n_len (by decide +kernel) (pa_cons (pv 3) pa_nil)) pa_nil)) (pg_name (i := 4) nd rfl (Or.inr rfl)) (pss_one (ps_expr (pe_bm PySem.F.plainAttrs_list PySem.F.slot_list_extend PySem.F.type_list_extend mt_extend (pv 1) (pa_cons (pe_lc (own := [("other", 5)]) (g := (gName 5)) (tt := tYes) (by rfl) nd (pi_range1 rfl T.n_range (pa_cons (pv 4) pa_nil)) (blkOk_by (own := [("other", 5)]) (N := N_law_pairs) (sc := defScope s_law_pairs) (by decide +kernel)) (fun _ _ _ _ _ => (pg_name (i := 5) nd rfl (Or.inl rfl))) (fun _ _ _ _ _ => pts_nil) (fun _ _ _ _ _ => (pe_tup (pa_cons (pv 2) (pa_cons (pv 4) (pa_cons (pv 5) pa_nil)))))) pa_nil)))))))
      (pss_one (ps_ret (pv 1))))), ?_⟩
    walk_at "op"
    walk_at "st"
    refine fun L hL => ?_
    have nL : a ≠ L := ne_of_none ha hL
    have nFL : F ≠ L := ne_of_none hF hL
    walk_at "st"
    refine ⟨F, ws, rfl, SqL.of (by rw [upd_ne nFL]; exact hF), ?_⟩
    refine fI walk_enum (fun i σ H' => Same H H' ∧ ∃ (xs : List V) (u1 u2 u3 : Option V), σ = [some (.ref a), some (.ref L), u1, u2, u3, none] ∧ H' L = some (.lst xs) ∧ Dats H' p xs (allP (lensOf fl) i))
      ⟨sameOff (Same.refl H) hL, [], _, _, _, rfl, upd_same, Dats.nil⟩ (fun i σ H' _ ⟨e, _⟩ => SqL.of (e _ _ hF)) ?_ ?_
    · rintro i v σ H1 _ hi ⟨sm, xs, u1, u2, u3, rfl, hL1, hD1⟩ ⟨t, x, y, rfl, ht, rfl, hxi, hyi⟩
      dsimp only at hxi hyi
      cases hxi
      obtain ⟨e, he, hde⟩ := hW.at hyi
      rw [List.getElem?_map] at he
      cases er : fl[i]? with
      | none => rw [er] at he; cases he
      | some c =>
        rw [er] at he
        cases he
        obtain ⟨b, rfl, hb, _⟩ := rowL_parts hde
        have hlc : (lensOf fl).getD i 0 = c.length := by
          unfold lensOf
          rw [List.getD_eq_getElem?_getD, List.getElem?_map, er]
          rfl
        have hil := (List.getElem?_eq_some_iff.mp er).1
        have hc100 : c.length ≤ 100 := h100 _ (List.mem_map_of_mem (List.mem_of_getElem? er))
        have nLt : L ≠ t := ne_of_none hL1 ht
        walk_at "op"
        refine ⟨t, _, rfl, SqT.of upd_same, rfl, _, _, rfl, _, _, rfl, rfl, ?_⟩
        walk_at "op"
        walk_at "st"
        have s1 : Same H1 (upd H1 t (.tup [.int i, .ref b])) := same_new ht
        have hb1 : H1 b = some (.lst (c.map V.int)) := sm _ _ hb
        refine ⟨b, _, rfl, .inl (SqL.of (s1 _ _ hb1)), c.length, by rw [List.length_map], by omega, by omega, ?_⟩
        rw [Int.toNat_natCast]
        have hno : ∀ d ∈ allP (lensOf fl) i, noList d = true := allP_no _ _
        refine fR (fun one σ H2 => Same H H2 ∧ ∃ (xs2 : List V) (u3 : Option V), σ = [some (.ref a), some (.ref L), some (.int i), some (.ref b), u3, none] ∧ H2 L = some (.lst xs2) ∧ Dats H2 p xs2 (allP (lensOf fl) i ++ rowP i one))
          ⟨sm.trans s1, xs, _, rfl, s1 _ _ hL1, by rw [show rowP i 0 = [] from rfl, List.append_nil]; exact hD1.same s1⟩ ?_ ?_
        · rintro one σ H2 ho ⟨sm2, xs2, u3', rfl, hL2, hD2⟩
          rw [Int.zero_add]
          walk_at "op"
          walk_at "st"
          refine ⟨.inl ⟨rfl, _, SqL.of hL2⟩, ?_⟩
          walk_at "st"
          refine fun D' hD' => ?_
          rw [Int.toNat_natCast]
          have hDH := sameFree sm2 hD'
          have nLD : L ≠ D' := ne_of_none hL2 hD'
          have hDp := pne sm2 hD'
          refine lR (fun j H3 => Same H H3 ∧ H3 L = some (.lst xs2) ∧ Dats H3 p xs2 (allP (lensOf fl) i ++ rowP i one) ∧ ∃ ys, H3 D' = some (.lst ys) ∧ Dats H3 p ys (tri i one j))
            ⟨sameOff sm2 hDH, by rw [upd_ne nLD]; exact hL2, hD2.off hD', [], upd_same, Dats.nil⟩ ?_ ?_
          · rintro j H3 hj ⟨sm3, hL3, hD3, ys, hy, hDy⟩
            rw [Int.zero_add]
            walk_at "op"
            refine ⟨rfl, ?_⟩
            walk_at "st"
            refine ⟨by show 3 ≤ sizeLine; decide, fun r hr => ?_⟩
            have nDr : D' ≠ r := ne_of_none hy hr
            have hrp := pne sm3 hr
            have yl : ys.length = j := by rw [hDy.1, tri_len]
            have hn2 : ∀ d ∈ allP (lensOf fl) i ++ rowP i one, noList d = true := fun d hd => by
              rcases List.mem_append.mp hd with hd | hd
              · exact hno d hd
              · exact rowP_no _ _ d hd
            have hy2 : upd H3 r (.tup [.int i, .int one, .int j]) D' = some (.lst ys) := by rw [upd_ne nDr]; exact hy
            refine ⟨ys, hy2, small1000 (by omega), sameOff (sm3.trans (same_new hr)) hDH, by rw [upd_ne nLD]; exact (same_new hr) _ _ hL3, (hD3.off hr).setL hy2 hn2, ys ++ [.ref r], upd_same, ?_⟩
            rw [tri_succ]
            refine ((hDy.off hr).setL hy2 (tri_no _ _ _)).snoc ?_
            exact Dat.setL hy2 (Dat.new hr hrp (Dats.cons (.int _) (Dats.cons (.int _) (Dats.cons (.int _) Dats.nil)))) (tri_no i one (j + 1) _ (by rw [tri_succ]; exact List.mem_append_right _ List.mem_cons_self))
          · rintro H3 ⟨sm3, hL3, hD3, ys, hy, hDy⟩
            walk_at "op"
            walk_at "st"
            have hn2 : ∀ d ∈ allP (lensOf fl) i ++ rowP i one, noList d = true := fun d hd => by
              rcases List.mem_append.mp hd with hd | hd
              · exact hno d hd
              · exact rowP_no _ _ d hd
            have yl : ys.length = one := by rw [hDy.1, tri_len]
            have xl : xs2.length ≤ 50000 := by
              have q1 := allP_len h100 i
              have q2 := rowP_len i one
              have q3 : one * one ≤ 10000 := Nat.mul_le_mul (show one ≤ 100 by omega) (show one ≤ 100 by omega)
              rw [hD2.1, List.length_append]
              omega
            refine ⟨L, D', xs2, ys, rfl, rfl, hL3, hy, by rw [sizeLine_eq]; omega, sameOff sm3 hL, xs2 ++ ys, _, rfl, upd_same, ?_⟩
            rw [rowP_succ, ← List.append_assoc]
            exact (hD3.setL hL3 hn2).app (hDy.setL hL3 (tri_no _ _ _))
        · rintro σ H2 ⟨sm2, xs2, u3', rfl, hL2, hD2⟩
          refine ⟨sm2, xs2, _, _, _, rfl, hL2, ?_⟩
          rw [allP_succ, hlc]
          exact hD2
    · rintro σ H1 ⟨sm, xs, u1, u2, u3, rfl, hL1, hD1⟩
      walk_at "op"
      walk_at "st"
      have e : ws.length = fl.length := by rw [hW.1, List.length_map]
      rw [e] at hD1
      exact k L xs H1 hL hL1 hD1 sm
end
end Fm
end FPR
section FME
set_option Elab.async false
set_option linter.all false
set_option maxRecDepth 100000
set_option maxHeartbeats 4000000
local macro_rules | `(tactic| walk_at "ne") => `(tactic| first | assumption | (apply Ne.symm; assumption) | exact L2.ne_of_none (by assumption) (by assumption) | exact Ne.symm (L2.ne_of_none (by assumption) (by assumption)))
local macro_rules | `(tactic| walk_at "hl") => `(tactic| first | assumption | exact L2.upd_same | (refine Eq.trans (L2.upd_ne (by walk_at "ne")) ?_; walk_at "hl"))
local macro_rules | `(tactic| walk_at "sd") => `(tactic| first | (with_reducible show (_ : Int) < _; omega) | (with_reducible show (_ : Int) ≤ _; omega) | assumption | decide | exact ⟨by assumption, by assumption⟩ | exact ⟨by decide, by decide⟩ | exact Or.inr ⟨by decide, by decide⟩ | exact Or.inl ⟨by omega, by omega⟩ | rfl)
local macro_rules | `(tactic| walk_at "st1") => `(tactic| first
  | refine ⟨_, rfl, ?_⟩
  | refine ⟨_, _, rfl, rfl, ?_⟩
  | refine ⟨_, _, rfl, ?_⟩
  | (refine ⟨_, _, _, _, rfl, rfl, L2.SqL.of (by walk_at "hl"), rfl, ?_⟩)
  | (refine ⟨_, _, _, _, rfl, rfl, L2.SqT.of (by walk_at "hl"), rfl, ?_⟩)
  | (refine ⟨_, _, _, _, rfl, rfl, (by walk_at "hl"), rfl, ?_⟩)
  | (refine And.intro (by walk_at "sd") ?_)
  )
local macro_rules | `(tactic| walk_at "st") => `(tactic| repeat walk_at "st1")
local macro_rules | `(tactic| walk_at "op") => `(tactic| try dsimp only [L2.tSeq, L2.tAsg, L2.tOp, L2.tVar, L2.tC, L2.gSub, L2.rI, L2.rI0, L2.rIxL, L2.rIxT, L2.rSetL, L2.tIfS, L2.tTest, L2.tRet, L2.gName, L2.tNext, L2.tAnd, L2.tOr, L2.tNot, L2.tAndV, L2.tOrV, L2.tNotV, L2.tB, L2.tCB, L2.tCons, L2.tNil, L2.tCall, L2.tTup, L2.tLst, L2.tChain, L2.tUn, L2.tPar, L2.tDrop, L2.tIf, L2.tBM, L2.tBM0, L2.rAppend, L2.rCat, L2.rIsi, L2.rIsiT, L2.gTup, L2.gCons, L2.gNil, Fm.tFor_eq, Fm.tLc_eq, L2.iTup, L2.iList, L2.iRng1, L2.iRng2, L2.tSl, L2.tPart, L2.tNoPart, L2.rSlL, L2.rEq, L2.rNe, L2.rU, L2.rEqD, L2.rNeD, Fm.tRevT, Fm.rLenS, Fm.rTupOf, Fm.rLstOf, L2.tDNewK, L2.tCallS, L2.WE, Fm.wKeep, Fm.rIsK, Fm.rIsKT, List.cons_append, List.nil_append, L2.tYes])
namespace Fm
open PySem PySem.Spec PyProof.Rows L2
abbrev s_law_meet : Stmt := top 36
abbrev N_law_meet : List Str := ["house", "crowd", "floor", "one", "other", "floors", "out", "row", "a", "b", "k", "number"]
theorem sc_law_meet : FnScope N_law_meet ["house", "crowd", "floor", "one", "other"] (defScope s_law_meet) := ⟨rfl, rfl, rfl, by decide +kernel, rfl, by decide +kernel, by decide +kernel⟩
section
variable {P : Program} {w : World} {K : PySem.W.Frag} {mg : Str → Option Value} {base : Heap}
theorem LL.set {H : Hp} {p L E : Addr} {ws : List V} {fl : List (List Int)} {c : List Int} {f : Nat} (h : LL H p L ws fl) (hb : H E = some (.lst (c.map V.int))) (n1 : E ≠ L) (n2 : E ≠ p) : LL (upd H L (.lst (ws.set f (.ref E)))) p L (ws.set f (.ref E)) (fl.set f c) := by
  refine ⟨upd_same, by rw [List.length_set, List.length_set, h.len], fun j d q => ?_⟩
  rw [List.getElem?_set] at q
  by_cases hj : f = j
  · subst hj
    rw [if_pos rfl] at q
    by_cases hl : f < fl.length
    · rw [if_pos hl] at q
      cases q
      exact ⟨E, by rw [List.getElem?_set_self (by rw [h.len]; exact hl)], by rw [upd_ne n1]; exact hb, n1, n2⟩
    · rw [if_neg hl] at q
      cases q
  · rw [if_neg hj] at q
    obtain ⟨b, e1, e2, e3, e4⟩ := h.row j d q
    exact ⟨b, by rw [List.getElem?_set_ne hj]; exact e1, by rw [upd_ne e3]; exact e2, e3, e4⟩
theorem LL.updRow {H : Hp} {p L E : Addr} {ws : List V} {fl : List (List Int)} {c : List Int} {f : Nat} (h : LL H p L ws fl) (hw : ws[f]? = some (V.ref E)) (inj : ∀ j, ws[j]? = some (V.ref E) → j = f) : LL (upd H E (.lst (c.map V.int))) p L ws (fl.set f c) := by
  have hf : f < fl.length := by
    rw [← h.len]
    exact (List.getElem?_eq_some_iff.mp hw).1
  obtain ⟨b, e1, e2, e3, e4⟩ := h.row f fl[f] (List.getElem?_eq_getElem hf)
  rw [hw] at e1
  cases e1
  refine ⟨by rw [upd_ne e3.symm]; exact h.at_, by rw [List.length_set, h.len], fun j d q => ?_⟩
  rw [List.getElem?_set] at q
  by_cases hj : f = j
  · subst hj
    rw [if_pos rfl, if_pos hf] at q
    cases q
    exact ⟨E, hw, upd_same, e3, e4⟩
  · rw [if_neg hj] at q
    obtain ⟨b, g1, g2, g3, g4⟩ := h.row j d q
    have nb : b ≠ E := fun z => by
      subst z
      exact hj (inj j g1).symm
    exact ⟨b, g1, by rw [upd_ne nb]; exact g2, g3, g4⟩
/-- who is left of a row without two of them -/
def keepN (c : List Int) (one other n : Nat) : List Int := ((List.range n).filter fun k => !(k == one || k == other)).map fun k => c.getD k 0
theorem keepN_succ (c : List Int) (one other n : Nat) : keepN c one other (n + 1) = keepN c one other n ++ if (n == one || n == other) = true then [] else [c.getD n 0] := by
  unfold keepN
  rw [List.range_succ, List.filter_append, List.map_append]
  congr 1
  rw [List.filter_cons, List.filter_nil]
  cases h : (n == one || n == other) <;> rfl
theorem keepN_len (c : List Int) {one other : Nat} (h : other < one) : ∀ n, (keepN c one other n).length + ((if one < n then 1 else 0) + (if other < n then 1 else 0)) = n
  | 0 => rfl
  | n + 1 => by
    have ih := keepN_len c h n
    rw [keepN_succ, List.length_append]
    by_cases e1 : n = one
    · have e3 : (n == one || n == other) = true := by simp [e1]
      rw [if_pos e3]
      rw [if_neg (by omega), if_pos (by omega)] at ih
      rw [if_pos (by omega), if_pos (by omega), List.length_nil]
      omega
    · by_cases e2 : n = other
      · have e3 : (n == one || n == other) = true := by simp [e2]
        rw [if_pos e3]
        rw [if_neg (by omega), if_neg (by omega)] at ih
        rw [if_neg (by omega), if_pos (by omega), List.length_nil]
        omega
      · have e3 : ¬ (n == one || n == other) = true := by simp [e1, e2]
        rw [if_neg e3]
        have i1 : (if one < n + 1 then 1 else 0) = (if one < n then 1 else 0) := by split <;> split <;> omega
        have i2 : (if other < n + 1 then 1 else 0) = (if other < n then 1 else 0) := by split <;> split <;> omega
        rw [i1, i2]
        show _ + 1 + _ = _
        omega
theorem keepN_in {c : List Int} {one other n : Nat} (h : n ≤ c.length) {e : Int} (he : e ∈ keepN c one other n) : e ∈ c := by
  obtain ⟨k, hk, rfl⟩ := List.mem_map.mp he
  have := List.mem_range.mp (List.mem_filter.mp hk).1
  rw [List.getD_eq_getElem?_getD, List.getElem?_eq_getElem (show k < c.length by omega)]
  exact List.getElem_mem _
theorem inV_two (k one other : Nat) : inV (.int k) [.int one, .int other] = (k == one || k == other) := by
  unfold inV
  simp only [List.any_cons, List.any_nil, Bool.or_false]
  show (((one : Int) == (k : Int)) || ((other : Int) == (k : Int))) = _
  have e : ∀ x : Nat, ((x : Int) == (k : Int)) = (k == x) := fun x => by
    rw [Bool.eq_iff_iff]
    simp only [beq_iff_eq]
    omega
  rw [e, e]
theorem ixN_of {n k : Nat} (h : k < n) : ixN n (k : Int) = some k := by
  unfold ixN
  rw [if_pos (by omega), if_pos (by omega), Int.toNat_natCast]
theorem house_cells {H : Hp} {ph : Addr} {hv : V} {fs : List PyData} {m n f : Nat} {a b : Int} (hD : Dat H ph hv (.tuple fs)) (hN : HouseN m n (.tuple fs)) (hf : f < n) (a0 : 0 ≤ a) (a1 : a < m) (b0 : 0 ≤ b) (b1 : b < m) :
    ∃ (ah af s0 u0 ra rb : Addr) (hs ss us ya yb : List V) (st up : Int), hv = .ref ah ∧ H ah = some (.tup hs) ∧ hs.length = n ∧ hs[f]? = some (V.ref af) ∧ H af = some (.tup [.ref s0, .ref u0]) ∧
      H s0 = some (.tup ss) ∧ ss[a.toNat]? = some (V.ref ra) ∧ H ra = some (.tup ya) ∧ ya[b.toNat]? = some (V.int st) ∧ 0 ≤ st ∧ st < m ∧
      H u0 = some (.tup us) ∧ us[a.toNat]? = some (V.ref rb) ∧ H rb = some (.tup yb) ∧ yb[b.toNat]? = some (V.int up) ∧ 0 ≤ up ∧ up < m := by
  obtain ⟨fs', e, hl, _, _, _, _, hF⟩ := hN
  cases e
  obtain ⟨ah, hs, rfl, hah, _, hh⟩ := hD.isTup
  have hfl : f < fs.length := by omega
  obtain ⟨sd, ud, e1, ⟨rs, e2, l2, r2, _⟩, ⟨ru, e3, l3, r3, _⟩⟩ := hF fs[f] (List.getElem_mem _)
  subst e2 e3
  have e4 : fs[f]? = some (.tuple [.tuple rs, .tuple ru]) := by rw [List.getElem?_eq_getElem hfl, e1]
  obtain ⟨x, hx, hdx⟩ := hh.back e4
  obtain ⟨af, ys, rfl, haf, _, hy⟩ := hdx.isTup
  have hyl : ys.length = 2 := hy.1
  match ys, hyl with
  | [w1, w2], _ =>
    obtain ⟨s0, ss, rfl, hs0, _, hss⟩ := (hy.2 0 w1 _ rfl rfl).isTup
    obtain ⟨u0, us, rfl, hu0, _, hus⟩ := (hy.2 1 w2 _ rfl rfl).isTup
    obtain ⟨ra, ya, st, c1, c2, c3, _, c4, c5⟩ := cell_at hss l2 r2 (a := a.toNat) (b := b.toNat) (by omega) (by omega)
    obtain ⟨rb, yb, up, d1, d2, d3, _, d4, d5⟩ := cell_at hus l3 r3 (a := a.toNat) (b := b.toNat) (by omega) (by omega)
    exact ⟨ah, af, s0, u0, ra, rb, hs, ss, us, ya, yb, st, up, rfl, hah, by rw [hh.1, hl], hx, haf, hs0, c1, c2, c3, c4, c5, hu0, d1, d2, d3, d4, d5⟩
def stepL (f : Nat) (ls : List Nat) : List Nat := (ls.set f (ls.getD f 0 - 1)).set (f + 1) (ls.getD (f + 1) 0 + 1)
def RowsIn (m : Nat) (fl : List (List Int)) : Prop := ∀ r ∈ fl, ∀ e ∈ r, 0 ≤ e ∧ e < (m : Int)
theorem RowsIn.set {m : Nat} {fl : List (List Int)} {c : List Int} {i : Nat} (h : RowsIn m fl) (hc : ∀ e ∈ c, 0 ≤ e ∧ e < (m : Int)) : RowsIn m (fl.set i c) := fun r hr e he => by
  rcases List.mem_or_eq_of_mem_set hr with q | rfl
  · exact h r q e he
  · exact hc e he
theorem lens_set (fl : List (List Int)) (i : Nat) (c : List Int) : lensOf (fl.set i c) = (lensOf fl).set i c.length := by
  unfold lensOf
  rw [List.map_set]
def spMeet : Sp := fun vs H Q _ => ∃ (hv cv : V) (p ph : Addr) (u : HO) (hd : PyData) (m n f one other : Nat) (fl : List (List Int)) (out : Int), vs = [hv, cv, .int f, .int one, .int other] ∧ H p = some u ∧ Dat H ph hv hd ∧ HouseN m n hd ∧ Dat H p cv (crowdD fl out) ∧ fl.length = n ∧ RowsIn m fl ∧
  (∀ l ∈ lensOf fl, l ≤ 100) ∧ f < n ∧ other < one ∧ one < (lensOf fl).getD f 0 ∧
  ∀ v' H' fl' out', Dat H' p v' (crowdD fl' out') → Same H H' → lensOf fl' = stepL f (lensOf fl) → RowsIn m fl' → fl'.length = n → Q v' H'
theorem ok_law_meet (D : Df K mg "_law_meet" s_law_meet ["house", "crowd", "floor", "one", "other"]) (T : Nms mg) : CallOk P w K mg base CX0 1 "_law_meet" ["house", "crowd", "floor", "one", "other"] spMeet := by
  refine df_ok D sc_law_meet (fun vs H Q E h => ?_) (fun f cdv A outer s H vs Q E hr h => ?_)
  · obtain ⟨hv, cv, p, ph, u, hd, m, n, fn, one, other, fl, out, rfl, _⟩ := h
    rfl
  · obtain ⟨hv, cv, p, ph, u, hd, m, n, fn, one, other, fl, out, rfl, hp, hD, hN, hC, hln, hin, h100, hf, ho1, ho2, k⟩ := h
    obtain ⟨a, F, ws0, rfl, ha, na, hF, nF, hW⟩ := crowd_parts hC
    have nd := sc_law_meet.nd
    have pne : ∀ {S : Addr} {G : Hp}, Same H G → G S = none → S ≠ p := fun {S G} e z q => by
      rw [q] at z
      have := e p u hp
      rw [z] at this
      cases this
    obtain ⟨fs, rfl, hfl, hn1, hn4, hm1, hm6, hFl⟩ := id hN
    refine ⟨_, (pss_cons (ps_par (i := 5) (j := 6) (by rfl) nd rfl rfl (by decide) rfl rfl (pa_cons (pe_lc (own := [("row", 7)]) (g := (gName 7)) (tt := tYes) (by rfl) nd (pi_list (pe_ix (r := rIxT K) ix_tup (pv 1) pe_int (fun _ _ => rfl))) (blkOk_by (own := [("row", 7)]) (N := N_law_meet) (sc := defScope s_law_meet) (by decide +kernel)) (fun _ _ _ _ _ => (pg_name (i := 7) nd rfl (Or.inl rfl))) (fun _ _ _ _ _ => pts_nil) (fun _ _ _ _ _ => (pe_callTy (r := rLstOf K) call_lstOf (by rfl) T.n_list (by decide +kernel) (pa_cons (pv 7) pa_nil)))) (pa_cons (pe_ix (r := rIxT K) ix_tup (pv 1) pe_int (fun _ _ => rfl)) pa_nil)) (by rfl))
      (pss_cons (ps_par (i := 8) (j := 9) (by rfl) nd rfl rfl (by decide) rfl rfl (pa_cons (pe_ix (r := rIxL K) ix_list (pe_ix (r := rIxL K) ix_list (pv 5) (pv 2) (fun _ _ => rfl)) (pv 3) (fun _ _ => rfl)) (pa_cons (pe_ix (r := rIxL K) ix_list (pe_ix (r := rIxL K) ix_list (pv 5) (pv 2) (fun _ _ => rfl)) (pv 4) (fun _ _ => rfl)) pa_nil)) (by rfl))
      (pss_cons (ps_asg (pe_lc (own := [("k", 10), ("number", 11)]) (g := (gTup K 2 (gCons (gName 10) (gCons (gName 11) gNil)))) (by rfl) nd (pi_enum (by rfl) T.n_enumerate (pa_cons (pe_ix (r := rIxL K) ix_list (pv 5) (pv 2) (fun _ _ => rfl)) pa_nil)) (blkOk_by (own := [("k", 10), ("number", 11)]) (N := N_law_meet) (sc := defScope s_law_meet) (by decide +kernel)) (fun _ _ _ _ _ => (pg_tup rfl (pgs_cons (pg_name (i := 10) nd rfl (Or.inl rfl)) (pgs_cons (pg_name (i := 11) nd rfl (Or.inl rfl)) pgs_nil)))) (fun _ _ _ _ _ => (pts_one (pt_cmpR (r := rIn K true) op_notIn_seq (pv 10) (pe_tup (pa_cons (pv 3) (pa_cons (pv 4) pa_nil))) (by rfl)))) (fun _ _ _ _ _ => (pv 11))) (pg_sub (pv 5) (pv 2) set_list))
      (pss_cons (ps_expr (pe_bm PySem.F.plainAttrs_list PySem.F.slot_list_append PySem.F.type_list_append mt_append (pe_ix (r := rIxL K) ix_list (pv 5) (pv 2) (fun _ _ => rfl)) (pa_cons (pe_ix (r := rIxT K) ix_tup (pe_ix (r := rIxT K) ix_tup (pe_ix (r := rIxT K) ix_tup (pe_ix (r := rIxT K) ix_tup (pv 0) (pv 2) (fun _ _ => rfl)) pe_int (fun _ _ => rfl)) (pv 8) (fun _ _ => rfl)) (pv 9) (fun _ _ => rfl)) pa_nil)))
      (pss_cons (ps_if (pt_cmpR op_lt (pe_op op_add (pv 2) pe_int) (pe_callB (r := rLenS K) call_lenS (by rfl) T.n_len (by decide +kernel) (pa_cons (pv 0) pa_nil)) (nomark _)) (pss_one (ps_expr (pe_bm PySem.F.plainAttrs_list PySem.F.slot_list_append PySem.F.type_list_append mt_append (pe_ix (r := rIxL K) ix_list (pv 5) (pe_op op_add (pv 2) pe_int) (fun _ _ => rfl)) (pa_cons (pe_ix (r := rIxT K) ix_tup (pe_ix (r := rIxT K) ix_tup (pe_ix (r := rIxT K) ix_tup (pe_ix (r := rIxT K) ix_tup (pv 0) (pv 2) (fun _ _ => rfl)) pe_int (fun _ _ => rfl)) (pv 8) (fun _ _ => rfl)) (pv 9) (fun _ _ => rfl)) pa_nil)))) (pss_one (ps_set (i := 6) nd rfl (Or.inl rfl) (pe_op op_add (pv 6) pe_int))))
      (pss_one (ps_ret (pe_tup (pa_cons (pv 5) (pa_cons (pv 6) pa_nil)))))))))), ?_⟩
    walk_at "op"
    walk_at "st"
    refine ⟨⟨_, SqL.of hF⟩, fun D' hD' => ?_⟩
    have hDp := pne (Same.refl H) hD'
    refine lI walk_list (fun j H2 => Same H H2 ∧ ∃ ws, LL H2 p D' ws (fl.take j) ∧ (∀ (i1 i2 : Nat) (b : Addr), ws[i1]? = some (V.ref b) → ws[i2]? = some (V.ref b) → i1 = i2) ∧ (∀ (i : Nat) (b : Addr), ws[i]? = some (V.ref b) → H b = none))
      ⟨same_new hD', [], LL.nil upd_same, fun i1 i2 b e => (by cases e), fun i b e => (by cases e)⟩ (fun j H2 _ ⟨e, _⟩ => SqL.of (e _ _ hF)) ?_ ?_
    · rintro j x H2 _ hj ⟨sm, ws, hLL, inj, fresh⟩ ⟨rfl, hxj⟩
      obtain ⟨e, he, hde⟩ := hW.at hxj
      rw [List.getElem?_map] at he
      cases er : fl[j]? with
      | none => rw [er] at he; cases he
      | some c =>
        rw [er] at he
        cases he
        obtain ⟨b, rfl, hb, _⟩ := rowL_parts hde
        walk_at "op"
        refine ⟨rfl, ?_⟩
        walk_at "st"
        refine ⟨b, _, rfl, .inl (SqL.of (sm _ _ hb)), fun l hl => ?_⟩
        have hlH := sameFree sm hl
        have nlD : l ≠ D' := fun z => by rw [z, hLL.at_] at hl; cases hl
        have hLL2 := hLL.same (same_new (o := .lst (c.map V.int)) hl)
        have wl : ws.length = j := by
          have := (List.getElem?_eq_some_iff.mp er).1
          rw [hLL.len, List.length_take]
          omega
        have hj4 : j < fl.length := (List.getElem?_eq_some_iff.mp er).1
        have old : ∀ (i : Nat) b, ws[i]? = some (V.ref b) → b ≠ l := fun i b e z => by
          obtain ⟨b', e1, e2, _⟩ := hLL.row i ((fl.take j)[i]'(by rw [← hLL.len]; exact (List.getElem?_eq_some_iff.mp e).1)) (List.getElem?_eq_getElem _)
          rw [e] at e1
          cases e1
          subst z
          rw [hl] at e2
          cases e2
        refine ⟨ws, hLL2.at_, small1000 (by omega), sameOff (sm.trans (same_new hl)) hD', ws ++ [.ref l], ?_, fun i1 i2 b e1 e2 => ?_, fun i b e => ?_⟩
        · have e9 : fl.take (j + 1) = fl.take j ++ [c] := by
            rw [List.take_add_one, er]
            rfl
          rw [e9]
          exact hLL2.snoc upd_same nlD (pne sm hl)
        · have cs : ∀ i, (ws ++ [V.ref l])[i]? = some (V.ref b) → (ws[i]? = some (V.ref b)) ∨ (i = ws.length ∧ b = l) := fun i e => by
            by_cases hi : i < ws.length
            · rw [List.getElem?_append_left hi] at e
              exact .inl e
            · rw [List.getElem?_append_right (by omega)] at e
              cases z : i - ws.length with
              | zero =>
                rw [z] at e
                cases e
                exact .inr ⟨by omega, rfl⟩
              | succ w => rw [z] at e; cases e
          rcases cs i1 e1 with q1 | ⟨q1, q2⟩
          · rcases cs i2 e2 with r1 | ⟨r1, r2⟩
            · exact inj i1 i2 b q1 r1
            · exact absurd r2 (old i1 b q1)
          · rcases cs i2 e2 with r1 | ⟨r1, r2⟩
            · exact absurd q2 (old i2 b r1)
            · rw [q1, r1]
        · by_cases hi : i < ws.length
          · rw [List.getElem?_append_left hi] at e
            exact fresh i b e
          · rw [List.getElem?_append_right (by omega)] at e
            cases z : i - ws.length with
            | zero =>
              rw [z] at e
              cases e
              exact hlH
            | succ w => rw [z] at e; cases e
    · rintro H2 ⟨sm, ws, hLL, inj, fresh⟩
      have ewl : ws0.length = fl.length := by rw [hW.1, List.length_map]
      rw [ewl, List.take_length] at hLL
      have hfl' : fn < fl.length := by omega
      obtain ⟨E0, hw0, hE0, nE0D, nE0p⟩ := hLL.row fn fl[fn] (List.getElem?_eq_getElem hfl')
      generalize hc : fl[fn] = c at hE0
      have hcm : c ∈ fl := by rw [← hc]; exact List.getElem_mem _
      have hcl : (lensOf fl).getD fn 0 = c.length := by
        unfold lensOf
        rw [List.getD_eq_getElem?_getD, List.getElem?_map, List.getElem?_eq_getElem hfl', hc]
        rfl
      have hgd : ∀ j, j < c.length → c[j]? = some (c.getD j 0) := fun j hj => by
        rw [List.getD_eq_getElem?_getD, List.getElem?_eq_getElem hj]
        rfl
      have hcv : ∀ j, j < c.length → (c.map V.int)[j]? = some (.int (c.getD j 0)) := fun j hj => by
        rw [List.getElem?_map, hgd j hj]
        rfl
      have hc100 : c.length ≤ 100 := h100 _ (List.mem_map_of_mem hcm)
      walk_at "op"
      walk_at "st"
      refine ⟨_, _, _, _, rfl, rfl, SqT.of (sm _ _ ha), atI_nat (j := 1) rfl, ?_⟩
      walk_at "st"
      refine ⟨_, _, _, _, rfl, rfl, SqL.of hLL.at_, atI_nat hw0, ?_⟩
      walk_at "st"
      refine ⟨_, _, _, _, rfl, rfl, SqL.of hE0, atI_nat (hcv one (by omega)), ?_⟩
      walk_at "st"
      refine ⟨_, _, _, _, rfl, rfl, SqL.of hLL.at_, atI_nat hw0, ?_⟩
      walk_at "st"
      refine ⟨_, _, _, _, rfl, rfl, SqL.of hE0, atI_nat (hcv other (by omega)), ?_⟩
      walk_at "st"
      refine ⟨_, _, _, _, rfl, rfl, SqL.of hLL.at_, atI_nat hw0, ?_⟩
      refine ⟨E0, _, rfl, SqL.of hE0, fun G hG => ?_⟩
      have nDG : D' ≠ G := ne_of_none hLL.at_ hG
      have hGH := sameFree sm hG
      have hGp := pne sm hG
      have nwG : ∀ (i : Nat) b, ws[i]? = some (V.ref b) → b ≠ G := fun i b e => by
        obtain ⟨b', e1, e2, _⟩ := hLL.row i (fl[i]'(by rw [← hLL.len]; exact (List.getElem?_eq_some_iff.mp e).1)) (List.getElem?_eq_getElem _)
        rw [e] at e1
        cases e1
        exact ne_of_none e2 hG
      have nEG : E0 ≠ G := nwG _ _ hw0
      refine lI walk_enum (fun j H3 => Same H H3 ∧ Same H2 H3 ∧ H3 G = some (.lst ((keepN c one other j).map V.int)))
        ⟨sm.trans (same_new hG), same_new hG, upd_same⟩ (fun j H3 _ ⟨_, e, _⟩ => SqL.of (e _ _ hE0)) ?_ ?_
      · rintro j v H3 _ hj ⟨s1, s2, h3⟩ ⟨t, x, y, rfl, ht, rfl, hxj, hyj⟩
        rw [List.length_map] at hj
        dsimp only at hxj hyj
        cases hxj
        rw [hcv j hj] at hyj
        cases hyj
        have nGt : G ≠ t := ne_of_none h3 ht
        walk_at "op"
        refine ⟨t, _, rfl, SqT.of upd_same, rfl, _, _, rfl, _, _, rfl, rfl, ?_⟩
        refine ⟨rfl, ?_⟩
        walk_at "st"
        refine ⟨by show 2 ≤ sizeLine; decide, fun r hr => ?_⟩
        have nGr : G ≠ r := ne_of_none (by rw [upd_ne nGt]; exact h3) hr
        have s3 : Same H3 (upd (upd H3 t (.tup [.int j, .int (c.getD j 0)])) r (.tup [.int one, .int other])) := (same_new ht).trans (same_new hr)
        refine ⟨r, _, rfl, .inr (SqT.of upd_same), rfl, rfl, ?_⟩
        rw [if_pos rfl, inV_two]
        refine ⟨_, rfl, ?_⟩
        cases hb : (j == one || j == other) with
        | true =>
          refine iteF ⟨s1.trans s3, s2.trans s3, ?_⟩
          rw [s3 _ _ h3, keepN_succ, if_pos hb, List.append_nil]
        | false =>
          refine iteT ?_
          walk_at "st"
          have kl : (keepN c one other j).length ≤ 100 := by
            have := keepN_len c ho1 j
            omega
          refine ⟨_, s3 _ _ h3, by rw [List.length_map]; exact small1000 (by omega), sameOff (s1.trans s3) hGH, sameOff (s2.trans s3) hG, ?_⟩
          rw [upd_same, keepN_succ, if_neg (by rw [hb]; exact Bool.false_ne_true), List.map_append]
          rfl
      · rintro H3 ⟨s1, s2, h3⟩
        rw [List.length_map] at h3
        have hLL3 := hLL.same s2
        have hLL4 := hLL3.set (f := fn) h3 nDG.symm hGp
        walk_at "op"
        walk_at "st"
        refine ⟨_, _, _, _, rfl, rfl, hLL3.at_, ixN_of (by rw [hLL.len]; omega), ?_⟩
        have hwl : fn < ws.length := by rw [hLL.len]; omega
        have w4 : (ws.set fn (V.ref G))[fn]? = some (V.ref G) := by rw [List.getElem?_set_self hwl]
        walk_at "st"
        refine ⟨D', _, _, _, rfl, rfl, SqL.of hLL4.at_, atI_nat w4, ?_⟩
        have hG4 : upd H3 D' (.lst (ws.set fn (V.ref G))) G = some (.lst ((keepN c one other c.length).map V.int)) := by rw [upd_ne nDG.symm]; exact h3
        have s4 : Same H (upd H3 D' (.lst (ws.set fn (V.ref G)))) := sameOff s1 hD'
        have hg : ∀ j, j < c.length → 0 ≤ c.getD j 0 ∧ c.getD j 0 < (m : Int) := fun j hj => hin c hcm _ (List.mem_of_getElem? (hgd j hj))
        obtain ⟨ah, af, t0, u0, ra, rb, hs, ss, us, ya, yb, st, up, rfl, g1, g3, g3', g4, g5, g6, g7, g8, st0, st1, g9, g10, g11, g12, up0, up1⟩ := house_cells hD hN hf (hg one (by omega)).1 (hg one (by omega)).2 (hg other (by omega)).1 (hg other (by omega)).2
        refine ⟨.inl ⟨rfl, _, SqL.of hG4⟩, ?_⟩
        walk_at "st"
        refine ⟨_, _, _, _, rfl, rfl, SqT.of (s4 _ _ g1), atI_nat g3', ?_⟩
        walk_at "st"
        refine ⟨_, _, _, _, rfl, rfl, SqT.of (s4 _ _ g4), atI_nat (j := 0) rfl, ?_⟩
        walk_at "st"
        refine ⟨_, _, _, _, rfl, rfl, SqT.of (s4 _ _ g5), atI_of (hg one (by omega)).1 g6, ?_⟩
        walk_at "st"
        refine ⟨_, _, _, _, rfl, rfl, SqT.of (s4 _ _ g7), atI_of (hg other (by omega)).1 g8, ?_⟩
        walk_at "st"
        have kl : (keepN c one other c.length).length + 2 = c.length := by
          have := keepN_len c ho1 c.length
          rw [if_pos (by omega), if_pos (by omega)] at this
          exact this
        refine ⟨G, _, _, rfl, rfl, hG4, by rw [List.length_map]; exact small1000 (by omega), ?_⟩
        have inj4 : ∀ j, (ws.set fn (V.ref G))[j]? = some (V.ref G) → j = fn := fun j e => by
          by_cases hj : fn = j
          · exact hj.symm
          · rw [List.getElem?_set_ne hj] at e
            exact absurd rfl (nwG j G e)
        have hLL5 := hLL4.updRow (c := keepN c one other c.length ++ [st]) w4 inj4
        rw [show (keepN c one other c.length).map V.int ++ [V.int st] = (keepN c one other c.length ++ [st]).map V.int from (by rw [List.map_append]; rfl)]
        have s5 : Same H (upd (upd H3 D' (.lst (ws.set fn (V.ref G)))) G (.lst ((keepN c one other c.length ++ [st]).map V.int))) := sameOff s4 hGH
        walk_at "op"
        walk_at "st"
        refine ⟨ah, hs, rfl, .inr (SqT.of (s5 _ _ g1)), ?_⟩
        walk_at "st"
        have hk1 : ∀ e ∈ keepN c one other c.length ++ [st], 0 ≤ e ∧ e < (m : Int) := fun e he => by
          rcases List.mem_append.mp he with he | he
          · exact hin c hcm e (keepN_in (Nat.le_refl _) he)
          · simp only [List.mem_cons, List.not_mem_nil, or_false] at he
            subst he
            exact ⟨st0, st1⟩
        have hk0 : ∀ e ∈ keepN c one other c.length, 0 ≤ e ∧ e < (m : Int) := fun e he => hk1 e (List.mem_append_left _ he)
        have hk1l : (keepN c one other c.length ++ [st]).length = c.length - 1 := by
          rw [List.length_append]
          show _ + 1 = _
          omega
        have hin5 := (RowsIn.set (i := fn) hin hk0).set (i := fn) hk1
        have hl5 : lensOf ((fl.set fn (keepN c one other c.length)).set fn (keepN c one other c.length ++ [st])) = (lensOf fl).set fn (c.length - 1) := by
          rw [lens_set, lens_set, List.set_set, hk1l]
        by_cases hlast : fn + 1 < n
        · rw [g3, decide_eq_true (show (fn : Int) + 1 < (n : Int) by omega)]
          refine iteT ?_
          walk_at "st"
          have hf1 : fn + 1 < fl.length := by omega
          have hw1 : fn + 1 < ws.length := by rw [hLL.len]; omega
          obtain ⟨E1, hwE, hE1, nE1D, nE1p⟩ := hLL5.row (fn + 1) fl[fn + 1] (by rw [List.getElem?_set_ne (by omega), List.getElem?_set_ne (by omega), List.getElem?_eq_getElem hf1])
          have hwE0 : ws[fn + 1]? = some (V.ref E1) := by rw [List.getElem?_set_ne (by omega)] at hwE; exact hwE
          generalize hc2 : fl[fn + 1] = c2 at hE1
          have hc2m : c2 ∈ fl := by rw [← hc2]; exact List.getElem_mem _
          have hc2l : (lensOf fl).getD (fn + 1) 0 = c2.length := by
            unfold lensOf
            rw [List.getD_eq_getElem?_getD, List.getElem?_map, List.getElem?_eq_getElem hf1, hc2]
            rfl
          have hc2100 : c2.length ≤ 100 := h100 _ (List.mem_map_of_mem hc2m)
          refine ⟨_, _, _, _, rfl, rfl, SqL.of hLL5.at_, atI_of (by omega) (by rw [show ((fn : Int) + 1).toNat = fn + 1 from by omega]; exact hwE), ?_⟩
          refine ⟨.inl ⟨rfl, _, SqL.of hE1⟩, ?_⟩
          walk_at "st"
          refine ⟨_, _, _, _, rfl, rfl, SqT.of (s5 _ _ g1), atI_nat g3', ?_⟩
          walk_at "st"
          refine ⟨_, _, _, _, rfl, rfl, SqT.of (s5 _ _ g4), atI_nat (j := 1) rfl, ?_⟩
          walk_at "st"
          refine ⟨_, _, _, _, rfl, rfl, SqT.of (s5 _ _ g9), atI_of (hg one (by omega)).1 g10, ?_⟩
          walk_at "st"
          refine ⟨_, _, _, _, rfl, rfl, SqT.of (s5 _ _ g11), atI_of (hg other (by omega)).1 g12, ?_⟩
          walk_at "st"
          refine ⟨E1, _, _, rfl, rfl, hE1, by rw [List.length_map]; exact small1000 (by omega), ?_⟩
          have inj5 : ∀ j, (ws.set fn (V.ref G))[j]? = some (V.ref E1) → j = fn + 1 := fun j e => by
            by_cases hj : fn = j
            · subst hj
              rw [w4] at e
              cases e
              exact absurd rfl (nwG _ _ hwE0)
            · rw [List.getElem?_set_ne hj] at e
              exact inj j (fn + 1) E1 e hwE0
          have hLL6 := hLL5.updRow (c := c2 ++ [up]) hwE inj5
          rw [show c2.map V.int ++ [V.int up] = (c2 ++ [up]).map V.int from (by rw [List.map_append]; rfl)]
          have s6 := sameOff (o := .lst ((c2 ++ [up]).map V.int)) s5 (fresh _ _ hwE0)
          have hk2 : ∀ e ∈ c2 ++ [up], 0 ≤ e ∧ e < (m : Int) := fun e he => by
            rcases List.mem_append.mp he with he | he
            · exact hin c2 hc2m e he
            · simp only [List.mem_cons, List.not_mem_nil, or_false] at he
              subst he
              exact ⟨up0, up1⟩
          walk_at "op"
          walk_at "st"
          refine ⟨by show 2 ≤ sizeLine; decide, fun t ht => ?_⟩
          refine k _ _ _ _ (Dat.new ht (pne s6 ht) (Dats.cons (hLL6.dat hDp) (Dats.cons (.int _) Dats.nil))) (s6.trans (same_new ht)) ?_ (hin5.set hk2) (by rw [List.length_set, List.length_set, List.length_set]; exact hln)
          rw [lens_set, hl5]
          unfold stepL
          rw [hcl, hc2l, List.length_append]
          rfl
        · rw [g3, decide_eq_false (show ¬ (fn : Int) + 1 < (n : Int) by omega)]
          refine iteF ?_
          walk_at "st"
          refine ⟨by show 2 ≤ sizeLine; decide, fun t ht => ?_⟩
          refine k _ _ _ _ (Dat.new ht (pne s5 ht) (Dats.cons (hLL5.dat hDp) (Dats.cons (.int _) Dats.nil))) (s5.trans (same_new ht)) ?_ hin5 (by rw [List.length_set, List.length_set]; exact hln)
          rw [hl5]
          unfold stepL
          rw [hcl]
          exact (List.set_eq_of_length_le (by rw [List.length_set]; unfold lensOf; rw [List.length_map]; omega)).symm
end
end Fm
end FME
section FSE
set_option Elab.async false
set_option linter.all false
set_option maxRecDepth 100000
set_option maxHeartbeats 4000000
local macro_rules | `(tactic| walk_at "ne") => `(tactic| first | assumption | (apply Ne.symm; assumption) | exact L2.ne_of_none (by assumption) (by assumption) | exact Ne.symm (L2.ne_of_none (by assumption) (by assumption)))
local macro_rules | `(tactic| walk_at "hl") => `(tactic| first | assumption | exact L2.upd_same | (refine Eq.trans (L2.upd_ne (by walk_at "ne")) ?_; walk_at "hl"))
local macro_rules | `(tactic| walk_at "sd") => `(tactic| first | (with_reducible show (_ : Int) < _; omega) | (with_reducible show (_ : Int) ≤ _; omega) | assumption | decide | exact ⟨by assumption, by assumption⟩ | exact ⟨by decide, by decide⟩ | exact Or.inr ⟨by decide, by decide⟩ | exact Or.inl ⟨by omega, by omega⟩ | rfl)
local macro_rules | `(tactic| walk_at "st1") => `(tactic| first
  | refine ⟨_, rfl, ?_⟩
  | refine ⟨_, _, rfl, rfl, ?_⟩
  | refine ⟨_, _, rfl, ?_⟩
  | (refine ⟨_, _, _, _, rfl, rfl, L2.SqL.of (by walk_at "hl"), rfl, ?_⟩)
  | (refine ⟨_, _, _, _, rfl, rfl, L2.SqT.of (by walk_at "hl"), rfl, ?_⟩)
  | (refine ⟨_, _, _, _, rfl, rfl, (by walk_at "hl"), rfl, ?_⟩)
  | (refine And.intro (by walk_at "sd") ?_)
  )
local macro_rules | `(tactic| walk_at "st") => `(tactic| repeat walk_at "st1")
local macro_rules | `(tactic| walk_at "op") => `(tactic| try dsimp only [L2.tSeq, L2.tAsg, L2.tOp, L2.tVar, L2.tC, L2.gSub, L2.rI, L2.rI0, L2.rIxL, L2.rIxT, L2.rSetL, L2.tIfS, L2.tTest, L2.tRet, L2.gName, L2.tNext, L2.tAnd, L2.tOr, L2.tNot, L2.tAndV, L2.tOrV, L2.tNotV, L2.tB, L2.tCB, L2.tCons, L2.tNil, L2.tCall, L2.tTup, L2.tLst, L2.tChain, L2.tUn, L2.tPar, L2.tDrop, L2.tIf, L2.tBM, L2.tBM0, L2.rAppend, L2.rCat, L2.rIsi, L2.rIsiT, L2.gTup, L2.gCons, L2.gNil, Fm.tFor_eq, Fm.tLc_eq, L2.iTup, L2.iList, L2.iRng1, L2.iRng2, L2.tSl, L2.tPart, L2.tNoPart, L2.rSlL, L2.rEq, L2.rNe, L2.rU, L2.rEqD, L2.rNeD, Fm.tRevT, Fm.rLenS, Fm.rTupOf, Fm.rLstOf, L2.tDNewK, L2.tCallS, L2.WE, Fm.wKeep, Fm.rIsK, Fm.rIsKT, List.cons_append, List.nil_append, L2.tYes])
namespace Fm
open PySem PySem.Spec PyProof.Rows L2
abbrev s_law_settled : Stmt := top 38
abbrev N_law_settled : List Str := ["bag", "house", "crowd", "many", "some", "floor", "one", "other"]
theorem sc_law_settled : FnScope N_law_settled ["bag", "house", "crowd"] (defScope s_law_settled) := ⟨rfl, rfl, rfl, by decide +kernel, rfl, by decide +kernel, by decide +kernel⟩
section
variable {P : Program} {w : World} {K : PySem.W.Frag} {mg : Str → Option Value} {base : Heap}
theorem dpAll_of {K : PySem.W.Frag} {H : Hp} : ∀ {xs : List V} {ds : List PyData}, xs.length = ds.length → (∀ (i : Nat) (x : V) (d : PyData), xs[i]? = some x → ds[i]? = some d → Dp K H x d) → DpAll K H xs ds
  | [], [], _, _ => .nil
  | [], _ :: _, h, _ => by simp at h
  | _ :: _, [], h, _ => by simp at h
  | x :: xs, d :: ds, h, k => .cons (k 0 x d rfl rfl) (dpAll_of (by simpa using h) fun i y e a b => k (i + 1) y e (by simpa using a) (by simpa using b))
theorem hasDict_parts : ∀ {ds : List PyData}, PyData.hasDictAll ds = false → ∀ e ∈ ds, e.hasDict = false
  | [], _, e, he => by simp at he
  | d :: r, h, e, he => by
    simp only [PyData.hasDictAll, Bool.or_eq_false_iff] at h
    rcases List.mem_cons.mp he with rfl | he
    · exact h.1
    · exact hasDict_parts h.2 e he
theorem Dat.dp {K : PySem.W.Frag} {H : Hp} {p : Addr} {d : PyData} {v : V} (h : Dat H p v d) : d.hasDict = false → Dp K H v d := by
  induction h with
  | non => exact fun _ => .non
  | bl b => exact fun _ => .bl b
  | int i => exact fun _ => .int i
  | str x => exact fun _ => .str x
  | tup h1 _ h3 h4 ih => exact fun z => .tup (SqT.of h1) (dpAll_of h3 fun i x d a b => ih i x d a b (hasDict_parts (by simpa only [PyData.hasDict] using z) d (List.mem_of_getElem? b)))
  | lst h1 _ h3 h4 ih => exact fun z => .lst (SqL.of h1) (dpAll_of h3 fun i x d a b => ih i x d a b (hasDict_parts (by simpa only [PyData.hasDict] using z) d (List.mem_of_getElem? b)))
  | dct h1 _ => exact fun z => by simp only [PyData.hasDict] at z; cases z
theorem shape_tups : ∀ {ds : List PyData}, (∀ d ∈ ds, ∃ f one other, d = tup3 f one other) → PyData.canLayAll0 ds = true ∧ PyData.depthAll ds ≤ 1 ∧ PyData.hasDictAll ds = false
  | [], _ => by simp [PyData.canLayAll0, PyData.depthAll, PyData.hasDictAll]
  | d :: r, h => by
    obtain ⟨h1, h2, h3⟩ := shape_tups fun e he => h e (List.mem_cons_of_mem _ he)
    obtain ⟨f, one, other, rfl⟩ := h d List.mem_cons_self
    have e1 : (tup3 f one other).canLay0 = true := by simp [tup3, PyData.canLay0, PyData.canLayAll0]
    have e2 : (tup3 f one other).depth ≤ 1 := by simp [tup3, PyData.depth, PyData.depthAll]
    have e3 : (tup3 f one other).hasDict = false := by simp [tup3, PyData.hasDict, PyData.hasDictAll]
    refine ⟨by simp only [PyData.canLayAll0, e1, h1, Bool.and_self], ?_, by simp only [PyData.hasDictAll, e3, h3, Bool.or_self]⟩
    simp only [PyData.depthAll]
    omega
theorem shaped_tups {ds : List PyData} (h : ∀ d ∈ ds, ∃ f one other, d = tup3 f one other) : SeqAt.shaped (.list ds) = true ∧ (PyData.list ds).hasDict = false := by
  obtain ⟨h1, h2, h3⟩ := shape_tups h
  refine ⟨?_, by simpa only [PyData.hasDict] using h3⟩
  unfold SeqAt.shaped
  rw [Bool.and_eq_true]
  refine ⟨by simpa only [PyData.canLay0] using h1, decide_eq_true ?_⟩
  simp only [PyData.depth]
  omega
theorem eqv_nil (ds : List PyData) : PyData.eqv (.list ds) (.list []) = ds.isEmpty := by
  cases ds with
  | nil => simp [PyData.eqv, PyData.eqvAll]
  | cons n r => simp [PyData.eqv, PyData.eqvAll]
/-! ### how many meetings -/
def comeN : Nat → List Nat → List Nat
  | _, [] => []
  | r, l :: ls => (l + r) :: comeN (l + r - 1) ls
def left_ (l : List Nat) : Nat := (l.map fun s => s - 1).sum
def posB (l : List Nat) : List Bool := l.map fun s => decide (0 < s)
theorem stepL_succ (f l : Nat) (ls : List Nat) : stepL (f + 1) (l :: ls) = l :: stepL f ls := rfl
theorem stepL_len (f : Nat) (ls : List Nat) : (stepL f ls).length = ls.length := by
  unfold stepL
  rw [List.length_set, List.length_set]
theorem step_come : ∀ (f r : Nat) (ls : List Nat), 2 ≤ ls.getD f 0 → left_ (comeN r (stepL f ls)) + 1 = left_ (comeN r ls) ∧ posB (comeN r (stepL f ls)) = posB (comeN r ls)
  | f, r, [], h => by simp at h
  | 0, r, [l], h => by
    have h' : 2 ≤ l := h
    have e : stepL 0 [l] = [l - 1] := rfl
    rw [e]
    simp only [comeN, left_, posB, List.map_cons, List.map_nil, List.sum_cons, List.sum_nil]
    refine ⟨by omega, ?_⟩
    rw [decide_eq_true (show 0 < l - 1 + r by omega), decide_eq_true (show 0 < l + r by omega)]
  | 0, r, l :: l2 :: t, h => by
    have h' : 2 ≤ l := h
    have e : stepL 0 (l :: l2 :: t) = (l - 1) :: (l2 + 1) :: t := rfl
    have e2 : l2 + 1 + (l - 1 + r - 1) = l2 + (l + r - 1) := by omega
    rw [e]
    simp only [comeN, left_, posB, List.map_cons, List.sum_cons]
    rw [e2, decide_eq_true (show 0 < l - 1 + r by omega), decide_eq_true (show 0 < l + r by omega)]
    exact ⟨by omega, rfl⟩
  | f + 1, r, l :: ls, h => by
    have h' : 2 ≤ ls.getD f 0 := h
    obtain ⟨i1, i2⟩ := step_come f (l + r - 1) ls h'
    rw [stepL_succ]
    simp only [comeN, left_, posB, List.map_cons, List.sum_cons] at i1 i2 ⊢
    exact ⟨by omega, by rw [i2]⟩
theorem rest_come : ∀ ls : List Nat, (∀ l ∈ ls, l ≤ 1) → comeN 0 ls = ls
  | [], _ => rfl
  | l :: ls, h => by
    have h1 := h l List.mem_cons_self
    unfold comeN
    rw [show l + 0 - 1 = 0 by omega, rest_come ls fun x hx => h x (List.mem_cons_of_mem _ hx)]
    rfl
theorem rest_left : ∀ ls : List Nat, (∀ l ∈ ls, l ≤ 1) → left_ ls = 0
  | [], _ => rfl
  | l :: ls, h => by
    have h1 := h l List.mem_cons_self
    have := rest_left ls fun x hx => h x (List.mem_cons_of_mem _ hx)
    unfold left_ at this ⊢
    rw [List.map_cons, List.sum_cons, this]
    omega
theorem step_sum : ∀ (f : Nat) (ls : List Nat), 1 ≤ ls.getD f 0 → (stepL f ls).sum ≤ ls.sum
  | f, [], h => by simp at h
  | 0, [l], h => by
    show (l - 1 + 0) ≤ l + 0
    omega
  | 0, l :: l2 :: t, h => by
    have h' : 1 ≤ l := h
    show ((l - 1) :: (l2 + 1) :: t).sum ≤ _
    simp only [List.sum_cons]
    omega
  | f + 1, l :: ls, h => by
    have := step_sum f ls h
    rw [stepL_succ]
    simp only [List.sum_cons]
    omega
theorem le_sumN : ∀ {ls : List Nat} {l : Nat}, l ∈ ls → l ≤ ls.sum
  | x :: r, l, h => by
    rw [List.sum_cons]
    rcases List.mem_cons.mp h with rfl | h
    · omega
    · have := le_sumN h
      omega
def spSettled : Sp := fun vs H Q _ => ∃ (p : Addr) (hv cv : V) (hd : PyData) (m n : Nat) (fl : List (List Int)) (out : Int), vs = [.ref p, hv, cv] ∧ Bag H p ∧ Dat H p hv hd ∧ HouseN m n hd ∧ Dat H p cv (crowdD fl out) ∧ fl.length = n ∧ RowsIn m fl ∧ (lensOf fl).sum ≤ 100 ∧
  ∀ q H' x fl' out', Bag H' p → Ext p H H' → q ≠ p → H' q = some (.tup [x, .int (left_ (comeN 0 (lensOf fl)))]) → Dat H' p x (crowdD fl' out') → fl'.length = n → posB (lensOf fl') = posB (comeN 0 (lensOf fl)) → Q (.ref q) H'
theorem ok_law_settled (D : Df K mg "_law_settled" s_law_settled ["bag", "house", "crowd"]) (T : Nms mg) (c_law_pick : CallOk P w K mg base CX0 1 "_law_pick" ["bag", "many"] spPick) (c_law_pairs : CallOk P w K mg base CX0 1 "_law_pairs" ["crowd"] spPairs)
    (c_law_meet : CallOk P w K mg base CX0 1 "_law_meet" ["house", "crowd", "floor", "one", "other"] spMeet) : CallOk P w K mg base CX0 2 "_law_settled" ["bag", "house", "crowd"] spSettled := by
  refine df_ok D sc_law_settled (fun vs H Q E h => ?_) (fun f cdv A outer s H vs Q E hr h => ?_)
  · obtain ⟨p, hv, cv, hd, m, n, fl, out, rfl, _⟩ := h
    rfl
  · obtain ⟨p, hv, cv, hd, m, n, fl, out, rfl, hB, hD, hN, hC, hln, hin, hsum, k⟩ := h
    have nd := sc_law_settled.nd
    refine ⟨_, (pss_cons (ps_set (i := 3) nd rfl (Or.inl rfl) pe_int)
      (pss_cons (ps_while PassesOwn.never (pt_cmpR (op_neD hr.units) (pe_cc c_law_pairs (hr.mono (by omega)) (pa_cons (pv 2) pa_nil)) (pe_lst pa_nil) (nomark _)) (pss_cons (ps_set (i := 4) nd rfl (Or.inl rfl) (pe_cc c_law_pairs (hr.mono (by omega)) (pa_cons (pv 2) pa_nil)))
      (pss_cons (ps_asg (pe_ix (r := rIxL K) ix_list (pv 4) (pe_cc c_law_pick (hr.mono (by omega)) (pa_cons (pv 0) (pa_cons (pe_callB (r := rLenS K) call_lenS (by rfl) T.n_len (by decide +kernel) (pa_cons (pv 4) pa_nil)) pa_nil))) (fun _ _ => rfl)) (pg_tup rfl (pgs_cons (pg_name (i := 5) nd rfl (Or.inl rfl)) (pgs_cons (pg_name (i := 6) nd rfl (Or.inl rfl)) (pgs_cons (pg_name (i := 7) nd rfl (Or.inl rfl)) pgs_nil)))))
      (pss_cons (ps_set (i := 2) nd rfl (Or.inl rfl) (pe_cc c_law_meet (hr.mono (by omega)) (pa_cons (pv 1) (pa_cons (pv 2) (pa_cons (pv 5) (pa_cons (pv 6) (pa_cons (pv 7) pa_nil)))))))
      (pss_one (ps_set (i := 3) nd rfl (Or.inl rfl) (pe_op op_add (pv 3) pe_int)))))))
      (pss_one (ps_ret (pe_tup (pa_cons (pv 2) (pa_cons (pv 3) pa_nil))))))), ?_⟩
    walk_at "op"
    walk_at "st"
    refine ⟨fun μ σ H1 => ∃ (fl1 : List (List Int)) (out1 : Int) (cv1 : V) (many : Nat) (u4 u5 u6 u7 : Option V), σ = [some (.ref p), some hv, some cv1, some (.int many), u4, u5, u6, u7] ∧ Bag H1 p ∧ Ext p H H1 ∧ Dat H1 p cv1 (crowdD fl1 out1) ∧ fl1.length = n ∧ RowsIn m fl1 ∧ (lensOf fl1).sum ≤ 100 ∧
        left_ (comeN 0 (lensOf fl1)) = μ ∧ many + μ = left_ (comeN 0 (lensOf fl)) ∧ posB (comeN 0 (lensOf fl1)) = posB (comeN 0 (lensOf fl)),
      ⟨_, fl, out, cv, 0, _, _, _, _, rfl, hB, Ext.refl p H, hC, hln, hin, hsum, rfl, by omega, rfl⟩, ?_⟩
    rintro μ σ H1 ⟨fl1, out1, cv1, many, u4, u5, u6, u7, rfl, hB1, x1, hC1, hl1, hin1, hs1, hμ, hmany, hpos⟩
    obtain ⟨u, hu⟩ := hB1.here
    have hl100 : ∀ l ∈ lensOf fl1, l ≤ 100 := fun l hl => Nat.le_trans (le_sumN hl) hs1
    obtain ⟨fs, rfl, _, _, hn4, _⟩ := id hN
    walk_at "op"
    walk_at "st"
    refine ⟨cv1, p, u, fl1, out1, rfl, hu, hC1, by omega, hl100, fun q ws H2 hq hq2 hWs sm2 => ?_⟩
    have htups : ∀ d ∈ allP (lensOf fl1) fl1.length, ∃ f one other, d = tup3 f one other := fun d hd => by
      obtain ⟨f, one, other, e, _⟩ := allP_mem hd
      exact ⟨f, one, other, e⟩
    obtain ⟨hsh, hdi⟩ := shaped_tups htups
    have hqp : q ≠ p := fun z => by rw [z, hu] at hq; cases hq
    have dq : Dat H2 p (.ref q) (.list (allP (lensOf fl1) fl1.length)) := .lst hq2 hqp hWs.1 hWs.2
    refine ⟨by show 0 ≤ sizeLine; omega, fun t ht => ?_⟩
    have htp : t ≠ p := fun z => by rw [z, sm2 _ _ hu] at ht; cases ht
    refine ⟨_, .list [], (dq.off ht).dp hdi, .lst (SqL.of upd_same) .nil, hsh, (by decide), ?_⟩
    rw [eqv_nil]
    refine ⟨_, rfl, ?_⟩
    have sm3 : Same H1 (upd H2 t (.lst [])) := sm2.trans (same_new ht)
    have x3 : Ext p H (upd H2 t (.lst [])) := x1.trans (Same.ext sm3 p)
    have hB3 : Bag (upd H2 t (.lst [])) p := by
      obtain ⟨b1, b2, b3, e⟩ := hB1
      exact ⟨b1, b2, b3, sm3 _ _ e⟩
    have hC3 := hC1.same sm3
    by_cases hrest : ∀ l ∈ lensOf fl1, l ≤ 1
    · have e0 : allP (lensOf fl1) fl1.length = [] := allP_none fun f hf => by
        rw [List.getD_eq_getElem?_getD]
        cases e : (lensOf fl1)[f]? with
        | none => exact Nat.zero_le _
        | some l => exact hrest l (List.mem_of_getElem? e)
      rw [e0]
      refine iteF ?_
      have e1 := rest_come _ hrest
      have e2 := rest_left _ hrest
      walk_at "op"
      walk_at "st"
      refine ⟨by show 2 ≤ sizeLine; decide, fun r hr => ?_⟩
      obtain ⟨u3, hu3⟩ := hB3.here
      have hrp : r ≠ p := fun z => by rw [z, hu3] at hr; cases hr
      have em : many = left_ (comeN 0 (lensOf fl)) := by
        rw [e1, e2] at hμ
        omega
      refine k r _ cv1 fl1 out1 (hB3.up hrp.symm) (x3.trans (Same.ext (same_new hr) p)) hrp (by rw [upd_same, em]) (hC3.off hr) hl1 ?_
      rw [e1] at hpos
      exact hpos
    · have e0 : allP (lensOf fl1) fl1.length ≠ [] := by
        intro e
        refine hrest fun l hl => ?_
        obtain ⟨f, hf⟩ := List.getElem?_of_mem hl
        have hf' : f < fl1.length := by
          have := (List.getElem?_eq_some_iff.mp hf).1
          unfold lensOf at this
          rw [List.length_map] at this
          exact this
        have hgd : (lensOf fl1).getD f 0 = l := by rw [List.getD_eq_getElem?_getD, hf]; rfl
        by_cases h2 : 2 ≤ l
        · exact absurd e (allP_some hf' (by rw [hgd]; exact h2))
        · omega
      have e1 : (allP (lensOf fl1) fl1.length).isEmpty = false := by
        cases e : allP (lensOf fl1) fl1.length with
        | nil => exact absurd e e0
        | cons x r => rfl
      rw [e1]
      refine iteT ?_
      refine ⟨fun σ' H' => ∃ μ', μ' < μ ∧ ∃ (fl1 : List (List Int)) (out1 : Int) (cv1 : V) (many : Nat) (u4 u5 u6 u7 : Option V), σ' = [some (.ref p), some hv, some cv1, some (.int many), u4, u5, u6, u7] ∧ Bag H' p ∧ Ext p H H' ∧ Dat H' p cv1 (crowdD fl1 out1) ∧ fl1.length = n ∧ RowsIn m fl1 ∧ (lensOf fl1).sum ≤ 100 ∧
        left_ (comeN 0 (lensOf fl1)) = μ' ∧ many + μ' = left_ (comeN 0 (lensOf fl)) ∧ posB (comeN 0 (lensOf fl1)) = posB (comeN 0 (lensOf fl)), fun σ' H' h => h, ?_⟩
      obtain ⟨u3, hu3⟩ := hB3.here
      walk_at "op"
      walk_at "st"
      refine ⟨cv1, p, u3, fl1, out1, rfl, hu3, hC3, by omega, hl100, fun q' ws' H4 hq' hq2' hWs' sm4 => ?_⟩
      have hq'p : q' ≠ p := fun z => by rw [z, hu3] at hq'; cases hq'
      have hB4 : Bag H4 p := by
        obtain ⟨b1, b2, b3, e⟩ := hB3
        exact ⟨b1, b2, b3, sm4 _ _ e⟩
      have x4 := x3.trans (Same.ext sm4 p)
      walk_at "st"
      refine ⟨q', ws', rfl, .inl (SqL.of hq2'), ?_⟩
      have wl : ws'.length ≤ 40000 := by
        have := allP_len hl100 fl1.length
        rw [hWs'.1]
        omega
      have wl0 : 0 < ws'.length := by
        rw [hWs'.1]
        exact List.length_pos_iff.mpr e0
      refine ⟨p, ws'.length, rfl, by omega, (by have q := PySem.Flt.log2_lt_of (by decide : 0 < 17) (show ws'.length < 2 ^ 17 from Nat.lt_of_le_of_lt wl (by decide)); rw [Int.natAbs_natCast]; omega), hB4, fun i H5 i0 i1 hB5 x5 => ?_⟩
      have hq5 := x5 _ _ hq2' hq'p
      have hi : i.toNat < ws'.length := by omega
      have hi2 : i.toNat < (allP (lensOf fl1) fl1.length).length := by rw [← hWs'.1]; exact hi
      obtain ⟨f, one, other, ed, ef, eo, e1'⟩ := allP_mem (List.getElem_mem hi2)
      have hWi := hWs'.2 i.toNat _ _ (List.getElem?_eq_getElem hi) (List.getElem?_eq_getElem hi2)
      rw [ed] at hWi
      obtain ⟨r, ys, er, hr5, hrp, hys⟩ := (hWi.ext x5).isTup
      have hyl : ys.length = 3 := hys.1
      match ys, hyl with
      | [y1, y2, y3], _ =>
      obtain rfl := (hys.2 0 y1 _ rfl rfl).isInt
      obtain rfl := (hys.2 1 y2 _ rfl rfl).isInt
      obtain rfl := (hys.2 2 y3 _ rfl rfl).isInt
      have x05 := x4.trans x5
      refine ⟨q', ws', i, .ref r, rfl, rfl, SqL.of hq5, atI_of i0 (by rw [List.getElem?_eq_getElem hi, er]), ?_⟩
      refine ⟨r, _, rfl, SqT.of hr5, rfl, _, _, rfl, _, _, rfl, _, _, rfl, rfl, ?_⟩
      walk_at "op"
      walk_at "st"
      obtain ⟨u5', hu5⟩ := hB5.here
      have hC5 := (hC3.same sm4).ext x5
      have h2 : 2 ≤ (lensOf fl1).getD f 0 := by omega
      refine ⟨hv, cv1, p, p, u5', _, m, n, f, one, other, fl1, out1, rfl, hu5, hD.ext x05, hN, hC5, hl1, hin1, hl100, by omega, eo, e1', fun v' H6 fl' out' hC6 sm6 hls hin6 hl6 => ?_⟩
      walk_at "op"
      walk_at "st"
      obtain ⟨st1, st2⟩ := step_come f 0 (lensOf fl1) h2
      have hB6 : Bag H6 p := by
        obtain ⟨b1, b2, b3, e⟩ := hB5
        exact ⟨b1, b2, b3, sm6 _ _ e⟩
      refine ⟨left_ (comeN 0 (lensOf fl')), ?_, fl', out', v', many + 1, _, _, _, _, rfl, hB6, x05.trans (Same.ext sm6 p), hC6, hl6, hin6, ?_, rfl, ?_, ?_⟩
      · rw [hls, ← hμ]
        omega
      · rw [hls]
        exact Nat.le_trans (step_sum f _ (by omega)) hs1
      · rw [hls]
        omega
      · rw [hls, st2, hpos]
end
end Fm
end FSE
section FFH
set_option Elab.async false
set_option linter.all false
set_option maxRecDepth 100000
set_option maxHeartbeats 4000000
local macro_rules | `(tactic| walk_at "ne") => `(tactic| first | assumption | (apply Ne.symm; assumption) | exact L2.ne_of_none (by assumption) (by assumption) | exact Ne.symm (L2.ne_of_none (by assumption) (by assumption)))
local macro_rules | `(tactic| walk_at "hl") => `(tactic| first | assumption | exact L2.upd_same | (refine Eq.trans (L2.upd_ne (by walk_at "ne")) ?_; walk_at "hl"))
local macro_rules | `(tactic| walk_at "sd") => `(tactic| first | (with_reducible show (_ : Int) < _; omega) | (with_reducible show (_ : Int) ≤ _; omega) | assumption | decide | exact ⟨by assumption, by assumption⟩ | exact ⟨by decide, by decide⟩ | exact Or.inr ⟨by decide, by decide⟩ | exact Or.inl ⟨by omega, by omega⟩ | rfl)
local macro_rules | `(tactic| walk_at "st1") => `(tactic| first
  | refine ⟨_, rfl, ?_⟩
  | refine ⟨_, _, rfl, rfl, ?_⟩
  | refine ⟨_, _, rfl, ?_⟩
  | (refine ⟨_, _, _, _, rfl, rfl, L2.SqL.of (by walk_at "hl"), rfl, ?_⟩)
  | (refine ⟨_, _, _, _, rfl, rfl, L2.SqT.of (by walk_at "hl"), rfl, ?_⟩)
  | (refine ⟨_, _, _, _, rfl, rfl, (by walk_at "hl"), rfl, ?_⟩)
  | (refine And.intro (by walk_at "sd") ?_)
  )
local macro_rules | `(tactic| walk_at "st") => `(tactic| repeat walk_at "st1")
local macro_rules | `(tactic| walk_at "op") => `(tactic| try dsimp only [L2.tSeq, L2.tAsg, L2.tOp, L2.tVar, L2.tC, L2.gSub, L2.rI, L2.rI0, L2.rIxL, L2.rIxT, L2.rSetL, L2.tIfS, L2.tTest, L2.tRet, L2.gName, L2.tNext, L2.tAnd, L2.tOr, L2.tNot, L2.tAndV, L2.tOrV, L2.tNotV, L2.tB, L2.tCB, L2.tCons, L2.tNil, L2.tCall, L2.tTup, L2.tLst, L2.tChain, L2.tUn, L2.tPar, L2.tDrop, L2.tIf, L2.tBM, L2.tBM0, L2.rAppend, L2.rCat, L2.rIsi, L2.rIsiT, L2.gTup, L2.gCons, L2.gNil, Fm.tFor_eq, Fm.tLc_eq, L2.iTup, L2.iList, L2.iRng1, L2.iRng2, L2.tSl, L2.tPart, L2.tNoPart, L2.rSlL, L2.rEq, L2.rNe, L2.rU, L2.rEqD, L2.rNeD, Fm.tRevT, Fm.rLenS, Fm.rTupOf, Fm.rLstOf, L2.tDNewK, L2.tCallS, L2.WE, Fm.wKeep, Fm.rIsK, Fm.rIsKT, List.cons_append, List.nil_append, L2.tYes])
namespace Fm
open PySem PySem.Spec PyProof.Rows L2
abbrev s_law_fair_house : Stmt := top 32
abbrev N_law_fair_house : List Str := ["bag", "m", "floors", "found", "way", "free", "k", "stay", "up", "a", "b"]
theorem sc_law_fair_house : FnScope N_law_fair_house ["bag"] (defScope s_law_fair_house) := ⟨rfl, rfl, rfl, by decide +kernel, rfl, by decide +kernel, by decide +kernel⟩
section
variable {P : Program} {w : World} {K : PySem.W.Frag} {mg : Str → Option Value} {base : Heap}
def gS (m : Nat) (free way : Int) (a b : Nat) : Int := [if (b : Int) > a then (b : Int) else a, ((a : Int) + b) % m, free, if (b : Int) < a then (b : Int) else a].getD way.toNat 0
def gU (m : Nat) (free way : Int) (a b : Nat) : Int := [if (b : Int) < a then (b : Int) else a, ((a : Int) + b) / m, free, if (b : Int) > a then (b : Int) else a].getD way.toNat 0
theorem gS_at {m : Nat} {free way : Int} {a b : Nat} (h : way.toNat < 4) : [if (b : Int) > a then (b : Int) else a, ((a : Int) + b) % m, free, if (b : Int) < a then (b : Int) else a][way.toNat]? = some (gS m free way a b) := by
  unfold gS
  rw [List.getD_eq_getElem?_getD, List.getElem?_eq_getElem (by exact h)]
  rfl
theorem gU_at {m : Nat} {free way : Int} {a b : Nat} (h : way.toNat < 4) : [if (b : Int) < a then (b : Int) else a, ((a : Int) + b) / m, free, if (b : Int) > a then (b : Int) else a][way.toNat]? = some (gU m free way a b) := by
  unfold gU
  rw [List.getD_eq_getElem?_getD, List.getElem?_eq_getElem (by exact h)]
  rfl
theorem pick_mem {l : List Int} {k : Nat} {x : Int} (h : l[k]? = some x) : x ∈ l := List.mem_of_getElem? h
theorem gS_ok {m : Nat} {free way : Int} (hw : way.toNat < 4) (f0 : 0 ≤ free) (f1 : free < m) : (∀ a b, gS m free way a b = gS m free way b a) ∧ ∀ a b, a < m → b < m → 0 ≤ gS m free way a b ∧ gS m free way a b < (m : Int) := by
  refine ⟨fun a b => ?_, fun a b ha hb => ?_⟩
  · unfold gS
    rw [Int.add_comm (a : Int) b, show (if (b : Int) > a then (b : Int) else a) = if (a : Int) > b then (a : Int) else b from by split <;> split <;> omega, show (if (b : Int) < a then (b : Int) else a) = if (a : Int) < b then (a : Int) else b from by split <;> split <;> omega]
  · have h := pick_mem (gS_at (m := m) (free := free) (a := a) (b := b) hw)
    simp only [List.mem_cons, List.not_mem_nil, or_false] at h
    rcases h with h | h | h | h
    · rw [h]; split <;> omega
    · rw [h]; exact ⟨Int.emod_nonneg _ (by omega), Int.emod_lt_of_pos _ (by omega)⟩
    · rw [h]; exact ⟨f0, f1⟩
    · rw [h]; split <;> omega
theorem gU_ok {m : Nat} {free way : Int} (hw : way.toNat < 4) (f0 : 0 ≤ free) (f1 : free < m) : (∀ a b, gU m free way a b = gU m free way b a) ∧ ∀ a b, a < m → b < m → 0 ≤ gU m free way a b ∧ gU m free way a b < (m : Int) := by
  refine ⟨fun a b => ?_, fun a b ha hb => ?_⟩
  · unfold gU
    rw [Int.add_comm (a : Int) b, show (if (b : Int) > a then (b : Int) else a) = if (a : Int) > b then (a : Int) else b from by split <;> split <;> omega, show (if (b : Int) < a then (b : Int) else a) = if (a : Int) < b then (a : Int) else b from by split <;> split <;> omega]
  · have h := pick_mem (gU_at (m := m) (free := free) (a := a) (b := b) hw)
    simp only [List.mem_cons, List.not_mem_nil, or_false] at h
    rcases h with h | h | h | h
    · rw [h]; split <;> omega
    · rw [h]
      refine ⟨Int.ediv_nonneg (by omega) (by omega), Int.ediv_lt_of_lt_mul (by omega) ?_⟩
      have : 2 * (m : Int) - 2 < m * m ∨ m = 1 := by
        by_cases h1 : m = 1
        · exact .inr h1
        · left
          have : 2 * (m : Int) ≤ m * m := Int.mul_le_mul_of_nonneg_right (by omega) (by omega)
          omega
      rcases this with q | rfl
      · omega
      · omega
    · rw [h]; exact ⟨f0, f1⟩
    · rw [h]; split <;> omega
/-- rows of a table so far: a list at L of tuples of ints -/
def RowsT (H : Hp) (p L : Addr) (m a : Nat) (G : Nat → Nat → Int) : Prop := ∃ xs, H L = some (.lst xs) ∧ Dats H p xs ((List.range a).map fun x => rowD ((List.range m).map fun y => G x y))
theorem RowsT.same {H H' : Hp} {p L : Addr} {m a : Nat} {G : Nat → Nat → Int} (h : RowsT H p L m a G) (e : Same H H') : RowsT H' p L m a G := by
  obtain ⟨xs, h1, h2⟩ := h
  exact ⟨xs, e _ _ h1, h2.same e⟩
theorem rows_no (m a : Nat) (G : Nat → Nat → Int) : ∀ d ∈ (List.range a).map (fun x => rowD ((List.range m).map fun y => G x y)), noList d = true := fun d hd => by
  obtain ⟨x, _, rfl⟩ := List.mem_map.mp hd
  exact noList_ints _ _
/-- one row more at L; the rows at another list stay -/
theorem RowsT.add {H : Hp} {p L t : Addr} {m a : Nat} {G : Nat → Nat → Int} {xs : List V} (h1 : H L = some (.lst xs)) (h2 : Dats H p xs ((List.range a).map fun x => rowD ((List.range m).map fun y => G x y))) (ht : H t = some (.tup (((List.range m).map fun y => G a y).map V.int))) (np : t ≠ p) :
    RowsT (upd H L (.lst (xs ++ [.ref t]))) p L m (a + 1) G := by
  refine ⟨_, upd_same, ?_⟩
  rw [List.range_succ, List.map_append]
  refine (h2.setL h1 (rows_no _ _ _)).snoc ?_
  refine Dat.setL h1 (.tup ht np (by rw [List.length_map, List.length_map, List.length_map, List.length_map]) fun i x d e1 e2 => (Dats.ints (H := H) (p := p) ((List.range m).map fun y => G a y)).2 i x d e1 e2) (noList_ints _ _)
theorem RowsT.setL {H : Hp} {p L L2 : Addr} {m a : Nat} {G : Nat → Nat → Int} {zs ys : List V} (h : RowsT H p L m a G) (h2 : H L2 = some (.lst zs)) (n : L ≠ L2) : RowsT (upd H L2 (.lst ys)) p L m a G := by
  obtain ⟨xs, e1, e2⟩ := h
  exact ⟨xs, by rw [upd_ne n]; exact e1, e2.setL h2 (rows_no _ _ _)⟩
theorem rowsT_tab {m : Nat} {G : Nat → Nat → Int} (h : (∀ a b, G a b = G b a) ∧ ∀ a b, a < m → b < m → 0 ≤ G a b ∧ G a b < (m : Int)) : TabD m (.tuple ((List.range m).map fun x => rowD ((List.range m).map fun y => G x y))) := by
  have := tab_of h.1 h.2
  unfold rowD
  simp only [List.map_map]
  exact this
theorem ok_law_fair_house (D : Df K mg "_law_fair_house" s_law_fair_house ["bag"]) (T : Nms mg) (c_law_pick : CallOk P w K mg base CX0 1 "_law_pick" ["bag", "many"] spPick) : CallOk P w K mg base CX0 2 "_law_fair_house" ["bag"] spMkHouse := by
  refine df_ok D sc_law_fair_house (fun vs H Q E h => ?_) (fun f cdv A outer s H vs Q E hr h => ?_)
  · obtain ⟨p, rfl, _⟩ := h
    rfl
  · obtain ⟨p, rfl, hB, k⟩ := h
    have nd := sc_law_fair_house.nd
    refine ⟨_, (pss_cons (ps_asg (pe_tup (pa_cons (pe_op op_add pe_int (pe_cc c_law_pick (hr.mono (by omega)) (pa_cons (pv 0) (pa_cons pe_int pa_nil)))) (pa_cons (pe_op op_add pe_int (pe_cc c_law_pick (hr.mono (by omega)) (pa_cons (pv 0) (pa_cons pe_int pa_nil)))) pa_nil))) (pg_tup rfl (pgs_cons (pg_name (i := 1) nd rfl (Or.inr rfl)) (pgs_cons (pg_name (i := 2) nd rfl (Or.inl rfl)) pgs_nil))))
      (pss_cons (ps_set (i := 3) nd rfl (Or.inl rfl) (pe_lst pa_nil))
      (pss_cons (ps_set (i := 4) nd rfl (Or.inr rfl) (pe_cc c_law_pick (hr.mono (by omega)) (pa_cons (pv 0) (pa_cons pe_int pa_nil))))
      (pss_cons (ps_set (i := 5) nd rfl (Or.inr rfl) (pe_cc c_law_pick (hr.mono (by omega)) (pa_cons (pv 0) (pa_cons (pv 1) pa_nil))))
      (pss_cons (ps_for PassesOwn.never rfl (pi_range1 rfl T.n_range (pa_cons (pv 2) pa_nil)) (pg_name (i := 6) nd rfl (Or.inl rfl)) (pss_cons (ps_par (i := 7) (j := 8) (by rfl) nd rfl rfl (by decide) rfl rfl (pa_cons (pe_lst pa_nil) (pa_cons (pe_lst pa_nil) pa_nil)) (by rfl))
      (pss_cons (ps_for PassesOwn.never rfl (pi_range1 rfl T.n_range (pa_cons (pv 1) pa_nil)) (pg_name (i := 9) nd rfl (Or.inr rfl)) (pss_cons (ps_expr (pe_bm PySem.F.plainAttrs_list PySem.F.slot_list_append PySem.F.type_list_append mt_append (pv 7) (pa_cons (pe_callTy (r := rTupOf K) call_tupOf (by rfl) T.n_tuple (by decide +kernel) (pa_cons (pe_lc (own := [("b", 10)]) (g := (gName 10)) (tt := tYes) (by rfl) nd (pi_range1 rfl T.n_range (pa_cons (pv 1) pa_nil)) (blkOk_by (own := [("b", 10)]) (N := N_law_fair_house) (sc := defScope s_law_fair_house) (by decide +kernel)) (fun _ _ _ _ _ => (pg_name (i := 10) nd rfl (Or.inl rfl))) (fun _ _ _ _ _ => pts_nil) (fun _ _ _ _ _ => (pe_ix (r := rIxL K) ix_list (pe_lst (pa_cons (pe_callB (call_max2 rfl) (by rfl) T.n_max (by decide +kernel) (pa_cons (pv 9) (pa_cons (pv 10) pa_nil))) (pa_cons (pe_op op_mod (pe_op op_add (pv 9) (pv 10)) (pv 1)) (pa_cons (pv 5) (pa_cons (pe_callB (call_min2 rfl) (by rfl) T.n_min (by decide +kernel) (pa_cons (pv 9) (pa_cons (pv 10) pa_nil))) pa_nil))))) (pv 4) (fun _ _ => rfl)))) pa_nil)) pa_nil)))
      (pss_one (ps_expr (pe_bm PySem.F.plainAttrs_list PySem.F.slot_list_append PySem.F.type_list_append mt_append (pv 8) (pa_cons (pe_callTy (r := rTupOf K) call_tupOf (by rfl) T.n_tuple (by decide +kernel) (pa_cons (pe_lc (own := [("b", 10)]) (g := (gName 10)) (tt := tYes) (by rfl) nd (pi_range1 rfl T.n_range (pa_cons (pv 1) pa_nil)) (blkOk_by (own := [("b", 10)]) (N := N_law_fair_house) (sc := defScope s_law_fair_house) (by decide +kernel)) (fun _ _ _ _ _ => (pg_name (i := 10) nd rfl (Or.inl rfl))) (fun _ _ _ _ _ => pts_nil) (fun _ _ _ _ _ => (pe_ix (r := rIxL K) ix_list (pe_lst (pa_cons (pe_callB (call_min2 rfl) (by rfl) T.n_min (by decide +kernel) (pa_cons (pv 9) (pa_cons (pv 10) pa_nil))) (pa_cons (pe_op op_fdivW (pe_op op_add (pv 9) (pv 10)) (pv 1)) (pa_cons (pv 5) (pa_cons (pe_callB (call_max2 rfl) (by rfl) T.n_max (by decide +kernel) (pa_cons (pv 9) (pa_cons (pv 10) pa_nil))) pa_nil))))) (pv 4) (fun _ _ => rfl)))) pa_nil)) pa_nil))))))
      (pss_one (ps_expr (pe_bm PySem.F.plainAttrs_list PySem.F.slot_list_append PySem.F.type_list_append mt_append (pv 3) (pa_cons (pe_tup (pa_cons (pe_callTy (r := rTupOf K) call_tupOf (by rfl) T.n_tuple (by decide +kernel) (pa_cons (pv 7) pa_nil)) (pa_cons (pe_callTy (r := rTupOf K) call_tupOf (by rfl) T.n_tuple (by decide +kernel) (pa_cons (pv 8) pa_nil)) pa_nil))) pa_nil)))))))
      (pss_one (ps_ret (pe_callTy (r := rTupOf K) call_tupOf (by rfl) T.n_tuple (by decide +kernel) (pa_cons (pv 3) pa_nil))))))))), ?_⟩
    walk_at "op"
    walk_at "st"
    refine fun m1 H2 m10 m11 hB2 x2 => ?_
    walk_at "st"
    refine fun n1 H3 n10 n11 hB3 x3 => ?_
    obtain ⟨m, hm⟩ : ∃ m : Nat, (m : Int) = 1 + m1 := ⟨(1 + m1).toNat, by omega⟩
    obtain ⟨n, hn⟩ : ∃ n : Nat, (n : Int) = 1 + n1 := ⟨(1 + n1).toNat, by omega⟩
    have hm6 : m ≤ 6 := by omega
    have hm1 : 1 ≤ m := by omega
    have hn4 : n ≤ 4 := by omega
    walk_at "st"
    rw [← hm, ← hn]
    refine ⟨by show 2 ≤ sizeLine; decide, fun t0 ht0 => ?_⟩
    have nt0 := hB3.ne ht0
    refine ⟨t0, _, rfl, SqT.of upd_same, rfl, _, _, rfl, _, _, rfl, rfl, ?_⟩
    refine ⟨by show 0 ≤ sizeLine; omega, fun R hR => ?_⟩
    have nR := (hB3.up (o := .tup [.int m, .int n]) nt0).ne hR
    have ml : (m : Int).natAbs.log2 < 9000 := Nat.lt_of_le_of_lt (Nat.log2_le_self _) (by omega)
    have hBR := (hB3.up (o := .tup [.int m, .int n]) nt0).up (o := .lst []) nR
    walk_at "st"
    refine fun way H4 w0 w4 hB4 x4 => ?_
    walk_at "st"
    refine fun free H5 f0 f1 hB5 x5 => ?_
    have hR5 : H5 R = some (.lst []) := x5 _ _ (x4 _ _ upd_same nR.symm) nR.symm
    have x05 := (x2.trans x3).trans (ext_new (o := .tup [.int m, .int n]) ht0)
    have xb5 := ((ext_new (p := p) (o := .lst []) hR).trans x4).trans x5
    generalize hHb : upd H3 t0 (.tup [.int m, .int n]) = Hb at hR x05 xb5
    have hwn : way.toNat < 4 := by omega
    obtain ⟨u, hu⟩ := hB5.here
    have pne : ∀ {S : Addr} {G : Hp}, Same H5 G → G S = none → S ≠ p := fun {S G} e z q => by
      rw [q] at z
      have := e p u hu
      rw [z] at this
      cases this
    have bagS : ∀ {G : Hp}, Same H5 G → Bag G p := fun {G} e => by
      obtain ⟨b1, b2, b3, q⟩ := hB5
      exact ⟨b1, b2, b3, e _ _ q⟩
    walk_at "st"
    rw [Int.toNat_natCast]
    refine fR (fun i σ G => Ext p Hb G ∧ Bag G p ∧ (∃ u6 u7 u8 u9, σ = [some (.ref p), some (.int m), some (.int n), some (.ref R), some (.int way), some (.int free), u6, u7, u8, u9, none]) ∧ ∃ xs ds, G R = some (.lst xs) ∧ Dats G p xs ds ∧ ds.length = i ∧ ∀ e ∈ ds, FloorD m e)
      ⟨xb5, hB5, ⟨_, _, _, _, rfl⟩, [], [], hR5, Dats.nil, rfl, fun e he => by simp at he⟩ ?_ ?_
    · rintro i σ G hi ⟨xG, hBG, ⟨u6, u7, u8, u9, rfl⟩, xs, ds, hRs, hD, hl, hf⟩
      obtain ⟨u', hu'⟩ := hBG.here
      have pneG : ∀ {S : Addr} {Z : Hp}, Same G Z → Z S = none → S ≠ p := fun {S Z} e z q => by
        rw [q] at z
        have := e p u' hu'
        rw [z] at this
        cases this
      walk_at "op"
      walk_at "st"
      refine fun S hS => ?_
      refine ⟨by show 0 ≤ sizeLine; omega, fun U hU => ?_⟩
      have nSU : S ≠ U := ne_of_none upd_same hU
      have hU0 : G U = none := by rw [← hU, upd_ne nSU.symm]
      have sG1 : Same G (upd (upd G S (.lst [])) U (.lst [])) := (same_new hS).trans (same_new hU)
      walk_at "st"
      rw [Int.toNat_natCast]
      refine fR (fun a σ G1 => Same G G1 ∧ (∃ u9, σ = [some (.ref p), some (.int m), some (.int n), some (.ref R), some (.int way), some (.int free), some (.int (0 + i)), some (.ref S), some (.ref U), u9, none]) ∧ RowsT G1 p S m a (gS m free way) ∧ RowsT G1 p U m a (gU m free way))
        ⟨sG1, ⟨_, rfl⟩, ⟨[], by rw [upd_ne nSU]; exact upd_same, Dats.nil⟩, ⟨[], upd_same, Dats.nil⟩⟩ ?_ ?_
      · rintro a σ G1 ha ⟨s1, ⟨u9, rfl⟩, hRS, hRU⟩
        rw [Int.zero_add]
        obtain ⟨xS, eS, dS⟩ := id hRS
        have lS : xS.length ≤ 6 := by
          rw [dS.1, List.length_map, List.length_range]
          omega
        walk_at "op"
        walk_at "st"
        refine ⟨.inl ⟨rfl, _, SqL.of eS⟩, ?_⟩
        walk_at "st"
        refine fun D' hD' => ?_
        rw [Int.toNat_natCast]
        refine lR (fun b G2 => Same G1 G2 ∧ G2 D' = some (.lst (((List.range b).map fun y => gS m free way a y).map V.int))) ⟨same_new hD', upd_same⟩ ?_ ?_
        · rintro b G2 hb ⟨s2, h2⟩
          rw [Int.zero_add]
          walk_at "op"
          refine ⟨rfl, ?_⟩
          walk_at "st"
          refine ⟨by show 4 ≤ sizeLine; decide, fun l hl => ?_⟩
          have nDl : D' ≠ l := ne_of_none h2 hl
          walk_at "st"
          refine ⟨_, _, _, _, rfl, rfl, SqL.of upd_same, atI_of (v := .int (gS m free way a b)) w0 (by
            have q := congrArg (Option.map V.int) (gS_at (m := m) (free := free) (a := a) (b := b) hwn)
            rw [← List.getElem?_map] at q
            exact q), ?_⟩
          refine ⟨_, by rw [upd_ne nDl]; exact h2, by rw [List.length_map, List.length_map, List.length_range]; exact small1000 (by omega), sameOff (s2.trans (same_new hl)) hD', ?_⟩
          rw [upd_same, range_snoc, List.map_append]
          rfl
        · rintro G2 ⟨s2, h2⟩
          walk_at "op"
          walk_at "st"
          refine ⟨_, _, rfl, .inl ⟨SqL.of h2, fun t ht => ?_⟩⟩
          have s3 : Same G1 (upd G2 t (.tup (((List.range m).map fun y => gS m free way a y).map V.int))) := s2.trans (same_new ht)
          have htp := pneG (s1.trans s2) ht
          refine ⟨S, xS, _, rfl, rfl, s3 _ _ eS, small1000 (by omega), ?_⟩
          have hRS4 := RowsT.add (s3 _ _ eS) (dS.same s3) upd_same htp
          have hRU4 := (hRU.same s3).setL (ys := xS ++ [.ref t]) (s3 _ _ eS) nSU.symm
          have s4 := sameOff (o := .lst (xS ++ [.ref t])) (s1.trans s3) hS
          generalize hG4 : upd (upd G2 t (.tup (((List.range m).map fun y => gS m free way a y).map V.int))) S (.lst (xS ++ [.ref t])) = G4 at hRS4 hRU4 s4 ⊢
          clear hG4 s3 ht h2 s2 G2 hD' D' t htp
          obtain ⟨xU, eU, dU⟩ := id hRU4
          have lU : xU.length ≤ 6 := by
            rw [dU.1, List.length_map, List.length_range]
            omega
          walk_at "op"
          walk_at "st"
          refine ⟨.inl ⟨rfl, _, SqL.of eU⟩, ?_⟩
          walk_at "st"
          refine fun D' hD' => ?_
          rw [Int.toNat_natCast]
          refine lR (fun b G2 => Same G4 G2 ∧ G2 D' = some (.lst (((List.range b).map fun y => gU m free way a y).map V.int))) ⟨same_new hD', upd_same⟩ ?_ ?_
          · rintro b G2 hb ⟨s2, h2⟩
            rw [Int.zero_add]
            walk_at "op"
            refine ⟨rfl, ?_⟩
            walk_at "st"
            refine ⟨wide_div (b := 3) (by omega) (by rw [Int.natAbs_natCast]; omega) (by decide) (by decide), ?_⟩
            walk_at "st"
            refine ⟨by show 4 ≤ sizeLine; decide, fun l hl => ?_⟩
            have nDl : D' ≠ l := ne_of_none h2 hl
            walk_at "st"
            refine ⟨_, _, _, _, rfl, rfl, SqL.of upd_same, atI_of (v := .int (gU m free way a b)) w0 (by
              have q := congrArg (Option.map V.int) (gU_at (m := m) (free := free) (a := a) (b := b) hwn)
              rw [← List.getElem?_map] at q
              exact q), ?_⟩
            refine ⟨_, by rw [upd_ne nDl]; exact h2, by rw [List.length_map, List.length_map, List.length_range]; exact small1000 (by omega), sameOff (s2.trans (same_new hl)) hD', ?_⟩
            rw [upd_same, range_snoc, List.map_append]
            rfl
          · rintro G2 ⟨s2, h2⟩
            walk_at "op"
            walk_at "st"
            refine ⟨_, _, rfl, .inl ⟨SqL.of h2, fun t ht => ?_⟩⟩
            have s3 : Same G4 (upd G2 t (.tup (((List.range m).map fun y => gU m free way a y).map V.int))) := s2.trans (same_new ht)
            have htp := pneG (s4.trans s2) ht
            refine ⟨U, xU, _, rfl, rfl, s3 _ _ eU, small1000 (by omega), ?_⟩
            exact ⟨sameOff (s4.trans s3) hU0, ⟨_, rfl⟩, (hRS4.same s3).setL (s3 _ _ eU) nSU, RowsT.add (s3 _ _ eU) (dU.same s3) upd_same htp⟩
      · rintro σ G1 ⟨s1, ⟨u9, rfl⟩, ⟨xS, eS, dS⟩, ⟨xU, eU, dU⟩⟩
        walk_at "op"
        walk_at "st"
        have hR1 := s1 _ _ hRs
        refine ⟨.inl ⟨rfl, _, SqL.of hR1⟩, ?_⟩
        walk_at "st"
        refine ⟨S, xS, rfl, .inl ⟨SqL.of eS, fun t1 ht1 => ?_⟩⟩
        walk_at "st"
        have n1 := pneG s1 ht1
        refine ⟨U, xU, rfl, .inl ⟨SqL.of (by rw [upd_ne (ne_of_none eU ht1)]; exact eU), fun t2 ht2 => ?_⟩⟩
        have n2 := pneG (s1.trans (same_new ht1)) ht2
        refine ⟨by show 2 ≤ sizeLine; decide, fun t ht => ?_⟩
        have n3 := pneG ((s1.trans (same_new ht1)).trans (same_new ht2)) ht
        have sN : Same G1 (upd (upd (upd G1 t1 (.tup xS)) t2 (.tup xU)) t (.tup [.ref t1, .ref t2])) := ((same_new ht1).trans (same_new ht2)).trans (same_new ht)
        have sGN := s1.trans sN
        refine ⟨R, xs, _, rfl, rfl, sGN _ _ hRs, small1000 (by rw [hD.1, hl]; omega), ?_⟩
        have hTS : TabD m (.tuple ((List.range m).map fun x => rowD ((List.range m).map fun y => gS m free way x y))) := rowsT_tab (gS_ok hwn f0 f1)
        have hTU : TabD m (.tuple ((List.range m).map fun x => rowD ((List.range m).map fun y => gU m free way x y))) := rowsT_tab (gU_ok hwn f0 f1)
        have hFN : FloorD m (.tuple [.tuple ((List.range m).map fun x => rowD ((List.range m).map fun y => gS m free way x y)), .tuple ((List.range m).map fun x => rowD ((List.range m).map fun y => gU m free way x y))]) := ⟨_, _, rfl, hTS, hTU⟩
        have hN : Dat (upd (upd (upd G1 t1 (.tup xS)) t2 (.tup xU)) t (.tup [.ref t1, .ref t2])) p (.ref t) (.tuple [.tuple ((List.range m).map fun x => rowD ((List.range m).map fun y => gS m free way x y)), .tuple ((List.range m).map fun x => rowD ((List.range m).map fun y => gU m free way x y))]) :=
          Dat.new ht n3 (Dats.cons ((Dat.new ht1 n1 dS).off ht2) (Dats.cons (Dat.new ht2 n2 (dU.off ht1)) Dats.nil))
        have hR9 := sGN _ _ hRs
        have hBN : Bag (upd (upd (upd G1 t1 (.tup xS)) t2 (.tup xU)) t (.tup [.ref t1, .ref t2])) p := by
          obtain ⟨b1, b2, b3, q⟩ := hBG
          exact ⟨b1, b2, b3, sGN _ _ q⟩
        refine ⟨(xG.trans (Same.ext sGN p)).off hR, hBN.up nR, ⟨_, _, _, _, rfl⟩, _, _, upd_same, Dats.snoc ((hD.same sGN).setL hR9 fun e he => (floor_fit hm6 (hf e he)).2.1) (hN.setL hR9 (floor_fit hm6 hFN).2.1), by simp [hl], fun e he => ?_⟩
        rcases List.mem_append.mp he with he | he
        · exact hf e he
        · simp only [List.mem_cons, List.not_mem_nil, or_false] at he
          subst he
          exact hFN
    · rintro σ G ⟨xG, hBG, ⟨u6, u7, u8, u9, rfl⟩, xs, ds, hRs, hD, hl, hf⟩
      walk_at "op"
      walk_at "st"
      refine ⟨_, _, rfl, .inl ⟨SqL.of hRs, fun t ht => ?_⟩⟩
      have nt := hBG.ne ht
      exact k _ _ m n _ (hBG.up nt) ((x05.trans xG).trans (ext_new ht)) (Dat.new ht nt.symm hD) ⟨ds, rfl, hl, by omega, hn4, hm1, hm6, hf⟩
end
end Fm
end FFH
section FSD
set_option Elab.async false
set_option linter.all false
set_option maxRecDepth 100000
set_option maxHeartbeats 4000000
local macro_rules | `(tactic| walk_at "ne") => `(tactic| first | assumption | (apply Ne.symm; assumption) | exact L2.ne_of_none (by assumption) (by assumption) | exact Ne.symm (L2.ne_of_none (by assumption) (by assumption)))
local macro_rules | `(tactic| walk_at "hl") => `(tactic| first | assumption | exact L2.upd_same | (refine Eq.trans (L2.upd_ne (by walk_at "ne")) ?_; walk_at "hl"))
local macro_rules | `(tactic| walk_at "sd") => `(tactic| first | (with_reducible show (_ : Int) < _; omega) | (with_reducible show (_ : Int) ≤ _; omega) | assumption | decide | exact ⟨by assumption, by assumption⟩ | exact ⟨by decide, by decide⟩ | exact Or.inr ⟨by decide, by decide⟩ | exact Or.inl ⟨by omega, by omega⟩ | rfl)
local macro_rules | `(tactic| walk_at "st1") => `(tactic| first
  | refine ⟨_, rfl, ?_⟩
  | refine ⟨_, _, rfl, rfl, ?_⟩
  | refine ⟨_, _, rfl, ?_⟩
  | (refine ⟨_, _, _, _, rfl, rfl, L2.SqL.of (by walk_at "hl"), rfl, ?_⟩)
  | (refine ⟨_, _, _, _, rfl, rfl, L2.SqT.of (by walk_at "hl"), rfl, ?_⟩)
  | (refine ⟨_, _, _, _, rfl, rfl, (by walk_at "hl"), rfl, ?_⟩)
  | (refine And.intro (by walk_at "sd") ?_)
  )
local macro_rules | `(tactic| walk_at "st") => `(tactic| repeat walk_at "st1")
local macro_rules | `(tactic| walk_at "op") => `(tactic| try dsimp only [L2.tSeq, L2.tAsg, L2.tOp, L2.tVar, L2.tC, L2.gSub, L2.rI, L2.rI0, L2.rIxL, L2.rIxT, L2.rSetL, L2.tIfS, L2.tTest, L2.tRet, L2.gName, L2.tNext, L2.tAnd, L2.tOr, L2.tNot, L2.tAndV, L2.tOrV, L2.tNotV, L2.tB, L2.tCB, L2.tCons, L2.tNil, L2.tCall, L2.tTup, L2.tLst, L2.tChain, L2.tUn, L2.tPar, L2.tDrop, L2.tIf, L2.tBM, L2.tBM0, L2.rAppend, L2.rCat, L2.rIsi, L2.rIsiT, L2.gTup, L2.gCons, L2.gNil, Fm.tFor_eq, Fm.tLc_eq, L2.iTup, L2.iList, L2.iRng1, L2.iRng2, L2.tSl, L2.tPart, L2.tNoPart, L2.rSlL, L2.rEq, L2.rNe, L2.rU, L2.rEqD, L2.rNeD, Fm.tRevT, Fm.rLenS, Fm.rTupOf, Fm.rLstOf, L2.tDNewK, L2.tCallS, L2.WE, Fm.wKeep, Fm.rIsK, Fm.rIsKT, List.cons_append, List.nil_append, L2.tYes])
namespace Fm
open PySem PySem.Spec PyProof.Rows L2
abbrev s_law_standing : Stmt := top 33
abbrev N_law_standing : List Str := ["bag", "house", "many", "m", "floors", "counts", "k", "floor", "ground", "row"]
theorem sc_law_standing : FnScope N_law_standing ["bag", "house", "many"] (defScope s_law_standing) := ⟨rfl, rfl, rfl, by decide +kernel, rfl, by decide +kernel, by decide +kernel⟩
section
variable {P : Program} {w : World} {K : PySem.W.Frag} {mg : Str → Option Value} {base : Heap}
theorem LL.ext {H H' : Hp} {p L : Addr} {ws : List V} {fl : List (List Int)} (h : LL H p L ws fl) (e : Ext p H H') (nL : L ≠ p) : LL H' p L ws fl :=
  ⟨e _ _ h.at_ nL, h.len, fun j c q => by
    obtain ⟨b, e1, e2, e3, e4⟩ := h.row j c q
    exact ⟨b, e1, e _ _ e2 e4, e3, e4⟩⟩
def Inj (ws : List V) : Prop := ∀ (i1 i2 : Nat) (b : Addr), ws[i1]? = some (V.ref b) → ws[i2]? = some (V.ref b) → i1 = i2
def Fresh (H0 : Hp) (ws : List V) : Prop := ∀ (i : Nat) (b : Addr), ws[i]? = some (V.ref b) → H0 b = none
theorem snoc_get {ws : List V} {l b : Addr} {i : Nat} (e : (ws ++ [V.ref l])[i]? = some (V.ref b)) : ws[i]? = some (V.ref b) ∨ (i = ws.length ∧ b = l) := by
  by_cases hi : i < ws.length
  · rw [List.getElem?_append_left hi] at e
    exact .inl e
  · rw [List.getElem?_append_right (by omega)] at e
    cases z : i - ws.length with
    | zero =>
      rw [z] at e
      cases e
      exact .inr ⟨by omega, rfl⟩
    | succ w => rw [z] at e; cases e
theorem Inj.snoc {ws : List V} {l : Addr} (h : Inj ws) (n : ∀ (i : Nat) (b : Addr), ws[i]? = some (V.ref b) → b ≠ l) : Inj (ws ++ [V.ref l]) := fun i1 i2 b e1 e2 => by
  rcases snoc_get e1 with q1 | ⟨q1, q2⟩
  · rcases snoc_get e2 with r1 | ⟨r1, r2⟩
    · exact h i1 i2 b q1 r1
    · exact absurd r2 (n i1 b q1)
  · rcases snoc_get e2 with r1 | ⟨r1, r2⟩
    · exact absurd q2 (n i2 b r1)
    · rw [q1, r1]
theorem Fresh.snoc {H0 : Hp} {ws : List V} {l : Addr} (h : Fresh H0 ws) (hl : H0 l = none) : Fresh H0 (ws ++ [V.ref l]) := fun i b e => by
  rcases snoc_get e with q | ⟨_, q⟩
  · exact h i b q
  · rw [q]; exact hl
theorem LL.off {H : Hp} {p L l : Addr} {ws : List V} {fl : List (List Int)} (h : LL H p L ws fl) (hl : H l = none) : ∀ (i : Nat) (b : Addr), ws[i]? = some (V.ref b) → b ≠ l := fun i b e z => by
  obtain ⟨b', e1, e2, _⟩ := h.row i (fl[i]'(by rw [← h.len]; exact (List.getElem?_eq_some_iff.mp e).1)) (List.getElem?_eq_getElem _)
  rw [e] at e1
  cases e1
  subst z
  rw [hl] at e2
  cases e2
def tot (fl : List (List Int)) : Int := (fl.map List.sum).sum
theorem tot_set {fl : List (List Int)} {f j : Nat} {c : List Int} {x : Int} (hf : fl[f]? = some c) (hj : c[j]? = some x) : tot (fl.set f (c.set j (x + 1))) = tot fl + 1 := by
  unfold tot
  rw [List.map_set, sum_set (z := c.sum) (by rw [List.getElem?_map, hf]; rfl), sum_set hj]
  omega
theorem tot_zero (n m : Nat) : tot (List.replicate n (List.replicate m (0 : Int))) = 0 := by
  have h0 : (List.replicate m (0 : Int)).sum = 0 := by
    induction m with
    | zero => rfl
    | succ m ih => rw [List.replicate_succ, List.sum_cons, ih]; rfl
  unfold tot
  induction n with
  | zero => rfl
  | succ n ih => rw [List.replicate_succ, List.map_cons, List.sum_cons, ih, h0]; rfl
theorem sd_core {Dn : Ends} {H G : Hp} {p C ah : Addr} {ws : List V} {fl : List (List Int)} {m n many : Nat} {fi : Int} {u6 g8 : Option V} (f0 : 0 ≤ fi) (f1 : fi < n) (hm1 : 1 ≤ m) (hm6 : m ≤ 6) (nCp : C ≠ p) (hx : Ext p H G) (hB : Bag G p) (hLL : LL G p C ws fl) (inj : Inj ws) (fresh : Fresh H ws)
    (hln : fl.length = n) (hm : ∀ r ∈ fl, r.length = m) (hp : ∀ r ∈ fl, ∀ c ∈ r, 0 ≤ c)
    (hn : ∀ G', Ext p H G' → Bag G' p → ∀ fl', LL G' p C ws fl' → fl'.length = n → (∀ r ∈ fl', r.length = m) → (∀ r ∈ fl', ∀ c ∈ r, 0 ≤ c) → tot fl' = tot fl + 1 → Dn.nx [some (.ref p), some (.ref ah), some (.int many), some (.int m), some (.int n), some (.ref C), u6, some (.int fi), g8, none] G') :
    tAugS (tOp (rIxL K) (tVar 5) (tVar 7)) (tCall spPick [] E0 (tCons (tVar 0) (tCons (tVar 3) tNil))) (tC (V.int 1)) (rGetL K) (ipI fun i j => i + j) rSetL Dn
      [some (.ref p), some (.ref ah), some (.int many), some (.int m), some (.int n), some (.ref C), u6, some (.int fi), g8, none] G := by
  have hfl : fi.toNat < fl.length := by omega
  obtain ⟨E1, hw, hE, nEC, nEp⟩ := hLL.row fi.toNat fl[fi.toNat] (List.getElem?_eq_getElem hfl)
  have hcm : fl[fi.toNat] ∈ fl := List.getElem_mem _
  have hgf : fl[fi.toNat]? = some fl[fi.toNat] := List.getElem?_eq_getElem hfl
  generalize fl[fi.toNat] = c at hE hcm hgf
  have hcl := hm c hcm
  have mlog : (m : Int).natAbs.log2 < 9000 := Nat.lt_of_le_of_lt (Nat.log2_le_self _) (by omega)
  refine ⟨_, rfl, _, rfl, C, ws, fi, _, rfl, rfl, SqL.of hLL.at_, atI_of f0 hw, ?_⟩
  refine ⟨_, rfl, _, rfl, ?_⟩
  refine ⟨p, m, rfl, by omega, mlog, hB, fun j G1 j0 j1 hB1 x1 => ?_⟩
  have hj : j.toNat < c.length := by omega
  have hE1 := x1 _ _ hE nEp
  have ej : j = ((j.toNat : Nat) : Int) := by omega
  have hcj : c[j.toNat]? = some c[j.toNat] := List.getElem?_eq_getElem hj
  refine ⟨E1, _, j.toNat, .int c[j.toNat], rfl, by rw [← ej], SqL.of hE1, by rw [List.getElem?_map, hcj]; rfl, ?_⟩
  refine ⟨_, _, rfl, rfl, ?_⟩
  refine ⟨E1, _, j, j.toNat, rfl, rfl, hE1, by rw [ej, Int.toNat_natCast]; exact ixN_of (by rw [List.length_map]; exact hj), ?_⟩
  have hLL1 := hLL.ext x1 nCp
  have hLL2 := hLL1.updRow (c := c.set j.toNat (c[j.toNat] + 1)) hw fun i e => inj i _ E1 e hw
  rw [show (c.map V.int).set j.toNat (V.int (c[j.toNat] + 1)) = (c.set j.toNat (c[j.toNat] + 1)).map V.int from by rw [List.map_set]]
  refine hn _ ((hx.trans x1).off (fresh _ _ hw)) (hB1.up nEp.symm) _ hLL2 (by rw [List.length_set]; exact hln) (fun r hr => ?_) (fun r hr x hxr => ?_) (tot_set hgf hcj)
  · rcases List.mem_or_eq_of_mem_set hr with q | rfl
    · exact hm r q
    · rw [List.length_set]; exact hcl
  · rcases List.mem_or_eq_of_mem_set hr with q | rfl
    · exact hp r q x hxr
    · rcases List.mem_or_eq_of_mem_set hxr with q | rfl
      · exact hp c hcm x q
      · have := hp c hcm _ (List.mem_of_getElem? hcj)
        omega
def spStanding : Sp := fun vs H Q _ => ∃ (p : Addr) (hv : V) (hd : PyData) (m n many : Nat), vs = [.ref p, hv, .int many] ∧ Bag H p ∧ Dat H p hv hd ∧ HouseN m n hd ∧ many ≤ 60 ∧
  ∀ v' H' rows out, Bag H' p → Ext p H H' → Dat H' p v' (stD rows out) → rows.length = n → StOk m rows out → tot rows ≤ many → out ≤ 2 → Q v' H'
theorem ok_law_standing (D : Df K mg "_law_standing" s_law_standing ["bag", "house", "many"]) (T : Nms mg) (c_law_pick : CallOk P w K mg base CX0 1 "_law_pick" ["bag", "many"] spPick) : CallOk P w K mg base CX0 2 "_law_standing" ["bag", "house", "many"] spStanding := by
  refine df_ok D sc_law_standing (fun vs H Q E h => ?_) (fun f cdv A outer s H vs Q E hr h => ?_)
  · obtain ⟨p, hv, hd, m, n, many, rfl, _⟩ := h
    rfl
  · obtain ⟨p, hv, hd, m, n, many, rfl, hB, hD, hN, hmany, k⟩ := h
    have nd := sc_law_standing.nd
    obtain ⟨fs, rfl, hfl, hn1, hn4, hm1, hm6, hFl⟩ := id hN
    obtain ⟨ah, hs, rfl, hah, nah, hh⟩ := hD.isTup
    have hd0 : fs[0]? = some fs[0] := List.getElem?_eq_getElem (by omega)
    obtain ⟨s0, u0, e0, ⟨rs, e1, e2, _⟩, _⟩ := hFl fs[0] (List.getElem_mem _)
    rw [e0] at hd0
    subst e1
    obtain ⟨x0, hx0, hdx0⟩ := hh.back hd0
    obtain ⟨a0, y0, rfl, ha0, na0, hs0⟩ := hdx0.isTup
    obtain ⟨z0, hz0, hdz0⟩ := hs0.back (i := 0) rfl
    obtain ⟨af, yf, rfl, haf, naf, hsf⟩ := hdz0.isTup
    have hyl : yf.length = m := by rw [hsf.1, e2]
    have hhl : hs.length = n := by rw [hh.1, hfl]
    refine ⟨_, (pss_cons (ps_asg (pe_tup (pa_cons (pe_callB (r := rLenS K) call_lenS (by rfl) T.n_len (by decide +kernel) (pa_cons (pe_ix (r := rIxT K) ix_tup (pe_ix (r := rIxT K) ix_tup (pv 1) pe_int (fun _ _ => rfl)) pe_int (fun _ _ => rfl)) pa_nil)) (pa_cons (pe_callB (r := rLenS K) call_lenS (by rfl) T.n_len (by decide +kernel) (pa_cons (pv 1) pa_nil)) pa_nil))) (pg_tup rfl (pgs_cons (pg_name (i := 3) nd rfl (Or.inr rfl)) (pgs_cons (pg_name (i := 4) nd rfl (Or.inl rfl)) pgs_nil))))
      (pss_cons (ps_setLc (i := 5) (own := [("floor", 7)]) (g := (gName 7)) (tt := tYes) (by rfl) nd rfl rfl (sw_true rfl rfl rfl (by decide +kernel)) (pi_range1 rfl T.n_range (pa_cons (pv 4) pa_nil)) (blkOk_by (own := [("floor", 7)]) (N := N_law_standing) (sc := defScope s_law_standing) (by decide +kernel)) (fun _ _ _ _ _ => (pg_name (i := 7) nd rfl (Or.inl rfl))) (fun _ _ _ _ _ => pts_nil) (fun _ _ _ _ _ => (pe_lc (own := [("k", 6)]) (g := (gName 6)) (tt := tYes) (by rfl) nd (pi_range1 rfl T.n_range (pa_cons (pv 3) pa_nil)) (blkOk_by (own := [("k", 6)]) (N := N_law_standing) (sc := relS _ (defScope s_law_standing)) (by decide +kernel)) (fun _ _ _ _ _ => (pg_name (i := 6) nd rfl (Or.inl rfl))) (fun _ _ _ _ _ => pts_nil) (fun _ _ _ _ _ => pe_int))))
      (pss_cons (ps_set (i := 8) nd rfl (Or.inl rfl) (pe_cmpR op_eq (pe_cc c_law_pick (hr.mono (by omega)) (pa_cons (pv 0) (pa_cons pe_int pa_nil))) pe_int (nomark _)))
      (pss_cons (ps_for PassesOwn.never rfl (pi_range1 rfl T.n_range (pa_cons (pe_cc c_law_pick (hr.mono (by omega)) (pa_cons (pv 0) (pa_cons (pe_op op_add (pv 2) pe_int) pa_nil))) pa_nil)) (pg_name (i := 6) nd rfl (Or.inl rfl)) (pss_cons (ps_set (i := 7) nd rfl (Or.inl rfl) (pe_ifExp (pt_val (pv 8)) pe_int (pe_cc c_law_pick (hr.mono (by omega)) (pa_cons (pv 0) (pa_cons (pv 4) pa_nil)))))
      (pss_one (ps_augS (pe_ix (r := rIxL K) ix_list (pv 5) (pv 7) (fun _ _ => rfl)) (pe_cc c_law_pick (hr.mono (by omega)) (pa_cons (pv 0) (pa_cons (pv 3) pa_nil))) get_list pe_int ip_add set_list))))
      (pss_one (ps_ret (pe_op (r := rCatA K) op_catA (pe_callTy (r := rTupOf K) call_tupOf (by rfl) T.n_tuple (by decide +kernel) (pa_cons (pe_lc (own := [("row", 9)]) (g := (gName 9)) (tt := tYes) (by rfl) nd (pi_list (pv 5)) (blkOk_by (own := [("row", 9)]) (N := N_law_standing) (sc := defScope s_law_standing) (by decide +kernel)) (fun _ _ _ _ _ => (pg_name (i := 9) nd rfl (Or.inl rfl))) (fun _ _ _ _ _ => pts_nil) (fun _ _ _ _ _ => (pe_callTy (r := rTupOf K) call_tupOf (by rfl) T.n_tuple (by decide +kernel) (pa_cons (pv 9) pa_nil)))) pa_nil)) (pe_tup (pa_cons (pe_cc c_law_pick (hr.mono (by omega)) (pa_cons (pv 0) (pa_cons pe_int pa_nil))) pa_nil))))))))), ?_⟩
    walk_at "op"
    walk_at "st"
    refine ⟨_, _, _, _, rfl, rfl, SqT.of hah, atI_nat (j := 0) hx0, ?_⟩
    walk_at "st"
    refine ⟨_, _, _, _, rfl, rfl, SqT.of ha0, atI_nat (j := 0) hz0, ?_⟩
    refine ⟨_, _, rfl, .inr (SqT.of haf), ?_⟩
    walk_at "st"
    refine ⟨_, _, rfl, .inr (SqT.of hah), ?_⟩
    refine ⟨by show 2 ≤ sizeLine; decide, fun t0 ht0 => ?_⟩
    have nt0 := hB.ne ht0
    refine ⟨t0, _, rfl, SqT.of upd_same, rfl, _, _, rfl, _, _, rfl, rfl, ?_⟩
    rw [hyl, hhl]
    walk_at "op"
    walk_at "st"
    obtain ⟨u, hu⟩ := hB.here
    refine fun C hC => ?_
    rw [Int.toNat_natCast]
    have nCt : C ≠ t0 := fun z => by rw [z, upd_same] at hC; cases hC
    have hCH : H C = none := by rw [upd_ne nCt] at hC; exact hC
    have hsm0 : Same H (upd H t0 (.tup [.int m, .int n])) := same_new ht0
    have pne : ∀ {S : Addr} {G : Hp}, Same H G → G S = none → S ≠ p := fun {S G} e z q => by
      rw [q] at z
      have := e p u hu
      rw [z] at this
      cases this
    have nCp : C ≠ p := pne hsm0 hC
    refine lR (fun i G => Same H G ∧ ∃ ws, LL G p C ws (List.replicate i (List.replicate m (0 : Int))) ∧ Inj ws ∧ Fresh H ws)
      ⟨hsm0.trans (same_new hC), [], LL.nil upd_same, fun i1 i2 b e => (by cases e), fun i b e => (by cases e)⟩ ?_ ?_
    · rintro i G hi ⟨sm, ws, hLL, inj, fresh⟩
      walk_at "op"
      refine ⟨rfl, ?_⟩
      walk_at "st"
      refine fun E1 hE1 => ?_
      rw [Int.toNat_natCast]
      have hEH := sameFree sm hE1
      have nCE : C ≠ E1 := ne_of_none hLL.at_ hE1
      have wl : ws.length = i := by rw [hLL.len, List.length_replicate]
      refine lR (fun j G2 => Same G G2 ∧ G2 E1 = some (.lst ((List.replicate j (0 : Int)).map V.int))) ⟨same_new hE1, upd_same⟩ ?_ ?_
      · rintro j G2 hj ⟨s2, h2⟩
        walk_at "op"
        refine ⟨rfl, ?_⟩
        walk_at "st"
        refine ⟨_, h2, by rw [List.length_map, List.length_replicate]; exact small1000 (by omega), sameOff s2 hE1, ?_⟩
        rw [upd_same, List.replicate_succ', List.map_append]
        rfl
      · rintro G2 ⟨s2, h2⟩
        have hLL2 := hLL.same s2
        refine ⟨ws, hLL2.at_, small1000 (by omega), sameOff (sm.trans s2) hCH, ws ++ [.ref E1], ?_, inj.snoc (hLL.off hE1), fresh.snoc hEH⟩
        rw [List.replicate_succ']
        exact hLL2.snoc h2 nCE.symm (pne sm hE1)
    · rintro G ⟨sm, ws, hLL, inj, fresh⟩
      have hBG : Bag G p := by
        obtain ⟨b1, b2, b3, e⟩ := hB
        exact ⟨b1, b2, b3, sm _ _ e⟩
      walk_at "op"
      walk_at "st"
      refine fun g G1 g0 g1 hB1 x1 => ?_
      have ml : ((many : Int) + 1).natAbs.log2 < 9000 := Nat.lt_of_le_of_lt (Nat.log2_le_self _) (by omega)
      refine ⟨rfl, ?_⟩
      walk_at "st"
      refine fun q G2 q0 q1 hB2 x2 => ?_
      have xG2 := ((Same.ext sm p).trans x1).trans x2
      have hLL2 := (hLL.ext x1 nCp).ext x2 nCp
      refine ⟨q, rfl, by omega, by omega, ?_⟩
      refine fR (fun i σ G3 => Ext p H G3 ∧ Bag G3 p ∧ (∃ u6 u7, σ = [some (.ref p), some (.ref ah), some (.int many), some (.int m), some (.int n), some (.ref C), u6, u7, some (.bl (decide (V.int g = V.int 0))), none]) ∧
          ∃ fl, LL G3 p C ws fl ∧ fl.length = n ∧ (∀ r ∈ fl, r.length = m) ∧ (∀ r ∈ fl, ∀ c ∈ r, 0 ≤ c) ∧ tot fl = i)
        ⟨xG2, hB2, ⟨_, _, rfl⟩, _, hLL2, List.length_replicate, fun r hr => (by rw [(List.mem_replicate.mp hr).2]; exact List.length_replicate), fun r hr c hc => (by rw [(List.mem_replicate.mp hr).2] at hc; rw [(List.mem_replicate.mp hc).2]; exact Int.le_refl 0), tot_zero n m⟩ ?_ ?_
      · rintro i σ G3 hi ⟨x3, hB3, ⟨u6, u7, rfl⟩, fl, hLL3, hl3, hm3, hp3, ht3⟩
        have mlog : (m : Int).natAbs.log2 < 9000 := Nat.lt_of_le_of_lt (Nat.log2_le_self _) (by omega)
        have nlog : (n : Int).natAbs.log2 < 9000 := Nat.lt_of_le_of_lt (Nat.log2_le_self _) (by omega)
        -- what happens once the floor is chosen
        walk_at "op"
        walk_at "st"
        have go : ∀ (fi : Int) (G4 : Hp), 0 ≤ fi → fi < n → Ext p H G4 → Bag G4 p → LL G4 p C ws fl → ∀ (Dn : Ends) (u6' g8 : Option V), (∀ G', Ext p H G' → Bag G' p → ∀ fl', LL G' p C ws fl' → fl'.length = n → (∀ r ∈ fl', r.length = m) → (∀ r ∈ fl', ∀ c ∈ r, 0 ≤ c) → tot fl' = tot fl + 1 → Dn.nx [some (.ref p), some (.ref ah), some (.int many), some (.int m), some (.int n), some (.ref C), u6', some (.int fi), g8, none] G') → 
            tAugS (tOp (rIxL K) (tVar 5) (tVar 7)) (tCall spPick [] E0 (tCons (tVar 0) (tCons (tVar 3) tNil))) (tC (V.int 1)) (rGetL K) (ipI fun i j => i + j) rSetL Dn
              [some (.ref p), some (.ref ah), some (.int many), some (.int m), some (.int n), some (.ref C), u6', some (.int fi), g8, none] G4 := fun fi G4 f0 f1 x4 hB4 hLL4 Dn u6' g8 hn => sd_core f0 f1 hm1 hm6 nCp x4 hB4 hLL4 inj fresh hl3 hm3 hp3 hn
        refine ite2 (fun c0 => ?_) (fun c0 => ?_)
        · refine go 0 G3 (by omega) (by omega) x3 hB3 hLL3 _ _ _ fun G' x' hB' fl' hLL' h1 h2 h3 h4 => ⟨x', hB', ⟨_, _, rfl⟩, fl', hLL', h1, h2, h3, ?_⟩
          rw [h4, ht3]
          omega
        · refine ⟨_, rfl, _, rfl, ?_⟩
          refine ⟨p, n, rfl, by omega, nlog, hB3, fun fi G4 f0 f1 hB4 x4 => ?_⟩
          refine go fi G4 f0 f1 (x3.trans x4) hB4 (hLL3.ext x4 nCp) _ _ _ fun G' x' hB' fl' hLL' h1 h2 h3 h4 => ⟨x', hB', ⟨_, _, rfl⟩, fl', hLL', h1, h2, h3, ?_⟩
          rw [h4, ht3]
          omega
      · rintro σ G3 ⟨x3, hB3, ⟨u6, u7, rfl⟩, fl, hLL3, hl3, hm3, hp3, ht3⟩
        walk_at "op"
        walk_at "st"
        refine ⟨⟨_, SqL.of hLL3.at_⟩, fun D' hD' => ?_⟩
        have nCD : C ≠ D' := ne_of_none hLL3.at_ hD'
        obtain ⟨uB, huB⟩ := hB3.here
        have pne3 : ∀ {S : Addr} {Z : Hp}, Same G3 Z → Z S = none → S ≠ p := fun {S Z} e z q => by
          rw [q] at z
          have := e p uB huB
          rw [z] at this
          cases this
        have rno : ∀ (l : List (List Int)), ∀ d ∈ l.map rowD, noList d = true := fun l d hd => by
          obtain ⟨r, _, rfl⟩ := List.mem_map.mp hd
          exact noList_ints _ _
        refine lI walk_list (fun j G4 => Same G3 G4 ∧ ∃ ws2, G4 D' = some (.lst ws2) ∧ Dats G4 p ws2 ((fl.take j).map rowD)) ⟨same_new hD', [], upd_same, Dats.nil⟩ (fun j G4 _ ⟨e, _⟩ => SqL.of (e _ _ hLL3.at_)) ?_ ?_
        · rintro j x G4 _ hj ⟨s4, ws2, hw2, hd2⟩ ⟨rfl, hxj⟩
          have hjl : j < fl.length := by rw [← hLL3.len]; exact hj
          obtain ⟨b, e1, e2, _⟩ := hLL3.row j fl[j] (List.getElem?_eq_getElem hjl)
          rw [hxj] at e1
          cases e1
          have wl2 : ws2.length ≤ 4 := by
            rw [hd2.1, List.length_map, List.length_take]
            omega
          walk_at "op"
          refine ⟨rfl, ?_⟩
          walk_at "st"
          refine ⟨b, _, rfl, .inl ⟨SqL.of (s4 _ _ e2), fun l hl => ?_⟩⟩
          have hw3 := (same_new (o := .tup (fl[j].map V.int)) hl) _ _ hw2
          refine ⟨ws2, hw3, small1000 (by omega), sameOff (s4.trans (same_new hl)) hD', ws2 ++ [.ref l], upd_same, ?_⟩
          have e9 : (fl.take (j + 1)).map rowD = (fl.take j).map rowD ++ [rowD fl[j]] := by
            rw [List.take_add_one, List.getElem?_eq_getElem hjl, List.map_append]
            rfl
          rw [e9]
          refine ((hd2.off hl).setL hw3 (rno _)).snoc (Dat.setL hw3 (.tup upd_same (pne3 s4 hl) (by rw [List.length_map, List.length_map]) fun i x d a b => (Dats.ints (p := p) fl[j]).2 i x d a b) (noList_ints _ _))
        · rintro G4 ⟨s4, ws2, hw2, hd2⟩
          rw [hLL3.len, List.take_length] at hd2
          walk_at "op"
          walk_at "st"
          refine ⟨D', ws2, rfl, .inl ⟨SqL.of hw2, fun t1 ht1 => ?_⟩⟩
          have nt1 := pne3 s4 ht1
          have hB5 : Bag (upd G4 t1 (.tup ws2)) p := by
            obtain ⟨b1, b2, b3, e⟩ := hB3
            exact ⟨b1, b2, b3, (s4.trans (same_new ht1)) _ _ e⟩
          walk_at "st"
          refine fun o G6 o0 o1 hB6 x6 => ?_
          walk_at "st"
          refine ⟨by show 1 ≤ sizeLine; decide, fun t2 ht2 => ?_⟩
          have nt2 := hB6.ne ht2
          have ht16 := x6 _ _ (upd_same (H := G4) (a := t1) (o := .tup ws2)) nt1
          have hwl : ws2.length = n := by rw [hd2.1, List.length_map, hl3]
          refine ⟨t1, t2, ws2, _, rfl, rfl, SqT.of (by rw [upd_ne (ne_of_none ht16 ht2)]; exact ht16), SqT.of upd_same, len_le (by show _ + 1 ≤ 1000; omega), fun e => ?_, fun _ e => (by cases e), fun _ _ r hr => ?_⟩
          · rw [e] at hwl
            have : ([] : List V).length = 0 := rfl
            omega
          · have nr := (hB6.up (o := .tup [.int o]) nt2).ne hr
            have hd6 : Dats (upd G6 t2 (.tup [.int o])) p ws2 (fl.map rowD) := (((hd2.off ht1).ext x6).off ht2)
            refine k _ _ fl o ((hB6.up nt2).up nr) ((((x3.trans (Same.ext s4 p)).trans (ext_new ht1)).trans x6).trans ((ext_new ht2).trans (ext_new hr))) (Dat.new hr nr.symm (hd6.snoc (.int o))) hl3 ⟨hm3, hp3, o0⟩ (by rw [ht3]; omega) (by omega)
end
end Fm
end FSD
section FLV
set_option Elab.async false
set_option linter.all false
set_option maxRecDepth 100000
set_option maxHeartbeats 4000000
local macro_rules | `(tactic| walk_at "ne") => `(tactic| first | assumption | (apply Ne.symm; assumption) | exact L2.ne_of_none (by assumption) (by assumption) | exact Ne.symm (L2.ne_of_none (by assumption) (by assumption)))
local macro_rules | `(tactic| walk_at "hl") => `(tactic| first | assumption | exact L2.upd_same | (refine Eq.trans (L2.upd_ne (by walk_at "ne")) ?_; walk_at "hl"))
local macro_rules | `(tactic| walk_at "sd") => `(tactic| first | (with_reducible show (_ : Int) < _; omega) | (with_reducible show (_ : Int) ≤ _; omega) | assumption | decide | exact ⟨by assumption, by assumption⟩ | exact ⟨by decide, by decide⟩ | exact Or.inr ⟨by decide, by decide⟩ | exact Or.inl ⟨by omega, by omega⟩ | rfl)
local macro_rules | `(tactic| walk_at "st1") => `(tactic| first
  | refine ⟨_, rfl, ?_⟩
  | refine ⟨_, _, rfl, rfl, ?_⟩
  | refine ⟨_, _, rfl, ?_⟩
  | (refine ⟨_, _, _, _, rfl, rfl, L2.SqL.of (by walk_at "hl"), rfl, ?_⟩)
  | (refine ⟨_, _, _, _, rfl, rfl, L2.SqT.of (by walk_at "hl"), rfl, ?_⟩)
  | (refine ⟨_, _, _, _, rfl, rfl, (by walk_at "hl"), rfl, ?_⟩)
  | (refine And.intro (by walk_at "sd") ?_)
  )
local macro_rules | `(tactic| walk_at "st") => `(tactic| repeat walk_at "st1")
local macro_rules | `(tactic| walk_at "op") => `(tactic| try dsimp only [L2.tSeq, L2.tAsg, L2.tOp, L2.tVar, L2.tC, L2.gSub, L2.rI, L2.rI0, L2.rIxL, L2.rIxT, L2.rSetL, L2.tIfS, L2.tTest, L2.tRet, L2.gName, L2.tNext, L2.tAnd, L2.tOr, L2.tNot, L2.tAndV, L2.tOrV, L2.tNotV, L2.tB, L2.tCB, L2.tCons, L2.tNil, L2.tCall, L2.tTup, L2.tLst, L2.tChain, L2.tUn, L2.tPar, L2.tDrop, L2.tIf, L2.tBM, L2.tBM0, L2.rAppend, L2.rCat, L2.rIsi, L2.rIsiT, L2.gTup, L2.gCons, L2.gNil, Fm.tFor_eq, Fm.tLc_eq, L2.iTup, L2.iList, L2.iRng1, L2.iRng2, L2.tSl, L2.tPart, L2.tNoPart, L2.rSlL, L2.rEq, L2.rNe, L2.rU, L2.rEqD, L2.rNeD, Fm.tRevT, Fm.rLenS, Fm.rTupOf, Fm.rLstOf, L2.tDNewK, L2.tCallS, L2.WE, Fm.wKeep, Fm.rIsK, Fm.rIsKT, List.cons_append, List.nil_append, L2.tYes])
namespace Fm
open PySem PySem.Spec PyProof.Rows L2
section
variable {P : Program} {w : World} {K : PySem.W.Frag} {mg : Str → Option Value} {base : Heap}
abbrev σ18 (w0 w1 w2 w3 w4 w5 w6 w7 w8 w9 w10 w11 w12 w13 w14 w15 w16 w17 : Option V) : L2.St := [w0, w1, w2, w3, w4, w5, w6, w7, w8, w9, w10, w11, w12, w13, w14, w15, w16, w17]
section
variable {w0 w1 w2 w3 w4 w5 w6 w7 w8 w9 w10 w11 w12 w13 w14 w15 w16 w17 : Option V} {q D' : Addr} {H : Hp} {Qd : Hp → Prop} {L : List Int}
theorem lc_left (hq : H q = some (.lst (L.map V.int))) (hl : L.length ≤ 10) (hD' : H D' = none) (k : ∀ H', Same H H' → H' D' = some (.lst ((L.map fun s => if s - 1 > 0 then s - 1 else 0).map V.int)) → Qd H') :
    LcB (Itl K q) (gName 8) tYes (tCB (fun xs H Q => ∃ i j, xs = [V.int i, V.int j] ∧ Q (V.int (if j > i then j else i)) H) (tCons (tC (V.int 0)) (tCons (tOp (rI0 fun i j => V.int (i - j)) (tVar 8) (tC (V.int 1))) tNil))) [8]
      (σ18 w0 w1 w2 w3 w4 w5 w6 w7 w8 w9 w10 w11 w12 w13 w14 w15 w16 w17) H D' Qd := by
  have nqD : q ≠ D' := ne_of_none hq hD'
  refine lI walk_list (fun i H2 => Same H H2 ∧ ∃ T2 : List Int, H2 D' = some (.lst (T2.map V.int)) ∧ T2 = (L.map fun s => if s - 1 > 0 then s - 1 else 0).take i) 
    ⟨same_new hD', [], upd_same, rfl⟩ (fun i H2 _ ⟨e, _⟩ => SqL.of (e _ _ hq)) ?_ ?_
  · rintro i x _ H2 hi ⟨sm2, T2, hT2, e2⟩ ⟨rfl, hx⟩
    rw [List.getElem?_map] at hx
    cases es : L[i]? with
    | none => rw [es] at hx; cases hx
    | some c =>
      rw [es] at hx
      cases hx
      walk_at "op"
      refine ⟨rfl, ?_⟩
      walk_at "st"
      have hlen : T2.length ≤ 10 := by
        rw [e2, List.length_take, List.length_map]
        omega
      refine ⟨_, hT2, by rw [List.length_map]; exact small1000 (by omega), sameOff sm2 hD', T2 ++ [if c - 1 > 0 then c - 1 else 0], by rw [upd_same, List.map_append]; rfl, ?_⟩
      rw [e2, List.take_add_one, List.getElem?_map, es]
      rfl
  · rintro H2 ⟨sm2, T2, hT2, e2⟩
    rw [List.length_map, ← List.length_map (f := fun s => if s - 1 > 0 then s - 1 else 0), List.take_length] at e2
    rw [e2] at hT2
    exact k _ sm2 hT2
theorem lc_pos (hq : H q = some (.lst (L.map V.int))) (hl : L.length ≤ 10) (hD' : H D' = none) (k : ∀ H', Same H H' → H' D' = some (.lst ((L.map fun s => decide (s > 0)).map V.bl)) → Qd H') :
    LcB (Itl K q) (gName 8) tYes (tOp (rI0 fun i j => V.bl (decide (i > j))) (tVar 8) (tC (V.int 0))) [8]
      (σ18 w0 w1 w2 w3 w4 w5 w6 w7 w8 w9 w10 w11 w12 w13 w14 w15 w16 w17) H D' Qd := by
  have nqD : q ≠ D' := ne_of_none hq hD'
  refine lI walk_list (fun i H2 => Same H H2 ∧ H2 D' = some (.lst (((L.map fun s => decide (s > 0)).map V.bl).take i))) 
    ⟨same_new hD', upd_same⟩ (fun i H2 _ ⟨e, _⟩ => SqL.of (e _ _ hq)) ?_ ?_
  · rintro i x _ H2 hi ⟨sm2, hT2⟩ ⟨rfl, hx⟩
    rw [List.getElem?_map] at hx
    cases es : L[i]? with
    | none => rw [es] at hx; cases hx
    | some c =>
      rw [es] at hx
      cases hx
      walk_at "op"
      refine ⟨rfl, ?_⟩
      walk_at "st"
      refine ⟨_, hT2, small1000 (by rw [List.length_take, List.length_map, List.length_map]; omega), sameOff sm2 hD', ?_⟩
      rw [upd_same, List.take_add_one, List.getElem?_map, List.getElem?_map, es]
      rfl
  · rintro H2 ⟨sm2, hT2⟩
    rw [List.length_map, ← List.length_map (f := fun s : Int => decide (s > 0)), ← List.length_map (f := V.bl), List.take_length] at hT2
    exact k _ sm2 hT2
end
/-! ### bounds -/
theorem come_le : ∀ (r : Int) (rows : List (List Int)), 0 ≤ r → (∀ c ∈ rows, ∀ x ∈ c, 0 ≤ x) → ∀ s ∈ comeF r rows, 0 ≤ s ∧ s ≤ r + tot rows
  | r, [], _, _, s, hs => by cases hs
  | r, c :: cs, h0, h, s, hs => by
    have hc := sum_pos (h c List.mem_cons_self)
    have hcs : 0 ≤ tot cs := sum_pos fun x hx => by
      obtain ⟨d, hd, rfl⟩ := List.mem_map.mp hx
      exact sum_pos (h d (List.mem_cons_of_mem _ hd))
    have et : tot (c :: cs) = c.sum + tot cs := by unfold tot; rw [List.map_cons, List.sum_cons]
    unfold comeF at hs
    rw [et]
    rcases List.mem_cons.mp hs with rfl | hs
    · omega
    · have e : ∀ z : Int, (if c.sum + r = 0 then 0 else c.sum + r - 1) = z → 0 ≤ z ∧ z ≤ c.sum + r := fun z hz => by
        rw [← hz]
        split <;> omega
      obtain ⟨e1, e2⟩ := e _ rfl
      have := come_le _ cs e1 (fun d hd => h d (List.mem_cons_of_mem _ hd)) s hs
      omega
theorem sum_bound {B : Int} : ∀ {l : List Int}, (∀ x ∈ l, 0 ≤ x ∧ x ≤ B) → 0 ≤ l.sum ∧ l.sum ≤ l.length * B
  | [], _ => by simp
  | x :: r, h => by
    have h1 := h x List.mem_cons_self
    have h2 := sum_bound (l := r) fun y hy => h y (List.mem_cons_of_mem _ hy)
    rw [List.sum_cons, List.length_cons]
    have e : ((r.length + 1 : Nat) : Int) * B = r.length * B + B := by
      rw [show ((r.length + 1 : Nat) : Int) = (r.length : Int) + 1 from rfl, Int.add_mul, Int.one_mul]
    rw [e]
    omega
def Big (m : Nat) (rows : List (List Int)) (B : Int) : Prop := ∀ r ∈ rows, r.length = m ∧ ∀ c ∈ r, 0 ≤ c ∧ c ≤ B
theorem left_bound {m : Nat} {rows : List (List Int)} (hm : m ≤ 6) (hn : rows.length ≤ 4) (h : Big m rows (2 * 10 ^ 18)) : (leftF rows).natAbs < 10 ^ 40 := by
  have hp : ∀ c ∈ rows, ∀ x ∈ c, 0 ≤ x := fun c hc x hx => ((h c hc).2 x hx).1
  have h1 : 0 ≤ tot rows ∧ tot rows ≤ rows.length * (6 * (2 * 10 ^ 18)) := by
    unfold tot
    rw [← List.length_map (f := List.sum)]
    refine sum_bound fun x hx => ?_
    obtain ⟨c, hc, rfl⟩ := List.mem_map.mp hx
    have q := sum_bound (h c hc).2
    rw [(h c hc).1] at q
    omega
  have h2 := sum_bound (B := tot rows) (l := (comeF 0 rows).map fun s => if s - 1 > 0 then s - 1 else 0) fun x hx => by
    obtain ⟨s, hs, rfl⟩ := List.mem_map.mp hx
    have q := come_le 0 rows (Int.le_refl 0) hp s hs
    have e : ∀ z : Int, (if s - 1 > 0 then s - 1 else 0) = z → 0 ≤ z ∧ z ≤ tot rows := fun z hz => by
      rw [← hz]
      split <;> omega
    exact e _ rfl
  rw [List.length_map, comeF_len] at h2
  have h3 : (rows.length : Int) * tot rows ≤ 4 * (4 * (6 * (2 * 10 ^ 18))) := by
    have a1 : tot rows ≤ 4 * (6 * (2 * 10 ^ 18)) := by omega
    have a2 : (rows.length : Int) * tot rows ≤ 4 * tot rows := Int.mul_le_mul_of_nonneg_right (by omega) h1.1
    omega
  have h4 : 0 ≤ leftF rows ∧ leftF rows ≤ 4 * (4 * (6 * (2 * 10 ^ 18))) := ⟨h2.1, Int.le_trans h2.2 h3⟩
  omega
theorem lay_ints : ∀ ns : List Int, PyData.canLayAll0 (ns.map PyData.int) = true ∧ PyData.depthAll (ns.map PyData.int) = 0
  | [] => by simp [PyData.canLayAll0, PyData.depthAll]
  | n :: r => by
    obtain ⟨h1, h2⟩ := lay_ints r
    simp [PyData.canLayAll0, PyData.canLay0, PyData.depthAll, PyData.depth, h1, h2]
theorem shaped_ints (ns : List Int) : SeqAt.shaped (.list (ns.map PyData.int)) = true := by
  obtain ⟨h1, h2⟩ := lay_ints ns
  simp [SeqAt.shaped, PyData.canLay0, PyData.depth, h1, h2]
theorem nodict_ints (ns : List Int) : PyData.hasDictAll (ns.map PyData.int) = false := hasDict_all fun d hd => by
  obtain ⟨x, _, rfl⟩ := List.mem_map.mp hd
  simp only [PyData.hasDict]
theorem shaped_rows : ∀ fl : List (List Int), PyData.canLayAll0 (fl.map rowD) = true ∧ PyData.depthAll (fl.map rowD) ≤ 1 ∧ PyData.hasDictAll (fl.map rowD) = false
  | [] => by simp [PyData.canLayAll0, PyData.depthAll, PyData.hasDictAll]
  | c :: r => by
    obtain ⟨h1, h2, h3⟩ := shaped_rows r
    obtain ⟨g1, g2⟩ := lay_ints c
    have g3 := nodict_ints c
    refine ⟨by simp only [List.map_cons, PyData.canLayAll0, rowD, PyData.canLay0, g1, h1, Bool.and_self], ?_, by simp only [List.map_cons, PyData.hasDictAll, rowD, PyData.hasDict, g3, h3, Bool.or_self]⟩
    simp only [List.map_cons, PyData.depthAll, rowD, PyData.depth]
    omega
theorem shaped_rowsL (fl : List (List Int)) : SeqAt.shaped (.list (fl.map rowD)) = true ∧ (PyData.list (fl.map rowD)).hasDict = false := by
  obtain ⟨h1, h2, h3⟩ := shaped_rows fl
  refine ⟨?_, by simpa only [PyData.hasDict] using h3⟩
  unfold SeqAt.shaped
  rw [Bool.and_eq_true]
  refine ⟨by simpa only [PyData.canLay0] using h1, decide_eq_true ?_⟩
  simp only [PyData.depth]
  omega
theorem house_parts {H : Hp} {p : Addr} {hv : V} {hd : PyData} {m n : Nat} (hD : Dat H p hv hd) (hN : HouseN m n hd) :
    ∃ (ah a0 af : Addr) (hs y0 yf : List V), hv = .ref ah ∧ H ah = some (.tup hs) ∧ ah ≠ p ∧ hs.length = n ∧ hs[0]? = some (V.ref a0) ∧ H a0 = some (.tup y0) ∧ a0 ≠ p ∧ y0[0]? = some (V.ref af) ∧ H af = some (.tup yf) ∧ af ≠ p ∧ yf.length = m := by
  obtain ⟨fs, rfl, hfl, hn1, hn4, hm1, hm6, hFl⟩ := hN
  obtain ⟨ah, hs, rfl, hah, nah, hh⟩ := hD.isTup
  have hd0 : fs[0]? = some fs[0] := List.getElem?_eq_getElem (by omega)
  obtain ⟨s0, u0, e0, ⟨rs, e1, e2, _⟩, _⟩ := hFl fs[0] (List.getElem_mem _)
  rw [e0] at hd0
  subst e1
  obtain ⟨x0, hx0, hdx0⟩ := hh.back hd0
  obtain ⟨a0, y0, rfl, ha0, na0, hs0⟩ := hdx0.isTup
  obtain ⟨z0, hz0, hdz0⟩ := hs0.back (i := 0) rfl
  obtain ⟨af, yf, rfl, haf, naf, hsf⟩ := hdz0.isTup
  exact ⟨ah, a0, af, hs, y0, yf, rfl, hah, nah, by rw [hh.1, hfl], hx0, ha0, na0, hz0, haf, naf, by rw [hsf.1, e2]⟩
theorem Big.mono {m : Nat} {rows : List (List Int)} {B C : Int} (h : Big m rows B) (hc : B ≤ C) : Big m rows C := fun r hr => ⟨(h r hr).1, fun c hcr => ⟨((h r hr).2 c hcr).1, Int.le_trans ((h r hr).2 c hcr).2 hc⟩⟩
theorem Big.ok {m : Nat} {rows : List (List Int)} {B out : Int} (h : Big m rows B) (ho : 0 ≤ out) : StOk m rows out := ⟨fun r hr => (h r hr).1, fun r hr c hc => ((h r hr).2 c hc).1, ho⟩
theorem zip_big {A B : Int} : ∀ {a b : List Int}, (∀ x ∈ a, 0 ≤ x ∧ x ≤ A) → (∀ x ∈ b, 0 ≤ x ∧ x ≤ B) → ∀ x ∈ List.zipWith (· + ·) a b, 0 ≤ x ∧ x ≤ A + B
  | [], _, _, _, x, hx => by simp at hx
  | _ :: _, [], _, _, x, hx => by simp at hx
  | y :: a, z :: b, h1, h2, x, hx => by
    rw [List.zipWith_cons_cons] at hx
    rcases List.mem_cons.mp hx with rfl | hx
    · have q1 := h1 y List.mem_cons_self
      have q2 := h2 z List.mem_cons_self
      omega
    · exact zip_big (fun x hx => h1 x (List.mem_cons_of_mem _ hx)) (fun x hx => h2 x (List.mem_cons_of_mem _ hx)) x hx
theorem Big.add {m : Nat} {A B : Int} : ∀ {a b : List (List Int)}, Big m a A → Big m b B → Big m (addRows a b) (A + B)
  | [], _, _, _, r, hr => by unfold addRows at hr; simp at hr
  | _ :: _, [], _, _, r, hr => by unfold addRows at hr; simp at hr
  | x :: a, y :: b, h1, h2, r, hr => by
    unfold addRows at hr
    rw [List.zipWith_cons_cons] at hr
    rcases List.mem_cons.mp hr with rfl | hr
    · obtain ⟨l1, q1⟩ := h1 x List.mem_cons_self
      obtain ⟨l2, q2⟩ := h2 y List.mem_cons_self
      exact ⟨by rw [List.length_zipWith, l1, l2, Nat.min_self], zip_big q1 q2⟩
    · exact Big.add (a := a) (b := b) (fun r hr => h1 r (List.mem_cons_of_mem _ hr)) (fun r hr => h2 r (List.mem_cons_of_mem _ hr)) r hr
end
end Fm
end FLV
section FLW
set_option Elab.async false
set_option linter.all false
set_option maxRecDepth 100000
set_option maxHeartbeats 4000000
local macro_rules | `(tactic| walk_at "ne") => `(tactic| first | assumption | (apply Ne.symm; assumption) | exact L2.ne_of_none (by assumption) (by assumption) | exact Ne.symm (L2.ne_of_none (by assumption) (by assumption)))
local macro_rules | `(tactic| walk_at "hl") => `(tactic| first | assumption | exact L2.upd_same | (refine Eq.trans (L2.upd_ne (by walk_at "ne")) ?_; walk_at "hl"))
local macro_rules | `(tactic| walk_at "sd") => `(tactic| first | (with_reducible show (_ : Int) < _; omega) | (with_reducible show (_ : Int) ≤ _; omega) | assumption | decide | exact ⟨by assumption, by assumption⟩ | exact ⟨by decide, by decide⟩ | exact Or.inr ⟨by decide, by decide⟩ | exact Or.inl ⟨by omega, by omega⟩ | rfl)
local macro_rules | `(tactic| walk_at "st1") => `(tactic| first
  | refine ⟨_, rfl, ?_⟩
  | refine ⟨_, _, rfl, rfl, ?_⟩
  | refine ⟨_, _, rfl, ?_⟩
  | (refine ⟨_, _, _, _, rfl, rfl, L2.SqL.of (by walk_at "hl"), rfl, ?_⟩)
  | (refine ⟨_, _, _, _, rfl, rfl, L2.SqT.of (by walk_at "hl"), rfl, ?_⟩)
  | (refine ⟨_, _, _, _, rfl, rfl, (by walk_at "hl"), rfl, ?_⟩)
  | (refine And.intro (by walk_at "sd") ?_)
  )
local macro_rules | `(tactic| walk_at "st") => `(tactic| repeat walk_at "st1")
local macro_rules | `(tactic| walk_at "op") => `(tactic| try dsimp only [L2.tSeq, L2.tAsg, L2.tOp, L2.tVar, L2.tC, L2.gSub, L2.rI, L2.rI0, L2.rIxL, L2.rIxT, L2.rSetL, L2.tIfS, L2.tTest, L2.tRet, L2.gName, L2.tNext, L2.tAnd, L2.tOr, L2.tNot, L2.tAndV, L2.tOrV, L2.tNotV, L2.tB, L2.tCB, L2.tCons, L2.tNil, L2.tCall, L2.tTup, L2.tLst, L2.tChain, L2.tUn, L2.tPar, L2.tDrop, L2.tIf, L2.tBM, L2.tBM0, L2.rAppend, L2.rCat, L2.rIsi, L2.rIsiT, L2.gTup, L2.gCons, L2.gNil, Fm.tFor_eq, Fm.tLc_eq, L2.iTup, L2.iList, L2.iRng1, L2.iRng2, L2.tSl, L2.tPart, L2.tNoPart, L2.rSlL, L2.rEq, L2.rNe, L2.rU, L2.rEqD, L2.rNeD, Fm.tRevT, Fm.rLenS, Fm.rTupOf, Fm.rLstOf, L2.tDNewK, L2.tCallS, L2.WE, Fm.wKeep, Fm.rIsK, Fm.rIsKT, List.cons_append, List.nil_append, L2.tYes])
namespace Fm
open PySem PySem.Spec PyProof.Rows L2
abbrev s_law : Stmt := top 40
abbrev N_law : List Str := ["script", "cell", "bag", "house", "standing", "turn", "floors", "out", "many", "row", "m", "rows", "k", "floor", "great", "sums", "twice", "counts"]
theorem sc_law : FnScope N_law ["script"] (defScope s_law) := ⟨rfl, rfl, rfl, by decide +kernel, rfl, by decide +kernel, by decide +kernel⟩
section
variable {P : Program} {w : World} {K : PySem.W.Frag} {mg : Str → Option Value} {base : Heap}
theorem come_cast : ∀ (r : Nat) (ls : List Nat) (rows : List (List Int)), ls.map (fun l : Nat => (l : Int)) = rows.map List.sum → comeF r rows = (comeN r ls).map (fun s : Nat => (s : Int))
  | r, [], [], _ => rfl
  | r, [], _ :: _, h => by cases h
  | r, _ :: _, [], h => by cases h
  | r, l :: ls, c :: cs, h => by
    rw [List.map_cons, List.map_cons] at h
    injection h with h1 h2
    have ih := come_cast (l + r - 1) ls cs h2
    unfold comeF comeN
    rw [List.map_cons, ← ih, ← h1]
    have e : (if (l : Int) + (r : Int) = 0 then (0 : Int) else (l : Int) + (r : Int) - 1) = ((l + r - 1 : Nat) : Int) := by split <;> omega
    rw [e]
    simp
theorem left_cast (l : List Nat) : ((l.map (fun s : Nat => (s : Int))).map fun s => if s - 1 > 0 then s - 1 else 0).sum = ((left_ l : Nat) : Int) := by
  unfold left_
  induction l with
  | nil => rfl
  | cons x r ih =>
    rw [List.map_cons, List.map_cons, List.sum_cons, List.map_cons, List.sum_cons, ih]
    split <;> omega
theorem leftF_cast {ls : List Nat} {rows : List (List Int)} (h : ls.map (fun l : Nat => (l : Int)) = rows.map List.sum) : leftF rows = ((left_ (comeN 0 ls) : Nat) : Int) := by
  unfold leftF
  rw [show comeF 0 rows = (comeN 0 ls).map (fun s : Nat => (s : Int)) from come_cast 0 ls rows h]
  exact left_cast _
theorem pos_cast {ls : List Nat} {rows : List (List Int)} (h : ls.map (fun l : Nat => (l : Int)) = rows.map List.sum) : (comeF 0 rows).map (fun s => decide (s > 0)) = posB (comeN 0 ls) := by
  rw [show comeF 0 rows = (comeN 0 ls).map (fun s : Nat => (s : Int)) from come_cast 0 ls rows h]
  unfold posB
  rw [List.map_map]
  congr 1
  funext s
  show decide ((s : Int) > 0) = decide (0 < s)
  congr 1
  exact propext ⟨fun z => by omega, fun z => by omega⟩
theorem lens_cast {m : Nat} {rows : List (List Int)} {out : Int} (ok : StOk m rows out) : (lensOf (rows.map fun c => rowOf c m)).map (fun l : Nat => (l : Int)) = rows.map List.sum := by
  unfold lensOf
  rw [List.map_map, List.map_map]
  apply List.map_congr_left
  intro c hc
  have q := rowOf_len c (ok.pos c hc) c.length (Nat.le_refl _)
  rw [List.take_length, ok.len c hc] at q
  exact q
theorem tot_ge : ∀ {rows : List (List Int)}, (∀ r ∈ rows, ∀ c ∈ r, 0 ≤ c) → ∀ r ∈ rows, r.sum ≤ tot rows := fun {rows} h r hr => by
  unfold tot
  refine le_sum (fun x hx => ?_) (List.mem_map_of_mem hr)
  obtain ⟨c, hc, rfl⟩ := List.mem_map.mp hx
  exact sum_pos (h c hc)
theorem sum_castN (l : List Nat) : ((l.sum : Nat) : Int) = (l.map (fun x : Nat => (x : Int))).sum := by
  induction l with
  | nil => rfl
  | cons x r ih => rw [List.sum_cons, List.map_cons, List.sum_cons, ← ih]; omega
theorem fit_bools {l : List Bool} (h : l.length ≤ 10) : Fit 80 1 (.tuple (l.map PyData.bool)) := by
  have q := fit_tup (n := 5) (k := 0) (ds := l.map PyData.bool) (fun d hd => by obtain ⟨b, _, rfl⟩ := List.mem_map.mp hd; exact fit_bool b) (fun d hd => by obtain ⟨b, _, rfl⟩ := List.mem_map.mp hd; unfold noList; rfl)
  rw [List.length_map] at q
  exact q.mono (by omega) (Nat.le_refl _)
theorem dats_bools {H : Hp} {p : Addr} (l : List Bool) : Dats H p (l.map V.bl) (l.map PyData.bool) := by
  refine ⟨by simp, fun i x d a b => ?_⟩
  rw [List.getElem?_map] at a b
  cases e : l[i]? with
  | none => rw [e] at a; cases a
  | some n =>
    rw [e] at a b
    simp at a b
    subst a b
    exact .bl n
theorem both_house {b : Bool} {p : Addr} {H : Hp} {C : VK} {o : Option (Option V)} (ho : o = some (some (.ref p))) (h : spMkHouse [.ref p] H C E0) :
    if b = true then ∃ v, o = some (some v) ∧ spMkHouse [v] H C E0 else ∃ v, o = some (some v) ∧ spMkHouse [v] H C E0 := by
  split <;> exact ⟨_, ho, h⟩
def spLaw (K : PySem.W.Frag) : Sp := fun vs H Q _ => ∃ (a : Addr) (ns : List Int), vs = [.ref a] ∧ ns.length + 1 ≤ sizeLine ∧ SqL K H a (ns.map V.int) ∧ ∀ H', Q (.bl true) H'
theorem ok_law {f : Addr} {fd : FuncData} (F : Fun K "law" "law" s_law f fd) (T : Nms mg) (c_law_bag : CallOk P w K mg base CX0 1 "_law_bag" ["cell"] spBag) (c_law_pick : CallOk P w K mg base CX0 1 "_law_pick" ["bag", "many"] spPick)
    (c_law_house : CallOk P w K mg base CX0 3 "_law_house" ["bag"] spMkHouse) (c_law_fair_house : CallOk P w K mg base CX0 2 "_law_fair_house" ["bag"] spMkHouse) (c_law_standing : CallOk P w K mg base CX0 2 "_law_standing" ["bag", "house", "many"] spStanding)
    (c_law_crowd : CallOk P w K mg base CX0 1 "_law_crowd" ["standing"] spCrowd) (c_law_settled : CallOk P w K mg base CX0 2 "_law_settled" ["bag", "house", "crowd"] spSettled) (c_law_sums : CallOk P w K mg base CX0 1 "_law_sums" ["standing"] spSums)
    (c_how_long : CallOk P w K mg base CX0 8 "how_long" ["house", "standing"] (spStIn fun rows _ Q H => ∀ H', Same H H' → Q (.int (leftF rows)) H'))
    (c_who_rests : CallOk P w K mg base CX0 8 "who_rests" ["house", "standing"] (spStIn fun rows _ Q H => ∀ q H', H q = none → H' q = some (.tup ((comeF 0 rows).map fun s => V.bl (decide (s > 0)))) → Same H H' → Q (.ref q) H'))
    (c_is_rest : CallOk P w K mg base CX0 8 "is_rest" ["house", "standing"] (spStIn fun rows _ Q H => ∀ (b : Bool) H', (b = true ↔ ∀ r ∈ rows, r.sum ≤ 1) → Same H H' → Q (.bl b) H'))
    (c_together : CallOk P w K mg base (L2.CX P w) 7 "together" ["house", "one", "other"] spTogether) :
    RunG P w K mg base 9 f fd ["script"] (spLaw K) := by
    refine run_g F sc_law fun cdv A outer s H vs Q hg hr h => ?_
    obtain ⟨a, ns, rfl, hn, hS, k⟩ := h
    have nd := sc_law.nd
    refine ⟨_, (pss_cons (ps_for PassesOwn.never rfl (pi_list (pe_op op_cat (pe_slice (r := rSlL K) sl_list (pv 0) po_none (po_some pe_int)) (pe_lst (pa_cons pe_int pa_nil)))) (pg_name (i := 1) nd rfl (Or.inl rfl)) (pss_cons (ps_set (i := 2) nd rfl (Or.inr rfl) (pe_cc c_law_bag (hr.mono (by omega)) (pa_cons (pv 1) pa_nil)))
      (pss_cons (ps_set (i := 3) nd rfl (Or.inl rfl) (pe_ifExp (pt_cmpR op_eq (pe_cc c_law_pick (hr.mono (by omega)) (pa_cons (pv 2) (pa_cons pe_int pa_nil))) pe_int (nomark _)) (pe_cc c_law_house (hr.mono (by omega)) (pa_cons (pv 2) pa_nil)) (pe_cc c_law_fair_house (hr.mono (by omega)) (pa_cons (pv 2) pa_nil))))
      (pss_cons (ps_set (i := 4) nd rfl (Or.inl rfl) (pe_cc c_law_standing (hr.mono (by omega)) (pa_cons (pv 2) (pa_cons (pv 3) (pa_cons pe_int pa_nil)))))
      (pss_cons (ps_for PassesOwn.never rfl (pi_range1 rfl T.n_range (pa_cons pe_int pa_nil)) (pg_name (i := 5) nd rfl (Or.inl rfl)) (pss_cons (ps_asg (pe_cc c_law_settled (hr.mono (by omega)) (pa_cons (pv 2) (pa_cons (pv 3) (pa_cons (pe_cc c_law_crowd (hr.mono (by omega)) (pa_cons (pv 4) pa_nil)) pa_nil)))) (pg_tup rfl (pgs_cons (pg_tup rfl (pgs_cons (pg_name (i := 6) nd rfl (Or.inl rfl)) (pgs_cons (pg_name (i := 7) nd rfl (Or.inl rfl)) pgs_nil))) (pgs_cons (pg_name (i := 8) nd rfl (Or.inl rfl)) pgs_nil))))
      (pss_cons (ps_if (pt_cmpR op_ne (pe_callB (call_repr hg hr.units) (by rfl) T.n_repr (by decide +kernel) (pa_cons (pe_cc c_how_long (hr.mono (by omega)) (pa_cons (pv 3) (pa_cons (pv 4) pa_nil))) pa_nil)) (pe_callB (call_repr hg hr.units) (by rfl) T.n_repr (by decide +kernel) (pa_cons (pv 8) pa_nil)) (nomark _)) (pss_one (ps_ret pe_bl)) pss_nil)
      (pss_one (ps_if (pt_cmpR op_ne (pe_callB (call_repr hg hr.units) (by rfl) T.n_repr (by decide +kernel) (pa_cons (pe_cc c_who_rests (hr.mono (by omega)) (pa_cons (pv 3) (pa_cons (pv 4) pa_nil))) pa_nil)) (pe_callB (call_repr hg hr.units) (by rfl) T.n_repr (by decide +kernel) (pa_cons (pe_callTy (r := rTupOf K) call_tupOf (by rfl) T.n_tuple (by decide +kernel) (pa_cons (pe_lc (own := [("row", 9)]) (g := (gName 9)) (tt := tYes) (by rfl) nd (pi_list (pv 6)) (blkOk_by (own := [("row", 9)]) (N := N_law) (sc := defScope s_law) (by decide +kernel)) (fun _ _ _ _ _ => (pg_name (i := 9) nd rfl (Or.inl rfl))) (fun _ _ _ _ _ => pts_nil) (fun _ _ _ _ _ => (pe_cmpR (r := rNeD K) (op_neD hr.units) (pv 9) (pe_lst pa_nil) (nomark _)))) pa_nil)) pa_nil)) (nomark _)) (pss_one (ps_ret pe_bl)) pss_nil)))))
      (pss_cons (ps_set (i := 10) nd rfl (Or.inr rfl) (pe_callB (r := rLenS K) call_lenS (by rfl) T.n_len (by decide +kernel) (pa_cons (pe_ix (r := rIxT K) ix_tup (pe_ix (r := rIxT K) ix_tup (pv 3) pe_int (fun _ _ => rfl)) pe_int (fun _ _ => rfl)) pa_nil)))
      (pss_cons (ps_setLc (i := 11) (own := [("floor", 13)]) (g := (gName 13)) (tt := tYes) (by rfl) nd rfl rfl (sw_true rfl rfl rfl (by decide +kernel)) (pi_tup (pv 3)) (blkOk_by (own := [("floor", 13)]) (N := N_law) (sc := defScope s_law) (by decide +kernel)) (fun _ _ _ _ _ => (pg_name (i := 13) nd rfl (Or.inl rfl))) (fun _ _ _ _ _ => pts_nil) (fun _ _ _ _ _ => (pe_callTy (r := rTupOf K) call_tupOf (by rfl) T.n_tuple (by decide +kernel) (pa_cons (pe_lc (own := [("k", 12)]) (g := (gName 12)) (tt := tYes) (by rfl) nd (pi_range1 rfl T.n_range (pa_cons (pv 10) pa_nil)) (blkOk_by (own := [("k", 12)]) (N := N_law) (sc := relS _ (defScope s_law)) (by decide +kernel)) (fun _ _ _ _ _ => (pg_name (i := 12) nd rfl (Or.inl rfl))) (fun _ _ _ _ _ => pts_nil) (fun _ _ _ _ _ => (pe_cc c_law_pick (hr.mono (by omega)) (pa_cons (pv 2) (pa_cons (pe_ix (r := rIxL K) ix_list (pe_lst (pa_cons pe_int (pa_cons (pe_op op_pow pe_int pe_int) pa_nil))) (pe_cc c_law_pick (hr.mono (by omega)) (pa_cons (pv 2) (pa_cons pe_int pa_nil))) (fun _ _ => rfl)) pa_nil))))) pa_nil))))
      (pss_cons (ps_set (i := 14) nd rfl (Or.inl rfl) (pe_op (r := rCatA K) op_catA (pe_callTy (r := rTupOf K) call_tupOf (by rfl) T.n_tuple (by decide +kernel) (pa_cons (pv 11) pa_nil)) (pe_tup (pa_cons pe_int pa_nil))))
      (pss_cons (ps_set (i := 15) nd rfl (Or.inl rfl) (pe_cc c_law_sums (hr.mono (by omega)) (pa_cons (pv 14) pa_nil)))
      (pss_cons (ps_if (pt_cmpR op_ne (pe_callB (call_repr hg hr.units) (by rfl) T.n_repr (by decide +kernel) (pa_cons (pe_cc c_how_long (hr.mono (by omega)) (pa_cons (pv 3) (pa_cons (pv 14) pa_nil))) pa_nil)) (pe_callB (call_repr hg hr.units) (by rfl) T.n_repr (by decide +kernel) (pa_cons (pe_callB (r := rSumI K) (cr_sumI rfl) (by rfl) T.n_sum (by decide +kernel) (pa_cons (pe_lc (own := [("many", 8)]) (g := (gName 8)) (tt := tYes) (by rfl) nd (pi_list (pv 15)) (blkOk_by (own := [("many", 8)]) (N := N_law) (sc := defScope s_law) (by decide +kernel)) (fun _ _ _ _ _ => (pg_name (i := 8) nd rfl (Or.inl rfl))) (fun _ _ _ _ _ => pts_nil) (fun _ _ _ _ _ => (pe_callB (call_max2 rfl) (by rfl) T.n_max (by decide +kernel) (pa_cons pe_int (pa_cons (pe_op op_sub (pv 8) pe_int) pa_nil))))) pa_nil)) pa_nil)) (nomark _)) (pss_one (ps_ret pe_bl)) pss_nil)
      (pss_cons (ps_if (pt_cmpR op_ne (pe_callB (call_repr hg hr.units) (by rfl) T.n_repr (by decide +kernel) (pa_cons (pe_cc c_who_rests (hr.mono (by omega)) (pa_cons (pv 3) (pa_cons (pv 14) pa_nil))) pa_nil)) (pe_callB (call_repr hg hr.units) (by rfl) T.n_repr (by decide +kernel) (pa_cons (pe_callTy (r := rTupOf K) call_tupOf (by rfl) T.n_tuple (by decide +kernel) (pa_cons (pe_lc (own := [("many", 8)]) (g := (gName 8)) (tt := tYes) (by rfl) nd (pi_list (pv 15)) (blkOk_by (own := [("many", 8)]) (N := N_law) (sc := defScope s_law) (by decide +kernel)) (fun _ _ _ _ _ => (pg_name (i := 8) nd rfl (Or.inl rfl))) (fun _ _ _ _ _ => pts_nil) (fun _ _ _ _ _ => (pe_cmpR op_gt (pv 8) pe_int (nomark _)))) pa_nil)) pa_nil)) (nomark _)) (pss_one (ps_ret pe_bl)) pss_nil)
      (pss_cons (ps_set (i := 16) nd rfl (Or.inl rfl) (pe_cx c_together (hr.mono (by omega)) (pa_cons (pv 3) (pa_cons (pv 14) (pa_cons (pv 14) pa_nil)))))
      (pss_cons (ps_set (i := 15) nd rfl (Or.inl rfl) (pe_cc c_law_sums (hr.mono (by omega)) (pa_cons (pv 16) pa_nil)))
      (pss_cons (ps_if (pt_cmpR op_ne (pe_callB (call_repr hg hr.units) (by rfl) T.n_repr (by decide +kernel) (pa_cons (pe_cc c_how_long (hr.mono (by omega)) (pa_cons (pv 3) (pa_cons (pv 16) pa_nil))) pa_nil)) (pe_callB (call_repr hg hr.units) (by rfl) T.n_repr (by decide +kernel) (pa_cons (pe_callB (r := rSumI K) (cr_sumI rfl) (by rfl) T.n_sum (by decide +kernel) (pa_cons (pe_lc (own := [("many", 8)]) (g := (gName 8)) (tt := tYes) (by rfl) nd (pi_list (pv 15)) (blkOk_by (own := [("many", 8)]) (N := N_law) (sc := defScope s_law) (by decide +kernel)) (fun _ _ _ _ _ => (pg_name (i := 8) nd rfl (Or.inl rfl))) (fun _ _ _ _ _ => pts_nil) (fun _ _ _ _ _ => (pe_callB (call_max2 rfl) (by rfl) T.n_max (by decide +kernel) (pa_cons pe_int (pa_cons (pe_op op_sub (pv 8) pe_int) pa_nil))))) pa_nil)) pa_nil)) (nomark _)) (pss_one (ps_ret pe_bl)) pss_nil)
      (pss_cons (ps_if (pt_cmpR op_ne (pe_callB (call_repr hg hr.units) (by rfl) T.n_repr (by decide +kernel) (pa_cons (pe_cc c_who_rests (hr.mono (by omega)) (pa_cons (pv 3) (pa_cons (pv 16) pa_nil))) pa_nil)) (pe_callB (call_repr hg hr.units) (by rfl) T.n_repr (by decide +kernel) (pa_cons (pe_callTy (r := rTupOf K) call_tupOf (by rfl) T.n_tuple (by decide +kernel) (pa_cons (pe_lc (own := [("many", 8)]) (g := (gName 8)) (tt := tYes) (by rfl) nd (pi_list (pv 15)) (blkOk_by (own := [("many", 8)]) (N := N_law) (sc := defScope s_law) (by decide +kernel)) (fun _ _ _ _ _ => (pg_name (i := 8) nd rfl (Or.inl rfl))) (fun _ _ _ _ _ => pts_nil) (fun _ _ _ _ _ => (pe_cmpR op_gt (pv 8) pe_int (nomark _)))) pa_nil)) pa_nil)) (nomark _)) (pss_one (ps_ret pe_bl)) pss_nil)
      (pss_one (ps_if (pt_cmpR op_ne (pe_callB (call_repr hg hr.units) (by rfl) T.n_repr (by decide +kernel) (pa_cons (pe_cc c_is_rest (hr.mono (by omega)) (pa_cons (pv 3) (pa_cons (pv 16) pa_nil))) pa_nil)) (pe_callB (call_repr hg hr.units) (by rfl) T.n_repr (by decide +kernel) (pa_cons (pe_cmpR (r := rEqD K) (op_eqD hr.units) (pe_lc (own := [("counts", 17)]) (g := (gName 17)) (by rfl) nd (pi_tup (pe_slice (r := rSlA K) sl_tupA (pv 16) po_none (po_some (pe_un un_neg pe_int)))) (blkOk_by (own := [("counts", 17)]) (N := N_law) (sc := defScope s_law) (by decide +kernel)) (fun _ _ _ _ _ => (pg_name (i := 17) nd rfl (Or.inl rfl))) (fun _ _ _ _ _ => (pts_one (pt_cmpR op_gt (pe_callB (r := rSumI K) (cr_sumI rfl) (by rfl) T.n_sum (by decide +kernel) (pa_cons (pv 17) pa_nil)) pe_int (nomark _)))) (fun _ _ _ _ _ => (pv 17))) (pe_lst pa_nil) (nomark _)) pa_nil)) (nomark _)) (pss_one (ps_ret pe_bl)) pss_nil)))))))))))))))))
      (pss_one (ps_ret pe_bl))), ?_⟩
    walk_at "op"
    walk_at "st"
    refine ⟨a, _, rfl, hS, fun S1 h1 => ?_⟩
    refine ⟨by show 1 ≤ sizeLine; decide, fun S2 h2 => ?_⟩
    have S12 : S1 ≠ S2 := ne_of_none upd_same h2
    have lz : (cutV (ns.map V.int) none (some 14)).length + [V.int 0].length ≤ sizeLine := by
      unfold cutV
      rw [List.length_take, List.length_drop, List.length_map]
      show _ + 1 ≤ _
      omega
    have cells : ∀ x ∈ cutV (ns.map V.int) none (some 14) ++ [V.int 0], ∃ c, x = V.int c := fun x hx => by
      rcases List.mem_append.mp hx with hx | hx
      · obtain ⟨c, _, rfl⟩ := List.mem_map.mp (List.mem_of_mem_drop (List.mem_of_mem_take hx))
        exact ⟨c, rfl⟩
      · simp only [List.mem_cons, List.not_mem_nil, or_false] at hx
        exact ⟨0, hx⟩
    refine ⟨_, _, _, _, rfl, rfl, by rw [upd_ne S12]; exact upd_same, upd_same, lz, fun S h3 => ?_⟩
    generalize cutV (ns.map V.int) none (some 14) ++ [V.int 0] = zs at cells ⊢
    have hS3 : upd (upd (upd H S1 (.lst (cutV (ns.map V.int) none (some 14)))) S2 (.lst [.int 0])) S (.lst zs) S = some (.lst zs) := upd_same
    generalize upd (upd (upd H S1 (.lst (cutV (ns.map V.int) none (some 14)))) S2 (.lst [.int 0])) S (.lst zs) = H3 at hS3 ⊢
    refine ⟨S, rfl, ⟨_, SqL.of hS3⟩, ?_⟩
    refine fL (fun i σ H4 => H4 S = some (.lst zs) ∧ ∃ u1 u2 u3 u4 u5 u6 u7 u8 u9 u10 u11 u12 u13 u14 u15 u16 u17, σ = [some (.ref a), u1, u2, u3, u4, u5, u6, u7, u8, u9, u10, u11, u12, u13, u14, u15, u16, u17]) ⟨hS3, _, _, _, _, _, _, _, _, _, _, _, _, _, _, _, _, _, rfl⟩ (fun i σ H4 _ hp => SqL.of hp.1) ?_ ?_
    · rintro i x σ H4 hi ⟨hS4, u1, u2, u3, u4, u5, u6, u7, u8, u9, u10, u11, u12, u13, u14, u15, u16, u17, rfl⟩
      obtain ⟨c, rfl⟩ := cells x (List.mem_of_getElem? hi)
      clear hi
      walk_at "op"
      walk_at "st"
      refine fun p H5 hp hB5 s5 => ?_
      have Sp0 : S ≠ p := ne_of_none hS4 hp
      have hS5 := s5 _ _ hS4
      walk_at "st"
      refine fun way H6 w0 w1 hB6 x6 => ?_
      have hS6 := x6 _ _ hS5 Sp0
      refine ⟨rfl, ?_⟩
      refine ⟨_, rfl, ?_⟩
      refine both_house rfl ⟨p, rfl, hB6, fun hv hd m n H7 hB7 x7 hD7 hN => ?_⟩
      have hS7 := x7 _ _ hS6 Sp0
      walk_at "st"
      refine ⟨p, hv, hd, m, n, 30, rfl, hB7, hD7, hN, by decide, fun sv H8 rows out hB8 x8 hD8 hrn ok htot hout => ?_⟩
      have hS8 := x8 _ _ hS7 Sp0
      have hH8 := hD7.ext x8
      obtain ⟨hfs, hdt, hfl, hn1, hn4, hm1, hm6, hFl⟩ := id hN
      have hr30 : ∀ r ∈ rows, r.sum ≤ 30 := fun r hr => Int.le_trans (tot_ge ok.pos r hr) htot
      have hlc := lens_cast ok
      generalize hls : lensOf (rows.map fun c => rowOf c m) = ls at hlc
      have hls30 : ls.sum ≤ 30 := by
        have q := sum_castN ls
        rw [hlc] at q
        have : (rows.map List.sum).sum = tot rows := rfl
        omega
      clear hS3 h1 h2 h3 hS4 hS5 hS6 hS7
      walk_at "st"
      refine fR (fun i σ H9 => H9 S = some (.lst zs) ∧ Bag H9 p ∧ Ext p H8 H9 ∧ ∃ u5 u6 u7 u8 u9 u10 u11 u12 u13 u14 u15 u16 u17, σ = [some (.ref a), some (.int c), some (.ref p), some hv, some sv, u5, u6, u7, u8, u9, u10, u11, u12, u13, u14, u15, u16, u17])
        ⟨hS8, hB8, Ext.refl p H8, _, _, _, _, _, _, _, _, _, _, _, _, _, rfl⟩ ?_ ?_
      · rintro i σ H9 _ ⟨hS9, hB9, x9, v5, v6, v7, v8, v9, v10, v11, v12, v13, v14, v15, v16, v17, rfl⟩
        obtain ⟨u, hu⟩ := hB9.here
        walk_at "op"
        walk_at "st"
        refine ⟨sv, p, u, rows, out, m, rfl, hu, hD8.ext x9, by omega, hm1, hm6, ok, fun r hr => Int.le_trans (hr30 r hr) (by decide), fun cv H10 hC10 s10 => ?_⟩
        have hB10 : Bag H10 p := by
          obtain ⟨b1, b2, b3, e⟩ := hB9
          exact ⟨b1, b2, b3, s10 _ _ e⟩
        walk_at "st"
        refine ⟨p, hv, cv, hd, m, n, _, out, rfl, hB10, (hH8.ext x9).same s10, hN, hC10, by rw [List.length_map, hrn], fun r hr e he => ?_, by rw [hls]; omega, fun q H11 x fl' out' hB11 x11 nq hq11 hF11 hl11 hpos => ?_⟩
        · obtain ⟨c', _, rfl⟩ := List.mem_map.mp hr
          exact rowOf_in c' m e he
        rw [hls] at hq11 hpos
        have x911 : Ext p H9 H11 := (Same.ext s10 p).trans x11
        obtain ⟨ac, F', ws, rfl, hac, nac, hF', nF', hW⟩ := crowd_parts hF11
        refine ⟨q, _, rfl, SqT.of hq11, rfl, _, _, rfl, ⟨ac, _, rfl, SqT.of hac, rfl, _, _, rfl, _, _, rfl, rfl, ?_⟩⟩
        refine ⟨_, _, rfl, rfl, ?_⟩
        walk_at "st"
        have x8_11 : Ext p H8 H11 := x9.trans x911
        have hH11 := hH8.ext x8_11
        have hD11 := hD8.ext x8_11
        refine ⟨hv, sv, p, p, hd, m, n, rows, out, rfl, hH11, hN, hD11, hrn, ok, fun H12 s12 => ?_⟩
        have hfit : (leftF rows).natAbs < 10 ^ 40 := left_bound hm6 (by omega) fun r hr => ⟨ok.len r hr, fun c hc => ⟨ok.pos r hr c hc, Int.le_trans (le_sum (ok.pos r hr) hc) (Int.le_trans (hr30 r hr) (by decide))⟩⟩
        have hlf := leftF_cast hlc
        walk_at "st"
        refine ⟨.int (leftF rows), p, .int (leftF rows), _, _, rfl, .int _, fit_int hfit, by decide, by decide, ?_⟩
        walk_at "st"
        refine ⟨.int _, p, .int _, _, _, rfl, .int _, fit_int (by rw [← hlf]; exact hfit), by decide, by decide, ?_⟩
        refine ⟨rfl, ?_⟩
        rw [hlf, decide_eq_true rfl]
        refine ⟨_, rfl, iteF ?_⟩
        have hB12 : Bag H12 p := by
          obtain ⟨b1, b2, b3, e⟩ := hB11
          exact ⟨b1, b2, b3, s12 _ _ e⟩
        walk_at "op"
        walk_at "st"
        refine ⟨hv, sv, p, p, hd, m, n, rows, out, rfl, hH11.same s12, hN, hD11.same s12, hrn, ok, fun q2 H13 hq2 hq2' s13 => ?_⟩
        obtain ⟨uB, huB⟩ := hB12.here
        have nq2 : q2 ≠ p := fun z => by rw [z, huB] at hq2; cases hq2
        have hpl : (posB (comeN 0 ls)).length ≤ 10 := by
          rw [← hpos]
          unfold posB lensOf
          rw [List.length_map, List.length_map]
          omega
        have dq2 : Dat H13 p (.ref q2) (.tuple ((posB (comeN 0 ls)).map PyData.bool)) := by
          rw [← pos_cast hlc]
          refine .tup hq2' nq2 (by simp) fun i x d e1 e2 => ?_
          rw [show ((comeF 0 rows).map fun s => V.bl (decide (s > 0))) = ((comeF 0 rows).map fun s => decide (s > 0)).map V.bl from (by rw [List.map_map]; rfl)] at e1
          exact (dats_bools _).2 i x d e1 e2
        walk_at "st"
        refine ⟨.ref q2, p, _, _, _, rfl, dq2, fit_bools hpl, by decide, by decide, ?_⟩
        walk_at "st"
        have s11_13 : Same H11 H13 := s12.trans s13
        have hF13 := s11_13 _ _ hF'
        refine ⟨⟨_, SqL.of hF13⟩, fun D' hD' => ?_⟩
        have hlw : ws.length = fl'.length := by rw [hW.1, List.length_map]
        refine lI walk_list (fun j G => Same H13 G ∧ G D' = some (.lst (((posB (lensOf fl')).map V.bl).take j))) ⟨same_new hD', upd_same⟩ (fun j G _ ⟨e, _⟩ => SqL.of (e _ _ hF13)) ?_ ?_
        · rintro j x G _ hj ⟨sG, hG⟩ ⟨rfl, hxj⟩
          obtain ⟨e, he, hde⟩ := hW.at hxj
          rw [List.getElem?_map] at he
          cases er : fl'[j]? with
          | none => rw [er] at he; cases he
          | some c =>
            rw [er] at he
            cases he
            walk_at "op"
            refine ⟨rfl, ?_⟩
            walk_at "st"
            refine fun l hl => ?_
            have nDl : D' ≠ l := ne_of_none hG hl
            have dr := ((hde.same s11_13).same sG).off (o := .lst []) hl
            refine ⟨_, .list [], dr.dp (by unfold rowL; simp only [PyData.hasDict]; exact nodict_ints c), .lst (SqL.of upd_same) .nil, shaped_ints c, by decide, ?_⟩
            refine ⟨_, by rw [upd_ne nDl]; exact hG, small1000 (by rw [List.length_take]; omega), sameOff (sG.trans (same_new hl)) hD', ?_⟩
            have epb : (posB (lensOf fl'))[j]? = some (!PyData.eqv (rowL c) (.list [])) := by
              unfold posB lensOf rowL
              rw [eqv_nil, List.getElem?_map, List.getElem?_map, er]
              cases c <;> rfl
            rw [upd_same, List.take_add_one, List.getElem?_map, epb]
            rfl
        · rintro G ⟨sG, hG⟩
          have el : ws.length = ((posB (lensOf fl')).map V.bl).length := by
            unfold posB lensOf
            rw [hlw, List.length_map, List.length_map, List.length_map]
          rw [el, List.take_length, hpos] at hG
          refine ⟨D', _, rfl, .inl ⟨SqL.of hG, fun t ht => ?_⟩⟩
          have s12G : Same H12 G := s13.trans sG
          have nt : t ≠ p := fun z => by rw [z, s12G _ _ huB] at ht; cases ht
          refine ⟨.ref t, p, _, _, _, rfl, Dat.new ht nt (dats_bools _), fit_bools hpl, by decide, by decide, ?_⟩
          refine ⟨rfl, ?_⟩
          rw [decide_eq_true rfl]
          refine ⟨_, rfl, iteF ?_⟩
          have sE : Same H12 (upd G t (.tup ((posB (comeN 0 ls)).map V.bl))) := s12G.trans (same_new ht)
          have hS12 := s12 _ _ (x11 _ _ (s10 _ _ hS9) Sp0)
          refine ⟨sE _ _ hS12, ?_, (x8_11.trans (Same.ext s12 p)).trans (Same.ext sE p), _, _, _, _, _, _, _, _, _, _, _, _, _, rfl⟩
          obtain ⟨b1, b2, b3, e⟩ := hB12
          exact ⟨b1, b2, b3, sE _ _ e⟩
      · rintro σ H9 ⟨hS9, hB9, x9, v5, v6, v7, v8, v9, v10, v11, v12, v13, v14, v15, v16, v17, rfl⟩
        clear hlc hls hls30 hr30 hfl hFl ok htot hrn hD8
        have hH9 := hH8.ext x9
        obtain ⟨ah, a0, af, hs, y0, yf, rfl, g1, ng1, g2, g3, g4, ng4, g5, g6, ng6, g7⟩ := house_parts hH9 hN
        walk_at "op"
        walk_at "st"
        refine ⟨_, _, _, _, rfl, rfl, SqT.of g1, atI_nat (j := 0) g3, ?_⟩
        walk_at "st"
        refine ⟨_, _, _, _, rfl, rfl, SqT.of g4, atI_nat (j := 0) g5, ?_⟩
        refine ⟨_, _, rfl, .inr (SqT.of g6), ?_⟩
        rw [g7]
        walk_at "op"
        walk_at "st"
        refine ⟨⟨_, SqT.of g1⟩, fun D1 hD1 => ?_⟩
        have nD1 := hB9.ne hD1
        have rno : ∀ (l : List (List Int)), ∀ d ∈ l.map rowD, noList d = true := fun l d hd => by
          obtain ⟨r, _, rfl⟩ := List.mem_map.mp hd
          exact noList_ints _ _
        have E18 : (10 : Int) ^ 18 = 1000000000000000000 := by decide
        refine lI walk_tup (fun j G => Bag G p ∧ Ext p H9 G ∧ ∃ (rs : List (List Int)) (ws : List V), G D1 = some (.lst ws) ∧ Dats G p ws (rs.map rowD) ∧ rs.length = j ∧ Big m rs (10 ^ 18))
          ⟨hB9.up nD1, ext_new hD1, [], [], upd_same, Dats.nil, rfl, fun r hr => by cases hr⟩ (fun j G _ ⟨_, e, _⟩ => SqT.of (e _ _ g1 ng1)) ?_ ?_
        · rintro j x _ G hj ⟨hBG, xG, rs, ws, hws, hDs, hrl, hbig⟩ ⟨rfl, hxj⟩
          walk_at "op"
          refine ⟨rfl, ?_⟩
          walk_at "st"
          refine fun D2 hD2 => ?_
          rw [Int.toNat_natCast]
          have nD2 := hBG.ne hD2
          have n12 : D1 ≠ D2 := ne_of_none hws hD2
          refine lR (fun i G2 => Bag G2 p ∧ Ext p G G2 ∧ ∃ cs : List Int, G2 D2 = some (.lst (cs.map V.int)) ∧ cs.length = i ∧ ∀ c ∈ cs, 0 ≤ c ∧ c ≤ 10 ^ 18)
            ⟨hBG.up nD2, ext_new hD2, [], upd_same, rfl, fun c hc => by cases hc⟩ ?_ ?_
          · rintro i G2 hi ⟨hB2, x2, cs, hcs, hcl, hcb⟩
            walk_at "op"
            refine ⟨rfl, ?_⟩
            walk_at "st"
            refine fun l hl => ?_
            have nl := hB2.ne hl
            have n2l : D2 ≠ l := ne_of_none hcs hl
            have hBl := hB2.up (o := .lst [.int 2, .int (10 ^ Int.toNat 18)]) nl
            walk_at "st"
            refine fun k0 G3 k00 k02 hB3 x3 => ?_
            obtain ⟨z, hz, z1, z2⟩ : ∃ z : Int, atI [V.int 2, V.int (10 ^ Int.toNat 18)] k0 = some (.int z) ∧ 1 ≤ z ∧ z ≤ 10 ^ 18 := by
              rcases (show k0 = 0 ∨ k0 = 1 by omega) with rfl | rfl
              · exact ⟨2, rfl, by decide, by decide⟩
              · exact ⟨10 ^ Int.toNat 18, rfl, by decide, by decide⟩
            have zl : z.natAbs.log2 < 9000 := by
              have q := PySem.Flt.log2_lt_of (by decide : 0 < 60) (show z.natAbs < 2 ^ 60 by have : (2 : Nat) ^ 60 = 1152921504606846976 := by decide
                                                                                             omega)
              omega
            refine ⟨l, _, k0, _, rfl, rfl, SqL.of (x3 _ _ upd_same nl.symm), hz, ?_⟩
            refine ⟨p, z, rfl, by omega, zl, hB3, fun y G4 y0 y1 hB4 x4 => ?_⟩
            have hcs4 := x4 _ _ (x3 _ _ ((same_new (o := .lst [.int 2, .int (10 ^ Int.toNat 18)]) hl) _ _ hcs) nD2.symm) nD2.symm
            refine ⟨_, hcs4, by rw [List.length_map]; exact small1000 (by omega), hB4.up nD2, (((x2.trans (ext_new hl)).trans x3).trans x4).off hD2, cs ++ [y], by rw [upd_same, List.map_append]; rfl, by rw [List.length_append, hcl]; rfl, fun c hc => ?_⟩
            rcases List.mem_append.mp hc with hc | hc
            · exact hcb c hc
            · simp only [List.mem_cons, List.not_mem_nil, or_false] at hc
              subst hc
              omega
          · rintro G2 ⟨hB2, x2, cs, hcs, hcl, hcb⟩
            walk_at "op"
            walk_at "st"
            refine ⟨D2, _, rfl, .inl ⟨SqL.of hcs, fun l hl => ?_⟩⟩
            have nl := hB2.ne hl
            have hws2 := x2 _ _ hws nD1.symm
            have hws3 := (same_new (o := .tup (cs.map V.int)) hl) _ _ hws2
            refine ⟨ws, hws3, small1000 (by rw [hDs.1, List.length_map, hrl]; omega), (hB2.up nl).up nD1, ((xG.trans x2).trans (ext_new hl)).off hD1, rs ++ [cs], ws ++ [.ref l], upd_same, ?_, by rw [List.length_append, hrl]; rfl, fun r hr => ?_⟩
            · rw [List.map_append]
              refine (((hDs.ext x2).off hl).setL hws3 (rno _)).snoc (Dat.setL hws3 (.tup upd_same nl.symm (by rw [List.length_map, List.length_map]) fun i x d a b => (Dats.ints (p := p) cs).2 i x d a b) (noList_ints _ _))
            · rcases List.mem_append.mp hr with hr | hr
              · exact hbig r hr
              · simp only [List.mem_cons, List.not_mem_nil, or_false] at hr
                subst hr
                exact ⟨hcl, hcb⟩
        · rintro G ⟨hBG, xG, rs, ws, hws, hDs, hrl, hbig⟩
          walk_at "op"
          walk_at "st"
          refine ⟨D1, ws, rfl, .inl ⟨SqL.of hws, fun l hl => ?_⟩⟩
          have nl := hBG.ne hl
          refine ⟨by show 1 ≤ sizeLine; decide, fun t ht => ?_⟩
          have nt := (hBG.up (o := .tup ws) nl).ne ht
          have nlt : l ≠ t := ne_of_none upd_same ht
          have hwl : ws.length = n := by rw [hDs.1, List.length_map, hrl, g2]
          refine ⟨l, t, ws, _, rfl, rfl, SqT.of (by rw [upd_ne nlt]; exact upd_same), SqT.of upd_same, len_le (by show _ + 1 ≤ 1000; omega), fun e => ?_, fun _ e => (by cases e), fun _ _ gr hgr => ?_⟩
          · rw [e] at hwl
            have : ([] : List V).length = 0 := rfl
            omega
          have ngr := ((hBG.up (o := .tup ws) nl).up (o := .tup [.int 0]) nt).ne hgr
          have hGr : Dat (upd (upd (upd G l (.tup ws)) t (.tup [.int 0])) gr (.tup (ws ++ [.int 0]))) p (.ref gr) (stD rs 0) := Dat.new hgr ngr.symm (((hDs.off hl).off ht).snoc (.int 0))
          have xE : Ext p H9 (upd (upd (upd G l (.tup ws)) t (.tup [.int 0])) gr (.tup (ws ++ [.int 0]))) := xG.trans (((ext_new hl).trans (ext_new ht)).trans (ext_new hgr))
          have hBE := ((hBG.up (o := .tup ws) nl).up (o := .tup [.int 0]) nt).up (o := .tup (ws ++ [.int 0])) ngr
          generalize upd (upd (upd G l (.tup ws)) t (.tup [.int 0])) gr (.tup (ws ++ [.int 0])) = E at hGr xE hBE ⊢
          have hSE := xE _ _ hS9 Sp0
          have hHE := hH9.ext xE
          have hrsn : rs.length = n := by rw [hrl, g2]
          clear hgr ngr ht nt hl nl hwl hDs hws hBG xG
          obtain ⟨uE, huE⟩ := hBE.here
          have ok1 : StOk m rs 0 := hbig.ok (Int.le_refl 0)
          have big1 : Big m rs (2 * 10 ^ 18) := hbig.mono (by omega)
          walk_at "st"
          have hf_1 : (leftF rs).natAbs < 10 ^ 40 := left_bound hm6 (by omega) big1
          refine ⟨.ref gr, p, rs, 0, m, rfl, hGr, by omega, ok1, fun q1 A1 hq1 hq1' sA1 => ?_⟩
          walk_at "st"
          refine ⟨.ref ah, .ref gr, p, p, hd, m, n, rs, 0, rfl, hHE.same sA1, hN, hGr.same sA1, hrsn, ok1, fun B1 sB1 => ?_⟩
          have sAB1 := sA1.trans sB1
          walk_at "st"
          refine ⟨.int (leftF rs), p, .int (leftF rs), _, _, rfl, .int _, fit_int hf_1, by decide, by decide, ?_⟩
          walk_at "st"
          refine ⟨⟨_, SqL.of (sB1 _ _ hq1')⟩, fun D1' hD1' => ?_⟩
          refine lc_left (sB1 _ _ hq1') (by rw [comeF_len]; omega) hD1' fun C1 sC1 hC1 => ?_
          refine .inl ⟨D1', _, rfl, SqL.of hC1, ?_⟩
          refine ⟨.int (leftF rs), p, .int (leftF rs), _, _, rfl, .int _, fit_int hf_1, by decide, by decide, ?_⟩
          refine ⟨rfl, ?_⟩
          rw [decide_eq_true rfl]
          refine ⟨_, rfl, iteF ?_⟩
          have sAC1 := sAB1.trans sC1
          walk_at "op"
          walk_at "st"
          refine ⟨.ref ah, .ref gr, p, p, hd, m, n, rs, 0, rfl, hHE.same sAC1, hN, hGr.same sAC1, hrsn, ok1, fun t1 F1 ht1 ht1' sF1 => ?_⟩
          have sAF1 := sAC1.trans sF1
          have nt1 : t1 ≠ p := fun z => by rw [z, sAC1 _ _ huE] at ht1; cases ht1
          have hbl1 : ((comeF 0 rs).map fun s => decide (s > 0)).length ≤ 10 := by rw [List.length_map, comeF_len]; omega
          have dt1 : Dat F1 p (.ref t1) (.tuple (((comeF 0 rs).map fun s => decide (s > 0)).map PyData.bool)) := by
            refine .tup ht1' nt1 (by simp) fun i x d e1 e2 => ?_
            rw [show ((comeF 0 rs).map fun s => V.bl (decide (s > 0))) = ((comeF 0 rs).map fun s => decide (s > 0)).map V.bl from (by rw [List.map_map]; rfl)] at e1
            exact (dats_bools _).2 i x d e1 e2
          walk_at "st"
          refine ⟨.ref t1, p, _, _, _, rfl, dt1, fit_bools hbl1, by decide, by decide, ?_⟩
          walk_at "st"
          have hq1F := (sB1.trans (sC1.trans sF1)) _ _ hq1'
          refine ⟨⟨_, SqL.of hq1F⟩, fun D1' hD1' => ?_⟩
          refine lc_pos hq1F (by rw [comeF_len]; omega) hD1' fun G1 sG1 hG1 => ?_
          refine ⟨D1', _, rfl, .inl ⟨SqL.of hG1, fun r1 hr1 => ?_⟩⟩
          have nr1 : r1 ≠ p := fun z => by rw [z, (sAF1.trans sG1) _ _ huE] at hr1; cases hr1
          refine ⟨.ref r1, p, _, _, _, rfl, Dat.new hr1 nr1 (dats_bools _), fit_bools hbl1, by decide, by decide, ?_⟩
          refine ⟨rfl, ?_⟩
          rw [decide_eq_true rfl]
          refine ⟨_, rfl, iteF ?_⟩
          have sE1 : Same E (upd G1 r1 (.tup (((comeF 0 rs).map fun s => decide (s > 0)).map V.bl))) := (sAF1.trans sG1).trans (same_new hr1)
          generalize upd G1 r1 (.tup (((comeF 0 rs).map fun s => decide (s > 0)).map V.bl)) = E1 at sE1 ⊢
          walk_at "op"
          walk_at "st"
          have hG1 := hGr.same sE1
          refine ⟨.ref ah, .ref gr, .ref gr, p, p, hd, m, n, rs, rs, 0, 0, uE, rfl, sE1 _ _ huE, hHE.same sE1, hN, hG1, hG1, hrsn, hrsn, ok1, ok1, fun tv W hT sW => ?_⟩
          have huW := sW _ _ (sE1 _ _ huE)
          have hHW := (hHE.same sE1).same sW
          have big2 : Big m (addRows rs rs) (2 * 10 ^ 18) := (hbig.add hbig).mono (by omega)
          have ok2 : StOk m (addRows rs rs) (0 + 0) := big2.ok (by decide)
          have hrs2 : (addRows rs rs).length = n := by
            unfold addRows
            rw [List.length_zipWith, hrsn, Nat.min_self]
          generalize addRows rs rs = R2 at hT big2 ok2 hrs2
          generalize (0 : Int) + 0 = o2 at hT ok2
          walk_at "st"
          have hf_2 : (leftF R2).natAbs < 10 ^ 40 := left_bound hm6 (by omega) big2
          refine ⟨tv, p, R2, o2, m, rfl, hT, by omega, ok2, fun q2 A2 hq2 hq2' sA2 => ?_⟩
          walk_at "st"
          refine ⟨.ref ah, tv, p, p, hd, m, n, R2, o2, rfl, hHW.same sA2, hN, hT.same sA2, hrs2, ok2, fun B2 sB2 => ?_⟩
          have sAB2 := sA2.trans sB2
          walk_at "st"
          refine ⟨.int (leftF R2), p, .int (leftF R2), _, _, rfl, .int _, fit_int hf_2, by decide, by decide, ?_⟩
          walk_at "st"
          refine ⟨⟨_, SqL.of (sB2 _ _ hq2')⟩, fun D2' hD2' => ?_⟩
          refine lc_left (sB2 _ _ hq2') (by rw [comeF_len]; omega) hD2' fun C2 sC2 hC2 => ?_
          refine .inl ⟨D2', _, rfl, SqL.of hC2, ?_⟩
          refine ⟨.int (leftF R2), p, .int (leftF R2), _, _, rfl, .int _, fit_int hf_2, by decide, by decide, ?_⟩
          refine ⟨rfl, ?_⟩
          rw [decide_eq_true rfl]
          refine ⟨_, rfl, iteF ?_⟩
          have sAC2 := sAB2.trans sC2
          walk_at "op"
          walk_at "st"
          refine ⟨.ref ah, tv, p, p, hd, m, n, R2, o2, rfl, hHW.same sAC2, hN, hT.same sAC2, hrs2, ok2, fun t2 F2 ht2 ht2' sF2 => ?_⟩
          have sAF2 := sAC2.trans sF2
          have nt2 : t2 ≠ p := fun z => by rw [z, sAC2 _ _ huW] at ht2; cases ht2
          have hbl2 : ((comeF 0 R2).map fun s => decide (s > 0)).length ≤ 10 := by rw [List.length_map, comeF_len]; omega
          have dt2 : Dat F2 p (.ref t2) (.tuple (((comeF 0 R2).map fun s => decide (s > 0)).map PyData.bool)) := by
            refine .tup ht2' nt2 (by simp) fun i x d e1 e2 => ?_
            rw [show ((comeF 0 R2).map fun s => V.bl (decide (s > 0))) = ((comeF 0 R2).map fun s => decide (s > 0)).map V.bl from (by rw [List.map_map]; rfl)] at e1
            exact (dats_bools _).2 i x d e1 e2
          walk_at "st"
          refine ⟨.ref t2, p, _, _, _, rfl, dt2, fit_bools hbl2, by decide, by decide, ?_⟩
          walk_at "st"
          have hq2F := (sB2.trans (sC2.trans sF2)) _ _ hq2'
          refine ⟨⟨_, SqL.of hq2F⟩, fun D2' hD2' => ?_⟩
          refine lc_pos hq2F (by rw [comeF_len]; omega) hD2' fun G2 sG2 hG2 => ?_
          refine ⟨D2', _, rfl, .inl ⟨SqL.of hG2, fun r2 hr2 => ?_⟩⟩
          have nr2 : r2 ≠ p := fun z => by rw [z, (sAF2.trans sG2) _ _ huW] at hr2; cases hr2
          refine ⟨.ref r2, p, _, _, _, rfl, Dat.new hr2 nr2 (dats_bools _), fit_bools hbl2, by decide, by decide, ?_⟩
          refine ⟨rfl, ?_⟩
          rw [decide_eq_true rfl]
          refine ⟨_, rfl, iteF ?_⟩
          have sE2 : Same W (upd G2 r2 (.tup (((comeF 0 R2).map fun s => decide (s > 0)).map V.bl))) := (sAF2.trans sG2).trans (same_new hr2)
          generalize upd G2 r2 (.tup (((comeF 0 R2).map fun s => decide (s > 0)).map V.bl)) = E2 at sE2 ⊢
          walk_at "op"
          walk_at "st"
          obtain ⟨at0, xt, rfl, hat, nat0, hxt⟩ := st_parts (hT.same sE2)
          have hHE2 := hHW.same sE2
          have hTE2 := hT.same sE2
          have huE2 := sE2 _ _ huW
          have hSE2 := sE2 _ _ (sW _ _ (sE1 _ _ hSE))
          clear hf_1 hf_2 sE1 sE2 sW hT hHW huW hG1
          refine ⟨.ref ah, .ref at0, p, p, hd, m, n, R2, o2, rfl, hHE2, hN, hTE2, hrs2, ok2, fun b Y hb sY => ?_⟩
          walk_at "st"
          refine ⟨.bl b, p, .bool b, _, _, rfl, .bl _, fit_bool _, by decide, by decide, ?_⟩
          walk_at "st"
          have hatY := sY _ _ hat
          refine sl_init (SqT.of hatY) fun qs hqs => ?_
          refine ⟨qs, rfl, ⟨_, SqT.of upd_same⟩, fun D' hD' => ?_⟩
          have nqD : qs ≠ D' := ne_of_none upd_same hD'
          have sY1 : Same Y (upd Y qs (.tup xt)) := same_new hqs
          have sE2Y : Same E2 (upd Y qs (.tup xt)) := sY.trans sY1
          have nD : D' ≠ p := fun z => by rw [z, sE2Y _ _ huE2] at hD'; cases hD'
          have hD'Y : Y D' = none := sameFree sY1 hD'
          refine lI walk_tup (fun j G => Same Y G ∧ G qs = some (.tup xt) ∧ ∃ (ws : List V) (ds : List (List Int)), G D' = some (.lst ws) ∧ Dats G p ws (ds.map rowD) ∧ ds.length ≤ j ∧ (ds = [] ↔ ∀ r ∈ R2.take j, r.sum ≤ 1))
            ⟨sameOff sY1 hD'Y, by rw [upd_ne nqD]; exact upd_same, [], [], upd_same, Dats.nil, Nat.le_refl 0, by simp⟩ (fun j G _ ⟨_, e, _⟩ => SqT.of e) ?_ ?_
          · rintro j x _ G hj ⟨sG, hqG, ws, ds, hws, hDs, hdl, hiff⟩ ⟨rfl, hxj⟩
            obtain ⟨e, he, hde⟩ := hxt.at hxj
            rw [List.getElem?_map] at he
            cases er : R2[j]? with
            | none => rw [er] at he; cases he
            | some cr =>
              rw [er] at he
              cases he
              have hde' := (hde.same sY).same sG
              obtain ⟨ac, rfl, hac, _⟩ := row_parts hde'
              have etk : R2.take (j + 1) = R2.take j ++ [cr] := by
                rw [List.take_add_one, er]
                rfl
              have hj4 : j < 4 := by
                have := (List.getElem?_eq_some_iff.mp er).1
                omega
              walk_at "op"
              refine ⟨rfl, ?_⟩
              walk_at "st"
              refine .inr ⟨ac, cr, rfl, SqT.of hac, ?_⟩
              walk_at "st"
              refine ite2 (fun c0 => ?_) (fun c0 => ?_)
              · have c1 := of_decide_eq_true c0
                walk_at "st"
                refine ⟨ws, hws, small1000 (by rw [hDs.1, List.length_map]; omega), sameOff sG hD'Y, by rw [upd_ne nqD]; exact hqG, ws ++ [.ref ac], ds ++ [cr], upd_same, ?_, by rw [List.length_append]; show _ + 1 ≤ _; omega, ?_⟩
                · rw [List.map_append]
                  exact (hDs.setL hws (rno _)).snoc (hde'.setL hws (noList_ints _ _))
                · refine ⟨fun z => by simp at z, fun z => ?_⟩
                  have := z cr (by rw [etk]; exact List.mem_append_right _ List.mem_cons_self)
                  omega
              · have c1 := of_decide_eq_false (Bool.eq_false_iff.mpr c0)
                refine ⟨sG, hqG, ws, ds, hws, hDs, by omega, hiff.trans ⟨fun z r hr => ?_, fun z r hr => z r (by rw [etk]; exact List.mem_append_left _ hr)⟩⟩
                rw [etk] at hr
                rcases List.mem_append.mp hr with hr | hr
                · exact z r hr
                · simp only [List.mem_cons, List.not_mem_nil, or_false] at hr
                  subst hr
                  omega
          · rintro G ⟨sG, hqG, ws, ds, hws, hDs, hdl, hiff⟩
            have ext : xt.length = R2.length := by rw [hxt.1, List.length_map]
            rw [ext, List.take_length] at hiff
            refine ⟨by show 0 ≤ sizeLine; omega, fun l hl => ?_⟩
            obtain ⟨h1s, h2s⟩ := shaped_rowsL ds
            have dl : Dat G p (.ref D') (.list (ds.map rowD)) := .lst hws nD hDs.1 hDs.2
            refine ⟨_, .list [], (dl.off hl).dp h2s, .lst (SqL.of upd_same) .nil, h1s, by decide, ?_⟩
            rw [eqv_nil]
            have ebb : (ds.map rowD).isEmpty = b := by
              have e1 : (ds.map rowD).isEmpty = true ↔ ds = [] := by cases ds <;> simp
              have e2 := e1.trans (hiff.trans hb.symm)
              cases b <;> cases hh : (ds.map rowD).isEmpty <;> simp_all
            rw [ebb]
            refine ⟨.bl b, p, .bool b, _, _, rfl, .bl _, fit_bool _, by decide, by decide, ?_⟩
            refine ⟨rfl, ?_⟩
            rw [decide_eq_true rfl]
            refine ⟨_, rfl, iteF ?_⟩
            exact ⟨(same_new hl) _ _ (sG _ _ (sY _ _ hSE2)), _, _, _, _, _, _, _, _, _, _, _, _, _, _, _, _, _, rfl⟩
    · rintro σ H4 ⟨_, u1, u2, u3, u4, u5, u6, u7, u8, u9, u10, u11, u12, u13, u14, u15, u16, u17, rfl⟩
      walk_at "op"
      exact k _
end
end Fm
end FLW
section FFmAll04
set_option Elab.async false
set_option linter.all false
set_option maxRecDepth 100000
set_option maxHeartbeats 4000000
namespace Fm
open PySem PySem.Spec PyProof.Rows L2
theorem df_mk {K : PySem.W.Frag} {mg : Str → Option Value} {h : Heap} {x : Str} {st : Stmt} {ps : List Str} {f : Addr} (X : K.In h) (G : h.Ns mainGlobals mg) {oc : Value} {od an : Option Addr} {osl : Array (Option Value)} {kV doc pm cdv ct : Value}
    (a : PySem.W.nsIn K mainGlobals x = some (some (.ref f))) (l : K.lookup f = some ⟨oc, od, .func (PySem.W.fnOf x x (defArgs st) (defBody st) (defScope st) .none kV doc pm an cdv ct), osl⟩)
    (c : PySem.W.codeIn K cdv x = true) (k : PySem.W.keepIn K (.ref f) = true)
    (b : ∀ (kV doc pm : Value) (an : Option Addr) (cdv ct : Value) (us : List Value), us.length = ps.length → bindArgs (PySem.W.fnOf x x (defArgs st) (defBody st) (defScope st) .none kV doc pm an cdv ct) ⟨us, []⟩ = pure (ps.zip us)) : Df K mg x st ps :=
  ⟨f, _, fun_mk l c k, PySem.W.mg_of X G a, (fun_mk l c k).binds b⟩
abbrev DfOf {K : PySem.W.Frag} {h : Heap} (_ : K.In h) (mg : Str → Option Value) (x : Str) (st : Stmt) (ps : List Str) : Prop := Df K mg x st ps
theorem law_mk {P : Program} {w : World} {K : PySem.W.Frag} {h : Heap} {mg : Str → Option Value} {fa f : Addr} (X : K.In h) (G : h.Ns mainGlobals mg) (hfa : mg "law" = some (.ref fa)) {oc : Value} {od an : Option Addr} {osl : Array (Option Value)} {kV doc pm cdv ct : Value}
    (a : PySem.W.nsIn K mainGlobals "law" = some (some (.ref f))) (l : K.lookup f = some ⟨oc, od, .func (PySem.W.fnOf "law" "law" (defArgs s_law) (defBody s_law) (defScope s_law) .none kV doc pm an cdv ct), osl⟩)
    (c : PySem.W.codeIn K cdv "law" = true) (k : PySem.W.keepIn K (.ref f) = true) (T : Nms mg)
    (Ds_is_whole : Df K mg "is_whole" s_is_whole ["thing"])
    (Ds_is_up_to : Df K mg "is_up_to" s_is_up_to ["thing", "most"])
    (Ds_is_tuple_of : Df K mg "is_tuple_of" s_is_tuple_of ["thing", "many"])
    (Ds_are_up_to : Df K mg "are_up_to" s_are_up_to ["thing", "many", "most"])
    (Ds_is_house : Df K mg "is_house" s_is_house ["thing"])
    (Ds_is_table : Df K mg "is_table" s_is_table ["thing", "m"])
    (Ds_size : Df K mg "size" s_size ["house"])
    (Ds_has_form : Df K mg "has_form" s_has_form ["thing", "m", "floors", "most"])
    (Ds_check_standing : Df K mg "check_standing" s_check_standing ["house", "standing"])
    (Ds_is_rest : Df K mg "is_rest" s_is_rest ["house", "standing"])
    (Ds_is_still : Df K mg "is_still" s_is_still ["standing"])
    (Ds_how_long : Df K mg "how_long" s_how_long ["house", "standing"])
    (Ds_meetings_left : Df K mg "meetings_left" s_meetings_left ["standing"])
    (Ds_who_rests : Df K mg "who_rests" s_who_rests ["house", "standing"])
    (Ds_coming : Df K mg "coming" s_coming ["standing"])
    (Ds_together : Df K mg "together" s_together ["house", "one", "other"])
    (Ds_added : Df K mg "added" s_added ["counts", "more"])
    (Ds_law_bag : Df K mg "_law_bag" s_law_bag ["cell"])
    (Ds_law_pick : Df K mg "_law_pick" s_law_pick ["bag", "many"])
    (Ds_law_table : Df K mg "_law_table" s_law_table ["bag", "m"])
    (Ds_law_up : Df K mg "_law_up" s_law_up ["bag", "m", "stay"])
    (Ds_law_house : Df K mg "_law_house" s_law_house ["bag"])
    (Ds_law_fair_house : Df K mg "_law_fair_house" s_law_fair_house ["bag"])
    (Ds_law_standing : Df K mg "_law_standing" s_law_standing ["bag", "house", "many"])
    (Ds_law_crowd : Df K mg "_law_crowd" s_law_crowd ["standing"])
    (Ds_law_meet : Df K mg "_law_meet" s_law_meet ["house", "crowd", "floor", "one", "other"])
    (Ds_law_pairs : Df K mg "_law_pairs" s_law_pairs ["crowd"])
    (Ds_law_settled : Df K mg "_law_settled" s_law_settled ["bag", "house", "crowd"])
    (Ds_law_sums : Df K mg "_law_sums" s_law_sums ["standing"])
    {tF tN : Tok} (c_MOST_FLOORS : mg "MOST_FLOORS" = some (.int 4 tF)) (c_MOST_NUMBERS : mg "MOST_NUMBERS" = some (.int 6 tN)) {C M C2 : Addr} (EX : Exn K mg "NoHouse" C M) (EX2 : Exn K mg "NoStanding" C2 M) (g_MeetError : mg "MeetError" = some (.ref M)) :
    ∃ fd : FuncData, (∀ (s : Shared) (u : Value), BindsTo s fd ⟨[u], []⟩ [("script", u)]) ∧ ∀ base : Heap, K.In base → base.Ns mainGlobals mg → RunG P w K mg base 9 fa fd ["script"] (spLaw K) := by
  have e := hfa.symm.trans (PySem.W.mg_of X G a)
  cases e
  refine ⟨PySem.W.fnOf "law" "law" (defArgs s_law) (defBody s_law) (defScope s_law) .none kV doc pm an cdv ct, fun s v => .of_eq rfl, fun base _ _ => ?_⟩
  have c1 := ok_is_whole (P := P) (w := w) (base := base) Ds_is_whole T
  have c2 := ok_is_up_to Ds_is_up_to T c1
  have c3 := ok_is_tuple_of (P := P) (w := w) (base := base) Ds_is_tuple_of T
  have c4 := ok_are_up_to Ds_are_up_to T c3 c2
  have c5 := ok_is_table Ds_is_table T c3 c4
  have c6 := ok_is_house Ds_is_house T c_MOST_FLOORS c_MOST_NUMBERS c3 c5
  have c7 := ok_size Ds_size T EX c6
  have c8 := ok_has_form Ds_has_form T c3 c2 c4
  have c9 := ok_check_standing Ds_check_standing T EX2 c7 c8
  have d1 := ok_coming (P := P) (w := w) (base := base) Ds_coming T
  have d2 := ok_meetings_left Ds_meetings_left T d1
  have d3 := ok_how_long Ds_how_long T c9 d2
  have d4 := ok_who_rests Ds_who_rests T c9 d1
  have d5 := ok_is_still (P := P) (w := w) (base := base) Ds_is_still T
  have d6 := ok_is_rest Ds_is_rest T c9 d5
  have d7 := ok_added (P := P) (w := w) (base := base) Ds_added T
  have d8 := ok_together Ds_together T EX2 c7 c8 d7
  have b1 := ok_law_bag (P := P) (w := w) (base := base) Ds_law_bag T
  have b2 := ok_law_pick (P := P) (w := w) (base := base) Ds_law_pick T
  have b3 := ok_law_table Ds_law_table T b2
  have b4 := ok_law_up Ds_law_up T b2
  have b5 := ok_law_house Ds_law_house T b2 b3 b4
  have b6 := ok_law_fair_house Ds_law_fair_house T b2
  have b7 := ok_law_standing Ds_law_standing T b2
  have b8 := ok_law_crowd (P := P) (w := w) (base := base) Ds_law_crowd T
  have b9 := ok_law_meet (P := P) (w := w) (base := base) Ds_law_meet T
  have e1 := ok_law_pairs (P := P) (w := w) (base := base) Ds_law_pairs T
  have e2 := ok_law_settled Ds_law_settled T b2 e1 b9
  have e3 := ok_law_sums (P := P) (w := w) (base := base) Ds_law_sums T
  exact ok_law (fun_mk l c k) T b1 b2 b5 b6 b7 b8 e2 e3 d3 d4 d6 d8
end Fm
end FFmAll04
open PySem PySem.W PyProof.Rows
set_option maxRecDepth 100000 in
set_option maxHeartbeats 0 in
theorem PySem.Challenge.cw_floormeet_k04_as_many_in_every_order_holds : PySem.Challenge.rw_floormeet_k04_as_many_in_every_order.Holds := by
  w_on; o_law; k_head; (case hw => w_witness2)
  k_fill
  refine Fm.walk_g (l := PySem.Challenge.rw_floormeet_k04_as_many_in_every_order) (n := 63) (k := 9) (x := "script") (sp := Fm.spLaw) rfl (by decide) rfl ⟨rfl, by decide, by decide⟩ (fun w h Y => PySem.W.kIn_of Y) ?F ?S
  case S =>
    exact fun K H a ns hl hS _ => ⟨a, ns, rfl, Nat.le_trans (Nat.succ_le_succ hl) (by decide), hS, fun _ => rfl⟩
  case F =>
    intro w mg fa h KX G hmg
    have n_len : mg "len" = none := by
      refine PySem.W.mg_none_of KX G ?z
      (case z => k_is)
    have n_range : mg "range" = none := by
      refine PySem.W.mg_none_of KX G ?z
      (case z => k_is)
    have n_min : mg "min" = none := by
      refine PySem.W.mg_none_of KX G ?z
      (case z => k_is)
    have n_max : mg "max" = none := by
      refine PySem.W.mg_none_of KX G ?z
      (case z => k_is)
    have n_tuple : mg "tuple" = none := by
      refine PySem.W.mg_none_of KX G ?z
      (case z => k_is)
    have n_list : mg "list" = none := by
      refine PySem.W.mg_none_of KX G ?z
      (case z => k_is)
    have n_isinstance : mg "isinstance" = none := by
      refine PySem.W.mg_none_of KX G ?z
      (case z => k_is)
    have n_repr : mg "repr" = none := by
      refine PySem.W.mg_none_of KX G ?z
      (case z => k_is)
    have n_int : mg "int" = none := by
      refine PySem.W.mg_none_of KX G ?z
      (case z => k_is)
    have n_bool : mg "bool" = none := by
      refine PySem.W.mg_none_of KX G ?z
      (case z => k_is)
    have n_sum : mg "sum" = none := by
      refine PySem.W.mg_none_of KX G ?z
      (case z => k_is)
    have n_str : mg "str" = none := by
      refine PySem.W.mg_none_of KX G ?z
      (case z => k_is)
    have n_enumerate : mg "enumerate" = none := by
      refine PySem.W.mg_none_of KX G ?z
      (case z => k_is)
    have n_zip : mg "zip" = none := by
      refine PySem.W.mg_none_of KX G ?z
      (case z => k_is)
    have T : Fm.Nms mg := ⟨n_len, n_range, n_min, n_max, n_tuple, n_list, n_isinstance, n_repr, n_int, n_bool, n_sum, n_str, n_enumerate, n_zip⟩
    have n_ValueError : mg "ValueError" = none := by
      refine PySem.W.mg_none_of KX G ?z
      (case z => k_is)
    have Ds_is_whole : Fm.DfOf KX mg "is_whole" Fm.s_is_whole ["thing"] := by
      refine' Fm.df_mk KX G ?a ?l ?c ?k (fun _ _ _ _ _ _ us hl => match us, hl with | [_], _ => rfl)
      (case a => k_is); (case l => k_is); (case c => k_is); (case k => k_is)
    have Ds_is_up_to : Fm.DfOf KX mg "is_up_to" Fm.s_is_up_to ["thing", "most"] := by
      refine' Fm.df_mk KX G ?a ?l ?c ?k (fun _ _ _ _ _ _ us hl => match us, hl with | [_, _], _ => rfl)
      (case a => k_is); (case l => k_is); (case c => k_is); (case k => k_is)
    have Ds_is_tuple_of : Fm.DfOf KX mg "is_tuple_of" Fm.s_is_tuple_of ["thing", "many"] := by
      refine' Fm.df_mk KX G ?a ?l ?c ?k (fun _ _ _ _ _ _ us hl => match us, hl with | [_, _], _ => rfl)
      (case a => k_is); (case l => k_is); (case c => k_is); (case k => k_is)
    have Ds_are_up_to : Fm.DfOf KX mg "are_up_to" Fm.s_are_up_to ["thing", "many", "most"] := by
      refine' Fm.df_mk KX G ?a ?l ?c ?k (fun _ _ _ _ _ _ us hl => match us, hl with | [_, _, _], _ => rfl)
      (case a => k_is); (case l => k_is); (case c => k_is); (case k => k_is)
    have Ds_is_house : Fm.DfOf KX mg "is_house" Fm.s_is_house ["thing"] := by
      refine' Fm.df_mk KX G ?a ?l ?c ?k (fun _ _ _ _ _ _ us hl => match us, hl with | [_], _ => rfl)
      (case a => k_is); (case l => k_is); (case c => k_is); (case k => k_is)
    have Ds_is_table : Fm.DfOf KX mg "is_table" Fm.s_is_table ["thing", "m"] := by
      refine' Fm.df_mk KX G ?a ?l ?c ?k (fun _ _ _ _ _ _ us hl => match us, hl with | [_, _], _ => rfl)
      (case a => k_is); (case l => k_is); (case c => k_is); (case k => k_is)
    have Ds_size : Fm.DfOf KX mg "size" Fm.s_size ["house"] := by
      refine' Fm.df_mk KX G ?a ?l ?c ?k (fun _ _ _ _ _ _ us hl => match us, hl with | [_], _ => rfl)
      (case a => k_is); (case l => k_is); (case c => k_is); (case k => k_is)
    have Ds_has_form : Fm.DfOf KX mg "has_form" Fm.s_has_form ["thing", "m", "floors", "most"] := by
      refine' Fm.df_mk KX G ?a ?l ?c ?k (fun _ _ _ _ _ _ us hl => match us, hl with | [_, _, _, _], _ => rfl)
      (case a => k_is); (case l => k_is); (case c => k_is); (case k => k_is)
    have Ds_check_standing : Fm.DfOf KX mg "check_standing" Fm.s_check_standing ["house", "standing"] := by
      refine' Fm.df_mk KX G ?a ?l ?c ?k (fun _ _ _ _ _ _ us hl => match us, hl with | [_, _], _ => rfl)
      (case a => k_is); (case l => k_is); (case c => k_is); (case k => k_is)
    have Ds_is_rest : Fm.DfOf KX mg "is_rest" Fm.s_is_rest ["house", "standing"] := by
      refine' Fm.df_mk KX G ?a ?l ?c ?k (fun _ _ _ _ _ _ us hl => match us, hl with | [_, _], _ => rfl)
      (case a => k_is); (case l => k_is); (case c => k_is); (case k => k_is)
    have Ds_is_still : Fm.DfOf KX mg "is_still" Fm.s_is_still ["standing"] := by
      refine' Fm.df_mk KX G ?a ?l ?c ?k (fun _ _ _ _ _ _ us hl => match us, hl with | [_], _ => rfl)
      (case a => k_is); (case l => k_is); (case c => k_is); (case k => k_is)
    have Ds_how_long : Fm.DfOf KX mg "how_long" Fm.s_how_long ["house", "standing"] := by
      refine' Fm.df_mk KX G ?a ?l ?c ?k (fun _ _ _ _ _ _ us hl => match us, hl with | [_, _], _ => rfl)
      (case a => k_is); (case l => k_is); (case c => k_is); (case k => k_is)
    have Ds_meetings_left : Fm.DfOf KX mg "meetings_left" Fm.s_meetings_left ["standing"] := by
      refine' Fm.df_mk KX G ?a ?l ?c ?k (fun _ _ _ _ _ _ us hl => match us, hl with | [_], _ => rfl)
      (case a => k_is); (case l => k_is); (case c => k_is); (case k => k_is)
    have Ds_who_rests : Fm.DfOf KX mg "who_rests" Fm.s_who_rests ["house", "standing"] := by
      refine' Fm.df_mk KX G ?a ?l ?c ?k (fun _ _ _ _ _ _ us hl => match us, hl with | [_, _], _ => rfl)
      (case a => k_is); (case l => k_is); (case c => k_is); (case k => k_is)
    have Ds_coming : Fm.DfOf KX mg "coming" Fm.s_coming ["standing"] := by
      refine' Fm.df_mk KX G ?a ?l ?c ?k (fun _ _ _ _ _ _ us hl => match us, hl with | [_], _ => rfl)
      (case a => k_is); (case l => k_is); (case c => k_is); (case k => k_is)
    have Ds_together : Fm.DfOf KX mg "together" Fm.s_together ["house", "one", "other"] := by
      refine' Fm.df_mk KX G ?a ?l ?c ?k (fun _ _ _ _ _ _ us hl => match us, hl with | [_, _, _], _ => rfl)
      (case a => k_is); (case l => k_is); (case c => k_is); (case k => k_is)
    have Ds_added : Fm.DfOf KX mg "added" Fm.s_added ["counts", "more"] := by
      refine' Fm.df_mk KX G ?a ?l ?c ?k (fun _ _ _ _ _ _ us hl => match us, hl with | [_, _], _ => rfl)
      (case a => k_is); (case l => k_is); (case c => k_is); (case k => k_is)
    have Ds_law_bag : Fm.DfOf KX mg "_law_bag" Fm.s_law_bag ["cell"] := by
      refine' Fm.df_mk KX G ?a ?l ?c ?k (fun _ _ _ _ _ _ us hl => match us, hl with | [_], _ => rfl)
      (case a => k_is); (case l => k_is); (case c => k_is); (case k => k_is)
    have Ds_law_pick : Fm.DfOf KX mg "_law_pick" Fm.s_law_pick ["bag", "many"] := by
      refine' Fm.df_mk KX G ?a ?l ?c ?k (fun _ _ _ _ _ _ us hl => match us, hl with | [_, _], _ => rfl)
      (case a => k_is); (case l => k_is); (case c => k_is); (case k => k_is)
    have Ds_law_table : Fm.DfOf KX mg "_law_table" Fm.s_law_table ["bag", "m"] := by
      refine' Fm.df_mk KX G ?a ?l ?c ?k (fun _ _ _ _ _ _ us hl => match us, hl with | [_, _], _ => rfl)
      (case a => k_is); (case l => k_is); (case c => k_is); (case k => k_is)
    have Ds_law_up : Fm.DfOf KX mg "_law_up" Fm.s_law_up ["bag", "m", "stay"] := by
      refine' Fm.df_mk KX G ?a ?l ?c ?k (fun _ _ _ _ _ _ us hl => match us, hl with | [_, _, _], _ => rfl)
      (case a => k_is); (case l => k_is); (case c => k_is); (case k => k_is)
    have Ds_law_house : Fm.DfOf KX mg "_law_house" Fm.s_law_house ["bag"] := by
      refine' Fm.df_mk KX G ?a ?l ?c ?k (fun _ _ _ _ _ _ us hl => match us, hl with | [_], _ => rfl)
      (case a => k_is); (case l => k_is); (case c => k_is); (case k => k_is)
    have Ds_law_fair_house : Fm.DfOf KX mg "_law_fair_house" Fm.s_law_fair_house ["bag"] := by
      refine' Fm.df_mk KX G ?a ?l ?c ?k (fun _ _ _ _ _ _ us hl => match us, hl with | [_], _ => rfl)
      (case a => k_is); (case l => k_is); (case c => k_is); (case k => k_is)
    have Ds_law_standing : Fm.DfOf KX mg "_law_standing" Fm.s_law_standing ["bag", "house", "many"] := by
      refine' Fm.df_mk KX G ?a ?l ?c ?k (fun _ _ _ _ _ _ us hl => match us, hl with | [_, _, _], _ => rfl)
      (case a => k_is); (case l => k_is); (case c => k_is); (case k => k_is)
    have Ds_law_crowd : Fm.DfOf KX mg "_law_crowd" Fm.s_law_crowd ["standing"] := by
      refine' Fm.df_mk KX G ?a ?l ?c ?k (fun _ _ _ _ _ _ us hl => match us, hl with | [_], _ => rfl)
      (case a => k_is); (case l => k_is); (case c => k_is); (case k => k_is)
    have Ds_law_meet : Fm.DfOf KX mg "_law_meet" Fm.s_law_meet ["house", "crowd", "floor", "one", "other"] := by
      refine' Fm.df_mk KX G ?a ?l ?c ?k (fun _ _ _ _ _ _ us hl => match us, hl with | [_, _, _, _, _], _ => rfl)
      (case a => k_is); (case l => k_is); (case c => k_is); (case k => k_is)
    have Ds_law_pairs : Fm.DfOf KX mg "_law_pairs" Fm.s_law_pairs ["crowd"] := by
      refine' Fm.df_mk KX G ?a ?l ?c ?k (fun _ _ _ _ _ _ us hl => match us, hl with | [_], _ => rfl)
      (case a => k_is); (case l => k_is); (case c => k_is); (case k => k_is)
    have Ds_law_settled : Fm.DfOf KX mg "_law_settled" Fm.s_law_settled ["bag", "house", "crowd"] := by
      refine' Fm.df_mk KX G ?a ?l ?c ?k (fun _ _ _ _ _ _ us hl => match us, hl with | [_, _, _], _ => rfl)
      (case a => k_is); (case l => k_is); (case c => k_is); (case k => k_is)
    have Ds_law_sums : Fm.DfOf KX mg "_law_sums" Fm.s_law_sums ["standing"] := by
      refine' Fm.df_mk KX G ?a ?l ?c ?k (fun _ _ _ _ _ _ us hl => match us, hl with | [_], _ => rfl)
      (case a => k_is); (case l => k_is); (case c => k_is); (case k => k_is)
    refine' Fm.law_mk KX G hmg ?a ?l ?c ?k T Ds_is_whole Ds_is_up_to Ds_is_tuple_of Ds_are_up_to Ds_is_house Ds_is_table Ds_size Ds_has_form Ds_check_standing Ds_is_rest Ds_is_still Ds_how_long Ds_meetings_left Ds_who_rests Ds_coming Ds_together Ds_added Ds_law_bag Ds_law_pick Ds_law_table Ds_law_up Ds_law_house Ds_law_fair_house Ds_law_standing Ds_law_crowd Ds_law_meet Ds_law_pairs Ds_law_settled Ds_law_sums (PySem.W.mg_of KX G ?mf) (PySem.W.mg_of KX G ?mn) ⟨PySem.W.mg_of KX G ?xg, ?xe, ?xk, ?xb, ?xt, ⟨?c1, ?c2, ?c3, ?c4, ?c5, ?c6, ?c7, ?c8⟩, ?xm⟩ ⟨PySem.W.mg_of KX G ?yg, ?ye, ?yk, ?yb, ?yt, ⟨?d1, ?d2, ?d3, ?d4, ?d5, ?d6, ?d7, ?d8⟩, ?ym⟩ (PySem.W.mg_of KX G ?me)
    (case a => k_is); (case l => k_is); (case c => k_is); (case k => k_is)
    (case mf => k_is); (case mn => k_is); (case me => k_is)
    (case xg => k_is); (case xe => k_exc); (case xk => k_is); (case xb => k_is); (case xt => k_is)
    (case c1 => k_is); (case c2 => k_is); (case c3 => k_is); (case c4 => k_is); (case c5 => k_is); (case c6 => k_is); (case c7 => k_is); (case c8 => k_is)
    (case xm => first | rfl | k_is)
    (case yg => k_is); (case ye => k_exc); (case yk => k_is); (case yb => k_is); (case yt => k_is)
    (case d1 => k_is); (case d2 => k_is); (case d3 => k_is); (case d4 => k_is); (case d5 => k_is); (case d6 => k_is); (case d7 => k_is); (case d8 => k_is)
    (case ym => first | rfl | k_is)
